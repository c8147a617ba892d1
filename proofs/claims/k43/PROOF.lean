import PyProof.Rows.All
import Wide.All
import OpenK.AllK
import Wide.FinOn
import HandS.ForMost
import HandS.Deep
import HandS.DictComp
import HandS.ListItems
import HandS.Wide
import HandS.IsInst
import HandS.Style
import HandS.SetFor
import PyProof.StrOps2
import PyProof.ReprRoads
import PyProof.ListStr
import HandS.TupAny
import PySem.Challenge.RW_stacksamples_k43_forms_beside_the_functi
import HandS.SetTxt0
import HandS.More
import HandS.Strs
import HandS.SetBool
set_option Elab.async false
set_option linter.all false
set_option maxRecDepth 100000
set_option maxHeartbeats 4000000
/-! What the hand layer lacked for these laws: powers of great numbers, a text repeated, list.count of data, repr of data (where nothing that shows itself is under way). -/
namespace FA
open PySem PySem.Spec PyProof.Rows L2

theorem bits_of {i : Int} {n : Nat} (h : i.natAbs < 2 ^ n) (h0 : 0 < n) : Builtin.Int.intBits i ≤ n := by
  have x := PySem.Flt.log2_lt_of h0 h
  unfold Builtin.Int.intBits
  split <;> omega
/-- i ** j, i below a million bits, j at most 100 -/
def CPowW (i j : Int) : Prop := 0 ≤ j ∧ j ≤ 100 ∧ i.natAbs < 2 ^ 1000000
/-- the text of n signs x -/
def exes (n : Nat) : Str := ⟨(List.replicate n 120).toArray⟩
section
variable {X : Cx}
theorem op_powW : OpR X (binaryOp .Pow) (rI CPowW fun i j => .int (i ^ j.toNat)) := opI fun i j _ _ _ _ _ hc q => by
  obtain ⟨h0, h1, h2⟩ := hc
  refine pow_int h0 ?_ q
  have b := bits_of h2 (by decide)
  have e : ((2 : Int) ^ 27) = 134217728 := by decide
  rw [e]
  have c : (Builtin.Int.intBits i : Int) * j ≤ 1000000 * 100 := Int.mul_le_mul (by omega) h1 h0 (by decide)
  omega
/-- 'x' * n -/
theorem op_mul_x : OpR X (binaryOp .Mult) (fun x y H Q => ∃ n : Nat, x = .str "x" ∧ y = .int (n : Int) ∧ 1 ≤ n ∧ n ≤ 4 ∧ Q (.str (exes n)) H) := by
  intro pins s σ H x y v u Q I rx ry h
  obtain ⟨n, rfl, rfl, h1, h2, q⟩ := h
  obtain ⟨t, rfl⟩ := rx
  obtain ⟨t', rfl⟩ := ry
  have hs := sizeLine_eq
  match n, h1, h2, q with
  | 1, _, _, q =>
    refine PySem.P.mul_str (by decide) (fun _ h => ?_) (fun _ h => ?_) ?_
    · exact absurd h (by decide)
    · exact absurd h (by decide)
    · rw [if_neg (by decide), if_pos (by decide)]
      exact ⟨.str "x", H, I, ⟨_, rfl⟩, q⟩
  | 2, _, _, q =>
    refine PySem.P.mul_str (by decide) (fun _ _ => by decide +kernel) (fun _ _ => by decide +kernel) ?_
    rw [if_neg (by decide), if_neg (by decide)]
    exact ⟨by decide +kernel, .str (exes 2), H, I.tok _, ⟨_, rfl⟩, q⟩
  | 3, _, _, q =>
    refine PySem.P.mul_str (by decide) (fun _ _ => by decide +kernel) (fun _ _ => by decide +kernel) ?_
    rw [if_neg (by decide), if_neg (by decide)]
    exact ⟨by decide +kernel, .str (exes 3), H, I.tok _, ⟨_, rfl⟩, q⟩
  | 4, _, _, q =>
    refine PySem.P.mul_str (by decide) (fun _ _ => by decide +kernel) (fun _ _ => by decide +kernel) ?_
    rw [if_neg (by decide), if_neg (by decide)]
    exact ⟨by decide +kernel, .str (exes 4), H, I.tok _, ⟨_, rfl⟩, q⟩
/-- xs.count(y), data of any depth -/
def rCountD (K : PySem.W.Frag) : V → List V → Hp → VK → Prop := fun x xs H Q => ∃ (a : Addr) (y : V) (d : PyData) (ds : List PyData), x = V.ref a ∧ xs = [y] ∧ Dp K H (V.ref a) (.list ds) ∧ Dp K H y d ∧
  SeqAt.shaped (.list ds) = true ∧ SeqAt.shaped d = true ∧ Q (.int (ds.countP (fun z => PyData.eqv z d) : Nat)) H
theorem mt_countD (hu : X.A.units + 65 < cLine) : MtR X "list.count" (rCountD X.K) := by
  intro pins s σ H x xs v us Q I rx rxs h
  obtain ⟨a, y, d, ds, rfl, rfl, hl, hy, sl, sd, q⟩ := h
  cases rx
  obtain ⟨uy, rfl, ry⟩ := rxs.one
  obtain ⟨bs, r1⟩ := Dp.reads I d y uy hy ry
  have lay : PyData.canLayAll0 ds = true := SeqAt.canLay_of_shaped sl
  have room : X.A.units + 1 + min (PyData.depthAll ds) d.depth < cLine := room_in_shaped sd hu
  cases hl with
  | lst hs ha =>
    obtain ⟨its, rv, ⟨⟨cls, dd, data, sls⟩, n, ho, hc, hdn, hdt⟩, hlen⟩ := I.list hs
    simp only at hc hdt
    subst hc hdt
    obtain ⟨as, h4⟩ := Dp.readsAll I ds _ its ha rv
    have hmap : its.map (SeqAt.readOf s.heap) = ds := SeqAt.readsAll_map ds its as lay h4
    refine call_meets PySem.F.slot_list_count ⟨_, ho, rfl⟩ PySem.F.entry_list_count (PySem.F.args_list_count_2 _ _)
      (SeqAt.list_countAt a its.toArray n dd sls uy (fun u => PyData.eqv (SeqAt.readOf s.heap u) d)) ⟨ho, SeqAt.items_eqAt (vs := its.toArray) (show ReadsAll s.heap its.toArray.toList ds as from h4) r1 lay (SeqAt.canLay_of_shaped sd) room, ?_⟩
    have e : its.toArray.toList.countP (fun u => PyData.eqv (SeqAt.readOf s.heap u) d) = ds.countP (fun z => PyData.eqv z d) := by
      rw [← hmap, List.countP_map]
      rfl
    rw [e]
    exact ⟨.int _, H, I.tok _, ⟨s.toks, rfl⟩, q⟩
end

/-! ### data with dicts within -/
def kD : Key → PyData
  | .inl i => .int i
  | .inr x => .str x
mutual
inductive Dd (K : PySem.W.Frag) (H : Hp) : V → PyData → Prop
  | non : Dd K H .non .none
  | bl (b : Bool) : Dd K H (.bl b) (.bool b)
  | int (i : Int) : Dd K H (.int i) (.int i)
  | str (x : Str) : Dd K H (.str x) (.str x)
  | lst {a : Addr} {xs : List V} {ds : List PyData} : H a = some (.lst xs) → DdAll K H xs ds → Dd K H (.ref a) (.list ds)
  | tup {a : Addr} {xs : List V} {ds : List PyData} : H a = some (.tup xs) → DdAll K H xs ds → Dd K H (.ref a) (.tuple ds)
  | dic {a : Addr} {kvs : List (Key × V)} {ds : List PyData} : Rd H a (.dK kvs) → DdAll K H (kvs.map (·.2)) ds → Dd K H (.ref a) (.dict ((kvs.map fun p => kD p.1).zip ds))
inductive DdAll (K : PySem.W.Frag) (H : Hp) : List V → List PyData → Prop
  | nil : DdAll K H [] []
  | cons {v : V} {vs : List V} {d : PyData} {ds : List PyData} : Dd K H v d → DdAll K H vs ds → DdAll K H (v :: vs) (d :: ds)
end
theorem DdAll.length {K : PySem.W.Frag} {H : Hp} : ∀ {vs : List V} {ds : List PyData}, DdAll K H vs ds → vs.length = ds.length
  | _, _, .nil => rfl
  | _, _, .cons _ t => congrArg (· + 1) t.length
/-- where the modules' own dict stands, something stands from the start -/
def SysB (base : Heap) : Prop := ∃ o : Obj, base.get? sysModules = some o
section
variable {X : Cx} {pins : List (Addr × Obj)} {σ : L2.St} {H : Hp} {s : Shared}
theorem key_reads (k : Key) {v : Value} (h : keyIs k v = true) (hp : Heap) : Reads hp v (kD k) [] := by
  rcases keyIs_shape h with ⟨i, t, rfl, rfl⟩ | ⟨x, t, rfl, rfl⟩
  · exact Reads.int i t
  · exact Reads.str x t
theorem pairs_split {P : Program} {w : World} : ∀ {kvs : List (Key × V)} {vs : List (Key × Value)} {es : List DictEntry}, KV kvs vs → Pairs (mixKind P w) es vs →
    Vals (kvs.map (·.2)) (es.map (·.val)) ∧ ∀ h : Heap, ReadsAll h (es.map (·.key)) (kvs.map fun p => kD p.1) []
  | _, _, _, .nil, .nil => ⟨.nil, fun _ => .nil⟩
  | p :: kvs, q :: vs, e :: es, .cons r rt, .cons hk hv ht => by
    obtain ⟨i1, i2⟩ := pairs_split rt ht
    refine ⟨.cons (by show L2.RelV p.2 e.val; rw [hv]; exact r.2) i1, fun hp => ?_⟩
    have a := key_reads p.1 (by rw [r.1]; exact hk) hp
    exact ReadsAll.cons (as := []) (bs := []) a (i2 hp)
theorem not_sys {a : Addr} {u : HO} (I : L2.Inv X pins σ H s) (S : SysB X.base) (e : H a = some u) : sysModules ≠ a := fun z => by
  obtain ⟨o, ho⟩ := S
  have q := (I.bs _ _ ho).2
  rw [z, e] at q
  cases q
mutual
theorem Dd.reads (I : L2.Inv X pins σ H s) (S : SysB X.base) : ∀ (v : V) (d : PyData) (u : Value), Dd X.K H v d → L2.RelV v u → ∃ as, Reads s.heap u d as ∧ sysModules ∉ as
  | _, _, _, .non, r => by cases r; exact ⟨_, Reads.none, by simp⟩
  | _, _, _, .bl b, r => by cases r; exact ⟨_, Reads.bool b, by simp⟩
  | _, _, _, .int i, r => by obtain ⟨t, rfl⟩ := r; exact ⟨_, Reads.int i t, by simp⟩
  | _, _, _, .str x, r => by obtain ⟨t, rfl⟩ := r; exact ⟨_, Reads.str x t, by simp⟩
  | _, _, _, .lst e ha, r => by
    cases r
    obtain ⟨its, rv, ⟨o, n, ho, hc, _, hd⟩, _⟩ := I.list (SqL.of e)
    obtain ⟨as, hr, hn⟩ := DdAll.reads I S _ _ its ha rv
    refine ⟨_, Reads.list ho hc hd hr, ?_⟩
    simp only [List.mem_cons, not_or]
    exact ⟨not_sys I S e, hn⟩
  | _, _, _, .tup e ha, r => by
    cases r
    obtain ⟨its, rv, ⟨o, ho, hc, n, hd⟩, _⟩ := I.tuple (SqT.of e)
    obtain ⟨as, hr, hn⟩ := DdAll.reads I S _ _ its ha rv
    exact ⟨_, Reads.tuple ho hc hd hr, hn⟩
  | _, _, _, @Dd.dic _ _ a kvs ds e ha, r => by
    cases r
    obtain ⟨hz, hs, vs, kv, o, es, ep, ho, hx, hd, hk, hp, hn⟩ := dk_rd I.hok e
    obtain ⟨q1, q2⟩ := pairs_split kv hp
    obtain ⟨bs, hr, hb⟩ := DdAll.reads I S _ _ _ ha q1
    have hl : (kvs.map fun p => kD p.1).length = ds.length := by
      have := ha.length
      simpa using this
    refine ⟨a :: [] ++ bs, Reads.dict ho hx.1 hd (by rw [List.map_fst_zip (Nat.le_of_eq hl)]; exact q2 s.heap) (by rw [List.map_snd_zip (Nat.le_of_eq hl.symm)]; exact hr), ?_⟩
    simp only [List.cons_append, List.nil_append, List.mem_cons, not_or]
    exact ⟨fun z => by rw [z] at hs; simp at hs, hb⟩
theorem DdAll.reads (I : L2.Inv X pins σ H s) (S : SysB X.base) : ∀ (vs : List V) (ds : List PyData) (us : List Value), DdAll X.K H vs ds → Vals vs us → ∃ as, ReadsAll s.heap us ds as ∧ sysModules ∉ as
  | _, _, _, .nil, r => by cases r; exact ⟨_, ReadsAll.nil, by simp⟩
  | _, _, _, .cons h1 h2, r => by
    cases r with
    | cons r1 r2 =>
      obtain ⟨as, q1, n1⟩ := Dd.reads I S _ _ _ h1 r1
      obtain ⟨bs, q2, n2⟩ := DdAll.reads I S _ _ _ h2 r2
      exact ⟨_, ReadsAll.cons q1 q2, by simp [n1, n2]⟩
end
end
section
variable {X : Cx}
/-- repr(x), x a list, a tuple, a dict: where nothing that shows itself is under way -/
def rReprD (K : PySem.W.Frag) : List V → Hp → VK → Prop := fun xs H Q => ∃ (a : Addr) (d : PyData), xs = [.ref a] ∧ Dd K H (.ref a) d ∧ d.showable = true ∧ d.depth ≤ 60 ∧ d.shown.length ≤ sizeLine ∧ Q (.str d.shown) H
theorem call_reprD (S : SysB X.base) (hg : X.A.guards = some []) (hu : X.A.units + 64 < cLine) : CallR X (.builtin "repr") (rReprD X.K) := by
  intro pins s σ H xs us Q I r h
  obtain ⟨a, d, rfl, hd, hs, hdp, hz, q⟩ := h
  obtain ⟨u, rfl, ru⟩ := r.one
  cases ru
  obtain ⟨as, hr, hn⟩ := Dd.reads I S _ _ _ hd rfl
  refine repr_of_reads' hr hs (fun _ => hn) hg (by omega) (fun _ _ e => e) (fun h' t tk hk => ?_) hz
  exact ⟨.str _, H, I.kept hk, ⟨_, rfl⟩, q⟩
end
end FA

set_option Elab.async false
set_option linter.all false
set_option maxRecDepth 100000
set_option maxHeartbeats 4000000
/-! Defs that are called where nothing shows itself (no repr is under way). -/
namespace FA
open PySem PySem.Spec PyProof.Rows L2
/-- the promise of a def that is called where no repr is under way -/
structure FnG (P : Program) (w : World) (K : PySem.W.Frag) (mg : Str → Option Value) (base : Heap) (k : Nat) (f : Addr) (fd : FuncData) (ps : List Str) (sp : Sp) : Prop where
  len : ∀ vs H Q E, sp vs H Q E → vs.length = ps.length
  run : ∀ (A : Around), A.guards = some [] → ∀ (outer : List Env) (s : Shared) (H : Hp) (args : Args) (us : List Value) (vs : List V) (Q : VK) (E : XK), Room k A → Env0 P w K mg base A outer s H → BindsTo s fd args (ps.zip us) →
    Vals vs us → sp vs H Q E → codeAny (model P w) A (.call (.ref f) args) (CR CX0 outer P w H s Q E) s
theorem FnG.mono {P : Program} {w : World} {K : PySem.W.Frag} {mg : Str → Option Value} {base : Heap} {j k : Nat} {f : Addr} {fd : FuncData} {ps : List Str} {sp : Sp} (F : FnG P w K mg base j f fd ps sp) (h : j ≤ k) : FnG P w K mg base k f fd ps sp :=
  ⟨F.len, fun A g outer s H args us vs Q E r => F.run A g outer s H args us vs Q E (r.mono h)⟩
section
variable {P : Program} {w : World} {K : PySem.W.Frag} {mg : Str → Option Value} {base : Heap}
theorem okG {x qual : Str} {st : Stmt} {f : Addr} {fd : FuncData} {N ps : List Str} {k : Nat} {sp : Sp} (F : Fun K x qual st f fd) (S : FnScope N ps (defScope st)) (len : ∀ vs H Q E, sp vs H Q E → vs.length = ps.length)
    (body : ∀ (cdv : Value) (A : Around), A.guards = some [] → ∀ (outer : List Env) (s : Shared) (H : Hp) (vs : List V) (Q : VK) (E : XK), Room k (A.deeper (envOfC qual (defScope st) s.heap.objs.size f cdv)) → sp vs H Q E →
      ∃ t, PSs (cxOf CX0 P w K mg base N qual (defScope st) f cdv A outer s H E).nox (defBody st) t ∧ t { nx := fun _ H' => Q .non H', rt := Q } (start N vs) H) : FnG P w K mg base (k + 1) f fd ps sp := by
  obtain ⟨oc, od, kV, doc, pm, an, cdv, ct, osl, rfl, lk, hcd⟩ := F.ex
  refine ⟨len, fun A g outer s H args us vs Q E hr e0 hb r hsp => ?_⟩
  have kin : K.In s.heap := e0.mod.kin.keeps fun b o e => (e0.bs b o e).1
  have nol : s.heap.NoLimit := e0.mod.nolimit.keeps fun b o e => (e0.bs b o e).1
  have pk : ∀ y ∈ ps.zip us, (defScope st).names.lookup y.1 = some .local ∨ ((defScope st).names.lookup y.1 = some .cell ∧ ((cellsFrom (s.heap.objs.size + 1) (defScope st).names []).lookup y.1).isSome = true) := by
    rintro ⟨n, v⟩ hy
    rcases S.par n (List.of_mem_zip hy).1 with q | q
    · exact .inl q
    · exact .inr ⟨q, PySem.W.cellsFrom_some _ _ _ (.inl q)⟩
  refine codeAny_call_function hr.depth (kin _ _ lk) rfl S.co S.gen rfl (PySem.W.codeRec_of kin hcd) (hb _ _ _ _ (wpAny_newFunctionEnv_cells S.kind pk fun env he s1 x => ?_))
  subst he
  refine ⟨nol.keeps x.toInCall.keep, codeAny_func ?_⟩
  obtain ⟨t, ht, hq⟩ := body cdv A g outer s H vs Q E (hr.deeper _) hsp
  have I := inv_start (CX := CX0) (E := E) S hr.hd e0 (len _ _ _ _ hsp) r x
  refine wpAny_mono (ht.nox.run [] s1 (start N vs) H _ I hq) (fun fl s' hs => ?_) fun e s' hs => hs
  cases fl with
  | ret u =>
    obtain ⟨v, σ', H', J, rv, q⟩ := hs
    exact ⟨v, H', J.os, J.bare, J.base, J.hok, rv, q⟩
  | next =>
    obtain ⟨σ', H', J, q⟩ := hs
    exact ⟨V.non, H', J.os, J.bare, J.base, J.hok, rfl, q⟩
  | brk =>
    obtain ⟨_, _, _, q⟩ := hs
    exact False.elim q
  | cont =>
    obtain ⟨_, _, _, q⟩ := hs
    exact False.elim q
end
section
variable {X : Cx} {k : Nat} {f : Addr} {fd : FuncData} {ps : List Str} {sp : Sp} {x : Str} {p pos : Pos} {e : Expr} {es : List Expr} {t : TA}
theorem pe_callG (F : FnG X.prog X.w X.K X.mg X.base k f fd ps sp) (g : X.A.guards = some []) (hr : Room k X.A) (hg : Gl X x) (hm : X.mg x = some (.ref f)) (hk : PySem.W.keepIn X.K (.ref f) = true) (hb : Binds X.K fd ps []) (ha : PA X (e :: es) t)
    (hdb : (x == ("__debug__" : Str)) = false := by decide) (he : starEach (e :: es) X.env = (false, eval e X.env) :: starEach es X.env := by rfl) (hpl : (backTo pos (starEach es X.env)).any (·.1) = false := by rfl) :
    PE X (.Call (.Name x p) (e :: es) [] pos) (tCall sp [] E0 t) := by
  refine ⟨fun pins s σ H Q I h => wpAny_Call_Name_kw (ld_glob I hg hm ?_ hdb)⟩
  refine PySem.W.callWith_K (h₀ := X.base) I.ok.mod.kin hk (thn (ha.run pos pins s σ H _ I h) fun us s1 hh => ?_) he hpl
  obtain ⟨vs, H1, I1, r, q⟩ := hh
  refine ⟨I1.kIn, ?_⟩
  rw [List.append_nil] at q
  have hl : us.length = ps.length := by rw [← r.length]; exact F.len _ _ _ _ q
  have bb := hb s1 us I1.kIn (by rw [List.append_nil]; exact hl)
  rw [List.append_nil] at bb
  refine wpAny_call (codeAny_mono (F.run X.A g X.stack s1 H1 ⟨us, []⟩ us vs Q E0 hr I1.env0 bb r q) fun r s' hq => ?_)
  cases r with
  | error e => exact False.elim hq
  | ok fl =>
    cases fl with
    | ret u => exact I1.after hq
    | next => exact False.elim hq
    | brk => exact False.elim hq
    | cont => exact False.elim hq
end
end FA

set_option Elab.async false
set_option linter.all false
set_option maxRecDepth 100000
set_option maxHeartbeats 4000000
/-! The law's end for such a def. -/
namespace FA
open PySem PySem.Spec PyProof.Rows L2
/-- the script, known to its object; nothing else -/
noncomputable def hpS (K : PySem.W.Frag) (a : Addr) (vs : List Value) (ns : List Int) : Hp := fun b =>
  if b = a ∧ K.lookup a = none then some (.frz { cls := .type "list", data := .seq vs.toArray } (.lst (ns.map V.int))) else none
section
variable {K : PySem.W.Frag} {a b : Addr} {vs : List Value} {ns : List Int}
theorem hpS_some {o : HO} (h : hpS K a vs ns b = some o) : b = a ∧ K.lookup a = none ∧ o = .frz { cls := .type "list", data := .seq vs.toArray } (.lst (ns.map V.int)) := by
  unfold hpS at h
  split at h
  · rename_i c
    cases h
    exact ⟨c.1, c.2, rfl⟩
  · cases h
theorem hpS_none (h : b ≠ a ∨ K.lookup a ≠ none) : hpS K a vs ns b = none := by
  cases q : hpS K a vs ns b with
  | none => rfl
  | some o =>
    obtain ⟨e1, e2, _⟩ := hpS_some q
    rcases h with h | h
    · exact absurd e1 h
    · exact absurd e2 h
theorem hpS_only : Only (hpS K a vs ns) := fun b => by
  cases q : hpS K a vs ns b with
  | none => exact .inl rfl
  | some o =>
    obtain ⟨_, _, e⟩ := hpS_some q
    exact .inr ⟨_, _, by rw [e]⟩
end
theorem law_callG {P : Program} {w : World} {K : PySem.W.Frag} {mg mb : Str → Option Value} {k : Nat} {fa a : Addr} {fd : FuncData} {x : Str} {sp : Sp} {s₁ : Shared} {vs : List Value} {ns : List Int}
    (KX : K.In s₁.heap) (hns : s₁.heap.Ns mainGlobals mg) (hb : s₁.heap.Ns builtinsNs mb) (hbb : ∀ x : Str, x ≠ "__name__" → mb x = bootBuiltins x) (hlim : s₁.heap.NoLimit) (hg : s₁.gens = #[])
    (hz : ∃ mm, s₁.heap.Ns sysModules mm) (ha : s₁.heap.get? a = some { cls := .type "list", data := .seq vs.toArray }) (hi : IntsAre vs ns) (hl : ns.length ≤ sizeLine) (hr : Room k callerA)
    (F : ∀ base : Heap, SysB base → K.In base → base.Ns mainGlobals mg → FnG P w K mg base k fa fd [x] sp) (hbind : ∀ (s : Shared) (u : Value), BindsTo s fd ⟨[u], []⟩ [(x, u)])
    (hsp : ∀ H : Hp, Only H → SqL K H a (ns.map V.int) → sp [.ref a] H (fun v _ => v = .bl true) fun _ _ _ => False) :
    codeAny (model P w) callerA (.call (.ref fa) ⟨[.ref a], []⟩) (fun r s' => r = .ok (.ret (.bool true)) ∧ OldK s₁.heap s'.heap ∧ s'.os = s₁.os ∧ AllBare s'.gens) s₁ := by
  have rv := vals_ints hi
  have lv := hi.length
  -- a dict of the heap is no list: it is not tracked
  have dictFree : ∀ {b : Addr} {o : Obj} {es : Array DictEntry} {ep : Nat}, s₁.heap.get? b = some o → o.data = .dict es ep → hpS K a vs ns b = none := fun {b o es ep} e d => by
    refine hpS_none (.inl fun z => ?_)
    rw [z, ha] at e
    cases e
    cases d
  have nsB : ∀ {b : Addr} {m : Str → Option Value}, s₁.heap.Ns b m → (hidT s₁.heap (hpS K a vs ns)).Ns b m := by
    rintro b m ⟨o, es, ep, e, d, r⟩
    exact ⟨o, es, ep, hidT_get e (dictFree e d), d, r⟩
  have kB : K.In (hidT s₁.heap (hpS K a vs ns)) := fun b o e => hidT_get (KX b o e) (by
    by_cases z : b = a
    · subst z
      exact hpS_none (.inr (by rw [e]; simp))
    · exact hpS_none (.inl z))
  have md : Mod K mg (hidT s₁.heap (hpS K a vs ns)) := by
    obtain ⟨mc, h1, h2⟩ := hlim
    exact ⟨kB, nsB hns, ⟨mb, nsB hb, hbb⟩, mc, nsB h1, h2⟩
  have ok : HOk P w (hpS K a vs ns) s₁.heap := fun b o e => by
    obtain ⟨rfl, _, rfl⟩ := hpS_some e
    exact ⟨ha, by rw [List.length_map]; exact hl, vs, _, rv, ha⟩
  have sq : SqL K (hpS K a vs ns) a (ns.map V.int) := by
    cases q : K.lookup a with
    | none => exact .inl (.inr ⟨_, if_pos ⟨rfl, q⟩⟩)
    | some o =>
      have e := KX a o q
      rw [ha] at e
      cases e
      exact .inr ⟨_, vs.toArray, _, q, rfl, rfl, rfl, by rw [List.size_toArray, lv]; exact hl, by simpa using rv⟩
  have e0 : Env0 P w K mg (hidT s₁.heap (hpS K a vs ns)) callerA [] s₁ (hpS K a vs ns) := by
    refine ⟨rfl, md, fun b o e => of_hidT e, Nat.le_of_eq (hidT_size _ _), trivial, fun b z => ?_, ok, .of_eq hg⟩
    cases z
  obtain ⟨mm, hz⟩ := hz
  have sB : SysB (hidT s₁.heap (hpS K a vs ns)) := let ⟨o, _, _, e, _⟩ := nsB hz; ⟨o, e⟩
  refine codeAny_mono ((F _ sB kB (nsB hns)).run callerA rfl [] s₁ _ ⟨[.ref a], []⟩ [.ref a] [.ref a] _ _ hr e0 (hbind s₁ (.ref a)) (.cons rfl .nil) (hsp _ hpS_only sq)) fun r s' h => ?_
  cases r with
  | error e => exact False.elim h
  | ok fl =>
    cases fl with
    | next => exact False.elim h
    | brk => exact False.elim h
    | cont => exact False.elim h
    | ret u =>
      obtain ⟨v, H', os, bare, un, ok', r', q⟩ := h
      have q' : v = .bl true := q
      subst q'
      cases r'
      refine ⟨rfl, OldK.of_keep fun b o e => ?_, os, bare⟩
      cases q : hpS K a vs ns b with
      | none => exact un.keep b o e q (by intro z; cases z) (by intro z; cases z)
      | some u =>
        obtain ⟨rfl, _, rfl⟩ := hpS_some q
        obtain ⟨e1, _⟩ := ok b _ q
        obtain ⟨e2, _⟩ := ok' b _ (un.frzs b _ _ q)
        rw [e] at e1
        cases e1
        exact e2
theorem walk_ofG {l : PySem.W.OpenLaw} {n k : Nat} {q : Program} {loose : List Str} {XP : (Str → Option Value) → Heap → Prop} {YP : World → Heap → Prop} {d : DefRec} {K : Params → PySem.W.Frag} {sp : PySem.W.Frag → Sp} {x : Str}
    (hn : l.most = some n) (hn2 : n ≤ sizeLine) (hq : importsNone q = true) (hdf : d.params.defaults = []) (hr : Room k callerA) (hY : ∀ (w : World) (h : Heap), YP w h → (K w.params).In h)
    (F : ∀ (w : World) (mg : Str → Option Value) (fa : Addr) (h : Heap), (K w.params).In h → h.Ns mainGlobals mg → mg d.name = some (.ref fa) →
      ∃ fd : FuncData, (∀ (s : Shared) (u : Value), BindsTo s fd ⟨[u], []⟩ [(x, u)]) ∧ ∀ base : Heap, SysB base → (K w.params).In base → base.Ns mainGlobals mg → FnG l.prog w (K w.params) mg base k fa fd [x] (sp (K w.params)))
    (hsp : ∀ (K : PySem.W.Frag) (H : Hp) (a : Addr) (ns : List Int), ns.length ≤ n → Only H → SqL K H a (ns.map V.int) → sp K [.ref a] H (fun v _ => v = .bl true) fun _ _ _ => False) :
    PySem.W.WalkO q loose XP YP l.row.toRowW d [] (fun f vs => PySem.call f vs) := by
  refine Att.attach_call hn hdf fun w s₀ s₁ mg mb fa o pm cd doc a vs ns G Y ho hd hcd hmg hobj hints hlen hg => ?_
  have KX := hY w _ Y
  obtain ⟨fd, hb, hF⟩ := F w mg fa _ KX G.T.g hmg
  exact law_callG KX G.T.g G.T.b G.T.builtins G.T.nolimit hg (let ⟨mm, h, _⟩ := (G.T.seer hq).mods; ⟨mm, h⟩) hobj hints (Nat.le_trans hlen hn2) hr hF hb fun H hO hS => hsp (K w.params) H a ns hlen hO hS
end FA

set_option Elab.async false
set_option linter.all false
set_option maxRecDepth 100000
/-! Bodies and programs as plain data, and their mathematics. -/
namespace FA
open PySem
/-- an item of a body -/
inductive It where
  | call (x : Str)
  | may (b : List It)
  | loop (b : List It)
  | one (bs : List (List It))
abbrev Bd := List It
mutual
def nC : It → Nat
  | .call _ => 1
  | .may b => nCB b
  | .loop b => nCB b
  | .one bs => nCBs bs
def nCB : List It → Nat
  | [] => 0
  | i :: r => nC i + nCB r
def nCBs : List (List It) → Nat
  | [] => 0
  | b :: r => nCB b + nCBs r
end
mutual
def nI : It → Nat
  | .call _ => 0
  | .may b => nIB b
  | .loop b => nIB b
  | .one bs => nIBs bs
def nIB : List It → Nat
  | [] => 0
  | i :: r => (1 + nI i) + nIB r
def nIBs : List (List It) → Nat
  | [] => 0
  | b :: r => nIB b + nIBs r
end
mutual
/-- how deep an item goes below the body in which it stands; how deep a body is, 1 at least -/
def dI : It → Nat
  | .call _ => 0
  | .may b => dB b
  | .loop b => dB b
  | .one bs => dBs bs
def dB : List It → Nat
  | [] => 1
  | i :: r => max (1 + dI i) (dB r)
def dBs : List (List It) → Nat
  | [] => 0
  | b :: r => max (dB b) (dBs r)
end
mutual
def okI (ns : List Str) : It → Prop
  | .call x => x ∈ ns
  | .may b => b ≠ [] ∧ okB ns b
  | .loop b => b ≠ [] ∧ okB ns b
  | .one bs => 2 ≤ bs.length ∧ bs.length ≤ 4 ∧ bs.countP (fun b => b.isEmpty) ≤ 1 ∧ okBs ns bs
def okB (ns : List Str) : List It → Prop
  | [] => True
  | i :: r => okI ns i ∧ okB ns r
def okBs (ns : List Str) : List (List It) → Prop
  | [] => True
  | b :: r => okB ns b ∧ okBs ns r
end
def minL : List Int → Int
  | [] => 0
  | [x] => x
  | x :: y :: r => min x (minL (y :: r))
mutual
/-- the least number of calls, f telling that of each function -/
def cost (f : Str → Int) : It → Int
  | .call x => f x
  | .may _ => 0
  | .loop _ => 0
  | .one bs => minL (costBs f bs)
def costB (f : Str → Int) : List It → Int
  | [] => 0
  | i :: r => cost f i + costB f r
def costBs (f : Str → Int) : List (List It) → List Int
  | [] => []
  | b :: r => costB f b :: costBs f r
end
theorem costBs_map (f : Str → Int) : ∀ bs : List (List It), costBs f bs = bs.map (costB f)
  | [] => by simp only [costBs, List.map_nil]
  | b :: r => by simp only [costBs, List.map_cons, costBs_map f r]
theorem costB_sum (f : Str → Int) : ∀ b : List It, costB f b = (b.map (cost f)).sum
  | [] => by simp only [costB, List.map_nil, List.sum_nil]
  | i :: r => by simp only [costB, List.map_cons, List.sum_cons, costB_sum f r]
theorem okB_all {ns : List Str} : ∀ {b : List It}, okB ns b ↔ ∀ i ∈ b, okI ns i
  | [] => by simp [okB]
  | i :: r => by simp only [okB, List.forall_mem_cons, okB_all]
theorem okBs_all {ns : List Str} : ∀ {bs : List (List It)}, okBs ns bs ↔ ∀ b ∈ bs, okB ns b
  | [] => by simp [okBs]
  | b :: r => by simp only [okBs, List.forall_mem_cons, okBs_all]
theorem minL_mem : ∀ {l : List Int}, l ≠ [] → minL l ∈ l
  | [x], _ => by simp [minL]
  | x :: y :: r, _ => by
    have ih := minL_mem (l := y :: r) (by simp)
    simp only [minL]
    by_cases h : x ≤ minL (y :: r)
    · rw [Int.min_eq_left h]; simp
    · rw [Int.min_eq_right (by omega)]; exact List.mem_cons_of_mem _ ih
theorem minL_le : ∀ {l : List Int} {y : Int}, y ∈ l → minL l ≤ y
  | [x], y, h => by simp at h; simp [minL, h]
  | x :: z :: r, y, h => by
    simp only [minL]
    rcases List.mem_cons.mp h with rfl | h
    · exact Int.min_le_left _ _
    · exact Int.le_trans (Int.min_le_right _ _) (minL_le h)
theorem minL_unique {l : List Int} {m : Int} (h1 : m ∈ l) (h2 : ∀ y ∈ l, m ≤ y) : m = minL l := by
  have hn : l ≠ [] := List.ne_nil_of_mem h1
  exact Int.le_antisymm (h2 _ (minL_mem hn)) (minL_le h1)
/-! ### costs: not negative, rising with f, and cut alike -/
mutual
theorem cost_nn {f : Str → Int} (hf : ∀ x, 0 ≤ f x) : ∀ i : It, 0 ≤ cost f i
  | .call x => by simp only [cost]; exact hf x
  | .may _ => by simp only [cost]; omega
  | .loop _ => by simp only [cost]; omega
  | .one bs => by
    simp only [cost]
    cases bs with
    | nil => simp [costBs, minL]
    | cons b r =>
      have h := minL_mem (l := costBs f (b :: r)) (by simp [costBs])
      exact costBs_nn hf (b :: r) _ h
theorem costB_nn {f : Str → Int} (hf : ∀ x, 0 ≤ f x) : ∀ b : List It, 0 ≤ costB f b
  | [] => by simp [costB]
  | i :: r => by
    have h1 := cost_nn hf i
    have h2 := costB_nn hf r
    simp only [costB]; omega
theorem costBs_nn {f : Str → Int} (hf : ∀ x, 0 ≤ f x) : ∀ bs : List (List It), ∀ y ∈ costBs f bs, 0 ≤ y
  | [], y, h => by simp [costBs] at h
  | b :: r, y, h => by
    simp only [costBs, List.mem_cons] at h
    rcases h with rfl | h
    · exact costB_nn hf b
    · exact costBs_nn hf r y h
end
/-- two lists, place by place -/
def le2 : List Int → List Int → Prop
  | [], [] => True
  | x :: r, y :: s => x ≤ y ∧ le2 r s
  | _, _ => False
theorem minL_le2 : ∀ {l m : List Int}, le2 l m → minL l ≤ minL m
  | [], [], _ => Int.le_refl _
  | [x], [y], h => h.1
  | x :: x' :: r, y :: y' :: s, h => by
    have ih := minL_le2 (l := x' :: r) (m := y' :: s) h.2
    have h1 := h.1
    simp only [minL]; omega
  | [_], _ :: _ :: _, h => h.2.elim
  | _ :: _ :: _, [_], h => h.2.elim
  | [], _ :: _, h => h.elim
  | _ :: _, [], h => h.elim
mutual
theorem cost_le {f g : Str → Int} (h : ∀ x, f x ≤ g x) : ∀ i : It, cost f i ≤ cost g i
  | .call x => by simp only [cost]; exact h x
  | .may _ => by simp only [cost]; omega
  | .loop _ => by simp only [cost]; omega
  | .one bs => by simp only [cost]; exact minL_le2 (costBs_le h bs)
theorem costB_le {f g : Str → Int} (h : ∀ x, f x ≤ g x) : ∀ b : List It, costB f b ≤ costB g b
  | [] => by simp [costB]
  | i :: r => by
    have h1 := cost_le h i
    have h2 := costB_le h r
    simp only [costB]; omega
theorem costBs_le {f g : Str → Int} (h : ∀ x, f x ≤ g x) : ∀ bs : List (List It), le2 (costBs f bs) (costBs g bs)
  | [] => by simp [costBs, le2]
  | b :: r => by simp only [costBs, le2]; exact ⟨costB_le h b, costBs_le h r⟩
end
/-- cut at c, place by place -/
def cut2 (c : Int) : List Int → List Int → Prop
  | [], [] => True
  | x :: r, y :: s => min c x = min c y ∧ cut2 c r s
  | _, _ => False
theorem minL_cut {c : Int} : ∀ {l m : List Int}, cut2 c l m → min c (minL l) = min c (minL m)
  | [], [], _ => rfl
  | [x], [y], h => h.1
  | x :: x' :: r, y :: y' :: s, h => by
    have ih := minL_cut (l := x' :: r) (m := y' :: s) h.2
    have h1 := h.1
    simp only [minL]; omega
  | [_], _ :: _ :: _, h => h.2.elim
  | _ :: _ :: _, [_], h => h.2.elim
  | [], _ :: _, h => h.elim
  | _ :: _, [], h => h.elim
mutual
theorem cost_cut {c : Int} {f g : Str → Int} (hf : ∀ x, 0 ≤ f x) (hg : ∀ x, 0 ≤ g x) (h : ∀ x, min c (f x) = min c (g x)) : ∀ i : It, min c (cost f i) = min c (cost g i)
  | .call x => by simp only [cost]; exact h x
  | .may _ => by simp only [cost]
  | .loop _ => by simp only [cost]
  | .one bs => by simp only [cost]; exact minL_cut (costBs_cut hf hg h bs)
theorem costB_cut {c : Int} {f g : Str → Int} (hf : ∀ x, 0 ≤ f x) (hg : ∀ x, 0 ≤ g x) (h : ∀ x, min c (f x) = min c (g x)) : ∀ b : List It, min c (costB f b) = min c (costB g b)
  | [] => by simp [costB]
  | i :: r => by
    have h1 := cost_cut hf hg h i
    have h2 := costB_cut hf hg h r
    have a1 := cost_nn hf i
    have a2 := cost_nn hg i
    have a3 := costB_nn hf r
    have a4 := costB_nn hg r
    simp only [costB]; omega
theorem costBs_cut {c : Int} {f g : Str → Int} (hf : ∀ x, 0 ≤ f x) (hg : ∀ x, 0 ≤ g x) (h : ∀ x, min c (f x) = min c (g x)) : ∀ bs : List (List It), cut2 c (costBs f bs) (costBs g bs)
  | [] => by simp [costBs, cut2]
  | b :: r => by simp only [costBs, cut2]; exact ⟨costB_cut hf hg h b, costBs_cut hf hg h r⟩
end
/-! ### programs -/
abbrev Pr := List (Str × Bd)
def bodyOf (p : Pr) (x : Str) : Bd := (p.lookup x).getD []
/-- the round k of the least calls, cut at c -/
def rnd (c : Int) (p : Pr) : Nat → Str → Int
  | 0, _ => c
  | k + 1, x => min c (1 + costB (rnd c p k) (bodyOf p x))
theorem rnd_nn {c : Int} (hc : 0 ≤ c) (p : Pr) : ∀ k x, 0 ≤ rnd c p k x
  | 0, _ => hc
  | k + 1, x => by
    have h := costB_nn (f := rnd c p k) (rnd_nn hc p k) (bodyOf p x)
    simp only [rnd]; omega
theorem rnd_le {c : Int} (p : Pr) : ∀ k x, rnd c p k x ≤ c
  | 0, _ => Int.le_refl _
  | k + 1, x => by simp only [rnd]; exact Int.min_le_left _ _
theorem rnd_cut {c d : Int} (hc : 0 ≤ c) (hcd : c ≤ d) (p : Pr) : ∀ k x, min c (rnd d p k x) = rnd c p k x
  | 0, x => by simp only [rnd]; omega
  | k + 1, x => by
    have h := costB_cut (c := c) (f := rnd d p k) (g := rnd c p k) (rnd_nn (by omega) p k) (rnd_nn hc p k) (fun y => by
      have := rnd_cut hc hcd p k y
      have := rnd_le (c := c) p k y
      omega) (bodyOf p x)
    have a1 := costB_nn (f := rnd d p k) (rnd_nn (by omega) p k) (bodyOf p x)
    have a2 := costB_nn (f := rnd c p k) (rnd_nn hc p k) (bodyOf p x)
    simp only [rnd]; omega
theorem rnd_down {c : Int} (p : Pr) : ∀ k x, rnd c p (k + 1) x ≤ rnd c p k x
  | 0, x => by simp only [rnd]; exact Int.min_le_left _ _
  | k + 1, x => by
    have h := costB_le (f := rnd c p (k + 1)) (g := rnd c p k) (rnd_down p k) (bodyOf p x)
    simp only [rnd] at h ⊢; omega
theorem rnd_downs {c : Int} (p : Pr) (x : Str) : ∀ {j k : Nat}, j ≤ k → rnd c p k x ≤ rnd c p j x
  | j, 0, h => by have : j = 0 := by omega
                  subst this; exact Int.le_refl _
  | j, k + 1, h => by
    by_cases e : j = k + 1
    · rw [e]; exact Int.le_refl _
    · exact Int.le_trans (rnd_down p k x) (rnd_downs p x (by omega))
end FA

set_option Elab.async false
set_option linter.all false
set_option maxRecDepth 100000
set_option maxHeartbeats 4000000
/-! How bodies and programs lie in the heap. -/
namespace FA
open PySem PySem.Spec PyProof.Rows L2
/-- the heap without some addresses -/
def wo (W : List Addr) (H : Hp) : Hp := fun b => if b ∈ W then none else H b
theorem wo_some {W : List Addr} {H : Hp} {b : Addr} {o : HO} : wo W H b = some o ↔ b ∉ W ∧ H b = some o := by
  unfold wo
  by_cases h : b ∈ W
  · simp [h]
  · simp [h]
theorem wo_nil {H : Hp} : wo [] H = H := by funext b; simp [wo]
/-- all but what stands at W is as it was -/
def Sm (W : List Addr) (H H' : Hp) : Prop := ∀ b o, b ∉ W → H b = some o → H' b = some o
theorem Sm.refl (W : List Addr) (H : Hp) : Sm W H H := fun _ _ _ h => h
theorem Sm.trans {W : List Addr} {H H1 H2 : Hp} (a : Sm W H H1) (b : Sm W H1 H2) : Sm W H H2 := fun c o n h => b c o n (a c o n h)
theorem Sm.of_same {W : List Addr} {H H' : Hp} (h : Same H H') : Sm W H H' := fun b o _ e => h b o e
theorem Sm.same {W : List Addr} {H H' : Hp} (h : Sm W H H') : Same (wo W H) (wo W H') := fun b o e => by
  rw [wo_some] at e ⊢
  exact ⟨e.1, h b o e.1 e.2⟩
theorem Sm.nil {H H' : Hp} (h : Sm [] H H') : Same H H' := fun b o e => h b o (by simp) e
theorem Sm.more {W W' : List Addr} {H H' : Hp} (h : Sm W H H') (s : ∀ b ∈ W, b ∈ W') : Sm W' H H' := fun b o n e => h b o (fun z => n (s b z)) e
/-- what is new needs no leave -/
theorem Sm.drop {r : Addr} {W : List Addr} {H H1 H2 : Hp} (h0 : Sm W H H1) (hr : H r = none) (h : Sm (r :: W) H1 H2) : Sm W H H2 := fun b o n e =>
  h b o (by
    simp only [List.mem_cons, not_or]
    exact ⟨ne_of_none e hr, n⟩) (h0 b o n e)
theorem Sm.new {W : List Addr} {H : Hp} {p : Addr} {o : HO} (h : H p = none) : Sm W H (upd H p o) := fun b u _ e => by rw [upd_ne (ne_of_none e h)]; exact e
theorem Sm.at {W : List Addr} {H : Hp} {p : Addr} {o : HO} (h : p ∈ W) : Sm W H (upd H p o) := fun b u n e => by
  rw [upd_ne (fun z => n (by rw [z]; exact h))]; exact e
theorem Sm.none {W : List Addr} {H H' : Hp} {b : Addr} (h : Sm W H H') (n : b ∉ W) (e : H' b = none) : H b = none := by
  cases q : H b with
  | none => rfl
  | some o => rw [h b o n q] at e; cases e
mutual
inductive ItAt (H : Hp) : V → It → Prop
  | call (x : Str) : ItAt H (.str x) (.call x)
  | may {t b : Addr} {vs : List V} {l : List It} : H t = some (.tup [.str "maybe", .ref b]) → H b = some (.lst vs) → ItsAt H vs l → ItAt H (.ref t) (.may l)
  | loop {t b : Addr} {vs : List V} {l : List It} : H t = some (.tup [.str "loop", .ref b]) → H b = some (.lst vs) → ItsAt H vs l → ItAt H (.ref t) (.loop l)
  | one {t b : Addr} {vs : List V} {ls : List (List It)} : H t = some (.tup [.str "one", .ref b]) → H b = some (.lst vs) → BdsAt H vs ls → ItAt H (.ref t) (.one ls)
inductive ItsAt (H : Hp) : List V → List It → Prop
  | nil : ItsAt H [] []
  | cons {v : V} {i : It} {vs : List V} {l : List It} : ItAt H v i → ItsAt H vs l → ItsAt H (v :: vs) (i :: l)
inductive BdsAt (H : Hp) : List V → List (List It) → Prop
  | nil : BdsAt H [] []
  | cons {b : Addr} {vs : List V} {l : List It} {r : List V} {ls : List (List It)} : H b = some (.lst vs) → ItsAt H vs l → BdsAt H r ls → BdsAt H (.ref b :: r) (l :: ls)
end
/-- a body at b -/
def BdAt (H : Hp) (b : Addr) (l : List It) : Prop := ∃ vs, H b = some (.lst vs) ∧ ItsAt H vs l
/-- lists and tuples are kept -/
structure Kp (H H' : Hp) : Prop where
  l : ∀ a xs, H a = some (.lst xs) → H' a = some (.lst xs)
  t : ∀ a xs, H a = some (.tup xs) → H' a = some (.tup xs)
theorem Kp.of {H H' : Hp} (h : Same H H') : Kp H H' := ⟨fun _ _ e => h _ _ e, fun _ _ e => h _ _ e⟩
section
variable {H H' : Hp}
mutual
theorem ItAt.keep (k : Kp H H') : ∀ {v : V} {i : It}, ItAt H v i → ItAt H' v i
  | _, _, .call x => .call x
  | _, _, .may h1 h2 h3 => .may (k.t _ _ h1) (k.l _ _ h2) (ItsAt.keep k h3)
  | _, _, .loop h1 h2 h3 => .loop (k.t _ _ h1) (k.l _ _ h2) (ItsAt.keep k h3)
  | _, _, .one h1 h2 h3 => .one (k.t _ _ h1) (k.l _ _ h2) (BdsAt.keep k h3)
theorem ItsAt.keep (k : Kp H H') : ∀ {vs : List V} {l : List It}, ItsAt H vs l → ItsAt H' vs l
  | _, _, .nil => .nil
  | _, _, .cons h t => .cons (ItAt.keep k h) (ItsAt.keep k t)
theorem BdsAt.keep (k : Kp H H') : ∀ {vs : List V} {l : List (List It)}, BdsAt H vs l → BdsAt H' vs l
  | _, _, .nil => .nil
  | _, _, .cons h h2 t => .cons (k.l _ _ h) (ItsAt.keep k h2) (BdsAt.keep k t)
end
theorem BdAt.keep (k : Kp H H') {b : Addr} {l : List It} (h : BdAt H b l) : BdAt H' b l := let ⟨vs, h1, h2⟩ := h; ⟨vs, k.l _ _ h1, h2.keep k⟩
theorem ItsAt.length : ∀ {vs : List V} {l : List It}, ItsAt H vs l → vs.length = l.length
  | _, _, .nil => rfl
  | _, _, .cons _ t => congrArg (· + 1) t.length
theorem BdsAt.length : ∀ {vs : List V} {l : List (List It)}, BdsAt H vs l → vs.length = l.length
  | _, _, .nil => rfl
  | _, _, .cons _ _ t => congrArg (· + 1) t.length
theorem ItsAt.get : ∀ {vs : List V} {l : List It} {i : Nat} {v : V}, ItsAt H vs l → vs[i]? = some v → ∃ it, l[i]? = some it ∧ ItAt H v it
  | _, _, _, _, .nil, e => by simp at e
  | _, _, 0, _, .cons h _, e => by simp at e; subst e; exact ⟨_, rfl, h⟩
  | _, _, i + 1, _, .cons _ t, e => by
    obtain ⟨it, a, b⟩ := ItsAt.get (i := i) t (by simpa using e)
    exact ⟨it, by simpa using a, b⟩
theorem BdsAt.get : ∀ {vs : List V} {l : List (List It)} {i : Nat} {v : V}, BdsAt H vs l → vs[i]? = some v → ∃ b bd, v = .ref b ∧ l[i]? = some bd ∧ BdAt H b bd
  | _, _, _, _, .nil, e => by simp at e
  | _, _, 0, _, .cons h h2 _, e => by simp at e; subst e; exact ⟨_, _, rfl, rfl, _, h, h2⟩
  | _, _, i + 1, _, .cons _ _ t, e => by
    obtain ⟨b, bd, a, c, d⟩ := BdsAt.get (i := i) t (by simpa using e)
    exact ⟨b, bd, a, by simpa using c, d⟩
theorem ItsAt.append : ∀ {vs ws : List V} {l m : List It}, ItsAt H vs l → ItsAt H ws m → ItsAt H (vs ++ ws) (l ++ m)
  | _, _, _, _, .nil, b => b
  | _, _, _, _, .cons h t, b => .cons h (t.append b)
theorem BdsAt.append : ∀ {vs ws : List V} {l m : List (List It)}, BdsAt H vs l → BdsAt H ws m → BdsAt H (vs ++ ws) (l ++ m)
  | _, _, _, _, .nil, b => b
  | _, _, _, _, .cons h h2 t, b => .cons h h2 (t.append b)
theorem ItsAt.take (n : Nat) : ∀ {vs : List V} {l : List It}, ItsAt H vs l → ItsAt H (vs.take n) (l.take n) := by
  induction n with
  | zero => intro vs l _; simp; exact .nil
  | succ n ih =>
    intro vs l h
    cases h with
    | nil => simp; exact .nil
    | cons h t => simp only [List.take_succ_cons]; exact .cons h (ih t)
theorem BdsAt.take (n : Nat) : ∀ {vs : List V} {l : List (List It)}, BdsAt H vs l → BdsAt H (vs.take n) (l.take n) := by
  induction n with
  | zero => intro vs l _; simp; exact .nil
  | succ n ih =>
    intro vs l h
    cases h with
    | nil => simp; exact .nil
    | cons h h2 t => simp only [List.take_succ_cons]; exact .cons h h2 (ih t)
theorem BdsAt.drop (n : Nat) : ∀ {vs : List V} {l : List (List It)}, BdsAt H vs l → BdsAt H (vs.drop n) (l.drop n) := by
  induction n with
  | zero => intro vs l h; simpa using h
  | succ n ih =>
    intro vs l h
    cases h with
    | nil => simp; exact .nil
    | cons h h2 t => simp only [List.drop_succ_cons]; exact ih t
end
/-- the rows of a program's dict -/
inductive PrKv (H : Hp) : List (Key × V) → Pr → Prop
  | nil : PrKv H [] []
  | cons {x : Str} {b : Addr} {l : List It} {kvs : List (Key × V)} {p : Pr} : BdAt H b l → PrKv H kvs p → PrKv H ((.inr x, .ref b) :: kvs) ((x, l) :: p)
/-- a program at d -/
def PrAt (H : Hp) (d : Addr) (p : Pr) : Prop := ∃ kvs, Rd H d (.dK kvs) ∧ PrKv H kvs p
theorem PrKv.keep {H H' : Hp} (k : Kp H H') : ∀ {kvs : List (Key × V)} {p : Pr}, PrKv H kvs p → PrKv H' kvs p
  | _, _, .nil => .nil
  | _, _, .cons h t => .cons (h.keep k) (t.keep k)
theorem PrKv.length {H : Hp} : ∀ {kvs : List (Key × V)} {p : Pr}, PrKv H kvs p → kvs.length = p.length
  | _, _, .nil => rfl
  | _, _, .cons _ t => congrArg (· + 1) t.length
theorem PrKv.keys {H : Hp} : ∀ {kvs : List (Key × V)} {p : Pr}, PrKv H kvs p → kvs.map (·.1) = p.map fun q => Sum.inr q.1
  | _, _, .nil => rfl
  | _, _, .cons _ t => by simp only [List.map_cons, t.keys]
theorem PrKv.look {H : Hp} {x : Str} : ∀ {kvs : List (Key × V)} {p : Pr}, PrKv H kvs p → (p.lookup x = none ∧ valV kvs (.inr x) = none) ∨ ∃ l b, p.lookup x = some l ∧ valV kvs (.inr x) = some (.ref b) ∧ BdAt H b l
  | _, _, .nil => .inl ⟨rfl, rfl⟩
  | (.inr y, .ref b) :: kvs, (_, l) :: p, .cons h t => by
    by_cases e : x = y
    · subst e
      refine .inr ⟨l, b, by simp [List.lookup], by simp [valV], h⟩
    · have e1 : (x == y) = false := beq_eq_false_iff_ne.mpr e
      have e2 : ¬ (Sum.inr y : Key) = Sum.inr x := fun z => e (Sum.inr.inj z).symm
      rcases t.look (x := x) with ⟨h1, h2⟩ | ⟨l', b', h1, h2, h3⟩
      · refine .inl ⟨by simp [List.lookup, e1, h1], ?_⟩
        unfold valV at h2 ⊢
        rw [List.find?_cons_of_neg (by simpa using e2)]
        exact h2
      · refine .inr ⟨l', b', by simp [List.lookup, e1, h1], ?_, h3⟩
        unfold valV at h2 ⊢
        rw [List.find?_cons_of_neg (by simpa using e2)]
        exact h2
theorem PrAt.look {H : Hp} {d : Addr} {p : Pr} {x : Str} (h : PrAt H d p) : (p.lookup x = none ∧ DGet H d (.str x) none) ∨ ∃ l b, p.lookup x = some l ∧ DGet H d (.str x) (some (.ref b)) ∧ BdAt H b l := by
  obtain ⟨kvs, hd, hk⟩ := h
  rcases hk.look (x := x) with ⟨h1, h2⟩ | ⟨l, b, h1, h2, h3⟩
  · exact .inl ⟨h1, .inl ⟨kvs, .inr x, hd, rfl, h2.symm⟩⟩
  · exact .inr ⟨l, b, h1, .inl ⟨kvs, .inr x, hd, rfl, h2.symm⟩, h3⟩
end FA

set_option Elab.async false
set_option linter.all false
set_option maxRecDepth 100000
set_option maxHeartbeats 4000000
/-! Words for readings: isinstance, dicts under a walk, comprehensions whose element changes nothing that was there. -/
namespace FA
open PySem PySem.Spec PyProof.Rows L2
theorem isi_ty {K : PySem.W.Frag} {H : Hp} {x : V} {m n : String} {b : Bool} {Q : VK} (ht : TyX K H x (.type m)) (q : Q (.bl b) H) (hk : kitB m n = some b := by decide +kernel) : rIsi K [x, .ty n] H Q :=
  ⟨x, .ty n, _, _, b, rfl, .ty n, ht, kit_ty hk, q⟩
theorem ty_str {K : PySem.W.Frag} {H : Hp} (x : Str) : TyX K H (.str x) (.type "str") := .base (.str x)
theorem ty_dict {K : PySem.W.Frag} {H : Hp} {d : Addr} {kvs : List (Key × V)} (h : Rd H d (.dK kvs)) : TyX K H (.ref d) (.type "dict") := by
  rcases h with h | ⟨o, h⟩
  · exact .base (.dK h)
  · exact .fDict h
theorem ty_lst {K : PySem.W.Frag} {H : Hp} {d : Addr} {xs : List V} (h : H d = some (.lst xs)) : TyX K H (.ref d) (.type "list") := .base (.lst h)
theorem ty_tup {K : PySem.W.Frag} {H : Hp} {d : Addr} {xs : List V} (h : H d = some (.tup xs)) : TyX K H (.ref d) (.type "tuple") := .base (.tup h)
section
variable {X : Cx}
/-- len(d), d a dict, also while it is walked -/
theorem call_lenR : CallR X (.builtin "len") (fun xs H Q => ∃ d kvs, xs = [.ref d] ∧ Rd H d (.dK kvs) ∧ Q (.int (kvs.length : Nat)) H) := by
  intro pins s σ H xs us Q I r h
  obtain ⟨d, kvs, rfl, hd, q⟩ := h
  obtain ⟨u, rfl, ru⟩ := r.one
  cases ru
  exact d_len I hd fun t s' I' => ⟨.int kvs.length, H, I', ⟨t, rfl⟩, q⟩
/-- a walk over a dict: it is locked, or it is already -/
theorem pe_lock2 {e : Expr} {t : TE} (h : PE X e t) : PE X e (fun σ H Q => tLockE t σ H Q ∨ t σ H Q) := ⟨fun pins s σ H Q I hq => by
  rcases hq with hq | hq
  · exact (pe_lock h).run pins s σ H Q I hq
  · exact h.run pins s σ H Q I hq⟩
end
theorem same_upd0 {H : Hp} {p : Addr} (h : H p = none) (o : HO) : Same H (upd H p o) := fun b u e => by rw [upd_ne (ne_of_none e h)]; exact e
/-- the reading of such a walk that changes nothing which was there; N tells the value by what stands off d -/
theorem lock2 {t : TE} {σ : L2.St} {H : Hp} {Q : VK} {d : Addr} {kvs : List (Key × V)} (hd : Rd H d (.dK kvs)) (N : V → Hp → Prop) (hN : ∀ v H2 H3, (∀ b, b ≠ d → H3 b = H2 b) → N v H2 → N v H3)
    (body : ∀ (H1 : Hp) (od : Obj) (R : VK), H1 d = some (.frz od (.dK kvs)) → (∀ b, b ≠ d → H1 b = H b) → (∀ v H2, Same H1 H2 → N v H2 → R v H2) → t σ H1 R)
    (q : ∀ v H3, Same H H3 → N v H3 → Q v H3) : tLockE t σ H Q ∨ t σ H Q := by
  rcases hd with hd | ⟨od, hd⟩
  · refine .inl ⟨d, _, hd, trivial, fun od => body _ od _ upd_same (fun b hb => upd_ne hb) fun v H2 sm n => ⟨sm _ _ upd_same, q v _ (fun b o e => ?_) (hN v H2 _ (fun b hb => upd_ne hb) n)⟩⟩
    by_cases hb : b = d
    · subst hb; rw [hd] at e; cases e; exact upd_same
    · rw [upd_ne hb]; exact sm _ _ (by rw [upd_ne hb]; exact e)
  · exact .inr (body H od Q hd (fun _ _ => rfl) fun v H2 sm n => q v H2 sm n)
/-- a list comprehension whose element changes nothing that was there: G tells the j-th item, by the tuples that stand -/
theorem lcS {J : L2.It} {n : Nat} {g : TG} {te : TE} {vs : List Nat} {σ : L2.St} {H1 : Hp} {D : Addr} {Qd : Hp → Prop} (hD : H1 D = none) (hn : n < sizeLine) (Y : Nat → V → Prop) (G : Nat → V → Hp → Prop)
    (go : ∀ i H, Same H1 H → i < n → J.go i H) (stop : ∀ H, Same H1 H → J.stop n H) (yld : ∀ i H x H', Same H1 H → i < n → J.yld i H x H' → H' = H ∧ Y i x)
    (mono : ∀ j v A B, (∀ a xs, A a = some (.tup xs) → B a = some (.tup xs)) → G j v A → G j v B)
    (step : ∀ i x H (R : VK), i < n → Y i x → Same H1 H → (∀ y H', Same H H' → G i y H' → R y H') → g x (wipe σ vs) H fun σ2 H2 => wipe σ2 vs = wipe σ vs ∧ te σ2 H2 R)
    (fin : ∀ H ys, Same H1 H → H D = some (.lst ys) → ys.length = n → (∀ j y, ys[j]? = some y → G j y H) → Qd H) :
    ∃ W : Nat → Nat → Hp → Prop, (∃ m, W 0 m (upd H1 D (.lst []))) ∧ ∀ i m H, W i m H →
      (J.stop i H ∧ Qd H) ∨ (J.go i H ∧ ∃ Nx : Hp → Prop, (∀ H', Nx H' → ∃ m', m' < m ∧ W (i + 1) m' H') ∧ ∀ x H', J.yld i H x H' → g x (wipe σ vs) H' fun σ2 H2 => wipe σ2 vs = wipe σ vs ∧ tYes σ2 H2 fun b H3 =>
        if b = true then te σ2 H3 fun y H4 => ∃ acc, H4 D = some (.lst acc) ∧ acc.length < sizeLine ∧ Nx (upd H4 D (.lst (acc ++ [y]))) else Nx H3) := by
  refine ⟨fun i m H => m = n - i ∧ i ≤ n ∧ Same H1 H ∧ ∃ ys, H D = some (.lst ys) ∧ ys.length = i ∧ ∀ j y, ys[j]? = some y → G j y H, ⟨n, by simp, Nat.zero_le _, fun b o e => ?_, [], upd_same, rfl, by simp⟩, ?_⟩
  · rw [upd_ne (ne_of_none e hD)]; exact e
  · rintro i m H ⟨rfl, hi, sm, ys, hy, hl, hG⟩
    by_cases hlt : i < n
    · refine .inr ⟨go i H sm hlt, fun H' => i + 1 ≤ n ∧ Same H1 H' ∧ ∃ ys, H' D = some (.lst ys) ∧ ys.length = i + 1 ∧ ∀ j y, ys[j]? = some y → G j y H', fun H' h => ⟨n - (i + 1), by omega, rfl, h⟩, fun x H' y => ?_⟩
      obtain ⟨rfl, hY⟩ := yld i H x H' sm hlt y
      have st := step i x H' (fun y H4 => ∃ acc, H4 D = some (.lst acc) ∧ acc.length < sizeLine ∧ (i + 1 ≤ n ∧ Same H1 (upd H4 D (.lst (acc ++ [y]))) ∧ ∃ ys, (upd H4 D (.lst (acc ++ [y]))) D = some (.lst ys) ∧ ys.length = i + 1 ∧ ∀ j y', ys[j]? = some y' → G j y' (upd H4 D (.lst (acc ++ [y]))))) hlt hY sm fun v H4 s4 g4 => ?_
      · exact st
      · have tk : ∀ o a xs, H4 a = some (.tup xs) → (upd H4 D o) a = some (.tup xs) := fun o a xs e => by
          rw [upd_ne]
          · exact e
          · rintro rfl
            rw [s4 _ _ hy] at e
            cases e
        refine ⟨ys, s4 _ _ hy, by omega, hlt, fun b o e => ?_, ys ++ [v], upd_same, by simp [hl], fun j y' hj => ?_⟩
        · rw [upd_ne (ne_of_none e hD)]; exact s4 _ _ (sm _ _ e)
        · by_cases hj2 : j < ys.length
          · rw [List.getElem?_append_left hj2] at hj
            exact mono j y' _ _ (tk _) (mono j y' _ _ (fun a xs e => s4 _ _ e) (hG j y' hj))
          · rw [List.getElem?_append_right (by omega)] at hj
            have e0 : j - ys.length = 0 := by
              rcases Nat.eq_zero_or_pos (j - ys.length) with z | z
              · exact z
              · rw [List.getElem?_eq_none (by simp; omega)] at hj; cases hj
            rw [e0] at hj
            cases hj
            have : j = i := by omega
            subst this
            exact mono _ _ _ _ (tk _) g4
    · have : i = n := by omega
      subst this
      exact .inl ⟨stop H sm, fin H ys sm hy hl hG⟩
theorem valV_out {kvs : List (Key × V)} {k : Key} (h : ∀ q ∈ kvs, q.1 ≠ k) : valV kvs k = none := by
  induction kvs with
  | nil => rfl
  | cons q r ih =>
    rw [valV_neg (h q (by simp))]
    exact ih fun q' hq => h q' (List.mem_cons_of_mem _ hq)
theorem wipe_back {σ : L2.St} {i : Nat} {x : Option V} : wipe ((wipe σ [i]).set i x) [i] = wipe σ [i] := by
  show ((σ.set i none).set i x).set i none = σ.set i none
  rw [List.set_set, List.set_set]
/-- {k: e for k in d}, e changing nothing that was there, its value told by the key -/
theorem dcS {d : Addr} {od : Obj} {kvs : List (Key × V)} {i0 : Nat} {tv : TE} {σ : L2.St} {H1 : Hp} {D : Addr} {Qd : Hp → Prop} (hD : H1 D = none) (hd : H1 d = some (.frz od (.dK kvs))) (hnd : (kvs.map (·.1)).Nodup) (hn : kvs.length < sizeLine) (hi0 : i0 < σ.length) (val : Key → V)
    (step : ∀ (i : Nat) k v H (R : VK), kvs[i]? = some (k, v) → Same H1 H → (∀ H', Same H H' → R (val k) H') → tv ((wipe σ [i0]).set i0 (some (kV k))) H R)
    (fin : ∀ H, Same H1 H → H D = some (.dK (kvs.map fun q => (q.1, val q.1))) → Qd H) :
    ∃ W : Nat → Nat → Hp → Prop, (∃ m, W 0 m (upd H1 D (.dK []))) ∧ ∀ i m H, W i m H →
      ((Itk d od kvs).stop i H ∧ Qd H) ∨ ((Itk d od kvs).go i H ∧ ∃ Nx : Hp → Prop, (∀ H', Nx H' → ∃ m', m' < m ∧ W (i + 1) m' H') ∧ ∀ x H', (Itk d od kvs).yld i H x H' → gName i0 x (wipe σ [i0]) H' fun σ2 H2 => wipe σ2 [i0] = wipe σ [i0] ∧ tYes σ2 H2 fun b H3 =>
        if b = true then tVar i0 σ2 H3 fun y H4 => tv σ2 H4 fun z H5 => ∃ kvs k, y = kV k ∧ H5 D = some (.dK kvs) ∧ kvs.length < sizeLine ∧ Nx (upd H5 D (.dK (putK kvs k z))) else Nx H3) := by
  refine ⟨fun i m H => m = kvs.length - i ∧ i ≤ kvs.length ∧ Same H1 H ∧ H D = some (.dK ((kvs.take i).map fun q => (q.1, val q.1))), ⟨kvs.length, by simp, Nat.zero_le _, same_upd0 hD _, upd_same⟩, ?_⟩
  rintro i m H ⟨rfl, hi, sm, hy⟩
  by_cases hlt : i < kvs.length
  · refine .inr ⟨⟨sm _ _ hd, hlt⟩, fun H' => Same H1 H' ∧ H' D = some (.dK ((kvs.take (i + 1)).map fun q => (q.1, val q.1))), fun H' h => ⟨kvs.length - (i + 1), by omega, rfl, hlt, h⟩, fun x H' y => ?_⟩
    obtain ⟨rfl, k, v, e, rfl⟩ := y
    refine ⟨wipe_back, ?_⟩
    unfold tYes
    dsimp only
    rw [if_pos rfl]
    refine ⟨kV k, ?_, ?_⟩
    · have : i0 < (wipe σ [i0]).length := by rw [wipe_length]; exact hi0
      rw [List.getElem?_set_self this]
    · refine step i k v H' _ e sm fun H5 s5 => ⟨_, k, rfl, s5 _ _ hy, ?_, ?_, ?_⟩
      · rw [List.length_map, List.length_take]; omega
      · intro b o hb
        rw [upd_ne (ne_of_none hb hD)]
        exact s5 _ _ (sm _ _ hb)
      · have ke : kvs[i] = (k, v) := by
          rw [List.getElem?_eq_getElem hlt] at e
          exact Option.some.inj e
        rw [upd_same, putK_new, List.take_add_one, e, List.map_append]
        · rfl
        · refine valV_out fun q hq => ?_
          obtain ⟨q0, hq0, rfl⟩ := List.mem_map.mp hq
          intro z
          obtain ⟨j, hj, ej⟩ := List.mem_take_iff_getElem.mp hq0
          have hj' : j < i := by omega
          have h1 := List.nodup_iff_pairwise_ne.mp hnd
          have h2 := List.pairwise_iff_getElem.mp h1 j i (by rw [List.length_map]; omega) (by rw [List.length_map]; exact hlt) hj'
          rw [List.getElem_map, List.getElem_map, ke] at h2
          exact h2 (by rw [← ej] at z; exact z)
  · have : i = kvs.length := by omega
    subst this
    refine .inl ⟨⟨sm _ _ hd, Nat.le_refl _⟩, fin H sm ?_⟩
    rw [List.take_length] at hy
    exact hy
/-! the walks that are met -/
section
variable {K : PySem.W.Frag} {H1 : Hp} {a : Addr} {xs : List V}
theorem go_l (h : SqL K H1 a xs) : ∀ i H, Same H1 H → i < xs.length → (Itl K a).go i H := fun i H sm hi => ⟨xs, xs[i], sm.seq h, by simp [hi]⟩
theorem stop_l (h : SqL K H1 a xs) : ∀ H, Same H1 H → (Itl K a).stop xs.length H := fun H sm => ⟨xs, sm.seq h, Nat.le_refl _⟩
theorem yld_l (h : SqL K H1 a xs) : ∀ i H x H', Same H1 H → i < xs.length → (Itl K a).yld i H x H' → H' = H ∧ xs[i]? = some x := fun i H x H' sm hi y => ⟨y.1, y.2 xs (sm.seq h)⟩
theorem go_s {z : Str} : ∀ i H, Same H1 H → i < z.cps.size → (Its z).go i H := fun i H _ hi => hi
theorem stop_s {z : Str} : ∀ H, Same H1 H → (Its z).stop z.cps.size H := fun H _ => Nat.le_refl _
theorem yld_s {z : Str} : ∀ i H x H', Same H1 H → i < z.cps.size → (Its z).yld i H x H' → H' = H ∧ ∃ c, z.cps[i]? = some c ∧ x = .str ⟨#[c]⟩ := fun i H x H' _ _ y => y
theorem go_k {d : Addr} {o : Obj} {kvs : List (Key × V)} (h : H1 d = some (.frz o (.dK kvs))) : ∀ i H, Same H1 H → i < kvs.length → (Itk d o kvs).go i H := fun i H sm hi => ⟨sm _ _ h, hi⟩
theorem stop_k {d : Addr} {o : Obj} {kvs : List (Key × V)} (h : H1 d = some (.frz o (.dK kvs))) : ∀ H, Same H1 H → (Itk d o kvs).stop kvs.length H := fun H sm => ⟨sm _ _ h, Nat.le_refl _⟩
theorem yld_k {d : Addr} {o : Obj} {kvs : List (Key × V)} : ∀ i H x H', Same H1 H → i < kvs.length → (Itk d o kvs).yld i H x H' → H' = H ∧ ∃ k v, kvs[i]? = some (k, v) ∧ x = kV k := fun i H x H' _ _ y => y
end
theorem ext_map {α : Type} {ys : List V} {l : List α} {f : α → V} (hl : ys.length = l.length) (h : ∀ (j : Nat) y, ys[j]? = some y → ∃ a, l[j]? = some a ∧ y = f a) : ys = l.map f := by
  refine List.ext_getElem? fun j => ?_
  by_cases hj : j < ys.length
  · obtain ⟨a, e1, e2⟩ := h j ys[j] (List.getElem?_eq_getElem hj)
    rw [List.getElem?_eq_getElem hj, List.getElem?_map, e1, e2]
    rfl
  · rw [List.getElem?_eq_none (by omega), List.getElem?_eq_none (by rw [List.length_map]; omega)]
theorem dpAll_map {K : PySem.W.Frag} {H : Hp} {α : Type} {f : α → PyData} : ∀ {ys : List V} {l : List α}, ys.length = l.length → (∀ (j : Nat) y, ys[j]? = some y → ∃ a, l[j]? = some a ∧ Dp K H y (f a)) → DpAll K H ys (l.map f)
  | [], [], _, _ => .nil
  | [], _ :: _, h, _ => by simp at h
  | _ :: _, [], h, _ => by simp at h
  | y :: ys, a :: l, hl, h => by
    obtain ⟨a', e1, e2⟩ := h 0 y rfl
    cases e1
    exact .cons e2 (dpAll_map (by simpa using hl) fun j y e => h (j + 1) y (by simpa using e))
theorem fn_never {P : Program} {w : World} {K : PySem.W.Frag} {mg : Str → Option Value} {base : Heap} {CX : CXT} {k : Nat} {f : Addr} {fd : FuncData} {ps : List Str} {sp : Sp} (no : ∀ vs H Q E, ¬ sp vs H Q E) : FnOk P w K mg base CX k f fd ps sp :=
  ⟨fun vs H Q E h => absurd h (no vs H Q E), fun A outer s H args us vs Q E _ _ _ _ h => absurd h (no vs H Q E)⟩
section
variable {X : Cx} {K : PySem.W.Frag}
theorem call_len_seqK (hK : X.K = K) : CallR X (.builtin "len") (fun xs H Q => ∃ p ys, xs = [.ref p] ∧ (SqL K H p ys ∨ SqT K H p ys) ∧ Q (.int ys.length) H) := by subst hK; exact call_len_seq
theorem ix_listK (hK : X.K = K) : IxR X (rIxL K) := by subst hK; exact ix_list
theorem ix_tupK (hK : X.K = K) : IxR X (rIxT K) := by subst hK; exact ix_tup
theorem call_isiK1 (hK : X.K = K) : CallR X (.builtin "isinstance") (rIsi K) := by subst hK; exact call_isi
theorem op_neDK (hK : X.K = K) (hu : X.A.units + 64 < cLine) : OpR X (compareOp .NotEq) (rNeD K) := by subst hK; exact op_neD hu
theorem op_eqDK (hK : X.K = K) (hu : X.A.units + 64 < cLine) : OpR X (compareOp .Eq) (rEqD K) := by subst hK; exact op_eqD hu
theorem sl_listK (hK : X.K = K) : SlR X (rSlL K) := by subst hK; exact sl_list
variable {o e : Expr} {es : List Expr} {to : TE} {t : TA} {name : Str} {apos cpos : Pos} {T id : String} {r : V → List V → Hp → VK → Prop}
theorem pe_bmK (hK : X.K = K) (pa : PlainAttrs T) (slot : Slot T name id) (hty : typeOf (.builtin id) = pure (.type "method_descriptor")) (hm : MtR X id r) (ho : PE X o to) (ha : PA X (e :: es) t)
    (hbase : attributeBase o name X.env (eval o X.env) = eval o X.env := by rfl)
    (hfew : ((backTo cpos (starEach (e :: es) X.env)).all (fun x => !x.1) && (backToKw cpos (keywordEach [] X.env)).all (fun x => x.1.isSome) && decide ((e :: es).length + ([] : List Keyword).length + (if ([] : List Keyword).isEmpty then 0 else 1) < 30)) = true := by rfl)
    (hline : (apos.endLine == cpos.line) = true := by rfl) (hs : starEach (e :: es) X.env = (false, eval e X.env) :: starEach es X.env := by rfl) (hplain : (backTo cpos (starEach es X.env)).any (·.1) = false := by rfl) :
    PE X (.Call (.Attribute o name apos) (e :: es) [] cpos) (tBM K T r to t) := by
  subst hK
  exact pe_bm pa slot hty hm ho ha hbase hfew hline hs hplain
end
theorem hu65_of {A : Around} {k : Nat} (hr : Room k A) : A.units + 65 < cLine := by have := hr.un; omega
theorem same_upd {H : Hp} {p : Addr} (h : H p = none) (o : HO) : Same H (upd H p o) := fun b u e => by rw [upd_ne (ne_of_none e h)]; exact e
end FA

set_option Elab.async false
set_option linter.all false
set_option maxRecDepth 100000
set_option maxHeartbeats 4000000
/-! list(text) -/
namespace FA
open PySem PySem.Spec PyProof.Rows L2
theorem vals_of : ∀ {xs : List V} {us : List Value}, xs.length = us.length → (∀ (j : Nat) u, us[j]? = some u → ∃ x, xs[j]? = some x ∧ L2.RelV x u) → Vals xs us
  | [], [], _, _ => .nil
  | [], _ :: _, h, _ => by simp at h
  | _ :: _, [], h, _ => by simp at h
  | x :: xs, u :: us, hl, h => by
    obtain ⟨x', e1, e2⟩ := h 0 u rfl
    cases e1
    exact .cons e2 (vals_of (by simpa using hl) fun j u e => h (j + 1) u (by simpa using e))
section
variable {X : Cx}
theorem call_strL (hc : X.calm = true) : CallR X (.type "list") (fun xs H Q => ∃ z : Str, xs = [.str z] ∧ z.cps.size ≤ sizeLine ∧ ∀ l, H l = none → Q (.ref l) (upd H l (.lst (z.cps.toList.map fun c => V.str ⟨#[c]⟩)))) := by
  intro pins s σ H xs us Q I r h
  obtain ⟨z, rfl, hz, q⟩ := h
  obtain ⟨u, rfl, ru⟩ := r.one
  obtain ⟨t, rfl⟩ := ru
  refine call_list_str (I.ok.hd hc) z t (fun h' tk acc' c' hk e hi => ?_) hz
  have hv : Vals (z.cps.toList.map fun c => V.str ⟨#[c]⟩) acc'.toList := vals_of (by rw [List.length_map, Array.length_toList, Array.length_toList, hi.1]) fun j u hj => by
    rw [Array.getElem?_toList] at hj
    obtain ⟨c, t', h1, rfl⟩ := hi.2 j u hj
    exact ⟨.str ⟨#[c]⟩, by rw [List.getElem?_map, Array.getElem?_toList, h1]; rfl, _, rfl⟩
  refine ⟨.ref s.heap.objs.size, _, I.laid (t' := tk) (o := .lst (z.cps.toList.map fun c => V.str ⟨#[c]⟩)) hk (Nat.le_refl _) ⟨by rw [List.length_map, Array.length_toList]; exact hz, acc'.toList, c', hv, ?_⟩, rfl, q _ (I.hok.fresh (Nat.le_refl _))⟩
  rw [e]
end
end FA

set_option Elab.async false
set_option linter.all false
set_option maxRecDepth 100000
set_option maxHeartbeats 4000000
/-! Bodies and programs as Python's data: for ==, count and repr. -/
namespace FA
open PySem PySem.Spec PyProof.Rows L2
/-- a name: 1 to 8 small letters -/
def okName (x : Str) : Prop := 1 ≤ x.length ∧ x.length ≤ 8 ∧ ∀ c ∈ x.cps.toList, 97 ≤ c ∧ c ≤ 122
theorem okName.strOk {x : Str} (h : okName x) : PyData.strOk x = true := by
  unfold PyData.strOk
  rw [Array.all_eq_true']
  intro c hc
  have := h.2.2 c (by simpa using hc)
  exact decide_eq_true (by omega)
mutual
def dtI : It → PyData
  | .call x => .str x
  | .may b => .tuple [.str "maybe", .list (dtB b)]
  | .loop b => .tuple [.str "loop", .list (dtB b)]
  | .one bs => .tuple [.str "one", .list (dtBs bs)]
def dtB : List It → List PyData
  | [] => []
  | i :: r => dtI i :: dtB r
def dtBs : List (List It) → List PyData
  | [] => []
  | b :: r => .list (dtB b) :: dtBs r
end
section
variable {K : PySem.W.Frag} {H : Hp}
mutual
theorem ItAt.dp : ∀ {v : V} {i : It}, ItAt H v i → Dp K H v (dtI i)
  | _, _, .call x => by simp only [dtI]; exact .str x
  | _, _, .may h1 h2 h3 => by simp only [dtI]; exact .tup (SqT.of h1) (.cons (.str _) (.cons (.lst (SqL.of h2) (ItsAt.dp h3)) .nil))
  | _, _, .loop h1 h2 h3 => by simp only [dtI]; exact .tup (SqT.of h1) (.cons (.str _) (.cons (.lst (SqL.of h2) (ItsAt.dp h3)) .nil))
  | _, _, .one h1 h2 h3 => by simp only [dtI]; exact .tup (SqT.of h1) (.cons (.str _) (.cons (.lst (SqL.of h2) (BdsAt.dp h3)) .nil))
theorem ItsAt.dp : ∀ {vs : List V} {l : List It}, ItsAt H vs l → DpAll K H vs (dtB l)
  | _, _, .nil => by simp only [dtB]; exact .nil
  | _, _, .cons h t => by simp only [dtB]; exact .cons (ItAt.dp h) (ItsAt.dp t)
theorem BdsAt.dp : ∀ {vs : List V} {l : List (List It)}, BdsAt H vs l → DpAll K H vs (dtBs l)
  | _, _, .nil => by simp only [dtBs]; exact .nil
  | _, _, .cons h h2 t => by simp only [dtBs]; exact .cons (.lst (SqL.of h) (ItsAt.dp h2)) (BdsAt.dp t)
end
mutual
theorem ItAt.dd : ∀ {v : V} {i : It}, ItAt H v i → Dd K H v (dtI i)
  | _, _, .call x => by simp only [dtI]; exact .str x
  | _, _, .may h1 h2 h3 => by simp only [dtI]; exact .tup h1 (.cons (.str _) (.cons (.lst h2 (ItsAt.dd h3)) .nil))
  | _, _, .loop h1 h2 h3 => by simp only [dtI]; exact .tup h1 (.cons (.str _) (.cons (.lst h2 (ItsAt.dd h3)) .nil))
  | _, _, .one h1 h2 h3 => by simp only [dtI]; exact .tup h1 (.cons (.str _) (.cons (.lst h2 (BdsAt.dd h3)) .nil))
theorem ItsAt.dd : ∀ {vs : List V} {l : List It}, ItsAt H vs l → DdAll K H vs (dtB l)
  | _, _, .nil => by simp only [dtB]; exact .nil
  | _, _, .cons h t => by simp only [dtB]; exact .cons (ItAt.dd h) (ItsAt.dd t)
theorem BdsAt.dd : ∀ {vs : List V} {l : List (List It)}, BdsAt H vs l → DdAll K H vs (dtBs l)
  | _, _, .nil => by simp only [dtBs]; exact .nil
  | _, _, .cons h h2 t => by simp only [dtBs]; exact .cons (.lst h (ItsAt.dd h2)) (BdsAt.dd t)
end
theorem PrKv.dd : ∀ {kvs : List (Key × V)} {p : Pr}, PrKv H kvs p → DdAll K H (kvs.map (·.2)) (p.map fun q => PyData.list (dtB q.2))
  | _, _, .nil => .nil
  | _, _, .cons h t => by
    obtain ⟨vs, h1, h2⟩ := h
    exact .cons (.lst h1 (ItsAt.dd h2)) t.dd
end
/-- the program as data -/
def dtP (p : Pr) : PyData := .dict (p.map fun q => (.str q.1, .list (dtB q.2)))
theorem PrKv.dt {K : PySem.W.Frag} {H : Hp} {d : Addr} {kvs : List (Key × V)} {p : Pr} (hd : Rd H d (.dK kvs)) (h : PrKv H kvs p) : Dd K H (.ref d) (dtP p) := by
  have q := Dd.dic (K := K) hd h.dd
  have e : ((kvs.map fun p => kD p.1).zip (p.map fun q => PyData.list (dtB q.2))) = p.map fun q => (PyData.str q.1, PyData.list (dtB q.2)) := by
    have e2 : (kvs.map fun p => kD p.1) = p.map fun q => PyData.str q.1 := by
      have := congrArg (List.map kD) h.keys
      rw [List.map_map, List.map_map] at this
      exact this
    rw [e2, List.zip_map']
  rw [e] at q
  exact q
/-! ### sizes -/
mutual
theorem dtI_lay {ns : List Str} (hn : ∀ x ∈ ns, okName x) : ∀ i : It, okI ns i → (dtI i).canLay0 = true
  | .call x, h => by simp only [dtI, PyData.canLay0]; exact (hn x (by simpa [okI] using h)).strOk
  | .may b, h => by
    simp only [okI] at h
    simp only [dtI, PyData.canLay0, PyData.canLayAll0, dtB_lay hn b h.2, Bool.and_true]; decide +kernel
  | .loop b, h => by
    simp only [okI] at h
    simp only [dtI, PyData.canLay0, PyData.canLayAll0, dtB_lay hn b h.2, Bool.and_true]; decide +kernel
  | .one bs, h => by
    simp only [okI] at h
    simp only [dtI, PyData.canLay0, PyData.canLayAll0, dtBs_lay hn bs h.2.2.2, Bool.and_true]; decide +kernel
theorem dtB_lay {ns : List Str} (hn : ∀ x ∈ ns, okName x) : ∀ b : List It, okB ns b → PyData.canLayAll0 (dtB b) = true
  | [], _ => by simp only [dtB, PyData.canLayAll0]
  | i :: r, h => by
    simp only [okB] at h
    simp only [dtB, PyData.canLayAll0, dtI_lay hn i h.1, dtB_lay hn r h.2, Bool.and_true]
theorem dtBs_lay {ns : List Str} (hn : ∀ x ∈ ns, okName x) : ∀ bs : List (List It), okBs ns bs → PyData.canLayAll0 (dtBs bs) = true
  | [], _ => by simp only [dtBs, PyData.canLayAll0]
  | b :: r, h => by
    simp only [okBs] at h
    simp only [dtBs, PyData.canLayAll0, PyData.canLay0, dtB_lay hn b h.1, dtBs_lay hn r h.2, Bool.and_true]
end
mutual
theorem dtI_depth : ∀ i : It, (dtI i).depth ≤ 3 * dI i + 2
  | .call x => by simp only [dtI, PyData.depth]; omega
  | .may b => by
    have := dtB_depth b
    simp only [dtI, PyData.depth, PyData.depthAll, dI]; omega
  | .loop b => by
    have := dtB_depth b
    simp only [dtI, PyData.depth, PyData.depthAll, dI]; omega
  | .one bs => by
    have := dtBs_depth bs
    simp only [dtI, PyData.depth, PyData.depthAll, dI]; omega
theorem dtB_depth : ∀ b : List It, PyData.depthAll (dtB b) + 1 ≤ 3 * dB b
  | [] => by simp only [dtB, PyData.depthAll, dB]; omega
  | i :: r => by
    have h1 := dtI_depth i
    have h2 := dtB_depth r
    simp only [dtB, PyData.depthAll, dB]; omega
theorem dtBs_depth : ∀ bs : List (List It), PyData.depthAll (dtBs bs) ≤ 3 * dBs bs
  | [] => by simp only [dtBs, PyData.depthAll, dBs]; omega
  | b :: r => by
    have h1 := dtB_depth b
    have h2 := dtBs_depth r
    simp only [dtBs, PyData.depthAll, PyData.depth, dBs]; omega
end
mutual
theorem dtI_show : ∀ i : It, (dtI i).showable = true
  | .call x => by simp only [dtI, PyData.showable]
  | .may b => by simp only [dtI, PyData.showable, PyData.showableAll, dtB_show b, Bool.and_true]
  | .loop b => by simp only [dtI, PyData.showable, PyData.showableAll, dtB_show b, Bool.and_true]
  | .one bs => by simp only [dtI, PyData.showable, PyData.showableAll, dtBs_show bs, Bool.and_true]
theorem dtB_show : ∀ b : List It, PyData.showableAll (dtB b) = true
  | [] => by simp only [dtB, PyData.showableAll]
  | i :: r => by simp only [dtB, PyData.showableAll, dtI_show i, dtB_show r, Bool.and_true]
theorem dtBs_show : ∀ bs : List (List It), PyData.showableAll (dtBs bs) = true
  | [] => by simp only [dtBs, PyData.showableAll]
  | b :: r => by simp only [dtBs, PyData.showableAll, PyData.showable, dtB_show b, dtBs_show r, Bool.and_true]
end
theorem okName.short {x : Str} (h : okName x) : (x.cps.toList.all fun c => decide (c < 16 ^ 8)) = true := by
  rw [List.all_eq_true]
  intro c hc
  have := h.2.2 c hc
  exact decide_eq_true (by omega)
mutual
theorem dtI_short {ns : List Str} (hn : ∀ x ∈ ns, okName x) : ∀ i : It, okI ns i → (dtI i).leavesShort 13 = true
  | .call x, h => by simp only [dtI, PyData.leavesShort]; exact (hn x (by simpa [okI] using h)).short
  | .may b, h => by
    simp only [okI] at h
    simp only [dtI, PyData.leavesShort, PyData.leavesShortAll, dtB_short hn b h.2, Bool.and_true]; decide +kernel
  | .loop b, h => by
    simp only [okI] at h
    simp only [dtI, PyData.leavesShort, PyData.leavesShortAll, dtB_short hn b h.2, Bool.and_true]; decide +kernel
  | .one bs, h => by
    simp only [okI] at h
    simp only [dtI, PyData.leavesShort, PyData.leavesShortAll, dtBs_short hn bs h.2.2.2, Bool.and_true]; decide +kernel
theorem dtB_short {ns : List Str} (hn : ∀ x ∈ ns, okName x) : ∀ b : List It, okB ns b → PyData.leavesShortAll 13 (dtB b) = true
  | [], _ => by simp only [dtB, PyData.leavesShortAll]
  | i :: r, h => by
    simp only [okB] at h
    simp only [dtB, PyData.leavesShortAll, dtI_short hn i h.1, dtB_short hn r h.2, Bool.and_true]
theorem dtBs_short {ns : List Str} (hn : ∀ x ∈ ns, okName x) : ∀ bs : List (List It), okBs ns bs → PyData.leavesShortAll 13 (dtBs bs) = true
  | [], _ => by simp only [dtBs, PyData.leavesShortAll]
  | b :: r, h => by
    simp only [okBs] at h
    simp only [dtBs, PyData.leavesShortAll, PyData.leavesShort, dtB_short hn b h.1, dtBs_short hn r h.2, Bool.and_true]
end
mutual
theorem dtI_bulk {ns : List Str} (hn : ∀ x ∈ ns, okName x) : ∀ i : It, okI ns i → (dtI i).bulk ≤ 12 + 32 * nI i
  | .call x, h => by
    have h2 : x.cps.size ≤ 8 := (hn x (by simpa [okI] using h)).2.1
    simp only [dtI, PyData.bulk]; omega
  | .may b, h => by
    simp only [okI] at h
    have h1 := dtB_bulk hn b h.2
    have h2 : ("maybe" : Str).cps.size = 5 := by decide +kernel
    simp only [dtI, PyData.bulk, PyData.bulkAll, nI, h2]; omega
  | .loop b, h => by
    simp only [okI] at h
    have h1 := dtB_bulk hn b h.2
    have h2 : ("loop" : Str).cps.size = 4 := by decide +kernel
    simp only [dtI, PyData.bulk, PyData.bulkAll, nI, h2]; omega
  | .one bs, h => by
    simp only [okI] at h
    have h1 := dtBs_bulk hn bs h.2.2.2
    have h2 : ("one" : Str).cps.size = 3 := by decide +kernel
    have h3 := h.2.1
    simp only [dtI, PyData.bulk, PyData.bulkAll, nI, h2]; omega
theorem dtB_bulk {ns : List Str} (hn : ∀ x ∈ ns, okName x) : ∀ b : List It, okB ns b → PyData.bulkAll (dtB b) ≤ 32 * nIB b
  | [], _ => by simp only [dtB, PyData.bulkAll, nIB]; omega
  | i :: r, h => by
    simp only [okB] at h
    have h1 := dtI_bulk hn i h.1
    have h2 := dtB_bulk hn r h.2
    simp only [dtB, PyData.bulkAll, nIB]; omega
theorem dtBs_bulk {ns : List Str} (hn : ∀ x ∈ ns, okName x) : ∀ bs : List (List It), okBs ns bs → PyData.bulkAll (dtBs bs) ≤ 32 * nIBs bs + bs.length
  | [], _ => by simp only [dtBs, PyData.bulkAll, nIBs]; omega
  | b :: r, h => by
    simp only [okBs] at h
    have h1 := dtB_bulk hn b h.1
    have h2 := dtBs_bulk hn r h.2
    simp only [dtBs, PyData.bulkAll, PyData.bulk, nIBs, List.length_cons]; omega
end
theorem dt_shaped {ds : List PyData} (h : PyData.canLayAll0 ds = true) (h2 : PyData.depthAll ds ≤ 60) : SeqAt.shaped (.list ds) = true := by
  show (PyData.canLay0 (.list ds) && decide (PyData.depth (.list ds) ≤ 64)) = true
  rw [Bool.and_eq_true]
  exact ⟨by simp only [PyData.canLay0]; exact h, decide_eq_true (by simp only [PyData.depth]; omega)⟩
/-- how many of the bodies are empty -/
theorem count_empty : ∀ bs : List (List It), (dtBs bs).countP (fun z => PyData.eqv z (.list [])) = bs.countP (fun b => b.isEmpty)
  | [] => rfl
  | b :: r => by
    have e : PyData.eqv (.list (dtB b)) (.list []) = b.isEmpty := by
      cases b with
      | nil => simp [dtB, PyData.eqv, PyData.eqvAll]
      | cons i r => simp [dtB, PyData.eqv, PyData.eqvAll]
    simp only [dtBs, List.countP_cons, e, count_empty r]
end FA

set_option Elab.async false
set_option linter.all false
set_option maxRecDepth 100000
set_option maxHeartbeats 4000000
/-! What several families of laws share: new objects, statements cut, slices, bodies put together, walks of enumerate and of tuples. -/
namespace FA
open PySem PySem.Spec PyProof.Rows L2
theorem yesT {σ : L2.St} {H : Hp} {Q : Bool → Hp → Prop} (h : Q true H) : tYes σ H Q := h
theorem ix_of {n : Nat} {i : Int} (h0 : 0 ≤ i) (h1 : i < n) : ixN n i = some i.toNat := by
  unfold ixN
  rw [if_pos h0, if_pos h1]
theorem erase_perm {α : Type} {l : List α} {i : Nat} (h : i < l.length) : (l[i] :: l.eraseIdx i).Perm l := by
  rw [List.eraseIdx_eq_take_drop_succ]
  have e : l.take i ++ l[i] :: l.drop (i + 1) = l := by rw [← List.drop_eq_getElem_cons h, List.take_append_drop]
  exact List.perm_middle.symm.trans (List.Perm.of_eq e)
/-- what is new in H' -/
def fr (H H' : Hp) : Hp := fun b => match H b with
  | none => H' b
  | some _ => none
theorem fr_some {H H' : Hp} {b : Addr} {o : HO} : fr H H' b = some o ↔ H b = none ∧ H' b = some o := by
  unfold fr
  cases H b with
  | none => simp
  | some u => simp
theorem none_back {W : List Addr} {H H1 : Hp} {b : Addr} (s : Sm W H H1) (k : ∀ a ∈ W, ∃ o, H1 a = some o) (h : H1 b = none) : H b = none := by
  by_cases hb : b ∈ W
  · obtain ⟨o, e⟩ := k b hb
    rw [e] at h; cases h
  · exact s.none hb h
/-- new behind H1: new behind H, and kept -/
theorem fr_step {W : List Addr} {H H1 H2 H3 : Hp} (s : Sm W H H1) (k : ∀ a ∈ W, ∃ o, H1 a = some o) (s2 : Sm W H2 H3) : Kp (fr H1 H2) (fr H H3) := by
  have key : ∀ a o, fr H1 H2 a = some o → fr H H3 a = some o := fun a o e => by
    rw [fr_some] at e ⊢
    refine ⟨none_back s k e.1, s2 a o (fun z => ?_) e.2⟩
    obtain ⟨u, e2⟩ := k a z
    rw [e2] at e
    cases e.1
  exact ⟨fun a xs e => key _ _ e, fun a xs e => key _ _ e⟩
theorem strs_ne {ls : List Str} {x : Int} {r : List V} (h : (ls.map V.str) = V.int x :: r) : False := by
  cases ls with
  | nil => cases h
  | cons a r => cases h
theorem okB_snoc {ns : List Str} {l : List It} {it : It} (h : okB ns l) (h2 : okI ns it) : okB ns (l ++ [it]) := by
  rw [okB_all] at h ⊢
  intro i hi
  rcases List.mem_append.mp hi with z | z
  · exact h i z
  · simp at z; rw [z]; exact h2
theorem nCB_snoc : ∀ (l : List It) (it : It), nCB (l ++ [it]) = nCB l + nC it
  | [], it => by simp [nCB]
  | i :: r, it => by simp only [List.cons_append, nCB, nCB_snoc r it]; omega
theorem nIB_snoc : ∀ (l : List It) (it : It), nIB (l ++ [it]) = nIB l + (1 + nI it)
  | [], it => by simp [nIB]
  | i :: r, it => by simp only [List.cons_append, nIB, nIB_snoc r it]; omega
theorem dB_snoc : ∀ (l : List It) (it : It), dB (l ++ [it]) = max (dB l) (1 + dI it)
  | [], it => by simp only [List.nil_append, dB]; omega
  | i :: r, it => by simp only [List.cons_append, dB, dB_snoc r it]; omega
theorem split_at {X : Cx} {body : List Stmt} {D0 : Ends} {σ0 : L2.St} {H0 : Hp} (k : Nat) (R : Ends → L2.St → Hp → Prop) (h2 : ∃ u, PSs X (body.drop k) u ∧ ∀ D σ H, R D σ H → u D σ H)
    (h1 : ∀ u, PSs X (body.drop k) u → (∀ D σ H, R D σ H → u D σ H) → ∃ t, PSs X body t ∧ t D0 σ0 H0) : ∃ t, PSs X body t ∧ t D0 σ0 H0 := by
  obtain ⟨u, a, b⟩ := h2
  exact h1 u a b
theorem dp_strs {K : PySem.W.Frag} {H : Hp} : ∀ ls : List Str, DpAll K H (ls.map V.str) (ls.map PyData.str)
  | [] => .nil
  | x :: r => .cons (.str x) (dp_strs r)
theorem strs_shaped {ls : List Str} (h : ∀ x ∈ ls, okName x) : SeqAt.shaped (.list (ls.map PyData.str)) = true := by
  refine dt_shaped ?_ ?_
  · induction ls with
    | nil => rfl
    | cons x r ih =>
      simp only [List.map_cons, PyData.canLayAll0, PyData.canLay0, (h x (by simp)).strOk, Bool.true_and]
      exact ih fun y hy => h y (List.mem_cons_of_mem _ hy)
  · have : ∀ ls : List Str, PyData.depthAll (ls.map PyData.str) = 0 := fun ls => by
      induction ls with
      | nil => rfl
      | cons x r ih => simp only [List.map_cons, PyData.depthAll, PyData.depth, ih]; rfl
    rw [this]; omega
theorem eqv_nil (ds : List PyData) : PyData.eqv (.list ds) (.list []) = ds.isEmpty := by
  cases ds with
  | nil => simp [PyData.eqv, PyData.eqvAll]
  | cons a r => simp [PyData.eqv, PyData.eqvAll]
theorem nCBs_app : ∀ a b : List (List It), nCBs (a ++ b) = nCBs a + nCBs b
  | [], b => by simp [nCBs]
  | x :: r, b => by simp only [List.cons_append, nCBs, nCBs_app r b]; omega
theorem nIBs_app : ∀ a b : List (List It), nIBs (a ++ b) = nIBs a + nIBs b
  | [], b => by simp [nIBs]
  | x :: r, b => by simp only [List.cons_append, nIBs, nIBs_app r b]; omega
theorem dBs_app : ∀ a b : List (List It), dBs (a ++ b) = max (dBs a) (dBs b)
  | [], b => by simp only [List.nil_append, dBs]; omega
  | x :: r, b => by simp only [List.cons_append, dBs, dBs_app r b]; omega
theorem okBs_app {ns : List Str} {a b : List (List It)} : okBs ns (a ++ b) ↔ okBs ns a ∧ okBs ns b := by
  simp only [okBs_all, List.mem_append]
  exact ⟨fun h => ⟨fun x hx => h x (.inl hx), fun x hx => h x (.inr hx)⟩, fun h x hx => hx.elim (h.1 x) (h.2 x)⟩
theorem kp_wo {D : Addr} {H H1 : Hp} : Kp (wo [D] (fr H H1)) (fr H H1) := ⟨fun x xs e => (wo_some.mp e).2, fun x xs e => (wo_some.mp e).2⟩
theorem kp_fr {H H1 : Hp} : Kp (fr H H1) H1 := ⟨fun x xs e => (fr_some.mp e).2, fun x xs e => (fr_some.mp e).2⟩
theorem cut_from {xs : List V} {k : Nat} (h : k ≤ xs.length) : cutV xs (some (k : Int)) none = xs.drop k := by
  unfold cutV
  rw [HT.sIx_nat, HT.sIx_none, Nat.min_eq_left h, List.take_of_length_le (by rw [List.length_drop]; omega)]
theorem cut_to {xs : List V} {k : Nat} (h : k ≤ xs.length) : cutV xs none (some (k : Int)) = xs.take k := by
  unfold cutV
  rw [HT.sIx_nat, HT.sIx_none, Nat.min_eq_left h, List.drop_zero, Nat.sub_zero]
theorem BdAt.toBds {H : Hp} {b : Addr} {l : List It} {vs : List V} {ls : List (List It)} (h : BdAt H b l) (t : BdsAt H vs ls) : BdsAt H (.ref b :: vs) (l :: ls) := let ⟨_, h1, h2⟩ := h; .cons h1 h2 t
theorem strs_perm : ∀ {ys : List V} {ns : List Str}, ys.Perm (ns.map V.str) → ∃ zs : List Str, ys = zs.map V.str ∧ zs.Perm ns := by
  intro ys ns h
  have key : ∀ {a b : List V}, a.Perm b → (∀ v ∈ b, ∃ z, v = V.str z) → (∀ v ∈ a, ∃ z, v = V.str z) := fun p hb v hv => hb v (p.mem_iff.mp hv)
  have h1 := key h (fun v hv => by obtain ⟨z, _, e⟩ := List.mem_map.mp hv; exact ⟨z, e.symm⟩)
  have ex : ∀ l : List V, (∀ v ∈ l, ∃ z, v = V.str z) → ∃ zs : List Str, l = zs.map V.str := by
    intro l
    induction l with
    | nil => exact fun _ => ⟨[], rfl⟩
    | cons v r ih =>
      intro hv
      obtain ⟨z, e⟩ := hv v (by simp)
      obtain ⟨zs, e2⟩ := ih fun u hu => hv u (List.mem_cons_of_mem _ hu)
      exact ⟨z :: zs, by rw [e, e2]; rfl⟩
  obtain ⟨zs, e⟩ := ex ys h1
  subst e
  refine ⟨zs, rfl, ?_⟩
  have inj : ∀ a b : Str, V.str a = V.str b → a = b := fun a b e => V.str.inj e
  let un : V → Str := fun v => match v with | .str z => z | _ => "main"
  have q := h.map un
  rw [List.map_map, List.map_map] at q
  have i1 : (un ∘ V.str) = id := rfl
  rw [i1, List.map_id, List.map_id] at q
  exact q
theorem mem_look : ∀ {p : Pr} {x : Str} {l : Bd}, p.lookup x = some l → (x, l) ∈ p
  | (y, m) :: p, x, l, h => by
    by_cases e : x = y
    · subst e
      simp [List.lookup] at h
      rw [h]; simp
    · have e1 : (x == y) = false := beq_eq_false_iff_ne.mpr e
      simp only [List.lookup, e1] at h
      exact List.mem_cons_of_mem _ (mem_look h)
theorem cut_last (xs : List V) : cutV xs none (some (-1)) = xs.take (xs.length - 1) := by
  have e : HT.sIx xs.length xs.length (some (-1)) = xs.length - 1 := by
    show (if (-1 : Int) < 0 then ((-1 : Int) + (xs.length : Int)).toNat else min (-1 : Int).toNat xs.length) = _
    rw [if_pos (by decide)]
    omega
  unfold cutV
  rw [e, HT.sIx_none, List.drop_zero, Nat.sub_zero]
mutual
theorem okI_more {ns ms : List Str} (s : ∀ x ∈ ns, x ∈ ms) : ∀ i : It, okI ns i → okI ms i
  | .call x, h => by simp only [okI] at h ⊢; exact s x h
  | .may b, h => by simp only [okI] at h ⊢; exact ⟨h.1, okB_more s b h.2⟩
  | .loop b, h => by simp only [okI] at h ⊢; exact ⟨h.1, okB_more s b h.2⟩
  | .one bs, h => by simp only [okI] at h ⊢; exact ⟨h.1, h.2.1, h.2.2.1, okBs_more s bs h.2.2.2⟩
theorem okB_more {ns ms : List Str} (s : ∀ x ∈ ns, x ∈ ms) : ∀ b : List It, okB ns b → okB ms b
  | [], _ => by simp [okB]
  | i :: r, h => by simp only [okB] at h ⊢; exact ⟨okI_more s i h.1, okB_more s r h.2⟩
theorem okBs_more {ns ms : List Str} (s : ∀ x ∈ ns, x ∈ ms) : ∀ bs : List (List It), okBs ns bs → okBs ms bs
  | [], _ => by simp [okBs]
  | b :: r, h => by simp only [okBs] at h ⊢; exact ⟨okB_more s b h.1, okBs_more s r h.2⟩
end
theorem mergeK_nd : ∀ (more kvs : List (Key × V)), ((kvs ++ more).map (·.1)).Nodup → mergeK kvs more = kvs ++ more
  | [], kvs, _ => by simp [mergeK]
  | q :: r, kvs, nd => by
    have e : mergeK kvs (q :: r) = mergeK (putK kvs q.1 q.2) r := rfl
    have hv : valV kvs q.1 = none := valV_out fun u hu z => by
      rw [List.map_append, List.nodup_append] at nd
      exact nd.2.2 u.1 (List.mem_map.mpr ⟨u, hu, rfl⟩) q.1 (by simp) z
    rw [e, putK_new _ hv, mergeK_nd r _ (by rw [List.append_assoc]; exact nd), List.append_assoc]
    rfl
theorem Sm.put {W : List Addr} {H H1 : Hp} {L : Addr} {o : HO} (h : H L = Option.none) (s : Sm W H H1) : Sm W H (upd H1 L o) := fun b u n e => by
  rw [upd_ne (ne_of_none e h)]
  exact s b u n e
theorem kp_off {W : List Addr} {H : Hp} : Kp (wo W H) H := ⟨fun x xs e => (wo_some.mp e).2, fun x xs e => (wo_some.mp e).2⟩
theorem cut_to' (xs : List V) (k : Nat) : cutV xs none (some (k : Int)) = xs.take k := by
  unfold cutV
  rw [HT.sIx_none, HT.sIx_nat, List.drop_zero, Nat.sub_zero]
  by_cases h : k ≤ xs.length
  · rw [Nat.min_eq_left h]
  · rw [Nat.min_eq_right (by omega), List.take_of_length_le (Nat.le_refl _), List.take_of_length_le (by omega)]
theorem Paired.weak {α β : Type} {F G : α → β → Prop} (h : ∀ a b, F a b → G a b) : ∀ {l : List α} {m : List β}, Paired F l m → Paired G l m
  | _, _, .nil => .nil
  | _, _, .cons a t => .cons (h _ _ a) (Paired.weak h t)
theorem paired_mem {α β : Type} {F G : α → β → Prop} : ∀ {l : List α} {m : List β}, Paired F l m → (∀ a ∈ l, ∀ b, F a b → G a b) → Paired G l m
  | _, _, .nil, _ => .nil
  | _, _, .cons a t, h => .cons (h _ (by simp) _ a) (paired_mem t fun x hx b hb => h x (List.mem_cons_of_mem _ hx) b hb)
theorem kp_dk {H : Hp} {d : Addr} {k0 kvs : List (Key × V)} (h : H d = some (.dK k0)) : Kp H (upd H d (.dK kvs)) :=
  ⟨fun b xs e => by rw [upd_ne (by rintro rfl; rw [h] at e; cases e)]; exact e, fun b xs e => by rw [upd_ne (by rintro rfl; rw [h] at e; cases e)]; exact e⟩
theorem str_get {ns : List Str} {j : Nat} {x : V} (h : (ns.map V.str)[j]? = some x) : ∃ y, ns[j]? = some y ∧ x = .str y := by
  rw [List.getElem?_map] at h
  cases e : ns[j]? with
  | none => rw [e] at h; cases h
  | some y => rw [e] at h; cases h; exact ⟨y, rfl, rfl⟩
/-! ### walks of enumerate, of tuples -/
theorem SqT.same {K : PySem.W.Frag} {H H' : Hp} {a : Addr} {xs : List V} (e : Same H H') (h : SqT K H a xs) : SqT K H' a xs := by
  rcases h with (h | ⟨o, h⟩) | h
  · exact .inl (.inl (e _ _ h))
  · exact .inl (.inr ⟨o, e _ _ h⟩)
  · exact .inr h
theorem for_enum {K : PySem.W.Frag} {a : Addr} {xs : List V} {g : TG} {tb : TS} {D : Ends} {σ : L2.St} {H : Hp} (Pv : Nat → L2.St → Hp → Prop) (h0 : Pv 0 σ H) (hl : ∀ i σ H, i ≤ xs.length → Pv i σ H → SqL K H a xs)
    (hs : ∀ i x σ H T, xs[i]? = some x → Pv i σ H → H T = none → g (.ref T) σ (upd H T (.tup [.int (i : Nat), x])) fun σ2 H2 => tb { D with nx := Pv (i + 1), ct := Pv (i + 1), bk := D.nx } σ2 H2) (hd : ∀ σ H, Pv xs.length σ H → D.nx σ H) :
    ∃ W : Nat → Nat → L2.St → Hp → Prop, (∃ m, W 0 m σ H) ∧ ∀ i m σ H, W i m σ H →
      ((Ite K a).stop i H ∧ D.nx σ H) ∨ ((Ite K a).go i H ∧ ∃ N : L2.St → Hp → Prop, (∀ σ' H', N σ' H' → ∃ m', m' < m ∧ W (i + 1) m' σ' H') ∧ ∀ x H', (Ite K a).yld i H x H' → g x σ H' fun σ2 H2 => tb { D with nx := N, ct := N, bk := D.nx } σ2 H2) := by
  refine ⟨fun i m σ H => m = xs.length - i ∧ i ≤ xs.length ∧ Pv i σ H, ⟨xs.length, by simp, Nat.zero_le _, h0⟩, ?_⟩
  rintro i m σ H ⟨rfl, hi, p⟩
  have q := hl i σ H hi p
  by_cases hlt : i < xs.length
  · refine .inr ⟨⟨xs, xs[i], q, by simp [hlt]⟩, Pv (i + 1), fun σ' H' p' => ⟨xs.length - (i + 1), by omega, rfl, hlt, p'⟩, fun x H' y => ?_⟩
    obtain ⟨T, x, rfl, hT, rfl, y⟩ := y
    exact hs i x σ _ T (y xs q) p hT
  · have e : i = xs.length := by omega
    subst e
    exact .inl ⟨⟨xs, q, Nat.le_refl _⟩, hd σ H p⟩
section
variable {K : PySem.W.Frag} {H1 : Hp} {a : Addr} {xs : List V}
theorem go_t (h : SqT K H1 a xs) : ∀ i H, Same H1 H → i < xs.length → (Itt K a).go i H := fun i H sm hi => ⟨xs, xs[i], SqT.same sm h, by simp [hi]⟩
theorem stop_t (h : SqT K H1 a xs) : ∀ H, Same H1 H → (Itt K a).stop xs.length H := fun H sm => ⟨xs, SqT.same sm h, Nat.le_refl _⟩
theorem yld_t (h : SqT K H1 a xs) : ∀ i H x H', Same H1 H → i < xs.length → (Itt K a).yld i H x H' → H' = H ∧ xs[i]? = some x := fun i H x H' sm hi y => ⟨y.1, y.2 xs (SqT.same sm h)⟩
end
section
variable {X : Cx}
/-- 'main' * 2 -/
theorem op_mul_main : OpR X (binaryOp .Mult) (fun x y H Q => x = .str "main" ∧ y = .int 2 ∧ Q (.str "mainmain") H) := by
  intro pins s σ H x y v u Q I rx ry h
  obtain ⟨rfl, rfl, q⟩ := h
  obtain ⟨t, rfl⟩ := rx
  obtain ⟨t', rfl⟩ := ry
  refine PySem.P.mul_str (by decide) (fun _ _ => by decide +kernel) (fun _ _ => by decide +kernel) ?_
  rw [if_neg (by decide), if_neg (by decide)]
  exact ⟨by decide +kernel, .str "mainmain", H, I.tok _, ⟨_, by first | rfl | decide +kernel⟩, q⟩
end
mutual
def nmI : It → List Str
  | .call x => [x]
  | .may b => nmB b
  | .loop b => nmB b
  | .one bs => nmBs bs
def nmB : List It → List Str
  | [] => []
  | i :: r => nmI i ++ nmB r
def nmBs : List (List It) → List Str
  | [] => []
  | b :: r => nmB b ++ nmBs r
end
mutual
theorem nmI_len : ∀ i : It, (nmI i).length = nC i
  | .call x => by simp [nmI, nC]
  | .may b => by simp only [nmI, nC, nmB_len b]
  | .loop b => by simp only [nmI, nC, nmB_len b]
  | .one bs => by simp only [nmI, nC, nmBs_len bs]
theorem nmB_len : ∀ b : List It, (nmB b).length = nCB b
  | [] => by simp [nmB, nCB]
  | i :: r => by simp only [nmB, nCB, List.length_append, nmI_len i, nmB_len r]
theorem nmBs_len : ∀ bs : List (List It), (nmBs bs).length = nCBs bs
  | [] => by simp [nmBs, nCBs]
  | b :: r => by simp only [nmBs, nCBs, List.length_append, nmB_len b, nmBs_len r]
end
mutual
theorem nmI_ok {ns : List Str} : ∀ i : It, okI ns i → ∀ x ∈ nmI i, x ∈ ns
  | .call y, h, x, hx => by simp only [okI] at h; simp only [nmI, List.mem_singleton] at hx; rw [hx]; exact h
  | .may b, h, x, hx => by simp only [okI] at h; simp only [nmI] at hx; exact nmB_ok b h.2 x hx
  | .loop b, h, x, hx => by simp only [okI] at h; simp only [nmI] at hx; exact nmB_ok b h.2 x hx
  | .one bs, h, x, hx => by simp only [okI] at h; simp only [nmI] at hx; exact nmBs_ok bs h.2.2.2 x hx
theorem nmB_ok {ns : List Str} : ∀ b : List It, okB ns b → ∀ x ∈ nmB b, x ∈ ns
  | [], _, x, hx => by simp [nmB] at hx
  | i :: r, h, x, hx => by
    simp only [okB] at h
    simp only [nmB, List.mem_append] at hx
    exact hx.elim (nmI_ok i h.1 x) (nmB_ok r h.2 x)
theorem nmBs_ok {ns : List Str} : ∀ bs : List (List It), okBs ns bs → ∀ x ∈ nmBs bs, x ∈ ns
  | [], _, x, hx => by simp [nmBs] at hx
  | b :: r, h, x, hx => by
    simp only [okBs] at h
    simp only [nmBs, List.mem_append] at hx
    exact hx.elim (nmB_ok b h.1 x) (nmBs_ok r h.2 x)
end
theorem nmB_take {l : List It} {i : Nat} {it : It} (h : l[i]? = some it) : nmB (l.take (i + 1)) = nmB (l.take i) ++ nmI it := by
  have app : ∀ a b : List It, nmB (a ++ b) = nmB a ++ nmB b := fun a b => by
    induction a with
    | nil => simp [nmB]
    | cons x r ih => simp only [List.cons_append, nmB, ih, List.append_assoc]
  rw [List.take_add_one, h, app]
  simp [nmB]
theorem nmBs_take {l : List (List It)} {i : Nat} {b : List It} (h : l[i]? = some b) : nmBs (l.take (i + 1)) = nmBs (l.take i) ++ nmB b := by
  have app : ∀ a b : List (List It), nmBs (a ++ b) = nmBs a ++ nmBs b := fun a b => by
    induction a with
    | nil => simp [nmBs]
    | cons x r ih => simp only [List.cons_append, nmBs, ih, List.append_assoc]
  rw [List.take_add_one, h, app]
  simp [nmBs]
/-- the bodies of an item that is no call -/
def bodies : It → List (List It)
  | .call _ => []
  | .may b => [b]
  | .loop b => [b]
  | .one bs => bs
theorem bodies_nm : ∀ i : It, (∀ x, i ≠ .call x) → nmBs (bodies i) = nmI i
  | .call x, h => absurd rfl (h x)
  | .may b, _ => by simp [bodies, nmBs, nmI]
  | .loop b, _ => by simp [bodies, nmBs, nmI]
  | .one bs, _ => rfl
theorem bodies_ok {ns : List Str} : ∀ i : It, okI ns i → okBs ns (bodies i)
  | .call x, _ => by simp [bodies, okBs]
  | .may b, h => by simp only [okI] at h; simp [bodies, okBs, h.2]
  | .loop b, h => by simp only [okI] at h; simp [bodies, okBs, h.2]
  | .one bs, h => by simp only [okI] at h; exact h.2.2.2
theorem bodies_d : ∀ i : It, dBs (bodies i) ≤ dI i
  | .call x => by simp [bodies, dBs, dI]
  | .may b => by simp only [bodies, dBs, dI]; omega
  | .loop b => by simp only [bodies, dBs, dI]; omega
  | .one bs => by simp only [bodies, dI]; omega
theorem strs_refs {ns : List Str} {b : Addr} {r : List V} (h : (ns.map V.str) = V.ref b :: r) : False := by
  cases ns with
  | nil => cases h
  | cons a r => cases h
theorem okB_take {ns : List Str} {l : Bd} (k : Nat) (h : okB ns l) : okB ns (l.take k) := by
  rw [okB_all] at h ⊢
  exact fun i hi => h i (List.mem_of_mem_take hi)
theorem nCB_take : ∀ (l : Bd) (k : Nat), nCB (l.take k) ≤ nCB l
  | [], k => by simp [nCB]
  | i :: r, 0 => by simp [nCB]
  | i :: r, k + 1 => by have := nCB_take r k; simp only [List.take_succ_cons, nCB]; omega
theorem nIB_take : ∀ (l : Bd) (k : Nat), nIB (l.take k) ≤ nIB l
  | [], k => by simp [nIB]
  | i :: r, 0 => by simp [nIB]
  | i :: r, k + 1 => by have := nIB_take r k; simp only [List.take_succ_cons, nIB]; omega
theorem dB_pos : ∀ b : List It, 1 ≤ dB b
  | [] => by simp [dB]
  | i :: r => by have := dB_pos r; simp only [dB]; omega
theorem dB_take : ∀ (l : Bd) (k : Nat), dB (l.take k) ≤ dB l
  | [], k => by simp [dB]
  | i :: r, 0 => by have := dB_pos (i :: r); simp only [List.take_zero, dB] at this ⊢; omega
  | i :: r, k + 1 => by have := dB_take r k; simp only [List.take_succ_cons, dB]; omega
theorem nCBs_mem : ∀ {bs : List (List It)} {b}, b ∈ bs → nCB b ≤ nCBs bs
  | b' :: r, b, h => by
    rcases List.mem_cons.mp h with rfl | h
    · simp only [nCBs]; omega
    · have := nCBs_mem h; simp only [nCBs]; omega
theorem nIBs_mem : ∀ {bs : List (List It)} {b}, b ∈ bs → nIB b ≤ nIBs bs
  | b' :: r, b, h => by
    rcases List.mem_cons.mp h with rfl | h
    · simp only [nIBs]; omega
    · have := nIBs_mem h; simp only [nIBs]; omega
theorem dBs_mem : ∀ {bs : List (List It)} {b}, b ∈ bs → dB b ≤ dBs bs
  | b' :: r, b, h => by
    rcases List.mem_cons.mp h with rfl | h
    · simp only [dBs]; omega
    · have := dBs_mem h; simp only [dBs]; omega
theorem dB_mem : ∀ {l : List It} {it : It}, it ∈ l → 1 + dI it ≤ dB l
  | i :: r, it, h => by
    simp only [dB]
    rcases List.mem_cons.mp h with rfl | h
    · omega
    · have := dB_mem h; omega
theorem nCB_mem {l : List It} {i : It} (h : i ∈ l) : nC i ≤ nCB l := by
  induction l with
  | nil => cases h
  | cons x r ih =>
    simp only [nCB]
    rcases List.mem_cons.mp h with e | h
    · rw [e]; omega
    · have := ih h; omega
theorem nI_bodies : ∀ i : It, nIBs (bodies i) = nI i
  | .call x => by simp [bodies, nIBs, nI]
  | .may b => by simp [bodies, nIBs, nI]
  | .loop b => by simp [bodies, nIBs, nI]
  | .one bs => by simp only [bodies, nI]
theorem nIB_mem {l : List It} {i : It} (h : i ∈ l) : nI i ≤ nIB l := by
  induction l with
  | nil => cases h
  | cons x r ih =>
    simp only [nIB]
    rcases List.mem_cons.mp h with e | h
    · rw [e]; omega
    · have := ih h; omega
theorem nC_bodies {i : It} (h : ∀ x, i ≠ .call x) : nCBs (bodies i) = nC i := by
  have := congrArg List.length (bodies_nm i h)
  rw [nmBs_len, nmI_len] at this
  exact this
theorem nmBs_pre {bs : List (List It)} (j : Nat) : (nmBs (bs.take j)).length ≤ nCBs bs := by
  have t := List.take_append_drop j bs
  have e : nCBs bs = nCBs (bs.take j) + nCBs (bs.drop j) := by rw [← t, nCBs_app, t]
  rw [nmBs_len]
  omega
theorem nmB_pre (l : List It) (i : Nat) : (nmB (l.take i)).length ≤ nCB l := by
  rw [nmB_len]
  exact nCB_take l i

theorem nIB_len : ∀ l : List It, l.length ≤ nIB l
  | [] => by simp [nIB]
  | i :: r => by have := nIB_len r; simp only [List.length_cons, nIB]; omega
/-- an item by its parts: a call, or a tuple of its kind and a list -/
theorem ItAt.parts {H : Hp} {v : V} {it : It} (h : ItAt H v it) : (∃ x, v = .str x ∧ it = .call x) ∨
    ∃ t k b vs, v = .ref t ∧ H t = some (.tup [.str k, .ref b]) ∧ H b = some (.lst vs) ∧ ((k = "one" ∧ ∃ ls, it = .one ls ∧ BdsAt H vs ls) ∨ (k ≠ ("one" : Str) ∧ ∃ l, (it = .may l ∨ it = .loop l) ∧ ItsAt H vs l)) := by
  cases h with
  | call x => exact .inl ⟨x, rfl, rfl⟩
  | may h1 h2 h3 => exact .inr ⟨_, _, _, _, rfl, h1, h2, .inr ⟨by decide, _, .inl rfl, h3⟩⟩
  | loop h1 h2 h3 => exact .inr ⟨_, _, _, _, rfl, h1, h2, .inr ⟨by decide, _, .inr rfl, h3⟩⟩
  | one h1 h2 h3 => exact .inr ⟨_, _, _, _, rfl, h1, h2, .inl ⟨rfl, _, rfl, h3⟩⟩
/-! ### what is new, but for one list that grows -/
theorem kp_turn {W : List Addr} {f : Addr} {H H1 H2 : Hp} (g : ∀ x ∈ W, ∃ o, H x = some o) (s : Sm W H1 H2) : Kp (wo [f] (fr H H1)) (wo [f] (fr H H2)) := by
  have key : ∀ x o, wo [f] (fr H H1) x = some o → wo [f] (fr H H2) x = some o := fun x o e => by
    rw [wo_some, fr_some] at e ⊢
    refine ⟨e.1, e.2.1, s x o (fun z => ?_) e.2.2⟩
    obtain ⟨u, e2⟩ := g x z
    rw [e2] at e
    cases e.2.1
  exact ⟨fun x xs e => key _ _ e, fun x xs e => key _ _ e⟩
theorem kp_put {f : Addr} {H H2 : Hp} {o : HO} : Kp (wo [f] (fr H H2)) (wo [f] (fr H (upd H2 f o))) := by
  have key : ∀ x u, wo [f] (fr H H2) x = some u → wo [f] (fr H (upd H2 f o)) x = some u := fun x u e => by
    rw [wo_some, fr_some] at e ⊢
    refine ⟨e.1, e.2.1, ?_⟩
    rw [upd_ne (by simpa using e.1)]
    exact e.2.2
  exact ⟨fun x xs e => key _ _ e, fun x xs e => key _ _ e⟩
theorem kp_in {W : List Addr} {f : Addr} {H H1 H2 : Hp} {u : HO} (s : Sm W H H1) (k : ∀ x ∈ W, ∃ o, H1 x = some o) (hf : H1 f = some u) : Kp (fr H1 H2) (wo [f] (fr H H2)) := by
  have key : ∀ x v, fr H1 H2 x = some v → wo [f] (fr H H2) x = some v := fun x v e => by
    rw [fr_some] at e
    have ne : x ≠ f := by
      rintro rfl
      rw [hf] at e
      cases e.1
    rw [wo_some, fr_some]
    exact ⟨by simpa using ne, none_back s k e.1, e.2⟩
  exact ⟨fun x xs e => key _ _ e, fun x xs e => key _ _ e⟩
theorem wof_new {W : List Addr} {f p : Addr} {H H1 H2 : Hp} {u o : HO} (s : Sm W H H1) (k : ∀ x ∈ W, ∃ o, H1 x = some o) (hf : H1 f = some u) (hp : H1 p = none) (h : H2 p = some o) : wo [f] (fr H H2) p = some o := by
  have ne : p ≠ f := by
    rintro rfl
    rw [hf] at hp
    cases hp
  rw [wo_some, fr_some]
  exact ⟨by simpa using ne, none_back s k hp, h⟩
theorem nCB_takeS {l : List It} {i : Nat} {it : It} (h : l[i]? = some it) : nCB (l.take (i + 1)) = nCB (l.take i) + nC it := by
  rw [List.take_add_one, h]
  exact nCB_snoc _ _
theorem nIB_takeS {l : List It} {i : Nat} {it : It} (h : l[i]? = some it) : nIB (l.take (i + 1)) = nIB (l.take i) + (1 + nI it) := by
  rw [List.take_add_one, h]
  exact nIB_snoc _ _
theorem sum_nCB : ∀ bs : List (List It), (bs.map fun b => (nCB b : Int)).sum = nCBs bs
  | [] => rfl
  | b :: r => by have := sum_nCB r; simp only [List.map_cons, List.sum_cons, nCBs]; omega
theorem sum_nIB : ∀ bs : List (List It), (bs.map fun b => (nIB b : Int)).sum = nIBs bs
  | [] => rfl
  | b :: r => by have := sum_nIB r; simp only [List.map_cons, List.sum_cons, nIBs]; omega
theorem dd_strs {K : PySem.W.Frag} {H : Hp} : ∀ ls : List Str, DdAll K H (ls.map V.str) (ls.map PyData.str)
  | [] => .nil
  | x :: r => .cons (.str x) (dd_strs r)
end FA

set_option Elab.async false
set_option linter.all false
set_option maxRecDepth 100000
set_option maxHeartbeats 4000000
/-! The text of the law and the program, by places. -/
namespace K43
open PySem PySem.Spec PyProof.Rows L2 FA
def top (i : Nat) : Stmt := PySem.Challenge.pw_stacksamples_k43_forms_beside_the_functi.main.body.getD i (.Pass ⟨0, 0, 0, 0⟩)
abbrev sBodiesWithin : Stmt := top 1
theorem scBodiesWithin : FnScope ["item"] ["item"] (defScope sBodiesWithin) := ⟨rfl, rfl, rfl, by decide +kernel, rfl, by decide +kernel, by decide +kernel⟩
abbrev sNamesIn : Stmt := top 2
theorem scNamesIn : FnScope ["body", "found", "item", "inner"] ["body"] (defScope sNamesIn) := ⟨rfl, rfl, rfl, by decide +kernel, rfl, by decide +kernel, by decide +kernel⟩
abbrev sIsName : Stmt := top 16
theorem scIsName : FnScope ["value", "letter"] ["value"] (defScope sIsName) := ⟨rfl, rfl, rfl, by decide +kernel, rfl, by decide +kernel, by decide +kernel⟩
abbrev sIsFunction : Stmt := top 17
theorem scIsFunction : FnScope ["program", "value"] ["program", "value"] (defScope sIsFunction) := ⟨rfl, rfl, rfl, by decide +kernel, rfl, by decide +kernel, by decide +kernel⟩
abbrev sChoices : Stmt := top 18
theorem scChoices : FnScope ["item", "kind", "within"] ["item"] (defScope sChoices) := ⟨rfl, rfl, rfl, by decide +kernel, rfl, by decide +kernel, by decide +kernel⟩
abbrev sItemSize : Stmt := top 19
theorem scItemSize : FnScope ["program", "item", "level", "choices", "sizes", "body", "calls", "_", "items"] ["program", "item", "level"] (defScope sItemSize) := ⟨rfl, rfl, rfl, by decide +kernel, rfl, by decide +kernel, by decide +kernel⟩
abbrev sBodySize : Stmt := top 20
theorem scBodySize : FnScope ["program", "body", "level", "calls", "items", "item", "size"] ["program", "body", "level"] (defScope sBodySize) := ⟨rfl, rfl, rfl, by decide +kernel, rfl, by decide +kernel, by decide +kernel⟩
abbrev sLeastInItem : Stmt := top 21
theorem scLeastInItem : FnScope ["least", "item", "body"] ["least", "item"] (defScope sLeastInItem) := ⟨rfl, rfl, rfl, by decide +kernel, rfl, by decide +kernel, by decide +kernel⟩
abbrev sLeastInBody : Stmt := top 22
theorem scLeastInBody : FnScope ["least", "body", "item"] ["least", "body"] (defScope sLeastInBody) := ⟨rfl, rfl, rfl, by decide +kernel, rfl, by decide +kernel, by decide +kernel⟩
abbrev sLeastCalls : Stmt := top 23
theorem scLeastCalls : FnScope ["program", "too_many", "least", "_", "name"] ["program"] (defScope sLeastCalls) := ⟨rfl, rfl, rfl, by decide +kernel, rfl, by decide +kernel, by decide +kernel⟩
abbrev sIsProgram : Stmt := top 24
theorem scIsProgram : FnScope ["value", "least", "name"] ["value"] (defScope sIsProgram) := ⟨rfl, rfl, rfl, by decide +kernel, rfl, by decide +kernel, by decide +kernel⟩
abbrev sCheckProgram : Stmt := top 25
theorem scCheckProgram : FnScope ["program"] ["program"] (defScope sCheckProgram) := ⟨rfl, rfl, rfl, by decide +kernel, rfl, by decide +kernel, by decide +kernel⟩
abbrev sCheckName : Stmt := top 26
theorem scCheckName : FnScope ["program", "name"] ["program", "name"] (defScope sCheckName) := ⟨rfl, rfl, rfl, by decide +kernel, rfl, by decide +kernel, by decide +kernel⟩
abbrev sCallees : Stmt := top 27
theorem scCallees : FnScope ["program", "name"] ["program", "name"] (defScope sCallees) := ⟨rfl, rfl, rfl, by decide +kernel, rfl, by decide +kernel, by decide +kernel⟩
abbrev sReached : Stmt := top 28
theorem scReached : FnScope ["program", "found", "waiting", "caller", "name"] ["program"] (defScope sReached) := ⟨rfl, rfl, rfl, by decide +kernel, rfl, by decide +kernel, by decide +kernel⟩
abbrev sIsAtomWithin : Stmt := top 30
theorem scIsAtomWithin : FnScope ["atom", "other", "names", "name"] ["atom", "other"] (defScope sIsAtomWithin) := ⟨rfl, rfl, rfl, by decide +kernel, rfl, by decide +kernel, by decide +kernel⟩
abbrev sIsProductWithin : Stmt := top 31
theorem scIsProductWithin : FnScope ["product", "other", "taken", "atom", "most"] ["product", "other"] (defScope sIsProductWithin) := ⟨rfl, rfl, rfl, by decide +kernel, rfl, by decide +kernel, by decide +kernel⟩
abbrev sIsProductIn : Stmt := top 32
theorem scIsProductIn : FnScope ["products", "product", "other"] ["products", "product"] (defScope sIsProductIn) := ⟨rfl, rfl, rfl, by decide +kernel, rfl, by decide +kernel, by decide +kernel⟩
abbrev sProductText : Stmt := top 33
theorem scProductText : FnScope ["product", "atoms", "atom"] ["product"] (defScope sProductText) := ⟨rfl, rfl, rfl, by decide +kernel, rfl, by decide +kernel, by decide +kernel⟩
abbrev sWithoutIdleAtoms : Stmt := top 34
theorem scWithoutIdleAtoms : FnScope ["product", "kept", "atom"] ["product"] (defScope sWithoutIdleAtoms) := ⟨rfl, rfl, rfl, by decide +kernel, rfl, by decide +kernel, by decide +kernel⟩
abbrev sNormalForm : Stmt := top 35
theorem scNormalForm : FnScope ["products", "by_text", "product", "found", "text", "shorter", "others", "other"] ["products"] (defScope sNormalForm) := ⟨rfl, rfl, rfl, by decide +kernel, rfl, by decide +kernel, by decide +kernel⟩
abbrev sProductsOfItem : Stmt := top 36
theorem scProductsOfItem : FnScope ["item", "body", "product"] ["item"] (defScope sProductsOfItem) := ⟨rfl, rfl, rfl, by decide +kernel, rfl, by decide +kernel, by decide +kernel⟩
abbrev sProductsOfBody : Stmt := top 37
theorem scProductsOfBody : FnScope ["body", "found", "item", "behind", "product", "more"] ["body"] (defScope sProductsOfBody) := ⟨rfl, rfl, rfl, by decide +kernel, rfl, by decide +kernel, by decide +kernel⟩
abbrev sNormalProducts : Stmt := top 38
theorem scNormalProducts : FnScope ["body"] ["body"] (defScope sNormalProducts) := ⟨rfl, rfl, rfl, by decide +kernel, rfl, by decide +kernel, by decide +kernel⟩
abbrev sProductsOf : Stmt := top 39
theorem scProductsOf : FnScope ["program", "name"] ["program", "name"] (defScope sProductsOf) := ⟨rfl, rfl, rfl, by decide +kernel, rfl, by decide +kernel, by decide +kernel⟩
abbrev sOnceBetween : Stmt := top 40
theorem scOnceBetween : FnScope ["products", "callee", "product", "at"] ["products", "callee"] (defScope sOnceBetween) := ⟨rfl, rfl, rfl, by decide +kernel, rfl, by decide +kernel, by decide +kernel⟩
abbrev sIsRepeatable : Stmt := top 41
theorem scIsRepeatable : FnScope ["program", "name", "callee"] ["program", "name", "callee"] (defScope sIsRepeatable) := ⟨rfl, rfl, rfl, by decide +kernel, rfl, by decide +kernel, by decide +kernel⟩
abbrev sExactFunctions : Stmt := top 43
theorem scExactFunctions : FnScope ["program", "found", "waiting", "caller", "products", "name"] ["program"] (defScope sExactFunctions) := ⟨rfl, rfl, rfl, by decide +kernel, rfl, by decide +kernel, by decide +kernel⟩
abbrev sFormOf : Stmt := top 44
theorem scFormOf : FnScope ["program", "exact", "found", "name"] ["program"] (defScope sFormOf) := ⟨rfl, rfl, rfl, by decide +kernel, rfl, by decide +kernel, by decide +kernel⟩
abbrev sLSpring : Stmt := top 46
theorem scLSpring : FnScope ["script", "cell", "digits", "mixed"] ["script"] (defScope sLSpring) := ⟨rfl, rfl, rfl, by decide +kernel, rfl, by decide +kernel, by decide +kernel⟩
abbrev sLDraw : Stmt := top 47
theorem scLDraw : FnScope ["spring", "many", "grain", "found"] ["spring", "many"] (defScope sLDraw) := ⟨rfl, rfl, rfl, by decide +kernel, rfl, by decide +kernel, by decide +kernel⟩
abbrev sLItems : Stmt := top 48
theorem scLItems : FnScope ["spring", "some", "calls", "deep", "turn", "found", "used", "way", "left", "inner", "more", "other"] ["spring", "some", "calls", "deep"] (defScope sLItems) := ⟨rfl, rfl, rfl, by decide +kernel, rfl, by decide +kernel, by decide +kernel⟩
abbrev sLCalls : Stmt := top 49
theorem scLCalls : FnScope ["body", "found", "item", "inner"] ["body"] (defScope sLCalls) := ⟨rfl, rfl, rfl, by decide +kernel, rfl, by decide +kernel, by decide +kernel⟩
abbrev sLCount : Stmt := top 50
theorem scLCount : FnScope ["body", "found", "item", "inner"] ["body"] (defScope sLCount) := ⟨rfl, rfl, rfl, by decide +kernel, rfl, by decide +kernel, by decide +kernel⟩
abbrev sLCost : Stmt := top 51
theorem scLCost : FnScope ["costs", "body", "found", "item", "inner"] ["costs", "body"] (defScope sLCost) := ⟨rfl, rfl, rfl, by decide +kernel, rfl, by decide +kernel, by decide +kernel⟩
abbrev sLProgram : Stmt := top 52
theorem scLProgram : FnScope ["spring", "most", "calls", "can_recur", "names", "costs", "turn", "name", "keys", "found", "place", "some", "body"] ["spring", "most", "calls", "can_recur"] (defScope sLProgram) := ⟨rfl, rfl, rfl, by decide +kernel, rfl, by decide +kernel, by decide +kernel⟩
abbrev sLDue : Stmt := top 53
theorem scLDue : FnScope ["program", "name", "exact", "place", "found", "caller"] ["program"] (defScope sLDue) := ⟨rfl, rfl, rfl, by decide +kernel, rfl, by decide +kernel, by decide +kernel⟩
abbrev sLRight : Stmt := top 54
theorem scLRight : FnScope ["program", "exact", "turn", "kept", "due", "name", "told", "form", "one"] ["program"] (defScope sLRight) := ⟨rfl, rfl, rfl, by decide +kernel, rfl, by decide +kernel, by decide +kernel⟩
abbrev sLaw : Stmt := top 55
theorem scLaw : FnScope ["script", "spring", "turn", "program", "form", "turned", "gone", "calling", "name"] ["script"] (defScope sLaw) := ⟨rfl, rfl, rfl, by decide +kernel, rfl, by decide +kernel, by decide +kernel⟩
/-- what the top has left: the defs, the constants, and that the built-in names are the built-in ones -/
structure Txt (K : PySem.W.Frag) (mg : Str → Option Value) where
  aBodiesWithin : Addr
  fBodiesWithin : FuncData
  FBodiesWithin : Fun K "bodies_within" "bodies_within" sBodiesWithin aBodiesWithin fBodiesWithin
  bBodiesWithin : Binds K fBodiesWithin ["item"] []
  gBodiesWithin : mg "bodies_within" = some (.ref aBodiesWithin)
  aNamesIn : Addr
  fNamesIn : FuncData
  FNamesIn : Fun K "names_in" "names_in" sNamesIn aNamesIn fNamesIn
  bNamesIn : Binds K fNamesIn ["body"] []
  gNamesIn : mg "names_in" = some (.ref aNamesIn)
  aIsName : Addr
  fIsName : FuncData
  FIsName : Fun K "is_name" "is_name" sIsName aIsName fIsName
  bIsName : Binds K fIsName ["value"] []
  gIsName : mg "is_name" = some (.ref aIsName)
  aIsFunction : Addr
  fIsFunction : FuncData
  FIsFunction : Fun K "is_function" "is_function" sIsFunction aIsFunction fIsFunction
  bIsFunction : Binds K fIsFunction ["program", "value"] []
  gIsFunction : mg "is_function" = some (.ref aIsFunction)
  aChoices : Addr
  fChoices : FuncData
  FChoices : Fun K "_choices" "_choices" sChoices aChoices fChoices
  bChoices : Binds K fChoices ["item"] []
  gChoices : mg "_choices" = some (.ref aChoices)
  aItemSize : Addr
  fItemSize : FuncData
  FItemSize : Fun K "_item_size" "_item_size" sItemSize aItemSize fItemSize
  bItemSize : Binds K fItemSize ["program", "item", "level"] []
  gItemSize : mg "_item_size" = some (.ref aItemSize)
  aBodySize : Addr
  fBodySize : FuncData
  FBodySize : Fun K "_body_size" "_body_size" sBodySize aBodySize fBodySize
  bBodySize : Binds K fBodySize ["program", "body", "level"] []
  gBodySize : mg "_body_size" = some (.ref aBodySize)
  aLeastInItem : Addr
  fLeastInItem : FuncData
  FLeastInItem : Fun K "_least_in_item" "_least_in_item" sLeastInItem aLeastInItem fLeastInItem
  bLeastInItem : Binds K fLeastInItem ["least", "item"] []
  gLeastInItem : mg "_least_in_item" = some (.ref aLeastInItem)
  aLeastInBody : Addr
  fLeastInBody : FuncData
  FLeastInBody : Fun K "_least_in_body" "_least_in_body" sLeastInBody aLeastInBody fLeastInBody
  bLeastInBody : Binds K fLeastInBody ["least", "body"] []
  gLeastInBody : mg "_least_in_body" = some (.ref aLeastInBody)
  aLeastCalls : Addr
  fLeastCalls : FuncData
  FLeastCalls : Fun K "_least_calls" "_least_calls" sLeastCalls aLeastCalls fLeastCalls
  bLeastCalls : Binds K fLeastCalls ["program"] []
  gLeastCalls : mg "_least_calls" = some (.ref aLeastCalls)
  aIsProgram : Addr
  fIsProgram : FuncData
  FIsProgram : Fun K "is_program" "is_program" sIsProgram aIsProgram fIsProgram
  bIsProgram : Binds K fIsProgram ["value"] []
  gIsProgram : mg "is_program" = some (.ref aIsProgram)
  aCheckProgram : Addr
  fCheckProgram : FuncData
  FCheckProgram : Fun K "check_program" "check_program" sCheckProgram aCheckProgram fCheckProgram
  bCheckProgram : Binds K fCheckProgram ["program"] []
  gCheckProgram : mg "check_program" = some (.ref aCheckProgram)
  aCheckName : Addr
  fCheckName : FuncData
  FCheckName : Fun K "check_name" "check_name" sCheckName aCheckName fCheckName
  bCheckName : Binds K fCheckName ["program", "name"] []
  gCheckName : mg "check_name" = some (.ref aCheckName)
  aCallees : Addr
  fCallees : FuncData
  FCallees : Fun K "callees" "callees" sCallees aCallees fCallees
  bCallees : Binds K fCallees ["program", "name"] []
  gCallees : mg "callees" = some (.ref aCallees)
  aReached : Addr
  fReached : FuncData
  FReached : Fun K "reached" "reached" sReached aReached fReached
  bReached : Binds K fReached ["program"] []
  gReached : mg "reached" = some (.ref aReached)
  aIsAtomWithin : Addr
  fIsAtomWithin : FuncData
  FIsAtomWithin : Fun K "is_atom_within" "is_atom_within" sIsAtomWithin aIsAtomWithin fIsAtomWithin
  bIsAtomWithin : Binds K fIsAtomWithin ["atom", "other"] []
  gIsAtomWithin : mg "is_atom_within" = some (.ref aIsAtomWithin)
  aIsProductWithin : Addr
  fIsProductWithin : FuncData
  FIsProductWithin : Fun K "_is_product_within" "_is_product_within" sIsProductWithin aIsProductWithin fIsProductWithin
  bIsProductWithin : Binds K fIsProductWithin ["product", "other"] []
  gIsProductWithin : mg "_is_product_within" = some (.ref aIsProductWithin)
  aIsProductIn : Addr
  fIsProductIn : FuncData
  FIsProductIn : Fun K "is_product_in" "is_product_in" sIsProductIn aIsProductIn fIsProductIn
  bIsProductIn : Binds K fIsProductIn ["products", "product"] []
  gIsProductIn : mg "is_product_in" = some (.ref aIsProductIn)
  aProductText : Addr
  fProductText : FuncData
  FProductText : Fun K "product_text" "product_text" sProductText aProductText fProductText
  bProductText : Binds K fProductText ["product"] []
  gProductText : mg "product_text" = some (.ref aProductText)
  aWithoutIdleAtoms : Addr
  fWithoutIdleAtoms : FuncData
  FWithoutIdleAtoms : Fun K "_without_idle_atoms" "_without_idle_atoms" sWithoutIdleAtoms aWithoutIdleAtoms fWithoutIdleAtoms
  bWithoutIdleAtoms : Binds K fWithoutIdleAtoms ["product"] []
  gWithoutIdleAtoms : mg "_without_idle_atoms" = some (.ref aWithoutIdleAtoms)
  aNormalForm : Addr
  fNormalForm : FuncData
  FNormalForm : Fun K "_normal_form" "_normal_form" sNormalForm aNormalForm fNormalForm
  bNormalForm : Binds K fNormalForm ["products"] []
  gNormalForm : mg "_normal_form" = some (.ref aNormalForm)
  aProductsOfItem : Addr
  fProductsOfItem : FuncData
  FProductsOfItem : Fun K "_products_of_item" "_products_of_item" sProductsOfItem aProductsOfItem fProductsOfItem
  bProductsOfItem : Binds K fProductsOfItem ["item"] []
  gProductsOfItem : mg "_products_of_item" = some (.ref aProductsOfItem)
  aProductsOfBody : Addr
  fProductsOfBody : FuncData
  FProductsOfBody : Fun K "_products_of_body" "_products_of_body" sProductsOfBody aProductsOfBody fProductsOfBody
  bProductsOfBody : Binds K fProductsOfBody ["body"] []
  gProductsOfBody : mg "_products_of_body" = some (.ref aProductsOfBody)
  aNormalProducts : Addr
  fNormalProducts : FuncData
  FNormalProducts : Fun K "normal_products" "normal_products" sNormalProducts aNormalProducts fNormalProducts
  bNormalProducts : Binds K fNormalProducts ["body"] []
  gNormalProducts : mg "normal_products" = some (.ref aNormalProducts)
  aProductsOf : Addr
  fProductsOf : FuncData
  FProductsOf : Fun K "products_of" "products_of" sProductsOf aProductsOf fProductsOf
  bProductsOf : Binds K fProductsOf ["program", "name"] []
  gProductsOf : mg "products_of" = some (.ref aProductsOf)
  aOnceBetween : Addr
  fOnceBetween : FuncData
  FOnceBetween : Fun K "once_between" "once_between" sOnceBetween aOnceBetween fOnceBetween
  bOnceBetween : Binds K fOnceBetween ["products", "callee"] []
  gOnceBetween : mg "once_between" = some (.ref aOnceBetween)
  aIsRepeatable : Addr
  fIsRepeatable : FuncData
  FIsRepeatable : Fun K "is_repeatable" "is_repeatable" sIsRepeatable aIsRepeatable fIsRepeatable
  bIsRepeatable : Binds K fIsRepeatable ["program", "name", "callee"] []
  gIsRepeatable : mg "is_repeatable" = some (.ref aIsRepeatable)
  aExactFunctions : Addr
  fExactFunctions : FuncData
  FExactFunctions : Fun K "exact_functions" "exact_functions" sExactFunctions aExactFunctions fExactFunctions
  bExactFunctions : Binds K fExactFunctions ["program"] []
  gExactFunctions : mg "exact_functions" = some (.ref aExactFunctions)
  aFormOf : Addr
  fFormOf : FuncData
  FFormOf : Fun K "form_of" "form_of" sFormOf aFormOf fFormOf
  bFormOf : Binds K fFormOf ["program"] []
  gFormOf : mg "form_of" = some (.ref aFormOf)
  aLSpring : Addr
  fLSpring : FuncData
  FLSpring : Fun K "_law_spring" "_law_spring" sLSpring aLSpring fLSpring
  bLSpring : Binds K fLSpring ["script"] []
  gLSpring : mg "_law_spring" = some (.ref aLSpring)
  aLDraw : Addr
  fLDraw : FuncData
  FLDraw : Fun K "_law_draw" "_law_draw" sLDraw aLDraw fLDraw
  bLDraw : Binds K fLDraw ["spring", "many"] []
  gLDraw : mg "_law_draw" = some (.ref aLDraw)
  aLItems : Addr
  fLItems : FuncData
  FLItems : Fun K "_law_items" "_law_items" sLItems aLItems fLItems
  bLItems : Binds K fLItems ["spring", "some", "calls", "deep"] []
  gLItems : mg "_law_items" = some (.ref aLItems)
  aLCalls : Addr
  fLCalls : FuncData
  FLCalls : Fun K "_law_calls" "_law_calls" sLCalls aLCalls fLCalls
  bLCalls : Binds K fLCalls ["body"] []
  gLCalls : mg "_law_calls" = some (.ref aLCalls)
  aLCount : Addr
  fLCount : FuncData
  FLCount : Fun K "_law_count" "_law_count" sLCount aLCount fLCount
  bLCount : Binds K fLCount ["body"] []
  gLCount : mg "_law_count" = some (.ref aLCount)
  aLCost : Addr
  fLCost : FuncData
  FLCost : Fun K "_law_cost" "_law_cost" sLCost aLCost fLCost
  bLCost : Binds K fLCost ["costs", "body"] []
  gLCost : mg "_law_cost" = some (.ref aLCost)
  aLProgram : Addr
  fLProgram : FuncData
  FLProgram : Fun K "_law_program" "_law_program" sLProgram aLProgram fLProgram
  bLProgram : Binds K fLProgram ["spring", "most", "calls", "can_recur"] []
  gLProgram : mg "_law_program" = some (.ref aLProgram)
  aLDue : Addr
  fLDue : FuncData
  FLDue : Fun K "_law_due" "_law_due" sLDue aLDue fLDue
  bLDue : Binds K fLDue ["program"] []
  gLDue : mg "_law_due" = some (.ref aLDue)
  aLRight : Addr
  fLRight : FuncData
  FLRight : Fun K "_law_right" "_law_right" sLRight aLRight fLRight
  bLRight : Binds K fLRight ["program"] []
  gLRight : mg "_law_right" = some (.ref aLRight)
  aLaw : Addr
  fLaw : FuncData
  FLaw : Fun K "law" "law" sLaw aLaw fLaw
  bLaw : Binds K fLaw ["script"] []
  gLaw : mg "law" = some (.ref aLaw)
  n_abs : mg "abs" = none
  n_all : mg "all" = none
  n_any : mg "any" = none
  n_dict : mg "dict" = none
  n_enumerate : mg "enumerate" = none
  n_int : mg "int" = none
  n_isinstance : mg "isinstance" = none
  n_len : mg "len" = none
  n_list : mg "list" = none
  n_min : mg "min" = none
  n_range : mg "range" = none
  n_repr : mg "repr" = none
  n_set : mg "set" = none
  n_sorted : mg "sorted" = none
  n_str : mg "str" = none
  n_sum : mg "sum" = none
  n_tuple : mg "tuple" = none
  t_FEWEST_CHOICES : Tok
  c_FEWEST_CHOICES : mg "FEWEST_CHOICES" = some (.int 2 t_FEWEST_CHOICES)
  t_MOST_CALLS : Tok
  c_MOST_CALLS : mg "MOST_CALLS" = some (.int 5 t_MOST_CALLS)
  t_MOST_CALLS_TO_RETURN : Tok
  c_MOST_CALLS_TO_RETURN : mg "MOST_CALLS_TO_RETURN" = some (.int 12 t_MOST_CALLS_TO_RETURN)
  t_MOST_CHOICES : Tok
  c_MOST_CHOICES : mg "MOST_CHOICES" = some (.int 4 t_MOST_CHOICES)
  t_MOST_FUNCTIONS : Tok
  c_MOST_FUNCTIONS : mg "MOST_FUNCTIONS" = some (.int 6 t_MOST_FUNCTIONS)
  t_MOST_ITEMS : Tok
  c_MOST_ITEMS : mg "MOST_ITEMS" = some (.int 12 t_MOST_ITEMS)
  t_MOST_LETTERS : Tok
  c_MOST_LETTERS : mg "MOST_LETTERS" = some (.int 8 t_MOST_LETTERS)
  t_MOST_LEVELS : Tok
  c_MOST_LEVELS : mg "MOST_LEVELS" = some (.int 4 t_MOST_LEVELS)
end K43


set_option Elab.async false
set_option linter.all false
set_option maxRecDepth 100000
set_option maxHeartbeats 4000000
namespace K43
open PySem PySem.Spec PyProof.Rows L2 FA
variable {P : Program} {w : World} {K : PySem.W.Frag} {mg : Str → Option Value} {base : Heap}

theorem not_lt1 {a b : Nat} (h : b ≤ a) : ¬ [a] < [b] := fun z => by
  cases z with
  | rel z => omega
  | cons z => cases z
def spIsName : Sp := fun vs H Q _ => ∃ x : Str, vs = [.str x] ∧ okName x ∧ ∀ H', Same H H' → Q (.bl true) H'
theorem okIsName (T : Txt K mg) : FnOk P w K mg base CX0 1 T.aIsName T.fIsName ["value"] spIsName := by
  refine T.FIsName.ok scIsName (fun vs H Q E h => ?_) (fun cdv A outer s H vs Q E hr h => ?_)
  · obtain ⟨x, rfl, _⟩ := h
    rfl
  obtain ⟨x, rfl, ⟨h1, h2, h3⟩, q⟩ := h
  have hu := hu_of hr
  have hs := sizeLine_eq
  refine ⟨_, (pss_cons (ps_if (PW.pt (pw_or (pt_not (pt_val (pe_callB call_isi (by rfl) T.n_isinstance (by decide +kernel) (pa_cons (pv 0) (pa_cons (pe_bltn (v := .ty "str") (by rfl) T.n_str (by decide +kernel) rfl) pa_nil))))) (pw_or1 (pt_not (pt_chain op_le op_le pe_int (pe_callB call_len_str (by rfl) T.n_len PySem.boot_len (pa_cons (pv 0) pa_nil)) (pe_glob (v := .int 8) rfl T.c_MOST_LETTERS ⟨_, rfl⟩))))))
        (pss_one (ps_ret pe_bl)) pss_nil)
      (pss_one (ps_ret (pe_callB (cr_all rfl) (by rfl) T.n_all (by decide +kernel) (pa_cons (pe_lc (own := [("letter", 1)]) (g := gName 1) (tt := tYes) rfl scIsName.nd (pi_str (pv 0)) (blkOk_by (N := ["value", "letter"]) (sc := defScope sIsName) (by decide +kernel)) (fun _ _ _ _ _ => (pg_name (i := 1) scIsName.nd rfl (by first | exact Or.inl rfl | exact Or.inr rfl))) (fun _ _ _ _ _ => pts_nil) (fun _ _ _ _ _ => (pe_chain op_le_str op_le_str pe_str (pv 1) pe_str))) pa_nil))))), ?_⟩
  refine ⟨_, rfl, _, _, _, _, true, rfl, .ty _, ty_str x, kit_ty (by decide +kernel), _, rfl, iteF ?_⟩
  refine ⟨_, rfl, _, rfl, by omega, _, _, rfl, rfl, _, rfl, ?_⟩
  refine ite2 (fun c => ?_) (fun c => absurd (decide_eq_true (by omega)) c)
  refine ⟨_, _, rfl, rfl, _, rfl, ?_⟩
  refine ite2 (fun c => absurd (c.symm.trans (congrArg not (decide_eq_true (by omega)))) (by decide)) (fun c => ?_)
  refine ⟨_, rfl, _, rfl, fun D hD => lcS (n := x.cps.size) hD (by show x.cps.size < _; have : x.cps.size = x.length := rfl; omega) (fun i v => ∃ c, x.cps[i]? = some c ∧ v = .str ⟨#[c]⟩) (fun _ v _ => v = .bl true) go_s stop_s yld_s (fun _ _ _ _ _ e => e) ?_ ?_⟩
  · rintro i _ H1 R hi ⟨c, hc, rfl⟩ sm k
    have hc' := h3 c (by
      rw [← Array.getElem?_toList] at hc
      exact List.mem_of_getElem? hc)
    refine ⟨rfl, _, rfl, _, _, rfl, rfl, _, rfl, ?_⟩
    have e1 : (!decide ([c] < ("a" : Str).cps.toList)) = true := by
      have : ("a" : Str).cps.toList = [97] := by decide +kernel
      rw [this, decide_eq_false (not_lt1 hc'.1)]
      rfl
    have e2 : (!decide (("z" : Str).cps.toList < [c])) = true := by
      have : ("z" : Str).cps.toList = [122] := by decide +kernel
      rw [this, decide_eq_false (not_lt1 hc'.2)]
      rfl
    refine ite2 (fun _ => ⟨_, _, rfl, rfl, ?_⟩) (fun n => absurd e1 n)
    rw [e2]
    exact k _ _ (Same.refl _) rfl
  · intro H1 ys sm hy hl hg
    have ey : ys = (List.replicate x.cps.size true).map V.bl := by
      refine List.ext_getElem? fun j => ?_
      rw [List.map_replicate, List.getElem?_replicate]
      by_cases hj : j < ys.length
      · have := hg j ys[j] (List.getElem?_eq_getElem hj)
        rw [List.getElem?_eq_getElem hj, this, if_pos (by omega)]
      · rw [List.getElem?_eq_none (by omega), if_neg (by omega)]
    refine ⟨D, _, rfl, SqL.of (by rw [hy, ey]), ?_⟩
    have e : ((List.replicate x.cps.size true).all id) = true := by simp
    rw [e]
    exact q H1 sm
end K43


set_option Elab.async false
set_option linter.all false
set_option maxRecDepth 100000
set_option maxHeartbeats 4000000
namespace K43
open PySem PySem.Spec PyProof.Rows L2 FA
variable {P : Program} {w : World} {K : PySem.W.Frag} {mg : Str → Option Value} {base : Heap}
/-- the bodies within an item -/
def subs : FA.It → List (List FA.It)
  | .call _ => []
  | .may b => [b]
  | .loop b => [b]
  | .one bs => bs
def spChoices : Sp := fun vs H Q _ => ∃ (v : V) (it : FA.It) (ns : List Str), vs = [v] ∧ ItAt H v it ∧ (∀ x, it ≠ .call x) ∧ okI ns it ∧ (∀ x ∈ ns, FA.okName x) ∧ dI it ≤ 6 ∧
  ∀ c ws H', Same H H' → H' c = some (.lst ws) → BdsAt H' ws (subs it) → Q (.ref c) H'
theorem okChoices (T : Txt K mg) : FnOk P w K mg base CX0 1 T.aChoices T.fChoices ["item"] spChoices := by
  refine T.FChoices.ok scChoices (fun vs H Q E h => ?_) (fun cdv A outer s H vs Q E hr h => ?_)
  · obtain ⟨v, it, ns, rfl, _⟩ := h
    rfl
  obtain ⟨v, it, ns, rfl, hI, hc, hok, hns, hd, q⟩ := h
  have hu := hu_of hr
  have hu65 := hu65_of hr
  refine ⟨_, (pss_cons (ps_if (PW.pt (pw_or (pt_not (pt_val (pe_callB call_isi (by rfl) T.n_isinstance (by decide +kernel) (pa_cons (pv 0) (pa_cons (pe_bltn (v := .ty "tuple") (by rfl) T.n_tuple (by decide +kernel) rfl) pa_nil))))) (pw_or (pt_cmpR op_ne (pe_callB call_len_seq (by rfl) T.n_len PySem.boot_len (pa_cons (pv 0) pa_nil)) pe_int (nomark _)) (pw_or1 (pt_not (pt_val (pe_callB call_isi (by rfl) T.n_isinstance (by decide +kernel) (pa_cons (pe_ix ix_tup (pv 0) pe_int (fun _ _ => rfl)) (pa_cons (pe_bltn (v := .ty "list") (by rfl) T.n_list (by decide +kernel) rfl) pa_nil)))))))))
        (pss_one (ps_ret pe_non)) pss_nil)
      (pss_cons (ps_asg (pv 0) (pg_tup rfl (pgs_cons (pg_name (i := 1) scChoices.nd rfl (by first | exact Or.inl rfl | exact Or.inr rfl)) (pgs_cons (pg_name (i := 2) scChoices.nd rfl (by first | exact Or.inl rfl | exact Or.inr rfl)) pgs_nil))))
      (pss_cons (ps_if (PW.pt (pw_or (pt_cmpR op_eq (pv 1) pe_str (nomark _)) (pw_or1 (pt_cmpR op_eq (pv 1) pe_str (nomark _)))))
        (pss_one (ps_ret (pe_ifExp (pt_truth (pv 2) (by intro _; rfl)) (pe_lst (pa_cons (pv 2) pa_nil)) pe_non))) pss_nil)
      (pss_cons (ps_if (PW.pt (pw_and (pt_cmpR op_eq (pv 1) pe_str (nomark _)) (pw_and (pt_chain op_le op_le (pe_glob (v := .int 2) rfl T.c_FEWEST_CHOICES ⟨_, rfl⟩) (pe_callB call_len_seq (by rfl) T.n_len PySem.boot_len (pa_cons (pv 2) pa_nil)) (pe_glob (v := .int 4) rfl T.c_MOST_CHOICES ⟨_, rfl⟩)) (pw_and1 (pt_cmpR op_le (pe_bm PySem.F.plainAttrs_list PySem.F.slot_list_count PySem.F.type_list_count (mt_countD hu65) (pv 2) (pa_cons (pe_lst pa_nil) pa_nil)) pe_int (nomark _))))))
        (pss_one (ps_ret (pv 2))) pss_nil)
      (pss_one (ps_ret pe_non)))))), ?_⟩
  cases hI with
  | call x => exact absurd rfl (hc x)
  | @may t b vs l h1 h2 h3 =>
    simp only [okI] at hok
    have hne : vs.isEmpty = false := by
      have := h3.length
      cases vs with
      | nil => exact absurd (List.eq_nil_of_length_eq_zero this.symm) hok.1
      | cons _ _ => rfl
    refine ⟨_, rfl, _, _, _, _, true, rfl, .ty _, ty_tup h1, kit_ty (by decide +kernel), _, rfl, iteF ?_⟩
    refine ⟨_, rfl, _, _, rfl, .inr (SqT.of h1), rfl, _, rfl, ite2 (fun c => absurd c (by simp)) (fun _ => ?_)⟩
    refine ⟨_, rfl, _, _, _, _, rfl, rfl, SqT.of h1, at_of (j := 1) rfl rfl, _, _, _, _, true, rfl, .ty _, ty_lst h2, kit_ty (by decide +kernel), _, rfl, iteF ?_⟩
    refine ⟨_, rfl, _, _, rfl, SqT.of h1, rfl, _, _, rfl, _, _, rfl, rfl, ?_⟩
    refine ⟨_, rfl, rfl, _, rfl, ite2 (fun _ => ?_) (fun c => absurd (decide_eq_true rfl) c)⟩
    refine ⟨_, rfl, true, .inl ⟨vs, SqL.of h2, by rw [hne]; rfl⟩, iteT ?_⟩
    refine ⟨_, rfl, Nat.le_of_lt (small1000 (by simp)), fun p hp => ?_⟩
    have sm := same_upd hp (.lst [.ref b])
    exact q p _ _ sm upd_same (.cons (sm _ _ h2) (h3.keep (Kp.of sm)) .nil)
  | @loop t b vs l h1 h2 h3 =>
    simp only [okI] at hok
    have hne : vs.isEmpty = false := by
      have := h3.length
      cases vs with
      | nil => exact absurd (List.eq_nil_of_length_eq_zero this.symm) hok.1
      | cons _ _ => rfl
    refine ⟨_, rfl, _, _, _, _, true, rfl, .ty _, ty_tup h1, kit_ty (by decide +kernel), _, rfl, iteF ?_⟩
    refine ⟨_, rfl, _, _, rfl, .inr (SqT.of h1), rfl, _, rfl, ite2 (fun c => absurd c (by simp)) (fun _ => ?_)⟩
    refine ⟨_, rfl, _, _, _, _, rfl, rfl, SqT.of h1, at_of (j := 1) rfl rfl, _, _, _, _, true, rfl, .ty _, ty_lst h2, kit_ty (by decide +kernel), _, rfl, iteF ?_⟩
    refine ⟨_, rfl, _, _, rfl, SqT.of h1, rfl, _, _, rfl, _, _, rfl, rfl, ?_⟩
    refine ⟨_, rfl, rfl, _, rfl, ite2 (fun c => absurd (of_decide_eq_true c) (by decide)) (fun _ => ?_)⟩
    refine ⟨_, rfl, rfl, _, rfl, ite2 (fun _ => ?_) (fun c => absurd (decide_eq_true rfl) c)⟩
    refine ⟨_, rfl, true, .inl ⟨vs, SqL.of h2, by rw [hne]; rfl⟩, iteT ?_⟩
    refine ⟨_, rfl, Nat.le_of_lt (small1000 (by simp)), fun p hp => ?_⟩
    have sm := same_upd hp (.lst [.ref b])
    exact q p _ _ sm upd_same (.cons (sm _ _ h2) (h3.keep (Kp.of sm)) .nil)
  | @one t b vs ls h1 h2 h3 =>
    simp only [okI] at hok
    simp only [dI] at hd
    obtain ⟨k1, k2, k3, k4⟩ := hok
    refine ⟨_, rfl, _, _, _, _, true, rfl, .ty _, ty_tup h1, kit_ty (by decide +kernel), _, rfl, iteF ?_⟩
    refine ⟨_, rfl, _, _, rfl, .inr (SqT.of h1), rfl, _, rfl, ite2 (fun c => absurd c (by simp)) (fun _ => ?_)⟩
    refine ⟨_, rfl, _, _, _, _, rfl, rfl, SqT.of h1, at_of (j := 1) rfl rfl, _, _, _, _, true, rfl, .ty _, ty_lst h2, kit_ty (by decide +kernel), _, rfl, iteF ?_⟩
    refine ⟨_, rfl, _, _, rfl, SqT.of h1, rfl, _, _, rfl, _, _, rfl, rfl, ?_⟩
    refine ⟨_, rfl, rfl, _, rfl, ite2 (fun c => absurd (of_decide_eq_true c) (by decide)) (fun _ => ?_)⟩
    refine ⟨_, rfl, rfl, _, rfl, ite2 (fun c => absurd (of_decide_eq_true c) (by decide)) (fun _ => ?_)⟩
    refine ⟨_, rfl, rfl, _, rfl, ite2 (fun _ => ?_) (fun c => absurd (decide_eq_true rfl) c)⟩
    have hl := h3.length
    refine ⟨_, rfl, _, _, rfl, .inl (SqL.of h2), _, _, rfl, rfl, _, rfl, ?_⟩
    refine ite2 (fun _ => ?_) (fun c => absurd (decide_eq_true (by omega)) c)
    refine ⟨_, _, rfl, rfl, _, rfl, ?_⟩
    refine ite2 (fun _ => ?_) (fun c => absurd (decide_eq_true (by omega)) c)
    refine ⟨_, rfl, .inl ⟨rfl, _, SqL.of h2⟩, by decide, fun p hp => ?_⟩
    have sm := same_upd hp (.lst [])
    have k := Kp.of sm
    have dps := (h3.keep k).dp (K := K)
    refine ⟨b, .ref p, .list [], dtBs ls, rfl, rfl, .lst (SqL.of (sm _ _ h2)) dps, .lst (SqL.of upd_same) .nil, dt_shaped (dtBs_lay hns ls k4) (by have := dtBs_depth ls; omega), dt_shaped rfl (by decide), ?_⟩
    rw [count_empty]
    refine ⟨_, _, rfl, rfl, _, rfl, ite2 (fun _ => ?_) (fun c => absurd (decide_eq_true (by omega)) c)⟩
    exact ⟨_, rfl, q b vs _ sm (sm _ _ h2) (h3.keep k)⟩
end K43


set_option Elab.async false
set_option linter.all false
set_option maxRecDepth 100000
set_option maxHeartbeats 4000000
namespace K43
open PySem PySem.Spec PyProof.Rows L2 FA
variable {P : Program} {w : World} {K : PySem.W.Frag} {mg : Str → Option Value} {base : Heap}
def pNames (p : Pr) : List Str := p.map (·.1)
theorem sum_nC : ∀ bs : List (List FA.It), (bs.map fun b => (nCB b : Int)).sum = nCBs bs
  | [] => rfl
  | b :: r => by have := sum_nC r; simp only [List.map_cons, List.sum_cons, nCBs]; omega
theorem sum_nI : ∀ bs : List (List FA.It), (bs.map fun b => (nIB b : Int)).sum = nIBs bs
  | [] => rfl
  | b :: r => by have := sum_nI r; simp only [List.map_cons, List.sum_cons, nIBs]; omega
theorem subs_nC : ∀ {it : FA.It}, (∀ x, it ≠ .call x) → ((subs it).map fun b => (nCB b : Int)).sum = nC it
  | .call x, h => absurd rfl (h x)
  | .may b, _ => by simp [subs, nC]
  | .loop b, _ => by simp [subs, nC]
  | .one bs, _ => by simp only [subs, nC]; exact sum_nC bs
theorem subs_nI : ∀ {it : FA.It}, (∀ x, it ≠ .call x) → ((subs it).map fun b => (nIB b : Int)).sum = nI it
  | .call x, h => absurd rfl (h x)
  | .may b, _ => by simp [subs, nI]
  | .loop b, _ => by simp [subs, nI]
  | .one bs, _ => by simp only [subs, nI]; exact sum_nI bs
theorem subs_ok {ns : List Str} : ∀ {it : FA.It}, okI ns it → ∀ b ∈ subs it, okB ns b
  | .call x, _, b, hb => by simp [subs] at hb
  | .may b', h, b, hb => by simp only [okI] at h; simp [subs] at hb; rw [hb]; exact h.2
  | .loop b', h, b, hb => by simp only [okI] at h; simp [subs] at hb; rw [hb]; exact h.2
  | .one bs, h, b, hb => by simp only [okI] at h; exact okBs_all.mp h.2.2.2 b hb
theorem nCBs_mem : ∀ {bs : List (List FA.It)} {b}, b ∈ bs → nCB b ≤ nCBs bs
  | b' :: r, b, h => by
    rcases List.mem_cons.mp h with rfl | h
    · simp only [nCBs]; omega
    · have := nCBs_mem h; simp only [nCBs]; omega
theorem nIBs_mem : ∀ {bs : List (List FA.It)} {b}, b ∈ bs → nIB b ≤ nIBs bs
  | b' :: r, b, h => by
    rcases List.mem_cons.mp h with rfl | h
    · simp only [nIBs]; omega
    · have := nIBs_mem h; simp only [nIBs]; omega
theorem dBs_mem : ∀ {bs : List (List FA.It)} {b}, b ∈ bs → dB b ≤ dBs bs
  | b' :: r, b, h => by
    rcases List.mem_cons.mp h with rfl | h
    · simp only [dBs]; omega
    · have := dBs_mem h; simp only [dBs]; omega
theorem subs_le : ∀ {it : FA.It} {b}, b ∈ subs it → nCB b ≤ nC it ∧ nIB b ≤ nI it ∧ dB b ≤ dI it
  | .call x, b, hb => by simp [subs] at hb
  | .may b', b, hb => by simp [subs] at hb; rw [hb]; simp only [nC, nI, dI]; omega
  | .loop b', b, hb => by simp [subs] at hb; rw [hb]; simp only [nC, nI, dI]; omega
  | .one bs, b, hb => by
    have hb : b ∈ bs := hb
    have h1 := nCBs_mem hb
    have h2 := nIBs_mem hb
    have h3 := dBs_mem hb
    simp only [nC, nI, dI]; omega
theorem dB_pos : ∀ b : List FA.It, 1 ≤ dB b
  | [] => by simp [dB]
  | i :: r => by have := dB_pos r; simp only [dB]; omega
theorem subs_len : ∀ {ns : List Str} {it : FA.It}, okI ns it → (subs it).length ≤ 4
  | _, .call x, _ => by simp [subs]
  | _, .may b, _ => by simp [subs]
  | _, .loop b, _ => by simp [subs]
  | _, .one bs, h => by simp only [okI] at h; exact h.2.1
/-- what the judged program is known to be -/
structure Known (H : Hp) (d : Addr) (p : Pr) : Prop where
  at_ : PrAt H d p
  nm : ∀ x ∈ pNames p, FA.okName x
theorem PrAt.same {H H' : Hp} {d : Addr} {p : Pr} (sm : Same H H') (h : PrAt H d p) : PrAt H' d p := by
  obtain ⟨kvs, hd, hk⟩ := h
  refine ⟨kvs, ?_, hk.keep (Kp.of sm)⟩
  rcases hd with hd | ⟨o, hd⟩
  · exact .inl (sm _ _ hd)
  · exact .inr ⟨o, sm _ _ hd⟩
theorem Known.same {H H' : Hp} {d : Addr} {p : Pr} (sm : Same H H') (h : Known H d p) : Known H' d p := ⟨PrAt.same sm h.at_, h.nm⟩
theorem lookup_mem {x : Str} : ∀ {p : Pr}, x ∈ pNames p → ∃ l, p.lookup x = some l
  | (y, l) :: p, h => by
    by_cases e : x = y
    · subst e; exact ⟨l, by simp [List.lookup]⟩
    · have e1 : (x == y) = false := beq_eq_false_iff_ne.mpr e
      rcases List.mem_cons.mp (show x ∈ y :: pNames p from h) with z | z
      · exact absurd z e
      · obtain ⟨l', q⟩ := lookup_mem z
        exact ⟨l', by simp [List.lookup, e1, q]⟩
theorem Known.has {H : Hp} {d : Addr} {p : Pr} {x : Str} (h : Known H d p) (hx : x ∈ pNames p) : ∃ l b, p.lookup x = some l ∧ DGet H d (.str x) (some (.ref b)) ∧ BdAt H b l := by
  obtain ⟨l0, e⟩ := lookup_mem hx
  rcases h.at_.look (x := x) with ⟨h1, _⟩ | ⟨l, b, h1, h2, h3⟩
  · rw [e] at h1; cases h1
  · exact ⟨l, b, h1, h2, h3⟩
def spItemSize (n : Nat) : Sp := fun vs H Q _ => ∃ (d : Addr) (p : Pr) (v : V) (it : FA.It) (lv : Int), vs = [.ref d, v, .int lv] ∧ Known H d p ∧ ItAt H v it ∧ okI (pNames p) it ∧ dI it ≤ n ∧ lv + dI it ≤ 4 ∧ nC it ≤ 5 ∧ nI it ≤ 12 ∧
  ∀ t H', Same H H' → H' t = some (.tup [.int (nC it), .int (nI it)]) → Q (.ref t) H'
def spBodySize (n : Nat) : Sp := fun vs H Q _ => ∃ (d : Addr) (p : Pr) (b : Addr) (l : List FA.It) (lv : Int), vs = [.ref d, .ref b, .int lv] ∧ Known H d p ∧ BdAt H b l ∧ okB (pNames p) l ∧ dB l ≤ n ∧ lv + dB l ≤ 5 ∧ nCB l ≤ 5 ∧ nIB l ≤ 12 ∧
  ∀ t H', Same H H' → H' t = some (.tup [.int (nCB l), .int (nIB l)]) → Q (.ref t) H'
theorem okItemSize (T : Txt K mg) (n : Nat) (hn : n ≤ 5) (GBodySize : FnOk P w K mg base CX0 (2 * n + 1) T.aBodySize T.fBodySize ["program", "body", "level"] (spBodySize n)) :
    FnOk P w K mg base CX0 (2 * n + 2) T.aItemSize T.fItemSize ["program", "item", "level"] (spItemSize n) := by
  have GChoices : FnOk P w K mg base CX0 1 T.aChoices T.fChoices ["item"] spChoices := okChoices T
  refine T.FItemSize.ok scItemSize (fun vs H Q E h => ?_) (fun cdv A outer s H vs Q E hr h => ?_)
  · obtain ⟨d, p, v, it, lv, rfl, _⟩ := h
    rfl
  obtain ⟨d, p, v, it, lv, rfl, kn, hI, hok, hn, hlv, hC, hN, q⟩ := h
  have hu := hu_of hr
  have hu65 := hu65_of hr
  refine ⟨_, (pss_cons (ps_if (pt_val (pe_callB call_isi (by rfl) T.n_isinstance (by decide +kernel) (pa_cons (pv 1) (pa_cons (pe_bltn (v := .ty "str") (by rfl) T.n_str (by decide +kernel) rfl) pa_nil))))
        (pss_one (ps_ret (pe_ifExp (pt_cmp (pc_din hu (pv 1) (pv 0))) (pe_tup (pa_cons pe_int (pa_cons pe_int pa_nil))) pe_non))) pss_nil)
      (pss_cons (ps_set (i := 3) scItemSize.nd rfl (by first | exact Or.inl rfl | exact Or.inr rfl) (pe_call GChoices (hr.mono (by omega)) rfl T.gChoices T.FChoices.kp T.bChoices .nil pass0 (pa_cons (pv 1) pa_nil)))
      (pss_cons (ps_if (pt_cmpR op_isN (pv 3) pe_non (nomark _))
        (pss_one (ps_ret pe_non)) pss_nil)
      (pss_cons (ps_setLc (i := 4) (own := [("body", 5)]) (g := gName 5) (tt := tYes) rfl scItemSize.nd rfl rfl (sw_true rfl rfl rfl (by decide +kernel)) (pi_list (pv 3)) (blkOk_by (N := ["program", "item", "level", "choices", "sizes", "body", "calls", "_", "items"]) (sc := defScope sItemSize) (by decide +kernel)) (fun _ _ _ _ _ => (pg_name (i := 5) scItemSize.nd rfl (by first | exact Or.inl rfl | exact Or.inr rfl))) (fun _ _ _ _ _ => pts_nil) (fun _ _ _ _ _ => (pe_call GBodySize (hr.mono (by omega)) rfl T.gBodySize T.FBodySize.kp T.bBodySize .nil pass0 (pa_cons (pv 0) (pa_cons (pv 5) (pa_cons (pe_op op_add (pv 2) pe_int) pa_nil))))))
      (pss_cons (ps_if (pt_cmpR (op_inD hu65) pe_non (pv 4) (by rfl))
        (pss_one (ps_ret pe_non)) pss_nil)
      (pss_one (ps_ret (pe_tup (pa_cons (pe_callB (cr_sum rfl) (by rfl) T.n_sum (by decide +kernel) (pa_cons (pe_lc (own := [("calls", 6), ("_", 7)]) (g := gTup K 2 (gCons (gName 6) (gCons (gName 7) gNil))) (tt := tYes) rfl scItemSize.nd (pi_list (pv 4)) (blkOk_by (N := ["program", "item", "level", "choices", "sizes", "body", "calls", "_", "items"]) (sc := defScope sItemSize) (by decide +kernel)) (fun _ _ _ _ _ => (pg_tup rfl (pgs_cons (pg_name (i := 6) scItemSize.nd rfl (by first | exact Or.inl rfl | exact Or.inr rfl)) (pgs_cons (pg_name (i := 7) scItemSize.nd rfl (by first | exact Or.inl rfl | exact Or.inr rfl)) pgs_nil)))) (fun _ _ _ _ _ => pts_nil) (fun _ _ _ _ _ => (pv 6))) pa_nil)) (pa_cons (pe_callB (cr_sum rfl) (by rfl) T.n_sum (by decide +kernel) (pa_cons (pe_lc (own := [("_", 7), ("items", 8)]) (g := gTup K 2 (gCons (gName 7) (gCons (gName 8) gNil))) (tt := tYes) rfl scItemSize.nd (pi_list (pv 4)) (blkOk_by (N := ["program", "item", "level", "choices", "sizes", "body", "calls", "_", "items"]) (sc := defScope sItemSize) (by decide +kernel)) (fun _ _ _ _ _ => (pg_tup rfl (pgs_cons (pg_name (i := 7) scItemSize.nd rfl (by first | exact Or.inl rfl | exact Or.inr rfl)) (pgs_cons (pg_name (i := 8) scItemSize.nd rfl (by first | exact Or.inl rfl | exact Or.inr rfl)) pgs_nil)))) (fun _ _ _ _ _ => pts_nil) (fun _ _ _ _ _ => (pv 8))) pa_nil)) pa_nil)))))))))), ?_⟩
  by_cases hcall : ∃ x, it = .call x
  · obtain ⟨x, rfl⟩ := hcall
    cases hI
    obtain ⟨l, b, _, hg, _⟩ := kn.has (x := x) (by simpa [okI] using hok)
    refine ⟨_, rfl, _, _, _, _, true, rfl, .ty _, ty_str x, kit_ty (by decide +kernel), _, rfl, iteT ?_⟩
    refine ⟨_, rfl, _, rfl, _, _, rfl, hg, _, rfl, iteT ?_⟩
    refine ⟨Nat.le_of_lt (small1000 (by simp)), fun t ht => ?_⟩
    exact q t _ (same_upd ht _) (by rw [upd_same]; rfl)
  · have hcall : ∀ x, it ≠ .call x := fun x e => hcall ⟨x, e⟩
    have hty : ∃ t ws, v = .ref t ∧ H t = some (.tup ws) := by
      cases hI with
      | call x => exact absurd rfl (hcall x)
      | may h1 _ _ => exact ⟨_, _, rfl, h1⟩
      | loop h1 _ _ => exact ⟨_, _, rfl, h1⟩
      | one h1 _ _ => exact ⟨_, _, rfl, h1⟩
    obtain ⟨t0, ws0, rfl, ht0⟩ := hty
    refine ⟨_, rfl, _, _, _, _, false, rfl, .ty _, ty_tup ht0, kit_ty (by decide +kernel), _, rfl, iteF ?_⟩
    refine ⟨_, rfl, _, _, _, rfl, hI, hcall, hok, kn.nm, by omega, fun c ws H1 s1 hc hb => ?_⟩
    refine ⟨_, rfl, rfl, _, rfl, ite2 (fun z => absurd (of_decide_eq_true z) (by simp)) (fun _ => ?_)⟩
    have kn1 := kn.same s1
    have hlen := hb.length
    have h4 := subs_len hok
    refine ⟨_, rfl, c, rfl, ⟨_, SqL.of hc⟩, fun D hD => lcS (n := ws.length) hD (small1000 (by omega)) _ (fun j v H => ∃ bd t, (subs it)[j]? = some bd ∧ v = .ref t ∧ H t = some (.tup [.int (nCB bd), .int (nIB bd)]))
      (go_l (SqL.of hc)) (stop_l (SqL.of hc)) (yld_l (SqL.of hc)) (fun j v A B k ⟨bd, t, e1, e2, e3⟩ => ⟨bd, t, e1, e2, k _ _ e3⟩) ?_ ?_⟩
    · intro i x H2 R hi hx s2 k
      obtain ⟨b, bd, rfl, e1, e2⟩ := hb.get hx
      have hm : bd ∈ subs it := List.mem_of_getElem? e1
      have le := subs_le hm
      refine ⟨rfl, _, rfl, _, rfl, _, rfl, _, _, rfl, rfl, d, p, b, bd, lv + 1, rfl, kn1.same s2, e2.keep (Kp.of s2), subs_ok hok bd hm, by omega, by omega, by omega, by omega, fun t H3 s3 ht => ?_⟩
      exact k _ H3 s3 ⟨bd, t, e1, rfl, ht⟩
    · intro H2 ys s2 hy hl hg
      have dps : DpAll K H2 ys ((subs it).map fun b => PyData.tuple [.int (nCB b), .int (nIB b)]) := dpAll_map (by omega) fun j y e => by
        obtain ⟨bd, t, e1, rfl, e3⟩ := hg j y e
        exact ⟨bd, e1, .tup (SqT.of e3) (.cons (.int _) (.cons (.int _) .nil))⟩
      have lay : PyData.canLayAll0 ((subs it).map fun b => PyData.tuple [.int (nCB b), .int (nIB b)]) = true := by
        generalize subs it = l
        induction l with
        | nil => rfl
        | cons b r ih => simp only [List.map_cons, PyData.canLayAll0, PyData.canLay0, ih, Bool.and_true]
      have dep : PyData.depthAll ((subs it).map fun b => PyData.tuple [.int (nCB b), .int (nIB b)]) ≤ 60 := by
        have : ∀ l : List (List FA.It), PyData.depthAll (l.map fun b => PyData.tuple [.int (nCB b), .int (nIB b)]) ≤ 1 := fun l => by
          induction l with
          | nil => simp [PyData.depthAll]
          | cons b r ih => simp only [List.map_cons, PyData.depthAll, PyData.depth]; omega
        have := this (subs it)
        omega
      have nov : (((subs it).map fun b => PyData.tuple [.int (nCB b), .int (nIB b)]).any fun z => PyData.eqv z .none) = false := by
        generalize subs it = l
        induction l with
        | nil => rfl
        | cons b r ih => simp only [List.map_cons, List.any_cons, PyData.eqv, ih, Bool.or_false]
      refine ⟨_, rfl, .none, _, .non, .lst (SqL.of hy) dps, rfl, dt_shaped lay dep, ?_⟩
      rw [nov]
      refine ⟨_, rfl, iteF ?_⟩
      have sumOf : ∀ (f : List FA.It → Int) (H3 : Hp) (D3 : Addr) (zs : List V), H3 D3 = some (.lst zs) → zs.length = ys.length → (∀ j z, zs[j]? = some z → ∃ bd, (subs it)[j]? = some bd ∧ z = V.int (f bd)) → SqL K H3 D3 (((subs it).map f).map V.int) := fun f H3 D3 zs h1 h2 h3 => by
        have e := ext_map (ys := zs) (l := subs it) (f := fun b => V.int (f b)) (by omega) h3
        rw [List.map_map]
        exact SqL.of (by rw [h1, e]; rfl)
      refine ⟨_, rfl, D, rfl, ⟨_, SqL.of hy⟩, fun D1 hD1 => lcS (n := ys.length) hD1 (small1000 (by omega)) _ (fun j v _ => ∃ bd, (subs it)[j]? = some bd ∧ v = .int (nCB bd))
        (go_l (SqL.of hy)) (stop_l (SqL.of hy)) (yld_l (SqL.of hy)) (fun j v A B _ h => h) ?_ ?_⟩
      · intro i x H3 R hi hx s3 k
        obtain ⟨bd, t, e1, rfl, e3⟩ := hg i x hx
        exact ⟨t, _, rfl, SqT.of (s3 _ _ e3), rfl, _, _, rfl, _, _, rfl, rfl, rfl, _, rfl, k _ H3 (Same.refl _) ⟨bd, e1, rfl⟩⟩
      · intro H3 zs s3 hz hzl hzg
        refine ⟨D1, _, rfl, sumOf (fun b => nCB b) H3 D1 zs hz hzl hzg, ?_⟩
        rw [subs_nC hcall]
        have hy3 : H3 D = some (.lst ys) := s3 _ _ hy
        refine ⟨_, rfl, D, rfl, ⟨_, SqL.of hy3⟩, fun D2 hD2 => lcS (n := ys.length) hD2 (small1000 (by omega)) _ (fun j v _ => ∃ bd, (subs it)[j]? = some bd ∧ v = .int (nIB bd))
          (go_l (SqL.of hy3)) (stop_l (SqL.of hy3)) (yld_l (SqL.of hy3)) (fun j v A B _ h => h) ?_ ?_⟩
        · intro i x H4 R hi hx s4 k
          obtain ⟨bd, t, e1, rfl, e3⟩ := hg i x hx
          exact ⟨t, _, rfl, SqT.of (s4 _ _ (s3 _ _ e3)), rfl, _, _, rfl, _, _, rfl, rfl, rfl, _, rfl, k _ H4 (Same.refl _) ⟨bd, e1, rfl⟩⟩
        · intro H4 zs2 s4 hz2 hzl2 hzg2
          refine ⟨D2, _, rfl, sumOf (fun b => nIB b) H4 D2 zs2 hz2 hzl2 hzg2, ?_⟩
          rw [subs_nI hcall]
          refine ⟨Nat.le_of_lt (small1000 (by simp)), fun t ht => ?_⟩
          exact q t _ (s1.trans (s2.trans (s3.trans (s4.trans (same_upd ht _))))) upd_same
end K43


set_option Elab.async false
set_option linter.all false
set_option maxRecDepth 100000
set_option maxHeartbeats 4000000
namespace K43
open PySem PySem.Spec PyProof.Rows L2 FA
variable {P : Program} {w : World} {K : PySem.W.Frag} {mg : Str → Option Value} {base : Heap}
def sI (l : List FA.It) : Nat := (l.map nI).sum
def sC (l : List FA.It) : Nat := (l.map nC).sum
theorem nIB_eq : ∀ l : List FA.It, nIB l = l.length + sI l
  | [] => by simp [nIB, sI]
  | i :: r => by
    have := nIB_eq r
    simp only [nIB, sI, List.length_cons, List.map_cons, List.sum_cons] at *
    omega
theorem nCB_eq : ∀ l : List FA.It, nCB l = sC l
  | [] => by simp [nCB, sC]
  | i :: r => by
    have := nCB_eq r
    simp only [nCB, sC, List.map_cons, List.sum_cons] at *
    omega
theorem sI_take {l : List FA.It} {i : Nat} {it : FA.It} (h : l[i]? = some it) : sI (l.take (i + 1)) = sI (l.take i) + nI it := by
  unfold sI
  rw [List.take_add_one, h, List.map_append, List.sum_append]
  simp
theorem sC_take {l : List FA.It} {i : Nat} {it : FA.It} (h : l[i]? = some it) : sC (l.take (i + 1)) = sC (l.take i) + nC it := by
  unfold sC
  rw [List.take_add_one, h, List.map_append, List.sum_append]
  simp
theorem sI_take_le (l : List FA.It) (i : Nat) : sI (l.take i) ≤ sI l := by
  unfold sI
  have e : ((l.take i ++ l.drop i).map nI).sum = (l.map nI).sum := by rw [List.take_append_drop]
  rw [List.map_append, List.sum_append] at e
  omega
theorem sC_take_le (l : List FA.It) (i : Nat) : sC (l.take i) ≤ sC l := by
  unfold sC
  have e : ((l.take i ++ l.drop i).map nC).sum = (l.map nC).sum := by rw [List.take_append_drop]
  rw [List.map_append, List.sum_append] at e
  omega
theorem dB_mem : ∀ {l : List FA.It} {it : FA.It}, it ∈ l → 1 + dI it ≤ dB l
  | i :: r, it, h => by
    simp only [dB]
    rcases List.mem_cons.mp h with rfl | h
    · omega
    · have := dB_mem h; omega
theorem okBodySize (T : Txt K mg) (n : Nat) (GItemSize : FnOk P w K mg base CX0 (2 * n + 2) T.aItemSize T.fItemSize ["program", "item", "level"] (spItemSize n)) :
    FnOk P w K mg base CX0 (2 * n + 3) T.aBodySize T.fBodySize ["program", "body", "level"] (spBodySize (n + 1)) := by
  refine T.FBodySize.ok scBodySize (fun vs H Q E h => ?_) (fun cdv A outer s H vs Q E hr h => ?_)
  · obtain ⟨d, p, b, l, lv, rfl, _⟩ := h
    rfl
  obtain ⟨d, p, b, l, lv, rfl, kn, ⟨vs, hb, hits⟩, hok, hn, hlv, hC, hN, q⟩ := h
  have hu := hu_of hr
  refine ⟨_, (pss_cons (ps_if (PW.pt (pw_or (pt_not (pt_val (pe_callB call_isi (by rfl) T.n_isinstance (by decide +kernel) (pa_cons (pv 1) (pa_cons (pe_bltn (v := .ty "list") (by rfl) T.n_list (by decide +kernel) rfl) pa_nil))))) (pw_or1 (pt_cmpR op_gt (pv 2) (pe_glob (v := .int 4) rfl T.c_MOST_LEVELS ⟨_, rfl⟩) (nomark _)))))
        (pss_one (ps_ret pe_non)) pss_nil)
      (pss_cons (ps_set (i := 3) scBodySize.nd rfl (by first | exact Or.inl rfl | exact Or.inr rfl) pe_int)
      (pss_cons (ps_set (i := 4) scBodySize.nd rfl (by first | exact Or.inl rfl | exact Or.inr rfl) (pe_callB call_len_seq (by rfl) T.n_len PySem.boot_len (pa_cons (pv 1) pa_nil)))
      (pss_cons (ps_for PassesOwn.never rfl (pi_list (pv 1)) (pg_name (i := 5) scBodySize.nd rfl (by first | exact Or.inl rfl | exact Or.inr rfl))
        (pss_cons (ps_set (i := 6) scBodySize.nd rfl (by first | exact Or.inl rfl | exact Or.inr rfl) (pe_call GItemSize (hr.mono (by omega)) rfl T.gItemSize T.FItemSize.kp T.bItemSize .nil pass0 (pa_cons (pv 0) (pa_cons (pv 5) (pa_cons (pv 2) pa_nil)))))
        (pss_cons (ps_if (pt_cmpR op_isN (pv 6) pe_non (nomark _))
          (pss_one (ps_ret pe_non)) pss_nil)
        (pss_cons (ps_set (i := 3) scBodySize.nd rfl (by first | exact Or.inl rfl | exact Or.inr rfl) (pe_op op_add (pv 3) (pe_ix ix_tup (pv 6) pe_int (fun _ _ => rfl))))
        (pss_cons (ps_set (i := 4) scBodySize.nd rfl (by first | exact Or.inl rfl | exact Or.inr rfl) (pe_op op_add (pv 4) (pe_ix ix_tup (pv 6) pe_int (fun _ _ => rfl))))
        (pss_one (ps_if (PW.pt (pw_or (pt_cmpR op_gt (pv 3) (pe_glob (v := .int 5) rfl T.c_MOST_CALLS ⟨_, rfl⟩) (nomark _)) (pw_or1 (pt_cmpR op_gt (pv 4) (pe_glob (v := .int 12) rfl T.c_MOST_ITEMS ⟨_, rfl⟩) (nomark _)))))
          (pss_one (ps_ret pe_non)) pss_nil)))))))
      (pss_one (ps_ret (pe_tup (pa_cons (pv 3) (pa_cons (pv 4) pa_nil))))))))), ?_⟩
  have hp := dB_pos l
  have hl := hits.length
  refine ⟨_, rfl, _, _, _, _, true, rfl, .ty _, ty_lst hb, kit_ty (by decide +kernel), _, rfl, iteF ?_⟩
  refine ⟨_, rfl, _, _, rfl, rfl, _, rfl, ite2 (fun c => absurd (of_decide_eq_true c) (by omega)) (fun _ => ?_)⟩
  refine ⟨_, rfl, _, _, rfl, .inl (SqL.of hb), ?_⟩
  refine ⟨_, rfl, b, rfl, ⟨_, SqL.of hb⟩, for_list (K := K) (a := b) (xs := vs) (fun i σ H' => ∃ v5 v6, σ = [some (.ref d), some (.ref b), some (.int lv), some (.int (sC (l.take i))), some (.int ((l.length : Int) + sI (l.take i))), v5, v6] ∧ Same H H') ?_ ?_ ?_ ?_⟩
  · refine ⟨none, none, ?_, Same.refl _⟩
    rw [hl]
    simp [sC, sI]
    rfl
  · rintro i σ H' _ ⟨_, _, _, sm⟩
    exact SqL.of (sm _ _ hb)
  · rintro i y σ H' hi ⟨v5, v6, rfl, sm⟩
    obtain ⟨it, e1, e2⟩ := hits.get hi
    have hm : it ∈ l := List.mem_of_getElem? e1
    have c1 := sC_take e1
    have c2 := sI_take e1
    have c3 := sC_take_le l (i + 1)
    have c4 := sI_take_le l (i + 1)
    have c5 := nCB_eq l
    have c6 := nIB_eq l
    have c7 := dB_mem hm
    refine ⟨_, rfl, _, rfl, _, rfl, d, p, y, it, lv, rfl, kn.same sm, e2.keep (Kp.of sm), okB_all.mp hok it hm, by omega, by omega, by omega, by omega, fun t H2 s2 ht => ?_⟩
    refine ⟨_, rfl, rfl, _, rfl, ite2 (fun z => absurd (of_decide_eq_true z) (by simp)) (fun _ => ?_)⟩
    refine ⟨_, rfl, _, rfl, _, _, _, _, rfl, rfl, SqT.of ht, at_of (j := 0) rfl rfl, _, _, rfl, rfl, ?_⟩
    refine ⟨_, rfl, _, rfl, _, _, _, _, rfl, rfl, SqT.of ht, at_of (j := 1) rfl rfl, _, _, rfl, rfl, ?_⟩
    refine ⟨_, rfl, _, _, rfl, rfl, _, rfl, ite2 (fun c => absurd (of_decide_eq_true c) (by omega)) (fun _ => ?_)⟩
    refine ⟨_, rfl, _, _, rfl, rfl, _, rfl, ite2 (fun c => absurd (of_decide_eq_true c) (by omega)) (fun _ => ?_)⟩
    refine ⟨some y, some (.ref t), ?_, sm.trans s2⟩
    have e3 : ((sC (l.take i) : Nat) : Int) + (nC it : Int) = (sC (l.take (i + 1)) : Nat) := by omega
    have e4 : ((l.length : Int) + (sI (l.take i) : Nat)) + (nI it : Int) = (l.length : Int) + (sI (l.take (i + 1)) : Nat) := by omega
    rw [← e3, ← e4]
    rfl
  · rintro σ H' ⟨v5, v6, rfl, sm⟩
    refine ⟨_, rfl, _, rfl, Nat.le_of_lt (small1000 (by simp)), fun t ht => ?_⟩
    refine q t _ (sm.trans (same_upd ht _)) ?_
    rw [upd_same, List.take_of_length_le (by omega), nCB_eq, nIB_eq, Int.natCast_add]
theorem okSizes (T : Txt K mg) : ∀ n : Nat, n ≤ 5 → FnOk P w K mg base CX0 (2 * n + 1) T.aBodySize T.fBodySize ["program", "body", "level"] (spBodySize n)
  | 0, _ => fn_never fun vs H Q E h => by
    obtain ⟨d, p, b, l, lv, _, _, _, _, h0, _⟩ := h
    have := dB_pos l
    omega
  | n + 1, h => okBodySize T n (okItemSize T n (by omega) (okSizes T n (by omega)))
/-! ### the least numbers of calls -/
/-- at L a dict that tells f of the names ns -/
def LsAt (H : Hp) (L : Addr) (ns : List Str) (f : Str → Int) : Prop := ∃ kvs, Rd H L (.dK kvs) ∧ ∀ x ∈ ns, valV kvs (.inr x) = some (.int (f x))
theorem Rd.same {H H' : Hp} {a : Addr} {u : HO} (sm : Same H H') (h : Rd H a u) : Rd H' a u := by
  rcases h with h | ⟨o, h⟩
  · exact .inl (sm _ _ h)
  · exact .inr ⟨o, sm _ _ h⟩
theorem LsAt.same {H H' : Hp} {L : Addr} {ns : List Str} {f : Str → Int} (sm : Same H H') (h : LsAt H L ns f) : LsAt H' L ns f := by
  obtain ⟨kvs, h1, h2⟩ := h
  exact ⟨kvs, Rd.same sm h1, h2⟩
def spLeastItem (n : Nat) : Sp := fun vs H Q _ => ∃ (L : Addr) (ns : List Str) (f : Str → Int) (v : V) (it : FA.It), vs = [.ref L, v] ∧ LsAt H L ns f ∧ ItAt H v it ∧ okI ns it ∧ nI it ≤ 12 ∧ dI it ≤ n ∧
  ∀ H', Same H H' → Q (.int (cost f it)) H'
def spLeastBody (n : Nat) : Sp := fun vs H Q _ => ∃ (L : Addr) (ns : List Str) (f : Str → Int) (b : Addr) (l : List FA.It), vs = [.ref L, .ref b] ∧ LsAt H L ns f ∧ BdAt H b l ∧ okB ns l ∧ nIB l ≤ 12 ∧ dB l ≤ n ∧
  ∀ H', Same H H' → Q (.int (costB f l)) H'
theorem okLeastItem (T : Txt K mg) (n : Nat) (GLeastInBody : FnOk P w K mg base CX0 (2 * n + 1) T.aLeastInBody T.fLeastInBody ["least", "body"] (spLeastBody n)) :
    FnOk P w K mg base CX0 (2 * n + 2) T.aLeastInItem T.fLeastInItem ["least", "item"] (spLeastItem n) := by
  refine T.FLeastInItem.ok scLeastInItem (fun vs H Q E h => ?_) (fun cdv A outer s H vs Q E hr h => ?_)
  · obtain ⟨L, ns, f, v, it, rfl, _⟩ := h
    rfl
  obtain ⟨L, ns, f, v, it, rfl, hL, hI, hok, hN, hn, q⟩ := h
  have hu := hu_of hr
  refine ⟨_, (pss_cons (ps_if (pt_val (pe_callB call_isi (by rfl) T.n_isinstance (by decide +kernel) (pa_cons (pv 1) (pa_cons (pe_bltn (v := .ty "str") (by rfl) T.n_str (by decide +kernel) rfl) pa_nil))))
        (pss_one (ps_ret (pe_dget hu (pv 0) (pv 1) (fun _ _ => rfl)))) pss_nil)
      (pss_cons (ps_if (pt_cmpR op_eq (pe_ix ix_tup (pv 1) pe_int (fun _ _ => rfl)) pe_str (nomark _))
        (pss_one (ps_ret (pe_callB (cr_min rfl) (by rfl) T.n_min (by decide +kernel) (pa_cons (pe_lc (own := [("body", 2)]) (g := gName 2) (tt := tYes) rfl scLeastInItem.nd (pi_list (pe_ix ix_tup (pv 1) pe_int (fun _ _ => rfl))) (blkOk_by (N := ["least", "item", "body"]) (sc := defScope sLeastInItem) (by decide +kernel)) (fun _ _ _ _ _ => (pg_name (i := 2) scLeastInItem.nd rfl (by first | exact Or.inl rfl | exact Or.inr rfl))) (fun _ _ _ _ _ => pts_nil) (fun _ _ _ _ _ => (pe_call GLeastInBody (hr.mono (by omega)) rfl T.gLeastInBody T.FLeastInBody.kp T.bLeastInBody .nil pass0 (pa_cons (pv 0) (pa_cons (pv 2) pa_nil))))) pa_nil)))) pss_nil)
      (pss_one (ps_ret pe_int)))), ?_⟩
  cases hI with
  | call x =>
    obtain ⟨kvs, h1, h2⟩ := hL
    refine ⟨_, rfl, _, _, _, _, true, rfl, .ty _, ty_str x, kit_ty (by decide +kernel), _, rfl, iteT ?_⟩
    refine ⟨_, rfl, _, rfl, L, _, rfl, .inl ⟨kvs, .inr x, h1, rfl, (h2 x (by simpa [okI] using hok)).symm⟩, ?_⟩
    have := q H (Same.refl _)
    simp only [cost] at this
    exact this
  | @may t b vs l h1 h2 h3 =>
    refine ⟨_, rfl, _, _, _, _, false, rfl, .ty _, ty_tup h1, kit_ty (by decide +kernel), _, rfl, iteF ?_⟩
    refine ⟨_, rfl, _, _, _, _, rfl, rfl, SqT.of h1, at_of (j := 0) rfl rfl, rfl, _, rfl, ite2 (fun c => absurd (of_decide_eq_true c) (by decide)) (fun _ => ?_)⟩
    have := q H (Same.refl _)
    simp only [cost] at this
    exact this
  | @loop t b vs l h1 h2 h3 =>
    refine ⟨_, rfl, _, _, _, _, false, rfl, .ty _, ty_tup h1, kit_ty (by decide +kernel), _, rfl, iteF ?_⟩
    refine ⟨_, rfl, _, _, _, _, rfl, rfl, SqT.of h1, at_of (j := 0) rfl rfl, rfl, _, rfl, ite2 (fun c => absurd (of_decide_eq_true c) (by decide)) (fun _ => ?_)⟩
    have := q H (Same.refl _)
    simp only [cost] at this
    exact this
  | @one t b vs ls h1 h2 h3 =>
    simp only [okI] at hok
    obtain ⟨k1, k2, k3, k4⟩ := hok
    have hl := h3.length
    refine ⟨_, rfl, _, _, _, _, false, rfl, .ty _, ty_tup h1, kit_ty (by decide +kernel), _, rfl, iteF ?_⟩
    refine ⟨_, rfl, _, _, _, _, rfl, rfl, SqT.of h1, at_of (j := 0) rfl rfl, rfl, _, rfl, ite2 (fun _ => ?_) (fun c => absurd (decide_eq_true rfl) c)⟩
    refine ⟨_, rfl, _, _, _, _, rfl, rfl, SqT.of h1, at_of (j := 1) rfl rfl, b, rfl, ⟨_, SqL.of h2⟩, fun D hD => lcS (n := vs.length) hD (small1000 (by omega)) _ (fun j v _ => ∃ bd, ls[j]? = some bd ∧ v = .int (costB f bd))
      (go_l (SqL.of h2)) (stop_l (SqL.of h2)) (yld_l (SqL.of h2)) (fun j v A B _ h => h) ?_ ?_⟩
    · intro i x H2 R hi hx s2 k
      obtain ⟨b', bd, rfl, e1, e2⟩ := h3.get hx
      have hm : bd ∈ ls := List.mem_of_getElem? e1
      have m1 := nIBs_mem hm
      have m2 := dBs_mem hm
      simp only [nI] at hN
      simp only [dI] at hn
      exact ⟨rfl, _, rfl, _, rfl, L, ns, f, b', bd, rfl, hL.same s2, e2.keep (Kp.of s2), okBs_all.mp k4 bd hm, by omega, by omega, fun H3 s3 => k _ H3 s3 ⟨bd, e1, rfl⟩⟩
    · intro H2 ys s2 hy hyl hg
      have e := ext_map (ys := ys) (l := ls) (f := fun b => V.int (costB f b)) (by omega) hg
      refine ⟨D, ls.map (costB f), rfl, SqL.of (by rw [hy, e, List.map_map]; rfl), by rw [List.length_map]; omega, fun m hm hle => ?_⟩
      have := minL_unique hm hle
      rw [this]
      have := q H2 s2
      simp only [cost, costBs_map] at this
      exact this
theorem okLeastBody (T : Txt K mg) (n : Nat) (GLeastInItem : FnOk P w K mg base CX0 (2 * n + 2) T.aLeastInItem T.fLeastInItem ["least", "item"] (spLeastItem n)) :
    FnOk P w K mg base CX0 (2 * n + 3) T.aLeastInBody T.fLeastInBody ["least", "body"] (spLeastBody (n + 1)) := by
  refine T.FLeastInBody.ok scLeastInBody (fun vs H Q E h => ?_) (fun cdv A outer s H vs Q E hr h => ?_)
  · obtain ⟨L, ns, f, b, l, rfl, _⟩ := h
    rfl
  obtain ⟨L, ns, f, b, l, rfl, hL, ⟨vs, hb, hits⟩, hok, hN, hn, q⟩ := h
  have hu := hu_of hr
  refine ⟨_, (pss_one (ps_ret (pe_callB (cr_sum rfl) (by rfl) T.n_sum (by decide +kernel) (pa_cons (pe_lc (own := [("item", 2)]) (g := gName 2) (tt := tYes) rfl scLeastInBody.nd (pi_list (pv 1)) (blkOk_by (N := ["least", "body", "item"]) (sc := defScope sLeastInBody) (by decide +kernel)) (fun _ _ _ _ _ => (pg_name (i := 2) scLeastInBody.nd rfl (by first | exact Or.inl rfl | exact Or.inr rfl))) (fun _ _ _ _ _ => pts_nil) (fun _ _ _ _ _ => (pe_call GLeastInItem (hr.mono (by omega)) rfl T.gLeastInItem T.FLeastInItem.kp T.bLeastInItem .nil pass0 (pa_cons (pv 0) (pa_cons (pv 2) pa_nil))))) pa_nil)))), ?_⟩
  have hl := hits.length
  have c6 := nIB_eq l
  refine ⟨_, rfl, b, rfl, ⟨_, SqL.of hb⟩, fun D hD => lcS (n := vs.length) hD (small1000 (by omega)) _ (fun j v _ => ∃ it, l[j]? = some it ∧ v = .int (cost f it))
    (go_l (SqL.of hb)) (stop_l (SqL.of hb)) (yld_l (SqL.of hb)) (fun j v A B _ h => h) ?_ ?_⟩
  · intro i x H2 R hi hx s2 k
    obtain ⟨it, e1, e2⟩ := hits.get hx
    have hm : it ∈ l := List.mem_of_getElem? e1
    have c7 := dB_mem hm
    have c8 : nI it ≤ sI l := by
      have c2 := sI_take e1
      have c4 := sI_take_le l (i + 1)
      omega
    exact ⟨rfl, _, rfl, _, rfl, L, ns, f, x, it, rfl, hL.same s2, e2.keep (Kp.of s2), okB_all.mp hok it hm, by omega, by omega, fun H3 s3 => k _ H3 s3 ⟨it, e1, rfl⟩⟩
  · intro H2 ys s2 hy hyl hg
    have e := ext_map (ys := ys) (l := l) (f := fun it => V.int (cost f it)) (by omega) hg
    refine ⟨D, l.map (cost f), rfl, SqL.of (by rw [hy, e, List.map_map]; rfl), ?_⟩
    rw [← costB_sum]
    exact q H2 s2
theorem okLeast (T : Txt K mg) : ∀ n : Nat, FnOk P w K mg base CX0 (2 * n + 1) T.aLeastInBody T.fLeastInBody ["least", "body"] (spLeastBody n)
  | 0 => fn_never fun vs H Q E h => by
    obtain ⟨L, ns, f, b, l, _, _, _, _, _, h0, _⟩ := h
    have := dB_pos l
    omega
  | n + 1 => okLeastBody T n (okLeastItem T n (okLeast T n))
end K43


set_option Elab.async false
set_option linter.all false
set_option maxRecDepth 100000
set_option maxHeartbeats 4000000
namespace K43
open PySem PySem.Spec PyProof.Rows L2 FA
variable {P : Program} {w : World} {K : PySem.W.Frag} {mg : Str → Option Value} {base : Heap}
/-- a program, by point 5 -/
structure Valid (p : Pr) : Prop where
  len : p.length ≤ 6
  main : ("main" : Str) ∈ pNames p
  nm : ∀ x ∈ pNames p, FA.okName x
  nd : (pNames p).Nodup
  ok : ∀ x l, p.lookup x = some l → okB (pNames p) l ∧ nCB l ≤ 5 ∧ nIB l ≤ 12 ∧ dB l ≤ 4
  ret : ∀ x ∈ pNames p, rnd 13 p p.length x ≤ 12
theorem Rd.lock {H H1 : Hp} {d L : Addr} {od : Obj} {kvs kvs' : List (Key × V)} (hL : Rd H L (.dK kvs')) (hd : Rd H d (.dK kvs)) (e : H1 d = some (.frz od (.dK kvs))) (k : ∀ b, b ≠ d → H1 b = H b) : Rd H1 L (.dK kvs') := by
  by_cases h : L = d
  · subst h
    have : kvs' = kvs := by
      rcases hL with h1 | ⟨o, h1⟩
      · rcases hd with h2 | ⟨o', h2⟩
        · rw [h1] at h2; cases h2; rfl
        · rw [h1] at h2; cases h2
      · rcases hd with h2 | ⟨o', h2⟩
        · rw [h1] at h2; cases h2
        · rw [h1] at h2; cases h2; rfl
    subst this
    exact .inr ⟨od, e⟩
  · unfold Rd
    rw [k L h]
    exact hL
theorem Kp.lock {H H1 : Hp} {d : Addr} {kvs : List (Key × V)} (hd : Rd H d (.dK kvs)) (k : ∀ b, b ≠ d → H1 b = H b) : Kp H H1 := by
  refine ⟨fun a xs e => ?_, fun a xs e => ?_⟩
  · rw [k a]; exact e
    rintro rfl
    rcases hd with h | ⟨o, h⟩ <;> rw [h] at e <;> cases e
  · rw [k a]; exact e
    rintro rfl
    rcases hd with h | ⟨o, h⟩ <;> rw [h] at e <;> cases e
/-- the least numbers as they stand in the dict -/
def lsKv (p : Pr) (f : Str → Int) : List (Key × V) := p.map fun q => (.inr q.1, .int (f q.1))
theorem lsKv_look {f : Str → Int} {x : Str} : ∀ {p : Pr}, x ∈ pNames p → valV (lsKv p f) (.inr x) = some (.int (f x))
  | (y, l) :: p, h => by
    by_cases e : y = x
    · subst e; exact valV_pos rfl
    · rcases List.mem_cons.mp (show x ∈ y :: pNames p from h) with z | z
      · exact absurd z.symm e
      · have q := lsKv_look (f := f) z
        unfold lsKv at q ⊢
        rw [List.map_cons, valV_neg (fun z => e (Sum.inr.inj z))]
        exact q
theorem lsKv_at {H : Hp} {L : Addr} {p : Pr} {f : Str → Int} (h : H L = some (.dK (lsKv p f))) : LsAt H L (pNames p) f := ⟨_, .inl h, fun x hx => lsKv_look hx⟩
def keyF (f : Str → Int) : Key → V
  | .inl _ => .non
  | .inr x => .int (f x)
theorem kvs_keyF {H : Hp} {f : Str → Int} : ∀ {kvs : List (Key × V)} {p : Pr}, PrKv H kvs p → (kvs.map fun q => (q.1, keyF f q.1)) = lsKv p f
  | _, _, .nil => rfl
  | _, _, .cons h t => by
    have := kvs_keyF (f := f) t
    unfold lsKv at this ⊢
    rw [List.map_cons, List.map_cons, this]
    rfl
theorem key_at {H : Hp} {kvs : List (Key × V)} {p : Pr} (h : PrKv H kvs p) {i : Nat} {k : Key} {v : V} (e : kvs[i]? = some (k, v)) : ∃ x, k = .inr x ∧ (pNames p)[i]? = some x ∧ x ∈ pNames p := by
  have q := h.keys
  have e2 : (kvs.map (·.1))[i]? = some k := by rw [List.getElem?_map, e]; rfl
  rw [q] at e2
  rw [List.getElem?_map] at e2
  cases e3 : p[i]? with
  | none => rw [e3] at e2; cases e2
  | some r =>
    rw [e3] at e2
    cases e2
    have e4 : (pNames p)[i]? = some r.1 := by unfold pNames; rw [List.getElem?_map, e3]; rfl
    exact ⟨r.1, rfl, e4, List.mem_of_getElem? e4⟩
theorem keys_nd {H : Hp} {kvs : List (Key × V)} {p : Pr} (h : PrKv H kvs p) (nd : (pNames p).Nodup) : (kvs.map (·.1)).Nodup := by
  rw [h.keys]
  have : (p.map fun q => (Sum.inr q.1 : Key)) = (pNames p).map Sum.inr := by unfold pNames; rw [List.map_map]; rfl
  rw [this]
  exact List.Pairwise.map _ (fun a b hab z => hab (Sum.inr.inj z)) nd
def spLeastCalls : Sp := fun vs H Q _ => ∃ (d : Addr) (p : Pr), vs = [.ref d] ∧ PrAt H d p ∧ (pNames p).Nodup ∧ p.length ≤ 6 ∧ (∀ x l, p.lookup x = some l → okB (pNames p) l ∧ nIB l ≤ 12 ∧ dB l ≤ 4) ∧
  ∀ L H', Same H H' → H' L = some (.dK (lsKv p (rnd 13 p p.length))) → Q (.ref L) H'
theorem okLeastCalls (T : Txt K mg) : FnOk P w K mg base CX0 10 T.aLeastCalls T.fLeastCalls ["program"] spLeastCalls := by
  have GLeastInBody := okLeast (P := P) (w := w) (base := base) T 4
  refine T.FLeastCalls.ok scLeastCalls (fun vs H Q E h => ?_) (fun cdv A outer s H vs Q E hr h => ?_)
  · obtain ⟨d, p, rfl, _⟩ := h
    rfl
  obtain ⟨d, p, rfl, ⟨kvs, hd, hk⟩, nd, hlen, hok, q⟩ := h
  have hu := hu_of hr
  refine ⟨_, (pss_cons (ps_set (i := 1) scLeastCalls.nd rfl (by first | exact Or.inl rfl | exact Or.inr rfl) (pe_op op_add (pe_glob (v := .int 12) rfl T.c_MOST_CALLS_TO_RETURN ⟨_, rfl⟩) pe_int))
      (pss_cons (ps_set (i := 2) scLeastCalls.nd rfl (by first | exact Or.inl rfl | exact Or.inr rfl) (pe_lock2 (pe_dc (own := [("name", 4)]) (g := gName 4) (tt := tYes) rfl scLeastCalls.nd (pi_keys (pv 0)) (blkOk_by (N := ["program", "too_many", "least", "_", "name"]) (sc := defScope sLeastCalls) (by decide +kernel)) (fun _ _ _ _ _ => (pg_name (i := 4) scLeastCalls.nd rfl (by first | exact Or.inl rfl | exact Or.inr rfl))) (fun _ _ _ _ _ => pts_nil) (fun _ _ _ _ _ => (pv 4)) (fun _ _ _ _ _ => (pv 1)))))
      (pss_cons (ps_for PassesOwn.never rfl (pi_range1 (by rfl) T.n_range (pa_cons (pe_callB call_lenR (by rfl) T.n_len PySem.boot_len (pa_cons (pv 0) pa_nil)) pa_nil)) (pg_name (i := 3) scLeastCalls.nd rfl (by first | exact Or.inl rfl | exact Or.inr rfl))
        (pss_one (ps_set (i := 2) scLeastCalls.nd rfl (by first | exact Or.inl rfl | exact Or.inr rfl) (pe_lock2 (pe_dc (own := [("name", 4)]) (g := gName 4) (tt := tYes) rfl scLeastCalls.nd (pi_keys (pv 0)) (blkOk_by (N := ["program", "too_many", "least", "_", "name"]) (sc := defScope sLeastCalls) (by decide +kernel)) (fun _ _ _ _ _ => (pg_name (i := 4) scLeastCalls.nd rfl (by first | exact Or.inl rfl | exact Or.inr rfl))) (fun _ _ _ _ _ => pts_nil) (fun _ _ _ _ _ => (pv 4)) (fun _ _ _ _ _ => (pe_callB (call_min2 rfl) (by rfl) T.n_min (by decide +kernel) (pa_cons (pv 1) (pa_cons (pe_op op_add pe_int (pe_call GLeastInBody (hr.mono (by omega)) rfl T.gLeastInBody T.FLeastInBody.kp T.bLeastInBody .nil pass0 (pa_cons (pv 2) (pa_cons (pe_dget hu (pv 0) (pv 4) (fun _ _ => rfl)) pa_nil)))) pa_nil)))))))))
      (pss_one (ps_ret (pv 2)))))), ?_⟩
  have hkl := hk.length
  have knd := keys_nd hk nd
  refine ⟨_, _, rfl, rfl, ?_⟩
  refine lock2 hd (fun v H => ∃ D, v = .ref D ∧ D ≠ d ∧ H D = some (.dK (lsKv p (rnd 13 p 0)))) (fun v H2 H3 k ⟨D, e1, e2, e3⟩ => ⟨D, e1, e2, by rw [k D e2]; exact e3⟩) ?_ ?_
  · intro H1 od R h1 k1 kR
    refine ⟨_, rfl, d, od, rfl, .inl ⟨kvs, h1, fun D hD => dcS hD h1 knd (small1000 (by omega)) (by show 4 < 5; decide) (keyF (rnd 13 p 0)) ?_ ?_⟩⟩
    · intro i k v H2 R2 e sm kk
      obtain ⟨x, rfl, _, _⟩ := key_at hk e
      exact ⟨_, rfl, kk H2 (Same.refl _)⟩
    · intro H2 sm hD2
      rw [kvs_keyF hk] at hD2
      exact kR _ H2 sm ⟨D, rfl, (fun z => by rw [z, h1] at hD; cases hD), hD2⟩
  · rintro _ H1 sm ⟨D, rfl, hDd, hD⟩
    refine ⟨_, rfl, d, kvs, rfl, Rd.same sm hd, (kvs.length : Nat), rfl, by omega, by have := small1000 (n := kvs.length) (by omega); have := sizeLine_eq; omega, ?_⟩
    have en : ((kvs.length : Nat) : Int).toNat = p.length := by omega
    rw [en]
    refine for_range (lo := 0) (n := p.length) (fun i σ H' => ∃ L v3, σ = [some (.ref d), some (.int 13), some (.ref L), v3, none] ∧ Same H H' ∧ H' L = some (.dK (lsKv p (rnd 13 p i)))) ⟨D, none, rfl, sm, hD⟩ ?_ ?_
    · rintro i σ H2 hi ⟨L, v3, rfl, s2, hL⟩
      have hd2 := Rd.same s2 hd
      refine lock2 hd2 (fun v H => ∃ D, v = .ref D ∧ D ≠ d ∧ H D = some (.dK (lsKv p (rnd 13 p (i + 1))))) (fun v H2 H3 k ⟨D, e1, e2, e3⟩ => ⟨D, e1, e2, by rw [k D e2]; exact e3⟩) ?_ ?_
      · intro H3 od R h1 k1 kR
        have kp : Kp H2 H3 := Kp.lock hd2 k1
        have hk3 : PrKv H3 kvs p := (hk.keep (Kp.of s2)).keep kp
        have hL3 : LsAt H3 L (pNames p) (rnd 13 p i) := ⟨_, Rd.lock (.inl hL) hd2 h1 k1, fun x hx => lsKv_look hx⟩
        refine ⟨_, rfl, d, od, rfl, .inl ⟨kvs, h1, fun D hD => dcS hD h1 knd (small1000 (by omega)) (by show 4 < 5; decide) (keyF (rnd 13 p (i + 1))) ?_ ?_⟩⟩
        · intro j k v H4 R2 e s4 kk
          obtain ⟨x, rfl, _, hx⟩ := key_at hk e
          have pa : PrAt H4 d p := PrAt.same s4 ⟨kvs, .inr ⟨od, h1⟩, hk3⟩
          obtain ⟨l0, e0⟩ := lookup_mem hx
          rcases pa.look (x := x) with ⟨z1, _⟩ | ⟨l, b, z1, z2, z3⟩
          · rw [e0] at z1; cases z1
          · obtain ⟨o1, o2, o3⟩ := hok x l z1
            refine ⟨_, rfl, _, rfl, _, rfl, _, rfl, d, _, rfl, z2, L, pNames p, rnd 13 p i, b, l, rfl, hL3.same s4, z3, o1, o2, o3, fun H5 s5 => ?_⟩
            refine ⟨_, _, rfl, rfl, _, _, rfl, ?_⟩
            have ev : (if (1 : Int) + costB (rnd 13 p i) l < 13 then (1 : Int) + costB (rnd 13 p i) l else 13) = rnd 13 p (i + 1) x := by
              have eb : bodyOf p x = l := by unfold bodyOf; rw [z1]; rfl
              simp only [rnd, eb]
              split <;> omega
            rw [ev]
            exact kk H5 s5
        · intro H4 s4 hD4
          rw [kvs_keyF hk] at hD4
          exact kR _ H4 s4 ⟨D, rfl, (fun z => by rw [z, h1] at hD; cases hD), hD4⟩
      · rintro _ H3 s3 ⟨D', rfl, hDd', hD'⟩
        exact ⟨D', _, rfl, s2.trans s3, hD'⟩
    · rintro σ H2 ⟨L, v3, rfl, s2, hL⟩
      exact ⟨_, rfl, q L H2 s2 hL⟩
end K43


set_option Elab.async false
set_option linter.all false
set_option maxRecDepth 100000
set_option maxHeartbeats 4000000
namespace K43
open PySem PySem.Spec PyProof.Rows L2 FA
variable {P : Program} {w : World} {K : PySem.W.Frag} {mg : Str → Option Value} {base : Heap}
def spIsProgram : Sp := fun vs H Q _ => ∃ (d : Addr) (p : Pr), vs = [.ref d] ∧ PrAt H d p ∧ Valid p ∧ ∀ H', Same H H' → Q (.bl true) H'
theorem all_true (n : Nat) : ((List.replicate n true).all id) = true := by simp
theorem trues {ys : List V} {n : Nat} (hl : ys.length = n) (h : ∀ (j : Nat) y, ys[j]? = some y → y = .bl true) : ys = (List.replicate n true).map V.bl := by
  refine List.ext_getElem? fun j => ?_
  rw [List.map_replicate, List.getElem?_replicate]
  by_cases hj : j < ys.length
  · rw [List.getElem?_eq_getElem hj, h j ys[j] (List.getElem?_eq_getElem hj), if_pos (by omega)]
  · rw [List.getElem?_eq_none (by omega), if_neg (by omega)]
theorem okIsProgram (T : Txt K mg) : FnOk P w K mg base CX0 12 T.aIsProgram T.fIsProgram ["value"] spIsProgram := by
  have GIsName : FnOk P w K mg base CX0 1 T.aIsName T.fIsName ["value"] spIsName := okIsName T
  have GBodySize := okSizes (P := P) (w := w) (base := base) T 4 (by omega)
  have GLeastCalls : FnOk P w K mg base CX0 10 T.aLeastCalls T.fLeastCalls ["program"] spLeastCalls := okLeastCalls T
  refine T.FIsProgram.ok scIsProgram (fun vs H Q E h => ?_) (fun cdv A outer s H vs Q E hr h => ?_)
  · obtain ⟨d, p, rfl, _⟩ := h
    rfl
  obtain ⟨d, p, rfl, hpa, va, q⟩ := h
  have hu := hu_of hr
  obtain ⟨kvs, hd, hk⟩ := id hpa
  have hkl := hk.length
  have hlen := va.len
  refine ⟨_, (pss_cons (ps_if (PW.pt (pw_or (pt_not (pt_val (pe_callB call_isi (by rfl) T.n_isinstance (by decide +kernel) (pa_cons (pv 0) (pa_cons (pe_bltn (v := .ty "dict") (by rfl) T.n_dict (by decide +kernel) rfl) pa_nil))))) (pw_or (pt_cmpR op_gt (pe_callB call_lenR (by rfl) T.n_len PySem.boot_len (pa_cons (pv 0) pa_nil)) (pe_glob (v := .int 6) rfl T.c_MOST_FUNCTIONS ⟨_, rfl⟩) (nomark _)) (pw_or1 (pt_cmp (pc_dnotin hu pe_str (pv 0)))))))
        (pss_one (ps_ret pe_bl)) pss_nil)
      (pss_cons (ps_if (pt_not (pt_val (pe_callB (cr_all rfl) (by rfl) T.n_all (by decide +kernel) (pa_cons (pe_lock2 (pe_lc (own := [("name", 2)]) (g := gName 2) (tt := tYes) rfl scIsProgram.nd (pi_keys (pv 0)) (blkOk_by (N := ["value", "least", "name"]) (sc := defScope sIsProgram) (by decide +kernel)) (fun _ _ _ _ _ => (pg_name (i := 2) scIsProgram.nd rfl (by first | exact Or.inl rfl | exact Or.inr rfl))) (fun _ _ _ _ _ => pts_nil) (fun _ _ _ _ _ => (pe_call GIsName (hr.mono (by omega)) rfl T.gIsName T.FIsName.kp T.bIsName .nil pass0 (pa_cons (pv 2) pa_nil))))) pa_nil))))
        (pss_one (ps_ret pe_bl)) pss_nil)
      (pss_cons (ps_if (pt_not (pt_val (pe_callB (cr_all rfl) (by rfl) T.n_all (by decide +kernel) (pa_cons (pe_lock2 (pe_lc (own := [("name", 2)]) (g := gName 2) (tt := tYes) rfl scIsProgram.nd (pi_keys (pv 0)) (blkOk_by (N := ["value", "least", "name"]) (sc := defScope sIsProgram) (by decide +kernel)) (fun _ _ _ _ _ => (pg_name (i := 2) scIsProgram.nd rfl (by first | exact Or.inl rfl | exact Or.inr rfl))) (fun _ _ _ _ _ => pts_nil) (fun _ _ _ _ _ => (pe_cmpR op_notN (pe_call GBodySize (hr.mono (by omega)) rfl T.gBodySize T.FBodySize.kp T.bBodySize .nil pass0 (pa_cons (pv 0) (pa_cons (pe_dget hu (pv 0) (pv 2) (fun _ _ => rfl)) (pa_cons pe_int pa_nil)))) pe_non (nomark _))))) pa_nil))))
        (pss_one (ps_ret pe_bl)) pss_nil)
      (pss_cons (ps_set (i := 1) scIsProgram.nd rfl (by first | exact Or.inl rfl | exact Or.inr rfl) (pe_call GLeastCalls (hr.mono (by omega)) rfl T.gLeastCalls T.FLeastCalls.kp T.bLeastCalls .nil pass0 (pa_cons (pv 0) pa_nil)))
      (pss_one (ps_ret (pe_callB (cr_all rfl) (by rfl) T.n_all (by decide +kernel) (pa_cons (pe_lock2 (pe_lc (own := [("name", 2)]) (g := gName 2) (tt := tYes) rfl scIsProgram.nd (pi_keys (pv 1)) (blkOk_by (N := ["value", "least", "name"]) (sc := defScope sIsProgram) (by decide +kernel)) (fun _ _ _ _ _ => (pg_name (i := 2) scIsProgram.nd rfl (by first | exact Or.inl rfl | exact Or.inr rfl))) (fun _ _ _ _ _ => pts_nil) (fun _ _ _ _ _ => (pe_cmpR op_le (pe_dget hu (pv 1) (pv 2) (fun _ _ => rfl)) (pe_glob (v := .int 12) rfl T.c_MOST_CALLS_TO_RETURN ⟨_, rfl⟩) (nomark _))))) pa_nil)))))))), ?_⟩
  -- a dict, not too long, with a main
  refine ⟨_, rfl, _, _, _, _, true, rfl, .ty _, ty_dict hd, kit_ty (by decide +kernel), _, rfl, iteF ?_⟩
  refine ⟨_, rfl, d, kvs, rfl, hd, _, _, rfl, rfl, _, rfl, ite2 (fun c => absurd (of_decide_eq_true c) (by omega)) (fun _ => ?_)⟩
  obtain ⟨l0, e0⟩ := lookup_mem va.main
  rcases hpa.look (x := "main") with ⟨z1, _⟩ | ⟨l, b, z1, z2, z3⟩
  · rw [e0] at z1; cases z1
  refine ⟨_, rfl, d, _, rfl, z2, _, rfl, iteF ?_⟩
  -- all names
  refine lock2 hd (fun v H => ∃ D, v = .ref D ∧ D ≠ d ∧ H D = some (.lst ((List.replicate kvs.length true).map V.bl))) (fun v H2 H3 k ⟨D, e1, e2, e3⟩ => ⟨D, e1, e2, by rw [k D e2]; exact e3⟩) ?_ ?_
  · intro H1 od R h1 k1 kR
    refine ⟨_, rfl, d, od, rfl, .inl ⟨kvs, h1, fun D hD => lcS (n := kvs.length) hD (small1000 (by omega)) _ (fun _ v _ => v = .bl true) (go_k h1) (stop_k h1) yld_k (fun _ _ _ _ _ e => e) ?_ ?_⟩⟩
    · rintro i _ H2 R2 hi ⟨k, v, e, rfl⟩ sm kk
      obtain ⟨x, rfl, _, hx⟩ := key_at hk e
      exact ⟨rfl, _, rfl, x, rfl, va.nm x hx, fun H3 s3 => kk _ H3 s3 rfl⟩
    · intro H2 ys s2 hy hl hg
      rw [trues hl hg] at hy
      exact kR _ H2 s2 ⟨D, rfl, (fun z => by rw [z, h1] at hD; cases hD), hy⟩
  rintro _ H1 s1 ⟨D1, rfl, _, hD1⟩
  refine ⟨D1, _, rfl, SqL.of hD1, ?_⟩
  rw [all_true]
  refine ⟨_, rfl, iteF ?_⟩
  have hd1 := Rd.same s1 hd
  have hk1 := hk.keep (Kp.of s1)
  -- all bodies
  refine lock2 hd1 (fun v H => ∃ D, v = .ref D ∧ D ≠ d ∧ H D = some (.lst ((List.replicate kvs.length true).map V.bl))) (fun v H2 H3 k ⟨D, e1, e2, e3⟩ => ⟨D, e1, e2, by rw [k D e2]; exact e3⟩) ?_ ?_
  · intro H2 od R h1 k1 kR
    have hk2 : PrKv H2 kvs p := hk1.keep (Kp.lock hd1 k1)
    have kn : Known H2 d p := ⟨⟨kvs, .inr ⟨od, h1⟩, hk2⟩, va.nm⟩
    refine ⟨_, rfl, d, od, rfl, .inl ⟨kvs, h1, fun D hD => lcS (n := kvs.length) hD (small1000 (by omega)) _ (fun _ v _ => v = .bl true) (go_k h1) (stop_k h1) yld_k (fun _ _ _ _ _ e => e) ?_ ?_⟩⟩
    · rintro i _ H3 R2 hi ⟨k, v, e, rfl⟩ s3 kk
      obtain ⟨x, rfl, _, hx⟩ := key_at hk e
      obtain ⟨l, b, z1, z2, z3⟩ := (kn.same s3).has hx
      obtain ⟨o1, o2, o3, o4⟩ := va.ok x l z1
      refine ⟨rfl, _, rfl, _, rfl, _, rfl, d, _, rfl, z2, d, p, b, l, 1, rfl, kn.same s3, z3, o1, o4, by omega, o2, o3, fun t H4 s4 ht => ?_⟩
      exact ⟨rfl, kk _ H4 s4 (by rfl)⟩
    · intro H3 ys s3 hy hl hg
      rw [trues hl hg] at hy
      exact kR _ H3 s3 ⟨D, rfl, (fun z => by rw [z, h1] at hD; cases hD), hy⟩
  rintro _ H2 s2 ⟨D2, rfl, _, hD2⟩
  refine ⟨D2, _, rfl, SqL.of hD2, ?_⟩
  rw [all_true]
  refine ⟨_, rfl, iteF ?_⟩
  -- the least calls
  have s12 := s1.trans s2
  refine ⟨_, rfl, d, p, rfl, PrAt.same s12 hpa, va.nd, va.len, fun x l e => ⟨(va.ok x l e).1, (va.ok x l e).2.2.1, (va.ok x l e).2.2.2⟩, fun L H3 s3 hL => ?_⟩
  refine lock2 (d := L) (.inl hL) (fun v H => ∃ D, v = .ref D ∧ D ≠ L ∧ H D = some (.lst ((List.replicate (lsKv p (rnd 13 p p.length)).length true).map V.bl))) (fun v H2 H3 k ⟨D, e1, e2, e3⟩ => ⟨D, e1, e2, by rw [k D e2]; exact e3⟩) ?_ ?_
  · intro H4 od R h1 k1 kR
    have hll : (lsKv p (rnd 13 p p.length)).length = p.length := by unfold lsKv; rw [List.length_map]
    refine ⟨_, rfl, L, od, rfl, .inl ⟨_, h1, fun D hD => lcS (n := (lsKv p (rnd 13 p p.length)).length) hD (small1000 (by omega)) _ (fun _ v _ => v = .bl true) (go_k h1) (stop_k h1) yld_k (fun _ _ _ _ _ e => e) ?_ ?_⟩⟩
    · rintro i _ H5 R2 hi ⟨k, v, e, rfl⟩ s5 kk
      have ek : ∃ x ∈ pNames p, k = .inr x := by
        unfold lsKv at e
        rw [List.getElem?_map] at e
        cases e3 : p[i]? with
        | none => rw [e3] at e; cases e
        | some r =>
          rw [e3] at e
          cases e
          exact ⟨r.1, List.mem_map.mpr ⟨r, List.mem_of_getElem? e3, rfl⟩, rfl⟩
      obtain ⟨x, hx, rfl⟩ := ek
      have le := va.ret x hx
      refine ⟨rfl, _, rfl, _, rfl, L, _, rfl, .inl ⟨_, .inr x, .inr ⟨od, s5 _ _ h1⟩, rfl, (lsKv_look hx).symm⟩, _, _, rfl, rfl, ?_⟩
      exact kk _ H5 (Same.refl _) (congrArg V.bl (decide_eq_true le))
    · intro H5 ys s5 hy hl hg
      rw [trues hl hg] at hy
      exact kR _ H5 s5 ⟨D, rfl, (fun z => by rw [z, h1] at hD; cases hD), hy⟩
  rintro _ H5 s5 ⟨D3, rfl, _, hD3⟩
  refine ⟨D3, _, rfl, SqL.of hD3, ?_⟩
  rw [all_true]
  exact q H5 (s12.trans (s3.trans s5))
def spIsFunction : Sp := fun vs H Q _ => ∃ (d : Addr) (p : Pr) (x : Str), vs = [.ref d, .str x] ∧ PrAt H d p ∧ x ∈ pNames p ∧ Q (.bl true) H
theorem okIsFunction (T : Txt K mg) : FnOk P w K mg base CX0 1 T.aIsFunction T.fIsFunction ["program", "value"] spIsFunction := by
  refine T.FIsFunction.ok scIsFunction (fun vs H Q E h => ?_) (fun cdv A outer s H vs Q E hr h => ?_)
  · obtain ⟨d, p, x, rfl, _⟩ := h
    rfl
  obtain ⟨d, p, x, rfl, hpa, hx, q⟩ := h
  have hu := hu_of hr
  refine ⟨_, (pss_one (ps_ret (pe_and (pe_callB call_isi (by rfl) T.n_isinstance (by decide +kernel) (pa_cons (pv 1) (pa_cons (pe_bltn (v := .ty "str") (by rfl) T.n_str (by decide +kernel) rfl) pa_nil))) (pe_one (pe_cmp (pc_din hu (pv 1) (pv 0))))))), ?_⟩
  obtain ⟨l0, e0⟩ := lookup_mem hx
  rcases hpa.look (x := x) with ⟨z1, _⟩ | ⟨l, b, z1, z2, z3⟩
  · rw [e0] at z1; cases z1
  refine ⟨_, rfl, _, _, _, _, true, rfl, .ty _, ty_str x, kit_ty (by decide +kernel), _, rfl, iteT ?_⟩
  exact ⟨_, rfl, _, rfl, d, _, rfl, z2, q⟩
def spCheckProgram : Sp := fun vs H Q _ => ∃ (d : Addr) (p : Pr), vs = [.ref d] ∧ PrAt H d p ∧ Valid p ∧ ∀ H', Same H H' → Q .non H'
theorem okCheckProgram (T : Txt K mg) : FnOk P w K mg base CX0 13 T.aCheckProgram T.fCheckProgram ["program"] spCheckProgram := by
  have GIsProgram : FnOk P w K mg base CX0 12 T.aIsProgram T.fIsProgram ["value"] spIsProgram := okIsProgram T
  refine T.FCheckProgram.ok scCheckProgram (fun vs H Q E h => ?_) (fun cdv A outer s H vs Q E hr h => ?_)
  · obtain ⟨d, p, rfl, _⟩ := h
    rfl
  obtain ⟨d, p, rfl, hpa, va, q⟩ := h
  refine ⟨_, (pss_one (ps_if (pt_not (pt_val (pe_call GIsProgram (hr.mono (by omega)) rfl T.gIsProgram T.FIsProgram.kp T.bIsProgram .nil pass0 (pa_cons (pv 0) pa_nil))))
        (pss_one ps_never) pss_nil)), ?_⟩
  exact ⟨_, rfl, d, p, rfl, hpa, va, fun H1 s1 => ⟨_, rfl, iteF (q H1 s1)⟩⟩
def spCheckName : Sp := fun vs H Q _ => ∃ (d : Addr) (p : Pr) (x : Str), vs = [.ref d, .str x] ∧ PrAt H d p ∧ x ∈ pNames p ∧ Q .non H
theorem okCheckName (T : Txt K mg) : FnOk P w K mg base CX0 2 T.aCheckName T.fCheckName ["program", "name"] spCheckName := by
  have GIsFunction : FnOk P w K mg base CX0 1 T.aIsFunction T.fIsFunction ["program", "value"] spIsFunction := okIsFunction T
  refine T.FCheckName.ok scCheckName (fun vs H Q E h => ?_) (fun cdv A outer s H vs Q E hr h => ?_)
  · obtain ⟨d, p, x, rfl, _⟩ := h
    rfl
  obtain ⟨d, p, x, rfl, hpa, hx, q⟩ := h
  refine ⟨_, (pss_one (ps_if (pt_not (pt_val (pe_call GIsFunction (hr.mono (by omega)) rfl T.gIsFunction T.FIsFunction.kp T.bIsFunction .nil pass0 (pa_cons (pv 0) (pa_cons (pv 1) pa_nil)))))
        (pss_one ps_never) pss_nil)), ?_⟩
  exact ⟨_, rfl, _, rfl, d, p, x, rfl, hpa, hx, _, rfl, iteF q⟩
end K43


set_option Elab.async false
set_option linter.all false
set_option maxRecDepth 100000
set_option maxHeartbeats 4000000
namespace K43
open PySem PySem.Spec PyProof.Rows L2 FA
variable {P : Program} {w : World} {K : PySem.W.Frag} {mg : Str → Option Value} {base : Heap}
/-- a source of draws at a: at most n numbers were mixed -/
def WellAt (H : Hp) (a : Addr) (n : Nat) : Prop := ∃ x y z : Int, H a = some (.lst [.int x, .int y, .int z]) ∧ 0 ≤ x ∧ x.natAbs < 2 ^ 20000 ∧ 0 ≤ y ∧ y.natAbs < 2 ^ 100 ∧ 0 ≤ z ∧ z ≤ n
theorem WellAt.mono {H : Hp} {a : Addr} {n m : Nat} (h : WellAt H a n) (hm : n ≤ m) : WellAt H a m := by
  obtain ⟨x, y, z, h1, h2, h3, h4, h5, h6, h7⟩ := h
  exact ⟨x, y, z, h1, h2, h3, h4, h5, h6, by omega⟩
theorem WellAt.keep {H H' : Hp} {a : Addr} {n : Nat} (h : WellAt H a n) (k : ∀ o, H a = some o → H' a = some o) : WellAt H' a n := by
  obtain ⟨x, y, z, h1, h⟩ := h
  exact ⟨x, y, z, k _ h1, h⟩
theorem WellAt.some {H : Hp} {a : Addr} {n : Nat} (h : WellAt H a n) : ∃ o, H a = some o := by
  obtain ⟨x, y, z, h1, _⟩ := h
  exact ⟨_, h1⟩
theorem e18 : ((10 : Int) ^ Int.toNat 18) = 1000000000000000000 := by decide
theorem e60 : ((10 : Int) ^ Int.toNat 60) = 1000000000000000000000000000000000000000000000000000000000000 := by decide
theorem abs_small {i : Int} {n : Nat} (h : i.natAbs < 2 ^ n) (hn : n ≤ 1000000) : i.natAbs < 2 ^ 1000000 := Nat.lt_of_lt_of_le h (Nat.pow_le_pow_right (by decide) hn)
/-- one more cell: 200 more bits -/
theorem digits_more {d c : Int} {k : Nat} (h0 : 0 ≤ d) (h : d.natAbs < 2 ^ (1 + 202 * k)) (c0 : 0 ≤ c) (hc : c < (10 : Int) ^ Int.toNat 60) : 0 ≤ d * (10 : Int) ^ Int.toNat 60 + c ∧ (d * (10 : Int) ^ Int.toNat 60 + c).natAbs < 2 ^ (1 + 202 * (k + 1)) := by
  have hp : (0 : Int) ≤ (10 : Int) ^ Int.toNat 60 := by rw [e60]; decide
  have hm := Int.mul_nonneg h0 hp
  refine ⟨by omega, ?_⟩
  have h1 : (d * (10 : Int) ^ Int.toNat 60 + c).natAbs ≤ d.natAbs * 1000000000000000000000000000000000000000000000000000000000000 + 1000000000000000000000000000000000000000000000000000000000000 := by
    rw [e60] at hc ⊢
    have : (d * 1000000000000000000000000000000000000000000000000000000000000).natAbs = d.natAbs * 1000000000000000000000000000000000000000000000000000000000000 := by rw [Int.natAbs_mul]; rfl
    omega
  have h2 : (2 : Nat) ^ (1 + 202 * (k + 1)) = 2 ^ (1 + 202 * k) * 2 ^ 202 := by rw [← Nat.pow_add]; congr 1
  have h3 : (2 : Nat) ^ 202 = 6427752177035961102167848369364650410088811975131171341205504 := by decide
  rw [h2, h3]
  have h4 : 1 ≤ (2 : Nat) ^ (1 + 202 * k) := Nat.one_le_two_pow
  generalize (2 : Nat) ^ (1 + 202 * k) = z at *
  generalize d.natAbs = y at *
  omega
def spSpring : Sp := fun vs H Q _ => ∃ (s : Addr) (ns : List Int), vs = [.ref s] ∧ SqL K H s (ns.map V.int) ∧ ∀ a H', Same H H' → H a = none → WellAt H' a 0 → Q (.ref a) H'
theorem okSpring (T : Txt K mg) : FnOk P w K mg base CX0 1 T.aLSpring T.fLSpring ["script"] (spSpring (K := K)) := by
  refine T.FLSpring.ok scLSpring (fun vs H Q E h => ?_) (fun cdv A outer s H vs Q E hr h => ?_)
  · obtain ⟨s, ns, rfl, _⟩ := h
    rfl
  obtain ⟨a, ns, rfl, hs, q⟩ := h
  have hu := hu_of hr
  refine ⟨_, (pss_cons (ps_asg (pe_tup (pa_cons pe_int (pa_cons pe_int pa_nil))) (pg_tup rfl (pgs_cons (pg_name (i := 2) scLSpring.nd rfl (by first | exact Or.inl rfl | exact Or.inr rfl)) (pgs_cons (pg_name (i := 3) scLSpring.nd rfl (by first | exact Or.inl rfl | exact Or.inr rfl)) pgs_nil))))
      (pss_cons (ps_for PassesOwn.never rfl (pi_list (pe_slice sl_list (pv 0) po_none (po_some pe_int))) (pg_name (i := 1) scLSpring.nd rfl (by first | exact Or.inl rfl | exact Or.inr rfl))
        (pss_cons (ps_if (pt_cmpR op_ge (pe_callB call_abs (by rfl) T.n_abs (by decide +kernel) (pa_cons (pv 1) pa_nil)) (pe_op op_pow pe_int pe_int) (nomark _))
          (pss_one (ps_set (i := 2) scLSpring.nd rfl (by first | exact Or.inl rfl | exact Or.inr rfl) (pe_op op_add (pe_op op_mulW (pv 2) (pe_op op_pow pe_int pe_int)) (pe_op op_mod (pe_callB call_abs (by rfl) T.n_abs (by decide +kernel) (pa_cons (pv 1) pa_nil)) (pe_op op_pow pe_int pe_int))))) pss_nil)
        (pss_one (ps_set (i := 3) scLSpring.nd rfl (by first | exact Or.inl rfl | exact Or.inr rfl) (pe_op op_mod (pe_op op_add (pe_op op_add (pe_op op_mul (pv 3) pe_int) (pe_op op_mod (pv 1) pe_int)) pe_int) pe_int)))))
      (pss_one (ps_ret (pe_lst (pa_cons (pv 2) (pa_cons (pv 3) (pa_cons pe_int pa_nil)))))))), ?_⟩
  have ecut : cutV (ns.map V.int) none (some (40 : Int)) = (ns.take 40).map V.int := by
    rw [show (40 : Int) = ((40 : Nat) : Int) from rfl, cut_to', List.map_take]
  refine ⟨Nat.le_of_lt (small1000 (by simp)), fun tp htp => ?_⟩
  refine ⟨tp, _, rfl, SqT.of upd_same, rfl, _, _, rfl, _, _, rfl, rfl, ?_⟩
  have s0 := same_upd htp (.tup [V.int 0, V.int 70612954409])
  have hs := s0.seq hs
  generalize upd H tp (.tup [V.int 0, V.int 70612954409]) = H0 at s0 hs ⊢
  refine ⟨_, rfl, _, rfl, a, _, rfl, hs, fun p hp => ?_⟩
  rw [ecut]
  have s1 := s0.trans (same_upd hp (.lst ((ns.take 40).map V.int)))
  have hp1 : (upd H0 p (.lst ((ns.take 40).map V.int))) p = some (.lst ((ns.take 40).map V.int)) := upd_same
  generalize upd H0 p (.lst ((ns.take 40).map V.int)) = H1 at s1 hp1 ⊢
  refine ⟨p, rfl, ⟨_, SqL.of hp1⟩, for_list (K := K) (a := p) (xs := (ns.take 40).map V.int) (fun i σ H' => ∃ v1 d y, σ = [some (.ref a), v1, some (.int d), some (.int y)] ∧ H' = H1 ∧ 0 ≤ d ∧ d.natAbs < 2 ^ (1 + 202 * i) ∧ 0 ≤ y ∧ y.natAbs < 2 ^ 100) ⟨none, 0, 70612954409, rfl, rfl, by decide, by decide, by decide, by decide⟩ ?_ ?_ ?_⟩
  · rintro i σ H' _ ⟨_, _, _, _, rfl, _⟩
    exact SqL.of hp1
  · rintro i x σ H' hi ⟨v1, d, y, rfl, rfl, d0, d1, y0, y1⟩
    rw [List.getElem?_map] at hi
    cases hc : (ns.take 40)[i]? with
    | none => rw [hc] at hi; cases hi
    | some cell =>
      rw [hc] at hi
      cases hi
      have rest : ∀ d' : Int, 0 ≤ d' → d'.natAbs < 2 ^ (1 + 202 * (i + 1)) → ∃ v1 d y', ([some (V.ref a), some (V.int cell), some (V.int d'), some (V.int ((y * 1000213 + cell % 2305843009213693951 + 29) % 618970019642690137449562111))] : L2.St) = [some (.ref a), v1, some (.int d), some (.int y')] ∧ H' = H' ∧ 0 ≤ d ∧ d.natAbs < 2 ^ (1 + 202 * (i + 1)) ∧ 0 ≤ y' ∧ y'.natAbs < 2 ^ 100 := fun d' h0 h1 => by
        refine ⟨_, d', _, rfl, rfl, h0, h1, Int.emod_nonneg _ (by decide), ?_⟩
        have m0 := Int.emod_nonneg (y * 1000213 + cell % 2305843009213693951 + 29) (b := 618970019642690137449562111) (by decide)
        have m1 := Int.emod_lt_of_pos (y * 1000213 + cell % 2305843009213693951 + 29) (b := 618970019642690137449562111) (by decide)
        omega
      have hb0 : ∀ z : Int, 0 ≤ (if z < 0 then -z else z) := fun z => by split <;> omega
      refine ⟨_, rfl, _, rfl, _, _, rfl, rfl, ⟨by decide, by decide, by decide⟩, _, _, rfl, rfl, _, rfl, ite2 (fun c => ?_) (fun c => ?_)⟩
      · have m0 := Int.emod_nonneg (if cell < 0 then -cell else cell) (b := (10 : Int) ^ Int.toNat 60) (by rw [e60]; decide)
        have m1 := Int.emod_lt_of_pos (if cell < 0 then -cell else cell) (b := (10 : Int) ^ Int.toNat 60) (by rw [e60]; decide)
        have dm := digits_more d0 d1 m0 m1
        have hi40 : i < 40 := by
          have := (List.getElem?_eq_some_iff.mp hc).1
          rw [List.length_take] at this
          omega
        refine ⟨_, rfl, _, _, rfl, rfl, ⟨by decide, by decide, by decide⟩, _, _, rfl, rfl, wide_mul (a := 1 + 202 * i) (b := 300) d1 (by rw [e60]; decide) (by omega) (by decide) (by omega), ?_⟩
        refine ⟨_, rfl, _, rfl, _, _, rfl, rfl, ⟨by decide, by decide, by decide⟩, _, _, rfl, rfl, (by show (0 : Int) < _; rw [e60]; decide), _, _, rfl, rfl, ?_⟩
        refine ⟨_, rfl, _, _, rfl, rfl, .inr ⟨by decide, by decide⟩, _, rfl, _, _, rfl, rfl, (by show (0 : Int) < _; decide), _, _, rfl, rfl, _, _, rfl, rfl, _, _, rfl, rfl, (by show (0 : Int) < _; decide), ?_⟩
        exact rest _ dm.1 dm.2
      · refine ⟨_, rfl, _, _, rfl, rfl, .inr ⟨by decide, by decide⟩, _, rfl, _, _, rfl, rfl, (by show (0 : Int) < _; decide), _, _, rfl, rfl, _, _, rfl, rfl, _, _, rfl, rfl, (by show (0 : Int) < _; decide), ?_⟩
        exact rest d d0 (Nat.lt_of_lt_of_le d1 (Nat.pow_le_pow_right (by decide) (by omega)))
  · rintro σ H' ⟨v1, d, y, rfl, rfl, d0, d1, y0, y1⟩
    refine ⟨_, rfl, _, rfl, Nat.le_of_lt (small1000 (by simp)), fun r hr2 => ?_⟩
    have hl : ((ns.take 40).map V.int).length ≤ 40 := by rw [List.length_map, List.length_take]; omega
    refine q r _ (s1.trans (same_upd hr2 _)) (s1.free hr2) ⟨d, y, 0, upd_same, d0, Nat.lt_of_lt_of_le d1 (Nat.pow_le_pow_right (by decide) (by omega)), y0, y1, Int.le_refl _, Int.le_refl _⟩
def spDraw : Sp := fun vs H Q _ => ∃ (a : Addr) (m : Int) (n : Nat), vs = [.ref a, .int m] ∧ 1 ≤ m ∧ m < 1000000 ∧ WellAt H a n ∧ n < 2 ^ 90 ∧
  ∀ r H', 0 ≤ r → r < m → Sm [a] H H' → WellAt H' a (n + 1) → Q (.int r) H'
theorem okDraw (T : Txt K mg) : FnOk P w K mg base CX0 1 T.aLDraw T.fLDraw ["spring", "many"] spDraw := by
  refine T.FLDraw.ok scLDraw (fun vs H Q E h => ?_) (fun cdv A outer s H vs Q E hr h => ?_)
  · obtain ⟨a, m, n, rfl, _⟩ := h
    rfl
  obtain ⟨a, m, n, rfl, h1, h2, ⟨x, y, z, hw, hx0, hx, hy0, hy, hz0, hz⟩, hn, q⟩ := h
  have hu := hu_of hr
  refine ⟨_, (pss_cons (ps_if (pt_cmpR op_gt (pe_ix ix_list (pv 0) pe_int (fun _ _ => rfl)) pe_int (nomark _))
        (pss_cons (ps_set (i := 3) scLDraw.nd rfl (by first | exact Or.inl rfl | exact Or.inr rfl) (pe_op op_mod (pe_ix ix_list (pv 0) pe_int (fun _ _ => rfl)) (pv 1)))
        (pss_cons (ps_asg (pe_op op_fdivW (pe_ix ix_list (pv 0) pe_int (fun _ _ => rfl)) (pv 1)) (pg_sub (pv 0) pe_int set_list))
        (pss_one (ps_ret (pv 3))))) pss_nil)
      (pss_cons (ps_asg (pe_op op_add (pe_ix ix_list (pv 0) pe_int (fun _ _ => rfl)) pe_int) (pg_sub (pv 0) pe_int set_list))
      (pss_cons (ps_set (i := 2) scLDraw.nd rfl (by first | exact Or.inl rfl | exact Or.inr rfl) (pe_op op_add (pe_ix ix_list (pv 0) pe_int (fun _ _ => rfl)) (pe_op op_mul pe_int (pe_ix ix_list (pv 0) pe_int (fun _ _ => rfl)))))
      (pss_cons (ps_set (i := 2) scLDraw.nd rfl (by first | exact Or.inl rfl | exact Or.inr rfl) (pe_op op_add (pe_op op_mod (pe_op op_powW (pv 2) pe_int) pe_int) (pe_op op_mul pe_int (pe_ix ix_list (pv 0) pe_int (fun _ _ => rfl)))))
      (pss_one (ps_ret (pe_op op_mod (pe_op op_fdivW (pe_op op_mod (pe_op op_powW (pv 2) pe_int) pe_int) pe_int) (pv 1)))))))), ?_⟩
  have hm : m.natAbs < 2 ^ 20 := by omega
  refine ⟨_, rfl, _, _, _, _, rfl, rfl, SqL.of hw, at_of (j := 0) rfl rfl, _, _, rfl, rfl, _, rfl, ite2 (fun c => ?_) (fun c => ?_)⟩
  · have c := of_decide_eq_true c
    have hd0 : 0 ≤ x / m := Int.ediv_nonneg hx0 (by omega)
    have hd1 : x / m ≤ x := Int.ediv_le_self m hx0
    refine ⟨_, rfl, _, _, _, _, rfl, rfl, SqL.of hw, at_of (j := 0) rfl rfl, _, rfl, _, _, rfl, rfl, (by show (0 : Int) < m; omega), ?_⟩
    refine ⟨_, rfl, _, _, _, _, rfl, rfl, SqL.of hw, at_of (j := 0) rfl rfl, _, rfl, _, _, rfl, rfl, wide_div (by omega) hm (by decide) (by decide), ?_⟩
    refine ⟨_, rfl, a, _, 0, 0, rfl, rfl, hw, rfl, ?_⟩
    refine ⟨_, rfl, q _ _ (Int.emod_nonneg _ (by omega)) (Int.emod_lt_of_pos _ (by omega)) (Sm.at (by simp)) ⟨_, y, z, upd_same, hd0, wide_le hd0 hd1 hx, hy0, hy, hz0, by omega⟩⟩
  · refine ⟨_, rfl, _, _, _, _, rfl, rfl, SqL.of hw, at_of (j := 2) rfl rfl, _, _, rfl, rfl, ?_⟩
    refine ⟨_, rfl, a, _, 2, 2, rfl, rfl, hw, rfl, ?_⟩
    obtain ⟨H2, eH⟩ : ∃ H2, H2 = upd H a (.lst ([V.int x, V.int y, V.int z].set 2 (.int (z + 1)))) := ⟨_, rfl⟩
    have hw2 : H2 a = some (.lst [.int x, .int y, .int (z + 1)]) := by rw [eH]; exact upd_same
    have s2 : Sm [a] H H2 := by rw [eH]; exact Sm.at (by simp)
    rw [← eH]
    have hb : (y + 2305843009213693951 * (z + 1)).natAbs < 2 ^ 201 := by omega
    refine ⟨_, rfl, _, _, _, _, rfl, rfl, SqL.of hw2, at_of (j := 1) rfl rfl, _, rfl, _, _, _, _, rfl, rfl, SqL.of hw2, at_of (j := 2) rfl rfl, _, _, rfl, rfl, .inl ⟨by decide, by decide⟩, _, _, rfl, rfl, ?_⟩
    have m0 := Int.emod_nonneg ((y + 2305843009213693951 * (z + 1)) ^ Int.toNat 3) (b := 162259276829213363391578010288127) (by decide)
    have m1 := Int.emod_lt_of_pos ((y + 2305843009213693951 * (z + 1)) ^ Int.toNat 3) (b := 162259276829213363391578010288127) (by decide)
    have hb2 : ∀ u : Int, 0 ≤ u → u < 162259276829213363391578010288127 → (u + 999999000001 * (z + 1)).natAbs < 2 ^ 201 := fun u h0 h1 => by omega
    refine ⟨_, rfl, _, _, rfl, rfl, ⟨by decide, by decide, abs_small hb (by decide)⟩, _, _, rfl, rfl, (by show (0 : Int) < _; decide), ?_⟩
    refine ⟨_, rfl, _, _, _, _, rfl, rfl, SqL.of hw2, at_of (j := 2) rfl rfl, _, _, rfl, rfl, .inl ⟨by decide, by decide⟩, _, _, rfl, rfl, ?_⟩
    refine ⟨_, rfl, _, _, rfl, rfl, ⟨by decide, by decide, abs_small (hb2 _ m0 m1) (by decide)⟩, _, _, rfl, rfl, (by show (0 : Int) < _; decide), ?_⟩
    refine ⟨_, _, rfl, rfl, ⟨by decide, by decide⟩, _, rfl, _, _, rfl, rfl, (by show (0 : Int) < m; omega), ?_⟩
    exact q _ _ (Int.emod_nonneg _ (by omega)) (Int.emod_lt_of_pos _ (by omega)) s2 ⟨x, y, z + 1, hw2, hx0, hx, hy0, hy, by omega, by omega⟩
end K43


set_option Elab.async false
set_option linter.all false
set_option maxRecDepth 100000
set_option maxHeartbeats 4000000
namespace K43
open PySem PySem.Spec PyProof.Rows L2 FA
variable {P : Program} {w : World} {K : PySem.W.Frag} {mg : Str → Option Value} {base : Heap}
def spLCalls (n : Nat) : Sp := fun vs H Q _ => ∃ (b : Addr) (ns : List Str) (l : List FA.It), vs = [.ref b] ∧ BdAt H b l ∧ okB ns l ∧ nIB l ≤ 200 ∧ dB l ≤ n ∧ ∀ H', Same H H' → Q (.int (nCB l : Nat)) H'
theorem okLCalls1 (T : Txt K mg) (n : Nat) (GLCalls : FnOk P w K mg base CX0 (n + 1) T.aLCalls T.fLCalls ["body"] (spLCalls n)) : FnOk P w K mg base CX0 (n + 2) T.aLCalls T.fLCalls ["body"] (spLCalls (n + 1)) := by
  refine T.FLCalls.ok scLCalls (fun vs H Q E h => ?_) (fun cdv A outer s H vs Q E hr h => ?_)
  · obtain ⟨b, ns, l, rfl, _⟩ := h
    rfl
  obtain ⟨b, ns, l, rfl, ⟨vs, hb, hits⟩, hok, hN, hn, q⟩ := h
  have hu := hu_of hr
  refine ⟨_, (pss_cons (ps_set (i := 1) scLCalls.nd rfl (by first | exact Or.inl rfl | exact Or.inr rfl) pe_int)
      (pss_cons (ps_for PassesOwn.never rfl (pi_list (pv 0)) (pg_name (i := 2) scLCalls.nd rfl (by first | exact Or.inl rfl | exact Or.inr rfl))
        (pss_one (ps_if (pt_val (pe_callB call_isi (by rfl) T.n_isinstance (by decide +kernel) (pa_cons (pv 2) (pa_cons (pe_bltn (v := .ty "str") (by rfl) T.n_str (by decide +kernel) rfl) pa_nil))))
          (pss_one (ps_set (i := 1) scLCalls.nd rfl (by first | exact Or.inl rfl | exact Or.inr rfl) (pe_op op_add (pv 1) pe_int))) (pss_one (ps_if (pt_cmpR op_eq (pe_ix ix_tup (pv 2) pe_int (fun _ _ => rfl)) pe_str (nomark _))
            (pss_one (ps_set (i := 1) scLCalls.nd rfl (by first | exact Or.inl rfl | exact Or.inr rfl) (pe_op op_add (pv 1) (pe_callB (cr_sum rfl) (by rfl) T.n_sum (by decide +kernel) (pa_cons (pe_lc (own := [("inner", 3)]) (g := gName 3) (tt := tYes) rfl scLCalls.nd (pi_list (pe_ix ix_tup (pv 2) pe_int (fun _ _ => rfl))) (blkOk_by (N := ["body", "found", "item", "inner"]) (sc := defScope sLCalls) (by decide +kernel)) (fun _ _ _ _ _ => (pg_name (i := 3) scLCalls.nd rfl (by first | exact Or.inl rfl | exact Or.inr rfl))) (fun _ _ _ _ _ => pts_nil) (fun _ _ _ _ _ => (pe_call GLCalls (hr.mono (by omega)) rfl T.gLCalls T.FLCalls.kp T.bLCalls .nil pass0 (pa_cons (pv 3) pa_nil)))) pa_nil))))) (pss_one (ps_set (i := 1) scLCalls.nd rfl (by first | exact Or.inl rfl | exact Or.inr rfl) (pe_op op_add (pv 1) (pe_call GLCalls (hr.mono (by omega)) rfl T.gLCalls T.FLCalls.kp T.bLCalls .nil pass0 (pa_cons (pe_ix ix_tup (pv 2) pe_int (fun _ _ => rfl)) pa_nil))))))))))
      (pss_one (ps_ret (pv 1))))), ?_⟩
  have hl := hits.length
  have hll := nIB_len l
  refine ⟨_, rfl, b, rfl, ⟨_, SqL.of hb⟩, for_list (K := K) (a := b) (xs := vs) (fun i σ H' => ∃ v2 v3, σ = [some (.ref b), some (.int (nCB (l.take i) : Nat)), v2, v3] ∧ Same H H') ⟨none, none, rfl, Same.refl _⟩ ?_ ?_ ?_⟩
  · rintro i σ H' _ ⟨_, _, _, sm⟩
    exact SqL.of (sm _ _ hb)
  · rintro i y σ H1 hi ⟨v2, v3, rfl, sm⟩
    obtain ⟨it, e1, e2⟩ := hits.get hi
    have hm : it ∈ l := List.mem_of_getElem? e1
    have e3 := e2.keep (Kp.of sm)
    have ec := nCB_takeS e1
    have c7 := dB_mem hm
    have c8 := nIB_mem hm
    have oki := okB_all.mp hok it hm
    rcases e3.parts with ⟨x, rfl, rfl⟩ | ⟨t, k, b', ws, rfl, h1, h2, ⟨rfl, ls, rfl, h3⟩ | ⟨hk, l', hit, h3⟩⟩
    · refine ⟨_, rfl, _, _, _, _, true, rfl, .ty _, ty_str x, kit_ty (by decide +kernel), _, rfl, iteT ?_⟩
      refine ⟨_, rfl, _, _, rfl, rfl, some (.str x), v3, ?_, sm⟩
      rw [ec]
      simp only [nC, Int.natCast_add]
      rfl
    · simp only [okI] at oki
      obtain ⟨k1, k2, k3, k4⟩ := oki
      simp only [nI] at c8
      simp only [dI] at c7
      have hl3 := h3.length
      refine ⟨_, rfl, _, _, _, _, false, rfl, .ty _, ty_tup h1, kit_ty (by decide +kernel), _, rfl, iteF ?_⟩
      refine ⟨_, rfl, _, _, _, _, rfl, rfl, SqT.of h1, at_of (j := 0) rfl rfl, rfl, _, rfl, ite2 (fun _ => ?_) (fun c => absurd (decide_eq_true rfl) c)⟩
      refine ⟨_, rfl, _, rfl, _, _, _, _, rfl, rfl, SqT.of h1, at_of (j := 1) rfl rfl, b', rfl, ⟨_, SqL.of h2⟩, fun D hD => lcS (n := ws.length) hD (small1000 (by omega)) _ (fun j v _ => ∃ bd, ls[j]? = some bd ∧ v = .int (nCB bd : Nat))
        (go_l (SqL.of h2)) (stop_l (SqL.of h2)) (yld_l (SqL.of h2)) (fun j v A B _ h => h) ?_ ?_⟩
      · intro j x H2 R hj hx s2 k
        obtain ⟨b2, bd, rfl, q1, q2⟩ := h3.get hx
        have hm : bd ∈ ls := List.mem_of_getElem? q1
        have m1 := nIBs_mem hm
        have m2 := dBs_mem hm
        exact ⟨rfl, _, rfl, b2, ns, bd, rfl, q2.keep (Kp.of s2), okBs_all.mp k4 bd hm, by omega, by omega, fun H3 s3 => k _ H3 s3 ⟨bd, q1, rfl⟩⟩
      · intro H2 ys s2 hy hyl hg
        have e := ext_map (ys := ys) (l := ls) (f := fun b => V.int (nCB b : Nat)) (by omega) hg
        refine ⟨D, ls.map fun b => (nCB b : Int), rfl, SqL.of (by rw [hy, e, List.map_map]; rfl), ?_⟩
        refine ⟨_, _, rfl, rfl, some (.ref t), v3, ?_, sm.trans s2⟩
        rw [ec, sum_nCB]
        simp only [nC, Int.natCast_add]
        rfl
    · refine ⟨_, rfl, _, _, _, _, false, rfl, .ty _, ty_tup h1, kit_ty (by decide +kernel), _, rfl, iteF ?_⟩
      have f1 : okB ns l' ∧ dI it = dB l' ∧ nI it = nIB l' ∧ nC it = nCB l' := by
        rcases hit with rfl | rfl <;> simp only [okI] at oki <;> exact ⟨oki.2, by simp only [dI], by simp only [nI], by simp only [nC]⟩
      refine ⟨_, rfl, _, _, _, _, rfl, rfl, SqT.of h1, at_of (j := 0) rfl rfl, rfl, _, rfl, ite2 (fun c => absurd (V.str.inj (of_decide_eq_true c)) hk) (fun _ => ?_)⟩
      refine ⟨_, rfl, _, rfl, _, _, _, _, rfl, rfl, SqT.of h1, at_of (j := 1) rfl rfl, b', ns, l', rfl, ⟨ws, h2, h3⟩, f1.1, by omega, by omega, fun H2 s2 => ?_⟩
      refine ⟨_, _, rfl, rfl, some (.ref t), v3, ?_, sm.trans s2⟩
      rw [ec, f1.2.2.2]
      simp only [Int.natCast_add]
      rfl
  · rintro σ H1 ⟨v2, v3, rfl, sm⟩
    refine ⟨_, rfl, ?_⟩
    have := q H1 sm
    rw [List.take_of_length_le (by omega)]
    exact this
theorem okLCalls (T : Txt K mg) : ∀ n : Nat, FnOk P w K mg base CX0 (n + 1) T.aLCalls T.fLCalls ["body"] (spLCalls n)
  | 0 => fn_never fun vs H Q E h => by
    obtain ⟨b, ns, l, _, _, _, _, h0, _⟩ := h
    have := dB_pos l
    omega
  | n + 1 => okLCalls1 T n (okLCalls T n)
def spLCount (n : Nat) : Sp := fun vs H Q _ => ∃ (b : Addr) (ns : List Str) (l : List FA.It), vs = [.ref b] ∧ BdAt H b l ∧ okB ns l ∧ nIB l ≤ 200 ∧ dB l ≤ n ∧ ∀ H', Same H H' → Q (.int (nIB l : Nat)) H'
theorem okLCount1 (T : Txt K mg) (n : Nat) (GLCount : FnOk P w K mg base CX0 (n + 1) T.aLCount T.fLCount ["body"] (spLCount n)) : FnOk P w K mg base CX0 (n + 2) T.aLCount T.fLCount ["body"] (spLCount (n + 1)) := by
  refine T.FLCount.ok scLCount (fun vs H Q E h => ?_) (fun cdv A outer s H vs Q E hr h => ?_)
  · obtain ⟨b, ns, l, rfl, _⟩ := h
    rfl
  obtain ⟨b, ns, l, rfl, ⟨vs, hb, hits⟩, hok, hN, hn, q⟩ := h
  have hu := hu_of hr
  refine ⟨_, (pss_cons (ps_set (i := 1) scLCount.nd rfl (by first | exact Or.inl rfl | exact Or.inr rfl) (pe_callB call_len_seq (by rfl) T.n_len PySem.boot_len (pa_cons (pv 0) pa_nil)))
      (pss_cons (ps_for PassesOwn.never rfl (pi_list (pv 0)) (pg_name (i := 2) scLCount.nd rfl (by first | exact Or.inl rfl | exact Or.inr rfl))
        (pss_one (ps_if (pt_not (pt_val (pe_callB call_isi (by rfl) T.n_isinstance (by decide +kernel) (pa_cons (pv 2) (pa_cons (pe_bltn (v := .ty "str") (by rfl) T.n_str (by decide +kernel) rfl) pa_nil)))))
          (pss_one (ps_set (i := 1) scLCount.nd rfl (by first | exact Or.inl rfl | exact Or.inr rfl) (pe_op op_add (pv 1) (pe_callB (cr_sum rfl) (by rfl) T.n_sum (by decide +kernel) (pa_cons (pe_lc (own := [("inner", 3)]) (g := gName 3) (tt := tYes) rfl scLCount.nd (pi_list (pe_ifExp (pt_cmpR op_eq (pe_ix ix_tup (pv 2) pe_int (fun _ _ => rfl)) pe_str (nomark _)) (pe_ix ix_tup (pv 2) pe_int (fun _ _ => rfl)) (pe_lst (pa_cons (pe_ix ix_tup (pv 2) pe_int (fun _ _ => rfl)) pa_nil)))) (blkOk_by (N := ["body", "found", "item", "inner"]) (sc := defScope sLCount) (by decide +kernel)) (fun _ _ _ _ _ => (pg_name (i := 3) scLCount.nd rfl (by first | exact Or.inl rfl | exact Or.inr rfl))) (fun _ _ _ _ _ => pts_nil) (fun _ _ _ _ _ => (pe_call GLCount (hr.mono (by omega)) rfl T.gLCount T.FLCount.kp T.bLCount .nil pass0 (pa_cons (pv 3) pa_nil)))) pa_nil))))) pss_nil)))
      (pss_one (ps_ret (pv 1))))), ?_⟩
  have hl := hits.length
  have hll := nIB_len l
  refine ⟨_, rfl, _, _, rfl, .inl (SqL.of hb), ?_⟩
  have lenI : ∀ m : Nat, nIB l = l.length + (nIB l - l.length) := fun _ => by omega
  refine ⟨_, rfl, b, rfl, ⟨_, SqL.of hb⟩, for_list (K := K) (a := b) (xs := vs) (fun i σ H' => ∃ v2 v3, σ = [some (.ref b), some (.int ((l.length : Int) + ((nIB (l.take i) : Nat) - (i : Nat)))), v2, v3] ∧ Same H H') ⟨none, none, ?_, Same.refl _⟩ ?_ ?_ ?_⟩
  · simp only [List.take_zero, nIB, hl]
    rfl
  · rintro i σ H' _ ⟨_, _, _, sm⟩
    exact SqL.of (sm _ _ hb)
  · rintro i y σ H1 hi ⟨v2, v3, rfl, sm⟩
    obtain ⟨it, e1, e2⟩ := hits.get hi
    have hm : it ∈ l := List.mem_of_getElem? e1
    have e3 := e2.keep (Kp.of sm)
    have ec := nIB_takeS e1
    have c7 := dB_mem hm
    have c8 := nIB_mem hm
    have oki := okB_all.mp hok it hm
    have fin : ∀ (z : Int) (v : V), z = (nI it : Nat) → ([some (V.ref b), some (V.int ((l.length : Int) + ((nIB (l.take i) : Nat) - (i : Nat)) + z)), some v, v3] : L2.St) = [some (.ref b), some (.int ((l.length : Int) + ((nIB (l.take (i + 1)) : Nat) - ((i + 1 : Nat) : Int)))), some v, v3] := fun z v e => by
      rw [e, ec]
      congr 4
      omega
    rcases e3.parts with ⟨x, rfl, rfl⟩ | ⟨t, k, b', ws, rfl, h1, h2, ⟨rfl, ls, rfl, h3⟩ | ⟨hk, l', hit, h3⟩⟩
    · refine ⟨_, rfl, _, _, _, _, true, rfl, .ty _, ty_str x, kit_ty (by decide +kernel), _, rfl, iteF ?_⟩
      refine ⟨some (.str x), v3, ?_, sm⟩
      have := fin 0 (.str x) (by simp [nI])
      rw [Int.add_zero] at this
      exact this
    · simp only [okI] at oki
      obtain ⟨k1, k2, k3, k4⟩ := oki
      simp only [nI] at c8
      simp only [dI] at c7
      have hl3 := h3.length
      refine ⟨_, rfl, _, _, _, _, false, rfl, .ty _, ty_tup h1, kit_ty (by decide +kernel), _, rfl, iteT ?_⟩
      refine ⟨_, rfl, _, rfl, _, _, _, _, rfl, rfl, SqT.of h1, at_of (j := 0) rfl rfl, rfl, _, rfl, ite2 (fun _ => ?_) (fun c => absurd (decide_eq_true rfl) c)⟩
      refine ⟨_, rfl, _, _, _, _, rfl, rfl, SqT.of h1, at_of (j := 1) rfl rfl, b', rfl, ⟨_, SqL.of h2⟩, fun D hD => lcS (n := ws.length) hD (small1000 (by omega)) _ (fun j v _ => ∃ bd, ls[j]? = some bd ∧ v = .int (nIB bd : Nat))
        (go_l (SqL.of h2)) (stop_l (SqL.of h2)) (yld_l (SqL.of h2)) (fun j v A B _ h => h) ?_ ?_⟩
      · intro j x H2 R hj hx s2 k
        obtain ⟨b2, bd, rfl, q1, q2⟩ := h3.get hx
        have hm : bd ∈ ls := List.mem_of_getElem? q1
        have m1 := nIBs_mem hm
        have m2 := dBs_mem hm
        exact ⟨rfl, _, rfl, b2, ns, bd, rfl, q2.keep (Kp.of s2), okBs_all.mp k4 bd hm, by omega, by omega, fun H3 s3 => k _ H3 s3 ⟨bd, q1, rfl⟩⟩
      · intro H2 ys s2 hy hyl hg
        have e := ext_map (ys := ys) (l := ls) (f := fun b => V.int (nIB b : Nat)) (by omega) hg
        refine ⟨D, ls.map fun b => (nIB b : Int), rfl, SqL.of (by rw [hy, e, List.map_map]; rfl), ?_⟩
        exact ⟨_, _, rfl, rfl, some (.ref t), v3, fin _ _ (by rw [sum_nIB]; simp only [nI]), sm.trans s2⟩
    · refine ⟨_, rfl, _, _, _, _, false, rfl, .ty _, ty_tup h1, kit_ty (by decide +kernel), _, rfl, iteT ?_⟩
      have f1 : okB ns l' ∧ dI it = dB l' ∧ nI it = nIB l' := by
        rcases hit with rfl | rfl <;> simp only [okI] at oki <;> exact ⟨oki.2, by simp only [dI], by simp only [nI]⟩
      refine ⟨_, rfl, _, rfl, _, _, _, _, rfl, rfl, SqT.of h1, at_of (j := 0) rfl rfl, rfl, _, rfl, ite2 (fun c => absurd (V.str.inj (of_decide_eq_true c)) hk) (fun _ => ?_)⟩
      refine ⟨_, rfl, _, _, _, _, rfl, rfl, SqT.of h1, at_of (j := 1) rfl rfl, Nat.le_of_lt (small1000 (by simp)), fun p hp => ?_⟩
      have s2 := same_upd hp (.lst [V.ref b'])
      have hp2 : (upd H1 p (.lst [V.ref b'])) p = some (.lst [V.ref b']) := upd_same
      generalize upd H1 p (.lst [V.ref b']) = H2 at s2 hp2 ⊢
      refine ⟨p, rfl, ⟨_, SqL.of hp2⟩, fun D hD => lcS (n := 1) hD (small1000 (by omega)) _ (fun j v _ => v = .int (nIB l' : Nat))
        (go_l (SqL.of hp2)) (stop_l (SqL.of hp2)) (yld_l (SqL.of hp2)) (fun j v A B _ h => h) ?_ ?_⟩
      · intro j x H3 R hj hx s3 k
        have : j = 0 := by omega
        subst this
        cases hx
        exact ⟨rfl, _, rfl, b', ns, l', rfl, ⟨ws, s3 _ _ (s2 _ _ h2), h3.keep (Kp.of (s2.trans s3))⟩, f1.1, by omega, by omega, fun H4 s4 => k _ H4 s4 rfl⟩
      · intro H3 ys s3 hy hyl hg
        have ey : ys = [V.int (nIB l' : Nat)] := by
          match ys, hyl with
          | [y], _ => rw [hg 0 y rfl]
        refine ⟨D, [(nIB l' : Int)], rfl, SqL.of (by rw [hy, ey]; rfl), ?_⟩
        exact ⟨_, _, rfl, rfl, some (.ref t), v3, fin _ _ (by rw [f1.2.2]; simp), (sm.trans s2).trans s3⟩
  · rintro σ H1 ⟨v2, v3, rfl, sm⟩
    refine ⟨_, rfl, ?_⟩
    have := q H1 sm
    rw [List.take_of_length_le (by omega), show (l.length : Int) + ((nIB l : Nat) - (vs.length : Nat)) = (nIB l : Nat) by omega]
    exact this
theorem okLCount (T : Txt K mg) : ∀ n : Nat, FnOk P w K mg base CX0 (n + 1) T.aLCount T.fLCount ["body"] (spLCount n)
  | 0 => fn_never fun vs H Q E h => by
    obtain ⟨b, ns, l, _, _, _, _, h0, _⟩ := h
    have := dB_pos l
    omega
  | n + 1 => okLCount1 T n (okLCount T n)
end K43


set_option Elab.async false
set_option linter.all false
set_option maxRecDepth 100000
set_option maxHeartbeats 8000000
namespace K43
open PySem PySem.Spec PyProof.Rows L2 FA
variable {P : Program} {w : World} {K : PySem.W.Frag} {mg : Str → Option Value} {base : Heap}
/-- how many draws, how many items, by how deep -/
def cW : Nat → Nat
  | 0 => 0
  | j + 1 => 1 + 3 * (5 + 2 * cW j)
def cN : Nat → Nat
  | 0 => 0
  | j + 1 => 3 * (1 + 2 * cN j)
/-- what the def is handed -/
structure Giv (H : Hp) (a sa : Addr) (n : Nat) (ss : List Str) : Prop where
  w : WellAt H a n
  s : H sa = some (.lst (ss.map V.str))
  len : 1 ≤ ss.length ∧ ss.length ≤ 6
  nm : ∀ x ∈ ss, FA.okName x
theorem Giv.ne {H : Hp} {a sa : Addr} {n : Nat} {ss : List Str} (g : Giv H a sa n ss) : sa ≠ a := by
  obtain ⟨x, y, z, hw, _⟩ := g.w
  rintro rfl
  have := g.s
  rw [hw] at this
  exact strs_ne (HO.lst.inj (Option.some.inj this)).symm
theorem Giv.on {H H' : Hp} {a sa : Addr} {n m : Nat} {ss : List Str} (g : Giv H a sa n ss) (sm : Sm [a] H H') (hw : WellAt H' a m) : Giv H' a sa m ss :=
  ⟨hw, sm _ _ (by simp [g.ne]) g.s, g.len, g.nm⟩
theorem Giv.kept {H : Hp} {a sa : Addr} {n : Nat} {ss : List Str} (g : Giv H a sa n ss) : ∀ b ∈ [a], ∃ o, H b = some o := fun b hb => by
  rw [List.mem_singleton.mp hb]
  exact g.w.some
/-- what was drawn -/
structure Got (ss : List Str) (c : Int) (j : Nat) (l : List FA.It) : Prop where
  ok : okB ss l
  lo : 1 ≤ nCB l
  hi : (nCB l : Int) ≤ c
  i : nIB l ≤ cN j
  d : dB l ≤ j
theorem Got.ne {ss : List Str} {c : Int} {j : Nat} {l : List FA.It} (g : Got ss c j l) : l ≠ [] := by
  rintro rfl
  have := g.lo
  simp [nCB] at this
def spLItems (j : Nat) : Sp := fun vs H Q _ => ∃ (a sa : Addr) (n : Nat) (ss : List Str) (c : Int), vs = [.ref a, .ref sa, .int c, .int (j : Nat)] ∧ 1 ≤ j ∧ j ≤ 3 ∧ Giv H a sa n ss ∧ n + cW j ≤ 2 ^ 80 ∧ 1 ≤ c ∧ c ≤ 5 ∧
  ∀ b l H', Sm [a] H H' → WellAt H' a (n + cW j) → BdAt (fr H H') b l → Got ss c j l → Q (.ref b) H'
theorem cN3 (j : Nat) (h : j ≤ 3) : cN j ≤ 129 := by
  match j, h with
  | 0, _ => decide
  | 1, _ => decide
  | 2, _ => decide
  | 3, _ => decide
theorem okLItems1 (T : Txt K mg) (j : Nat) (GLItems : FnOk P w K mg base CX0 (4 + j) T.aLItems T.fLItems ["spring", "some", "calls", "deep"] (spLItems j)) :
    FnOk P w K mg base CX0 (5 + j) T.aLItems T.fLItems ["spring", "some", "calls", "deep"] (spLItems (j + 1)) := by
  have GLDraw : FnOk P w K mg base CX0 1 T.aLDraw T.fLDraw ["spring", "many"] spDraw := okDraw T
  have GLCalls : FnOk P w K mg base CX0 4 T.aLCalls T.fLCalls ["body"] (spLCalls 3) := okLCalls T 3
  rw [show 5 + j = (4 + j) + 1 by omega]
  refine T.FLItems.ok scLItems (fun vs H Q E h => ?_) (fun cdv A outer s H vs Q E hr h => ?_)
  · obtain ⟨a, sa, n, ss, c, rfl, _⟩ := h
    rfl
  obtain ⟨a, sa, n, ss, c, rfl, hj1, hj3, g, hn, hc1, hc5, q⟩ := h
  have hu := hu_of hr
  refine ⟨_, (pss_cons (ps_par (i := 5) (j := 6) (by rfl) scLItems.nd rfl rfl (by decide) rfl rfl (pa_cons (pe_lst pa_nil) (pa_cons pe_int pa_nil)) (by rfl))
      (pss_cons (ps_for PassesOwn.never rfl (pi_range1 (by rfl) T.n_range (pa_cons (pe_op op_add pe_int (pe_call GLDraw (hr.mono (by omega)) rfl T.gLDraw T.FLDraw.kp T.bLDraw .nil pass0 (pa_cons (pv 0) (pa_cons pe_int pa_nil)))) pa_nil)) (pg_name (i := 4) scLItems.nd rfl (by first | exact Or.inl rfl | exact Or.inr rfl))
        (pss_cons (ps_par (i := 7) (j := 8) (by rfl) scLItems.nd rfl rfl (by decide) rfl rfl (pa_cons (pe_call GLDraw (hr.mono (by omega)) rfl T.gLDraw T.FLDraw.kp T.bLDraw .nil pass0 (pa_cons (pv 0) (pa_cons pe_int pa_nil))) (pa_cons (pe_op op_sub (pv 2) (pv 6)) pa_nil)) (by rfl))
        (pss_one (ps_if (PW.pt (pw_and (pt_cmpR op_gt (pv 8) pe_int (nomark _)) (pw_and1 (PW.pt (pw_or (pt_cmpR op_lt (pv 7) pe_int (nomark _)) (pw_or1 (pt_cmpR op_eq (pv 3) pe_int (nomark _))))))))
          (pss_cons (ps_expr (pe_bm PySem.F.plainAttrs_list PySem.F.slot_list_append PySem.F.type_list_append mt_append (pv 5) (pa_cons (pe_ix ix_list (pv 1) (pe_call GLDraw (hr.mono (by omega)) rfl T.gLDraw T.FLDraw.kp T.bLDraw .nil pass0 (pa_cons (pv 0) (pa_cons (pe_callB call_len_seq (by rfl) T.n_len PySem.boot_len (pa_cons (pv 1) pa_nil)) pa_nil))) (fun _ _ => rfl)) pa_nil)))
          (pss_one (ps_set (i := 6) scLItems.nd rfl (by first | exact Or.inl rfl | exact Or.inr rfl) (pe_op op_add (pv 6) pe_int)))) (pss_one (ps_if (pt_cmpR op_gt (pv 8) pe_int (nomark _))
            (pss_cons (ps_set (i := 9) scLItems.nd rfl (by first | exact Or.inl rfl | exact Or.inr rfl) (pe_call GLItems (hr.mono (by omega)) rfl T.gLItems T.FLItems.kp T.bLItems .nil pass0 (pa_cons (pv 0) (pa_cons (pv 1) (pa_cons (pe_op op_add pe_int (pe_call GLDraw (hr.mono (by omega)) rfl T.gLDraw T.FLDraw.kp T.bLDraw .nil pass0 (pa_cons (pv 0) (pa_cons (pv 8) pa_nil)))) (pa_cons (pe_op op_sub (pv 3) pe_int) pa_nil))))))
            (pss_cons (ps_set (i := 6) scLItems.nd rfl (by first | exact Or.inl rfl | exact Or.inr rfl) (pe_op op_add (pv 6) (pe_call GLCalls (hr.mono (by omega)) rfl T.gLCalls T.FLCalls.kp T.bLCalls .nil pass0 (pa_cons (pv 9) pa_nil))))
            (pss_one (ps_if (pt_cmpR op_lt (pv 7) pe_int (nomark _))
              (pss_one (ps_expr (pe_bm PySem.F.plainAttrs_list PySem.F.slot_list_append PySem.F.type_list_append mt_append (pv 5) (pa_cons (pe_tup (pa_cons (pe_ix ix_list (pe_lst (pa_cons pe_str (pa_cons pe_str pa_nil))) (pe_op op_sub (pv 7) pe_int) (fun _ _ => rfl)) (pa_cons (pv 9) pa_nil))) pa_nil)))) (pss_cons (ps_set (i := 8) scLItems.nd rfl (by first | exact Or.inl rfl | exact Or.inr rfl) (pe_op op_sub (pv 2) (pv 6)))
              (pss_cons (ps_set (i := 10) scLItems.nd rfl (by first | exact Or.inl rfl | exact Or.inr rfl) (pe_lst pa_nil))
              (pss_cons (ps_if (pt_cmpR op_gt (pv 8) pe_int (nomark _))
                (pss_one (ps_set (i := 10) scLItems.nd rfl (by first | exact Or.inl rfl | exact Or.inr rfl) (pe_call GLItems (hr.mono (by omega)) rfl T.gLItems T.FLItems.kp T.bLItems .nil pass0 (pa_cons (pv 0) (pa_cons (pv 1) (pa_cons (pe_op op_add pe_int (pe_call GLDraw (hr.mono (by omega)) rfl T.gLDraw T.FLDraw.kp T.bLDraw .nil pass0 (pa_cons (pv 0) (pa_cons (pv 8) pa_nil)))) (pa_cons (pe_op op_sub (pv 3) pe_int) pa_nil))))))) pss_nil)
              (pss_cons (ps_set (i := 6) scLItems.nd rfl (by first | exact Or.inl rfl | exact Or.inr rfl) (pe_op op_add (pv 6) (pe_call GLCalls (hr.mono (by omega)) rfl T.gLCalls T.FLCalls.kp T.bLCalls .nil pass0 (pa_cons (pv 10) pa_nil))))
              (pss_cons (ps_set (i := 11) scLItems.nd rfl (by first | exact Or.inl rfl | exact Or.inr rfl) (pe_ix ix_list (pe_lst (pa_cons (pe_lst (pa_cons (pv 9) (pa_cons (pv 10) pa_nil))) (pa_cons (pe_lst (pa_cons (pv 10) (pa_cons (pv 9) pa_nil))) (pa_cons (pe_lst (pa_cons (pv 9) (pa_cons (pv 10) (pa_cons (pe_lst pa_nil) pa_nil)))) pa_nil)))) (pe_call GLDraw (hr.mono (by omega)) rfl T.gLDraw T.FLDraw.kp T.bLDraw .nil pass0 (pa_cons (pv 0) (pa_cons (pe_ix ix_list (pe_lst (pa_cons pe_int (pa_cons pe_int pa_nil))) (pe_callTy call_int1 (by rfl) T.n_int (by decide +kernel) (pa_cons (pe_cmpR (op_neD hr.units) (pv 10) (pe_lst pa_nil) (nomark _)) pa_nil)) (fun _ _ => rfl)) pa_nil))) (fun _ _ => rfl)))
              (pss_one (ps_expr (pe_bm PySem.F.plainAttrs_list PySem.F.slot_list_append PySem.F.type_list_append mt_append (pv 5) (pa_cons (pe_tup (pa_cons pe_str (pa_cons (pv 11) pa_nil))) pa_nil))))))))))))) pss_nil))))))
      (pss_one (ps_ret (pv 5))))), ?_⟩
  have hne := g.ne
  obtain ⟨Wd, hWd⟩ : ∃ x, x = 5 + 2 * cW j := ⟨_, rfl⟩
  obtain ⟨Nd, hNd⟩ : ∃ x, x = 1 + 2 * cN j := ⟨_, rfl⟩
  have hcW : cW (j + 1) = 1 + 3 * Wd := by rw [hWd]; rfl
  have hcN : cN (j + 1) = 3 * Nd := by rw [hNd]; rfl
  have hcN3 := cN3 j (by omega)
  obtain ⟨ow, how⟩ := g.w.some
  refine ⟨Nat.zero_le _, fun f hf => ⟨_, _, rfl, ?_⟩⟩
  have hfa : f ≠ a := (ne_of_none how hf).symm
  have hfs : f ≠ sa := (ne_of_none g.s hf).symm
  have s1 := same_upd hf (.lst [])
  refine ⟨_, rfl, a, 3, n, rfl, by decide, by decide, g.w.keep fun o e => s1 _ _ e, by omega, fun r1 H2 r1a r1b sm2 hw2 => ?_⟩
  refine ⟨_, _, rfl, rfl, ?_⟩
  refine ⟨_, rfl, by omega, by omega, ?_⟩
  have hf2 : H2 f = some (.lst []) := sm2 _ _ (by simp [hfa]) upd_same
  have sm02 : Sm [a] H H2 := (Sm.of_same s1).trans sm2
  refine for_range (lo := 0) (n := (1 + r1).toNat) (fun k σ H' => ∃ l vs v4 v7 v8 v9 v10 v11, σ = [some (.ref a), some (.ref sa), some (.int c), some (.int ((j + 1 : Nat) : Int)), v4, some (.ref f), some (.int (nCB l : Nat)), v7, v8, v9, v10, v11] ∧ Sm [a] H H' ∧ H' f = some (.lst vs) ∧ vs.length ≤ k ∧
    ItsAt (wo [f] (fr H H')) vs l ∧ WellAt H' a (n + 1 + k * Wd) ∧ okB ss l ∧ (nCB l : Int) ≤ c ∧ (1 ≤ k → 1 ≤ nCB l) ∧ nIB l ≤ k * Nd ∧ dB l ≤ j + 1) ?_ ?_ ?_
  · exact ⟨[], [], none, none, none, none, none, none, rfl, sm02, hf2, Nat.le_refl _, .nil, hw2.mono (by omega), by simp [okB], by simp only [nCB]; omega, fun h => by omega, by simp [nIB], by simp only [dB]; omega⟩
  · rintro k σ H3 hk ⟨l, vs, v4, v7, v8, v9, v10, v11, rfl, sm3, hf3, hvl, its, hw3, ok, hcc, hc0, hni, hd⟩
    have hk3 : k ≤ 2 := by omega
    have hkW : n + 1 + (k + 1) * Wd ≤ n + cW (j + 1) := by
      have : (k + 1) * Wd ≤ 3 * Wd := Nat.mul_le_mul_right _ (by omega)
      omega
    have hkW' : n + 1 + k * Wd + Wd = n + 1 + (k + 1) * Wd := by rw [Nat.succ_mul]; omega
    have hkN : k * Nd + Nd = (k + 1) * Nd := by rw [Nat.succ_mul]
    obtain ⟨m0, hm0⟩ : ∃ m0, m0 = n + 1 + k * Wd := ⟨_, rfl⟩
    rw [← hm0] at hw3 hkW'
    -- an item more
    have more : ∀ (z : Int) (H4 : Hp) (v : V) (it : FA.It) (v4 v7 v8 v9 v10 v11 : Option V) (m : Nat), z = (nCB l : Int) + nC it → Sm [a] H3 H4 → ItAt (wo [f] (fr H H4)) v it → WellAt H4 a m → m ≤ n + 1 + (k + 1) * Wd → okI ss it → (nCB l : Int) + nC it ≤ c → 1 ≤ nC it → 1 + nI it ≤ Nd → 1 + dI it ≤ j + 1 →
        ∃ l' vs' v4' v7' v8' v9' v10' v11', ([some (.ref a), some (.ref sa), some (.int c), some (.int ((j + 1 : Nat) : Int)), v4, some (.ref f), some (.int z), v7, v8, v9, v10, v11] : L2.St) = [some (.ref a), some (.ref sa), some (.int c), some (.int ((j + 1 : Nat) : Int)), v4', some (.ref f), some (.int (nCB l' : Nat)), v7', v8', v9', v10', v11'] ∧ Sm [a] H (upd H4 f (.lst (vs ++ [v]))) ∧ (upd H4 f (.lst (vs ++ [v]))) f = some (.lst vs') ∧ vs'.length ≤ k + 1 ∧
          ItsAt (wo [f] (fr H (upd H4 f (.lst (vs ++ [v]))))) vs' l' ∧ WellAt (upd H4 f (.lst (vs ++ [v]))) a (n + 1 + (k + 1) * Wd) ∧ okB ss l' ∧ (nCB l' : Int) ≤ c ∧ (1 ≤ k + 1 → 1 ≤ nCB l') ∧ nIB l' ≤ (k + 1) * Nd ∧ dB l' ≤ j + 1 := by
      intro z H4 v it v4 v7 v8 v9 v10 v11 m hz sm4 hit hw hm oki hcI hc1' hnI hdI
      refine ⟨l ++ [it], vs ++ [v], v4, v7, v8, v9, v10, v11, ?_, fun b o hb e => ?_, upd_same, by simp; omega, ?_, ?_, okB_snoc ok oki, by rw [nCB_snoc]; omega, fun _ => by rw [nCB_snoc]; omega, by rw [nIB_snoc]; omega, by rw [dB_snoc]; omega⟩
      · rw [hz, nCB_snoc]; rfl
      · rw [upd_ne (ne_of_none e hf)]
        exact sm4 _ _ hb (sm3 _ _ hb e)
      · exact (((its.keep (kp_turn g.kept sm4)).keep kp_put).append (.cons (hit.keep kp_put) .nil))
      · exact (hw.keep fun o e => by rw [upd_ne hfa.symm]; exact e).mono hm
    refine ⟨_, rfl, a, 7, m0, rfl, by decide, by decide, hw3, by omega, fun way H4 wy0 wy1 sm4 hw4 => ?_⟩
    refine ⟨_, rfl, _, rfl, _, _, rfl, rfl, _, _, rfl, ?_⟩
    have hf4 : H4 f = some (.lst vs) := sm4 _ _ (by simp [hfa]) hf3
    have g4 : Giv H4 a sa (m0 + 1) ss := g.on (sm3.trans sm4) hw4
    have sm04 := sm3.trans sm4
    refine ⟨_, rfl, _, _, rfl, rfl, _, rfl, ite2 (fun hl => ?_) (fun hl => ?_)⟩
    · have hl := of_decide_eq_true hl
      refine ⟨_, rfl, _, _, rfl, rfl, _, rfl, ite2 (fun h4 => ?A) (fun h4 => ⟨_, rfl, rfl, _, rfl, ite2 (fun h1 => ?A2) (fun h1 => ?B)⟩)⟩
      case A | A2 =>
        refine ⟨_, rfl, .inl ⟨rfl, _, SqL.of hf4⟩, _, rfl, _, rfl, _, rfl, _, _, rfl, .inl (SqL.of g4.s), a, _, m0 + 1, rfl, by rw [List.length_map]; have := g4.len; omega, by rw [List.length_map]; have := g4.len; omega, hw4, by omega, fun x H5 x0 x1 sm5 hw5 => ?_⟩
        rw [List.length_map] at x1
        have hx : x.toNat < ss.length := by omega
        have hf5 : H5 f = some (.lst vs) := sm5 _ _ (by simp [hfa]) hf4
        refine ⟨sa, _, _, .str ss[x.toNat], rfl, rfl, SqL.of (sm5 _ _ (by simp [hne]) g4.s), at_of (j := x.toNat) (by omega) (by rw [List.getElem?_map, List.getElem?_eq_getElem hx]; rfl), ?_⟩
        refine ⟨f, _, _, rfl, rfl, hf5, small1000 (by omega), ?_⟩
        refine ⟨_, rfl, _, _, rfl, rfl, ?_⟩
        exact more _ H5 (.str ss[x.toNat]) (.call ss[x.toNat]) _ _ _ _ _ _ (m0 + 1 + 1) (by simp only [nC]; rfl) (sm4.trans sm5) (.call _) hw5 (by omega) (by simp only [okI]; exact List.getElem_mem hx) (by simp only [nC]; omega) (by simp only [nC]; omega) (by simp only [nI]; omega) (by simp only [dI]; omega)
      case B =>
        have hj : 1 ≤ j := by
          have h1 : ¬ (V.int ((j + 1 : Nat) : Int) = V.int 1) := fun z => h1 (decide_eq_true z)
          rcases Nat.eq_zero_or_pos j with z | z
          · subst z; exact absurd rfl h1
          · exact z
        refine ⟨_, rfl, _, _, rfl, rfl, _, rfl, ite2 (fun _ => ?_) (fun z => absurd (decide_eq_true hl) z)⟩
        -- the inner body
        refine ⟨_, rfl, _, rfl, _, rfl, _, rfl, a, _, m0 + 1, rfl, by omega, by omega, hw4, by omega, fun x H5 x0 x1 sm5 hw5 => ?_⟩
        refine ⟨_, _, rfl, rfl, _, rfl, _, _, rfl, rfl, a, sa, m0 + 2, ss, 1 + x, ?_, hj, by omega, g4.on sm5 hw5, by omega, by omega, by omega, fun ib il H6 sm6 hw6 hib gi => ?_⟩
        · show [V.ref a, V.ref sa, V.int (1 + x), V.int (((j + 1 : Nat) : Int) - 1)] = _
          rw [show ((j + 1 : Nat) : Int) - 1 = (j : Nat) by omega]
        have gi1 := gi.lo
        have gi2 := gi.hi
        have gi3 := gi.i
        have gi4 := gi.d
        have hf5 : H5 f = some (.lst vs) := sm5 _ _ (by simp [hfa]) hf4
        have sm05 := sm04.trans sm5
        have sm06 := sm05.trans sm6
        have k5 := (g4.on sm5 hw5).kept
        have hib6 := hib.keep (kp_in sm05 k5 hf5)
        have hf6 : H6 f = some (.lst vs) := sm6 _ _ (by simp [hfa]) hf5
        refine ⟨_, rfl, _, rfl, ib, ss, il, rfl, hib.keep kp_fr, gi.ok, by omega, by omega, fun H7 s7 => ⟨_, _, rfl, rfl, ?_⟩⟩
        have hw7 : WellAt H7 a (m0 + 2 + cW j) := hw6.keep fun o e => s7 _ _ e
        have hf7 := s7 _ _ hf6
        have sm57 : Sm [a] H H7 := sm06.trans (Sm.of_same s7)
        have sm37 : Sm [a] H3 H7 := ((sm4.trans sm5).trans sm6).trans (Sm.of_same s7)
        have hib7 := hib6.keep (kp_turn g.kept (Sm.of_same (W := [a]) s7))
        have k7 : ∀ b ∈ [a], ∃ o, H7 b = some o := fun b hb => by rw [List.mem_singleton.mp hb]; exact hw7.some
        clear hib hib6 hw6 hf6 sm6 s7 sm06
        refine ⟨_, rfl, _, _, rfl, rfl, _, rfl, ite2 (fun h6 => ?_) (fun h6 => ?_)⟩
        · -- a maybe, a loop
          have h6 := of_decide_eq_true h6
          have h4' : ¬ (way < 4) := fun z => h4 (decide_eq_true z)
          refine ⟨_, rfl, .inl ⟨rfl, _, SqL.of hf7⟩, Nat.le_of_lt (small1000 (by simp)), fun p hp => ?_⟩
          have s8 := same_upd hp (.lst [V.str "maybe", V.str "loop"])
          have hp8 : (upd H7 p (.lst [V.str "maybe", V.str "loop"])) p = some (.lst [V.str "maybe", V.str "loop"]) := upd_same
          generalize upd H7 p (.lst [V.str "maybe", V.str "loop"]) = H8 at s8 hp8 ⊢
          obtain ⟨kd, hkd, hat⟩ : ∃ kd : Str, (kd = "maybe" ∨ kd = "loop") ∧ atI [V.str "maybe", V.str "loop"] (way - 4) = some (.str kd) := by
            rcases (by omega : way = 4 ∨ way = 5) with rfl | rfl
            · exact ⟨_, .inl rfl, rfl⟩
            · exact ⟨_, .inr rfl, rfl⟩
          refine ⟨_, rfl, _, _, rfl, rfl, p, _, _, .str kd, rfl, rfl, SqL.of hp8, hat, _, rfl, Nat.le_of_lt (small1000 (by simp)), fun t ht => ?_⟩
          have s9 := same_upd ht (.tup [V.str kd, V.ref ib])
          have ht9 : (upd H8 t (.tup [V.str kd, V.ref ib])) t = some (.tup [V.str kd, V.ref ib]) := upd_same
          have hf8 := s8 _ _ hf7
          have sm8 : Sm [a] H H8 := sm57.trans (Sm.of_same s8)
          have htn := ht
          generalize upd H8 t (.tup [V.str kd, V.ref ib]) = H9 at s9 ht9 ⊢
          refine ⟨f, _, _, rfl, rfl, s9 _ _ hf8, small1000 (by omega), ?_⟩
          have s79 : Sm [a] H7 H9 := Sm.of_same (s8.trans s9)
          have hib9 := hib7.keep (kp_turn g.kept s79)
          have k8 : ∀ b ∈ [a], ∃ o, H8 b = some o := fun b hb => by obtain ⟨o, e⟩ := k7 b hb; exact ⟨o, s8 _ _ e⟩
          have htw : wo [f] (fr H H9) t = some (.tup [V.str kd, V.ref ib]) := wof_new sm8 k8 hf8 htn ht9
          obtain ⟨iv, i1, i2⟩ := hib9
          have hit : ∃ it, ItAt (wo [f] (fr H H9)) (.ref t) it ∧ okI ss it ∧ nC it = nCB il ∧ nI it = nIB il ∧ dI it = dB il := by
            rcases hkd with rfl | rfl
            · exact ⟨.may il, .may htw i1 i2, by simp only [okI]; exact ⟨gi.ne, gi.ok⟩, by simp only [nC], by simp only [nI], by simp only [dI]⟩
            · exact ⟨.loop il, .loop htw i1 i2, by simp only [okI]; exact ⟨gi.ne, gi.ok⟩, by simp only [nC], by simp only [nI], by simp only [dI]⟩
          obtain ⟨it, hit, o1, o2, o3, o4⟩ := hit
          exact more _ H9 (.ref t) it _ _ _ _ _ _ (m0 + 2 + cW j) (by rw [o2]) (sm37.trans s79) hit (hw7.keep fun o e => s9 _ _ (s8 _ _ e)) (by omega) o1 (by omega) (by omega) (by omega) (by omega)
        · -- a one
          refine ⟨_, rfl, _, rfl, _, _, rfl, rfl, ?_⟩
          refine ⟨Nat.zero_le _, fun mb0 hmb0 => ?_⟩
          have s8 := same_upd hmb0 (.lst [])
          have hm8 : (upd H7 mb0 (.lst [])) mb0 = some (.lst []) := upd_same
          have mbw : wo [f] (fr H (upd H7 mb0 (.lst []))) mb0 = some (.lst []) := wof_new sm57 k7 hf7 hmb0 upd_same
          generalize upd H7 mb0 (.lst []) = H8 at s8 hm8 mbw ⊢
          have hf8 := s8 _ _ hf7
          have hw8 : WellAt H8 a (m0 + 2 + cW j) := hw7.keep fun o e => s8 _ _ e
          have sm8 : Sm [a] H H8 := sm57.trans (Sm.of_same s8)
          have sm38 : Sm [a] H3 H8 := sm37.trans (Sm.of_same s8)
          have hib8 := hib7.keep (kp_turn g.kept (Sm.of_same (W := [a]) s8))
          have g8 : Giv H8 a sa (m0 + 2 + cW j) ss := g.on sm8 hw8
          refine ⟨_, rfl, _, _, rfl, rfl, _, rfl, ite2 (fun h7 => ?C1) (fun h7 => ?C2)⟩
          case' C1 =>
            have h7 := of_decide_eq_true h7
            refine ⟨_, rfl, _, rfl, _, rfl, _, rfl, a, _, m0 + 2 + cW j, rfl, by omega, by omega, hw8, by omega, fun x H10 x0 x1 sm10 hw10 => ?_⟩
            refine ⟨_, _, rfl, rfl, _, rfl, _, _, rfl, rfl, a, sa, m0 + 3 + cW j, ss, 1 + x, ?_, hj, by omega, g8.on sm10 (hw10.mono (by omega)), by omega, by omega, by omega, fun mb lm H11 sm11 hw11 hmb gm => ?_⟩
            · show [V.ref a, V.ref sa, V.int (1 + x), V.int (((j + 1 : Nat) : Int) - 1)] = _
              rw [show ((j + 1 : Nat) : Int) - 1 = (j : Nat) by omega]
            have hf10 : H10 f = some (.lst vs) := sm10 _ _ (by simp [hfa]) hf8
            have k10 := (g8.on sm10 (hw10.mono (by omega : m0 + 2 + cW j + 1 ≤ m0 + 3 + cW j))).kept
            have hmb9 := hmb.keep (kp_in (sm8.trans sm10) k10 hf10)
            have hf9 : H11 f = some (.lst vs) := sm11 _ _ (by simp [hfa]) hf10
            have sm9 := (sm8.trans sm10).trans sm11
            have sm39 := (sm38.trans sm10).trans sm11
            have hib9 := hib8.keep (kp_turn g.kept (sm10.trans sm11))
            have hw9 : WellAt H11 a (m0 + 3 + 2 * cW j) := hw11.mono (by omega)
            have gm1 := gm.ok
            have gm2 : (nCB l : Int) + nCB il + nCB lm ≤ c := by have := gm.hi; omega
            have gm3 := gm.i
            have gm4 := gm.d
            clear gm hmb hw11 hw10 sm10 sm11 k10 hf10 hib8 hf8 hw8 sm8 sm38 g8 mbw hm8 s8
            obtain ⟨H9, eq9⟩ : ∃ z, z = H11 := ⟨_, rfl⟩
            subst eq9
          case' C2 =>
            obtain ⟨lm, hlm⟩ : ∃ lm : List FA.It, lm = [] := ⟨_, rfl⟩
            have hmb9 : BdAt (wo [f] (fr H H8)) mb0 lm := ⟨_, mbw, by rw [hlm]; exact .nil⟩
            have hf9 := hf8
            have sm9 := sm8
            have sm39 := sm38
            have hib9 := hib8
            have hw9 : WellAt H8 a (m0 + 3 + 2 * cW j) := hw8.mono (by omega)
            have gm1 : okB ss lm := by rw [hlm]; simp [okB]
            have gm2 : (nCB l : Int) + nCB il + nCB lm ≤ c := by rw [hlm]; simp only [nCB]; omega
            have gm3 : nIB lm ≤ cN j := by rw [hlm]; simp [nIB]
            have gm4 : dB lm ≤ j := by rw [hlm]; simp only [dB]; exact hj
            clear hlm hib8 hf8 hw8 sm8 sm38 g8 mbw hm8 s8
            obtain ⟨H9, eq9⟩ : ∃ z, z = H8 := ⟨_, rfl⟩
            subst eq9
            obtain ⟨mb, eqm⟩ : ∃ z, z = mb0 := ⟨_, rfl⟩
            subst eqm
          all_goals
            have k9 : ∀ b ∈ [a], ∃ o, H9 b = some o := fun b hb => by rw [List.mem_singleton.mp hb]; exact hw9.some
            refine ⟨_, rfl, _, rfl, mb, ss, lm, rfl, (hmb9.keep kp_wo).keep kp_fr, gm1, by omega, by omega, fun H12 s12 => ⟨_, _, rfl, rfl, ?_⟩⟩
            have hw12 : WellAt H12 a (m0 + 3 + 2 * cW j) := hw9.keep fun o e => s12 _ _ e
            have hf12 := s12 _ _ hf9
            have sm12 := sm9.trans (Sm.of_same (W := [a]) s12)
            have sm312 := sm39.trans (Sm.of_same (W := [a]) s12)
            have hib12 := hib9.keep (kp_turn g.kept (Sm.of_same (W := [a]) s12))
            have hmb12 := hmb9.keep (kp_turn g.kept (Sm.of_same (W := [a]) s12))
            have k12 : ∀ b ∈ [a], ∃ o, H12 b = some o := fun b hb => by rw [List.mem_singleton.mp hb]; exact hw12.some
            clear hw9 hf9 sm9 sm39 hib9 hmb9 k9 s12
            -- the three ways to order them
            refine ⟨_, rfl, _, rfl, Nat.le_of_lt (small1000 (by simp)), fun p1 hp1 => ?_⟩
            have t1 := same_upd hp1 (.lst [V.ref ib, V.ref mb])
            have e1 : (upd H12 p1 (.lst [V.ref ib, V.ref mb])) p1 = some (.lst [V.ref ib, V.ref mb]) := upd_same
            generalize upd H12 p1 (.lst [V.ref ib, V.ref mb]) = J1 at t1 e1 ⊢
            refine ⟨_, rfl, _, rfl, Nat.le_of_lt (small1000 (by simp)), fun p2 hp2 => ?_⟩
            have t2 := t1.trans (same_upd hp2 (.lst [V.ref mb, V.ref ib]))
            have e21 := same_upd hp2 (.lst [V.ref mb, V.ref ib]) _ _ e1
            have e2 : (upd J1 p2 (.lst [V.ref mb, V.ref ib])) p2 = some (.lst [V.ref mb, V.ref ib]) := upd_same
            have n2 := t1.free hp2
            generalize upd J1 p2 (.lst [V.ref mb, V.ref ib]) = J2 at t2 e21 e2 ⊢
            refine ⟨_, rfl, _, rfl, Nat.zero_le _, fun p0 hp0 => ?_⟩
            have t3 := t2.trans (same_upd hp0 (.lst []))
            have e31 := same_upd hp0 (.lst []) _ _ e21
            have e32 := same_upd hp0 (.lst []) _ _ e2
            have e30 : (upd J2 p0 (.lst [])) p0 = some (.lst []) := upd_same
            have n0 := t2.free hp0
            generalize upd J2 p0 (.lst []) = J3 at t3 e31 e32 e30 ⊢
            refine ⟨Nat.le_of_lt (small1000 (by simp)), fun p3 hp3 => ?_⟩
            have x4 := same_upd hp3 (.lst [V.ref ib, V.ref mb, V.ref p0])
            have t4 := t3.trans x4
            have e43 : (upd J3 p3 (.lst [V.ref ib, V.ref mb, V.ref p0])) p3 = some (.lst [V.ref ib, V.ref mb, V.ref p0]) := upd_same
            have n3 := t3.free hp3
            have e41 := x4 _ _ e31
            have e42 := x4 _ _ e32
            have e40 := x4 _ _ e30
            generalize upd J3 p3 (.lst [V.ref ib, V.ref mb, V.ref p0]) = J4 at x4 t4 e43 e41 e42 e40 ⊢
            refine ⟨Nat.le_of_lt (small1000 (by simp)), fun po hpo => ?_⟩
            have x5 := same_upd hpo (.lst [V.ref p1, V.ref p2, V.ref p3])
            have eo : (upd J4 po (.lst [V.ref p1, V.ref p2, V.ref p3])) po = some (.lst [V.ref p1, V.ref p2, V.ref p3]) := upd_same
            generalize upd J4 po (.lst [V.ref p1, V.ref p2, V.ref p3]) = J5 at x5 eo ⊢
            refine ⟨_, rfl, Nat.le_of_lt (small1000 (by simp)), fun pq hpq => ?_⟩
            have x6 := same_upd hpq (.lst [V.int 2, V.int 3])
            have eq6 : (upd J5 pq (.lst [V.int 2, V.int 3])) pq = some (.lst [V.int 2, V.int 3]) := upd_same
            generalize upd J5 pq (.lst [V.int 2, V.int 3]) = J6 at x6 eq6 ⊢
            refine ⟨_, rfl, Nat.zero_le _, fun pe hpe => ?_⟩
            have x7 := same_upd hpe (.lst [])
            have ee7 : (upd J6 pe (.lst [])) pe = some (.lst []) := upd_same
            generalize upd J6 pe (.lst []) = J7 at x7 ee7 ⊢
            have t7 := ((t4.trans x5).trans x6).trans x7
            have x47 := (x5.trans x6).trans x7
            have x67 := x6.trans x7
            obtain ⟨mv, m1, m2⟩ := ((hmb12.keep kp_wo).keep kp_fr).keep (Kp.of t7)
            have dmx := dtB_depth lm
            refine ⟨_, _, .lst (SqL.of m1) m2.dp, .lst (SqL.of ee7) .nil, dt_shaped (dtB_lay g.nm lm gm1) (by omega), dt_shaped rfl (by decide), ?_⟩
            rw [eqv_nil]
            refine .inr ⟨_, rfl, ?_⟩
            obtain ⟨mm, hat, hmm⟩ : ∃ mm : Int, atI [V.int 2, V.int 3] (if (!(dtB lm).isEmpty) = true then 1 else 0) = some (.int mm) ∧ (mm = 2 ∨ mm = 3 ∧ lm ≠ []) := by
              cases lm with
              | nil => exact ⟨2, rfl, .inl rfl⟩
              | cons i r => exact ⟨3, by simp only [dtB]; rfl, .inr ⟨rfl, by simp⟩⟩
            refine ⟨pq, _, _, .int mm, rfl, rfl, SqL.of (x7 _ _ eq6), hat, a, mm, m0 + 3 + 2 * cW j, rfl, by omega, by omega, hw12.keep fun o e => t7 _ _ e, by omega, fun r H13 r0 r1 sm13 hw13 => ?_⟩
            have sm713 := sm13
            have aJ : ∀ (x : Addr) (xs : List V), J4 x = some (.lst xs) → x ≠ a → H13 x = some (.lst xs) := fun x xs e ne => sm13 _ _ (by simp [ne]) (x47 _ _ e)
            have na : ∀ (x : Addr) (Hx : Hp), Same H12 Hx → Hx x = none → x ≠ a := fun x Hx sx hx => by
              rintro rfl
              obtain ⟨o, e⟩ := hw12.some
              rw [sx _ _ e] at hx
              cases hx
            have hpoH := na po J4 t4 hpo
            have sm1213 : Sm [a] H12 H13 := (Sm.of_same t7).trans sm13
            have sm013 := sm12.trans sm1213
            have w1 : wo [f] (fr H H13) p1 = some (.lst [V.ref ib, V.ref mb]) := wof_new sm12 k12 hf12 hp1 (aJ _ _ e41 (na p1 _ (Same.refl _) hp1))
            have w2 : wo [f] (fr H H13) p2 = some (.lst [V.ref mb, V.ref ib]) := wof_new sm12 k12 hf12 n2 (aJ _ _ e42 (na p2 _ (Same.refl _) n2))
            have w0 : wo [f] (fr H H13) p0 = some (.lst []) := wof_new sm12 k12 hf12 n0 (aJ _ _ e40 (na p0 _ (Same.refl _) n0))
            have w3 : wo [f] (fr H H13) p3 = some (.lst [V.ref ib, V.ref mb, V.ref p0]) := wof_new sm12 k12 hf12 n3 (aJ _ _ e43 (na p3 _ (Same.refl _) n3))
            have hib13 := hib12.keep (kp_turn g.kept sm1213)
            have hmb13 := hmb12.keep (kp_turn g.kept sm1213)
            have hf13 : H13 f = some (.lst vs) := sm13 _ _ (by simp [hfa]) (t7 _ _ hf12)
            have gin := gi.ne
            have ile : il.isEmpty = false := by
              cases il with
              | nil => exact absurd rfl gin
              | cons _ _ => rfl
            obtain ⟨px, bs, ws, hpx, wx, hbs, b1, b2, b3, b4⟩ : ∃ (px : Addr) (bs : List (List FA.It)) (ws : List V), atI [V.ref p1, V.ref p2, V.ref p3] r = some (.ref px) ∧ wo [f] (fr H H13) px = some (.lst ws) ∧ BdsAt (wo [f] (fr H H13)) ws bs ∧ okI ss (.one bs) ∧ nCBs bs = nCB il + nCB lm ∧ nIBs bs = nIB il + nIB lm ∧ dBs bs ≤ j := by
              rcases (by omega : r = 0 ∨ r = 1 ∨ r = 2) with rfl | rfl | rfl
              · refine ⟨p1, [il, lm], _, rfl, w1, hib13.toBds (hmb13.toBds .nil), ?_, by simp only [nCBs]; omega, by simp only [nIBs]; omega, by simp only [dBs]; omega⟩
                simp only [okI, okBs]
                refine ⟨by simp, by simp, ?_, gi.ok, gm1, trivial⟩
                simp only [List.countP_cons, List.countP_nil, ile]
                cases lm.isEmpty <;> decide
              · refine ⟨p2, [lm, il], _, rfl, w2, hmb13.toBds (hib13.toBds .nil), ?_, by simp only [nCBs]; omega, by simp only [nIBs]; omega, by simp only [dBs]; omega⟩
                simp only [okI, okBs]
                refine ⟨by simp, by simp, ?_, gm1, gi.ok, trivial⟩
                simp only [List.countP_cons, List.countP_nil, ile]
                cases lm.isEmpty <;> decide
              · have hlm : lm ≠ [] := by
                  rcases hmm with rfl | ⟨_, z⟩
                  · omega
                  · exact z
                have lme : lm.isEmpty = false := by
                  cases lm with
                  | nil => exact absurd rfl hlm
                  | cons _ _ => rfl
                refine ⟨p3, [il, lm, []], _, rfl, w3, hib13.toBds (hmb13.toBds (.cons w0 .nil .nil)), ?_, by simp only [nCBs, nCB]; omega, by simp only [nIBs, nIB]; omega, by simp only [dBs, dB]; omega⟩
                simp only [okI, okBs, okB]
                refine ⟨by simp, by simp, ?_, gi.ok, gm1, trivial, trivial⟩
                simp only [List.countP_cons, List.countP_nil, ile, lme]
                simp
            refine ⟨po, _, _, .ref px, rfl, rfl, SqL.of (sm13 _ _ (by simp [hpoH]) (x67 _ _ eo)), hpx, ?_⟩
            refine ⟨_, rfl, .inl ⟨rfl, _, SqL.of hf13⟩, _, rfl, Nat.le_of_lt (small1000 (by simp)), fun t ht => ?_⟩
            have s14 := same_upd ht (.tup [V.str "one", V.ref px])
            have ht14 : (upd H13 t (.tup [V.str "one", V.ref px])) t = some (.tup [V.str "one", V.ref px]) := upd_same
            have htn := ht
            generalize upd H13 t (.tup [V.str "one", V.ref px]) = H14 at s14 ht14 ⊢
            refine ⟨f, _, _, rfl, rfl, s14 _ _ hf13, small1000 (by omega), ?_⟩
            have k13 : ∀ b ∈ [a], ∃ o, H13 b = some o := fun b hb => by rw [List.mem_singleton.mp hb]; exact hw13.some
            have tw : wo [f] (fr H H14) t = some (.tup [V.str "one", V.ref px]) := wof_new sm013 k13 hf13 htn ht14
            have kp14 : Kp (wo [f] (fr H H13)) (wo [f] (fr H H14)) := kp_turn g.kept (Sm.of_same (W := [a]) s14)
            exact more _ H14 (.ref t) (.one bs) _ _ _ _ _ _ (m0 + 4 + 2 * cW j) (by simp only [nC]; omega) (sm312.trans (sm1213.trans (Sm.of_same s14))) (.one tw (kp14.l _ _ wx) (hbs.keep kp14)) ((hw13.mono (by omega)).keep fun o e => s14 _ _ e) (by omega) b1 (by simp only [nC]; omega) (by simp only [nC]; omega) (by simp only [nI]; omega) (by simp only [dI]; omega)
    · refine ⟨_, rfl, _, _, rfl, rfl, _, rfl, ite2 (fun z => absurd z hl) (fun _ => ?_)⟩
      refine ⟨l, vs, _, _, _, _, _, _, rfl, sm04, hf4, by omega, its.keep (kp_turn g.kept sm4), hw4.mono (by omega), ok, hcc, fun _ => ?_, by omega, hd⟩
      have : ¬ (c - (nCB l : Nat) > 0) := fun z => hl (decide_eq_true z)
      omega
  · rintro σ H3 ⟨l, vs, v4, v7, v8, v9, v10, v11, rfl, sm3, hf3, hvl, its, hw3, ok, hcc, hc0, hni, hd⟩
    have hm : (1 + r1).toNat * Wd ≤ 3 * Wd := Nat.mul_le_mul_right _ (by omega)
    have hm2 : (1 + r1).toNat * Nd ≤ 3 * Nd := Nat.mul_le_mul_right _ (by omega)
    exact ⟨_, rfl, q f l H3 sm3 (hw3.mono (by omega)) ⟨vs, fr_some.mpr ⟨hf, hf3⟩, its.keep kp_wo⟩ ⟨ok, hc0 (by omega), hcc, by omega, hd⟩⟩
theorem okLItems (T : Txt K mg) : ∀ j : Nat, FnOk P w K mg base CX0 (4 + j) T.aLItems T.fLItems ["spring", "some", "calls", "deep"] (spLItems j)
  | 0 => fn_never fun vs H Q E h => by
    obtain ⟨_, _, _, _, _, _, h1, _⟩ := h
    omega
  | j + 1 => by
    have := okLItems1 (P := P) (w := w) (base := base) T j (okLItems T j)
    rw [show 4 + (j + 1) = 5 + j by omega]
    exact this
end K43


set_option Elab.async false
set_option linter.all false
set_option maxRecDepth 100000
set_option maxHeartbeats 8000000
namespace K43
open PySem PySem.Spec PyProof.Rows L2 FA
variable {P : Program} {w : World} {K : PySem.W.Frag} {mg : Str → Option Value} {base : Heap}
/-! ### the law's costs: each body's is cut at 99 -/
mutual
def capI (f : Str → Int) : FA.It → Int
  | .call x => f x
  | .may _ => 0
  | .loop _ => 0
  | .one bs => minL (capBs f bs)
def capS (f : Str → Int) : List FA.It → Int
  | [] => 0
  | i :: r => capI f i + capS f r
def capBs (f : Str → Int) : List (List FA.It) → List Int
  | [] => []
  | b :: r => min 99 (capS f b) :: capBs f r
end
def capB (f : Str → Int) (b : List FA.It) : Int := min 99 (capS f b)
theorem capBs_map (f : Str → Int) : ∀ bs : List (List FA.It), capBs f bs = bs.map (capB f)
  | [] => by simp only [capBs, List.map_nil]
  | b :: r => by simp only [capBs, List.map_cons, capBs_map f r, capB]
theorem capS_app (f : Str → Int) : ∀ a b : List FA.It, capS f (a ++ b) = capS f a + capS f b
  | [], b => by simp [capS]
  | i :: r, b => by simp only [List.cons_append, capS, capS_app f r b]; omega
theorem capS_take {f : Str → Int} {l : List FA.It} {i : Nat} {it : FA.It} (h : l[i]? = some it) : capS f (l.take (i + 1)) = capS f (l.take i) + capI f it := by
  rw [List.take_add_one, h, capS_app]
  simp [capS]
mutual
theorem capI_nn {f : Str → Int} (hf : ∀ x, 0 ≤ f x) : ∀ i : FA.It, 0 ≤ capI f i
  | .call x => by simp only [capI]; exact hf x
  | .may _ => by simp only [capI]; omega
  | .loop _ => by simp only [capI]; omega
  | .one bs => by
    simp only [capI]
    cases bs with
    | nil => simp [capBs, minL]
    | cons b r =>
      have h := minL_mem (l := capBs f (b :: r)) (by simp [capBs])
      exact capBs_nn hf (b :: r) _ h
theorem capS_nn {f : Str → Int} (hf : ∀ x, 0 ≤ f x) : ∀ b : List FA.It, 0 ≤ capS f b
  | [] => by simp [capS]
  | i :: r => by
    have h1 := capI_nn hf i
    have h2 := capS_nn hf r
    simp only [capS]; omega
theorem capBs_nn {f : Str → Int} (hf : ∀ x, 0 ≤ f x) : ∀ bs : List (List FA.It), ∀ y ∈ capBs f bs, 0 ≤ y
  | [], y, h => by simp [capBs] at h
  | b :: r, y, h => by
    simp only [capBs, List.mem_cons] at h
    rcases h with rfl | h
    · have := capS_nn hf b; omega
    · exact capBs_nn hf r y h
end
mutual
theorem capI_congr {ns : List Str} {f g : Str → Int} (h : ∀ x ∈ ns, f x = g x) : ∀ i : FA.It, okI ns i → capI f i = capI g i
  | .call x, k => by simp only [okI] at k; simp only [capI]; exact h x k
  | .may _, _ => by simp only [capI]
  | .loop _, _ => by simp only [capI]
  | .one bs, k => by simp only [okI] at k; simp only [capI]; rw [capBs_congr h bs k.2.2.2]
theorem capS_congr {ns : List Str} {f g : Str → Int} (h : ∀ x ∈ ns, f x = g x) : ∀ b : List FA.It, okB ns b → capS f b = capS g b
  | [], _ => by simp [capS]
  | i :: r, k => by simp only [okB] at k; simp only [capS]; rw [capI_congr h i k.1, capS_congr h r k.2]
theorem capBs_congr {ns : List Str} {f g : Str → Int} (h : ∀ x ∈ ns, f x = g x) : ∀ bs : List (List FA.It), okBs ns bs → capBs f bs = capBs g bs
  | [], _ => by simp [capBs]
  | b :: r, k => by simp only [okBs] at k; simp only [capBs]; rw [capS_congr h b k.1, capBs_congr h r k.2]
end
theorem capB_congr {ns : List Str} {f g : Str → Int} (h : ∀ x ∈ ns, f x = g x) {b : List FA.It} (k : okB ns b) : capB f b = capB g b := by
  unfold capB
  rw [capS_congr h b k]
/-- place by place -/
def le12 : List Int → List Int → Prop
  | [], [] => True
  | x :: r, y :: s => min 12 x ≤ y ∧ le12 r s
  | _, _ => False
theorem minL_le12 : ∀ {l m : List Int}, le12 l m → min 12 (minL l) ≤ minL m
  | [], [], _ => by decide
  | [x], [y], h => h.1
  | x :: x' :: r, y :: y' :: s, h => by
    have ih := minL_le12 (l := x' :: r) (m := y' :: s) h.2
    have h1 := h.1
    simp only [minL]; omega
  | [_], _ :: _ :: _, h => h.2.elim
  | _ :: _ :: _, [_], h => h.2.elim
  | [], _ :: _, h => h.elim
  | _ :: _, [], h => h.elim
mutual
theorem capI_ge {ns : List Str} {r g : Str → Int} (hr : ∀ x, 0 ≤ r x) (h : ∀ x ∈ ns, r x ≤ g x) : ∀ i : FA.It, okI ns i → min 12 (cost r i) ≤ capI g i
  | .call x, k => by simp only [okI] at k; have := h x k; simp only [cost, capI]; omega
  | .may _, _ => by simp only [cost, capI]; omega
  | .loop _, _ => by simp only [cost, capI]; omega
  | .one bs, k => by simp only [okI] at k; simp only [cost, capI]; exact minL_le12 (capBs_ge hr h bs k.2.2.2)
theorem capS_ge {ns : List Str} {r g : Str → Int} (hr : ∀ x, 0 ≤ r x) (h : ∀ x ∈ ns, r x ≤ g x) : ∀ b : List FA.It, okB ns b → min 12 (costB r b) ≤ capS g b
  | [], _ => by simp only [costB, capS]; omega
  | i :: t, k => by
    simp only [okB] at k
    have h1 := capI_ge hr h i k.1
    have h2 := capS_ge hr h t k.2
    have h3 := cost_nn hr i
    have h4 := costB_nn hr t
    simp only [costB, capS]; omega
theorem capBs_ge {ns : List Str} {r g : Str → Int} (hr : ∀ x, 0 ≤ r x) (h : ∀ x ∈ ns, r x ≤ g x) : ∀ bs : List (List FA.It), okBs ns bs → le12 (costBs r bs) (capBs g bs)
  | [], _ => by simp [costBs, capBs, le12]
  | b :: t, k => by
    simp only [okBs] at k
    have h1 := capS_ge hr h b k.1
    simp only [costBs, capBs, le12]
    exact ⟨by omega, capBs_ge hr h t k.2⟩
end
theorem capB_ge {ns : List Str} {r g : Str → Int} (hr : ∀ x, 0 ≤ r x) (h : ∀ x ∈ ns, r x ≤ g x) {b : List FA.It} (k : okB ns b) : min 12 (costB r b) ≤ capB g b := by
  have := capS_ge hr h b k
  unfold capB; omega
/-- the law's round k -/
def grd (p : Pr) : Nat → Str → Int
  | 0, _ => 99
  | k + 1, x => 1 + capB (grd p k) (bodyOf p x)
theorem grd_pos (p : Pr) : ∀ k x, 1 ≤ grd p k x
  | 0, _ => by simp only [grd]; omega
  | k + 1, x => by
    have := capS_nn (f := grd p k) (fun y => by have := grd_pos p k y; omega) (bodyOf p x)
    simp only [grd, capB]; omega
/-- with some bodies made optional the program's round is no greater -/
theorem rnd_grd {p q : Pr} (h : ∀ x ∈ pNames p, (bodyOf q x = bodyOf p x ∧ okB (pNames p) (bodyOf p x)) ∨ ∀ f, costB f (bodyOf q x) = 0) : ∀ k, ∀ x ∈ pNames p, rnd 13 q k x ≤ grd p k x
  | 0, x, _ => by simp only [rnd, grd]; decide
  | k + 1, x, hx => by
    have ih := rnd_grd h k
    rcases h x hx with ⟨e, ok⟩ | e
    · have := capB_ge (rnd_nn (c := 13) (by decide) q k) ih ok
      simp only [rnd, grd, e]; omega
    · have := grd_pos p (k + 1) x
      simp only [rnd, e]; omega
/-! ### as many rounds as functions are enough -/
mutual
theorem cost_sel {ns : List Str} {f g : Str → Int} {m : Int} (hf : ∀ x, 0 ≤ f x) (h : ∀ x ∈ ns, f x ≤ m → g x ≤ f x) : ∀ i : FA.It, okI ns i → cost f i ≤ m → cost g i ≤ cost f i
  | .call x, k, c => by simp only [okI] at k; simp only [cost] at c ⊢; exact h x k c
  | .may _, _, _ => by simp only [cost]; omega
  | .loop _, _, _ => by simp only [cost]; omega
  | .one bs, k, c => by
    simp only [okI] at k
    simp only [cost] at c ⊢
    have hne : costBs f bs ≠ [] := fun z => by
      rw [costBs_map, List.map_eq_nil_iff] at z
      rw [z] at k
      simp at k
    have hm := minL_mem hne
    rw [costBs_map, List.mem_map] at hm
    obtain ⟨b, hb, e⟩ := hm
    rw [← costBs_map] at e
    have h1 := costBs_sel hf h bs k.2.2.2 b hb (by omega)
    have h2 : minL (costBs g bs) ≤ costB g b := minL_le (by rw [costBs_map]; exact List.mem_map.mpr ⟨b, hb, rfl⟩)
    omega
theorem costB_sel {ns : List Str} {f g : Str → Int} {m : Int} (hf : ∀ x, 0 ≤ f x) (h : ∀ x ∈ ns, f x ≤ m → g x ≤ f x) : ∀ b : List FA.It, okB ns b → costB f b ≤ m → costB g b ≤ costB f b
  | [], _, _ => by simp only [costB]; omega
  | i :: r, k, c => by
    simp only [okB] at k
    simp only [costB] at c ⊢
    have n1 := cost_nn hf i
    have n2 := costB_nn hf r
    have h1 := cost_sel hf h i k.1 (by omega)
    have h2 := costB_sel hf h r k.2 (by omega)
    omega
theorem costBs_sel {ns : List Str} {f g : Str → Int} {m : Int} (hf : ∀ x, 0 ≤ f x) (h : ∀ x ∈ ns, f x ≤ m → g x ≤ f x) : ∀ bs : List (List FA.It), okBs ns bs → ∀ b ∈ bs, costB f b ≤ m → costB g b ≤ costB f b
  | [], _, b, hb, _ => by simp at hb
  | b' :: r, k, b, hb, c => by
    simp only [okBs] at k
    rcases List.mem_cons.mp hb with e | hb
    · rw [e] at c ⊢
      exact costB_sel hf h b' k.1 c
    · exact costBs_sel hf h r k.2 b hb c
end
theorem countP_lt {α : Type} {P Q : α → Bool} (h : ∀ x, P x = true → Q x = true) : ∀ {l : List α} {y : α}, y ∈ l → Q y = true → P y = false → l.countP P < l.countP Q
  | x :: r, y, hy, q, n => by
    have mono : ∀ l : List α, l.countP P ≤ l.countP Q := fun l => by
      induction l with
      | nil => simp
      | cons a t ih =>
        simp only [List.countP_cons]
        cases hp : P a with
        | true => rw [h a hp]; simp; omega
        | false => simp; omega
    simp only [List.countP_cons]
    rcases List.mem_cons.mp hy with rfl | hy
    · have := mono r
      rw [q, n]; simp; omega
    · have := countP_lt h hy q n
      cases hp : P x with
      | true => rw [h x hp]; simp; omega
      | false => simp; omega
theorem rnd_settle {p : Pr} (ok : ∀ x ∈ pNames p, okB (pNames p) (bodyOf p x)) (M : Nat) : ∀ (n : Nat) (x : Str), x ∈ pNames p → rnd 13 p M x < 13 → (pNames p).countP (fun y => decide (rnd 13 p M y < rnd 13 p M x)) ≤ n → ∀ j, n + 1 ≤ j → rnd 13 p j x ≤ rnd 13 p M x := by
  intro n
  induction n with
  | zero =>
    intro x hx hv hn j hj
    obtain ⟨j', rfl⟩ : ∃ j', j = j' + 1 := ⟨j - 1, by omega⟩
    cases M with
    | zero => simp only [rnd] at hv; omega
    | succ M' =>
      have e : rnd 13 p (M' + 1) x = 1 + costB (rnd 13 p M') (bodyOf p x) := by simp only [rnd] at hv ⊢; omega
      have := costB_sel (m := rnd 13 p (M' + 1) x - 1) (g := rnd 13 p j') (rnd_nn (c := 13) (by decide) p M') (fun y hy hle => by
        exfalso
        have h1 := rnd_down (c := 13) p M' y
        have h2 : 0 < (pNames p).countP (fun y => decide (rnd 13 p (M' + 1) y < rnd 13 p (M' + 1) x)) := List.countP_pos_iff.mpr ⟨y, hy, decide_eq_true (by omega)⟩
        omega) _ (ok x hx) (by omega)
      simp only [rnd] at e ⊢; omega
  | succ n ih =>
    intro x hx hv hn j hj
    obtain ⟨j', rfl⟩ : ∃ j', j = j' + 1 := ⟨j - 1, by omega⟩
    cases M with
    | zero => simp only [rnd] at hv; omega
    | succ M' =>
      have e : rnd 13 p (M' + 1) x = 1 + costB (rnd 13 p M') (bodyOf p x) := by simp only [rnd] at hv ⊢; omega
      have := costB_sel (m := rnd 13 p (M' + 1) x - 1) (g := rnd 13 p j') (rnd_nn (c := 13) (by decide) p M') (fun y hy hle => by
        have h1 := rnd_down (c := 13) p M' y
        have h2 := countP_lt (P := fun z => decide (rnd 13 p (M' + 1) z < rnd 13 p (M' + 1) y)) (Q := fun z => decide (rnd 13 p (M' + 1) z < rnd 13 p (M' + 1) x)) (fun z hz => decide_eq_true (by have := of_decide_eq_true hz; omega)) hy (decide_eq_true (by omega)) (decide_eq_false (by omega))
        have := ih y hy (by omega) (by omega) j' (by omega)
        omega) _ (ok x hx) (by omega)
      simp only [rnd] at e ⊢; omega
theorem rnd_enough {p : Pr} (ok : ∀ x ∈ pNames p, okB (pNames p) (bodyOf p x)) {M : Nat} {x : Str} (hx : x ∈ pNames p) (h : rnd 13 p M x ≤ 12) : rnd 13 p p.length x ≤ 12 := by
  have h1 := countP_lt (P := fun y => decide (rnd 13 p M y < rnd 13 p M x)) (Q := fun _ => true) (fun _ _ => rfl) hx rfl (decide_eq_false (by omega))
  have h2 : (pNames p).countP (fun _ => true) = p.length := by
    rw [List.countP_true]
    unfold pNames
    rw [List.length_map]
  have := rnd_settle ok M _ x hx (by omega) (Nat.le_refl _) p.length (by omega)
  omega
/-! ### the def -/
def LgAt (H : Hp) (L : Addr) (f : Str → Int) : Prop := ∃ kvs, Rd H L (.dK kvs) ∧ ∀ x, (valV kvs (.inr x)).getD (.int 99) = .int (f x)
theorem LgAt.same {H H' : Hp} {L : Addr} {f : Str → Int} (sm : Same H H') (h : LgAt H L f) : LgAt H' L f := by
  obtain ⟨kvs, h1, h2⟩ := h
  exact ⟨kvs, Rd.same sm h1, h2⟩
def spLCost (n : Nat) : Sp := fun vs H Q _ => ∃ (b L : Addr) (ns : List Str) (f : Str → Int) (l : List FA.It), vs = [.ref L, .ref b] ∧ BdAt H b l ∧ LgAt H L f ∧ okB ns l ∧ nIB l ≤ 12 ∧ dB l ≤ n ∧ ∀ H', Same H H' → Q (.int (capB f l)) H'
theorem okLCost1 (T : Txt K mg) (n : Nat) (GLCost : FnOk P w K mg base CX0 (n + 1) T.aLCost T.fLCost ["costs", "body"] (spLCost n)) : FnOk P w K mg base CX0 (n + 2) T.aLCost T.fLCost ["costs", "body"] (spLCost (n + 1)) := by
  refine T.FLCost.ok scLCost (fun vs H Q E h => ?_) (fun cdv A outer s H vs Q E hr h => ?_)
  · obtain ⟨b, L, ns, f, l, rfl, _⟩ := h
    rfl
  obtain ⟨b, L, ns, f, l, rfl, ⟨vs, hb, hits⟩, hL, hok, hN, hn, q⟩ := h
  have hu := hu_of hr
  refine ⟨_, (pss_cons (ps_set (i := 2) scLCost.nd rfl (by first | exact Or.inl rfl | exact Or.inr rfl) pe_int)
      (pss_cons (ps_for PassesOwn.never rfl (pi_list (pv 1)) (pg_name (i := 3) scLCost.nd rfl (by first | exact Or.inl rfl | exact Or.inr rfl))
        (pss_one (ps_if (pt_val (pe_callB call_isi (by rfl) T.n_isinstance (by decide +kernel) (pa_cons (pv 3) (pa_cons (pe_bltn (v := .ty "str") (by rfl) T.n_str (by decide +kernel) rfl) pa_nil))))
          (pss_one (ps_set (i := 2) scLCost.nd rfl (by first | exact Or.inl rfl | exact Or.inr rfl) (pe_op op_add (pv 2) (pe_dget2 hu (pv 0) (pv 3) pe_int (by exact ⟨rfl, rfl, rfl, rfl⟩))))) (pss_one (ps_if (pt_cmpR op_eq (pe_ix ix_tup (pv 3) pe_int (fun _ _ => rfl)) pe_str (nomark _))
            (pss_one (ps_set (i := 2) scLCost.nd rfl (by first | exact Or.inl rfl | exact Or.inr rfl) (pe_op op_add (pv 2) (pe_callB (cr_min rfl) (by rfl) T.n_min (by decide +kernel) (pa_cons (pe_lc (own := [("inner", 4)]) (g := gName 4) (tt := tYes) rfl scLCost.nd (pi_list (pe_ix ix_tup (pv 3) pe_int (fun _ _ => rfl))) (blkOk_by (N := ["costs", "body", "found", "item", "inner"]) (sc := defScope sLCost) (by decide +kernel)) (fun _ _ _ _ _ => (pg_name (i := 4) scLCost.nd rfl (by first | exact Or.inl rfl | exact Or.inr rfl))) (fun _ _ _ _ _ => pts_nil) (fun _ _ _ _ _ => (pe_call GLCost (hr.mono (by omega)) rfl T.gLCost T.FLCost.kp T.bLCost .nil pass0 (pa_cons (pv 0) (pa_cons (pv 4) pa_nil))))) pa_nil))))) pss_nil)))))
      (pss_one (ps_ret (pe_callB (call_min2 rfl) (by rfl) T.n_min (by decide +kernel) (pa_cons pe_int (pa_cons (pv 2) pa_nil))))))), ?_⟩
  have hl := hits.length
  have hll := nIB_len l
  refine ⟨_, rfl, b, rfl, ⟨_, SqL.of hb⟩, for_list (K := K) (a := b) (xs := vs) (fun i σ H' => ∃ v3 v4, σ = [some (.ref L), some (.ref b), some (.int (capS f (l.take i))), v3, v4] ∧ Same H H') ⟨none, none, rfl, Same.refl _⟩ ?_ ?_ ?_⟩
  · rintro i σ H' _ ⟨_, _, _, sm⟩
    exact SqL.of (sm _ _ hb)
  · rintro i y σ H1 hi ⟨v3, v4, rfl, sm⟩
    obtain ⟨it, e1, e2⟩ := hits.get hi
    have hm : it ∈ l := List.mem_of_getElem? e1
    have e3 := e2.keep (Kp.of sm)
    have ec := capS_take (f := f) e1
    have c7 := dB_mem hm
    have c8 := nIB_mem hm
    have oki := okB_all.mp hok it hm
    rcases e3.parts with ⟨x, rfl, rfl⟩ | ⟨t, k, b', ws, rfl, h1, h2, ⟨rfl, ls, rfl, h3⟩ | ⟨hk, l', hit, h3⟩⟩
    · obtain ⟨kvs, h1, h2⟩ := hL.same sm
      refine ⟨_, rfl, _, _, _, _, true, rfl, .ty _, ty_str x, kit_ty (by decide +kernel), _, rfl, iteT ?_⟩
      refine ⟨_, rfl, _, rfl, L, rfl, .inl ⟨kvs, h1⟩, _, rfl, _, .inl ⟨kvs, .inr x, h1, rfl, rfl⟩, _, _, rfl, h2 x, ?_⟩
      refine ⟨some (.str x), v4, ?_, sm⟩
      rw [ec]
      simp only [capI]
      rfl
    · simp only [okI] at oki
      obtain ⟨k1, k2, k3, k4⟩ := oki
      simp only [nI] at c8
      simp only [dI] at c7
      have hl3 := h3.length
      refine ⟨_, rfl, _, _, _, _, false, rfl, .ty _, ty_tup h1, kit_ty (by decide +kernel), _, rfl, iteF ?_⟩
      refine ⟨_, rfl, _, _, _, _, rfl, rfl, SqT.of h1, at_of (j := 0) rfl rfl, rfl, _, rfl, ite2 (fun _ => ?_) (fun c => absurd (decide_eq_true rfl) c)⟩
      refine ⟨_, rfl, _, rfl, _, _, _, _, rfl, rfl, SqT.of h1, at_of (j := 1) rfl rfl, b', rfl, ⟨_, SqL.of h2⟩, fun D hD => lcS (n := ws.length) hD (small1000 (by omega)) _ (fun j v _ => ∃ bd, ls[j]? = some bd ∧ v = .int (capB f bd))
        (go_l (SqL.of h2)) (stop_l (SqL.of h2)) (yld_l (SqL.of h2)) (fun j v A B _ h => h) ?_ ?_⟩
      · intro j x H2 R hj hx s2 k
        obtain ⟨b2, bd, rfl, q1, q2⟩ := h3.get hx
        have hm : bd ∈ ls := List.mem_of_getElem? q1
        have m1 := nIBs_mem hm
        have m2 := dBs_mem hm
        exact ⟨rfl, _, rfl, _, rfl, b2, L, ns, f, bd, rfl, q2.keep (Kp.of s2), (hL.same sm).same s2, okBs_all.mp k4 bd hm, by omega, by omega, fun H3 s3 => k _ H3 s3 ⟨bd, q1, rfl⟩⟩
      · intro H2 ys s2 hy hyl hg
        have e := ext_map (ys := ys) (l := ls) (f := fun b => V.int (capB f b)) (by omega) hg
        refine ⟨D, ls.map (capB f), rfl, SqL.of (by rw [hy, e, List.map_map]; rfl), by rw [List.length_map]; omega, fun m hm hle => ?_⟩
        have em := minL_unique hm hle
        refine ⟨_, _, rfl, rfl, some (.ref t), v4, ?_, sm.trans s2⟩
        rw [ec, em]
        simp only [capI, capBs_map]
        rfl
    · refine ⟨_, rfl, _, _, _, _, false, rfl, .ty _, ty_tup h1, kit_ty (by decide +kernel), _, rfl, iteF ?_⟩
      refine ⟨_, rfl, _, _, _, _, rfl, rfl, SqT.of h1, at_of (j := 0) rfl rfl, rfl, _, rfl, ite2 (fun c => absurd (V.str.inj (of_decide_eq_true c)) hk) (fun _ => ?_)⟩
      refine ⟨some (.ref t), v4, ?_, sm⟩
      rw [ec]
      rcases hit with rfl | rfl <;> simp only [capI, Int.add_zero] <;> rfl
  · rintro σ H1 ⟨v3, v4, rfl, sm⟩
    refine ⟨_, rfl, _, _, rfl, ?_⟩
    have := q H1 sm
    rw [List.take_of_length_le (by omega)]
    have e : (if capS f l < 99 then capS f l else 99) = capB f l := by unfold capB; split <;> omega
    rw [e]
    exact this
theorem okLCost (T : Txt K mg) : ∀ n : Nat, FnOk P w K mg base CX0 (n + 1) T.aLCost T.fLCost ["costs", "body"] (spLCost n)
  | 0 => fn_never fun vs H Q E h => by
    obtain ⟨b, L, ns, f, l, _, _, _, _, _, h0, _⟩ := h
    have := dB_pos l
    omega
  | n + 1 => okLCost1 T n (okLCost T n)
end K43


set_option Elab.async false
set_option linter.all false
set_option maxRecDepth 100000
set_option maxHeartbeats 8000000
namespace K43
open PySem PySem.Spec PyProof.Rows L2 FA
variable {P : Program} {w : World} {K : PySem.W.Frag} {mg : Str → Option Value} {base : Heap}
/-! ### the order of the names -/
structure Ord (ord : List Str) : Prop where
  nm : ∀ x ∈ ord, FA.okName x
  nd : ord.Nodup
  main : ("main" : Str) ∈ ord
  len : ord.length ≤ 6
  oth : ("other" : Str) ∉ ord
theorem main_ok : FA.okName "main" := ⟨by decide +kernel, by decide +kernel, by decide +kernel⟩
theorem look_nd : ∀ {p : Pr} {x : Str} {l : Bd}, (pNames p).Nodup → (x, l) ∈ p → p.lookup x = some l
  | (y, m) :: p, x, l, nd, h => by
    have nd' : y ∉ pNames p ∧ (pNames p).Nodup := List.nodup_cons.mp nd
    rcases List.mem_cons.mp h with e | h
    · cases e
      simp [List.lookup]
    · have hx : x ∈ pNames p := List.mem_map.mpr ⟨_, h, rfl⟩
      have e : (x == y) = false := beq_eq_false_iff_ne.mpr fun z => nd'.1 (by rw [← z]; exact hx)
      simp only [List.lookup, e]
      exact look_nd nd'.2 h
inductive RwAt (H : Hp) : List V → Pr → Prop
  | nil : RwAt H [] []
  | cons {t b : Addr} {x : Str} {l : Bd} {vs : List V} {p : Pr} : H t = some (.tup [.str x, .ref b]) → BdAt H b l → RwAt H vs p → RwAt H (.ref t :: vs) ((x, l) :: p)
theorem RwAt.keep {H H' : Hp} (k : Kp H H') {vs : List V} {p : Pr} (h : RwAt H vs p) : RwAt H' vs p := by
  induction h with
  | nil => exact .nil
  | cons h1 h2 _ ih => exact .cons (k.t _ _ h1) (h2.keep k) ih
theorem RwAt.length {H : Hp} {vs : List V} {p : Pr} (h : RwAt H vs p) : vs.length = p.length := by
  induction h with
  | nil => rfl
  | cons _ _ _ ih => rw [List.length_cons, List.length_cons, ih]
theorem RwAt.snoc {H : Hp} {vs : List V} {p : Pr} {t b : Addr} {x : Str} {l : Bd} (h : RwAt H vs p) (h1 : H t = some (.tup [.str x, .ref b])) (h2 : BdAt H b l) : RwAt H (vs ++ [.ref t]) (p ++ [(x, l)]) := by
  induction h with
  | nil => exact .cons h1 h2 .nil
  | cons g1 g2 _ ih => exact .cons g1 g2 ih
/-- the rows as dict(..) takes them -/
theorem RwAt.paired {H H' : Hp} (k : Kp H H') {ys : List V} {p : Pr} (h : RwAt H ys p) : ∃ (ps : List Addr) (kvs : List (Key × V)), ys = ps.map V.ref ∧ Paired (fun p kv => SqT K H' p [kV kv.1, kv.2]) ps kvs ∧ PrKv H kvs p := by
  induction h with
  | nil => exact ⟨[], [], rfl, .nil, .nil⟩
  | @cons t b x l vs p h1 h2 _ ih =>
    obtain ⟨ps, kvs, e, q1, q2⟩ := ih
    exact ⟨t :: ps, (.inr x, .ref b) :: kvs, by rw [e]; rfl, .cons (SqT.of (k.t _ _ h1)) q1, .cons h2 q2⟩
theorem rnd_body {c : Int} {p q : Pr} (h : ∀ x, bodyOf p x = bodyOf q x) : ∀ k, rnd c p k = rnd c q k
  | 0 => by funext x; rfl
  | k + 1 => by funext x; simp only [rnd, rnd_body h k, h x]
theorem names_perm {p q : Pr} (h : q.Perm p) : (pNames q).Perm (pNames p) := List.Perm.map (fun x : Str × Bd => x.1) h
theorem body_perm {p q : Pr} (h : q.Perm p) (nd : (pNames p).Nodup) : ∀ x, bodyOf q x = bodyOf p x := fun x => by
  have nq : (pNames q).Nodup := (names_perm h).symm.nodup nd
  unfold bodyOf
  cases e : p.lookup x with
  | some l => rw [look_nd nq (h.mem_iff.mpr (mem_look e))]
  | none =>
    cases e2 : q.lookup x with
    | none => rfl
    | some l =>
      have := look_nd nd (h.mem_iff.mp (mem_look e2))
      rw [e] at this
      cases this
theorem Valid.perm {p q : Pr} (h : q.Perm p) (va : Valid p) : Valid q := by
  have pn : (pNames q).Perm (pNames p) := names_perm h
  refine ⟨by rw [h.length_eq]; exact va.len, pn.mem_iff.mpr va.main, fun x hx => va.nm x (pn.mem_iff.mp hx), pn.symm.nodup va.nd, fun x l e => ?_, fun x hx => ?_⟩
  · obtain ⟨o1, o2, o3, o4⟩ := va.ok x l (look_nd va.nd (h.mem_iff.mp (mem_look e)))
    exact ⟨okB_more (fun y hy => pn.mem_iff.mpr hy) l o1, o2, o3, o4⟩
  · rw [rnd_body (body_perm h va.nd), h.length_eq]
    exact va.ret x (pn.mem_iff.mp hx)
theorem valid_list {p : Pr} (len : p.length ≤ 6) (main : ("main" : Str) ∈ pNames p) (nm : ∀ x ∈ pNames p, FA.okName x) (nd : (pNames p).Nodup) (ok : ∀ q ∈ p, okB (pNames p) q.2 ∧ nCB q.2 ≤ 5 ∧ nIB q.2 ≤ 12 ∧ dB q.2 ≤ 4) (ret : ∀ x ∈ pNames p, rnd 13 p p.length x ≤ 12) : Valid p :=
  ⟨len, main, nm, nd, fun x l e => ok (x, l) (mem_look e), ret⟩
theorem lgAt_ls {H : Hp} {L : Addr} {p : Pr} {f : Str → Int} (hL : Rd H L (.dK (lsKv p f))) : LgAt H L (fun x => if x ∈ pNames p then f x else 99) := by
  refine ⟨_, hL, fun x => ?_⟩
  by_cases hx : x ∈ pNames p
  · dsimp only
    rw [lsKv_look hx, if_pos hx]; rfl
  · dsimp only
    rw [valV_out, if_neg hx]
    · rfl
    · intro q hq e
      unfold lsKv at hq
      obtain ⟨r, hr, rfl⟩ := List.mem_map.mp hq
      exact hx (List.mem_map.mpr ⟨r, hr, Sum.inr.inj e⟩)
theorem lsKv_nd {p : Pr} {f : Str → Int} (h : (pNames p).Nodup) : ((lsKv p f).map (·.1)).Nodup := by
  unfold lsKv
  rw [List.map_map]
  have : (p.map ((fun q => q.1) ∘ fun q => ((Sum.inr q.1 : Key), V.int (f q.1)))) = (pNames p).map Sum.inr := by unfold pNames; rw [List.map_map]; rfl
  rw [this]
  exact List.Pairwise.map _ (fun a b hab z => hab (Sum.inr.inj z)) h
/-! ### the menus of names -/
def mB0 : List Str := ["main", "a", "b", "c", "d", "e"]
def mB1 : List Str := ["main", "zz", "mainmain", "aa", "q", "abcdefgh"]
def mB2 : List Str := ["main", "one", "loop", "maybe", "call", "a"]
def menusB : List (List Str) := [mB0, mB1, mB2]
theorem menusB_ok : ∀ ns ∈ menusB, ((∀ x ∈ ns, 1 ≤ x.cps.size ∧ x.cps.size ≤ 8 ∧ ∀ c ∈ x.cps.toList, 97 ≤ c ∧ c ≤ 122) ∧ ns.Nodup ∧ ns.head? = some ("main" : Str) ∧ ns.length = 6 ∧ ("other" : Str) ∉ ns) := by decide +kernel
theorem ordB_of {ns : List Str} {k : Nat} (h : ns ∈ menusB) (h1 : 1 ≤ k) : Ord (ns.take k) := by
  obtain ⟨a1, a2, a3, a4, a5⟩ := menusB_ok ns h
  refine ⟨fun x hx => a1 x (List.mem_of_mem_take hx), (List.take_sublist k ns).nodup a2, ?_, by rw [List.length_take]; omega, fun z => a5 (List.mem_of_mem_take z)⟩
  obtain ⟨k', rfl⟩ : ∃ k', k = k' + 1 := ⟨k - 1, by omega⟩
  cases ns with
  | nil => simp at a4
  | cons x r =>
    simp only [List.head?_cons, Option.some.injEq] at a3
    simp [a3]
/-! ### bodies made optional -/
def fixP (g : Str → Int) (S : List Str) (p : Pr) : Pr := p.map fun q => if q.1 ∈ S ∧ 12 < g q.1 then (q.1, [.may q.2]) else q
theorem fixP_names (g : Str → Int) (S : List Str) (p : Pr) : pNames (fixP g S p) = pNames p := by
  unfold fixP pNames
  rw [List.map_map]
  refine List.map_congr_left fun q _ => ?_
  show (if q.1 ∈ S ∧ 12 < g q.1 then (q.1, [FA.It.may q.2]) else q).1 = q.1
  split <;> rfl
theorem fixP_nil (g : Str → Int) (p : Pr) : fixP g [] p = p := by
  unfold fixP
  conv => rhs; rw [← List.map_id p]
  refine List.map_congr_left fun q _ => ?_
  simp
theorem fixP_look {g : Str → Int} {S : List Str} {p : Pr} {x : Str} {l : Bd} (nd : (pNames p).Nodup) (h : p.lookup x = some l) : (fixP g S p).lookup x = some (if x ∈ S ∧ 12 < g x then [.may l] else l) := by
  refine look_nd (by rw [fixP_names]; exact nd) ?_
  unfold fixP
  refine List.mem_map.mpr ⟨(x, l), mem_look h, ?_⟩
  dsimp only
  split <;> rfl
theorem fixP_step {g : Str → Int} {S : List Str} {p : Pr} {x : Str} {l : Bd} (nd : (pNames p).Nodup) (h : p.lookup x = some l) (hx : x ∉ S) (hg : 12 < g x) : (fixP g S p).map (fun q => if q.1 = x then (q.1, [FA.It.may l]) else q) = fixP g (S ++ [x]) p := by
  unfold fixP
  rw [List.map_map]
  refine List.map_congr_left fun q hq => ?_
  show (if (if q.1 ∈ S ∧ 12 < g q.1 then (q.1, [FA.It.may q.2]) else q).1 = x then ((if q.1 ∈ S ∧ 12 < g q.1 then (q.1, [FA.It.may q.2]) else q).1, [FA.It.may l]) else (if q.1 ∈ S ∧ 12 < g q.1 then (q.1, [FA.It.may q.2]) else q)) = if q.1 ∈ S ++ [x] ∧ 12 < g q.1 then (q.1, [FA.It.may q.2]) else q
  have e1 : (if q.1 ∈ S ∧ 12 < g q.1 then (q.1, [FA.It.may q.2]) else q).1 = q.1 := by split <;> rfl
  rw [e1]
  by_cases c : q.1 = x
  · have := look_nd nd hq
    rw [c, h] at this
    cases this
    rw [if_pos c, if_pos ⟨by rw [c]; simp, by rw [c]; exact hg⟩]
  · rw [if_neg c]
    have : q.1 ∈ S ++ [x] ↔ q.1 ∈ S := by simp [c]
    simp only [this]
theorem fixP_same {g : Str → Int} {S : List Str} {p : Pr} {x : Str} (hg : ¬ 12 < g x) : fixP g S p = fixP g (S ++ [x]) p := by
  unfold fixP
  refine List.map_congr_left fun q hq => ?_
  by_cases c : q.1 = x
  · rw [c, if_neg (fun z => hg z.2), if_neg (fun z => hg z.2)]
  · have : q.1 ∈ S ++ [x] ↔ q.1 ∈ S := by simp [c]
    simp only [this]
theorem PrKv.put {H : Hp} {x : Str} {b : Addr} {l : Bd} (hb : BdAt H b l) : ∀ {kvs : List (Key × V)} {p : Pr}, PrKv H kvs p → x ∈ pNames p → PrKv H (putK kvs (.inr x) (.ref b)) (p.map fun q => if q.1 = x then (q.1, l) else q) := by
  have key : ∀ {kvs : List (Key × V)} {p : Pr}, PrKv H kvs p → PrKv H (kvs.map fun kv => if kv.1 = .inr x then (kv.1, V.ref b) else kv) (p.map fun q => if q.1 = x then (q.1, l) else q) := by
    intro kvs p h
    induction h with
    | nil => exact .nil
    | @cons y b' l' kvs p h1 h2 ih =>
      simp only [List.map_cons]
      by_cases c : y = x
      · subst c
        rw [if_pos rfl, if_pos rfl]
        exact .cons hb ih
      · rw [if_neg (fun z => c (Sum.inr.inj z)), if_neg c]
        exact .cons h1 ih
  intro kvs p h hx
  unfold putK
  rw [if_pos]
  · exact key h
  · rw [List.any_eq_true]
    have hk := h.keys
    have : (Sum.inr x : Key) ∈ kvs.map (·.1) := by
      rw [hk]
      obtain ⟨q, hq, e⟩ := List.mem_map.mp hx
      exact List.mem_map.mpr ⟨q, hq, by rw [e]⟩
    obtain ⟨kv, h1, h2⟩ := List.mem_map.mp this
    exact ⟨kv, h1, decide_eq_true h2⟩
theorem PrKv.snoc {H : Hp} {x : Str} {b : Addr} {l : Bd} (hb : BdAt H b l) : ∀ {kvs : List (Key × V)} {p : Pr}, PrKv H kvs p → PrKv H (kvs ++ [(.inr x, .ref b)]) (p ++ [(x, l)]) := by
  intro kvs p h
  induction h with
  | nil => exact .cons hb .nil
  | cons h1 _ ih => exact .cons h1 ih
/-- a body as it was drawn -/
structure BOk (ord : List Str) (l : Bd) : Prop where
  ok : okB ord l
  c : nCB l ≤ 5
  i : nIB l ≤ 11
  d : dB l ≤ 3
theorem bodyOf_look {p : Pr} {x : Str} {l : Bd} (h : p.lookup x = some l) : bodyOf p x = l := by unfold bodyOf; rw [h]; rfl
theorem valid_fix {p : Pr} {ord : List Str} (ho : Ord ord) (hn : pNames p = ord) (hb : ∀ x l, p.lookup x = some l → BOk ord l) : Valid (fixP (grd p (p.length + 1)) ord p) := by
  have nd : (pNames p).Nodup := by rw [hn]; exact ho.nd
  have pl : p.length = ord.length := by rw [← hn]; unfold pNames; rw [List.length_map]
  have hfl : (fixP (grd p (p.length + 1)) ord p).length = p.length := by unfold fixP; rw [List.length_map]
  have key : ∀ x ∈ pNames p, ∃ l, p.lookup x = some l ∧ BOk ord l ∧ (12 < grd p (p.length + 1) x → l ≠ []) := fun x hx => by
    obtain ⟨l, e⟩ := lookup_mem hx
    refine ⟨l, e, hb x l e, fun h => ?_⟩
    rintro rfl
    simp only [grd, bodyOf_look e, capB, capS] at h
    omega
  have okp : ∀ x ∈ pNames (fixP (grd p (p.length + 1)) ord p), okB (pNames (fixP (grd p (p.length + 1)) ord p)) (bodyOf (fixP (grd p (p.length + 1)) ord p) x) := fun x hx => by
    rw [fixP_names] at hx ⊢
    obtain ⟨l, e, b, ne⟩ := key x hx
    rw [bodyOf_look (fixP_look nd e), hn]
    split
    · rename_i h
      simp only [okB, okI]
      exact ⟨⟨ne h.2, b.ok⟩, trivial⟩
    · exact b.ok
  refine ⟨by rw [hfl, pl]; exact ho.len, by rw [fixP_names, hn]; exact ho.main, fun x hx => ho.nm x (by rw [fixP_names, hn] at hx; exact hx), by rw [fixP_names]; exact nd, fun x l e => ?_, fun x hx => ?_⟩
  · have hx : x ∈ pNames p := by
      have h2 : x ∈ pNames (fixP (grd p (p.length + 1)) ord p) := List.mem_map.mpr ⟨(x, l), mem_look e, rfl⟩
      rw [fixP_names] at h2
      exact h2
    obtain ⟨l0, e0, b, ne⟩ := key x hx
    have h1 := okp x (by rw [fixP_names]; exact hx)
    rw [bodyOf_look e] at h1
    refine ⟨h1, ?_⟩
    rw [fixP_look nd e0] at e
    have b1 := b.c
    have b2 := b.i
    have b3 := b.d
    split at e
    · cases e
      simp only [nCB, nC, nIB, nI, dB, dI]
      omega
    · cases e
      omega
  · rw [fixP_names] at hx
    refine rnd_enough (M := p.length + 1) okp (by rw [fixP_names]; exact hx) ?_
    obtain ⟨l, e, b, ne⟩ := key x hx
    by_cases c : 12 < grd p (p.length + 1) x
    · have : bodyOf (fixP (grd p (p.length + 1)) ord p) x = [.may l] := by
        rw [bodyOf_look (fixP_look nd e), if_pos ⟨by rw [← hn]; exact hx, c⟩]
      simp only [rnd, this, costB, cost]
      omega
    · refine Int.le_trans (rnd_grd (p := p) (fun y hy => ?_) (p.length + 1) x hx) (by omega)
      obtain ⟨l', e', b', ne'⟩ := key y hy
      rw [bodyOf_look (fixP_look nd e'), bodyOf_look e', hn]
      by_cases c' : y ∈ ord ∧ 12 < grd p (p.length + 1) y
      · rw [if_pos c']
        exact .inr fun f => by simp only [costB, cost]; rfl
      · rw [if_neg c']
        exact .inl ⟨rfl, b'.ok⟩
/-! ### rows of a name and a number, of a name and a body -/
theorem rows_int {H : Hp} {f : Str → Int} : ∀ {ys : List V} {p : Pr}, ys.length = p.length → (∀ (j : Nat) y, ys[j]? = some y → ∃ x t, (pNames p)[j]? = some x ∧ y = .ref t ∧ H t = some (.tup [.str x, .int (f x)])) →
    ∃ ps : List Addr, ys = ps.map V.ref ∧ Paired (fun t kv => H t = some (.tup [kV kv.1, kv.2])) ps (lsKv p f)
  | [], [], _, _ => ⟨[], rfl, .nil⟩
  | [], _ :: _, h, _ => by simp at h
  | _ :: _, [], h, _ => by simp at h
  | y :: ys, (x, l) :: p, hl, h => by
    obtain ⟨x', t, e1, e2, e4⟩ := h 0 y rfl
    cases e1
    obtain ⟨ps, g1, g2⟩ := rows_int (ys := ys) (p := p) (by simpa using hl) fun j y e => by
      obtain ⟨x, t, a1, a2⟩ := h (j + 1) y (by simpa using e)
      exact ⟨x, t, by simpa [pNames] using a1, a2⟩
    exact ⟨t :: ps, by rw [e2, g1]; rfl, .cons e4 g2⟩
theorem rows_body {H : Hp} {G : Hp} {p : Pr} : ∀ {ys : List V} {zs : List Str}, ys.length = zs.length → (∀ (j : Nat) y, ys[j]? = some y → ∃ x t b, zs[j]? = some x ∧ y = .ref t ∧ H t = some (.tup [.str x, .ref b]) ∧ BdAt G b (bodyOf p x)) →
    ∃ (ps : List Addr) (kvs : List (Key × V)), ys = ps.map V.ref ∧ Paired (fun t kv => H t = some (.tup [kV kv.1, kv.2])) ps kvs ∧ PrKv G kvs (zs.map fun x => (x, bodyOf p x))
  | [], [], _, _ => ⟨[], [], rfl, .nil, .nil⟩
  | [], _ :: _, h, _ => by simp at h
  | _ :: _, [], h, _ => by simp at h
  | y :: ys, x :: zs, hl, h => by
    obtain ⟨x', t, b, e1, e2, e4, e5⟩ := h 0 y rfl
    cases e1
    obtain ⟨ps, kvs, g1, g2, g3⟩ := rows_body (ys := ys) (zs := zs) (by simpa using hl) fun j y e => by
      obtain ⟨x, t, b, a1, a2⟩ := h (j + 1) y (by simpa using e)
      exact ⟨x, t, b, by simpa using a1, a2⟩
    exact ⟨t :: ps, (.inr x, .ref b) :: kvs, by rw [e2, g1]; rfl, .cons e4 g2, .cons e5 g3⟩
theorem map_bodies {p : Pr} (nd : (pNames p).Nodup) : (pNames p).map (fun x => (x, bodyOf p x)) = p := by
  unfold pNames
  rw [List.map_map]
  conv => rhs; rw [← List.map_id p]
  refine List.map_congr_left fun q hq => ?_
  show (q.1, bodyOf p q.1) = q
  rw [bodyOf_look (look_nd nd (show (q.1, q.2) ∈ p from hq))]
theorem lgAt_nil {H : Hp} {L : Addr} (h : H L = some (.dK [])) : LgAt H L (fun _ => 99) := ⟨[], .inl h, fun _ => rfl⟩
end K43


set_option Elab.async false
set_option linter.all false
set_option maxRecDepth 100000
set_option maxHeartbeats 8000000
namespace K43
open PySem PySem.Spec PyProof.Rows L2 FA
variable {P : Program} {w : World} {K : PySem.W.Frag} {mg : Str → Option Value} {base : Heap}
def spLProgram : Sp := fun vs H Q _ => ∃ (a : Addr) (most cl : Int) (n : Nat) (cr : Bool), vs = [.ref a, .int most, .int cl, .bl cr] ∧ 1 ≤ most ∧ most ≤ 6 ∧ 1 ≤ cl ∧ cl ≤ 5 ∧ WellAt H a n ∧ n + 10000 ≤ 2 ^ 80 ∧
  ∀ d kvs p H', Sm [a] H H' → WellAt H' a (n + 10000) → H d = none → H' d = some (.dK kvs) → PrKv (wo [a] H') kvs p → Valid p → ("other" : Str) ∉ pNames p → Q (.ref d) H'
mutual
theorem okI_more {ns ms : List Str} (h : ∀ x ∈ ns, x ∈ ms) : ∀ i : FA.It, okI ns i → okI ms i
  | .call x, k => by simp only [okI] at k ⊢; exact h x k
  | .may b, k => by simp only [okI] at k ⊢; exact ⟨k.1, okB_more h b k.2⟩
  | .loop b, k => by simp only [okI] at k ⊢; exact ⟨k.1, okB_more h b k.2⟩
  | .one bs, k => by simp only [okI] at k ⊢; exact ⟨k.1, k.2.1, k.2.2.1, okBs_more h bs k.2.2.2⟩
theorem okB_more {ns ms : List Str} (h : ∀ x ∈ ns, x ∈ ms) : ∀ l : List FA.It, okB ns l → okB ms l
  | [], _ => by simp [okB]
  | i :: r, k => by simp only [okB] at k ⊢; exact ⟨okI_more h i k.1, okB_more h r k.2⟩
theorem okBs_more {ns ms : List Str} (h : ∀ x ∈ ns, x ∈ ms) : ∀ bs : List (List FA.It), okBs ns bs → okBs ms bs
  | [], _ => by simp [okBs]
  | b :: r, k => by simp only [okBs] at k ⊢; exact ⟨okB_more h b k.1, okBs_more h r k.2⟩
end
theorem ite_both {c : Bool} {A B : TE} {σ : L2.St} {H : Hp} {Q : VK} (I : V → Hp → Prop) (ha : ∀ Q' : VK, (∀ v H, I v H → Q' v H) → A σ H Q') (hb : ∀ Q' : VK, (∀ v H, I v H → Q' v H) → B σ H Q') (rest : ∀ v H, I v H → Q v H) : if c = true then A σ H Q else B σ H Q := by
  cases c with
  | true => rw [if_pos rfl]; exact ha Q rest
  | false => rw [if_neg (by decide)]; exact hb Q rest
theorem okLProgram (T : Txt K mg) : FnOk P w K mg base CX0 8 T.aLProgram T.fLProgram ["spring", "most", "calls", "can_recur"] spLProgram := by
  have GLDraw : FnOk P w K mg base CX0 1 T.aLDraw T.fLDraw ["spring", "many"] spDraw := okDraw T
  have GLItems : FnOk P w K mg base CX0 7 T.aLItems T.fLItems ["spring", "some", "calls", "deep"] (spLItems 3) := okLItems T 3
  have GLCalls : FnOk P w K mg base CX0 4 T.aLCalls T.fLCalls ["body"] (spLCalls 3) := okLCalls T 3
  have GLCount : FnOk P w K mg base CX0 4 T.aLCount T.fLCount ["body"] (spLCount 3) := okLCount T 3
  have GLCost : FnOk P w K mg base CX0 4 T.aLCost T.fLCost ["costs", "body"] (spLCost 3) := okLCost T 3
  refine T.FLProgram.ok scLProgram (fun vs H Q E h => ?_) (fun cdv A outer s H vs Q E hr h => ?_)
  · obtain ⟨a, most, cl, n, cr, rfl, _⟩ := h
    rfl
  obtain ⟨a, most, cl, n, cr, rfl, hm1, hm6, hcl1, hcl5, hw, hn, q⟩ := h
  have hu := hu_of hr
  obtain ⟨ow, how⟩ := hw.some
  have kept0 : ∀ b ∈ [a], ∃ o, H b = some o := fun b hb => by rw [List.mem_singleton.mp hb]; exact hw.some
  have hcw : cW 3 = 688 := by decide
  -- 7, 8: the keys in order or turned, the dict
  refine split_at 7 (fun D σ H' => D.rt = Q ∧ ∃ v5 v6 v7 v8 v10 v11 v12 na F ord p kvs m, σ = [some (.ref a), some (.int most), some (.int cl), some (.bl cr), some (.ref na), v5, v6, v7, v8, some (.ref F), v10, v11, v12] ∧ Sm [a] H H' ∧ WellAt H' a m ∧ m + 1 ≤ n + 10000 ∧
    H' na = some (.lst (ord.map V.str)) ∧ H' F = some (.dK kvs) ∧ PrKv (wo [a, F] H') kvs p ∧ pNames p = ord ∧ Valid p ∧ ("other" : Str) ∉ ord ∧ na ≠ a ∧ F ≠ a) ?_ ?_
  · skip
    refine ⟨_, (pss_cons (ps_set (i := 8) scLProgram.nd rfl (by first | exact Or.inl rfl | exact Or.inr rfl) (pe_ix ix_list (pe_lst (pa_cons (pv 4) (pa_cons (pe_revL (pv 4)) pa_nil))) (pe_call GLDraw (hr.mono (by omega)) rfl T.gLDraw T.FLDraw.kp T.bLDraw .nil pass0 (pa_cons (pv 0) (pa_cons pe_int pa_nil))) (fun _ _ => rfl)))
      (pss_one (ps_ret (pe_callTy (call_dictP rfl) (by rfl) T.n_dict (by decide +kernel) (pa_cons (pe_lc (own := [("name", 7)]) (g := gName 7) (tt := tYes) rfl scLProgram.nd (pi_list (pv 8)) (blkOk_by (N := ["spring", "most", "calls", "can_recur", "names", "costs", "turn", "name", "keys", "found", "place", "some", "body"]) (sc := defScope sLProgram) (by decide +kernel)) (fun _ _ _ _ _ => (pg_name (i := 7) scLProgram.nd rfl (by first | exact Or.inl rfl | exact Or.inr rfl))) (fun _ _ _ _ _ => pts_nil) (fun _ _ _ _ _ => (pe_tup (pa_cons (pv 7) (pa_cons (pe_dget hu (pv 9) (pv 7) (fun _ _ => rfl)) pa_nil))))) pa_nil))))), ?_⟩
    rintro D σ H1 ⟨hD, v5, v6, v7, v8, v10, v11, v12, na, F, ord, p, kvs, m, rfl, sm1, hw1, hm, hna, hF, hk, hpn, va, hoth, hnaa, hFa⟩
    obtain ⟨nx, rt, bk, ct⟩ := D
    cases hD
    have hlen := va.len
    have hol : ord.length = p.length := by rw [← hpn]; unfold pNames; rw [List.length_map]
    refine ⟨_, rfl, _, rfl, _, _, rfl, SqL.of hna, fun pr hpr => ?_⟩
    have s2 := same_upd hpr (.lst (ord.map V.str).reverse)
    have hr2 : (upd H1 pr (.lst (ord.map V.str).reverse)) pr = some (.lst (ord.map V.str).reverse) := upd_same
    generalize upd H1 pr (.lst (ord.map V.str).reverse) = H2 at s2 hr2 ⊢
    refine ⟨Nat.le_of_lt (small1000 (by simp)), fun po hpo => ?_⟩
    have s3 := same_upd hpo (.lst [V.ref na, V.ref pr])
    have ho3 : (upd H2 po (.lst [V.ref na, V.ref pr])) po = some (.lst [V.ref na, V.ref pr]) := upd_same
    generalize upd H2 po (.lst [V.ref na, V.ref pr]) = H3 at s3 ho3 ⊢
    have s13 := s2.trans s3
    refine ⟨_, rfl, a, 2, m, rfl, by decide, by decide, hw1.keep fun o e => s13 _ _ e, by omega, fun r H4 r0 r1 sm4 hw4 => ?_⟩
    have nea : ∀ x, H1 x = none → x ≠ a := fun x hx => by
      rintro rfl
      obtain ⟨o, e⟩ := hw1.some
      rw [e] at hx; cases hx
    have hpra := nea pr hpr
    have hpoa := nea po (s2.free hpo)
    have hna4 : H4 na = some (.lst (ord.map V.str)) := sm4 _ _ (by simp [hnaa]) (s13 _ _ hna)
    have hpr4 : H4 pr = some (.lst (ord.map V.str).reverse) := sm4 _ _ (by simp [hpra]) (s3 _ _ hr2)
    have hpo4 : H4 po = some (.lst [V.ref na, V.ref pr]) := sm4 _ _ (by simp [hpoa]) ho3
    have hF4 : H4 F = some (.dK kvs) := sm4 _ _ (by simp [hFa]) (s13 _ _ hF)
    have sm14 : Sm [a] H1 H4 := (Sm.of_same s13).trans sm4
    have hk4 : PrKv (wo [a, F] H4) kvs p := hk.keep (Kp.of (sm14.more (W' := [a, F]) (by simp)).same)
    obtain ⟨kx, zs, hkx, hz4, hzp⟩ : ∃ (kx : Addr) (zs : List Str), atI [V.ref na, V.ref pr] r = some (.ref kx) ∧ H4 kx = some (.lst (zs.map V.str)) ∧ zs.Perm ord := by
      rcases (by omega : r = 0 ∨ r = 1) with rfl | rfl
      · exact ⟨na, ord, rfl, hna4, List.Perm.refl _⟩
      · exact ⟨pr, ord.reverse, rfl, by rw [hpr4, List.map_reverse], ord.reverse_perm⟩
    refine ⟨po, _, _, .ref kx, rfl, rfl, SqL.of hpo4, hkx, ?_⟩
    have zl : zs.length = p.length := by rw [hzp.length_eq, hol]
    have pa4 : PrAt H4 F p := ⟨kvs, .inl hF4, hk4.keep kp_off⟩
    refine ⟨_, rfl, kx, rfl, ⟨_, SqL.of hz4⟩, fun D hD => lcS (n := (zs.map V.str).length) hD (small1000 (by rw [List.length_map]; omega)) _ (fun j v H => ∃ x t b, zs[j]? = some x ∧ v = .ref t ∧ H t = some (.tup [.str x, .ref b]) ∧ BdAt (wo [a, F] H4) b (bodyOf p x))
      (go_l (SqL.of hz4)) (stop_l (SqL.of hz4)) (yld_l (SqL.of hz4)) (fun j v A B ht ⟨x, t, b, a1, a2, a3, a4⟩ => ⟨x, t, b, a1, a2, ht _ _ a3, a4⟩) ?_ ?_⟩
    · intro j x H5 R hj hx s5 kk
      obtain ⟨y, hy, rfl⟩ := str_get hx
      have hyp : y ∈ pNames p := by rw [hpn]; exact hzp.mem_iff.mp (List.mem_of_getElem? hy)
      obtain ⟨l0, e0⟩ := lookup_mem hyp
      rcases hk4.look (x := y) with ⟨z1, _⟩ | ⟨l, b, z1, z2, z3⟩
      · rw [e0] at z1; cases z1
      refine ⟨rfl, _, rfl, _, rfl, _, rfl, F, _, rfl, .inl ⟨kvs, .inr y, .inl (s5 _ _ hF4), rfl, z2.symm⟩, Nat.le_of_lt (small1000 (by simp)), fun t ht => ?_⟩
      exact kk _ _ (same_upd ht _) ⟨y, t, b, hy, rfl, upd_same, by rw [bodyOf_look z1]; exact z3⟩
    · intro H5 ys s5 hD5 hl5 hg5
      rw [List.length_map] at hl5
      obtain ⟨ps, kvs2, g1, g2, g3⟩ := rows_body (G := wo [a, F] H4) hl5 hg5
      rw [g1] at hD5
      refine ⟨D, ps, kvs2, rfl, SqL.of hD5, Paired.weak (fun t kv h => SqT.of h) g2, fun d hd => ?_⟩
      have pp : (zs.map fun x => (x, bodyOf p x)).Perm p := by
        have := hzp.map fun x => (x, bodyOf p x)
        rw [← hpn, map_bodies va.nd] at this
        exact this
      have va2 := va.perm pp
      rw [mergeK_nd kvs2 [] (keys_nd g3 va2.nd), List.nil_append]
      have s6 := same_upd hd (.dK kvs2)
      have sm06 : Sm [a] H (upd H5 d (.dK kvs2)) := (sm1.trans sm14).trans (Sm.of_same (s5.trans s6))
      have hw6 : WellAt (upd H5 d (.dK kvs2)) a (m + 1) := hw4.keep fun o e => s6 _ _ (s5 _ _ e)
      have k4 : ∀ b ∈ [a], ∃ o, H5 b = some o := fun b hb => by
        rw [List.mem_singleton.mp hb]
        obtain ⟨o, e⟩ := hw4.some
        exact ⟨o, s5 _ _ e⟩
      refine q d kvs2 _ _ sm06 (hw6.mono hm) (none_back ((sm1.trans sm14).trans (Sm.of_same s5)) k4 hd) upd_same (g3.keep ?_) va2 (fun z => ?oth)
      case oth =>
        unfold pNames at z
        rw [List.map_map] at z
        obtain ⟨y, hy, e⟩ := List.mem_map.mp z
        exact hoth (by rw [← e]; exact hzp.mem_iff.mp hy)
      have key : ∀ x o, wo [a, F] H4 x = some o → wo [a] (upd H5 d (.dK kvs2)) x = some o := fun x o e => by
        rw [wo_some] at e ⊢
        simp only [List.mem_cons, List.not_mem_nil, or_false, not_or] at e ⊢
        exact ⟨e.1.1, s6 _ _ (s5 _ _ e.2)⟩
      exact ⟨fun x xs e => key _ _ e, fun x xs e => key _ _ e⟩
  intro u7 hu7 ru7
  -- 6: what cannot return is made optional
  refine split_at 6 (fun D σ H' => D.rt = Q ∧ ∃ v6 v7 v8 v10 v11 v12 na F C ord p kvs m, σ = [some (.ref a), some (.int most), some (.int cl), some (.bl cr), some (.ref na), some (.ref C), v6, v7, v8, some (.ref F), v10, v11, v12] ∧ Sm [a] H H' ∧ WellAt H' a m ∧ m + 1 ≤ n + 10000 ∧
    H' na = some (.lst (ord.map V.str)) ∧ H' F = some (.dK kvs) ∧ PrKv (wo [a, F] H') kvs p ∧ pNames p = ord ∧ Ord ord ∧ (∀ x l, p.lookup x = some l → BOk ord l) ∧ H' C = some (.dK (lsKv p (grd p (p.length + 1)))) ∧ na ≠ a ∧ F ≠ a ∧ C ≠ F ∧ na ≠ F ∧ H F = none) ?_ ?_
  · skip
    refine ⟨_, (pss_cons (ps_for PassesOwn.never rfl (pi_list (pv 4)) (pg_name (i := 7) scLProgram.nd rfl (by first | exact Or.inl rfl | exact Or.inr rfl))
        (pss_one (ps_if (pt_cmpR op_gt (pe_dget hu (pv 5) (pv 7) (fun _ _ => rfl)) pe_int (nomark _))
          (pss_one (ps_dput hu (pv 9) (pv 7) (pe_lst (pa_cons (pe_tup (pa_cons pe_str (pa_cons (pe_dget hu (pv 9) (pv 7) (fun _ _ => rfl)) pa_nil))) pa_nil)) rfl)) pss_nil)))
      hu7), ?_⟩
    rintro D σ H1 ⟨hD, v6, v7, v8, v10, v11, v12, na, F, C, ord, p, kvs, m, rfl, sm1, hw1, hm, hna, hF, hk, hpn, ho, hbok, hC, hnaa, hFa, hCF, hnF, hFn⟩
    have nd : (pNames p).Nodup := by rw [hpn]; exact ho.nd
    have hol : ord.length = p.length := by rw [← hpn]; unfold pNames; rw [List.length_map]
    refine ⟨_, rfl, na, rfl, ⟨_, SqL.of hna⟩, for_list (K := K) (a := na) (xs := ord.map V.str) (fun i σ H' => ∃ v7 kvs', σ = [some (.ref a), some (.int most), some (.int cl), some (.bl cr), some (.ref na), some (.ref C), v6, v7, v8, some (.ref F), v10, v11, v12] ∧ Sm [a, F] H1 H' ∧ H' F = some (.dK kvs') ∧ PrKv (wo [a, F] H') kvs' (fixP (grd p (p.length + 1)) (ord.take i) p) ∧ Sm [a] H H' ∧ WellAt H' a m) ⟨v7, kvs, rfl, Sm.refl _ _, hF, by rw [List.take_zero, fixP_nil]; exact hk, sm1, hw1⟩ ?_ ?_ ?_⟩
    · rintro i σ H' _ ⟨_, _, _, sm, _⟩
      exact SqL.of (sm _ _ (by simp [hnaa, hnF]) hna)
    · rintro i y σ H2 hi ⟨v7, kvs', rfl, sm2, hF2, hk2, sm02, hw2⟩
      obtain ⟨x, hx, rfl⟩ := str_get hi
      have hxo : x ∈ ord := List.mem_of_getElem? hx
      have hxp : x ∈ pNames p := by rw [hpn]; exact hxo
      have hxt : x ∉ ord.take i := fun z => by
        obtain ⟨j, hj, ej⟩ := List.mem_take_iff_getElem.mp z
        have h1 := List.pairwise_iff_getElem.mp (List.nodup_iff_pairwise_ne.mp ho.nd) j i (by omega) (List.getElem?_eq_some_iff.mp hx).1 (by omega)
        exact h1 (by rw [ej, (List.getElem?_eq_some_iff.mp hx).2])
      have etk : ord.take (i + 1) = ord.take i ++ [x] := by rw [List.take_add_one, hx]; rfl
      have hC2 : H2 C = some (.dK (lsKv p (grd p (p.length + 1)))) := sm2 _ _ (by
        simp only [List.mem_cons, List.not_mem_nil, or_false, not_or]
        refine ⟨?_, hCF⟩
        rintro rfl
        obtain ⟨x, y, z, e, _⟩ := hw1
        rw [hC] at e; cases e) hC
      refine ⟨_, rfl, _, rfl, C, _, rfl, .inl ⟨_, .inr x, .inl hC2, rfl, (lsKv_look hxp).symm⟩, _, _, rfl, rfl, _, rfl, ite2 (fun h => ?_) (fun h => ?_)⟩
      · have h := of_decide_eq_true h
        obtain ⟨l0, e0⟩ := lookup_mem hxp
        have e1 := fixP_look (g := grd p (p.length + 1)) (S := ord.take i) nd e0
        rw [if_neg (fun z => hxt z.1)] at e1
        rcases hk2.look (x := x) with ⟨z1, _⟩ | ⟨l, b, z1, z2, z3⟩
        · rw [e1] at z1; cases z1
        rw [e1] at z1
        cases z1
        refine ⟨_, rfl, _, rfl, F, _, rfl, .inl ⟨kvs', .inr x, .inl hF2, rfl, z2.symm⟩, Nat.le_of_lt (small1000 (by simp)), fun t ht => ?_⟩
        have s3 := same_upd ht (.tup [V.str "maybe", V.ref b])
        have ht3 : (upd H2 t (.tup [V.str "maybe", V.ref b])) t = some (.tup [V.str "maybe", V.ref b]) := upd_same
        generalize upd H2 t (.tup [V.str "maybe", V.ref b]) = H3 at s3 ht3 ⊢
        refine ⟨Nat.le_of_lt (small1000 (by simp)), fun nb hnb => ?_⟩
        have s4 := same_upd hnb (.lst [V.ref t])
        have hb4 : (upd H3 nb (.lst [V.ref t])) nb = some (.lst [V.ref t]) := upd_same
        generalize upd H3 nb (.lst [V.ref t]) = H4 at s4 hb4 ⊢
        have s24 := s3.trans s4
        have hF4 := s24 _ _ hF2
        have ht4 := s4 _ _ ht3
        have hkl := hk2.length
        have hfl : (fixP (grd p (p.length + 1)) (ord.take i) p).length = p.length := by unfold fixP; rw [List.length_map]
        have hol6 := ho.len
        refine ⟨_, rfl, _, rfl, F, _, rfl, DPut.k (k := .inr x) hF4 (small1000 (by omega)), ?_⟩
        have nea : ∀ x, H2 x = none → x ≠ a := fun x hx => by
          rintro rfl
          obtain ⟨o, e⟩ := hw2.some
          rw [e] at hx; cases hx
        have neF : ∀ x, H2 x = none → x ≠ F := fun x hx => by
          rintro rfl
          rw [hF2] at hx; cases hx
        have key : ∀ y o, wo [a, F] H2 y = some o → wo [a, F] (upd H4 F (.dK (putK kvs' (.inr x) (.ref nb)))) y = some o := fun y o e => by
          rw [wo_some] at e ⊢
          refine ⟨e.1, ?_⟩
          simp only [List.mem_cons, List.not_mem_nil, or_false, not_or] at e
          rw [upd_ne e.1.2]
          exact s24 _ _ e.2
        have kp : Kp (wo [a, F] H2) (wo [a, F] (upd H4 F (.dK (putK kvs' (.inr x) (.ref nb))))) := ⟨fun x xs e => key _ _ e, fun x xs e => key _ _ e⟩
        have wt : (wo [a, F] (upd H4 F (.dK (putK kvs' (.inr x) (.ref nb))))) t = some (.tup [V.str "maybe", V.ref b]) := by
          rw [wo_some]
          refine ⟨by simp [nea t ht, neF t ht], ?_⟩
          rw [upd_ne (neF t ht)]
          exact ht4
        have hnb2 : H2 nb = none := s3.free hnb
        have wb : (wo [a, F] (upd H4 F (.dK (putK kvs' (.inr x) (.ref nb))))) nb = some (.lst [V.ref t]) := by
          rw [wo_some]
          refine ⟨by simp [nea nb hnb2, neF nb hnb2], ?_⟩
          rw [upd_ne (neF nb hnb2)]
          exact hb4
        obtain ⟨bv, b1, b2⟩ := z3.keep kp
        have hbd : BdAt (wo [a, F] (upd H4 F (.dK (putK kvs' (.inr x) (.ref nb))))) nb [.may l0] := ⟨_, wb, .cons (.may wt b1 b2) .nil⟩
        have hput := PrKv.put hbd (hk2.keep kp) (by rw [fixP_names]; exact hxp)
        rw [fixP_step nd e0 hxt h, ← etk] at hput
        refine ⟨_, _, rfl, ?_, upd_same, hput, ?_, ?_⟩
        · intro y o hy e
          rw [upd_ne (fun z => hy (by simp [z]))]
          exact s24 _ _ (sm2 _ _ hy e)
        · intro y o hy e
          rw [upd_ne (ne_of_none e hFn)]
          exact s24 _ _ (sm02 _ _ hy e)
        · exact hw2.keep fun o e => by rw [upd_ne hFa.symm]; exact s24 _ _ e
      · have h : ¬ 12 < grd p (p.length + 1) x := fun z => h (decide_eq_true z)
        exact ⟨_, kvs', rfl, sm2, hF2, by rw [etk, ← fixP_same h]; exact hk2, sm02, hw2⟩
    · rintro σ H2 ⟨v7, kvs', rfl, sm2, hF2, hk2, sm02, hw2⟩
      rw [List.take_of_length_le (by rw [List.length_map]; exact Nat.le_refl _)] at hk2
      exact ru7 _ _ _ ⟨hD, _, _, _, _, _, _, _, na, F, ord, _, kvs', m, rfl, sm02, hw2, hm, sm2 _ _ (by simp [hnaa, hnF]) hna, hF2, hk2, by rw [fixP_names]; exact hpn, valid_fix ho hpn hbok, ho.oth, hnaa, hFa⟩
  intro u6 hu6 ru6
  -- 4, 5: the costs
  refine split_at 4 (fun D σ H' => D.rt = Q ∧ ∃ v5 v6 v7 v8 v10 v11 v12 na F ord p kvs m, σ = [some (.ref a), some (.int most), some (.int cl), some (.bl cr), some (.ref na), v5, v6, v7, v8, some (.ref F), v10, v11, v12] ∧ Sm [a] H H' ∧ WellAt H' a m ∧ m + 1 ≤ n + 10000 ∧
    H' na = some (.lst (ord.map V.str)) ∧ H' F = some (.dK kvs) ∧ PrKv (wo [a, F] H') kvs p ∧ pNames p = ord ∧ Ord ord ∧ (∀ x l, p.lookup x = some l → BOk ord l) ∧ na ≠ a ∧ F ≠ a ∧ na ≠ F ∧ H F = none) ?_ ?_
  · skip
    refine ⟨_, (pss_cons (ps_set (i := 5) scLProgram.nd rfl (by first | exact Or.inl rfl | exact Or.inr rfl) pe_dnewK)
      (pss_cons (ps_for PassesOwn.never rfl (pi_range1 (by rfl) T.n_range (pa_cons (pe_op op_add (pe_callB call_len_seq (by rfl) T.n_len PySem.boot_len (pa_cons (pv 4) pa_nil)) pe_int) pa_nil)) (pg_name (i := 6) scLProgram.nd rfl (by first | exact Or.inl rfl | exact Or.inr rfl))
        (pss_one (ps_set (i := 5) scLProgram.nd rfl (by first | exact Or.inl rfl | exact Or.inr rfl) (pe_callTy (call_dictP rfl) (by rfl) T.n_dict (by decide +kernel) (pa_cons (pe_lc (own := [("name", 7)]) (g := gName 7) (tt := tYes) rfl scLProgram.nd (pi_list (pv 4)) (blkOk_by (N := ["spring", "most", "calls", "can_recur", "names", "costs", "turn", "name", "keys", "found", "place", "some", "body"]) (sc := defScope sLProgram) (by decide +kernel)) (fun _ _ _ _ _ => (pg_name (i := 7) scLProgram.nd rfl (by first | exact Or.inl rfl | exact Or.inr rfl))) (fun _ _ _ _ _ => pts_nil) (fun _ _ _ _ _ => (pe_tup (pa_cons (pv 7) (pa_cons (pe_op op_add pe_int (pe_call GLCost (hr.mono (by omega)) rfl T.gLCost T.FLCost.kp T.bLCost .nil pass0 (pa_cons (pv 5) (pa_cons (pe_dget hu (pv 9) (pv 7) (fun _ _ => rfl)) pa_nil)))) pa_nil))))) pa_nil)))))
      hu6)), ?_⟩
    rintro D σ H1 ⟨hD, v5, v6, v7, v8, v10, v11, v12, na, F, ord, p, kvs, m, rfl, sm1, hw1, hm, hna, hF, hk, hpn, ho, hbok, hnaa, hFa, hnF, hFn⟩
    have nd : (pNames p).Nodup := by rw [hpn]; exact ho.nd
    have hol : ord.length = p.length := by rw [← hpn]; unfold pNames; rw [List.length_map]
    have hol6 := ho.len
    intro C0 hC0
    have s2 := same_upd hC0 (.dK [])
    have hc2 : (upd H1 C0 (.dK [])) C0 = some (.dK []) := upd_same
    generalize upd H1 C0 (.dK []) = H2 at s2 hc2 ⊢
    have hCF0 : C0 ≠ F := by
      rintro rfl
      rw [hF] at hC0; cases hC0
    refine ⟨_, rfl, _, _, rfl, .inl (SqL.of (s2 _ _ hna)), _, _, rfl, rfl, ?_⟩
    have en : (((ord.map V.str).length : Nat) : Int) + 1 = ((p.length + 1 : Nat) : Int) := by rw [List.length_map]; omega
    refine ⟨((p.length + 1 : Nat) : Int), congrArg (fun z => [V.int z]) en, by omega, by omega, ?_⟩
    have en2 : ((p.length + 1 : Nat) : Int).toNat = p.length + 1 := by omega
    rw [en2]
    refine for_range (lo := 0) (n := p.length + 1) (fun i σ H' => ∃ C v6 kvC, σ = [some (.ref a), some (.int most), some (.int cl), some (.bl cr), some (.ref na), some (.ref C), v6, v7, v8, some (.ref F), v10, v11, v12] ∧ Same H1 H' ∧ C ≠ F ∧ H' C = some (.dK kvC) ∧ (i = 0 ∧ kvC = [] ∨ kvC = lsKv p (grd p i))) ⟨C0, v6, [], rfl, s2, hCF0, hc2, .inl ⟨rfl, rfl⟩⟩ ?_ ?_
    · rintro i σ H3 hi ⟨C, v6, kvC, rfl, s3, hCF, hC, hor⟩
      have lg3 : LgAt H3 C (fun x => if x ∈ pNames p then grd p i x else 99) := by
        rcases hor with ⟨rfl, rfl⟩ | rfl
        · have := lgAt_nil hC
          have e : (fun x => if x ∈ pNames p then grd p 0 x else 99) = fun _ => (99 : Int) := by funext x; split <;> rfl
          rw [e]; exact this
        · exact lgAt_ls (.inl hC)
      have pa3 : PrAt H3 F p := ⟨kvs, .inl (s3 _ _ hF), (hk.keep kp_off).keep (Kp.of s3)⟩
      have hna3 := s3 _ _ hna
      refine ⟨_, rfl, na, rfl, ⟨_, SqL.of hna3⟩, fun D2 hD2 => lcS (n := (ord.map V.str).length) hD2 (small1000 (by rw [List.length_map]; omega)) _ (fun j v H => ∃ x t, (pNames p)[j]? = some x ∧ v = .ref t ∧ H t = some (.tup [.str x, .int (grd p (i + 1) x)]))
        (go_l (SqL.of hna3)) (stop_l (SqL.of hna3)) (yld_l (SqL.of hna3)) (fun j v A B ht ⟨x, t, a1, a2, a3⟩ => ⟨x, t, a1, a2, ht _ _ a3⟩) ?_ ?_⟩
      · intro j x H4 R hj hx s4 kk
        obtain ⟨y, hy, rfl⟩ := str_get hx
        have hyp : y ∈ pNames p := by rw [hpn]; exact List.mem_of_getElem? hy
        obtain ⟨l0, e0⟩ := lookup_mem hyp
        rcases (PrAt.same s4 pa3).look (x := y) with ⟨z1, _⟩ | ⟨l, b, z1, z2, z3⟩
        · rw [e0] at z1; cases z1
        have bk := hbok y l z1
        refine ⟨rfl, _, rfl, _, rfl, _, rfl, _, rfl, F, _, rfl, z2, b, C, ord, _, l, rfl, z3, lg3.same s4, bk.ok, by have := bk.i; omega, bk.d, fun H5 s5 => ?_⟩
        refine ⟨_, _, rfl, rfl, Nat.le_of_lt (small1000 (by simp)), fun t ht => ?_⟩
        refine kk _ _ (s5.trans (same_upd ht _)) ⟨y, t, by rw [hpn]; exact hy, rfl, ?_⟩
        have ev : (1 : Int) + capB (fun x => if x ∈ pNames p then grd p i x else 99) l = grd p (i + 1) y := by
          simp only [grd, bodyOf_look z1]
          have : capB (fun x => if x ∈ pNames p then grd p i x else 99) l = capB (grd p i) l := capB_congr (ns := ord) (fun x hx => if_pos (by rw [hpn]; exact hx)) bk.ok
          rw [this]
        rw [← ev]
        exact upd_same
      · intro H4 ys s4 hD4 hl4 hg4
        rw [List.length_map, hol] at hl4
        obtain ⟨ps, g1, g2⟩ := rows_int hl4 hg4
        rw [g1] at hD4
        refine ⟨D2, ps, _, rfl, SqL.of hD4, Paired.weak (fun t kv h => SqT.of h) g2, fun C' hC' => ?_⟩
        rw [mergeK_nd (lsKv p (grd p (i + 1))) [] (lsKv_nd nd), List.nil_append]
        refine ⟨C', _, _, rfl, (s3.trans s4).trans (same_upd hC' _), ?_, upd_same, .inr rfl⟩
        rintro rfl
        rw [s4 _ _ (s3 _ _ hF)] at hC'
        cases hC'
    · rintro σ H3 ⟨C, v6, kvC, rfl, s3, hCF, hC, hor⟩
      rcases hor with ⟨z, _⟩ | rfl
      · omega
      exact ru6 _ _ _ ⟨hD, _, _, _, _, _, _, na, F, C, ord, p, kvs, m, rfl, sm1.trans (Sm.of_same s3), hw1.keep fun o e => s3 _ _ e, hm, s3 _ _ hna, s3 _ _ hF, hk.keep (Kp.of (Sm.of_same (W := [a, F]) s3).same), hpn, ho, hbok, hC, hnaa, hFa, hCF, hnF, hFn⟩
  intro u4 hu4 ru4
  -- 3: a body for each name
  refine split_at 3 (fun D σ H' => D.rt = Q ∧ ∃ v5 v6 v7 v8 v10 v11 v12 na F ord m, σ = [some (.ref a), some (.int most), some (.int cl), some (.bl cr), some (.ref na), v5, v6, v7, v8, some (.ref F), v10, v11, v12] ∧ Sm [a] H H' ∧ WellAt H' a m ∧ m ≤ n + 2 ∧
    H' na = some (.lst (ord.map V.str)) ∧ H' F = some (.dK []) ∧ Ord ord ∧ na ≠ a ∧ F ≠ a ∧ na ≠ F ∧ H F = none) ?_ ?_
  · skip
    refine ⟨_, (pss_cons (ps_for PassesOwn.never rfl (pi_enum (by rfl) T.n_enumerate (pa_cons (pv 4) pa_nil)) (pg_tup rfl (pgs_cons (pg_name (i := 10) scLProgram.nd rfl (by first | exact Or.inl rfl | exact Or.inr rfl)) (pgs_cons (pg_name (i := 7) scLProgram.nd rfl (by first | exact Or.inl rfl | exact Or.inr rfl)) pgs_nil)))
        (pss_cons (ps_set (i := 11) scLProgram.nd rfl (by first | exact Or.inl rfl | exact Or.inr rfl) (pe_ifExp (pt_val (pv 3)) (pv 4) (pe_slice sl_list (pv 4) (po_some (pe_op op_add (pv 10) pe_int)) po_none)))
        (pss_cons (ps_set (i := 12) scLProgram.nd rfl (by first | exact Or.inl rfl | exact Or.inr rfl) (pe_ifExp (PW.pt (pw_and (pt_cmpR (op_neD hr.units) (pv 11) (pe_lst pa_nil) (nomark _)) (pw_and1 (pt_cmpR op_gt (pe_call GLDraw (hr.mono (by omega)) rfl T.gLDraw T.FLDraw.kp T.bLDraw .nil pass0 (pa_cons (pv 0) (pa_cons pe_int pa_nil))) pe_int (nomark _))))) (pe_call GLItems (hr.mono (by omega)) rfl T.gLItems T.FLItems.kp T.bLItems .nil pass0 (pa_cons (pv 0) (pa_cons (pv 11) (pa_cons (pv 2) (pa_cons pe_int pa_nil))))) (pe_lst pa_nil)))
        (pss_one (ps_dput hu (pv 9) (pv 7) (pe_ifExp (pt_cmpR op_lt (pe_call GLCount (hr.mono (by omega)) rfl T.gLCount T.FLCount.kp T.bLCount .nil pass0 (pa_cons (pv 12) pa_nil)) pe_int (nomark _)) (pv 12) (pe_op op_rep (pe_lst (pa_cons (pe_ix ix_list (pv 11) pe_int (fun _ _ => rfl)) pa_nil)) (pe_call GLCalls (hr.mono (by omega)) rfl T.gLCalls T.FLCalls.kp T.bLCalls .nil pass0 (pa_cons (pv 12) pa_nil)))) rfl)))))
      hu4), ?_⟩
    rintro D σ H1 ⟨hD, v5, v6, v7, v8, v10, v11, v12, na, F, ord, m, rfl, sm1, hw1, hm, hna, hF, ho, hnaa, hFa, hnF, hFn⟩
    have hol6 := ho.len
    have hpos : 0 < ord.length := List.length_pos_of_mem ho.main
    refine ⟨_, rfl, na, _, rfl, SqL.of hna, ?_⟩
    refine for_enum (K := K) (a := na) (xs := ord.map V.str) (fun i σ H' => ∃ v7 v10 v11 v12 p kvs, σ = [some (.ref a), some (.int most), some (.int cl), some (.bl cr), some (.ref na), v5, v6, v7, v8, some (.ref F), v10, v11, v12] ∧ Sm [a, F] H1 H' ∧ Sm [a] H H' ∧ WellAt H' a (m + i * 700) ∧ H' F = some (.dK kvs) ∧ PrKv (wo [a, F] H') kvs p ∧ pNames p = ord.take i ∧ (∀ x l, (x, l) ∈ p → BOk ord l)) ⟨v7, v10, v11, v12, [], [], rfl, Sm.refl _ _, sm1, hw1.mono (by omega), hF, .nil, rfl, fun x l h => by cases h⟩ ?_ ?_ ?_
    · rintro i σ H' _ ⟨_, _, _, _, _, _, _, sm, _⟩
      exact SqL.of (sm _ _ (by simp [hnaa, hnF]) hna)
    · rintro i y σ H2 T hi ⟨v7, v10, v11, v12, p, kvs, rfl, sm2, sm02, hw2, hF2, hk2, hpn, hbok⟩ hT
      obtain ⟨x, hx, rfl⟩ := str_get hi
      have hi6 : i < ord.length := (List.getElem?_eq_some_iff.mp hx).1
      have hxt : x ∉ ord.take i := fun z => by
        obtain ⟨j, hj, ej⟩ := List.mem_take_iff_getElem.mp z
        have h1 := List.pairwise_iff_getElem.mp (List.nodup_iff_pairwise_ne.mp ho.nd) j i (by omega) hi6 (by omega)
        exact h1 (by rw [ej, (List.getElem?_eq_some_iff.mp hx).2])
      have etk : ord.take (i + 1) = ord.take i ++ [x] := by rw [List.take_add_one, hx]; rfl
      refine ⟨T, _, rfl, SqT.of upd_same, rfl, _, _, rfl, _, _, rfl, rfl, ?_⟩
      have s3 := same_upd hT (.tup [V.int (i : Nat), V.str x])
      generalize upd H2 T (.tup [V.int (i : Nat), V.str x]) = H3 at s3 ⊢
      have hF3 := s3 _ _ hF2
      have hk3 := hk2.keep (Kp.of (Sm.of_same (W := [a, F]) s3).same)
      have sm3 := sm2.trans (Sm.of_same (W := [a, F]) s3)
      have sm03 := sm02.trans (Sm.of_same (W := [a]) s3)
      have hw3 : WellAt H3 a (m + i * 700) := hw2.keep fun o e => s3 _ _ e
      have hna3 := sm3 _ _ (by simp [hnaa, hnF]) hna
      clear hF2 hk2 sm2 sm02 hw2 s3 hT
      obtain ⟨m0, hm0⟩ : ∃ m0, m0 = m + i * 700 := ⟨_, rfl⟩
      have hms : m0 + 700 = m + (i + 1) * 700 := by rw [hm0, Nat.succ_mul]; omega
      have him : (i + 1) * 700 ≤ 6 * 700 := Nat.mul_le_mul_right _ (by omega)
      rw [← hm0] at hw3
      refine ⟨_, rfl, _, rfl, ?_⟩
      refine ite_both (I := fun v Hs => ∃ (so : Addr) (sl : List Str), v = .ref so ∧ Same H3 Hs ∧ Hs so = some (.lst (sl.map V.str)) ∧ (∀ y ∈ sl, y ∈ ord) ∧ sl.length ≤ 6) (fun Q' k => ⟨_, rfl, k _ _ ⟨na, ord, rfl, Same.refl _, hna3, fun y hy => hy, hol6⟩⟩) (fun Q' k => ?way2) ?rest
      case way2 =>
        have cf : cutV (ord.map V.str) (some ((i : Int) + 1)) none = (ord.drop (i + 1)).map V.str := by
          rw [List.map_drop]
          exact cut_from (k := i + 1) (by rw [List.length_map]; omega)
        refine ⟨_, rfl, _, rfl, _, _, rfl, rfl, _, rfl, na, _, rfl, SqL.of hna3, fun pn hpn => k _ _ ⟨pn, ord.drop (i + 1), rfl, same_upd0 hpn _, ?_, fun y hy => List.mem_of_mem_drop hy, by rw [List.length_drop]; omega⟩⟩
        rw [upd_same, cf]
      rintro v Hs ⟨so, sl, rfl, ss3, hso, hsub, hsl6⟩
      have hF3 := ss3 _ _ hF3
      have hk3 := hk3.keep (Kp.of (Sm.of_same (W := [a, F]) ss3).same)
      have sm3 := sm3.trans (Sm.of_same (W := [a, F]) ss3)
      have sm03 := sm03.trans (Sm.of_same (W := [a]) ss3)
      have hw3 : WellAt Hs a m0 := hw3.keep fun o e => ss3 _ _ e
      have hna3 := ss3 _ _ hna3
      clear ss3
      generalize Hs = H3 at *
      refine ⟨_, rfl, Nat.zero_le _, fun e he => ?_⟩
      have s4 := same_upd he (.lst [])
      have he4 : (upd H3 e (.lst [])) e = some (.lst []) := upd_same
      generalize upd H3 e (.lst []) = H4 at s4 he4 ⊢
      have hna4 := s4 _ _ hna3
      have hso4 := s4 _ _ hso
      refine ⟨_, _, .lst (SqL.of hso4) (dp_strs sl), .lst (SqL.of he4) .nil, strs_shaped (fun y hy => ho.nm y (hsub y hy)), dt_shaped rfl (by decide), ?_⟩
      rw [eqv_nil]
      have hoe : (sl.map PyData.str).isEmpty = sl.isEmpty := by
        cases sl with
        | nil => rfl
        | cons _ _ => rfl
      rw [hoe]
      have hw4 : WellAt H4 a m0 := hw3.keep fun o e => s4 _ _ e
      by_cases hem : sl = []
      case' pos =>
        have hsz : sl ≠ [] ∨ nIB ([] : List FA.It) = 0 := .inr (by simp [nIB])
        rw [hem]
        refine ⟨_, rfl, iteF ?_⟩
        refine iteF ?_
        refine ⟨Nat.zero_le _, fun b hb => ?_⟩
        obtain ⟨l, hl⟩ : ∃ l : List FA.It, l = [] := ⟨_, rfl⟩
        rw [← hl] at hsz
        have gok : okB ord l := by rw [hl]; simp [okB]
        have gc : nCB l ≤ 5 := by rw [hl]; simp [nCB]
        have gi : nIB l ≤ 129 := by rw [hl]; simp [nIB]
        have gd : dB l ≤ 3 := by rw [hl]; simp [dB]
        have hF4 := s4 _ _ hF3
        have s6 := s4.trans (same_upd hb (.lst []))
        have s6' := same_upd hb (.lst [])
        have hb6 : (upd H4 b (.lst [])) b = some (.lst []) := upd_same
        generalize upd H4 b (.lst []) = H6 at s6 s6' hb6 ⊢
        have sm06 := sm03.trans (Sm.of_same (W := [a]) s6)
        have sm16 := sm3.trans (Sm.of_same (W := [a, F]) s6)
        have hF6 := s6 _ _ hF3
        have hk6 := hk3.keep (Kp.of (Sm.of_same (W := [a, F]) s6).same)
        have hw6' : WellAt H6 a (m0 + 700) := (hw3.keep fun o e => s6 _ _ e).mono (by omega)
        have hna6 := s6 _ _ hna3
        have hso6 := s6' _ _ hso4
        have hb6' : BdAt (wo [a, F] H6) b l := by
          refine ⟨[], wo_some.mpr ⟨?_, hb6⟩, by rw [hl]; exact .nil⟩
          simp only [List.mem_cons, List.not_mem_nil, or_false, not_or]
          constructor
          · rintro rfl
            obtain ⟨o, e2⟩ := hw4.some
            rw [e2] at hb; cases hb
          · rintro rfl
            rw [hF4] at hb; cases hb
        clear hl hb6 hb s6 s6' hF4 hF3 hk3 sm3 sm03 hw3 hna3 s4 he4 hna4 hw4 hso4 hso he hem
      case' neg =>
        have hsz : ∀ l : List FA.It, sl ≠ [] ∨ nIB l = 0 := fun _ => .inl hem
        have hoe2 : sl.isEmpty = false := by
          cases sl with
          | nil => exact absurd rfl hem
          | cons _ _ => rfl
        rw [hoe2]
        refine ⟨_, rfl, iteT ?_⟩
        refine ⟨_, rfl, a, 6, m0, rfl, by decide, by decide, hw4, by omega, fun r H5 r0 r1 sm5 hw5 => ?_⟩
        have sm35 : Sm [a] H3 H5 := (Sm.of_same s4).trans sm5
        have hF5 : H5 F = some (.dK kvs) := sm35 _ _ (by simp [hFa]) hF3
        have sm05 := sm03.trans sm35
        have sm15 := sm3.trans (sm35.more (W' := [a, F]) (by simp))
        have hk5 := hk3.keep (Kp.of (sm35.more (W' := [a, F]) (by simp)).same)
        have hna5 : H5 na = some (.lst (ord.map V.str)) := sm35 _ _ (by simp [hnaa]) hna3
        have hsoa : so ≠ a := by
          rintro rfl
          obtain ⟨_, _, _, e, _⟩ := hw4
          rw [e] at hso4
          cases sl with
          | nil => exact hem rfl
          | cons y r => simp at hso4
        have hso5 : H5 so = some (.lst (sl.map V.str)) := sm5 _ _ (by simp [hsoa]) hso4
        clear hF3 hk3 sm3 sm03 hw3 hna3 s4 he4 hna4 hw4 sm5 sm35 he hso4 hso
        refine ⟨_, _, rfl, rfl, _, rfl, ite2 (fun hr0 => ?A) (fun hr0 => ?B)⟩
      case' A =>
        refine ⟨_, rfl, _, rfl, _, rfl, a, so, m0 + 1, sl, cl, rfl, by decide, by decide, ⟨hw5, hso5, ⟨List.length_pos_iff.mpr hem, hsl6⟩, fun y hy => ho.nm y (hsub y hy)⟩, by omega, hcl1, hcl5, fun b l H6 sm6 hw6 hb6 got => ?_⟩
        have gok : okB ord l := okB_more hsub l got.ok
        have hsz := hsz l
        have gc : nCB l ≤ 5 := by have := got.hi; omega
        have gi : nIB l ≤ 129 := got.i
        have gd := got.d
        have sm06 := sm05.trans sm6
        have sm16 := sm15.trans (sm6.more (W' := [a, F]) (by simp))
        have hF6 : H6 F = some (.dK kvs) := sm6 _ _ (by simp [hFa]) hF5
        have hk6 := hk5.keep (Kp.of (sm6.more (W' := [a, F]) (by simp)).same)
        have hw6' : WellAt H6 a (m0 + 700) := hw6.mono (by omega)
        have hna6 : H6 na = some (.lst (ord.map V.str)) := sm6 _ _ (by simp [hnaa]) hna5
        have hso6 : H6 so = some (.lst (sl.map V.str)) := sm6 _ _ (by simp [hsoa]) hso5
        have hb6' : BdAt (wo [a, F] H6) b l := hb6.keep (by
          have key : ∀ x o, fr H5 H6 x = some o → wo [a, F] H6 x = some o := fun x o e => by
            rw [fr_some] at e
            rw [wo_some]
            refine ⟨?_, e.2⟩
            simp only [List.mem_cons, List.not_mem_nil, or_false, not_or]
            constructor
            · rintro rfl
              obtain ⟨o, e2⟩ := hw5.some
              rw [e2] at e; cases e.1
            · rintro rfl
              rw [hF5] at e; cases e.1
          exact ⟨fun x xs e => key _ _ e, fun x xs e => key _ _ e⟩)
        clear got hb6 hw6 sm6 hF5 hk5 sm05 sm15 hw5 hna5 hso5
      case' B =>
        refine ⟨Nat.zero_le _, fun b hb => ?_⟩
        obtain ⟨l, hl⟩ : ∃ l : List FA.It, l = [] := ⟨_, rfl⟩
        have gok : okB ord l := by rw [hl]; simp [okB]
        have gc : nCB l ≤ 5 := by rw [hl]; simp [nCB]
        have gi : nIB l ≤ 129 := by rw [hl]; simp [nIB]
        have gd : dB l ≤ 3 := by rw [hl]; simp [dB]
        have s6 := same_upd hb (.lst [])
        have hb6 : (upd H5 b (.lst [])) b = some (.lst []) := upd_same
        generalize upd H5 b (.lst []) = H6 at s6 hb6 ⊢
        have sm06 := sm05.trans (Sm.of_same (W := [a]) s6)
        have sm16 := sm15.trans (Sm.of_same (W := [a, F]) s6)
        have hF6 := s6 _ _ hF5
        have hk6 := hk5.keep (Kp.of (Sm.of_same (W := [a, F]) s6).same)
        have hw6' : WellAt H6 a (m0 + 700) := (hw5.keep fun o e => s6 _ _ e).mono (by omega)
        have hna6 := s6 _ _ hna5
        have hso6 := s6 _ _ hso5
        have hsz := hsz l
        have hb6' : BdAt (wo [a, F] H6) b l := by
          refine ⟨[], wo_some.mpr ⟨?_, hb6⟩, by rw [hl]; exact .nil⟩
          simp only [List.mem_cons, List.not_mem_nil, or_false, not_or]
          constructor
          · rintro rfl
            obtain ⟨o, e2⟩ := hw5.some
            rw [e2] at hb; cases hb
          · rintro rfl
            rw [hF5] at hb; cases hb
        clear hl hb6 hb s6 hF5 hk5 sm05 sm15 hw5 hna5 hso5
      all_goals
        refine ⟨_, rfl, b, ord, l, rfl, hb6'.keep kp_off, gok, by omega, gd, fun H7 s7 => ?_⟩
        have hF7 := s7 _ _ hF6
        have sm07 := sm06.trans (Sm.of_same (W := [a]) s7)
        have sm17 := sm16.trans (Sm.of_same (W := [a, F]) s7)
        have hk7 := hk6.keep (Kp.of (Sm.of_same (W := [a, F]) s7).same)
        have hw7 : WellAt H7 a (m0 + 700) := hw6'.keep fun o e => s7 _ _ e
        have hb7 := hb6'.keep (Kp.of (Sm.of_same (W := [a, F]) s7).same)
        have hna7 := s7 _ _ hna6
        have hso7 := s7 _ _ hso6
        clear hF6 sm06 sm16 hk6 hw6' hb6' hna6 s7
        have hkl := hk7.length
        have hpl : p.length ≤ 6 := by
          have := congrArg List.length hpn
          unfold pNames at this
          rw [List.length_map, List.length_take] at this
          omega
        have hxn : x ∉ pNames p := by rw [hpn]; exact hxt
        -- the row is put in
        have done : ∀ (H8 : Hp) (nb : Addr) (l' : List FA.It) (v10 v11 v12 : Option V), Same H7 H8 → BdAt (wo [a, F] H8) nb l' → BOk ord l' →
            ∃ v7 v10' v11' v12' p kvs', ([some (.ref a), some (.int most), some (.int cl), some (.bl cr), some (.ref na), v5, v6, some (.str x), v8, some (.ref F), v10, v11, v12] : L2.St) = [some (.ref a), some (.int most), some (.int cl), some (.bl cr), some (.ref na), v5, v6, v7, v8, some (.ref F), v10', v11', v12'] ∧ Sm [a, F] H1 (upd H8 F (.dK (putK kvs (.inr x) (.ref nb)))) ∧ Sm [a] H (upd H8 F (.dK (putK kvs (.inr x) (.ref nb)))) ∧ WellAt (upd H8 F (.dK (putK kvs (.inr x) (.ref nb)))) a (m + (i + 1) * 700) ∧
              (upd H8 F (.dK (putK kvs (.inr x) (.ref nb)))) F = some (.dK kvs') ∧ PrKv (wo [a, F] (upd H8 F (.dK (putK kvs (.inr x) (.ref nb))))) kvs' p ∧ pNames p = ord.take (i + 1) ∧ (∀ x l, (x, l) ∈ p → BOk ord l) := by
          intro H8 nb l' v10 v11 v12 s8 hb8 bok
          have eput : putK kvs (.inr x) (.ref nb) = kvs ++ [(.inr x, .ref nb)] := putK_new _ (by
            rcases hk7.look (x := x) with ⟨_, z⟩ | ⟨l, b, z1, _⟩
            · exact z
            · exact absurd (List.mem_map.mpr ⟨(x, l), mem_look z1, rfl⟩) hxn)
          have kpo : Kp (wo [a, F] H8) (wo [a, F] (upd H8 F (.dK (kvs ++ [(.inr x, .ref nb)])))) := by
            have key : ∀ y o, wo [a, F] H8 y = some o → wo [a, F] (upd H8 F (.dK (kvs ++ [(.inr x, .ref nb)]))) y = some o := fun y o e => by
              rw [wo_some] at e ⊢
              refine ⟨e.1, ?_⟩
              simp only [List.mem_cons, List.not_mem_nil, or_false, not_or] at e
              rw [upd_ne e.1.2]
              exact e.2
            exact ⟨fun x xs e => key _ _ e, fun x xs e => key _ _ e⟩
          rw [eput]
          refine ⟨_, v10, v11, v12, p ++ [(x, l')], kvs ++ [(.inr x, .ref nb)], rfl, ?_, ?_, ?_, upd_same, PrKv.snoc (hb8.keep kpo) ((hk7.keep (Kp.of (Sm.of_same (W := [a, F]) s8).same)).keep kpo), ?_, ?_⟩
          · intro y o hy e
            rw [upd_ne (fun z => hy (by simp [z]))]
            exact s8 _ _ (sm17 _ _ hy e)
          · intro y o hy e
            rw [upd_ne (ne_of_none e hFn)]
            exact s8 _ _ (sm07 _ _ hy e)
          · rw [← hms]
            exact hw7.keep fun o e => by rw [upd_ne hFa.symm]; exact s8 _ _ e
          · rw [etk, ← hpn]
            unfold pNames
            rw [List.map_append]
            rfl
          · intro y l0 h
            rcases List.mem_append.mp h with h | h
            · exact hbok y l0 h
            · cases List.mem_singleton.mp h
              exact bok
        refine ⟨_, _, rfl, rfl, _, rfl, ite2 (fun hc => ?_) (fun hc => ?_)⟩
        · have hc := of_decide_eq_true hc
          refine ⟨_, rfl, _, rfl, _, rfl, F, _, rfl, DPut.k (k := .inr x) hF7 (small1000 (by omega)), ?_⟩
          exact done H7 b l _ _ _ (Same.refl _) hb7 ⟨gok, gc, by omega, gd⟩
        · have hc : ¬ ((nIB l : Nat) : Int) < 12 := fun z => hc (decide_eq_true z)
          have hsl0 : 0 < sl.length := List.length_pos_iff.mpr (hsz.resolve_right fun z => by omega)
          obtain ⟨x0, hx0⟩ : ∃ x0, sl[0]? = some x0 := ⟨sl[0], List.getElem?_eq_getElem hsl0⟩
          refine ⟨_, rfl, so, _, _, .str x0, rfl, rfl, SqL.of hso7, at_of (j := 0) rfl (by rw [List.getElem?_map, hx0]; rfl), Nat.le_of_lt (small1000 (by simp)), fun p1 hp1 => ?_⟩
          have s8 := same_upd hp1 (.lst [V.str x0])
          have hp8 : (upd H7 p1 (.lst [V.str x0])) p1 = some (.lst [V.str x0]) := upd_same
          generalize upd H7 p1 (.lst [V.str x0]) = H8 at s8 hp8 ⊢
          refine ⟨_, rfl, b, ord, l, rfl, (hb7.keep kp_off).keep (Kp.of s8), gok, by omega, gd, fun H9 s9 => ?_⟩
          refine ⟨p1, (nCB l : Nat), _, rfl, rfl, s9 _ _ hp8, by omega, by omega, ?_, fun p2 hp2 => ?_⟩
          · have := small1000 (n := [V.str x0].length * ((nCB l : Nat) : Int).toNat) (by simp; omega)
            omega
          have efl : (List.replicate ((nCB l : Nat) : Int).toNat [V.str x0]).flatten = (List.replicate (nCB l) x0).map V.str := by
            rw [Int.toNat_natCast]
            induction nCB l with
            | zero => rfl
            | succ k ih => rw [List.replicate_succ, List.flatten_cons, ih, List.replicate_succ]; rfl
          rw [efl]
          have s10 := same_upd hp2 (.lst ((List.replicate (nCB l) x0).map V.str))
          have hp10 : (upd H9 p2 (.lst ((List.replicate (nCB l) x0).map V.str))) p2 = some (.lst ((List.replicate (nCB l) x0).map V.str)) := upd_same
          have s710 := (s8.trans s9).trans s10
          have hp2n : H7 p2 = none := (s8.trans s9).free hp2
          generalize upd H9 p2 (.lst ((List.replicate (nCB l) x0).map V.str)) = H10 at s710 hp10 ⊢
          refine ⟨_, rfl, _, rfl, F, _, rfl, DPut.k (k := .inr x) (s710 _ _ hF7) (small1000 (by omega)), ?_⟩
          have hrep : ∀ k : Nat, ItsAt (wo [a, F] H10) ((List.replicate k x0).map V.str) (List.replicate k (.call x0)) ∧ okB ord (List.replicate k (FA.It.call x0)) ∧ nCB (List.replicate k (FA.It.call x0)) = k ∧ nIB (List.replicate k (FA.It.call x0)) = k ∧ dB (List.replicate k (FA.It.call x0)) ≤ 1 := fun k => by
            induction k with
            | zero => exact ⟨.nil, by simp [okB], by simp [nCB], by simp [nIB], by simp [dB]⟩
            | succ k ih =>
              obtain ⟨i1, i2, i3, i4, i5⟩ := ih
              rw [List.replicate_succ, List.replicate_succ]
              exact ⟨.cons (.call _) i1, by simp only [okB, okI]; exact ⟨hsub _ (List.mem_of_getElem? hx0), i2⟩, by simp only [nCB, nC]; omega, by simp only [nIB, nI]; omega, by simp only [dB, dI]; omega⟩
          obtain ⟨i1, i2, i3, i4, i5⟩ := hrep (nCB l)
          refine done H10 p2 (List.replicate (nCB l) (.call x0)) _ _ _ s710 ⟨_, wo_some.mpr ⟨?_, hp10⟩, i1⟩ ⟨i2, by omega, by omega, by omega⟩
          simp only [List.mem_cons, List.not_mem_nil, or_false, not_or]
          constructor
          · rintro rfl
            obtain ⟨o, e2⟩ := hw7.some
            rw [e2] at hp2n; cases hp2n
          · rintro rfl
            rw [hF7] at hp2n; cases hp2n
    · rintro σ H2 ⟨v7, v10, v11, v12, p, kvs, rfl, sm2, sm02, hw2, hF2, hk2, hpn, hbok⟩
      rw [List.take_of_length_le (by rw [List.length_map]; exact Nat.le_refl _)] at hpn
      have hm2 : (ord.map V.str).length * 700 ≤ 6 * 700 := Nat.mul_le_mul_right _ (by rw [List.length_map]; omega)
      exact ru4 _ _ _ ⟨hD, _, _, _, _, _, _, _, na, F, ord, p, kvs, _, rfl, sm02, hw2, by omega, sm2 _ _ (by simp [hnaa, hnF]) hna, hF2, hk2, hpn, ho, fun x l e => hbok x l (mem_look e), hnaa, hFa, hnF, hFn⟩
  intro u3 hu3 ru3
  refine ⟨_, (pss_cons (ps_set (i := 4) scLProgram.nd rfl (by first | exact Or.inl rfl | exact Or.inr rfl) (pe_lst (pa_cons (pe_lst (pa_cons pe_str (pa_cons pe_str (pa_cons pe_str (pa_cons pe_str (pa_cons pe_str (pa_cons pe_str pa_nil))))))) (pa_cons (pe_lst (pa_cons pe_str (pa_cons pe_str (pa_cons (pe_op op_mul_main pe_str pe_int) (pa_cons pe_str (pa_cons pe_str (pa_cons pe_str pa_nil))))))) pa_nil))))
      (pss_cons (ps_set (i := 4) scLProgram.nd rfl (by first | exact Or.inl rfl | exact Or.inr rfl) (pe_ix ix_list (pe_op op_cat (pv 4) (pe_lst (pa_cons (pe_lst (pa_cons pe_str (pa_cons pe_str (pa_cons pe_str (pa_cons pe_str (pa_cons pe_str (pa_cons pe_str pa_nil))))))) pa_nil))) (pe_call GLDraw (hr.mono (by omega)) rfl T.gLDraw T.FLDraw.kp T.bLDraw .nil pass0 (pa_cons (pv 0) (pa_cons pe_int pa_nil))) (fun _ _ => rfl)))
      (pss_cons (ps_asg (pe_tup (pa_cons (pe_slice sl_list (pv 4) po_none (po_some (pe_op op_add pe_int (pe_call GLDraw (hr.mono (by omega)) rfl T.gLDraw T.FLDraw.kp T.bLDraw .nil pass0 (pa_cons (pv 0) (pa_cons (pv 1) pa_nil)))))) (pa_cons pe_dnewK pa_nil))) (pg_tup rfl (pgs_cons (pg_name (i := 4) scLProgram.nd rfl (by first | exact Or.inl rfl | exact Or.inr rfl)) (pgs_cons (pg_name (i := 9) scLProgram.nd rfl (by first | exact Or.inl rfl | exact Or.inr rfl)) pgs_nil))))
      hu3))), ?_⟩
  refine ⟨Nat.le_of_lt (small1000 (by simp)), fun q1 hq1 => ?_⟩
  have s1 := same_upd hq1 (.lst [V.str "main", V.str "a", V.str "b", V.str "c", V.str "d", V.str "e"])
  have e1 : (upd H q1 (.lst [V.str "main", V.str "a", V.str "b", V.str "c", V.str "d", V.str "e"])) q1 = some (.lst (mB0.map V.str)) := upd_same
  generalize upd H q1 (.lst [V.str "main", V.str "a", V.str "b", V.str "c", V.str "d", V.str "e"]) = H1 at s1 e1 ⊢
  refine ⟨rfl, rfl, Nat.le_of_lt (small1000 (by simp)), fun q2 hq2 => ?_⟩
  have x2 := same_upd hq2 (.lst [V.str "main", V.str "zz", V.str "mainmain", V.str "aa", V.str "q", V.str "abcdefgh"])
  have e2 : (upd H1 q2 (.lst [V.str "main", V.str "zz", V.str "mainmain", V.str "aa", V.str "q", V.str "abcdefgh"])) q2 = some (.lst (mB1.map V.str)) := upd_same
  generalize upd H1 q2 (.lst [V.str "main", V.str "zz", V.str "mainmain", V.str "aa", V.str "q", V.str "abcdefgh"]) = H2 at x2 e2 ⊢
  refine ⟨Nat.le_of_lt (small1000 (by simp)), fun q3 hq3 => ?_⟩
  have x3 := same_upd hq3 (.lst [V.ref q1, V.ref q2])
  have e3 : (upd H2 q3 (.lst [V.ref q1, V.ref q2])) q3 = some (.lst [V.ref q1, V.ref q2]) := upd_same
  generalize upd H2 q3 (.lst [V.ref q1, V.ref q2]) = H3 at x3 e3 ⊢
  refine ⟨_, rfl, Nat.le_of_lt (small1000 (by simp)), fun q4 hq4 => ?_⟩
  have x4 := same_upd hq4 (.lst [V.str "main", V.str "one", V.str "loop", V.str "maybe", V.str "call", V.str "a"])
  have e4 : (upd H3 q4 (.lst [V.str "main", V.str "one", V.str "loop", V.str "maybe", V.str "call", V.str "a"])) q4 = some (.lst (mB2.map V.str)) := upd_same
  generalize upd H3 q4 (.lst [V.str "main", V.str "one", V.str "loop", V.str "maybe", V.str "call", V.str "a"]) = H4 at x4 e4 ⊢
  refine ⟨Nat.le_of_lt (small1000 (by simp)), fun q5 hq5 => ?_⟩
  have x5 := same_upd hq5 (.lst [V.ref q4])
  have e5 : (upd H4 q5 (.lst [V.ref q4])) q5 = some (.lst [V.ref q4]) := upd_same
  generalize upd H4 q5 (.lst [V.ref q4]) = H5 at x5 e5 ⊢
  refine ⟨q3, q5, _, _, rfl, rfl, x5 _ _ (x4 _ _ e3), e5, by have := sizeLine_eq; simp; omega, fun q6 hq6 => ?_⟩
  have x6 := same_upd hq6 (.lst ([V.ref q1, V.ref q2] ++ [V.ref q4]))
  have e6 : (upd H5 q6 (.lst ([V.ref q1, V.ref q2] ++ [V.ref q4]))) q6 = some (.lst ([V.ref q1, V.ref q2] ++ [V.ref q4])) := upd_same
  generalize upd H5 q6 (.lst ([V.ref q1, V.ref q2] ++ [V.ref q4])) = H6 at x6 e6 ⊢
  have s06 := ((((s1.trans x2).trans x3).trans x4).trans x5).trans x6
  have e1' := x6 _ _ (x5 _ _ (x4 _ _ (x3 _ _ (x2 _ _ e1))))
  have e2' := x6 _ _ (x5 _ _ (x4 _ _ (x3 _ _ e2)))
  have e4' := x6 _ _ (x5 _ _ e4)
  refine ⟨_, rfl, a, 3, n, rfl, by decide, by decide, hw.keep fun o e => s06 _ _ e, by omega, fun r H7 r0 r1 sm7 hw7 => ?_⟩
  have nea : ∀ x o, H6 x = some o → H x = none → x ≠ a := fun x o e hx => by
    rintro rfl
    rw [how] at hx; cases hx
  have nq1 := ne_of_none how hq1
  have n2 : H q2 = none := s1.free hq2
  have n4 : H q4 = none := ((s1.trans x2).trans x3).free hq4
  have n6 : H q6 = none := ((((s1.trans x2).trans x3).trans x4).trans x5).free hq6
  have e1'' := sm7 _ _ (by simp [(ne_of_none how hq1).symm]) e1'
  have e2'' := sm7 _ _ (by simp [(ne_of_none how n2).symm]) e2'
  have e4'' := sm7 _ _ (by simp [(ne_of_none how n4).symm]) e4'
  have e6'' := sm7 _ _ (by simp [(ne_of_none how n6).symm]) e6
  obtain ⟨qx, ns, hat, hns, hmn⟩ : ∃ (qx : Addr) (ns : List Str), atI ([V.ref q1, V.ref q2] ++ [V.ref q4]) r = some (.ref qx) ∧ H7 qx = some (.lst (ns.map V.str)) ∧ ns ∈ menusB := by
    rcases (by omega : r = 0 ∨ r = 1 ∨ r = 2) with rfl | rfl | rfl
    · exact ⟨q1, mB0, rfl, e1'', by simp [menusB]⟩
    · exact ⟨q2, mB1, rfl, e2'', by simp [menusB]⟩
    · exact ⟨q4, mB2, rfl, e4'', by simp [menusB]⟩
  refine ⟨q6, _, _, .ref qx, rfl, rfl, SqL.of e6'', hat, ?_⟩
  refine ⟨_, rfl, _, rfl, _, rfl, a, most, n + 1, rfl, hm1, by omega, hw7, by omega, fun k H8 k0 k1 sm8 hw8 => ?_⟩
  have sm08 : Sm [a] H H8 := ((Sm.of_same s06).trans sm7).trans sm8
  have hqa : qx ≠ a := by
    rintro rfl
    obtain ⟨x, y, z, e, _⟩ := hw7
    rw [hns] at e
    exact strs_ne (HO.lst.inj (Option.some.inj e))
  have hns8 := sm8 _ _ (by simp [hqa]) hns
  refine ⟨_, _, rfl, rfl, _, rfl, _, _, rfl, SqL.of hns8, fun na hna => ?_⟩
  have ecut : cutV (ns.map V.str) none (some (1 + k)) = (ns.take (1 + k).toNat).map V.str := by
    rw [show (1 : Int) + k = (((1 + k).toNat : Nat) : Int) by omega, cut_to', List.map_take, Int.toNat_natCast]
  have s9 := same_upd hna (.lst (cutV (ns.map V.str) none (some (1 + k))))
  have e9 : (upd H8 na (.lst (cutV (ns.map V.str) none (some (1 + k))))) na = some (.lst ((ns.take (1 + k).toNat).map V.str)) := by rw [upd_same, ecut]
  generalize upd H8 na (.lst (cutV (ns.map V.str) none (some (1 + k)))) = H9 at s9 e9 ⊢
  intro F hF
  have s10 := same_upd hF (.dK [])
  have e10 : (upd H9 F (.dK [])) F = some (.dK []) := upd_same
  generalize upd H9 F (.dK []) = H10 at s10 e10 ⊢
  refine ⟨Nat.le_of_lt (small1000 (by simp)), fun t ht => ?_⟩
  have s11 := same_upd ht (.tup [V.ref na, V.ref F])
  refine ⟨t, _, rfl, SqT.of upd_same, rfl, _, _, rfl, _, _, rfl, rfl, ?_⟩
  generalize upd H10 t (.tup [V.ref na, V.ref F]) = H11 at s11 ⊢
  have k8 : ∀ b ∈ [a], ∃ o, H8 b = some o := fun b hb => by rw [List.mem_singleton.mp hb]; exact hw8.some
  have hnaH : H na = none := none_back sm08 k8 hna
  have hFH : H F = none := none_back sm08 k8 (s9.free hF)
  have s811 := (s9.trans s10).trans s11
  refine ru3 _ _ _ ⟨rfl, _, _, _, _, _, _, _, na, F, _, n + 2, rfl, sm08.trans (Sm.of_same s811), hw8.keep fun o e => s811 _ _ e, Nat.le_refl _, s11 _ _ (s10 _ _ e9), s11 _ _ e10, ordB_of hmn (by omega), (ne_of_none how hnaH).symm, (ne_of_none how hFH).symm, ?_, hFH⟩
  rintro rfl
  rw [e9] at hF; cases hF
end K43


set_option Elab.async false
set_option linter.all false
set_option maxRecDepth 100000
set_option maxHeartbeats 4000000
/-! Sets of texts whose order is asked: set(list of texts), sorted of it. -/
namespace FA
open PySem PySem.Spec PyProof.Rows L2 PySem.Froz
variable {P : Program} {w : World} {A : Around} {E : Value → Shared → Prop} {s : Shared} {a : Addr}
/-- a set of the texts l at a, its places known -/
def TSet (P : Program) (w : World) (h : Heap) (a : Addr) (l : List Str) : Prop :=
  ∃ D : SD, h.get? a = some (sObj "set" D) ∧ TxOk P w D l ∧ l.Nodup ∧ Ris D.2.2.place.toList ∧ (w.params.followText "set-order" = true ∨ D.2.2.led = true)
theorem TSet.keep {h h' : Heap} {l : List Str} (R : TSet P w h a l) (k : ∀ o, h.get? a = some o → h'.get? a = some o) : TSet P w h' a l := by
  obtain ⟨D, ho, r⟩ := R
  exact ⟨D, k _ ho, r⟩
theorem tail_more {ep : Nat} {es : Array (Int × Value)} {t : SetTable} {b : Bool} (r : Ris t.place.toList) : Ris (tailTx ep es t b).2.2.place.toList ∧ (tailTx ep es t b).2.2.led = t.led := by
  unfold tailTx
  split
  · exact ⟨relayAll_ris t es _, relayAll_led t es _⟩
  · exact ⟨r, rfl⟩
theorem add_more {D : SD} {h : Int} {v : Value} (r : Ris D.2.2.place.toList) : Ris (addTx h v D).2.2.place.toList ∧ (addTx h v D).2.2.led = D.2.2.led := by
  unfold addTx
  have r1 := layNew_ris D.2.2 D.1 h v r
  have l1 := layNew_led D.2.2 D.1 h v
  split
  · obtain ⟨x, y⟩ := tail_more (ep := D.2.1) (es := (layNew D.2.2 D.1 h v).1) (t := { (layNew D.2.2 D.1 h v).2.1 with plain := false }) (b := (layNew D.2.2 D.1 h v).2.2.1) r1
    exact ⟨x, y.trans l1⟩
  · obtain ⟨x, y⟩ := tail_more (ep := D.2.1) (es := (layNew D.2.2 D.1 h v).1) (t := (layNew D.2.2 D.1 h v).2.1) (b := (layNew D.2.2 D.1 h v).2.2.1) r1
    exact ⟨x, y.trans l1⟩
theorem add_old {T : String} {D : SD} {l : List Str} {k : Str} {u : Tok} {Q : Bool → Shared → Prop} (ho : s.heap.get? a = some (sObj T D)) (F : TxOk P w D l) (hk : k ∈ l) (hb : l.length + 1 < scanBound) (h : Q false s) :
    wpAny (model P w) A (setAddHashed a (.str k u) (hashStr w k)) Q E s := by
  obtain ⟨es, ep, t⟩ := D
  have hsz : es.size = l.length := F.sz
  have hkey : (strKind P w).is k (.str k u) = true := is_str k u
  obtain ⟨j, hj⟩ : ∃ j, List.findIdx? (fun e => (strKind P w).is k e.2) es.toList = some j := by
    cases hr : List.findIdx? (fun e => (strKind P w).is k e.2) es.toList with
    | some j => exact ⟨j, rfl⟩
    | none =>
      obtain ⟨e, he, z⟩ := (F.mem k).mp hk
      have := List.findIdx?_eq_none_iff.mp hr e he
      rw [z] at this
      cases this
  unfold setAddHashed setAddHashedIn
  refine wpAny_holding (wpAny_bind (wpAny_setState_of ho rfl F.fit ?_))
  dsimp only
  rw [byScan_of rfl (show es.size < scanBound by omega) F.el]
  simp only [↓reduceIte]
  unfold setAddByScan
  refine wpAny_bind (wpAny_bind (wpAny_rule ?_))
  refine wpAny_bind (wpAny_setScan_of (knd := strKind P w) (k := k) hkey ho rfl F.fit F.el ?_)
  rw [hj]
  exact wpAny_pure (wpAny_pure h)
theorem ts_add {l : List Str} {k : Str} {u : Tok} {Q : Bool → Shared → Prop} (R : TSet P w s.heap a l) (hb : l.length + 1 < scanBound)
    (hQ : ∀ h', Heap.SameBut a s.heap h' → TSet P w h' a (if k ∈ l then l else k :: l) → Q (!decide (k ∈ l)) { s with heap := h' }) : wpAny (model P w) A (setAddHashed a (.str k u) (hashStr w k)) Q E s := by
  obtain ⟨D, ho, F, nd, r, hl⟩ := R
  by_cases hk : k ∈ l
  · refine add_old ho F hk hb ?_
    have q := hQ s.heap ⟨rfl, fun _ _ => rfl⟩ (by rw [if_pos hk]; exact ⟨D, ho, F, nd, r, hl⟩)
    rw [decide_eq_true hk] at q
    exact q
  · refine add_x ho F hk hb ?_
    obtain ⟨r1, l1⟩ := add_more (h := hashStr w k) (v := .str k u) r
    have q := hQ (s.heap.update a fun _ => sObj "set" (addTx (hashStr w k) (.str k u) D)) (Heap.SameBut.update _ _ _) (by
      rw [if_neg hk]
      exact ⟨_, get_upd _ ho rfl, add_ok u F, List.nodup_cons.mpr ⟨hk, nd⟩, r1, hl.imp id fun z => by rw [l1]; exact z⟩)
    rw [decide_eq_false hk] at q
    exact q
theorem ts_new {h : Heap} (ho : h.get? a = some { cls := .type "set", dict := none, data := .set #[] 0 (.fresh 0 0 (!w.params.followText "set-order")) }) : TSet P w h a [] :=
  ⟨(#[], 0, .fresh 0 0 (!w.params.followText "set-order")), ho, TxOk.nil (by rfl), List.nodup_nil, List.Pairwise.nil, by
    show _ ∨ (!w.params.followText "set-order") = true
    cases w.params.followText "set-order"
    · exact .inr rfl
    · exact .inl rfl⟩
/-- the texts of ns that were met, each once -/
def met : List Str → List Str → List Str
  | acc, [] => acc
  | acc, k :: r => met (if k ∈ acc then acc else k :: acc) r
theorem met_snoc : ∀ (ns acc : List Str) (k : Str), met acc (ns ++ [k]) = if k ∈ met acc ns then met acc ns else k :: met acc ns
  | [], acc, k => rfl
  | x :: r, acc, k => met_snoc r _ k
theorem met_len : ∀ (ns acc : List Str), (met acc ns).length ≤ acc.length + ns.length
  | [], acc => Nat.le_refl _
  | x :: r, acc => by
    rw [met]
    by_cases hx : x ∈ acc
    · rw [if_pos hx]
      have := met_len r acc
      simp only [List.length_cons]; omega
    · rw [if_neg hx]
      have := met_len r (x :: acc)
      simp only [List.length_cons] at this ⊢; omega
theorem met_mem : ∀ (ns acc : List Str) (x : Str), x ∈ met acc ns ↔ x ∈ acc ∨ x ∈ ns
  | [], acc, x => by simp [met]
  | y :: r, acc, x => by
    rw [met, met_mem r]
    by_cases hy : y ∈ acc
    · rw [if_pos hy, List.mem_cons]
      constructor
      · rintro (h | h)
        · exact .inl h
        · exact .inr (.inr h)
      · rintro (h | rfl | h)
        · exact .inl h
        · exact .inl hy
        · exact .inr h
    · rw [if_neg hy, List.mem_cons, List.mem_cons]
      constructor
      · rintro ((h | h) | h)
        · exact .inr (.inl h)
        · exact .inl h
        · exact .inr (.inr h)
      · rintro (h | h | h)
        · exact .inl (.inr h)
        · exact .inl (.inl h)
        · exact .inr h
theorem set_update_texts {I : Addr} {fp wr : List Addr} {G : Array GenState → Array GenState → Prop} {n : Nat} {Pv : Nat → Value → Prop} {St : Nat → Shared → Prop} {R : Result → Shared → Prop} (W : WalksS P w A.in1 I fp wr G n Pv St)
    (S : Addr) (hSf : S ∉ fp) (ns : List Str) (hn : n = ns.length) (hb : ns.length + 1 < scanBound) (hval : ∀ i v, Pv i v → ∃ k t, ns[i]? = some k ∧ v = .str k t) : ∀ (k i : Nat) (s : Shared), n - i = k → i ≤ n → St i s → TSet P w s.heap S (met [] (ns.take i)) →
      (∀ s', Moved (S :: wr) G s s' → TSet P w s'.heap S (met [] ns) → R (.ok (.ret .none)) s') → codeAny (model P w) A (.builtin "set.update.loop" ⟨[.ref S, .ref I], []⟩) R s := by
  have out : S ∉ wr := fun h => hSf (W.sub _ h)
  have more : ∀ b ∈ wr, b ∈ S :: wr := fun b hb => List.mem_cons_of_mem _ hb
  intro k
  induction k with
  | zero =>
    intro i s hk' hi hst hS hR
    have hin : i = n := by omega
    subst hin
    refine codeAny_builtin F.entry_set_update_loop ?_
    rw [Around.under_plainId F.plain_set_update_loop _]
    show wpAny _ A.in1 (pyNext (.ref I) >>= _) _ _ s
    refine wpAny_bind (W.done s _ _ hst fun s' hm => ?_)
    show wpAny _ A.in1 (ret Value.none) _ _ s'
    rw [List.take_of_length_le (by omega)] at hS
    exact wpAny_pure (hR s' (hm.mono more) (hS.keep fun o e => hm.heap S o out e))
  | succ k ih =>
    intro i s hk' hi hst hS hR
    have hlt : i < n := by omega
    refine codeAny_builtin F.entry_set_update_loop ?_
    rw [Around.under_plainId F.plain_set_update_loop _]
    show wpAny _ A.in1 (pyNext (.ref I) >>= _) _ _ s
    refine wpAny_bind (W.item i s _ _ hlt hst fun v s' hP hst' hm => ?_)
    obtain ⟨z, t, hz, rfl⟩ := hval i v hP
    have hS' : TSet P w s'.heap S (met [] (ns.take i)) := hS.keep fun o e => hm.heap S o out e
    have hl := met_len (ns.take i) []
    have hl2 : (ns.take i).length ≤ ns.length := by rw [List.length_take]; omega
    show wpAny _ A.in1 (holding [Value.str z t] (setAdd S (.str z t)) >>= _) _ _ s'
    refine wpAny_bind (wpAny_holding ?_)
    unfold setAdd
    refine wpAny_holding (wpAny_bind ((strKind P w).pyHash (k := z) (is_str z t) ?_))
    refine ts_add (s := { s' with toks := s'.toks + 1 }) hS' (by simp only [List.length_nil] at hl; omega) fun h' hsb hS2 => ?_
    have hS3 : TSet P w h' S (met [] (ns.take (i + 1))) := by
      rw [List.take_add_one, hz]
      show TSet P w h' S (met [] (ns.take i ++ [z]))
      rw [met_snoc]
      exact hS2
    refine wpAny_pure ⟨plainId_quiet F.plain_set_update_loop _, ih (i + 1) _ (by omega) hlt (W.frame _ s' _ _ hst' (Nat.le_succ _) fun b hb o e => ?_) hS3 fun s'' hm'' hS'' => ?_⟩
    · rw [hsb.2 b (fun h : b = S => hSf (by rw [← h]; exact hb))]
      exact e
    · refine hR s'' (Moved.trans W.gtrans ((hm.mono more).then_heap (Nat.le_succ _) fun b o hb e => ?_) hm'') hS''
      rw [hsb.2 b (fun h : b = S => hb (by rw [h]; exact List.mem_cons_self))]
      exact e
/-- the set as it is laid: empty -/
abbrev emptyTx (w : World) : Obj := { cls := .type "set", dict := none, data := .set #[] 0 (.fresh 0 0 (!w.params.followText "set-order")) }
set_option maxRecDepth 100000 in
set_option maxHeartbeats 3200000 in
theorem call_set_texts {l : Addr} {items : Array Value} (ns : List Str) {Q : Value → Shared → Prop} (hh : A.handled = none) (hl : s.heap.IsList l items) (hit : StrsAre items.toList ns) (hb : ns.length + 1 < scanBound)
    (h : ∀ (h' : Heap) (tk : Nat), TSet P w h' s.heap.objs.size (met [] ns) → (∀ b o, s.heap.get? b = some o → h'.get? b = some o) → Q (.ref s.heap.objs.size) { s with heap := h', toks := tk }) : wpAny (model P w) A (call (.type "set") [.ref l]) Q E s := by
  have hisz : items.size = ns.length := by
    have q := StrsAre.length hit
    rw [Array.length_toList] at q
    exact q
  obtain ⟨c, tl, hmro⟩ := F.called_set.mro
  have hmade := F.called_set.made
  have hsub := F.called_set.sub
  refine wpAny_call (codeAny_of_tree ?_)
  show wpAny _ _ (callAny (.type "set") _) _ _ _
  refine wpAny_pure ⟨Code.quiet_builtin _ (by decide +kernel), codeAny_builtin F.entry_type_call ?_⟩
  rw [Around.under_plain (weight_type_call_type "set" [.ref l] []) rfl]
  have h1 := F.called_set.notType
  have h2 := F.called_set.canCreate
  have hct := F.typeCall_set_1 (.ref l)
  repeat (any_goals (first | assumption | wp_step))
  refine codeAny_mono (code_set_led1 (.ref l) (E := E) (Q₁ := fun obj s₁ => obj = .ref s.heap.objs.size ∧ s₁ = { s with heap := s.heap.push (emptyTx w) }) ⟨rfl, rfl⟩) fun r s₁ hr => ?_
  cases r with
  | error e => exact hr
  | ok fl =>
    cases fl with
    | ret obj =>
      obtain ⟨rfl, rfl⟩ := hr
      have hS : (s.heap.push (emptyTx w)).get? s.heap.objs.size = some (emptyTx w) := Heap.get?_push_size _ rfl
      have hT : Shared.TypeIs { s with heap := s.heap.push (emptyTx w) } (.ref s.heap.objs.size) "set" := ⟨_, hS, rfl⟩
      have hli := F.called_set.init.lookup
      have hbi := F.called_set.init.bind (.ref s.heap.objs.size)
      repeat (any_goals (first | assumption | wp_step))
      refine codeAny_mono (codeAny_call_builtin (R := wants (fun r s₂ => r = .none ∧ ∃ h' tk, s₂ = { s with heap := h', toks := tk } ∧ TSet P w h' s.heap.objs.size (met [] ns) ∧ (∀ b o, s.heap.get? b = some o → h'.get? b = some o)) E)
        F.called_set.init.plain F.entry_set_init (check_set_init_1 hT ?_)) fun r₂ s₂ hr₂ => ?_
      · obtain ⟨ol, hol, hcl, nl, hdl⟩ := hl
        obtain ⟨ocls, odict, odata, oslots⟩ := ol
        simp only at hcl hdl
        subst hcl; subst hdl
        have hol' : (s.heap.push (emptyTx w)).get? l = some { cls := .type "list", dict := odict, data := .seq items nl, slots := oslots } := Heap.get?_push_of_some _ hol
        have hsls := F.sub_list_set
        have hslf := F.sub_list_frozenset
        have hne : (Value.type "list" == Value.type "dict") = false := by decide
        have hl1 : (s.heap.push (emptyTx w)).IsList l items := ⟨_, hol', rfl, nl, rfl⟩
        unfold Builtin.«set.__init__» noKeywords Builtin.Frozenset.updateFrom
        generalize hPI : pyIter = PI
        wp_walk
        subst hPI
        refine wpAny_pyIter_list hl1 ?_
        refine wpAny_bind (wpAny_runValue ?_)
        have hlS : l < s.heap.objs.size := Heap.lt_size hol
        have hh3 : A.in1.in1.in1.handled = none := by simp [hh]
        have hneI : l ≠ (s.heap.push (emptyTx w)).objs.size := by
          rw [Heap.size_push]
          exact Nat.ne_of_lt (Nat.lt_succ_of_lt hlS)
        have hSf : s.heap.objs.size ∉ [(s.heap.push (emptyTx w)).objs.size, l] := by
          rw [Heap.size_push]
          simp only [List.mem_cons, List.mem_singleton, List.not_mem_nil, or_false, not_or]
          exact ⟨Nat.ne_of_lt (Nat.lt_succ_self _), Nat.ne_of_gt hlS⟩
        have hval : ∀ (i : Nat) (v : Value), items[i]? = some v → ∃ k t, ns[i]? = some k ∧ v = .str k t := fun i v hv => by
          obtain ⟨y, t, e1, e2⟩ := StrsAre.item hit i v (by rw [Array.getElem?_toList]; exact hv)
          exact ⟨y, t, e2, e1⟩
        refine set_update_texts ((Walks.list hh3 _ l hneI items).toS) s.heap.objs.size hSf ns hisz hb hval (items.size - 0) 0 _ (by omega) (Nat.zero_le _) ⟨⟨_, Heap.get?_push_size _ rfl, rfl, rfl⟩, (hl1.push _)⟩ ?hS0 ?hR
        case hS0 =>
          exact ts_new (Heap.get?_push_of_some _ hS)
        case hR =>
          intro s' hm hS'
          obtain ⟨h', g2, d', tk', os'⟩ := s'
          have eg : g2 = s.gens := hm.gens
          have ed : d' = s.drawn := hm.drawn
          have eo : os' = s.os := hm.os
          subst eg; subst ed; subst eo
          show wpAny _ _ _ _ _ _
          refine wpAny_pure ?_
          show wpAny _ _ (ret Value.none) _ _ _
          refine wpAny_pure ⟨rfl, h', tk', rfl, hS', fun b o e => ?_⟩
          have hb0 : b < s.heap.objs.size := Heap.lt_size e
          refine hm.heap b o ?_ (Heap.get?_push_of_some _ (Heap.get?_push_of_some _ e))
          simp only [List.mem_cons, List.mem_singleton, List.not_mem_nil, or_false, not_or]
          refine ⟨Nat.ne_of_lt hb0, ?_⟩
          rw [Heap.size_push]
          exact Nat.ne_of_lt (Nat.lt_succ_of_lt hb0)
      · cases r₂ with
        | error e => exact hr₂
        | ok fl₂ =>
          cases fl₂ with
          | ret r =>
            obtain ⟨rfl, h', tk, rfl, hS', hk'⟩ := hr₂
            repeat (any_goals (first | assumption | wp_step))
            exact h _ _ hS' hk'
          | _ => exact hr₂.elim
    | _ => exact hr.elim
theorem small_scan {n : Nat} (h : n ≤ 1000) : n + 1 < scanBound := by
  have : (1002 : Nat) < scanBound := by decide
  omega
/-! ### the rules -/
def TxO (P : Program) (w : World) (a : Addr) (l : List Str) : HO := .ext fun h => TSet P w h a l
theorem txO_new {H : Hp} {h : Heap} {l : List Str} (R : TSet P w h a l) : ObjOk P w H h a (TxO P w a l) := by
  have ⟨D, ho, _⟩ := R
  exact ⟨R, ⟨_, ho⟩, fun h1 h2 p k => TSet.keep p k⟩
section
variable {X : Cx}
/-- set(xs), xs a list of texts -/
def rSetTx (K : PySem.W.Frag) (P : Program) (w : World) : List V → Hp → VK → Prop := fun xs H Q => ∃ (p : Addr) (ns : List Str), xs = [V.ref p] ∧ SqL K H p (ns.map V.str) ∧ ns.length ≤ 1000 ∧ ∀ q, H q = none → Q (.ref q) (upd H q (TxO P w q (met [] ns)))
theorem cr_setTx (hc : X.calm = true) : CallR X (.type "set") (rSetTx X.K X.prog X.w) := by
  intro pins s σ H xs us Q I r h
  obtain ⟨p, ns, rfl, hs, hn, q⟩ := h
  rw [Vals.ref1 r]
  obtain ⟨its, rv, ⟨o, n, ho, h1, h2, h3⟩, hz⟩ := I.list hs
  have sa : StrsAre its ns := strs_of_vals rv
  refine call_set_texts ns (I.ok.hd hc) (items := its.toArray) ⟨o, ho, h1, n, h3⟩ (by simpa using sa) (small_scan hn) fun h' tk hT hk => ?_
  exact ⟨.ref _, upd H s.heap.objs.size (TxO X.prog X.w s.heap.objs.size (met [] ns)), I.laid (t' := tk) hk (Nat.le_refl _) (txO_new hT), rfl, q _ (I.hok.fresh (Nat.le_refl _))⟩
theorem perm_of_sub {α : Type} : ∀ {l m : List α}, l.Nodup → (∀ x ∈ l, x ∈ m) → m.length = l.length → m.Perm l
  | [], m, _, _, h => by rw [List.eq_nil_of_length_eq_zero h]
  | x :: r, m, nd, sub, h => by
    obtain ⟨a, b, e⟩ := List.append_of_mem (sub x (by simp))
    have nd' := List.nodup_cons.mp nd
    subst e
    refine List.perm_middle.trans (List.Perm.cons x (perm_of_sub nd'.2 (fun y hy => ?_) ?_))
    · have := sub y (List.mem_cons_of_mem _ hy)
      rw [List.mem_append, List.mem_cons] at this
      rw [List.mem_append]
      rcases this with z | z | z
      · exact .inl z
      · subst z; exact absurd hy nd'.1
      · exact .inr z
    · simp only [List.length_append, List.length_cons] at h ⊢
      omega
/-- the texts that a set gives, in its own order -/
theorem texts_of {D : SD} {l : List Str} (F : TxOk P w D l) (nd : l.Nodup) {vs : List Value} (pm : vs.Perm (D.1.toList.map (·.2))) : ∃ ks, StrsAre vs ks ∧ ks.Perm l := by
  have each : ∀ v ∈ vs, ∃ (x : Str) (t : Tok), v = .str x t := fun v hv => by
    obtain ⟨e, he, q⟩ := List.mem_map.mp (pm.mem_iff.mp hv)
    obtain ⟨⟨k, hk, _⟩, _⟩ := F.el e he
    obtain ⟨t, ev⟩ := Value.isStrOf_shape (x := k) (v := e.2) hk
    exact ⟨k, t, by rw [← q]; exact ev⟩
  have ex : ∀ vs : List Value, (∀ v ∈ vs, ∃ (x : Str) (t : Tok), v = .str x t) → ∃ ks : List Str, StrsAre vs ks ∧ ks.length = vs.length ∧ ∀ x, x ∈ ks ↔ ∃ t, Value.str x t ∈ vs := by
    intro vs
    induction vs with
    | nil => exact fun _ => ⟨[], .nil, rfl, fun x => by simp⟩
    | cons v r ih =>
      intro hv
      obtain ⟨x, t, e⟩ := hv v (by simp)
      obtain ⟨ks, h1, h2, h3⟩ := ih fun u hu => hv u (List.mem_cons_of_mem _ hu)
      subst e
      refine ⟨x :: ks, .cons _ _ h1, by simp [h2], fun y => ?_⟩
      rw [List.mem_cons, h3]
      constructor
      · rintro (rfl | ⟨u, hu⟩)
        · exact ⟨t, by simp⟩
        · exact ⟨u, List.mem_cons_of_mem _ hu⟩
      · rintro ⟨u, hu⟩
        rcases List.mem_cons.mp hu with z | z
        · cases z; exact .inl rfl
        · exact .inr ⟨u, z⟩
  obtain ⟨ks, h1, h2, h3⟩ := ex vs each
  refine ⟨ks, h1, perm_of_sub nd (fun x hx => ?_) ?_⟩
  · obtain ⟨e, he, z⟩ := (F.mem x).mp hx
    obtain ⟨t, ev⟩ := Value.isStrOf_shape (x := x) (v := e.2) z
    exact (h3 x).mpr ⟨t, pm.mem_iff.mpr (by rw [← ev]; exact List.mem_map.mpr ⟨e, he, rfl⟩)⟩
  · rw [h2, pm.length_eq, List.length_map, Array.length_toList, F.sz]
/-- sorted(s), s a set of fewer than 64 texts -/
def rSortedTx (P : Program) (w : World) : List V → Hp → VK → Prop := fun vs H Q => ∃ (a : Addr) (l : List Str), vs = [V.ref a] ∧ H a = some (TxO P w a l) ∧ l.length < 64 ∧ ∀ ys p, ys.Perm l → sortedS ys = true → H p = none → Q (.ref p) (upd H p (.lst (ys.map V.str)))
theorem cr_sortedTx (hc : X.calm = true) : CallR X (.builtin "sorted") (rSortedTx X.prog X.w) := by
  intro pins s σ H vs us Q I r h
  obtain ⟨a, l, rfl, ha, h64, q⟩ := h
  obtain ⟨D, ho, F, nd, rs, hl⟩ : TSet X.prog X.w s.heap a l := (I.hok a _ ha).1
  rw [Vals.ref1 r]
  refine Calls.call_function_entry PyProof.Rows.kind_sorted PyProof.Rows.plain_sorted PyProof.Rows.entry_sorted (PyProof.Rows.args_sorted1 _) ?_
  unfold Builtin.«sorted»
  refine wpAny_bind (m := checkCount "sorted" 1 1 _) (wpAny_pure ?_)
  have hsz : D.1.size = l.length := F.sz
  refine wpAny_bind (collect_set (A := X.A.in1) (es := D.1) (ep := D.2.1) (t := D.2.2) (I.ok.hd hc) ⟨_, ho, rfl, rfl⟩ F.fit (by have := small_scan (n := D.1.size) (by omega); omega) rs hl fun s1 vs k1 hz g1 o1 pm => ?_)
  obtain ⟨ks, hS, pk⟩ := texts_of F nd pm
  have hvl : vs.length = l.length := by rw [pm.length_eq, List.length_map, Array.length_toList, hsz]
  refine wpAny_bind (wpAny_newList ?_ (by rw [hvl, sizeLine_eq]; omega))
  have hoL : (s1.heap.push (seqObj "list" vs.toArray 0)).get? s1.heap.objs.size = some (seqObj "list" vs.toArray 0) := Heap.get?_push_size _ rfl
  refine wpAny_bind (wpAny_holding (wpAny_call_entry PyProof.Rows.slot_list_sort ⟨_, hoL, rfl⟩ PyProof.Rows.entry_list_sort
    (list_sort_treeK strKind_oneLt (s := { s1 with heap := s1.heap.push (seqObj "list" vs.toArray 0) }) hoL hS.keysOf (fun v₁ v₂ rest e => keyKind_strs (by rw [← e]; exact hS)) (by rw [hvl]; exact h64) fun st' hp hs => ⟨_, rfl, ?_⟩) (PyProof.Rows.args_list_sort _)))
  obtain ⟨ys, y1, y2, y3⟩ := sorted_out_str hS hp hs
  obtain ⟨e', he'⟩ := PyProof.Rows.sortedHeap_at (vs := vs) (out := (arrOf st').map (·.2)) hoL
  have yl : ys.Perm l := y2.trans pk
  have hlen : (ys.map V.str).length ≤ sizeLine := by
    rw [List.length_map, yl.length_eq, sizeLine_eq]
    omega
  have hn : H s1.heap.objs.size = none := I.hok.fresh hz
  have kk : ∀ b u, s.heap.get? b = some u → (sortedHeap (s1.heap.push (seqObj "list" vs.toArray 0)) s1.heap.objs.size vs ((arrOf st').map (·.2))).get? b = some u := fun b u e => by
    have e1 := k1 b u e
    have hb := Heap.lt_size e1
    rw [PyProof.Rows.sortedHeap_old (Nat.ne_of_lt hb) (by rw [size_push']; exact Nat.lt_succ_of_lt hb)]
    exact Heap.get?_push_of_some _ e1
  have J : Inv X pins σ (upd H s1.heap.objs.size (.lst (ys.map V.str))) { s with heap := sortedHeap (s1.heap.push (seqObj "list" vs.toArray 0)) s1.heap.objs.size vs ((arrOf st').map (·.2)), gens := s1.gens, drawn := s1.drawn, toks := s1.toks } :=
    I.call (ch := []) (Un.laid kk hz hn) (I.hok.laid kk hz ⟨hlen, ((arrOf st').map (·.2)).toList, e', vals_of_strs y1, by rw [Array.toArray_toList]; exact he'⟩) (by rw [g1]; exact I.bare) (fun _ z => nomatch z)
  refine wpAny_pure ⟨_, rfl, .ref s1.heap.objs.size, _, ?_, rfl, q ys _ yl y3 hn⟩
  have e : ({ s1 with heap := sortedHeap (s1.heap.push (seqObj "list" vs.toArray 0)) s1.heap.objs.size vs ((arrOf st').map (·.2)) } : Shared) = { s with heap := sortedHeap (s1.heap.push (seqObj "list" vs.toArray 0)) s1.heap.objs.size vs ((arrOf st').map (·.2)), gens := s1.gens, drawn := s1.drawn, toks := s1.toks } := by
    obtain ⟨a1, a2, a3, a4, a5⟩ := s1
    obtain ⟨b1, b2, b3, b4, b5⟩ := s
    have o1 : a5 = b5 := o1
    subst o1
    rfl
  exact e ▸ J
end
end FA

set_option Elab.async false
set_option linter.all false
set_option maxRecDepth 100000
set_option maxHeartbeats 4000000
/-! Products as data, as the program makes them; how they lie in the heap. -/
namespace FA
open PySem PySem.Spec PyProof.Rows L2
/-! ### ascending texts: one order only -/
def leS (a b : Str) : Prop := a.cps.toList ≤ b.cps.toList
theorem leS_of {p x : Str} (h : (!ltCps x.cps.toList p.cps.toList) = true) : leS p x := by
  rw [ltCps_eq] at h
  unfold leS
  have : ¬ x.cps.toList < p.cps.toList := by simpa using h
  exact List.not_lt.mp this
theorem leS_trans {a b c : Str} (h : leS a b) (k : leS b c) : leS a c := List.le_trans h k
theorem leS_anti {a b : Str} (h : leS a b) (k : leS b a) : a = b := by
  have e : a.cps.toList = b.cps.toList := List.le_antisymm h k
  cases a
  cases b
  congr 1
  exact Array.toList_inj.mp e
theorem rising_pw : ∀ (p : Str) (l : List Str), risingS p l = true → (p :: l).Pairwise leS
  | p, [], _ => by simp
  | p, x :: r, h => by
    have h : (!ltCps x.cps.toList p.cps.toList && risingS x r) = true := h
    rw [Bool.and_eq_true] at h
    have ih := rising_pw x r h.2
    have px := leS_of h.1
    refine List.pairwise_cons.mpr ⟨fun y hy => ?_, ih⟩
    rcases List.mem_cons.mp hy with rfl | hy
    · exact px
    · exact leS_trans px ((List.pairwise_cons.mp ih).1 y hy)
theorem sorted_pw : ∀ {l : List Str}, sortedS l = true → l.Pairwise leS
  | [], _ => .nil
  | x :: r, h => rising_pw x r h
theorem sorted_one {a b : List Str} (ha : sortedS a = true) (hb : sortedS b = true) (p : a.Perm b) : a = b :=
  List.Perm.eq_of_pairwise (fun x y _ _ h k => leS_anti h k) (sorted_pw ha) (sorted_pw hb) p
theorem nd_le : ∀ {a b : List Str}, a.Nodup → (∀ x ∈ a, x ∈ b) → a.length ≤ b.length
  | [], b, _, _ => by simp
  | x :: r, b, nd, s => by
    obtain ⟨u, v, e⟩ := List.append_of_mem (s x (by simp))
    have nd' := List.nodup_cons.mp nd
    subst e
    have := nd_le (a := r) (b := u ++ v) nd'.2 fun y hy => by
      have := s y (List.mem_cons_of_mem _ hy)
      rw [List.mem_append, List.mem_cons] at this
      rw [List.mem_append]
      rcases this with z | z | z
      · exact .inl z
      · subst z; exact absurd hy nd'.1
      · exact .inr z
    simp only [List.length_append, List.length_cons] at this ⊢
    omega
/-- two lists without doubles and with the same texts -/
theorem perm_same {a b : List Str} (ha : a.Nodup) (hb : b.Nodup) (h : ∀ x, x ∈ a ↔ x ∈ b) : a.Perm b := by
  have l1 := nd_le ha fun x hx => (h x).mp hx
  have l2 := nd_le hb fun x hx => (h x).mpr hx
  exact perm_of_sub hb (fun x hx => (h x).mpr hx) (by omega)
theorem met_nd : ∀ (ns acc : List Str), acc.Nodup → (met acc ns).Nodup
  | [], acc, h => h
  | x :: r, acc, h => by
    rw [met]
    by_cases hx : x ∈ acc
    · rw [if_pos hx]; exact met_nd r acc h
    · rw [if_neg hx]; exact met_nd r _ (List.nodup_cons.mpr ⟨hx, h⟩)
/-- ys tells the texts of the list, ascending, each once -/
structure Tells (ys l : List Str) : Prop where
  nd : ys.Nodup
  so : sortedS ys = true
  mem : ∀ x, x ∈ ys ↔ x ∈ l
theorem Tells.one {a b l m : List Str} (ha : Tells a l) (hb : Tells b m) (h : ∀ x, x ∈ l ↔ x ∈ m) : a = b :=
  sorted_one ha.so hb.so (perm_same ha.nd hb.nd fun x => (ha.mem x).trans ((h x).trans (hb.mem x).symm))
theorem tells_met {ys ns : List Str} (p : ys.Perm (met [] ns)) (s : sortedS ys = true) : Tells ys ns :=
  ⟨p.symm.nodup (met_nd ns [] List.nodup_nil), s, fun x => by rw [p.mem_iff, met_mem]; simp⟩
open Classical in
/-- the texts of a list, ascending, each once -/
noncomputable def asc (l : List Str) : List Str := if h : ∃ ys, Tells ys l then Classical.choose h else []
theorem asc_of {ys l : List Str} (h : Tells ys l) : asc l = ys := by
  unfold asc
  have e : ∃ ys, Tells ys l := ⟨ys, h⟩
  rw [dif_pos e]
  exact (Classical.choose_spec e).one h fun _ => Iff.rfl
/-! ### atoms and products -/
inductive Atm where
  | n (x : Str)
  | t (xs : List Str)
deriving DecidableEq
abbrev Prd := List Atm
def Atm.nms : Atm → List Str
  | .n x => [x]
  | .t xs => xs
/-- an atom has only words of another one -/
def isW (a o : Atm) : Bool := match o with
  | .n y => decide (a = .n y)
  | .t ys => a.nms.all fun x => decide (x ∈ ys)
/-- what is left of a product when the atoms of another one take away what they can -/
def eat : Prd → Prd → Prd
  | p, [] => p
  | p, .n y :: q => eat (match p with | a :: r => if isW a (.n y) then r else p | [] => []) q
  | p, .t ys :: q => eat (p.dropWhile fun a => isW a (.t ys)) q
def within (p q : Prd) : Bool := (eat p q).isEmpty
def prdIn (ps : List Prd) (p : Prd) : Bool := ps.any fun q => within p q
def atomText : Atm → Str
  | .n x => x
  | .t xs => "{" ++ Txt.join " " xs ++ "}"
def prdText (p : Prd) : Str := if p.isEmpty then "." else Txt.join " " (p.map atomText)
/-- the atoms that are kept, the last one first -/
def popI (a : Atm) (kept : List Atm) : List Atm := match a with
  | .n _ => kept
  | .t _ => kept.dropWhile fun b => isW b a
def putI (a : Atm) (k : List Atm) : List Atm := match k with
  | .t ys :: k' => if isW a (.t ys) then .t ys :: k' else a :: .t ys :: k'
  | k => a :: k
def idleR : List Atm → Prd → List Atm
  | kept, [] => kept
  | kept, a :: r => idleR (putI a (popI a kept)) r
def idle (p : Prd) : Prd := (idleR [] p).reverse
/-- the last of the products with a text -/
def byText (ss : List Prd) (x : Str) : Prd := (ss.reverse.find? fun p => decide (prdText p = x)).getD []
noncomputable def normal (raw : List Prd) : List Prd :=
  let ss := raw.map idle
  let ts := asc (ss.map prdText)
  (ts.filter fun x => !(ts.any fun y => !decide (y = x) && within (byText ss x) (byText ss y))).map (byText ss)
def cross (a b : List Prd) : List Prd := a.flatMap fun p => b.map fun q => p ++ q
mutual
noncomputable def rawI : It → List Prd
  | .call x => [[.n x]]
  | .may b => rawB b [[]]
  | .loop b => [[.t (asc (nmB b))]]
  | .one bs => rawBs bs
noncomputable def rawB : List It → List Prd → List Prd
  | [] => fun acc => acc
  | i :: r => fun acc => rawB r (cross acc (rawI i))
noncomputable def rawBs : List (List It) → List Prd
  | [] => []
  | b :: r => rawB b [[]] ++ rawBs r
end
/-- the normal form of the products of a body -/
noncomputable def NP (l : List It) : List Prd := normal (rawB l [[]])
/-- a name can stand once, but not twice, somewhere in products -/
def Sing (ps : List Prd) (x : Str) : Prop := ∃ p ∈ ps, ∃ k, p[k]? = some (.n x) ∧ prdIn ps (p.take k ++ [.n x] ++ p.drop k) = false
/-! ### how many, how long -/
theorem cross_len (a b : List Prd) : (cross a b).length = a.length * b.length := by
  unfold cross
  induction a with
  | nil => simp
  | cons x r ih => rw [List.flatMap_cons, List.length_append, ih, List.length_map, List.length_cons, Nat.succ_mul, Nat.add_comm]
theorem mem_cross {a b : List Prd} {p : Prd} : p ∈ cross a b ↔ ∃ x ∈ a, ∃ y ∈ b, p = x ++ y := by
  simp only [cross, List.mem_flatMap, List.mem_map]
  exact ⟨fun ⟨x, hx, y, hy, e⟩ => ⟨x, hx, y, hy, e.symm⟩, fun ⟨x, hx, y, hy, e⟩ => ⟨x, hx, y, hy, e.symm⟩⟩
theorem two_pow_add {m n : Nat} (hm : 1 ≤ m) (hn : 1 ≤ n) : 2 ^ m + 2 ^ n ≤ 2 ^ (m + n) := by
  obtain ⟨a, rfl⟩ : ∃ a, m = a + 1 := ⟨m - 1, by omega⟩
  obtain ⟨b, rfl⟩ : ∃ b, n = b + 1 := ⟨n - 1, by omega⟩
  have ha : 1 ≤ 2 ^ a := Nat.one_le_two_pow
  have hb : 1 ≤ 2 ^ b := Nat.one_le_two_pow
  have e : 2 ^ (a + 1 + (b + 1)) = 4 * (2 ^ a * 2 ^ b) := by
    rw [show a + 1 + (b + 1) = a + b + 2 by omega, Nat.pow_add, Nat.pow_add]
    omega
  rw [e, Nat.pow_succ, Nat.pow_succ]
  have h1 : 2 ^ a ≤ 2 ^ a * 2 ^ b := Nat.le_mul_of_pos_right _ (by omega)
  have h2 : 2 ^ b ≤ 2 ^ a * 2 ^ b := Nat.le_mul_of_pos_left _ (by omega)
  omega
theorem nIB_pos {b : List It} (h : b ≠ []) : 1 ≤ nIB b := by
  cases b with
  | nil => exact absurd rfl h
  | cons i r => simp only [nIB]; omega
mutual
theorem rawI_len {ns : List Str} : ∀ i : It, okI ns i → (rawI i).length ≤ 2 ^ (nI i + 1)
  | .call x, _ => by simp [rawI, nI]
  | .may b, h => by
    simp only [okI] at h
    simp only [rawI, nI]
    have := rawB_len b [[]] h.2
    rw [List.length_singleton, Nat.one_mul] at this
    rw [Nat.pow_succ]
    omega
  | .loop b, h => by
    simp only [rawI, List.length_singleton]
    exact Nat.one_le_two_pow
  | .one bs, h => by
    simp only [okI] at h
    simp only [rawI, nI]
    have := (rawBs_len bs h.2.2.2).1
    have : 1 ≤ 2 ^ nIBs bs := Nat.one_le_two_pow
    rw [Nat.pow_succ]
    omega
theorem rawB_len {ns : List Str} : ∀ (l : List It) (acc : List Prd), okB ns l → (rawB l acc).length ≤ acc.length * 2 ^ nIB l
  | [], acc, _ => by simp [rawB, nIB]
  | i :: r, acc, h => by
    simp only [okB] at h
    simp only [rawB, nIB]
    have h1 := rawI_len i h.1
    have h2 := rawB_len r (cross acc (rawI i)) h.2
    rw [cross_len] at h2
    refine Nat.le_trans h2 ?_
    rw [Nat.add_comm 1 (nI i), Nat.pow_add, ← Nat.mul_assoc]
    exact Nat.mul_le_mul_right _ (Nat.mul_le_mul_left _ h1)
theorem rawBs_len {ns : List Str} : ∀ (bs : List (List It)), okBs ns bs → (rawBs bs).length ≤ 2 ^ nIBs bs + bs.countP (fun b => b.isEmpty) ∧ (nIBs bs = 0 → (rawBs bs).length ≤ bs.countP (fun b => b.isEmpty))
  | [], _ => by simp [rawBs]
  | b :: r, h => by
    simp only [okBs] at h
    have h1 := rawB_len b [[]] h.1
    have ih := rawBs_len r h.2
    rw [List.length_singleton, Nat.one_mul] at h1
    simp only [rawBs, nIBs, List.length_append, List.countP_cons]
    by_cases e : b = []
    · subst e
      simp only [rawB, List.length_singleton, nIB, List.isEmpty_nil, if_true, Nat.zero_add]
      exact ⟨by have := ih.1; omega, fun z => by have := ih.2 z; omega⟩
    · have e2 : b.isEmpty = false := by cases b with | nil => exact absurd rfl e | cons _ _ => rfl
      have np := nIB_pos e
      simp only [e2, Bool.false_eq_true, if_false, Nat.add_zero]
      refine ⟨?_, fun z => by omega⟩
      by_cases z : nIBs r = 0
      · have := ih.2 z
        rw [z, Nat.add_zero]
        omega
      · have h3 := two_pow_add np (by omega : 1 ≤ nIBs r)
        have := ih.1
        omega
end
mutual
theorem nC_pos {ns : List Str} : ∀ i : It, okI ns i → 1 ≤ nC i
  | .call x, _ => by simp [nC]
  | .may b, h => by simp only [okI] at h; simp only [nC]; exact nCB_pos b h.2 h.1
  | .loop b, h => by simp only [okI] at h; simp only [nC]; exact nCB_pos b h.2 h.1
  | .one bs, h => by
    simp only [okI] at h
    simp only [nC]
    exact nCBs_pos bs h.2.2.2 (by omega)
theorem nCB_pos {ns : List Str} : ∀ l : List It, okB ns l → l ≠ [] → 1 ≤ nCB l
  | [], _, h => absurd rfl h
  | i :: r, h, _ => by
    simp only [okB] at h
    simp only [nCB]
    have := nC_pos i h.1
    omega
theorem nCBs_pos {ns : List Str} : ∀ bs : List (List It), okBs ns bs → bs.countP (fun b => b.isEmpty) < bs.length → 1 ≤ nCBs bs
  | [], _, h => by simp at h
  | b :: r, h, k => by
    simp only [okBs] at h
    simp only [nCBs]
    by_cases e : b = []
    · subst e
      have := nCBs_pos r h.2 (by simp only [List.countP_cons, List.length_cons, List.isEmpty_nil, if_true] at k; omega)
      omega
    · have := nCB_pos b h.1 e
      omega
end
/-- a list that holds all products but the empty one -/
def Cov (ps : List Prd) (c : Nat) : Prop := ∃ D : List Prd, D.length + 1 ≤ 2 ^ c ∧ ∀ p ∈ ps, p = [] ∨ p ∈ D
theorem cov_app {a b : List Prd} {m n : Nat} (ha : Cov a m) (hb : Cov b n) : Cov (a ++ b) (m + n) := by
  obtain ⟨D, d1, d2⟩ := ha
  obtain ⟨E, e1, e2⟩ := hb
  refine ⟨D ++ E, ?_, fun p hp => ?_⟩
  · rw [List.length_append, Nat.pow_add]
    have := Nat.mul_le_mul d1 e1
    rw [Nat.add_mul, Nat.mul_add] at this
    omega
  · rcases List.mem_append.mp hp with h | h
    · exact (d2 p h).imp id fun h => List.mem_append_left _ h
    · exact (e2 p h).imp id fun h => List.mem_append_right _ h
theorem cov_cross {a b : List Prd} {m n : Nat} (ha : Cov a m) (hb : Cov b n) : Cov (cross a b) (m + n) := by
  obtain ⟨D, d1, d2⟩ := ha
  obtain ⟨E, e1, e2⟩ := hb
  refine ⟨D ++ E ++ cross D E, ?_, fun p hp => ?_⟩
  · rw [List.length_append, List.length_append, cross_len, Nat.pow_add]
    have := Nat.mul_le_mul d1 e1
    rw [Nat.add_mul, Nat.mul_add] at this
    omega
  · obtain ⟨x, hx, y, hy, rfl⟩ := mem_cross.mp hp
    rcases d2 x hx with rfl | hx
    · rcases e2 y hy with rfl | hy
      · exact .inl rfl
      · exact .inr (by simp [hy])
    · rcases e2 y hy with rfl | hy
      · exact .inr (by simp [hx])
      · exact .inr (List.mem_append_right _ (mem_cross.mpr ⟨x, hx, y, hy, rfl⟩))
mutual
theorem covI {ns : List Str} : ∀ i : It, okI ns i → Cov (rawI i) (nC i)
  | .call x, _ => ⟨[[.n x]], by simp [nC], fun p hp => .inr (by simpa [rawI] using hp)⟩
  | .may b, h => by
    simp only [okI] at h
    simp only [rawI, nC]
    have := covB b [[]] 0 h.2 ⟨[], by simp, by simp⟩
    rwa [Nat.zero_add] at this
  | .loop b, h => by
    simp only [okI] at h
    simp only [rawI, nC]
    refine ⟨[[.t (asc (nmB b))]], ?_, fun p hp => .inr hp⟩
    have := nCB_pos b h.2 h.1
    have : 2 ^ 1 ≤ 2 ^ nCB b := Nat.pow_le_pow_right (by decide) this
    simpa using this
  | .one bs, h => by
    simp only [okI] at h
    simp only [rawI, nC]
    exact covBs bs h.2.2.2
theorem covB {ns : List Str} : ∀ (l : List It) (acc : List Prd) (m : Nat), okB ns l → Cov acc m → Cov (rawB l acc) (m + nCB l)
  | [], acc, m, _, k => by simpa [rawB, nCB] using k
  | i :: r, acc, m, h, k => by
    simp only [okB] at h
    simp only [rawB, nCB]
    have := covB r _ (m + nC i) h.2 (cov_cross k (covI i h.1))
    rwa [Nat.add_assoc] at this
theorem covBs {ns : List Str} : ∀ (bs : List (List It)), okBs ns bs → Cov (rawBs bs) (nCBs bs)
  | [], _ => ⟨[], by simp [nCBs], by simp [rawBs]⟩
  | b :: r, h => by
    simp only [okBs] at h
    simp only [rawBs, nCBs]
    have h1 := covB b [[]] 0 h.1 ⟨[], by simp, by simp⟩
    rw [Nat.zero_add] at h1
    exact cov_app h1 (covBs r h.2)
end
/-- different texts of products are few -/
theorem cov_few {ps : List Prd} {c : Nat} (h : Cov ps c) {ts : List Str} (nd : ts.Nodup) {f : Prd → Str} (ht : ∀ x ∈ ts, ∃ p ∈ ps, x = f p) : ts.length ≤ 2 ^ c := by
  obtain ⟨D, d1, d2⟩ := h
  have := nd_le (b := f [] :: D.map f) nd fun x hx => by
    obtain ⟨p, hp, rfl⟩ := ht x hx
    rcases d2 p hp with rfl | hp
    · simp
    · exact List.mem_cons_of_mem _ (List.mem_map.mpr ⟨p, hp, rfl⟩)
  rw [List.length_cons, List.length_map] at this
  omega
/-- an atom of a body: its names are few, names of the program -/
def okAtm (ns : List Str) (a : Atm) : Prop := (∀ x ∈ a.nms, x ∈ ns) ∧ a.nms.length ≤ 5 ∧ 1 ≤ a.nms.length
def okPrd (ns : List Str) (m : Nat) (p : Prd) : Prop := p.length ≤ m ∧ ∀ a ∈ p, okAtm ns a
theorem okPrd.mono {ns : List Str} {m n : Nat} {p : Prd} (h : okPrd ns m p) (e : m ≤ n) : okPrd ns n p := ⟨Nat.le_trans h.1 e, h.2⟩
theorem okPrd.app {ns : List Str} {m n : Nat} {p q : Prd} (h : okPrd ns m p) (k : okPrd ns n q) : okPrd ns (m + n) (p ++ q) :=
  ⟨by rw [List.length_append]; have := h.1; have := k.1; omega, fun a ha => (List.mem_append.mp ha).elim (h.2 a) (k.2 a)⟩
theorem ltCps_iff {a b : Str} : ltCps a.cps.toList b.cps.toList = true ↔ ¬ leS b a := by
  rw [ltCps_eq]
  unfold leS
  rw [List.not_le]
  simp
theorem leS_total (a b : Str) : leS a b ∨ leS b a := List.le_total _ _
theorem pw_rising : ∀ (p : Str) (l : List Str), (p :: l).Pairwise leS → risingS p l = true
  | p, [], _ => rfl
  | p, x :: r, h => by
    obtain ⟨h1, h2⟩ := List.pairwise_cons.mp h
    show (!ltCps x.cps.toList p.cps.toList && risingS x r) = true
    rw [pw_rising x r h2, Bool.and_true]
    cases e : ltCps x.cps.toList p.cps.toList with
    | false => rfl
    | true => exact absurd (h1 x (by simp)) (ltCps_iff.mp e)
theorem pw_sorted : ∀ {l : List Str}, l.Pairwise leS → sortedS l = true
  | [], _ => rfl
  | x :: r, h => pw_rising x r h
open Classical in
/-- for each list of texts there is the ascending one -/
theorem asc_ex : ∀ l : List Str, ∃ ys, Tells ys l
  | [] => ⟨[], List.nodup_nil, rfl, fun x => Iff.rfl⟩
  | x :: r => by
    obtain ⟨ys, nd, so, mem⟩ := asc_ex r
    by_cases hx : x ∈ ys
    · exact ⟨ys, nd, so, fun y => by
        rw [mem, List.mem_cons]
        exact ⟨.inr, fun h => h.elim (fun e => by rw [e]; exact (mem x).mp hx) id⟩⟩
    · have pw := sorted_pw so
      refine ⟨ys.filter (fun y => decide (leS y x)) ++ x :: ys.filter (fun y => decide (¬ leS y x)), ?_, pw_sorted ?_, fun y => ?_⟩
      · rw [List.nodup_append, List.nodup_cons]
        refine ⟨nd.filter _, ⟨fun h => hx (List.mem_filter.mp h).1, nd.filter _⟩, fun a ha b hb e => ?_⟩
        subst e
        obtain ⟨a1, a2⟩ := List.mem_filter.mp ha
        rcases List.mem_cons.mp hb with rfl | hb
        · exact hx a1
        · exact of_decide_eq_true (List.mem_filter.mp hb).2 (of_decide_eq_true a2)
      · rw [List.pairwise_append, List.pairwise_cons]
        refine ⟨pw.filter _, ⟨fun b hb => (leS_total b x).resolve_left (of_decide_eq_true (List.mem_filter.mp hb).2), pw.filter _⟩, fun a ha b hb => ?_⟩
        have a2 := of_decide_eq_true (List.mem_filter.mp ha).2
        rcases List.mem_cons.mp hb with rfl | hb
        · exact a2
        · exact leS_trans a2 ((leS_total b x).resolve_left (of_decide_eq_true (List.mem_filter.mp hb).2))
      · rw [List.mem_append, List.mem_cons, List.mem_filter, List.mem_filter, List.mem_cons, ← mem]
        by_cases z : leS y x
        · simp [z]; constructor
          · rintro (h | h)
            · exact .inr h
            · exact .inl h
          · rintro (h | h)
            · exact .inr h
            · exact .inl h
        · simp [z]
theorem asc_tells (l : List Str) : Tells (asc l) l := by
  obtain ⟨ys, h⟩ := asc_ex l
  rw [asc_of h]
  exact h
theorem asc_congr {l m : List Str} (h : ∀ x, x ∈ l ↔ x ∈ m) : asc l = asc m := (asc_tells l).one (asc_tells m) h
theorem asc_len (l : List Str) : (asc l).length ≤ l.length := nd_le (asc_tells l).nd fun x hx => ((asc_tells l).mem x).mp hx
theorem okPrd.nil {ns : List Str} {m : Nat} : okPrd ns m [] := ⟨Nat.zero_le _, fun a h => by cases h⟩
theorem cross_ok {ns : List Str} {a b : List Prd} {m n : Nat} (ha : ∀ p ∈ a, okPrd ns m p) (hb : ∀ p ∈ b, okPrd ns n p) : ∀ p ∈ cross a b, okPrd ns (m + n) p := fun p hp => by
  obtain ⟨x, hx, y, hy, rfl⟩ := mem_cross.mp hp
  exact (ha x hx).app (hb y hy)
mutual
theorem rawI_ok {ns : List Str} : ∀ i : It, okI ns i → nC i ≤ 5 → ∀ p ∈ rawI i, okPrd ns (nC i) p
  | .call x, h, _, p, hp => by
    simp only [okI] at h
    simp only [rawI, List.mem_singleton] at hp
    subst hp
    exact ⟨by simp [nC], fun a ha => by rw [List.mem_singleton.mp ha]; exact ⟨fun y hy => by rw [List.mem_singleton.mp hy]; exact h, by simp [Atm.nms], by simp [Atm.nms]⟩⟩
  | .may b, h, c, p, hp => by
    simp only [okI] at h
    simp only [rawI] at hp
    simp only [nC] at c ⊢
    have := rawB_ok b [[]] 0 h.2 c (fun p hp => by rw [List.mem_singleton.mp hp]; exact .nil) p hp
    rwa [Nat.zero_add] at this
  | .loop b, h, c, p, hp => by
    simp only [okI] at h
    simp only [rawI, List.mem_singleton] at hp
    simp only [nC] at c ⊢
    subst hp
    have np := nCB_pos b h.2 h.1
    have tl := asc_tells (nmB b)
    have al := asc_len (nmB b)
    have nl := nmB_len b
    refine ⟨by simpa using np, fun a ha => ?_⟩
    rw [List.mem_singleton.mp ha]
    refine ⟨fun x hx => nmB_ok b h.2 x ((tl.mem x).mp hx), by show (asc (nmB b)).length ≤ 5; omega, ?_⟩
    show 1 ≤ (asc (nmB b)).length
    obtain ⟨x, hx⟩ : ∃ x, x ∈ nmB b := List.exists_mem_of_length_pos (by omega)
    exact List.length_pos_of_mem ((tl.mem x).mpr hx)
  | .one bs, h, c, p, hp => by
    simp only [okI] at h
    simp only [rawI] at hp
    simp only [nC] at c ⊢
    exact rawBs_ok bs h.2.2.2 c p hp
theorem rawB_ok {ns : List Str} : ∀ (l : List It) (acc : List Prd) (m : Nat), okB ns l → nCB l ≤ 5 → (∀ p ∈ acc, okPrd ns m p) → ∀ p ∈ rawB l acc, okPrd ns (m + nCB l) p
  | [], acc, m, _, _, k, p, hp => by
    simp only [rawB] at hp
    simpa [nCB] using k p hp
  | i :: r, acc, m, h, c, k, p, hp => by
    simp only [okB] at h
    simp only [rawB] at hp
    simp only [nCB] at c ⊢
    have := rawB_ok r _ (m + nC i) h.2 (by omega) (cross_ok k (rawI_ok i h.1 (by omega))) p hp
    rwa [Nat.add_assoc] at this
theorem rawBs_ok {ns : List Str} : ∀ (bs : List (List It)), okBs ns bs → nCBs bs ≤ 5 → ∀ p ∈ rawBs bs, okPrd ns (nCBs bs) p
  | [], _, _, p, hp => by simp [rawBs] at hp
  | b :: r, h, c, p, hp => by
    simp only [okBs] at h
    simp only [rawBs] at hp
    simp only [nCBs] at c ⊢
    rcases List.mem_append.mp hp with hp | hp
    · have := rawB_ok b [[]] 0 h.1 (by omega) (fun p hp => by rw [List.mem_singleton.mp hp]; exact .nil) p hp
      exact this.mono (by omega)
    · exact (rawBs_ok r h.2 (by omega) p hp).mono (by omega)
end
theorem idleR_ok {ns : List Str} : ∀ (p kept : List Atm), (∀ a ∈ p, okAtm ns a) → (∀ a ∈ kept, okAtm ns a) → (∀ a ∈ idleR kept p, okAtm ns a) ∧ (idleR kept p).length ≤ kept.length + p.length
  | [], kept, _, h => ⟨by simpa [idleR] using h, by simp [idleR]⟩
  | a :: r, kept, hp, h => by
    have ha := hp a (by simp)
    have hr : ∀ b ∈ r, okAtm ns b := fun b hb => hp b (List.mem_cons_of_mem _ hb)
    have hk1 : ∀ b ∈ popI a kept, okAtm ns b := fun b hb => by
      cases a with
      | n x => exact h b hb
      | t xs => exact h b ((List.dropWhile_sublist _).subset hb)
    have hk2 : (popI a kept).length ≤ kept.length := by
      cases a with
      | n x => exact Nat.le_refl _
      | t xs => exact (List.dropWhile_sublist _).length_le
    obtain ⟨k, e1⟩ : ∃ k, k = popI a kept := ⟨_, rfl⟩
    rw [← e1] at hk1 hk2
    have hm1 : ∀ b ∈ putI a k, okAtm ns b := fun b hb => by
      unfold putI at hb
      split at hb
      · split at hb
        · exact hk1 b hb
        · rcases List.mem_cons.mp hb with rfl | hb
          · exact ha
          · exact hk1 b hb
      · rcases List.mem_cons.mp hb with rfl | hb
        · exact ha
        · exact hk1 b hb
    have hm2 : (putI a k).length ≤ kept.length + 1 := by
      unfold putI
      split
      · split
        · omega
        · simp only [List.length_cons] at hk2 ⊢; omega
      · simp only [List.length_cons]; omega
    have ih := idleR_ok r (putI a k) hr hm1
    have e3 : idleR kept (a :: r) = idleR (putI a k) r := by rw [e1]; rfl
    rw [e3]
    exact ⟨ih.1, by have := ih.2; simp only [List.length_cons]; omega⟩
theorem idle_ok {ns : List Str} {m : Nat} {p : Prd} (h : okPrd ns m p) : okPrd ns m (idle p) := by
  have := idleR_ok p [] h.2 (by simp)
  unfold idle
  refine ⟨?_, fun a ha => this.1 a (List.mem_reverse.mp ha)⟩
  have h1 := this.2
  have h2 := h.1
  rw [List.length_reverse]
  simp only [List.length_nil, Nat.zero_add] at h1
  omega
end FA

set_option Elab.async false
set_option linter.all false
set_option maxRecDepth 100000
set_option maxHeartbeats 4000000
/-! Set comprehensions of whole numbers, with one clause and with two. -/
namespace FA
open PySem PySem.Spec PyProof.Rows L2
section
variable {P : Program} {w : World} {A : Around}
/-- the tests of a clause, as the machine asks them -/
def testAll (ifs : List Expr) (env : Env) : Sem Bool := forIn ifs true fun c r => if r = true then do let ok ← isTrue c env (eval c env); pure (ForInStep.yield ok) else pure (ForInStep.yield r)
/-- one item of a clause: drawn, stored, tested -/
def Draws (P : Program) (w : World) (A : Around) (env : Env) (tg : Expr) (ifs : List Expr) (it : Value) (E : Value → Shared → Prop) (over : Shared → Prop) (with_ : Bool → Shared → Prop) (s : Shared) : Prop :=
  wpAny (model P w) A (pyNext it) (fun r s1 => match r with
    | none => over s1
    | some v => wpAny (model P w) A (letOwnedTupleGo tg it v) (fun _ s2 => wpAny (model P w) A (assign tg env v) (fun _ s3 => wpAny (model P w) A (testAll ifs env) with_ E s3) E s2) E s1) E s
/-- one turn of a clause that does b with an item -/
def turnOf (c : Code) (ip : Pos) (tg : Expr) (ifs : List Expr) (it : Value) (env : Env) (b : Sem Unit) : Sem Fin := do
  standAt ip
  match ← pyNext it with
  | none => pure (.done .next)
  | some v =>
    letOwnedTupleGo tg it v
    assign tg env v
    let mut ok := true
    for x in ifs do
      if ok then ok ← isTrue x env (eval x env)
    if ok then b
    again c
theorem turns_by {e : Expr} {k : Nat} {it acc : Value} {env : Env} {ip : Pos} {tg : Expr} {ifs : List Expr} {b : Sem Unit} {R : Result → Shared → Prop} (hq : (Code.compLoop e k it acc env).quiet = true)
    (eq : compTurn e k it acc env = turnOf (.compLoop e k it acc env) ip tg ifs it env b)
    (den : (model P w).den (.compLoop e k it acc env) = (compTurn e k it acc env).onRaise (fun x => do noteFrame x env; theTreesLotGoes x)) (und : A.under (.compLoop e k it acc env) = A)
    (J : Nat → Shared → Prop)
    (one : ∀ n s, J n s → Draws P w A env tg ifs it (notedBy (model P w) A env fun x s' => R (.error x) s') (R (.ok .next))
      (fun ok s' => if ok = true then wpAny (model P w) A b (fun _ s'' => ∃ m, m < n ∧ J m s'') (notedBy (model P w) A env fun x s' => R (.error x) s') s' else ∃ m, m < n ∧ J m s') s) {n : Nat} {s : Shared} (h : J n s) :
    codeAny (model P w) A (.compLoop e k it acc env) R s := by
  refine codeAny_loop hq J (fun n s hJ => ?_) n h
  rw [und, den]
  refine wpAny_noted ?_
  rw [eq]
  unfold turnOf
  refine wpAny_bind (wpAny_standAt (wpAny_bind (wpAny_mono (one n s hJ) (fun r s1 d1 => ?_) fun _ _ z => z)))
  cases r with
  | none => exact wpAny_pure d1
  | some v =>
    refine wpAny_bind (wpAny_mono d1 (fun _ s2 d2 => wpAny_bind (wpAny_mono d2 (fun _ s3 d3 => wpAny_bind (wpAny_mono d3 (fun ok s4 d4 => ?_) fun _ _ z => z)) fun _ _ z => z)) fun _ _ z => z)
    cases ok with
    | false => exact wpAny_pure ⟨rfl, d4⟩
    | true => exact wpAny_bind (wpAny_mono d4 (fun _ s5 d5 => wpAny_pure ⟨rfl, d5⟩) fun _ _ z => z)
/-- a clause's start: its loop, or its loop behind one more iter() -/
theorem starts_by {e : Expr} {k : Nat} {it acc : Value} {env : Env} {g : Comprehension} {R : Result → Shared → Prop} {s : Shared} (hg : (clausesOf e)[k]? = some g) (ha : g.is_async = 0)
    (den : (model P w).den (.compStart e k it acc env) = (compStart e k it acc env).onRaise (fun x => do noteFrame x env; standAt theWindowsPlace)) (und : A.under (.compStart e k it acc env) = A)
    (q : (Code.compLoop e k it acc env).quiet = true)
    (h : codeAny (model P w) A (.compLoop e k it acc env) R s) (again_ : wpAny (model P w) A (pyIter it) (fun v s' => codeAny (model P w) A (.compLoop e k v acc env) R s' ∧ (Code.compLoop e k v acc env).quiet = true) (notedBy (model P w) A env fun x s' => R (.error x) s') s) :
    codeAny (model P w) A (.compStart e k it acc env) R s := by
  refine codeAny_of_tree ?_
  rw [und, den]
  refine wpAny_notedAt ?_
  unfold compStart
  rw [hg]
  simp only [Option.elim, ha, bne_self_eq_false, Bool.false_eq_true, if_false]
  refine wpAny_bind (wpAny_askSetting (wpAny_ite ?_))
  split
  · exact wpAny_pure ⟨q, h⟩
  · refine wpAny_bind (wpAny_rule (wpAny_bind (wpAny_standAt (wpAny_bind (wpAny_mono again_ (fun v s' z => wpAny_pure ⟨z.2, z.1⟩) fun _ _ z => z)))))
end
theorem draws_mono {P : Program} {w : World} {A : Around} {env : Env} {tg : Expr} {ifs : List Expr} {it : Value} {E : Value → Shared → Prop} {o o' : Shared → Prop} {v v' : Bool → Shared → Prop} {s : Shared} (h : Draws P w A env tg ifs it E o v s) (ho : ∀ s, o s → o' s) (hv : ∀ b s, v b s → v' b s) : Draws P w A env tg ifs it E o' v' s := by
  refine wpAny_mono h (fun r s1 z => ?_) fun _ _ z => z
  cases r with
  | none => exact ho _ z
  | some u => exact wpAny_mono z (fun _ s2 z => wpAny_mono z (fun _ s3 z => wpAny_mono z hv fun _ _ z => z) fun _ _ z => z) fun _ _ z => z
theorem wipe_twice {σ : L2.St} {vs : List Nat} : wipe (wipe σ vs) vs = wipe σ vs := by
  have key : ∀ (vs : List Nat) (σ : L2.St) (i : Nat), (wipe σ vs)[i]? = if i ∈ vs then (if i < σ.length then some none else none) else σ[i]? := by
    intro vs
    induction vs with
    | nil => intro σ i; simp [wipe]
    | cons v r ih =>
      intro σ i
      have e : wipe σ (v :: r) = (wipe σ r).set v none := rfl
      rw [e, List.getElem?_set]
      by_cases h : v = i
      · subst h
        simp [wipe_length]
      · rw [if_neg h, ih]
        have h' : ¬ i = v := fun z => h z.symm
        have : i ∈ v :: r ↔ i ∈ r := by simp [h']
        simp only [this]
  refine List.ext_getElem? fun i => ?_
  rw [key, key]
  split
  · rw [wipe_length]
  · rfl
section
/-- within a block B: a walk stands behind some items, n turns are left at most -/
def InLoop (B : Cx) (pins : List (Addr × Obj)) (τ : L2.St) (fp : List Addr) (tn : Nat → Heap → Prop) (W : Nat → Nat → Hp → Prop) (n : Nat) (s : Shared) : Prop :=
  ∃ i H, L2.Inv B pins τ H s ∧ tn i s.heap ∧ (∀ b ∈ fp, H b = none) ∧ W i n H
/-- what such a loop asks: an end that is reached, or an item whose body brings it a turn further -/
def Loops (J : L2.It) (g : TG) (tt : TT) (τ : L2.St) (vs : List Nat) (over : Hp → Prop) (body : Bool → L2.St → Hp → (Hp → Prop) → Prop) (W : Nat → Nat → Hp → Prop) : Prop :=
  ∀ i m H, W i m H → (J.stop i H ∧ over H) ∨ (J.go i H ∧ ∃ N : Hp → Prop, (∀ H', N H' → ∃ m', m' < m ∧ W (i + 1) m' H') ∧ ∀ x H', J.yld i H x H' → g x τ H' fun σ2 H2 => wipe σ2 vs = wipe τ vs ∧ tt σ2 H2 fun b H3 => body b σ2 H3 N)
theorem one_turn {B : Cx} {tg : Expr} {ifs : List Expr} {J : L2.It} {fp : List Addr} {it : Addr} {tn : Nat → Heap → Prop} {g : TG} {tt : TT} {pins : List (Addr × Obj)} {τ : L2.St} {vs : List Nat} {over : Hp → Prop} {body : Bool → L2.St → Hp → (Hp → Prop) → Prop} {W : Nat → Nat → Hp → Prop} {E : Value → Shared → Prop} {n : Nat} {s : Shared}
    (T : Turn B.prog B.w B.K tg J fp it tn) (calm : B.calm = true) (hx : B.xe = fun _ _ => False) (G : PG B tg g) (C : PTs B ifs tt) (free : ∀ {σ' : L2.St} {H' : Hp} {s' : Shared}, L2.Inv B pins σ' H' s' → (∀ b ∈ fp, H' b = none) → ∀ b ∈ fp, FpOk B pins H' b)
    (L : Loops J g tt τ vs over body W) (S : InLoop B pins τ fp tn W n s) :
    Draws B.prog B.w B.A B.env tg ifs (.ref it) E (fun s' => ∃ H', L2.Inv B pins τ H' s' ∧ over H')
      (fun ok s' => ∃ σ2 H3 N pn, L2.Inv B (pins ++ pn) σ2 H3 s' ∧ wipe σ2 vs = wipe τ vs ∧ body ok σ2 H3 N ∧
        ∀ {σ' : L2.St} {s'' : Shared} {H' : Hp}, L2.Inv B (pins ++ pn) σ' H' s'' → τ.length = σ'.length → (∀ (j : Nat) v, τ[j]? = some (some v) → σ'[j]? = some (some v)) → N H' → ∃ m, m < n ∧ InLoop B pins τ fp tn W m s'') s := by
  obtain ⟨i, H, I, st, nf, w0⟩ := S
  rcases L i n H w0 with ⟨hstop, ho⟩ | ⟨hgo, N, hN, hstep⟩
  · refine thnF (T.done B rfl rfl rfl calm i pins s τ H (fun _ _ => False) I (free I nf) st hstop) fun r s1 hr => ?_
    obtain ⟨rfl, I1⟩ := hr
    exact ⟨H, I1, ho⟩
  · refine thnF (T.item B rfl rfl rfl calm i pins s τ H (fun _ _ => False) I (free I nf) st hgo) fun r s1 hr => ?_
    obtain ⟨u, rfl, hu⟩ := hr
    refine thnF hu fun _ s2 hu2 => ?_
    obtain ⟨x, H2, I2, rx, y2, st2, nf2⟩ := hu2
    have I2p := I2.pinned (free I2 nf2) (T.obj _ _ st2)
    have ga := G.run _ s2 τ H2 x u _ I2p rx (hstep x H2 y2)
    rw [hx] at ga
    refine thnF ga fun _ s3 ⟨σ3, H3, I3, hw3, q3⟩ => ?_
    have ca := C.run _ s3 σ3 H3 _ I3 q3
    rw [hx] at ca
    refine thnF ca fun ok s4 ⟨H4, I4, q4⟩ => ?_
    refine ⟨σ3, H4, N, pinsAt fp s2.heap, I4, hw3, q4, fun {σ' s'' H'} I' hl hk nx => ?_⟩
    obtain ⟨m', hm, w'⟩ := hN H' nx
    have kept : ∀ b ∈ fp, ∀ o, s2.heap.get? b = some o → s''.heap.get? b = some o ∧ H' b = none := fun b hb o e => by
      have z := I'.pin (b, o) (List.mem_append_right _ (List.mem_append_right _ (mem_pinsAt hb e)))
      exact ⟨z.1, z.2.1⟩
    refine ⟨m', hm, i + 1, H', I'.unpinned.weak hl hk, T.keep _ _ _ st2 fun b hb o e => (kept b hb o e).1, fun b hb => ?_, w'⟩
    obtain ⟨o, e, _⟩ := T.obj _ _ st2 b hb
    exact (kept b hb o e).2
/-- one more number in a set that is being made -/
theorem adds {B : Cx} {pins : List (Addr × Obj)} {τ : L2.St} {H : Hp} {s : Shared} {E : Value → Shared → Prop} {D : Addr} {S : Int → Bool} {n : Nat} {k : Int} {u : Value} {Q : Value → Shared → Prop} (I : L2.Inv B pins τ H s) (hD : H D = some (SetO B.w D S n)) (room : n + 1 < scanBound) (ru : L2.RelV (.int k) u)
    (q : ∀ s', L2.Inv B pins τ (upd H D (SetO B.w D (fun j => S j || decide (j = k)) (if S k = true then n else n + 1))) s' → Q .none s') : wpAny (model B.prog B.w) B.A (call (.builtin "set.add") [.ref D, u]) Q E s := by
  obtain ⟨t, rfl⟩ := ru
  refine setR_add (setO_get I hD) room fun h' keeps made => ?_
  obtain ⟨o, _, _, _, ho, _⟩ := id made
  exact q _ (I.write (e := D) (t' := s.toks + 1) (by rw [hD]; trivial) (.inl rfl) (fun b v hb hv => (keeps.2 b hb).trans hv) ⟨o, ho⟩ (setO_new made))
end
section
variable {X : Cx}
/-- what stands at D while the set is made -/
def adding (w : World) (D : Addr) (te : TE) (σ : L2.St) (H : Hp) (N : Hp → Prop) : Prop := te σ H fun y H1 => ∃ (k : Int) (S : Int → Bool) (n : Nat), y = .int k ∧ H1 D = some (SetO w D S n) ∧ n + 1 < scanBound ∧ N (upd H1 D (SetO w D (fun j => S j || decide (j = k)) (if S k = true then n else n + 1)))
def tSi (w : World) (wi : TI) (g : TG) (tt : TT) (te : TE) (vs : List Nat) : TE := fun σ H Q => wi σ H fun J H1 => ∀ D, H1 D = none → ∃ W : Nat → Nat → Hp → Prop, (∃ m, W 0 m (upd H1 D (SetO w D (fun _ => false) 0))) ∧
  Loops J g tt (wipe σ vs) vs (fun H => Q (.ref D) H) (fun b σ2 H3 N => if b = true then adding w D te σ2 H3 N else N H3) W
def tSi2 (w : World) (wi : TI) (g : TG) (tt : TT) (wi1 : TI) (g1 : TG) (tt1 : TT) (te : TE) (vs vs1 : List Nat) : TE := fun σ H Q => wi σ H fun J H1 => ∀ D, H1 D = none → ∃ W : Nat → Nat → Hp → Prop, (∃ m, W 0 m (upd H1 D (SetO w D (fun _ => false) 0))) ∧
  Loops J g tt (wipe σ vs) vs (fun H => Q (.ref D) H) (fun b σ2 H3 N => if b = true then wi1 σ2 H3 fun J1 H4 => ∃ W1 : Nat → Nat → Hp → Prop, (∃ m, W1 0 m H4) ∧
    Loops J1 g1 tt1 (wipe σ2 vs1) vs1 N (fun b σ3 H5 N1 => if b = true then adding w D te σ3 H5 N1 else N1 H5) W1 else N H3) W
/-- the frame of a set comprehension: what is walked first, the new set, the block's own context; its loop is left -/
theorem set_frame {elt tg iter : Expr} {ifs : List Expr} {more : List Comprehension} {scope : Scope} {own : List (Str × Nat)} {pos ip : Pos} {wi : TI} {pins : List (Addr × Obj)} {σ : L2.St} {H : Hp} {s : Shared} {Q : VK} {R : L2.It → Hp → Prop}
    (I : L2.Inv X pins σ H s) (nd : X.N.Nodup) (hi : PI X tg iter wi) (ok : BlkOk X.N X.env.scope scope own) (fold : ∀ x, foldedSetIterable iter X.env x = pure x) (h : wi σ H R)
    (loop : ∀ (s3 s4 : Shared) (H2 H3 : Hp) (D C it : Addr) (cl : List (Str × Addr)) (fp : List Addr) (tn : Nat → Heap → Prop) (J : L2.It), R J H2 → H2 D = none → H3 = upd H2 D (SetO X.w D (fun _ => false) 0) → Turn X.prog X.w X.K tg J fp it tn →
      (∀ {σ' : L2.St} {H' : Hp} {s' : Shared}, L2.Inv (X.blk s3 H3 scope (compEnvC scope cl C X.env) fp) [] σ' H' s' → (∀ b ∈ fp, H' b = none) → ∀ b ∈ fp, FpOk (X.blk s3 H3 scope (compEnvC scope cl C X.env) fp) [] H' b) →
      L2.Inv (X.blk s3 H3 scope (compEnvC scope cl C X.env) fp) [] (wipe σ (own.map (·.2))) H3 s4 → tn 0 s4.heap → (∀ b ∈ fp, H3 b = none) →
      codeAny (model X.prog X.w) X.A (.compLoop (.SetComp elt (⟨tg, iter, ifs, 0⟩ :: more) scope pos) 0 (.ref it) (.ref D) (compEnvC scope cl C X.env))
        (fun r s' => r = .ok .next ∧ ∃ H', L2.Inv (X.blk s3 H3 scope (compEnvC scope cl C X.env) fp) [] (wipe σ (own.map (·.2))) H' s' ∧ Q (.ref D) H') s4) :
    wpAny (model X.prog X.w) X.A (comprehension (.SetComp elt (⟨tg, iter, ifs, 0⟩ :: more) scope pos) scope X.env ip (newSet (.type "set")) false (eval iter X.env)) (fun u s' => ∃ v H', L2.Inv X pins σ H' s' ∧ L2.RelV v u ∧ Q v H') X.xe s := by
  have cells : ∀ y ∈ scope.names, y.2 = .free → ∃ c, X.env.cells.lookup y.1 = some c := fun y hy e => (ok.free y hy e).elim (fun k => I.ok.has _ (.inl k)) fun k => I.ok.has _ (.inr k)
  refine wpAny_comprehension_free (use := none) rfl fold (closure_ok cells) ok.kind (fun y hy e => (ok.uniq y hy).trans (congrArg some e)) ?_
  refine thn (hi.run pins s σ H _ I h) fun _ _ hx => thn hx fun _ s2 hw => ?_
  obtain ⟨it, fp, tn, J, H2, rfl, I2, T, st2, f2, q⟩ := hw
  refine PpSet.newSet_ok (newEnv_comp ?_)
  obtain ⟨D, hD⟩ : ∃ D, D = s2.heap.objs.size := ⟨_, rfl⟩
  rw [← hD]
  have Dnew : H2 D = none := I2.hok.fresh (Nat.le_of_eq hD.symm)
  obtain ⟨s3, e3⟩ : ∃ z : Shared, z = { s2 with heap := s2.heap.push { cls := .type "set", dict := none, data := .set #[] 0 (.fresh 0 0 (!X.w.params.followText "set-order")) } } := ⟨_, rfl⟩
  rw [← e3]
  have kept : ∀ b o, s2.heap.get? b = some o → s3.heap.get? b = some o := fun b o e => by rw [e3]; exact Heap.get?_push_of_some _ e
  have I3 : L2.Inv X pins σ (upd H2 D (SetO X.w D (fun _ => false) 0)) s3 := by
    rw [e3]
    refine I2.laid (t' := s2.toks) (fun b o e => Heap.get?_push_of_some _ e) (Nat.le_of_eq hD.symm) ?_
    rw [hD]
    exact setO_new (setR_fresh X.w)
  have small : ∀ b ∈ fp, b < s2.heap.objs.size := fun b hb => (T.obj _ _ st2 b hb).elim fun o e => Heap.lt_size e.1
  obtain ⟨H3, eH⟩ : ∃ z, z = upd H2 D (SetO X.w D (fun _ => false) 0) := ⟨_, rfl⟩
  rw [← eH] at I3
  have f3 : ∀ b ∈ fp, FpOk X pins H3 b ∧ b < s3.heap.objs.size := fun b hb => by
    have lt := small b hb
    have ne : b ≠ D := by rw [hD]; exact Nat.ne_of_lt lt
    refine ⟨⟨?_, (f2 b hb).2⟩, by rw [e3]; exact Nat.lt_of_lt_of_le lt (by rw [Heap.size_push]; exact Nat.le_succ _)⟩
    rw [eH, upd_ne ne]
    exact (f2 b hb).1
  have IB := block_start I3 ok nd f3
  have st4 : tn 0 (pushCells (s3.heap.push { cls := .type "dict", data := .dict #[] }) scope.names) := T.keep _ _ _ st2 fun b _ o e => pushCells_keeps _ _ _ _ (Heap.get?_push_of_some _ (kept b o e))
  have nf : ∀ b ∈ fp, H3 b = none := fun b hb => (f3 b hb).1.1
  have free : ∀ {C : Addr} {cl : List (Str × Addr)} {σ' : L2.St} {H' : Hp} {s' : Shared}, L2.Inv (X.blk s3 H3 scope (compEnvC scope cl C X.env) fp) [] σ' H' s' → (∀ b ∈ fp, H' b = none) → ∀ b ∈ fp, FpOk (X.blk s3 H3 scope (compEnvC scope cl C X.env) fp) [] H' b := fun J' hn b hb =>
    ⟨hn b hb, (J'.ok.exf b hb).1, J'.ok.exfs b hb, .inl hb, (J'.ok.exf b hb).2, fun p hp => by
      rw [List.append_nil] at hp
      exact absurd hp List.not_mem_nil⟩
  have run := loop s3 { s3 with heap := pushCells (s3.heap.push { cls := .type "dict", data := .dict #[] }) scope.names } H2 H3 D s3.heap.objs.size it (cellsFrom (s3.heap.objs.size + 1) scope.names (cloFrom X.env.cells scope.names [])) fp tn J q Dnew eH T free IB st4 nf
  have back : codeAny (model X.prog X.w) X.A (.compLoop (.SetComp elt (⟨tg, iter, ifs, 0⟩ :: more) scope pos) 0 (.ref it) (.ref D) (compEnvC scope (cellsFrom (s3.heap.objs.size + 1) scope.names (cloFrom X.env.cells scope.names [])) s3.heap.objs.size X.env))
      (compPost (model X.prog X.w) X.A X.xe none (fun u s' => ∃ v H', L2.Inv X pins σ H' s' ∧ L2.RelV v u ∧ Q v H') (.ref D) s3.heap.objs.size) { s3 with heap := pushCells (s3.heap.push { cls := .type "dict", data := .dict #[] }) scope.names } := by
    refine codeAny_mono run fun r s' hr => ?_
    obtain ⟨rfl, H', J', qq⟩ := hr
    have IX : L2.Inv X pins σ H' s' := I3.call' (ch := fp) J'.os J'.base J'.hok J'.bare fun b hb => by
      obtain ⟨_, a1, a2, a3, a4, a5⟩ := (f3 b hb).1
      exact ⟨a3, a1, a4, a5⟩
    obtain ⟨m, ns, _⟩ := J'.loc
    refine ⟨m, ns, fun h'' sb => ?_⟩
    obtain ⟨b0, b1, b2, b3, b4, b5⟩ := I3.fpOk (Nat.le_refl _) (show H' s3.heap.objs.size = none from J'.free)
    exact ⟨.ref D, H', IX.turned (t' := s'.toks) (fun b o hb e => (sb.2 b hb).trans e) b0 b1 b3 b4 b5, rfl, qq⟩
  exact starts_by (g := ⟨tg, iter, ifs, 0⟩) rfl rfl rfl rfl rfl back (T.self X.A 0 _ _ _ st4 ⟨back, rfl⟩)
/-- {elt for tg in iter if ..}, elt a whole number -/
theorem pe_si {elt tg iter : Expr} {ifs : List Expr} {scope : Scope} {own : List (Str × Nat)} {pos : Pos} {wi : TI} {g : TG} {tt : TT} {te : TE} (hc : X.calm = true) (nd : X.N.Nodup) (hi : PI X tg iter wi) (ok : BlkOk X.N X.env.scope scope own)
    (hg : ∀ (s : Shared) (H : Hp) (C : Addr) (cl : List (Str × Addr)) (fp : List Addr), PG (X.blk s H scope (compEnvC scope cl C X.env) fp) tg g) (ht : ∀ (s : Shared) (H : Hp) (C : Addr) (cl : List (Str × Addr)) (fp : List Addr), PTs (X.blk s H scope (compEnvC scope cl C X.env) fp) ifs tt)
    (he : ∀ (s : Shared) (H : Hp) (C : Addr) (cl : List (Str × Addr)) (fp : List Addr), PE (X.blk s H scope (compEnvC scope cl C X.env) fp) elt te) (fold : ∀ x, foldedSetIterable iter X.env x = pure x := by intro _; rfl) :
    PE X (.SetComp elt [⟨tg, iter, ifs, 0⟩] scope pos) (tSi X.w wi g tt te (own.map (·.2))) := by
  refine ⟨fun pins s σ H Q I h => ?_⟩
  rw [PpSet.eval_SetComp]
  refine set_frame I nd hi ok fold h fun s3 s4 H2 H3 D C it cl fp tn J q Dn eH T free IB st nf => ?_
  obtain ⟨W, ⟨m0, w0⟩, L⟩ := q D Dn
  rw [← eH] at w0
  have G := hg s3 H3 C cl fp
  have Ct := ht s3 H3 C cl fp
  have Ee := he s3 H3 C cl fp
  refine turns_by (b := do let v ← eval elt (compEnvC scope cl C X.env); standAt elt.pos; let _ ← call (.builtin "set.add") [.ref D, v]) rfl rfl rfl rfl (InLoop (X.blk s3 H3 scope (compEnvC scope cl C X.env) fp) [] (wipe σ (own.map (·.2))) fp tn W) (fun n s5 S => ?_) ⟨0, H3, IB, st, nf, w0⟩
  refine draws_mono (one_turn (B := X.blk s3 H3 scope (compEnvC scope cl C X.env) fp) T hc rfl G Ct free L S) (fun s' ⟨H', I', qq⟩ => ⟨rfl, H', I', qq⟩) fun o s' ⟨σ2, H4, N, pn, I4, hw, bd, close⟩ => ?_
  have l2 : (wipe σ (own.map (·.2))).length = σ2.length := by
    have := congrArg List.length hw
    rw [wipe_length, wipe_length] at this
    rw [this]
  have k2 : ∀ (j : Nat) v, (wipe σ (own.map (·.2)))[j]? = some (some v) → σ2[j]? = some (some v) := fun j v e => by
    have e2 : (wipe σ2 (own.map (·.2)))[j]? = some (some v) := by rw [hw, wipe_twice]; exact e
    exact (wipe_some e2).1
  cases o with
  | false => exact close I4 l2 k2 bd
  | true =>
    simp only [if_true] at bd ⊢
    refine wpAny_bind (thnF (Ee.run _ s' σ2 H4 _ I4 bd) fun u s6 ⟨y, H5, I5, ru, k, S0, n0, ey, hD, hn, nx⟩ => ?_)
    subst ey
    refine wpAny_bind (wpAny_standAt (wpAny_bind (adds (B := X.blk s3 H3 scope (compEnvC scope cl C X.env) fp) I5 hD hn ru fun s7 I7 => wpAny_pure (close I7 l2 k2 nx))))
theorem wiped_len {σ τ : L2.St} {vs : List Nat} (h : wipe σ vs = wipe τ vs) : τ.length = σ.length := by
  have := congrArg List.length h
  rw [wipe_length, wipe_length] at this
  exact this.symm
theorem wiped_has {σ τ : L2.St} {vs : List Nat} (h : wipe σ vs = wipe τ vs) (j : Nat) (v : V) (e : (wipe τ vs)[j]? = some (some v)) : σ[j]? = some (some v) := by
  rw [← h] at e
  exact (wipe_some e).1
/-- the first of two clauses: with an item it runs the second clause's loop -/
theorem turns_first {elt tg iter tg1 iter1 : Expr} {ifs ifs1 : List Expr} {scope : Scope} {pos : Pos} {it acc : Value} {env : Env} {P : Program} {w : World} {A : Around} {R : Result → Shared → Prop} (fold1 : ∀ x, foldedSetIterable iter1 env x = pure x) (J : Nat → Shared → Prop)
    (one : ∀ n s, J n s → Draws P w A env tg ifs it (notedBy (model P w) A env fun x s' => R (.error x) s') (R (.ok .next))
      (fun ok s' => if ok = true then wpAny (model P w) A (eval iter1 env) (fun x s1 => wpAny (model P w) A (pyIter x) (fun it1 s2 =>
          codeAny (model P w) A (.compStart (.SetComp elt [⟨tg, iter, ifs, 0⟩, ⟨tg1, iter1, ifs1, 0⟩] scope pos) 1 it1 acc env) (fun r s'' => r = .ok .next ∧ ∃ m, m < n ∧ J m s'') s2)
          (notedBy (model P w) A env fun x s' => R (.error x) s') s1) (notedBy (model P w) A env fun x s' => R (.error x) s') s' else ∃ m, m < n ∧ J m s') s) {n : Nat} {s : Shared} (h : J n s) :
    codeAny (model P w) A (.compLoop (.SetComp elt [⟨tg, iter, ifs, 0⟩, ⟨tg1, iter1, ifs1, 0⟩] scope pos) 0 it acc env) R s := by
  refine codeAny_loop rfl J (fun n s hJ => ?_) n h
  have den : (model P w).den (.compLoop (.SetComp elt [⟨tg, iter, ifs, 0⟩, ⟨tg1, iter1, ifs1, 0⟩] scope pos) 0 it acc env) = (compTurn (.SetComp elt [⟨tg, iter, ifs, 0⟩, ⟨tg1, iter1, ifs1, 0⟩] scope pos) 0 it acc env).onRaise (fun x => do noteFrame x env; theTreesLotGoes x) := rfl
  have und : A.under (.compLoop (.SetComp elt [⟨tg, iter, ifs, 0⟩, ⟨tg1, iter1, ifs1, 0⟩] scope pos) 0 it acc env) = A := rfl
  rw [und, den]
  refine wpAny_noted ?_
  have shape : compTurn (.SetComp elt [⟨tg, iter, ifs, 0⟩, ⟨tg1, iter1, ifs1, 0⟩] scope pos) 0 it acc env = (do
      standAt iter.pos
      match ← pyNext it with
      | none => pure (.done .next)
      | some v =>
        letOwnedTupleGo tg it v
        assign tg env v
        let mut fits := true
        for t in ifs do
          if fits then fits ← isTrue t env (eval t env)
        if fits then
          let src ← eval iter1 env
          standAt iter1.pos
          let src ← foldedSetIterable iter1 env src
          let _ ← runOwn (.compStart (.SetComp elt [⟨tg, iter, ifs, 0⟩, ⟨tg1, iter1, ifs1, 0⟩] scope pos) 1 (← holding [src] (pyIter src)) acc env) env
        again (.compLoop (.SetComp elt [⟨tg, iter, ifs, 0⟩, ⟨tg1, iter1, ifs1, 0⟩] scope pos) 0 it acc env)) := rfl
  rw [shape]
  refine wpAny_bind (wpAny_standAt (wpAny_bind (wpAny_mono (one n s hJ) (fun r s1 d1 => ?_) fun _ _ z => z)))
  cases r with
  | none => exact wpAny_pure d1
  | some v =>
    refine wpAny_bind (wpAny_mono d1 (fun _ s2 d2 => wpAny_bind (wpAny_mono d2 (fun _ s3 d3 => wpAny_bind (wpAny_mono d3 (fun ok s4 d4 => ?_) fun _ _ z => z)) fun _ _ z => z)) fun _ _ z => z)
    cases ok with
    | false => exact wpAny_pure ⟨rfl, d4⟩
    | true =>
      refine wpAny_bind (wpAny_mono d4 (fun x s5 d5 => wpAny_bind (wpAny_standAt (wpAny_bind (wpAny_of_eq (fold1 x) (wpAny_bind (wpAny_holding (wpAny_mono d5 (fun it1 s6 d6 => wpAny_bind (wpAny_runOwn ?_)) fun _ _ z => z))))))) fun _ _ z => z)
      rw [Around.mark_none]
      refine codeAny_mono d6 fun r s7 d7 => ?_
      obtain ⟨rfl, d7⟩ := d7
      first
        | exact wpAny_pure ⟨rfl, d7⟩
        | exact wpAny_bind (wpAny_pure (wpAny_pure ⟨rfl, d7⟩))
/-- {elt for tg in iter if .. for tg1 in iter1 if ..}, elt a whole number -/
theorem pe_si2 {elt tg iter tg1 iter1 : Expr} {ifs ifs1 : List Expr} {scope : Scope} {own : List (Str × Nat)} {vs1 : List Nat} {pos : Pos} {wi wi1 : TI} {g g1 : TG} {tt tt1 : TT} {te : TE} (hc : X.calm = true) (nd : X.N.Nodup) (hi : PI X tg iter wi) (ok : BlkOk X.N X.env.scope scope own) (sub : ∀ i ∈ vs1, i ∈ own.map (·.2))
    (hg : ∀ (s : Shared) (H : Hp) (C : Addr) (cl : List (Str × Addr)) (fp : List Addr), PG (X.blk s H scope (compEnvC scope cl C X.env) fp) tg g) (ht : ∀ (s : Shared) (H : Hp) (C : Addr) (cl : List (Str × Addr)) (fp : List Addr), PTs (X.blk s H scope (compEnvC scope cl C X.env) fp) ifs tt)
    (hi1 : ∀ (s : Shared) (H : Hp) (C : Addr) (cl : List (Str × Addr)) (fp : List Addr), PI (X.blk s H scope (compEnvC scope cl C X.env) fp) tg1 iter1 wi1)
    (hg1 : ∀ (s : Shared) (H : Hp) (C : Addr) (cl : List (Str × Addr)) (fp : List Addr), PG (X.blk s H scope (compEnvC scope cl C X.env) fp) tg1 g1) (ht1 : ∀ (s : Shared) (H : Hp) (C : Addr) (cl : List (Str × Addr)) (fp : List Addr), PTs (X.blk s H scope (compEnvC scope cl C X.env) fp) ifs1 tt1)
    (he : ∀ (s : Shared) (H : Hp) (C : Addr) (cl : List (Str × Addr)) (fp : List Addr), PE (X.blk s H scope (compEnvC scope cl C X.env) fp) elt te)
    (fold : ∀ x, foldedSetIterable iter X.env x = pure x := by intro _; rfl) (fold1 : ∀ env x, foldedSetIterable iter1 env x = pure x := by intro _ _; rfl) :
    PE X (.SetComp elt [⟨tg, iter, ifs, 0⟩, ⟨tg1, iter1, ifs1, 0⟩] scope pos) (tSi2 X.w wi g tt wi1 g1 tt1 te (own.map (·.2)) vs1) := by
  refine ⟨fun pins s σ H Q I h => ?_⟩
  rw [PpSet.eval_SetComp]
  refine set_frame I nd hi ok fold h fun s3 s4 H2 H3 D C it cl fp tn J q Dn eH T free IB st nf => ?_
  obtain ⟨W, ⟨m0, w0⟩, L⟩ := q D Dn
  rw [← eH] at w0
  have G := hg s3 H3 C cl fp
  have Ct := ht s3 H3 C cl fp
  have Ee := he s3 H3 C cl fp
  have G1 := hg1 s3 H3 C cl fp
  have Ct1 := ht1 s3 H3 C cl fp
  have Ii := hi1 s3 H3 C cl fp
  obtain ⟨B, eB⟩ : ∃ B, B = X.blk s3 H3 scope (compEnvC scope cl C X.env) fp := ⟨_, rfl⟩
  obtain ⟨ce, ece⟩ : ∃ c, c = compEnvC scope cl C X.env := ⟨_, rfl⟩
  have hB : B.prog = X.prog ∧ B.w = X.w ∧ B.K = X.K ∧ B.A = X.A ∧ B.env = ce ∧ B.calm = X.calm ∧ B.xe = fun _ _ => False := by subst eB; subst ece; exact ⟨rfl, rfl, rfl, rfl, rfl, rfl, rfl⟩
  refine turns_first (fold1 _) (InLoop (X.blk s3 H3 scope (compEnvC scope cl C X.env) fp) [] (wipe σ (own.map (·.2))) fp tn W) (fun n s5 S => ?_) ⟨0, H3, IB, st, nf, w0⟩
  refine draws_mono (one_turn (B := X.blk s3 H3 scope (compEnvC scope cl C X.env) fp) T hc rfl G Ct free L S) (fun s' ⟨H', I', qq⟩ => ⟨rfl, H', I', qq⟩) fun o s' ⟨σ2, H4, N, pn, I4, hw, bd, close⟩ => ?_
  have hw' : wipe σ2 (own.map (·.2)) = wipe σ (own.map (·.2)) := by rw [hw, wipe_twice]
  have l2 : (wipe σ (own.map (·.2))).length = σ2.length := by rw [wipe_length]; exact wiped_len hw'
  have k2 : ∀ (j : Nat) v, (wipe σ (own.map (·.2)))[j]? = some (some v) → σ2[j]? = some (some v) := wiped_has hw'
  cases o with
  | false => exact close I4 l2 k2 bd
  | true =>
    simp only [if_true] at bd ⊢
    refine thnF (Ii.run _ s' σ2 H4 _ I4 bd) fun xv s6 hx => thnF hx fun itv s7 hy => ?_
    obtain ⟨it1, fp1, tn1, J1, H7, rfl, I7, T1, st7, f7, W1, ⟨m1, w1⟩, L1⟩ := hy
    -- the second clause's own loop
    have free1 : ∀ {σ' : L2.St} {H' : Hp} {s'' : Shared}, L2.Inv (X.blk s3 H3 scope (compEnvC scope cl C X.env) fp) ([] ++ pn) σ' H' s'' → (∀ b ∈ fp1, H' b = none) → ∀ b ∈ fp1, FpOk (X.blk s3 H3 scope (compEnvC scope cl C X.env) fp) ([] ++ pn) H' b := fun _ hn b hb => ⟨hn b hb, (f7 b hb).2⟩
    have k3 : ∀ (j : Nat) v, (wipe σ (own.map (·.2)))[j]? = some (some v) → (wipe σ2 vs1)[j]? = some (some v) := fun j v e => by
      have e1 := k2 j v e
      have out : j ∉ vs1 := fun z => by
        rw [← hw'] at e
        exact (wipe_some e).2 (sub j z)
      rw [wipe_out out]
      exact e1
    have inner : codeAny (model X.prog X.w) X.A (.compLoop (.SetComp elt [⟨tg, iter, ifs, 0⟩, ⟨tg1, iter1, ifs1, 0⟩] scope pos) 1 (.ref it1) (.ref D) (compEnvC scope cl C X.env))
        (fun r s'' => r = .ok .next ∧ ∃ m, m < n ∧ InLoop (X.blk s3 H3 scope (compEnvC scope cl C X.env) fp) [] (wipe σ (own.map (·.2))) fp tn W m s'') s7 := by
      refine turns_by (b := do let v ← eval elt (compEnvC scope cl C X.env); standAt elt.pos; let _ ← call (.builtin "set.add") [.ref D, v]) rfl rfl rfl rfl (InLoop (X.blk s3 H3 scope (compEnvC scope cl C X.env) fp) ([] ++ pn) (wipe σ2 vs1) fp1 tn1 W1) (fun n1 s8 S1 => ?_) ⟨0, H7, I7.weak (wipe_length _ _) (fun j v e => (wipe_some e).1), st7, fun b hb => (f7 b hb).1, w1⟩
      refine draws_mono (one_turn (B := X.blk s3 H3 scope (compEnvC scope cl C X.env) fp) T1 hc rfl G1 Ct1 free1 L1 S1) (fun s' ⟨H', I', qq⟩ => ⟨rfl, close I' (by rw [l2, wipe_length]) k3 qq⟩) fun o s9 ⟨σ3, H9, N1, pn1, I9, hw1, bd1, close1⟩ => ?_
      have hw1' : wipe σ3 vs1 = wipe σ2 vs1 := by rw [hw1, wipe_twice]
      have l3 : (wipe σ2 vs1).length = σ3.length := by rw [wipe_length]; exact wiped_len hw1'
      have k4 : ∀ (j : Nat) v, (wipe σ2 vs1)[j]? = some (some v) → σ3[j]? = some (some v) := wiped_has hw1'
      cases o with
      | false => exact close1 I9 l3 k4 bd1
      | true =>
        simp only [if_true] at bd1 ⊢
        refine wpAny_bind (thnF (Ee.run _ s9 σ3 H9 _ I9 bd1) fun u s10 ⟨y, H10, I10, ru, k, S0, n0, ey, hD, hn, nx⟩ => ?_)
        subst ey
        refine wpAny_bind (wpAny_standAt (wpAny_bind (adds (B := X.blk s3 H3 scope (compEnvC scope cl C X.env) fp) I10 hD hn ru fun s11 I11 => wpAny_pure (close1 I11 l3 k4 nx))))
    exact starts_by (g := ⟨tg1, iter1, ifs1, 0⟩) rfl rfl rfl rfl rfl inner (T1.self X.A 0 _ _ _ st7 ⟨inner, rfl⟩)
end
end FA

set_option Elab.async false
set_option linter.all false
set_option maxRecDepth 100000
set_option maxHeartbeats 4000000
/-! set(list of whole numbers), with numbers that stand there twice. -/
namespace FA
open PySem PySem.Spec PyProof.Rows L2
variable {P : Program} {w : World} {A : Around} {E : Value → Shared → Prop} {s : Shared} {a : Addr}
/-- the set of the numbers of l at a -/
def SetI (w : World) (h : Heap) (a : Addr) (l : List Int) : Prop := ∃ n, n ≤ l.length ∧ SetR w h a (fun k => decide (k ∈ l)) n
theorem SetI.keep {h h' : Heap} {l : List Int} (R : SetI w h a l) (k : ∀ o, h.get? a = some o → h'.get? a = some o) : SetI w h' a l := let ⟨n, q, r⟩ := R; ⟨n, q, r.at k⟩
theorem si_add {l : List Int} {k : Int} {u : Tok} {Q : Bool → Shared → Prop} (R : SetI w s.heap a l) (hb : l.length + 1 < scanBound)
    (hQ : ∀ h', Heap.SameBut a s.heap h' → SetI w h' a (l ++ [k]) → Q (!decide (k ∈ l)) { s with heap := h' }) : wpAny (model P w) A (setAddHashed a (.int k u) ((intKind P w).hash k)) Q E s := by
  obtain ⟨n, hn, r⟩ := R
  refine setR_add_hashed r (by omega) fun h' sb r2 => hQ h' sb ⟨_, ?_, r2.congr fun j => ?_⟩
  · rw [List.length_append, List.length_singleton]
    split <;> omega
  · simp only [List.mem_append, List.mem_singleton, Bool.decide_or]
theorem si_new {h : Heap} (ho : h.get? a = some { cls := .type "set", dict := none, data := .set #[] 0 (.fresh 0 0 (!w.params.followText "set-order")) }) : SetI w h a [] := by
  refine ⟨0, Nat.le_refl _, ?_⟩
  refine ⟨_, #[], 0, _, ho, ⟨rfl, rfl, rfl⟩, rfl, by simp, by simp, by simp, by decide, rfl, rfl, List.Pairwise.nil, ?_⟩
  show _ ∨ (!w.params.followText "set-order") = true
  cases w.params.followText "set-order"
  · exact .inr rfl
  · exact .inl rfl
theorem ints_item : ∀ {us : List Value} {ns : List Int}, IntsAre us ns → ∀ (i : Nat) (v : Value), us[i]? = some v → ∃ k t, ns[i]? = some k ∧ v = .int k t
  | _, _, .nil, i, v, h => by simp at h
  | _, _, .cons n t hr, 0, v, h => by simp at h; exact ⟨n, t, rfl, h.symm⟩
  | _, _, .cons n t hr, i + 1, v, h => by
    simp only [List.getElem?_cons_succ] at h
    obtain ⟨k, t', e1, e2⟩ := ints_item hr i v h
    exact ⟨k, t', by simpa using e1, e2⟩
theorem set_update_ints {I : Addr} {fp wr : List Addr} {G : Array GenState → Array GenState → Prop} {n : Nat} {Pv : Nat → Value → Prop} {St : Nat → Shared → Prop} {R : Result → Shared → Prop} (W : WalksS P w A.in1 I fp wr G n Pv St)
    (S : Addr) (hSf : S ∉ fp) (ns : List Int) (hn : n = ns.length) (hb : ns.length + 1 < scanBound) (hval : ∀ i v, Pv i v → ∃ k t, ns[i]? = some k ∧ v = .int k t) : ∀ (k i : Nat) (s : Shared), n - i = k → i ≤ n → St i s → SetI w s.heap S (ns.take i) →
      (∀ s', Moved (S :: wr) G s s' → SetI w s'.heap S ns → R (.ok (.ret .none)) s') → codeAny (model P w) A (.builtin "set.update.loop" ⟨[.ref S, .ref I], []⟩) R s := by
  have out : S ∉ wr := fun h => hSf (W.sub _ h)
  have more : ∀ b ∈ wr, b ∈ S :: wr := fun b hb => List.mem_cons_of_mem _ hb
  intro k
  induction k with
  | zero =>
    intro i s hk' hi hst hS hR
    have hin : i = n := by omega
    subst hin
    refine codeAny_builtin F.entry_set_update_loop ?_
    rw [Around.under_plainId F.plain_set_update_loop _]
    show wpAny _ A.in1 (pyNext (.ref I) >>= _) _ _ s
    refine wpAny_bind (W.done s _ _ hst fun s' hm => ?_)
    show wpAny _ A.in1 (ret Value.none) _ _ s'
    rw [List.take_of_length_le (by omega)] at hS
    exact wpAny_pure (hR s' (hm.mono more) (SetI.keep hS fun o e => hm.heap S o out e))
  | succ k ih =>
    intro i s hk' hi hst hS hR
    have hlt : i < n := by omega
    refine codeAny_builtin F.entry_set_update_loop ?_
    rw [Around.under_plainId F.plain_set_update_loop _]
    show wpAny _ A.in1 (pyNext (.ref I) >>= _) _ _ s
    refine wpAny_bind (W.item i s _ _ hlt hst fun v s' hP hst' hm => ?_)
    obtain ⟨z, t, hz, rfl⟩ := hval i v hP
    have hS' : SetI w s'.heap S (ns.take i) := SetI.keep hS fun o e => hm.heap S o out e
    have hl2 : (ns.take i).length ≤ ns.length := by rw [List.length_take]; omega
    show wpAny _ A.in1 (holding [Value.int z t] (setAdd S (.int z t)) >>= _) _ _ s'
    refine wpAny_bind (wpAny_holding ?_)
    unfold setAdd
    refine wpAny_holding (wpAny_bind ((intKind P w).pyHash (k := z) (intKind_is P w z t) ?_))
    refine si_add (s := { s' with toks := s'.toks + 1 }) hS' (by omega) fun h' hsb hS2 => ?_
    have hS3 : SetI w h' S (ns.take (i + 1)) := by
      rw [List.take_add_one, hz]
      show SetI w h' S (ns.take i ++ [z])
      exact hS2
    refine wpAny_pure ⟨plainId_quiet F.plain_set_update_loop _, ih (i + 1) _ (by omega) hlt (W.frame _ s' _ _ hst' (Nat.le_succ _) fun b hb o e => ?_) hS3 fun s'' hm'' hS'' => ?_⟩
    · rw [hsb.2 b (fun h : b = S => hSf (by rw [← h]; exact hb))]
      exact e
    · refine hR s'' (Moved.trans W.gtrans ((hm.mono more).then_heap (Nat.le_succ _) fun b o hb e => ?_) hm'') hS''
      rw [hsb.2 b (fun h : b = S => hb (by rw [h]; exact List.mem_cons_self))]
      exact e
/-- the set as it is laid: empty -/
abbrev emptyS (w : World) : Obj := { cls := .type "set", dict := none, data := .set #[] 0 (.fresh 0 0 (!w.params.followText "set-order")) }
set_option maxRecDepth 100000 in
set_option maxHeartbeats 3200000 in
theorem call_set_ints {l : Addr} {items : Array Value} (ns : List Int) {Q : Value → Shared → Prop} (hh : A.handled = none) (hl : s.heap.IsList l items) (hit : IntsAre items.toList ns) (hb : ns.length + 1 < scanBound)
    (h : ∀ (h' : Heap) (tk : Nat), SetI w h' s.heap.objs.size ns → (∀ b o, s.heap.get? b = some o → h'.get? b = some o) → Q (.ref s.heap.objs.size) { s with heap := h', toks := tk }) : wpAny (model P w) A (call (.type "set") [.ref l]) Q E s := by
  have hisz : items.size = ns.length := by
    have q := IntsAre.length hit
    rw [Array.length_toList] at q
    exact q
  obtain ⟨c, tl, hmro⟩ := F.called_set.mro
  have hmade := F.called_set.made
  have hsub := F.called_set.sub
  refine wpAny_call (codeAny_of_tree ?_)
  show wpAny _ _ (callAny (.type "set") _) _ _ _
  refine wpAny_pure ⟨Code.quiet_builtin _ (by decide +kernel), codeAny_builtin F.entry_type_call ?_⟩
  rw [Around.under_plain (weight_type_call_type "set" [.ref l] []) rfl]
  have h1 := F.called_set.notType
  have h2 := F.called_set.canCreate
  have hct := F.typeCall_set_1 (.ref l)
  repeat (any_goals (first | assumption | wp_step))
  refine codeAny_mono (code_set_led1 (.ref l) (E := E) (Q₁ := fun obj s₁ => obj = .ref s.heap.objs.size ∧ s₁ = { s with heap := s.heap.push (emptyS w) }) ⟨rfl, rfl⟩) fun r s₁ hr => ?_
  cases r with
  | error e => exact hr
  | ok fl =>
    cases fl with
    | ret obj =>
      obtain ⟨rfl, rfl⟩ := hr
      have hS : (s.heap.push (emptyS w)).get? s.heap.objs.size = some (emptyS w) := Heap.get?_push_size _ rfl
      have hT : Shared.TypeIs { s with heap := s.heap.push (emptyS w) } (.ref s.heap.objs.size) "set" := ⟨_, hS, rfl⟩
      have hli := F.called_set.init.lookup
      have hbi := F.called_set.init.bind (.ref s.heap.objs.size)
      repeat (any_goals (first | assumption | wp_step))
      refine codeAny_mono (codeAny_call_builtin (R := wants (fun r s₂ => r = .none ∧ ∃ h' tk, s₂ = { s with heap := h', toks := tk } ∧ SetI w h' s.heap.objs.size ns ∧ (∀ b o, s.heap.get? b = some o → h'.get? b = some o)) E)
        F.called_set.init.plain F.entry_set_init (check_set_init_1 hT ?_)) fun r₂ s₂ hr₂ => ?_
      · obtain ⟨ol, hol, hcl, nl, hdl⟩ := hl
        obtain ⟨ocls, odict, odata, oslots⟩ := ol
        simp only at hcl hdl
        subst hcl; subst hdl
        have hol' : (s.heap.push (emptyS w)).get? l = some { cls := .type "list", dict := odict, data := .seq items nl, slots := oslots } := Heap.get?_push_of_some _ hol
        have hsls := F.sub_list_set
        have hslf := F.sub_list_frozenset
        have hne : (Value.type "list" == Value.type "dict") = false := by decide
        have hl1 : (s.heap.push (emptyS w)).IsList l items := ⟨_, hol', rfl, nl, rfl⟩
        unfold Builtin.«set.__init__» noKeywords Builtin.Frozenset.updateFrom
        generalize hPI : pyIter = PI
        wp_walk
        subst hPI
        refine wpAny_pyIter_list hl1 ?_
        refine wpAny_bind (wpAny_runValue ?_)
        have hlS : l < s.heap.objs.size := Heap.lt_size hol
        have hh3 : A.in1.in1.in1.handled = none := by simp [hh]
        have hneI : l ≠ (s.heap.push (emptyS w)).objs.size := by
          rw [Heap.size_push]
          exact Nat.ne_of_lt (Nat.lt_succ_of_lt hlS)
        have hSf : s.heap.objs.size ∉ [(s.heap.push (emptyS w)).objs.size, l] := by
          rw [Heap.size_push]
          simp only [List.mem_cons, List.mem_singleton, List.not_mem_nil, or_false, not_or]
          exact ⟨Nat.ne_of_lt (Nat.lt_succ_self _), Nat.ne_of_gt hlS⟩
        have hval : ∀ (i : Nat) (v : Value), items[i]? = some v → ∃ k t, ns[i]? = some k ∧ v = .int k t := fun i v hv => by
          exact ints_item hit i v (by rw [Array.getElem?_toList]; exact hv)
        refine set_update_ints ((Walks.list hh3 _ l hneI items).toS) s.heap.objs.size hSf ns hisz hb hval (items.size - 0) 0 _ (by omega) (Nat.zero_le _) ⟨⟨_, Heap.get?_push_size _ rfl, rfl, rfl⟩, (hl1.push _)⟩ ?hS0 ?hR
        case hS0 =>
          exact si_new (Heap.get?_push_of_some _ hS)
        case hR =>
          intro s' hm hS'
          obtain ⟨h', g2, d', tk', os'⟩ := s'
          have eg : g2 = s.gens := hm.gens
          have ed : d' = s.drawn := hm.drawn
          have eo : os' = s.os := hm.os
          subst eg; subst ed; subst eo
          show wpAny _ _ _ _ _ _
          refine wpAny_pure ?_
          show wpAny _ _ (ret Value.none) _ _ _
          refine wpAny_pure ⟨rfl, h', tk', rfl, hS', fun b o e => ?_⟩
          have hb0 : b < s.heap.objs.size := Heap.lt_size e
          refine hm.heap b o ?_ (Heap.get?_push_of_some _ (Heap.get?_push_of_some _ e))
          simp only [List.mem_cons, List.mem_singleton, List.not_mem_nil, or_false, not_or]
          refine ⟨Nat.ne_of_lt hb0, ?_⟩
          rw [Heap.size_push]
          exact Nat.ne_of_lt (Nat.lt_succ_of_lt hb0)
      · cases r₂ with
        | error e => exact hr₂
        | ok fl₂ =>
          cases fl₂ with
          | ret r =>
            obtain ⟨rfl, h', tk, rfl, hS', hk'⟩ := hr₂
            repeat (any_goals (first | assumption | wp_step))
            exact h _ _ hS' hk'
          | _ => exact hr₂.elim
    | _ => exact hr.elim
/-- how many are in such a set -/
theorem setR_count {h : Heap} {S : Int → Bool} {n : Nat} (R : SetR w h a S n) : ∃ ks : List Int, ks.Nodup ∧ (∀ k, S k = true ↔ k ∈ ks) ∧ ks.length = n := by
  obtain ⟨o, es, ep, t, ho, hx, hd, g, nd, hm, hb, hf, hn, _⟩ := R
  exact ⟨_, nd, hm, by rw [List.length_map, Array.length_toList]; exact hn⟩
section
variable {X : Cx}
/-- set(xs), xs a list of whole numbers: n of them are different -/
def rSetIs (K : PySem.W.Frag) (w : World) : List V → Hp → VK → Prop := fun xs H Q => ∃ (p : Addr) (ns : List Int), xs = [V.ref p] ∧ SqL K H p (ns.map V.int) ∧ ns.length ≤ 1000 ∧ ∀ q n ks, H q = none → List.Nodup ks → (∀ k, k ∈ ks ↔ k ∈ ns) → ks.length = n → Q (.ref q) (upd H q (SetO w q (fun k => decide (k ∈ ns)) n))
theorem cr_setIs (hc : X.calm = true) : CallR X (.type "set") (rSetIs X.K X.w) := by
  intro pins s σ H xs us Q I r h
  obtain ⟨p, ns, rfl, hs, hn, q⟩ := h
  rw [Vals.ref1 r]
  obtain ⟨its, rv, ⟨o, n, ho, h1, h2, h3⟩, hz⟩ := I.list hs
  have ia : IntsAre its ns := intsAre_of rv
  have sc : ns.length + 1 < scanBound := by
    have : (1002 : Nat) < scanBound := by decide
    omega
  refine call_set_ints (P := X.prog) (w := X.w) ns (I.ok.hd hc) (items := its.toArray) ⟨o, ho, h1, n, h3⟩ (by simpa using ia) sc fun h' tk hT hk => ?_
  obtain ⟨m, _, R⟩ := hT
  obtain ⟨ks, nd, mem, len⟩ := setR_count R
  exact ⟨.ref _, upd H s.heap.objs.size (SetO X.w s.heap.objs.size (fun k => decide (k ∈ ns)) m), I.laid (t' := tk) hk (Nat.le_refl _) (setO_new R), rfl, q _ m ks (I.hok.fresh (Nat.le_refl _)) nd (fun k => by rw [← mem, decide_eq_true_eq]) len⟩
end
end FA

set_option Elab.async false
set_option linter.all false
set_option maxRecDepth 100000
/-! The words of a body, its plan and what a plan's places tell of words. -/
namespace FA
open PySem
inductive Star (L : List Str → Prop) : List Str → Prop where
  | nil : Star L []
  | snoc {u v : List Str} : Star L u → L v → v ≠ [] → Star L (u ++ v)
mutual
/-- the words of an item, of a body, of one of some bodies -/
def WI : It → List Str → Prop
  | .call x => fun w => w = [x]
  | .may b => fun w => w = [] ∨ WB b w
  | .loop b => fun w => Star (WB b) w
  | .one bs => fun w => WBs bs w
def WB : List It → List Str → Prop
  | [] => fun w => w = []
  | i :: r => fun w => ∃ u v, w = u ++ v ∧ WI i u ∧ WB r v
def WBs : List (List It) → List Str → Prop
  | [] => fun _ => False
  | b :: r => fun w => WB b w ∨ WBs r w
end
theorem WB_app : ∀ {a b : List It} {w : List Str}, WB (a ++ b) w ↔ ∃ u v, w = u ++ v ∧ WB a u ∧ WB b v
  | [], b, w => by
    simp only [List.nil_append, WB]
    exact ⟨fun h => ⟨[], w, rfl, rfl, h⟩, fun ⟨u, v, e, e1, h⟩ => by subst e1; rw [e]; exact h⟩
  | i :: r, b, w => by
    simp only [List.cons_append, WB]
    constructor
    · rintro ⟨u, v, e, h1, h2⟩
      obtain ⟨u2, v2, e2, h3, h4⟩ := WB_app.mp h2
      exact ⟨u ++ u2, v2, by rw [e, e2, List.append_assoc], ⟨u, u2, rfl, h1, h3⟩, h4⟩
    · rintro ⟨u, v, e, ⟨u2, v2, e2, h1, h2⟩, h3⟩
      exact ⟨u2, v2 ++ v, by rw [e, e2, List.append_assoc], h1, WB_app.mpr ⟨v2, v, rfl, h2, h3⟩⟩
theorem WB_one {i : It} {w : List Str} : WB [i] w ↔ WI i w := by
  simp only [WB]
  exact ⟨fun ⟨u, v, e, h1, h2⟩ => by subst h2; rw [e, List.append_nil]; exact h1, fun h => ⟨w, [], by simp, h, rfl⟩⟩
theorem WB_snoc {l : List It} {k : Nat} {i : It} (h : l[k]? = some i) {w : List Str} : WB (l.take (k + 1)) w ↔ ∃ u v, w = u ++ v ∧ WB (l.take k) u ∧ WI i v := by
  rw [List.take_add_one, h, WB_app]
  simp only [Option.toList_some, WB_one]
theorem WBs_iff : ∀ {bs : List (List It)} {w : List Str}, WBs bs w ↔ ∃ b ∈ bs, WB b w
  | [], w => by simp [WBs]
  | b :: r, w => by simp [WBs, WBs_iff (bs := r)]
/-- a plan -/
structure Pl where
  nm : List Str
  fs : List Nat
  ls : List Nat
  ps : List (Nat × Nat)
  em : Bool
def both (l f : List Nat) : List (Nat × Nat) := l.flatMap (fun a => f.map (fun b => (a, b)))
theorem both_mem {l f : List Nat} {a b : Nat} : (a, b) ∈ both l f ↔ a ∈ l ∧ b ∈ f := by
  simp only [both, List.mem_flatMap, List.mem_map]
  exact ⟨fun ⟨x, hx, y, hy, e⟩ => by cases e; exact ⟨hx, hy⟩, fun ⟨h1, h2⟩ => ⟨a, h1, b, h2, rfl⟩⟩
def Pl.e0 : Pl := ⟨[], [], [], [], true⟩
def Pl.no : Pl := ⟨[], [], [], [], false⟩
def Pl.seq (a b : Pl) : Pl :=
  ⟨a.nm ++ b.nm, if a.em then a.fs ++ b.fs else a.fs, if b.em then a.ls ++ b.ls else b.ls, a.ps ++ b.ps ++ both a.ls b.fs, a.em && b.em⟩
def Pl.alt (a b : Pl) : Pl := ⟨a.nm ++ b.nm, a.fs ++ b.fs, a.ls ++ b.ls, a.ps ++ b.ps, a.em || b.em⟩
def Pl.opt (a : Pl) : Pl := ⟨a.nm, a.fs, a.ls, a.ps, true⟩
def Pl.turn (a : Pl) : Pl := ⟨a.nm, a.fs, a.ls, a.ps ++ both a.ls a.fs, true⟩
mutual
def planI : It → Nat → Pl
  | .call x => fun n => ⟨[x], [n], [n], [], false⟩
  | .may b => fun n => (planB b .e0 n).opt
  | .loop b => fun n => (planB b .e0 n).turn
  | .one bs => fun n => planO bs n
/-- a body's plan behind one that there is -/
def planB : List It → Pl → Nat → Pl
  | [] => fun acc _ => acc
  | i :: r => fun acc n => planB r (acc.seq (planI i (n + acc.nm.length))) n
def planO : List (List It) → Nat → Pl
  | [] => fun _ => .no
  | b :: r => fun n => planA r (planB b .e0 n) n
def planA : List (List It) → Pl → Nat → Pl
  | [] => fun acc _ => acc
  | b :: r => fun acc n => planA r (acc.alt (planB b .e0 (n + acc.nm.length))) n
end
/-- the plan's places lie from n on -/
structure Pl.In (a : Pl) (n : Nat) : Prop where
  fs : ∀ q ∈ a.fs, n ≤ q ∧ q < n + a.nm.length
  ls : ∀ q ∈ a.ls, n ≤ q ∧ q < n + a.nm.length
  ps : ∀ p q, (p, q) ∈ a.ps → (n ≤ p ∧ p < n + a.nm.length) ∧ n ≤ q ∧ q < n + a.nm.length
/-- the place to which a word leads -/
inductive At (nm : Nat → Option Str) (a : Pl) : List Str → Nat → Prop where
  | first {q : Nat} {x : Str} : q ∈ a.fs → nm q = some x → At nm a [x] q
  | next {u : List Str} {p q : Nat} {x : Str} : At nm a u p → (p, q) ∈ a.ps → nm q = some x → At nm a (u ++ [x]) q
def Lg (nm : Nat → Option Str) (a : Pl) (w : List Str) : Prop := (w = [] ∧ a.em = true) ∨ ∃ q ∈ a.ls, At nm a w q
variable {nm : Nat → Option Str}
theorem At.ne {a : Pl} {w : List Str} {q : Nat} (h : At nm a w q) : w ≠ [] := by
  cases h <;> simp
theorem At.inn {a : Pl} {n : Nat} (ha : a.In n) {w : List Str} {q : Nat} (h : At nm a w q) : n ≤ q ∧ q < n + a.nm.length := by
  cases h with
  | first h1 h2 => exact ha.fs _ h1
  | next h1 h2 h3 => exact (ha.ps _ _ h2).2
/-- it has the same ways as another plan, of which it has all firsts and pairs -/
theorem At.mono {a b : Pl} (hf : ∀ q ∈ a.fs, q ∈ b.fs) (hp : ∀ p q, (p, q) ∈ a.ps → (p, q) ∈ b.ps) {w : List Str} {q : Nat} (h : At nm a w q) : At nm b w q := by
  induction h with
  | first h1 h2 => exact .first (hf _ h1) h2
  | next h1 h2 h3 ih => exact .next ih (hp _ _ h2) h3
section Seq
variable {a b : Pl} {n m : Nat} (ha : a.In n) (hb : b.In m) (hm : m = n + a.nm.length)
theorem seq_at1 {w : List Str} {q : Nat} (h : At nm a w q) : At nm (a.seq b) w q := by
  refine h.mono (fun q h => ?_) (fun p q h => ?_)
  · simp only [Pl.seq]
    split
    · exact List.mem_append_left _ h
    · exact h
  · simp only [Pl.seq]
    exact List.mem_append_left _ (List.mem_append_left _ h)
theorem seq_at2 {u v : List Str} {q : Nat} (hu : Lg nm a u) (h : At nm b v q) : At nm (a.seq b) (u ++ v) q := by
  induction h with
  | @first q x h1 h2 =>
    rcases hu with ⟨rfl, he⟩ | ⟨l, hl, hat⟩
    · refine .first ?_ h2
      simp only [Pl.seq, he, if_true]
      exact List.mem_append_right _ h1
    · refine .next (seq_at1 hat) ?_ h2
      simp only [Pl.seq]
      exact List.mem_append_right _ (both_mem.mpr ⟨hl, h1⟩)
  | @next v p q x h1 h2 h3 ih =>
    rw [← List.append_assoc]
    refine .next ih ?_ h3
    simp only [Pl.seq]
    exact List.mem_append_left _ (List.mem_append_right _ h2)
include ha hb hm in
theorem seq_at3 {w : List Str} {q : Nat} (h : At nm (a.seq b) w q) : (q < m ∧ At nm a w q) ∨ (m ≤ q ∧ ∃ u v, w = u ++ v ∧ Lg nm a u ∧ At nm b v q) := by
  induction h with
  | @first q x h1 h2 =>
    simp only [Pl.seq] at h1
    have hh : q ∈ a.fs ∨ (a.em = true ∧ q ∈ b.fs) := by
      split at h1
      · next he => rcases List.mem_append.mp h1 with h | h
                   · exact .inl h
                   · exact .inr ⟨he, h⟩
      · exact .inl h1
    rcases hh with h | ⟨he, h⟩
    · exact .inl ⟨by have := (ha.fs _ h).2; omega, .first h h2⟩
    · exact .inr ⟨(hb.fs _ h).1, [], [x], rfl, .inl ⟨rfl, he⟩, .first h h2⟩
  | @next u p q x h1 h2 h3 ih =>
    simp only [Pl.seq] at h2
    rcases List.mem_append.mp h2 with h2 | h2
    · rcases List.mem_append.mp h2 with h2 | h2
      · have := ha.ps _ _ h2
        rcases ih with ⟨_, ih⟩ | ⟨ih, _⟩
        · exact .inl ⟨by omega, .next ih h2 h3⟩
        · omega
      · have := hb.ps _ _ h2
        rcases ih with ⟨ih, _⟩ | ⟨_, u1, v1, e, e1, e2⟩
        · omega
        · exact .inr ⟨by omega, u1, v1 ++ [x], by rw [e, List.append_assoc], e1, .next e2 h2 h3⟩
    · obtain ⟨k1, k2⟩ := both_mem.mp h2
      have c1 := ha.ls _ k1
      have c2 := hb.fs _ k2
      rcases ih with ⟨_, ih⟩ | ⟨ih, _⟩
      · exact .inr ⟨c2.1, u, [x], rfl, .inr ⟨p, k1, ih⟩, .first k2 h3⟩
      · omega
include ha hb hm in
theorem seq_lg {w : List Str} : Lg nm (a.seq b) w ↔ ∃ u v, w = u ++ v ∧ Lg nm a u ∧ Lg nm b v := by
  constructor
  · rintro (⟨rfl, he⟩ | ⟨q, hq, hat⟩)
    · simp only [Pl.seq, Bool.and_eq_true] at he
      exact ⟨[], [], rfl, .inl ⟨rfl, he.1⟩, .inl ⟨rfl, he.2⟩⟩
    · have hh : (b.em = true ∧ q ∈ a.ls) ∨ q ∈ b.ls := by
        simp only [Pl.seq] at hq
        split at hq
        · next he => rcases List.mem_append.mp hq with h | h
                     · exact .inl ⟨he, h⟩
                     · exact .inr h
        · exact .inr hq
      rcases hh with ⟨he, hq⟩ | hq
      · have := ha.ls _ hq
        rcases seq_at3 ha hb hm hat with ⟨_, h⟩ | ⟨h, _⟩
        · exact ⟨w, [], by simp, .inr ⟨q, hq, h⟩, .inl ⟨rfl, he⟩⟩
        · omega
      · have := hb.ls _ hq
        rcases seq_at3 ha hb hm hat with ⟨h, _⟩ | ⟨_, u, v, e, h1, h2⟩
        · omega
        · exact ⟨u, v, e, h1, .inr ⟨q, hq, h2⟩⟩
  · rintro ⟨u, v, rfl, h1, h2⟩
    rcases h2 with ⟨rfl, he⟩ | ⟨q, hq, hat⟩
    · rcases h1 with ⟨rfl, he1⟩ | ⟨q, hq, hat⟩
      · exact .inl ⟨rfl, by simp [Pl.seq, he, he1]⟩
      · refine .inr ⟨q, ?_, by rw [List.append_nil]; exact seq_at1 hat⟩
        simp only [Pl.seq, he, if_true]
        exact List.mem_append_left _ hq
    · refine .inr ⟨q, ?_, seq_at2 h1 hat⟩
      simp only [Pl.seq]
      split
      · exact List.mem_append_right _ hq
      · exact hq
include ha hb hm in
theorem seq_in : (a.seq b).In n := by
  have l : (a.seq b).nm.length = a.nm.length + b.nm.length := by simp [Pl.seq]
  constructor
  · intro q hq
    have hh : q ∈ a.fs ∨ q ∈ b.fs := by
      simp only [Pl.seq] at hq
      split at hq
      · exact List.mem_append.mp hq
      · exact .inl hq
    rcases hh with h | h
    · have := ha.fs _ h; omega
    · have := hb.fs _ h; omega
  · intro q hq
    have hh : q ∈ a.ls ∨ q ∈ b.ls := by
      simp only [Pl.seq] at hq
      split at hq
      · exact List.mem_append.mp hq
      · exact .inr hq
    rcases hh with h | h
    · have := ha.ls _ h; omega
    · have := hb.ls _ h; omega
  · intro p q hq
    simp only [Pl.seq] at hq
    rcases List.mem_append.mp hq with hq | hq
    · rcases List.mem_append.mp hq with hq | hq
      · have := ha.ps _ _ hq; omega
      · have := hb.ps _ _ hq; omega
    · obtain ⟨k1, k2⟩ := both_mem.mp hq
      have c1 := ha.ls _ k1
      have c2 := hb.fs _ k2
      omega
include ha hb hm in
theorem alt_in : (a.alt b).In n := by
  have l : (a.alt b).nm.length = a.nm.length + b.nm.length := by simp [Pl.alt]
  constructor
  · intro q hq
    rcases List.mem_append.mp hq with h | h
    · have := ha.fs _ h; omega
    · have := hb.fs _ h; omega
  · intro q hq
    rcases List.mem_append.mp hq with h | h
    · have := ha.ls _ h; omega
    · have := hb.ls _ h; omega
  · intro p q hq
    rcases List.mem_append.mp hq with hq | hq
    · have := ha.ps _ _ hq; omega
    · have := hb.ps _ _ hq; omega
theorem alt_at1 {w : List Str} {q : Nat} (h : At nm a w q) : At nm (a.alt b) w q :=
  h.mono (fun q h => List.mem_append_left _ h) (fun p q h => List.mem_append_left _ h)
theorem alt_at2 {w : List Str} {q : Nat} (h : At nm b w q) : At nm (a.alt b) w q :=
  h.mono (fun q h => List.mem_append_right _ h) (fun p q h => List.mem_append_right _ h)
include ha hb hm in
theorem alt_at3 {w : List Str} {q : Nat} (h : At nm (a.alt b) w q) : (q < m ∧ At nm a w q) ∨ (m ≤ q ∧ At nm b w q) := by
  induction h with
  | @first q x h1 h2 =>
    rcases List.mem_append.mp h1 with h | h
    · exact .inl ⟨by have := (ha.fs _ h).2; omega, .first h h2⟩
    · exact .inr ⟨(hb.fs _ h).1, .first h h2⟩
  | @next u p q x h1 h2 h3 ih =>
    rcases List.mem_append.mp h2 with h2 | h2
    · have := ha.ps _ _ h2
      rcases ih with ⟨_, ih⟩ | ⟨ih, _⟩
      · exact .inl ⟨by omega, .next ih h2 h3⟩
      · omega
    · have := hb.ps _ _ h2
      rcases ih with ⟨ih, _⟩ | ⟨_, ih⟩
      · omega
      · exact .inr ⟨by omega, .next ih h2 h3⟩
include ha hb hm in
theorem alt_lg {w : List Str} : Lg nm (a.alt b) w ↔ Lg nm a w ∨ Lg nm b w := by
  constructor
  · rintro (⟨rfl, he⟩ | ⟨q, hq, hat⟩)
    · simp only [Pl.alt, Bool.or_eq_true] at he
      exact he.imp (fun h => .inl ⟨rfl, h⟩) (fun h => .inl ⟨rfl, h⟩)
    · rcases List.mem_append.mp hq with hq | hq
      · have := ha.ls _ hq
        rcases alt_at3 ha hb hm hat with ⟨_, h⟩ | ⟨h, _⟩
        · exact .inl (.inr ⟨q, hq, h⟩)
        · omega
      · have := hb.ls _ hq
        rcases alt_at3 ha hb hm hat with ⟨h, _⟩ | ⟨_, h⟩
        · omega
        · exact .inr (.inr ⟨q, hq, h⟩)
  · rintro ((⟨rfl, he⟩ | ⟨q, hq, hat⟩) | (⟨rfl, he⟩ | ⟨q, hq, hat⟩))
    · exact .inl ⟨rfl, by simp [Pl.alt, he]⟩
    · exact .inr ⟨q, List.mem_append_left _ hq, alt_at1 hat⟩
    · exact .inl ⟨rfl, by simp [Pl.alt, he]⟩
    · exact .inr ⟨q, List.mem_append_right _ hq, alt_at2 hat⟩
end Seq
theorem opt_in {a : Pl} {n : Nat} (ha : a.In n) : a.opt.In n := ⟨ha.fs, ha.ls, ha.ps⟩
theorem turn_in {a : Pl} {n : Nat} (ha : a.In n) : a.turn.In n := by
  refine ⟨ha.fs, ha.ls, fun p q h => ?_⟩
  rcases List.mem_append.mp h with h | h
  · exact ha.ps _ _ h
  · obtain ⟨k1, k2⟩ := both_mem.mp h
    exact ⟨ha.ls _ k1, ha.fs _ k2⟩
theorem opt_lg {a : Pl} {w : List Str} : Lg nm a.opt w ↔ w = [] ∨ Lg nm a w := by
  constructor
  · rintro (⟨rfl, he⟩ | ⟨q, hq, hat⟩)
    · exact .inl rfl
    · exact .inr (.inr ⟨q, hq, At.mono (a := a.opt) (b := a) (fun _ h => h) (fun _ _ h => h) hat⟩)
  · rintro (rfl | ⟨rfl, he⟩ | ⟨q, hq, hat⟩)
    · exact .inl ⟨rfl, rfl⟩
    · exact .inl ⟨rfl, rfl⟩
    · exact .inr ⟨q, hq, At.mono (a := a) (b := a.opt) (fun _ h => h) (fun _ _ h => h) hat⟩
theorem turn_at1 {a : Pl} {u : List Str} (hu : Star (Lg nm a) u) : ∀ {v : List Str} {q : Nat}, At nm a v q → At nm a.turn (u ++ v) q := by
  induction hu with
  | nil => exact fun {v q} h => At.mono (a := a) (b := a.turn) (fun _ h => h) (fun _ _ h => List.mem_append_left _ h) h
  | @snoc u v hu hv hne ih =>
    intro v2 q h
    rcases hv with ⟨z, _⟩ | ⟨l, hl, hat⟩
    · exact absurd z hne
    induction h with
    | first h1 h2 => exact .next (ih hat) (List.mem_append_right _ (both_mem.mpr ⟨hl, h1⟩)) h2
    | next h1 h2 h3 ih2 =>
      rw [← List.append_assoc]
      exact .next ih2 (List.mem_append_left _ h2) h3
theorem turn_at2 {a : Pl} {w : List Str} {q : Nat} (h : At nm a.turn w q) : ∃ u v, w = u ++ v ∧ Star (Lg nm a) u ∧ At nm a v q := by
  induction h with
  | @first q x h1 h2 => exact ⟨[], [x], rfl, .nil, .first h1 h2⟩
  | @next u p q x h1 h2 h3 ih =>
    obtain ⟨u1, v1, e, k1, k2⟩ := ih
    rcases List.mem_append.mp h2 with h2 | h2
    · exact ⟨u1, v1 ++ [x], by rw [e, List.append_assoc], k1, .next k2 h2 h3⟩
    · obtain ⟨c1, c2⟩ := both_mem.mp h2
      exact ⟨u, [x], rfl, by rw [e]; exact .snoc k1 (.inr ⟨p, c1, k2⟩) k2.ne, .first c2 h3⟩
theorem turn_lg {a : Pl} {w : List Str} : Lg nm a.turn w ↔ Star (Lg nm a) w := by
  constructor
  · rintro (⟨rfl, he⟩ | ⟨q, hq, hat⟩)
    · exact .nil
    · obtain ⟨u, v, rfl, h1, h2⟩ := turn_at2 hat
      exact .snoc h1 (.inr ⟨q, hq, h2⟩) h2.ne
  · intro h
    cases h with
    | nil => exact .inl ⟨rfl, rfl⟩
    | @snoc u v hu hv hne =>
      rcases hv with ⟨z, _⟩ | ⟨l, hl, hat⟩
      · exact absurd z hne
      · exact .inr ⟨l, hl, turn_at1 hu hat⟩
theorem Star.imp {L M : List Str → Prop} (h : ∀ w, L w → M w) {w : List Str} (s : Star L w) : Star M w := by
  induction s with
  | nil => exact .nil
  | snoc _ h1 h2 ih => exact .snoc ih (h _ h1) h2
/-- the names stand from n on -/
def Pla (nm : Nat → Option Str) (n : Nat) (l : List Str) : Prop := ∀ k, k < l.length → nm (n + k) = l[k]?
theorem Pla.left {n : Nat} {a b : List Str} (h : Pla nm n (a ++ b)) : Pla nm n a := fun k hk => by
  rw [h k (by rw [List.length_append]; omega), List.getElem?_append_left hk]
theorem Pla.right {n : Nat} {a b : List Str} (h : Pla nm n (a ++ b)) : Pla nm (n + a.length) b := fun k hk => by
  have := h (a.length + k) (by rw [List.length_append]; omega)
  rw [show n + a.length + k = n + (a.length + k) by omega, this, List.getElem?_append_right (by omega)]
  congr 1
  omega
theorem e0_in {n : Nat} : Pl.e0.In n := ⟨(fun q h => nomatch h), (fun q h => nomatch h), (fun p q h => nomatch h)⟩
theorem no_in {n : Nat} : Pl.no.In n := ⟨(fun q h => nomatch h), (fun q h => nomatch h), (fun p q h => nomatch h)⟩
theorem no_lg {w : List Str} : ¬ Lg nm .no w := by
  rintro (⟨_, h⟩ | ⟨q, hq, _⟩)
  · cases h
  · cases hq
theorem e0_lg {w : List Str} : Lg nm .e0 w ↔ w = [] := by
  constructor
  · rintro (⟨rfl, he⟩ | ⟨q, hq, hat⟩)
    · rfl
    · cases hq
  · exact fun h => .inl ⟨h, rfl⟩
/-! ### a plan's names, places and words -/
mutual
/-- the names written in an item, a body, some bodies -/
def wrI : It → List Str
  | .call x => [x]
  | .may b => wrB b
  | .loop b => wrB b
  | .one bs => wrBs bs
def wrB : List It → List Str
  | [] => []
  | i :: r => wrI i ++ wrB r
def wrBs : List (List It) → List Str
  | [] => []
  | b :: r => wrB b ++ wrBs r
end
mutual
theorem planI_nm : ∀ (i : It) (n : Nat), (planI i n).nm = wrI i
  | .call x, n => by simp [planI, wrI]
  | .may b, n => by simp only [planI, wrI, Pl.opt, planB_nm b .e0 n]; rfl
  | .loop b, n => by simp only [planI, wrI, Pl.turn, planB_nm b .e0 n]; rfl
  | .one bs, n => by simp only [planI, wrI]; exact planO_nm bs n
theorem planB_nm : ∀ (l : List It) (a : Pl) (n : Nat), (planB l a n).nm = a.nm ++ wrB l
  | [], a, n => by simp [planB, wrB]
  | i :: r, a, n => by
    simp only [planB, wrB]
    rw [planB_nm r]
    simp only [Pl.seq, planI_nm i, List.append_assoc]
theorem planO_nm : ∀ (bs : List (List It)) (n : Nat), (planO bs n).nm = wrBs bs
  | [], n => by simp [planO, wrBs, Pl.no]
  | b :: r, n => by
    simp only [planO, wrBs]
    rw [planA_nm r, planB_nm b]
    rfl
theorem planA_nm : ∀ (bs : List (List It)) (a : Pl) (n : Nat), (planA bs a n).nm = a.nm ++ wrBs bs
  | [], a, n => by simp [planA, wrBs]
  | b :: r, a, n => by
    simp only [planA, wrBs]
    rw [planA_nm r]
    simp only [Pl.alt, planB_nm b, Pl.e0, List.nil_append, List.append_assoc]
end
mutual
theorem planI_in : ∀ (i : It) (n : Nat), (planI i n).In n
  | .call x, n => by
    refine ⟨fun q h => ?_, fun q h => ?_, fun p q h => ?_⟩
    · simp only [planI, List.mem_singleton] at h ⊢; simp; omega
    · simp only [planI, List.mem_singleton] at h ⊢; simp; omega
    · simp [planI] at h
  | .may b, n => by simp only [planI]; exact opt_in (planB_in b .e0 n e0_in)
  | .loop b, n => by simp only [planI]; exact turn_in (planB_in b .e0 n e0_in)
  | .one bs, n => by simp only [planI]; exact planO_in bs n
theorem planB_in : ∀ (l : List It) (a : Pl) (n : Nat), a.In n → (planB l a n).In n
  | [], a, n, h => by simp only [planB]; exact h
  | i :: r, a, n, h => by
    simp only [planB]
    exact planB_in r _ n (seq_in h (planI_in i _) rfl)
theorem planO_in : ∀ (bs : List (List It)) (n : Nat), (planO bs n).In n
  | [], n => by simp only [planO]; exact no_in
  | b :: r, n => by simp only [planO]; exact planA_in r _ n (planB_in b .e0 n e0_in)
theorem planA_in : ∀ (bs : List (List It)) (a : Pl) (n : Nat), a.In n → (planA bs a n).In n
  | [], a, n, h => by simp only [planA]; exact h
  | b :: r, a, n, h => by
    simp only [planA]
    exact planA_in r _ n (alt_in h (planB_in b .e0 _ e0_in) rfl)
end
mutual
theorem planI_lg : ∀ (i : It) (n : Nat), Pla nm n (wrI i) → ∀ w, Lg nm (planI i n) w ↔ WI i w
  | .call x, n, h, w => by
    have hx : nm n = some x := by have := h 0 (by simp [wrI]); simpa [wrI] using this
    simp only [planI, WI]
    constructor
    · rintro (⟨rfl, he⟩ | ⟨q, hq, hat⟩)
      · cases he
      · cases hat with
        | first h1 h2 =>
          simp only [List.mem_singleton] at h1
          subst h1
          rw [hx] at h2
          cases h2
          rfl
        | next h1 h2 h3 => cases h2
    · rintro rfl
      exact .inr ⟨n, by simp, .first (by simp) hx⟩
  | .may b, n, h, w => by
    simp only [wrI] at h
    simp only [planI, WI, opt_lg]
    rw [planB_lg b .e0 n e0_in (by exact h)]
    constructor
    · rintro (h | ⟨u, v, rfl, h1, h2⟩)
      · exact .inl h
      · rw [e0_lg] at h1; subst h1; exact .inr h2
    · rintro (h | h)
      · exact .inl h
      · exact .inr ⟨[], w, rfl, e0_lg.mpr rfl, h⟩
  | .loop b, n, h, w => by
    simp only [wrI] at h
    simp only [planI, WI, turn_lg]
    have k : ∀ w, Lg nm (planB b .e0 n) w ↔ WB b w := fun w => by
      rw [planB_lg b .e0 n e0_in (by exact h)]
      exact ⟨fun ⟨u, v, e, h1, h2⟩ => by rw [e0_lg] at h1; subst h1; rw [e]; exact h2, fun h => ⟨[], w, rfl, e0_lg.mpr rfl, h⟩⟩
    exact ⟨Star.imp fun w => (k w).mp, Star.imp fun w => (k w).mpr⟩
  | .one bs, n, h, w => by
    simp only [wrI] at h
    simp only [planI, WI]
    exact planO_lg bs n h w
theorem planB_lg : ∀ (l : List It) (a : Pl) (n : Nat), a.In n → Pla nm n (a.nm ++ wrB l) → ∀ {w}, Lg nm (planB l a n) w ↔ ∃ u v, w = u ++ v ∧ Lg nm a u ∧ WB l v
  | [], a, n, hi, h, w => by
    simp only [planB, WB]
    exact ⟨fun h => ⟨w, [], by simp, h, rfl⟩, fun ⟨u, v, e, h1, h2⟩ => by subst h2; rw [e, List.append_nil]; exact h1⟩
  | i :: r, a, n, hi, h, w => by
    simp only [wrB] at h
    have ii := planI_in i (n + a.nm.length)
    have h1 : Pla nm (n + a.nm.length) (wrI i) := (Pla.right h).left
    have k := planI_lg i (n + a.nm.length) h1
    simp only [planB, WB]
    rw [planB_lg r _ n (seq_in hi ii rfl) (by simp only [Pl.seq, planI_nm i, List.append_assoc]; exact h)]
    constructor
    · rintro ⟨u, v, rfl, h1, h2⟩
      rw [seq_lg hi ii rfl] at h1
      obtain ⟨u1, v1, rfl, h3, h4⟩ := h1
      exact ⟨u1, v1 ++ v, by rw [List.append_assoc], h3, v1, v, rfl, (k v1).mp h4, h2⟩
    · rintro ⟨u, v, rfl, h1, u1, v1, rfl, h2, h3⟩
      exact ⟨u ++ u1, v1, by rw [List.append_assoc], (seq_lg hi ii rfl).mpr ⟨u, u1, rfl, h1, (k u1).mpr h2⟩, h3⟩
theorem planO_lg : ∀ (bs : List (List It)) (n : Nat), Pla nm n (wrBs bs) → ∀ w, Lg nm (planO bs n) w ↔ WBs bs w
  | [], n, h, w => by
    simp only [planO, WBs, iff_false]
    exact no_lg
  | b :: r, n, h, w => by
    simp only [wrBs] at h
    have k : ∀ w, Lg nm (planB b .e0 n) w ↔ WB b w := fun w => by
      rw [planB_lg b .e0 n e0_in (by exact h.left)]
      exact ⟨fun ⟨u, v, e, h1, h2⟩ => by rw [e0_lg] at h1; subst h1; rw [e]; exact h2, fun h => ⟨[], w, rfl, e0_lg.mpr rfl, h⟩⟩
    simp only [planO, WBs]
    rw [planA_lg r _ n (planB_in b .e0 n e0_in) (by rw [planB_nm b]; exact h), k]
theorem planA_lg : ∀ (bs : List (List It)) (a : Pl) (n : Nat), a.In n → Pla nm n (a.nm ++ wrBs bs) → ∀ {w}, Lg nm (planA bs a n) w ↔ Lg nm a w ∨ WBs bs w
  | [], a, n, hi, h, w => by simp [planA, WBs]
  | b :: r, a, n, hi, h, w => by
    simp only [wrBs] at h
    have h1 : Pla nm (n + a.nm.length) (wrB b) := (Pla.right h).left
    have k : ∀ w, Lg nm (planB b .e0 (n + a.nm.length)) w ↔ WB b w := fun w => by
      rw [planB_lg b .e0 _ e0_in (by exact h1)]
      exact ⟨fun ⟨u, v, e, h1, h2⟩ => by rw [e0_lg] at h1; subst h1; rw [e]; exact h2, fun h => ⟨[], w, rfl, e0_lg.mpr rfl, h⟩⟩
    have ii := planB_in b .e0 (n + a.nm.length) e0_in
    simp only [planA, WBs]
    rw [planA_lg r _ n (alt_in hi ii rfl) (by simp only [Pl.alt, planB_nm b, Pl.e0, List.nil_append, List.append_assoc]; exact h), alt_lg hi ii rfl, k, or_assoc]
end
end FA

set_option Elab.async false
set_option linter.all false
set_option maxRecDepth 100000
set_option maxHeartbeats 4000000
/-! Plans in the heap; two loops in one comprehension; how long plans are. -/
namespace FA
open PySem PySem.Spec PyProof.Rows L2
variable {K : PySem.W.Frag} {H H' : Hp}
def nts (l : List Nat) : List V := l.map fun (q : Nat) => V.int (q : Int)
theorem nts_len (l : List Nat) : (nts l).length = l.length := by simp [nts]
theorem nts_app (a b : List Nat) : nts (a ++ b) = nts a ++ nts b := by simp [nts]
theorem nts_get {l : List Nat} {j : Nat} {v : V} (h : (nts l)[j]? = some v) : ∃ q : Nat, l[j]? = some q ∧ v = .int (q : Int) := by
  unfold nts at h
  rw [List.getElem?_map] at h
  cases e : l[j]? with
  | none => rw [e] at h; cases h
  | some q => rw [e] at h; cases h; exact ⟨q, rfl, rfl⟩
/-- references to pairs of numbers -/
inductive PrsAt (H : Hp) : List V → List (Nat × Nat) → Prop where
  | nil : PrsAt H [] []
  | cons {t : Addr} {q : Nat × Nat} {vs : List V} {l : List (Nat × Nat)} : H t = some (.tup [.int (q.1 : Int), .int (q.2 : Int)]) → PrsAt H vs l → PrsAt H (.ref t :: vs) (q :: l)
theorem PrsAt.keep (k : ∀ t xs, H t = some (.tup xs) → H' t = some (.tup xs)) : ∀ {vs : List V} {l : List (Nat × Nat)}, PrsAt H vs l → PrsAt H' vs l
  | _, _, .nil => .nil
  | _, _, .cons h t => .cons (k _ _ h) (t.keep k)
theorem PrsAt.length : ∀ {vs : List V} {l : List (Nat × Nat)}, PrsAt H vs l → vs.length = l.length
  | _, _, .nil => rfl
  | _, _, .cons _ t => congrArg (· + 1) t.length
theorem PrsAt.app : ∀ {vs ws : List V} {l m : List (Nat × Nat)}, PrsAt H vs l → PrsAt H ws m → PrsAt H (vs ++ ws) (l ++ m)
  | _, _, _, _, .nil, k => k
  | _, _, _, _, .cons h t, k => .cons h (t.app k)
theorem PrsAt.get : ∀ {vs : List V} {l : List (Nat × Nat)} {i : Nat} {v : V}, PrsAt H vs l → vs[i]? = some v → ∃ t q, v = .ref t ∧ l[i]? = some q ∧ H t = some (.tup [.int (q.1 : Int), .int (q.2 : Int)])
  | _, _, 0, _, .cons h t, e => by cases e; exact ⟨_, _, rfl, rfl, h⟩
  | _, _, i + 1, _, .cons h t, e => t.get (i := i) e
/-- a plan in the heap -/
def PlAt (H : Hp) (t : Addr) (a : Pl) : Prop := ∃ (n f l p : Addr) (ws : List V), H t = some (.tup [.ref n, .ref f, .ref l, .ref p, .bl a.em]) ∧ H n = some (.lst (a.nm.map V.str)) ∧ H f = some (.lst (nts a.fs)) ∧ H l = some (.lst (nts a.ls)) ∧ H p = some (.lst ws) ∧ PrsAt H ws a.ps
theorem PlAt.keep (s : Same H H') {t : Addr} {a : Pl} (h : PlAt H t a) : PlAt H' t a :=
  let ⟨n, f, l, p, ws, h1, h2, h3, h4, h5, h6⟩ := h
  ⟨n, f, l, p, ws, s _ _ h1, s _ _ h2, s _ _ h3, s _ _ h4, s _ _ h5, h6.keep fun _ _ e => s _ _ e⟩
/-! ### how long -/
structure Pl.Sz (a : Pl) (D : Nat) : Prop where
  fs : a.fs.length ≤ a.nm.length
  ls : a.ls.length ≤ a.nm.length
  ps : a.ps.length ≤ D * (a.nm.length * a.nm.length)
theorem both_len : ∀ (l f : List Nat), (both l f).length = l.length * f.length
  | [], f => by simp [both]
  | x :: r, f => by
    have ih := both_len r f
    simp only [both, List.flatMap_cons, List.length_append, List.length_map, List.length_cons] at ih ⊢
    rw [ih, Nat.add_mul]
    omega
theorem Pl.Sz.mono {a : Pl} {D D' : Nat} (h : a.Sz D) (d : D ≤ D') : a.Sz D' := ⟨h.fs, h.ls, Nat.le_trans h.ps (Nat.mul_le_mul_right _ d)⟩
theorem sq_add (a b : Nat) : (a + b) * (a + b) = a * a + a * b + (a * b + b * b) := by
  rw [Nat.add_mul, Nat.mul_add, Nat.mul_add, Nat.mul_comm b a]
theorem seq_sz {a b : Pl} {D : Nat} (hD : 1 ≤ D) (ha : a.Sz D) (hb : b.Sz D) : (a.seq b).Sz D := by
  have a1 := ha.fs
  have a2 := ha.ls
  have b1 := hb.fs
  have b2 := hb.ls
  refine ⟨?_, ?_, ?_⟩
  · simp only [Pl.seq, List.length_append]
    split
    · rw [List.length_append]; omega
    · omega
  · simp only [Pl.seq, List.length_append]
    split
    · rw [List.length_append]; omega
    · omega
  · simp only [Pl.seq, List.length_append, both_len]
    have a3 := ha.ps
    have b3 := hb.ps
    have c1 : a.ls.length * b.fs.length ≤ a.nm.length * b.nm.length := Nat.mul_le_mul a2 b1
    have c2 : a.nm.length * b.nm.length ≤ D * (a.nm.length * b.nm.length) := Nat.le_mul_of_pos_left _ hD
    rw [sq_add, Nat.mul_add, Nat.mul_add, Nat.mul_add]
    omega
theorem alt_sz {a b : Pl} {D : Nat} (ha : a.Sz D) (hb : b.Sz D) : (a.alt b).Sz D := by
  have a1 := ha.fs
  have a2 := ha.ls
  have b1 := hb.fs
  have b2 := hb.ls
  refine ⟨?_, ?_, ?_⟩
  · simp only [Pl.alt, List.length_append]; omega
  · simp only [Pl.alt, List.length_append]; omega
  · simp only [Pl.alt, List.length_append]
    have a3 := ha.ps
    have b3 := hb.ps
    rw [sq_add, Nat.mul_add, Nat.mul_add, Nat.mul_add]
    omega
theorem turn_sz {a : Pl} {D : Nat} (ha : a.Sz D) : a.turn.Sz (D + 1) := by
  refine ⟨ha.fs, ha.ls, ?_⟩
  simp only [Pl.turn, List.length_append, both_len]
  have a3 := ha.ps
  have c := Nat.mul_le_mul ha.ls ha.fs
  rw [Nat.add_mul, Nat.one_mul]
  omega
theorem e0_sz {D : Nat} : Pl.e0.Sz D := ⟨Nat.le_refl _, Nat.le_refl _, Nat.zero_le _⟩
mutual
theorem planI_sz : ∀ (i : It) (n : Nat), (planI i n).Sz (dI i + 1)
  | .call x, n => by
    simp only [planI]
    exact ⟨Nat.le_refl _, Nat.le_refl _, Nat.zero_le _⟩
  | .may b, n => by
    have h := (planB_sz b .e0 n (dB b) e0_sz (Nat.le_refl _)).mono (Nat.le_succ _)
    simp only [planI, dI]
    exact ⟨h.fs, h.ls, h.ps⟩
  | .loop b, n => by
    simp only [planI, dI]
    exact turn_sz (planB_sz b .e0 n (dB b) e0_sz (Nat.le_refl _))
  | .one bs, n => by
    simp only [planI, dI]
    exact (planO_sz bs n (dBs bs) (Nat.le_refl _)).mono (Nat.le_succ _)
theorem planB_sz : ∀ (l : List It) (a : Pl) (n : Nat) (D : Nat), a.Sz D → dB l ≤ D → (planB l a n).Sz D
  | [], a, n, D, h, d => by simp only [planB]; exact h
  | i :: r, a, n, D, h, d => by
    simp only [dB] at d
    simp only [planB]
    exact planB_sz r _ n D (seq_sz (by omega) h ((planI_sz i _).mono (by omega))) (by omega)
theorem planO_sz : ∀ (bs : List (List It)) (n : Nat) (D : Nat), dBs bs ≤ D → (planO bs n).Sz D
  | [], n, D, d => by simp only [planO]; exact ⟨Nat.le_refl _, Nat.le_refl _, Nat.zero_le _⟩
  | b :: r, n, D, d => by
    simp only [dBs] at d
    simp only [planO]
    exact planA_sz r _ n D (planB_sz b .e0 n D e0_sz (by omega)) (by omega)
theorem planA_sz : ∀ (bs : List (List It)) (a : Pl) (n : Nat) (D : Nat), a.Sz D → dBs bs ≤ D → (planA bs a n).Sz D
  | [], a, n, D, h, d => by simp only [planA]; exact h
  | b :: r, a, n, D, h, d => by
    simp only [dBs] at d
    simp only [planA]
    exact planA_sz r _ n D (alt_sz h (planB_sz b .e0 _ D e0_sz (by omega))) (by omega)
end
/-- a plan is small: no list of it is longer than 500 -/
structure Pl.Few (a : Pl) : Prop where
  nm : a.nm.length ≤ 8
  fs : a.fs.length ≤ 8
  ls : a.ls.length ≤ 8
  ps : a.ps.length ≤ 400
theorem Pl.Sz.few {a : Pl} {D : Nat} (h : a.Sz D) (d : D ≤ 6) (n : a.nm.length ≤ 8) : a.Few := by
  refine ⟨n, Nat.le_trans h.fs n, Nat.le_trans h.ls n, Nat.le_trans h.ps ?_⟩
  exact Nat.le_trans (Nat.mul_le_mul d (Nat.mul_le_mul n n)) (by decide)
/-- [(a, b) for a in l for b in f] -/
theorem lc2S {l f : List Nat} {te : TE} {i1 i2 : Nat} {σ : L2.St} {H1 : Hp} {A B D : Addr} {wi1 : TI} {Qd : Hp → Prop} (hA : H1 A = some (.lst (nts l))) (hl : l.length ≤ 8) (hf : f.length ≤ 8) (hD : H1 D = none) (ne : i1 ≠ i2) (h1 : i1 < σ.length) (h2 : i2 < σ.length)
    (walk : ∀ (σ' : L2.St) (H : Hp) (q : Nat) (Q : L2.It → Hp → Prop), Same H1 H → σ' = (wipe σ [i1, i2]).set i1 (some (.int (q : Int))) → Q (Itl K B) H → wi1 σ' H Q) (hB : H1 B = some (.lst (nts f)))
    (el : ∀ (σ' : L2.St) (H : Hp) (p q : Nat) (Q : VK), σ'[i1]? = some (some (.int (p : Int))) → σ'[i2]? = some (some (.int (q : Int))) → (∀ t, H t = none → Q (.ref t) (upd H t (.tup [.int (p : Int), .int (q : Int)]))) → te σ' H Q)
    (fin : ∀ H ws, Same H1 H → H D = some (.lst ws) → PrsAt H ws (both l f) → Qd H) :
    ∃ W : Nat → Nat → Hp → Prop, (∃ m, W 0 m (upd H1 D (.lst []))) ∧ ∀ i m H, W i m H → ((Itl K A).stop i H ∧ Qd H) ∨ ((Itl K A).go i H ∧ ∃ Nx : Hp → Prop, (∀ H', Nx H' → ∃ m', m' < m ∧ W (i + 1) m' H') ∧ ∀ x H', (Itl K A).yld i H x H' → gName i1 x (wipe σ [i1, i2]) H' fun σ2 H2 => wipe σ2 [i1, i2] = wipe σ [i1, i2] ∧ tYes σ2 H2 fun b H3 => if b = true then wi1 σ2 H3 fun J1 H4 => ∃ W1 : Nat → Nat → Hp → Prop, (∃ m, W1 0 m H4) ∧ ∀ j k H, W1 j k H → (J1.stop j H ∧ Nx H) ∨ (J1.go j H ∧ ∃ Nx1 : Hp → Prop, (∀ H', Nx1 H' → ∃ k', k' < k ∧ W1 (j + 1) k' H') ∧ ∀ x H', J1.yld j H x H' → gName i2 x (wipe σ2 [i2]) H' fun σ3 H5 => wipe σ3 [i2] = wipe σ2 [i2] ∧ tYes σ3 H5 fun b H6 => if b = true then te σ3 H6 fun y H7 => ∃ acc, H7 D = some (.lst acc) ∧ acc.length < sizeLine ∧ Nx1 (upd H7 D (.lst (acc ++ [y]))) else Nx1 H6) else Nx H3) := by
  have tk : ∀ (o : HO) (H : Hp) (ws : List V), H D = some (.lst ws) → ∀ a xs, H a = some (.tup xs) → (upd H D o) a = some (.tup xs) := fun o H ws hy a xs e => by
    rw [upd_ne]
    · exact e
    · rintro rfl
      rw [hy] at e
      cases e
  have lw : (wipe σ [i1, i2]).length = σ.length := by rw [wipe_length]
  refine ⟨fun i m H => i ≤ l.length ∧ m = l.length - i ∧ Same H1 H ∧ ∃ ws, H D = some (.lst ws) ∧ PrsAt H ws (both (l.take i) f), ⟨_, Nat.zero_le _, rfl, fun b o e => by rw [upd_ne (ne_of_none e hD)]; exact e, [], upd_same, ?_⟩, ?_⟩
  · rw [List.take_zero]; exact .nil
  rintro i m H ⟨hi, rfl, sm, ws, hws, hp⟩
  by_cases hlt : i < l.length
  · have hlt2 : i < (nts l).length := by rw [nts_len]; exact hlt
    refine .inr ⟨go_l (SqL.of hA) i H sm hlt2, fun H' => i + 1 ≤ l.length ∧ Same H1 H' ∧ ∃ ws, H' D = some (.lst ws) ∧ PrsAt H' ws (both (l.take (i + 1)) f), fun H' h => ⟨l.length - (i + 1), by omega, h.1, rfl, h.2⟩, fun x H' y => ?_⟩
    obtain ⟨rfl, hx⟩ := yld_l (SqL.of hA) i H x H' sm hlt2 y
    obtain ⟨p, e1, rfl⟩ := nts_get hx
    have tk1 : both (l.take (i + 1)) f = both (l.take i) f ++ f.map fun b => (p, b) := by
      rw [List.take_add_one, e1]
      simp [both]
    refine ⟨?_, ?_⟩
    · show ((((((σ.set i2 none).set i1 none)).set i1 (some (.int (p : Int)))).set i2 none)).set i1 none = (σ.set i2 none).set i1 none
      rw [List.set_set, List.set_comm _ _ ne, List.set_set, List.set_set]
    · refine yesT ?_
      rw [if_pos rfl]
      refine walk _ _ p _ sm rfl ?_
      refine ⟨fun j k H => j ≤ f.length ∧ k = f.length - j ∧ Same H1 H ∧ ∃ ws, H D = some (.lst ws) ∧ PrsAt H ws (both (l.take i) f ++ (f.take j).map fun b => (p, b)), ⟨_, Nat.zero_le _, rfl, sm, ws, hws, ?_⟩, ?_⟩
      · rw [List.take_zero, List.map_nil, List.append_nil]; exact hp
      rintro j k H2 ⟨hj, rfl, s2, ws2, hws2, hp2⟩
      by_cases hjl : j < f.length
      · have hjl2 : j < (nts f).length := by rw [nts_len]; exact hjl
        refine .inr ⟨go_l (SqL.of hB) j H2 s2 hjl2, fun H' => j + 1 ≤ f.length ∧ Same H1 H' ∧ ∃ ws, H' D = some (.lst ws) ∧ PrsAt H' ws (both (l.take i) f ++ (f.take (j + 1)).map fun b => (p, b)), fun H' h => ⟨f.length - (j + 1), by omega, h.1, rfl, h.2⟩, fun x H' y => ?_⟩
        obtain ⟨rfl, hx2⟩ := yld_l (SqL.of hB) j H2 x H' s2 hjl2 y
        obtain ⟨q, e2, rfl⟩ := nts_get hx2
        refine ⟨?_, ?_⟩
        · show ((((wipe σ [i1, i2]).set i1 (some (.int (p : Int)))).set i2 none).set i2 (some (.int (q : Int)))).set i2 none = ((wipe σ [i1, i2]).set i1 (some (.int (p : Int)))).set i2 none
          rw [List.set_set, List.set_set]
        · refine yesT ?_
          rw [if_pos rfl]
          refine el _ _ p q _ ?_ ?_ fun t ht => ?_
          · show ((((wipe σ [i1, i2]).set i1 (some (.int (p : Int)))).set i2 none).set i2 (some (.int (q : Int))))[i1]? = _
            rw [List.set_set, List.getElem?_set_ne (Ne.symm ne), List.getElem?_set_self (by rw [lw]; exact h1)]
          · show ((((wipe σ [i1, i2]).set i1 (some (.int (p : Int)))).set i2 none).set i2 (some (.int (q : Int))))[i2]? = _
            rw [List.set_set, List.getElem?_set_self (by rw [List.length_set, lw]; exact h2)]
          · have htD : D ≠ t := ne_of_none hws2 ht
            have s3 := same_upd0 ht (.tup [.int (p : Int), .int (q : Int)])
            have pl := hp2.length
            have b1 : (both (l.take i) f).length ≤ 64 := by
              rw [both_len, List.length_take]
              exact Nat.le_trans (Nat.mul_le_mul (Nat.le_trans (Nat.min_le_right _ _) hl) hf) (by decide)
            have b2 : ((f.take j).map fun b => (p, b)).length ≤ 8 := by rw [List.length_map, List.length_take]; omega
            rw [List.length_append] at pl
            refine ⟨ws2, s3 _ _ hws2, small1000 (by omega), by omega, fun b o e => ?_, ws2 ++ [.ref t], upd_same, ?_⟩
            · rw [upd_ne (ne_of_none e hD)]; exact s3 _ _ (s2 _ _ e)
            · have e3 : (f.take (j + 1)).map (fun b => (p, b)) = (f.take j).map (fun b => (p, b)) ++ [(p, q)] := by
                rw [List.take_add_one, e2]
                simp
              rw [e3, ← List.append_assoc]
              refine PrsAt.app ((hp2.keep fun a xs e => s3 _ _ e).keep (tk _ _ _ (s3 _ _ hws2))) (.cons ?_ .nil)
              exact tk _ _ _ (s3 _ _ hws2) _ _ upd_same
      · have : j = f.length := by omega
        subst this
        refine .inl ⟨by have := stop_l (SqL.of (K := K) hB) H2 s2; rw [nts_len] at this; exact this, hlt, s2, ws2, hws2, ?_⟩
        rw [List.take_length] at hp2
        rw [tk1]
        exact hp2
  · have : i = l.length := by omega
    subst this
    refine .inl ⟨by have := stop_l (SqL.of (K := K) hA) H sm; rw [nts_len] at this; exact this, fin H ws sm hws ?_⟩
    rw [List.take_length] at hp
    exact hp
section
variable {X : Cx} {w : World} {l tg : Expr} {tl : TE}
theorem pi_listK (hK : X.K = K) (h : PE X l tl) : PI X tg l (iList K tl) := by subst hK; exact pi_list h
theorem op_in_seqK (hK : X.K = K) : OpR X (compareOp .In) (rIn K false) := by subst hK; exact op_in_seq
theorem cr_sortedSetK (hw : X.w = w) (hc : X.calm = true) : CallR X (.builtin "sorted") (rSortedSet w) := by subst hw; exact cr_sortedSet hc
theorem pe_siK {elt tg iter : Expr} {ifs : List Expr} {scope : Scope} {own : List (Str × Nat)} {pos : Pos} {wi : TI} {g : TG} {tt : TT} {te : TE} (hw : X.w = w) (hc : X.calm = true) (nd : X.N.Nodup) (hi : PI X tg iter wi) (ok : BlkOk X.N X.env.scope scope own)
    (hg : ∀ (s : Shared) (H : Hp) (C : Addr) (cl : List (Str × Addr)) (fp : List Addr), PG (X.blk s H scope (compEnvC scope cl C X.env) fp) tg g) (ht : ∀ (s : Shared) (H : Hp) (C : Addr) (cl : List (Str × Addr)) (fp : List Addr), PTs (X.blk s H scope (compEnvC scope cl C X.env) fp) ifs tt)
    (he : ∀ (s : Shared) (H : Hp) (C : Addr) (cl : List (Str × Addr)) (fp : List Addr), PE (X.blk s H scope (compEnvC scope cl C X.env) fp) elt te) (fold : ∀ x, foldedSetIterable iter X.env x = pure x := by intro _; rfl) :
    PE X (.SetComp elt [⟨tg, iter, ifs, 0⟩] scope pos) (tSi w wi g tt te (own.map (·.2))) := by subst hw; exact pe_si hc nd hi ok hg ht he fold
end
mutual
theorem wrI_len : ∀ i : It, (wrI i).length = nC i
  | .call x => by simp [wrI, nC]
  | .may b => by simp only [wrI, nC, wrB_len b]
  | .loop b => by simp only [wrI, nC, wrB_len b]
  | .one bs => by simp only [wrI, nC, wrBs_len bs]
theorem wrB_len : ∀ b : List It, (wrB b).length = nCB b
  | [] => by simp [wrB, nCB]
  | i :: r => by simp only [wrB, nCB, List.length_append, wrI_len i, wrB_len r]
theorem wrBs_len : ∀ bs : List (List It), (wrBs bs).length = nCBs bs
  | [] => by simp [wrBs, nCBs]
  | b :: r => by simp only [wrBs, nCBs, List.length_append, wrB_len b, wrBs_len r]
end
theorem planB_app : ∀ (l m : List It) (a : Pl) (n : Nat), planB (l ++ m) a n = planB m (planB l a n) n
  | [], m, a, n => by simp only [List.nil_append, planB]
  | i :: r, m, a, n => by simp only [List.cons_append, planB, planB_app r m]
theorem planB_take {l : List It} {j : Nat} {i : It} (h : l[j]? = some i) (a : Pl) (n : Nat) : planB (l.take (j + 1)) a n = (planB (l.take j) a n).seq (planI i (n + (planB (l.take j) a n).nm.length)) := by
  rw [List.take_add_one, h, planB_app]
  simp only [Option.toList_some, planB]
theorem planA_app : ∀ (l m : List (List It)) (a : Pl) (n : Nat), planA (l ++ m) a n = planA m (planA l a n) n
  | [], m, a, n => by simp only [List.nil_append, planA]
  | i :: r, m, a, n => by simp only [List.cons_append, planA, planA_app r m]
theorem planA_take {l : List (List It)} {j : Nat} {b : List It} (h : l[j]? = some b) (a : Pl) (n : Nat) : planA (l.take (j + 1)) a n = (planA (l.take j) a n).alt (planB b .e0 (n + (planA (l.take j) a n).nm.length)) := by
  rw [List.take_add_one, h, planA_app]
  simp only [Option.toList_some, planA]
theorem dBs_take : ∀ (l : List (List It)) (k : Nat), dBs (l.take k) ≤ dBs l
  | [], k => by simp
  | b :: r, 0 => by simp [dBs]
  | b :: r, k + 1 => by
    have := dBs_take r k
    simp only [List.take_succ_cons, dBs]
    omega
theorem nCBs_take : ∀ (l : List (List It)) (k : Nat), nCBs (l.take k) ≤ nCBs l
  | [], k => by simp
  | b :: r, 0 => by simp [nCBs]
  | b :: r, k + 1 => by
    have := nCBs_take r k
    simp only [List.take_succ_cons, nCBs]
    omega
theorem planB_few {l : List It} {n D : Nat} (d : dB l ≤ D) (hD : D ≤ 6) (c : nCB l ≤ 8) : (planB l .e0 n).Few :=
  (planB_sz l .e0 n D e0_sz d).few hD (by rw [planB_nm, List.length_append, wrB_len]; simp only [Pl.e0, List.length_nil]; omega)
theorem planI_few {i : It} {n D : Nat} (d : dI i + 1 ≤ D) (hD : D ≤ 6) (c : nC i ≤ 8) : (planI i n).Few :=
  ((planI_sz i n).mono d).few hD (by rw [planI_nm, wrI_len]; omega)
theorem planO_few {bs : List (List It)} {n D : Nat} (d : dBs bs ≤ D) (hD : D ≤ 6) (c : nCBs bs ≤ 8) : (planO bs n).Few :=
  (planO_sz bs n D d).few hD (by rw [planO_nm, wrBs_len]; omega)
/-- an item that is no call is its bodies' plan, and more -/
theorem planI_bodies : ∀ (i : It) (n : Nat), (∀ x, i ≠ .call x) → planI i n = match i with | .may _ => (planO (bodies i) n).opt | .loop _ => (planO (bodies i) n).turn | _ => planO (bodies i) n
  | .call x, n, h => absurd rfl (h x)
  | .may b, n, _ => by simp only [planI, bodies, planO, planA]
  | .loop b, n, _ => by simp only [planI, bodies, planO, planA]
  | .one bs, n, _ => by simp only [planI, bodies]
end FA

set_option Elab.async false
set_option linter.all false
set_option maxRecDepth 100000
set_option maxHeartbeats 4000000
/-! What repr needs of data, put together from parts. -/
namespace FA
open PySem PySem.Spec PyProof.Rows L2
/-- d can be shown, is at most k deep and of a bulk of at most b -/
structure Fits (d : PyData) (k b : Nat) : Prop where
  sh : d.showable = true
  lv : d.leavesShort 13 = true
  dp : d.depth ≤ k
  bk : d.bulk ≤ b
structure FitsAll (ds : List PyData) (k b : Nat) : Prop where
  sh : PyData.showableAll ds = true
  lv : PyData.leavesShortAll 13 ds = true
  dp : PyData.depthAll ds ≤ k
  bk : PyData.bulkAll ds ≤ b
theorem Fits.str {x : Str} (h : okName x) : Fits (.str x) 0 8 := ⟨rfl, by simp only [PyData.leavesShort]; exact h.short, by simp [PyData.depth], by simp only [PyData.bulk]; exact h.2.1⟩
theorem Fits.non : Fits .none 0 0 := ⟨rfl, rfl, by simp [PyData.depth], by simp [PyData.bulk]⟩
theorem Fits.bool (b : Bool) : Fits (.bool b) 0 0 := ⟨rfl, rfl, by simp [PyData.depth], by simp [PyData.bulk]⟩
theorem int_fits_ok : ∀ n : Fin 1000, (PyData.int ((n : Nat) : Int)).leavesShort 13 = true ∧ (PyData.int ((n : Nat) : Int)).showable = true := by decide +kernel
theorem Fits.int {n : Nat} (h : n < 1000) : Fits (.int (n : Nat)) 0 0 := by
  obtain ⟨h1, h2⟩ := int_fits_ok ⟨n, h⟩
  exact ⟨h2, h1, by simp [PyData.depth], by simp [PyData.bulk]⟩
theorem Fits.list {ds : List PyData} {k b : Nat} (h : FitsAll ds k b) : Fits (.list ds) (k + 1) b := ⟨by simp only [PyData.showable]; exact h.sh, by simp only [PyData.leavesShort]; exact h.lv, by have := h.dp; simp only [PyData.depth]; omega, by simp only [PyData.bulk]; exact h.bk⟩
theorem Fits.tup {ds : List PyData} {k b : Nat} (h : FitsAll ds k b) : Fits (.tuple ds) (k + 1) b := ⟨by simp only [PyData.showable]; exact h.sh, by simp only [PyData.leavesShort]; exact h.lv, by have := h.dp; simp only [PyData.depth]; omega, by simp only [PyData.bulk]; exact h.bk⟩
theorem FitsAll.nil {k b : Nat} : FitsAll [] k b := ⟨rfl, rfl, by simp [PyData.depthAll], by simp [PyData.bulkAll]⟩
theorem FitsAll.cons {d : PyData} {ds : List PyData} {k b c : Nat} (h : Fits d k b) (t : FitsAll ds k c) : FitsAll (d :: ds) k (b + 1 + c) := ⟨by simp only [PyData.showableAll, h.sh, t.sh, Bool.and_self], by simp only [PyData.leavesShortAll, h.lv, t.lv, Bool.and_self], by have := h.dp; have := t.dp; simp only [PyData.depthAll]; omega, by have := h.bk; have := t.bk; simp only [PyData.bulkAll]; omega⟩
theorem Fits.mono {d : PyData} {k b k' b' : Nat} (h : Fits d k b) (hk : k ≤ k') (hb : b ≤ b') : Fits d k' b' := ⟨h.sh, h.lv, by have := h.dp; omega, by have := h.bk; omega⟩
theorem FitsAll.mono {ds : List PyData} {k b k' b' : Nat} (h : FitsAll ds k b) (hk : k ≤ k') (hb : b ≤ b') : FitsAll ds k' b' := ⟨h.sh, h.lv, by have := h.dp; omega, by have := h.bk; omega⟩
/-- all alike -/
theorem FitsAll.map {α : Type} {f : α → PyData} {k b : Nat} : ∀ {l : List α}, (∀ a ∈ l, Fits (f a) k b) → FitsAll (l.map f) k ((b + 1) * l.length)
  | [], _ => .nil
  | a :: r, h => by
    have h1 := h a (by simp)
    have h2 := FitsAll.map (l := r) fun x hx => h x (List.mem_cons_of_mem _ hx)
    rw [List.map_cons]
    exact (FitsAll.cons h1 h2).mono (Nat.le_refl _) (by rw [List.length_cons, Nat.mul_succ]; omega)
theorem FitsAll.strs {ls : List Str} (h : ∀ x ∈ ls, okName x) : FitsAll (ls.map PyData.str) 0 (9 * ls.length) := FitsAll.map (b := 8) fun x hx => .str (h x hx)
theorem Fits.len {d : PyData} {k b : Nat} (h : Fits d k b) (hb : b ≤ 1000000) : d.shown.length ≤ sizeLine := by
  refine PyData.shown_fits_bulk (B := 13) (by decide) (by decide) h.lv ?_
  have h1 := h.bk
  have e : (2 : Nat) ^ 20 = 1048576 := by decide
  omega
end FA

set_option Elab.async false
set_option linter.all false
set_option maxRecDepth 100000
/-! Places of a word up to which bodies can match it. -/
namespace FA
open PySem
/-- from place s to place p the word is v -/
def Sub (u : List Str) (s p : Nat) (v : List Str) : Prop := s ≤ p ∧ p ≤ u.length ∧ (u.drop s).take (p - s) = v
theorem Sub.len {u v : List Str} {s p : Nat} (h : Sub u s p v) : v.length = p - s := by
  obtain ⟨h1, h2, h3⟩ := h
  rw [← h3, List.length_take, List.length_drop]
  omega
theorem sub_nil {u : List Str} {s p : Nat} : Sub u s p [] ↔ s = p ∧ p ≤ u.length := by
  constructor
  · intro h
    have := h.len
    simp at this
    exact ⟨by have := h.1; omega, h.2.1⟩
  · rintro ⟨rfl, h⟩
    exact ⟨Nat.le_refl _, h, by rw [Nat.sub_self, List.take_zero]⟩
theorem sub_one {u : List Str} {s p : Nat} {x : Str} : Sub u s p [x] ↔ p = s + 1 ∧ u[s]? = some x := by
  constructor
  · intro h
    have hl := h.len
    obtain ⟨h1, h2, h3⟩ := h
    simp at hl
    have e : p = s + 1 := by omega
    subst e
    refine ⟨rfl, ?_⟩
    have : ((u.drop s).take (s + 1 - s))[0]? = some x := by rw [h3]; rfl
    rw [List.getElem?_take, if_pos (by omega), List.getElem?_drop] at this
    simpa using this
  · rintro ⟨rfl, h⟩
    have hs : s < u.length := by
      by_cases z : s < u.length
      · exact z
      · rw [List.getElem?_eq_none (by omega)] at h; cases h
    refine ⟨by omega, hs, ?_⟩
    rw [Nat.add_sub_cancel_left, List.take_one, List.head?_drop, h]
    rfl
theorem sub_app {u v1 v2 : List Str} {s p : Nat} : Sub u s p (v1 ++ v2) ↔ ∃ m, Sub u s m v1 ∧ Sub u m p v2 := by
  constructor
  · intro h
    have hl := h.len
    obtain ⟨h1, h2, h3⟩ := h
    rw [List.length_append] at hl
    refine ⟨s + v1.length, ⟨by omega, by omega, ?_⟩, by omega, h2, ?_⟩
    · have : ((u.drop s).take (p - s)).take v1.length = v1 := by rw [h3, List.take_left]
      rw [List.take_take, Nat.min_eq_left (by omega)] at this
      rw [Nat.add_sub_cancel_left]
      exact this
    · have : ((u.drop s).take (p - s)).drop v1.length = v2 := by rw [h3, List.drop_left]
      rw [List.drop_take, List.drop_drop] at this
      rw [← this]
      congr 1
      · omega
  · rintro ⟨m, h, k⟩
    obtain ⟨h1, h2, h3⟩ := h
    obtain ⟨k1, k2, k3⟩ := k
    refine ⟨by omega, k2, ?_⟩
    rw [← h3, ← k3]
    have e1 : p - s = (m - s) + (p - m) := by omega
    have e2 : u.drop m = (u.drop s).drop (m - s) := by rw [List.drop_drop]; congr 1; omega
    rw [e1, List.take_add, e2]
/-- the places up to which a body can match from a place on -/
def EnB (l : List It) (u : List Str) (s p : Nat) : Prop := ∃ v, Sub u s p v ∧ WB l v
def EnI (i : It) (u : List Str) (s p : Nat) : Prop := ∃ v, Sub u s p v ∧ WI i v
theorem EnB.le {l : List It} {u : List Str} {s p : Nat} (h : EnB l u s p) : s ≤ p ∧ p ≤ u.length := let ⟨_, h, _⟩ := h; ⟨h.1, h.2.1⟩
theorem EnI.le {i : It} {u : List Str} {s p : Nat} (h : EnI i u s p) : s ≤ p ∧ p ≤ u.length := let ⟨_, h, _⟩ := h; ⟨h.1, h.2.1⟩
theorem enB_nil {u : List Str} {s p : Nat} : EnB [] u s p ↔ s = p ∧ p ≤ u.length := by
  constructor
  · rintro ⟨v, h, w⟩
    simp only [WB] at w
    subst w
    exact sub_nil.mp h
  · intro h
    exact ⟨[], sub_nil.mpr h, by simp only [WB]⟩
theorem enB_take {l : List It} {k : Nat} {i : It} (e : l[k]? = some i) {u : List Str} {s p : Nat} : EnB (l.take (k + 1)) u s p ↔ ∃ m, EnB (l.take k) u s m ∧ EnI i u m p := by
  constructor
  · rintro ⟨v, h, w⟩
    obtain ⟨v1, v2, rfl, w1, w2⟩ := (WB_snoc e).mp w
    obtain ⟨m, h1, h2⟩ := sub_app.mp h
    exact ⟨m, ⟨v1, h1, w1⟩, v2, h2, w2⟩
  · rintro ⟨m, ⟨v1, h1, w1⟩, v2, h2, w2⟩
    exact ⟨v1 ++ v2, sub_app.mpr ⟨m, h1, h2⟩, (WB_snoc e).mpr ⟨v1, v2, rfl, w1, w2⟩⟩
theorem enI_call {x : Str} {u : List Str} {s p : Nat} : EnI (.call x) u s p ↔ p = s + 1 ∧ u[s]? = some x := by
  constructor
  · rintro ⟨v, h, w⟩
    simp only [WI] at w
    subst w
    exact sub_one.mp h
  · intro h
    exact ⟨[x], sub_one.mpr h, by simp only [WI]⟩
theorem enI_may {b : List It} {u : List Str} {s p : Nat} : EnI (.may b) u s p ↔ (s = p ∧ p ≤ u.length) ∨ EnB b u s p := by
  constructor
  · rintro ⟨v, h, w⟩
    simp only [WI] at w
    rcases w with rfl | w
    · exact .inl (sub_nil.mp h)
    · exact .inr ⟨v, h, w⟩
  · rintro (h | ⟨v, h, w⟩)
    · exact ⟨[], sub_nil.mpr h, by simp [WI]⟩
    · exact ⟨v, h, by simp only [WI]; exact .inr w⟩
theorem enI_one {bs : List (List It)} {u : List Str} {s p : Nat} : EnI (.one bs) u s p ↔ ∃ b ∈ bs, EnB b u s p := by
  constructor
  · rintro ⟨v, h, w⟩
    simp only [WI] at w
    obtain ⟨b, m, w⟩ := WBs_iff.mp w
    exact ⟨b, m, v, h, w⟩
  · rintro ⟨b, m, v, h, w⟩
    exact ⟨v, h, by simp only [WI]; exact WBs_iff.mpr ⟨b, m, w⟩⟩
/-- going on with a body again and again -/
inductive Again (b : List It) (u : List Str) (s : Nat) : Nat → Prop where
  | here : s ≤ u.length → Again b u s s
  | on {m p : Nat} : Again b u s m → EnB b u m p → Again b u s p
theorem enI_loop {b : List It} {u : List Str} {s p : Nat} : EnI (.loop b) u s p ↔ Again b u s p := by
  constructor
  · rintro ⟨v, h, w⟩
    simp only [WI] at w
    induction w generalizing p with
    | nil =>
      obtain ⟨rfl, hp⟩ := sub_nil.mp h
      exact .here hp
    | snoc _ hv _ ih =>
      obtain ⟨m, h1, h2⟩ := sub_app.mp h
      exact .on (ih h1) ⟨_, h2, hv⟩
  · intro h
    induction h with
    | here hs => exact ⟨[], sub_nil.mpr ⟨rfl, hs⟩, by simp only [WI]; exact .nil⟩
    | on _ h2 ih =>
      obtain ⟨v1, k1, w1⟩ := ih
      obtain ⟨v2, k2, w2⟩ := h2
      simp only [WI] at w1 ⊢
      by_cases e : v2 = []
      · subst e
        obtain ⟨rfl, _⟩ := sub_nil.mp k2
        exact ⟨v1, k1, w1⟩
      · exact ⟨v1 ++ v2, sub_app.mpr ⟨_, k1, k2⟩, .snoc w1 w2 e⟩
/-- the whole word, from its first place to its last -/
theorem enB_whole {l : List It} {u : List Str} : EnB l u 0 u.length ↔ WB l u := by
  constructor
  · rintro ⟨v, ⟨_, _, h⟩, w⟩
    rw [List.drop_zero, Nat.sub_zero, List.take_length] at h
    rw [h]
    exact w
  · intro w
    exact ⟨u, ⟨Nat.zero_le _, Nat.le_refl _, by rw [List.drop_zero, Nat.sub_zero, List.take_length]⟩, w⟩
/-- what a body matches from some places on -/
def Ends (l : List It) (u : List Str) (S : Nat → Prop) (p : Nat) : Prop := ∃ s, S s ∧ EnB l u s p
/-- places that are closed under a body are all that can be reached by it again and again -/
theorem again_closed {b : List It} {u : List Str} {S H : List Nat} (h1 : ∀ s ∈ S, s ∈ H) (h2 : ∀ p ∈ H, ∃ s ∈ S, Again b u s p) (h3 : ∀ p ∈ H, ∀ m, EnB b u p m → m ∈ H) : ∀ p, p ∈ H ↔ ∃ s ∈ S, Again b u s p := fun p => by
  constructor
  · exact h2 p
  · rintro ⟨s, hs, h⟩
    induction h with
    | here _ => exact h1 s hs
    | on _ hb ih => exact h3 _ ih _ hb
/-- one turn of the law's loop: the places found anew are put to those that there were -/
theorem again_turn {b : List It} {u : List Str} {S H M N : List Nat} (h2 : ∀ p ∈ H, ∃ s ∈ S, Again b u s p) (hM : ∀ p ∈ M, p ∈ H) (hN : ∀ p, p ∈ N ↔ (∃ m ∈ M, EnB b u m p) ∧ p ∉ H) : ∀ p ∈ H ++ N, ∃ s ∈ S, Again b u s p := fun p hp => by
  rcases List.mem_append.mp hp with h | h
  · exact h2 p h
  · obtain ⟨⟨m, hm, hb⟩, _⟩ := (hN p).mp h
    obtain ⟨s, hs, ha⟩ := h2 m (hM m hm)
    exact ⟨s, hs, .on ha hb⟩
/-- what was closed but for the last ones stays so, the new ones being the last -/
theorem closed_turn {b : List It} {u : List Str} {H M N : List Nat} (h3 : ∀ p ∈ H, p ∉ M → ∀ m, EnB b u p m → m ∈ H) (hN : ∀ p, p ∈ N ↔ (∃ m ∈ M, EnB b u m p) ∧ p ∉ H) : ∀ p ∈ H ++ N, p ∉ N → ∀ m, EnB b u p m → m ∈ H ++ N := fun p hp hn m hb => by
  rcases List.mem_append.mp hp with h | h
  · by_cases hm : p ∈ M
    · by_cases z : m ∈ H
      · exact List.mem_append_left _ z
      · exact List.mem_append_right _ ((hN m).mpr ⟨⟨p, hm, hb⟩, z⟩)
    · exact List.mem_append_left _ (h3 p h hm m hb)
  · exact absurd h hn
/-- the matched places of a row of items, item by item -/
theorem ends_take {l : List It} {k : Nat} {i : It} (e : l[k]? = some i) {u : List Str} {S M N : List Nat} (hM : ∀ p, p ∈ M ↔ ∃ s ∈ S, EnB (l.take k) u s p) (hN : ∀ p, p ∈ N ↔ ∃ m ∈ M, EnI i u m p) : ∀ p, p ∈ N ↔ ∃ s ∈ S, EnB (l.take (k + 1)) u s p := fun p => by
  rw [hN]
  constructor
  · rintro ⟨m, hm, h⟩
    obtain ⟨s, hs, h'⟩ := (hM m).mp hm
    exact ⟨s, hs, (enB_take e).mpr ⟨m, h', h⟩⟩
  · rintro ⟨s, hs, h⟩
    obtain ⟨m, h1, h2⟩ := (enB_take e).mp h
    exact ⟨m, (hM m).mpr ⟨s, hs, h1⟩, h2⟩
/-- ascending places of a word of at most 60 names are at most 61 -/
theorem asc_few {n : Nat} : ∀ {l : List Nat} {lo : Nat}, l.Pairwise (· < ·) → (∀ p ∈ l, lo ≤ p ∧ p < n) → l.length ≤ n - lo
  | [], _, _, _ => Nat.zero_le _
  | x :: r, lo, h, k => by
    obtain ⟨h1, h2⟩ := List.pairwise_cons.mp h
    have kx := k x (by simp)
    have ih := asc_few (lo := x + 1) h2 fun p hp => ⟨h1 p hp, (k p (List.mem_cons_of_mem _ hp)).2⟩
    simp only [List.length_cons]
    omega
end FA

set_option Elab.async false
set_option linter.all false
set_option maxRecDepth 100000
set_option maxHeartbeats 4000000
/-! Sets of small numbers while a comprehension makes them; sorted of them. -/
namespace FA
open PySem PySem.Spec PyProof.Rows L2
theorem nodup_len : ∀ {l m : List Nat}, l.Nodup → (∀ x ∈ l, x ∈ m) → l.length ≤ m.length
  | [], _, _, _ => Nat.zero_le _
  | x :: r, m, nd, h => by
    obtain ⟨nx, nr⟩ := List.nodup_cons.mp nd
    have hx := h x (by simp)
    have ih := nodup_len (l := r) (m := m.erase x) nr fun y hy => (List.mem_erase_of_ne (by rintro rfl; exact nx hy)).mpr (h y (List.mem_cons_of_mem _ hy))
    rw [List.length_erase_of_mem hx] at ih
    have := List.length_pos_of_mem hx
    simp only [List.length_cons]
    omega
variable {w : World} {K : PySem.W.Frag}
/-- D is the set of the numbers that C tells, all of them less than 60 -/
def Mk (w : World) (H : Hp) (D : Addr) (C : Nat → Prop) : Prop := ∃ (S : Int → Bool) (n : Nat) (ks : List Nat), H D = some (SetO w D S n) ∧ ks.Nodup ∧ ks.length = n ∧ (∀ k : Int, S k = true ↔ ∃ q ∈ ks, k = (q : Int)) ∧ (∀ q, q ∈ ks ↔ C q) ∧ ∀ q ∈ ks, q < 60
theorem Mk.new {H : Hp} {D : Addr} : Mk w (upd H D (SetO w D (fun _ => false) 0)) D (fun _ => False) :=
  ⟨_, _, [], upd_same, List.nodup_nil, rfl, fun k => by simp, fun q => by simp, fun q h => by cases h⟩
theorem Mk.iff {H : Hp} {D : Addr} {C C' : Nat → Prop} (h : Mk w H D C) (e : ∀ q, C q ↔ C' q) : Mk w H D C' :=
  let ⟨S, n, ks, h1, h2, h3, h4, h5, h6⟩ := h
  ⟨S, n, ks, h1, h2, h3, h4, fun q => (h5 q).trans (e q), h6⟩
theorem Mk.few {ks : List Nat} (nd : ks.Nodup) (h : ∀ q ∈ ks, q < 60) : ks.length ≤ 60 := by
  have := nodup_len nd (m := List.range 60) fun q hq => List.mem_range.mpr (h q hq)
  rw [List.length_range] at this
  exact this
theorem mk_add {H : Hp} {D : Addr} {C : Nat → Prop} {S : Int → Bool} {n : Nat} {ks : List Nat} {q0 : Nat} (nd : ks.Nodup) (hl : ks.length = n) (h4 : ∀ k : Int, S k = true ↔ ∃ q ∈ ks, k = (q : Int)) (h5 : ∀ q, q ∈ ks ↔ C q) (h6 : ∀ q ∈ ks, q < 60) (hq : q0 < 60) :
    Mk w (upd H D (SetO w D (fun j => S j || decide (j = (q0 : Int))) (if S (q0 : Int) = true then n else n + 1))) D (fun q => C q ∨ q = q0) := by
  by_cases hs : S (q0 : Int) = true
  · obtain ⟨q1, m1, e1⟩ := (h4 _).mp hs
    have e2 : q0 = q1 := by omega
    subst e2
    refine ⟨_, _, ks, upd_same, nd, by rw [if_pos hs]; exact hl, fun k => ?_, fun q => ?_, h6⟩
    · rw [Bool.or_eq_true, decide_eq_true_eq, h4]
      exact ⟨fun h => h.elim id fun e => ⟨q0, m1, e⟩, .inl⟩
    · rw [h5]
      exact ⟨.inl, fun h => h.elim id fun e => by rw [e]; exact (h5 _).mp m1⟩
  · have nq : q0 ∉ ks := fun z => hs ((h4 _).mpr ⟨q0, z, rfl⟩)
    refine ⟨_, _, q0 :: ks, upd_same, List.nodup_cons.mpr ⟨nq, nd⟩, by rw [if_neg hs, List.length_cons, hl], fun k => ?_, fun q => ?_, fun q h => ?_⟩
    · rw [Bool.or_eq_true, decide_eq_true_eq, h4]
      constructor
      · rintro (⟨q, m, e⟩ | e)
        · exact ⟨q, List.mem_cons_of_mem _ m, e⟩
        · exact ⟨q0, by simp, e⟩
      · rintro ⟨q, m, e⟩
        rcases List.mem_cons.mp m with rfl | m
        · exact .inr e
        · exact .inl ⟨q, m, e⟩
    · rw [List.mem_cons, h5]
      exact ⟨fun h => h.elim .inr .inl, fun h => h.elim .inr .inl⟩
    · rcases List.mem_cons.mp h with rfl | h
      · exact hq
      · exact h6 q h
/-- a loop that puts numbers into the set D -/
theorem siL {J : L2.It} {n : Nat} {g : TG} {tt : TT} {te : TE} {τ : L2.St} {vs : List Nat} {over : Hp → Prop} {H1 H0 : Hp} {D : Addr} {C0 : Nat → Prop} (hD : H1 D = none) (s0 : Same H1 H0) (h0 : Mk w H0 D C0) (Y : Nat → V → Prop) (val : Nat → Option Nat)
    (go : ∀ i H, Same H1 H → i < n → J.go i H) (stop : ∀ H, Same H1 H → J.stop n H) (yld : ∀ i H x H', Same H1 H → i < n → J.yld i H x H' → H' = H ∧ Y i x) (small : ∀ i q, i < n → val i = some q → q < 60)
    (step : ∀ i x H (body : Bool → L2.St → Hp → Prop), i < n → Y i x → Same H1 H → (∀ σ2, (val i = none → body false σ2 H) ∧ ∀ q : Nat, val i = some q → (∀ Q : VK, Q (.int (q : Int)) H → te σ2 H Q) → body true σ2 H) → g x τ H fun σ2 H2 => wipe σ2 vs = wipe τ vs ∧ tt σ2 H2 fun b H3 => body b σ2 H3)
    (fin : ∀ H, Same H1 H → Mk w H D (fun q => C0 q ∨ ∃ j, j < n ∧ val j = some q) → over H) :
    ∃ W : Nat → Nat → Hp → Prop, (∃ m, W 0 m H0) ∧ Loops J g tt τ vs over (fun b σ2 H3 N => if b = true then adding w D te σ2 H3 N else N H3) W := by
  refine ⟨fun i m H => i ≤ n ∧ m = n - i ∧ Same H1 H ∧ Mk w H D (fun q => C0 q ∨ ∃ j, j < i ∧ val j = some q), ⟨_, Nat.zero_le _, rfl, s0, h0.iff fun q => ⟨.inl, fun h => h.elim id fun ⟨j, z, _⟩ => absurd z (by omega)⟩⟩, ?_⟩
  rintro i m H ⟨hi, rfl, sm, mk⟩
  by_cases hlt : i < n
  · refine .inr ⟨go i H sm hlt, fun H' => i + 1 ≤ n ∧ Same H1 H' ∧ Mk w H' D (fun q => C0 q ∨ ∃ j, j < i + 1 ∧ val j = some q), fun H' h => ⟨n - (i + 1), by omega, h.1, rfl, h.2⟩, fun x H' y => ?_⟩
    obtain ⟨rfl, hY⟩ := yld i H x H' sm hlt y
    refine step i x H' (fun b σ2 H3 => if b = true then adding w D te σ2 H3 (fun H' => i + 1 ≤ n ∧ Same H1 H' ∧ Mk w H' D (fun q => C0 q ∨ ∃ j, j < i + 1 ∧ val j = some q)) else (i + 1 ≤ n ∧ Same H1 H3 ∧ Mk w H3 D (fun q => C0 q ∨ ∃ j, j < i + 1 ∧ val j = some q))) hlt hY sm fun σ2 => ⟨fun hv => ?_, fun q hv he => ?_⟩
    · rw [if_neg (by decide)]
      refine ⟨hlt, sm, mk.iff fun q => ⟨fun h => h.imp id fun ⟨j, z, e⟩ => ⟨j, by omega, e⟩, fun h => h.imp id fun ⟨j, z, e⟩ => ⟨j, ?_, e⟩⟩⟩
      by_cases hj : j = i
      · subst hj; rw [hv] at e; cases e
      · omega
    · rw [if_pos rfl]
      obtain ⟨S, c, ks, k1, k2, k3, k4, k5, k6⟩ := mk
      have fw := Mk.few k2 k6
      have sb : c + 1 < scanBound := Nat.lt_of_lt_of_le (by omega : c + 1 < 1002) (by decide)
      refine he _ ⟨_, S, c, rfl, k1, sb, hlt, fun b o e => ?_, (mk_add k2 k3 k4 k5 k6 (small i q hlt hv)).iff fun q' => ?_⟩
      · rw [upd_ne (ne_of_none e hD)]; exact sm _ _ e
      · constructor
        · rintro ((h | ⟨j, z, e⟩) | rfl)
          · exact .inl h
          · exact .inr ⟨j, by omega, e⟩
          · exact .inr ⟨i, by omega, hv⟩
        · rintro (h | ⟨j, z, e⟩)
          · exact .inl (.inl h)
          · by_cases hj : j = i
            · subst hj; rw [hv] at e; cases e; exact .inr rfl
            · exact .inl (.inr ⟨j, by omega, e⟩)
  · have : i = n := by omega
    subst this
    exact .inl ⟨stop H sm, fin H sm mk⟩
theorem sorted_mk {H : Hp} {D : Addr} {C : Nat → Prop} {Q : VK} (h : Mk w H D C) (q : ∀ qs p, qs.length ≤ 60 → (∀ k, k ∈ qs ↔ C k) → H p = none → Q (.ref p) (upd H p (.lst (nts qs)))) : rSortedSet w [.ref D] H Q := by
  obtain ⟨S, n, ks, h1, h2, h3, h4, h5, h6⟩ := h
  have fw := Mk.few h2 h6
  refine ⟨D, S, n, rfl, h1, by omega, fun ns p pw hm hl hp => ?_⟩
  have hn : ∀ k ∈ ns, ∃ t : Nat, t ∈ ks ∧ k = (t : Int) := fun k hk => by
    obtain ⟨t, m, e⟩ := (h4 k).mp ((hm k).mp hk)
    exact ⟨t, m, e⟩
  have e : ns.map V.int = nts (ns.map Int.toNat) := by
    unfold nts
    rw [List.map_map]
    refine List.map_congr_left fun k hk => ?_
    obtain ⟨t, m, e⟩ := hn k hk
    rw [e]
    rfl
  rw [e]
  refine q _ p (by rw [List.length_map]; omega) (fun k => ?_) hp
  rw [← h5, List.mem_map]
  constructor
  · rintro ⟨a, ha, rfl⟩
    obtain ⟨t, m, e⟩ := hn a ha
    rw [e]
    exact m
  · intro hk
    exact ⟨(k : Int), (hm _).mpr ((h4 _).mpr ⟨k, hk, rfl⟩), rfl⟩
/-- a list comprehension whose element changes nothing that was there: G tells the j-th item, by the tuples that stand -/
theorem lcS2 {J : L2.It} {n : Nat} {g : TG} {te : TE} {vs : List Nat} {σ : L2.St} {H1 : Hp} {D : Addr} {Qd : Hp → Prop} (hD : H1 D = none) (hn : n < sizeLine) (Y : Nat → V → Prop) (G : Nat → V → Hp → Prop)
    (go : ∀ i H, Same H1 H → i < n → J.go i H) (stop : ∀ H, Same H1 H → J.stop n H) (yld : ∀ i H x H', Same H1 H → i < n → J.yld i H x H' → H' = H ∧ Y i x)
    (mono : ∀ j v A B, (∀ a o, a ≠ D → A a = some o → B a = some o) → G j v A → G j v B)
    (step : ∀ i x H (R : VK), i < n → Y i x → Same H1 H → (∃ ys, H D = some (.lst ys)) → (∀ y H', Same H H' → G i y H' → R y H') → g x (wipe σ vs) H fun σ2 H2 => wipe σ2 vs = wipe σ vs ∧ te σ2 H2 R)
    (fin : ∀ H ys, Same H1 H → H D = some (.lst ys) → ys.length = n → (∀ j y, ys[j]? = some y → G j y H) → Qd H) :
    ∃ W : Nat → Nat → Hp → Prop, (∃ m, W 0 m (upd H1 D (.lst []))) ∧ ∀ i m H, W i m H →
      (J.stop i H ∧ Qd H) ∨ (J.go i H ∧ ∃ Nx : Hp → Prop, (∀ H', Nx H' → ∃ m', m' < m ∧ W (i + 1) m' H') ∧ ∀ x H', J.yld i H x H' → g x (wipe σ vs) H' fun σ2 H2 => wipe σ2 vs = wipe σ vs ∧ tYes σ2 H2 fun b H3 =>
        if b = true then te σ2 H3 fun y H4 => ∃ acc, H4 D = some (.lst acc) ∧ acc.length < sizeLine ∧ Nx (upd H4 D (.lst (acc ++ [y]))) else Nx H3) := by
  refine ⟨fun i m H => m = n - i ∧ i ≤ n ∧ Same H1 H ∧ ∃ ys, H D = some (.lst ys) ∧ ys.length = i ∧ ∀ j y, ys[j]? = some y → G j y H, ⟨n, by simp, Nat.zero_le _, fun b o e => ?_, [], upd_same, rfl, by simp⟩, ?_⟩
  · rw [upd_ne (ne_of_none e hD)]; exact e
  · rintro i m H ⟨rfl, hi, sm, ys, hy, hl, hG⟩
    by_cases hlt : i < n
    · refine .inr ⟨go i H sm hlt, fun H' => i + 1 ≤ n ∧ Same H1 H' ∧ ∃ ys, H' D = some (.lst ys) ∧ ys.length = i + 1 ∧ ∀ j y, ys[j]? = some y → G j y H', fun H' h => ⟨n - (i + 1), by omega, rfl, h⟩, fun x H' y => ?_⟩
      obtain ⟨rfl, hY⟩ := yld i H x H' sm hlt y
      have st := step i x H' (fun y H4 => ∃ acc, H4 D = some (.lst acc) ∧ acc.length < sizeLine ∧ (i + 1 ≤ n ∧ Same H1 (upd H4 D (.lst (acc ++ [y]))) ∧ ∃ ys, (upd H4 D (.lst (acc ++ [y]))) D = some (.lst ys) ∧ ys.length = i + 1 ∧ ∀ j y', ys[j]? = some y' → G j y' (upd H4 D (.lst (acc ++ [y]))))) hlt hY sm ⟨_, hy⟩ fun v H4 s4 g4 => ?_
      · exact st
      · have tk : ∀ (o : HO) (A : Hp), ∀ a o', a ≠ D → A a = some o' → (upd A D o) a = some o' := fun o A a o' n e => by rw [upd_ne n]; exact e
        refine ⟨ys, s4 _ _ hy, by omega, hlt, fun b o e => ?_, ys ++ [v], upd_same, by simp [hl], fun j y' hj => ?_⟩
        · rw [upd_ne (ne_of_none e hD)]; exact s4 _ _ (sm _ _ e)
        · by_cases hj2 : j < ys.length
          · rw [List.getElem?_append_left hj2] at hj
            exact mono j y' _ _ (tk _ _) (mono j y' _ _ (fun a o _ e => s4 _ _ e) (hG j y' hj))
          · rw [List.getElem?_append_right (by omega)] at hj
            have e0 : j - ys.length = 0 := by
              rcases Nat.eq_zero_or_pos (j - ys.length) with z | z
              · exact z
              · rw [List.getElem?_eq_none (by simp; omega)] at hj; cases hj
            rw [e0] at hj
            cases hj
            have : j = i := by omega
            subst this
            exact mono _ _ _ _ (tk _ _) g4
    · have : i = n := by omega
      subst this
      exact .inl ⟨stop H sm, fin H ys sm hy hl hG⟩
/-- two loops that put numbers into the set D -/
theorem si2S {J : L2.It} {n : Nat} {wi1 : TI} {g g1 : TG} {tt tt1 : TT} {te : TE} {σ : L2.St} {vs vs1 : List Nat} {H1 : Hp} {D : Addr} {Qd : Hp → Prop} (hD : H1 D = none) (Y : Nat → V → Prop) (C : Nat → Nat → Prop)
    (go : ∀ i H, Same H1 H → i < n → J.go i H) (stop : ∀ H, Same H1 H → J.stop n H) (yld : ∀ i H x H', Same H1 H → i < n → J.yld i H x H' → H' = H ∧ Y i x)
    (step : ∀ i x H C0 (N : Hp → Prop), i < n → Y i x → Same H1 H → Mk w H D C0 → (∀ H', Same H1 H' → Mk w H' D (fun q => C0 q ∨ C i q) → N H') → g x (wipe σ vs) H fun σ2 H2 => wipe σ2 vs = wipe (wipe σ vs) vs ∧ tt σ2 H2 fun b H3 => if b = true then wi1 σ2 H3 fun J1 H4 => ∃ W1 : Nat → Nat → Hp → Prop, (∃ m, W1 0 m H4) ∧
      Loops J1 g1 tt1 (wipe σ2 vs1) vs1 N (fun b σ3 H5 N1 => if b = true then adding w D te σ3 H5 N1 else N1 H5) W1 else N H3)
    (fin : ∀ H, Same H1 H → Mk w H D (fun q => ∃ j, j < n ∧ C j q) → Qd H) :
    ∃ W : Nat → Nat → Hp → Prop, (∃ m, W 0 m (upd H1 D (SetO w D (fun _ => false) 0))) ∧
      Loops J g tt (wipe σ vs) vs Qd (fun b σ2 H3 N => if b = true then wi1 σ2 H3 fun J1 H4 => ∃ W1 : Nat → Nat → Hp → Prop, (∃ m, W1 0 m H4) ∧
        Loops J1 g1 tt1 (wipe σ2 vs1) vs1 N (fun b σ3 H5 N1 => if b = true then adding w D te σ3 H5 N1 else N1 H5) W1 else N H3) W := by
  refine ⟨fun i m H => i ≤ n ∧ m = n - i ∧ Same H1 H ∧ Mk w H D (fun q => ∃ j, j < i ∧ C j q), ⟨_, Nat.zero_le _, rfl, fun b o e => by rw [upd_ne (ne_of_none e hD)]; exact e, Mk.new.iff fun q => ⟨fun h => h.elim, fun ⟨j, z, _⟩ => absurd z (by omega)⟩⟩, ?_⟩
  rintro i m H ⟨hi, rfl, sm, mk⟩
  by_cases hlt : i < n
  · refine .inr ⟨go i H sm hlt, fun H' => i + 1 ≤ n ∧ Same H1 H' ∧ Mk w H' D (fun q => ∃ j, j < i + 1 ∧ C j q), fun H' h => ⟨n - (i + 1), by omega, h.1, rfl, h.2⟩, fun x H' y => ?_⟩
    obtain ⟨rfl, hY⟩ := yld i H x H' sm hlt y
    refine step i x H' _ _ hlt hY sm mk fun H2 s2 mk2 => ⟨hlt, s2, mk2.iff fun q => ?_⟩
    constructor
    · rintro (⟨j, z, h⟩ | h)
      · exact ⟨j, by omega, h⟩
      · exact ⟨i, by omega, h⟩
    · rintro ⟨j, z, h⟩
      by_cases hj : j = i
      · subst hj; exact .inr h
      · exact .inl ⟨j, by omega, h⟩
  · have : i = n := by omega
    subst this
    exact .inl ⟨stop H sm, fin H sm mk⟩
theorem inV_nts (q : Nat) (l : List Nat) : inV (.int (q : Int)) (nts l) = decide (q ∈ l) := by
  induction l with
  | nil => rfl
  | cons x r ih =>
    have e : inV (.int (q : Int)) (nts (x :: r)) = (((x : Int) == (q : Int)) || inV (.int (q : Int)) (nts r)) := rfl
    rw [e, ih]
    by_cases h : x = q
    · subst h; simp
    · have h1 : ((x : Int) == (q : Int)) = false := by
        simp only [beq_eq_false_iff_ne, ne_eq]
        omega
      rw [h1, Bool.false_or]
      refine decide_eq_decide.mpr ⟨fun h => List.mem_cons_of_mem _ h, fun h' => ?_⟩
      rcases List.mem_cons.mp h' with e | e
      · exact absurd e.symm h
      · exact e
theorem nts_flat (l : List Nat) : (nts l).all flatV = true := by
  induction l with
  | nil => rfl
  | cons x r ih => exact ih
theorem prs_of {H : Hp} : ∀ {ys : List V} {l : List (Nat × Nat)}, ys.length = l.length → (∀ (j : Nat) y, ys[j]? = some y → ∃ t q, y = .ref t ∧ l[j]? = some q ∧ H t = some (.tup [.int (q.1 : Int), .int (q.2 : Int)])) → PrsAt H ys l
  | [], [], _, _ => .nil
  | y :: ys, q :: l, hl, h => by
    obtain ⟨t, q', rfl, e, ht⟩ := h 0 y rfl
    cases e
    exact .cons ht (prs_of (by simpa using hl) fun j y hj => h (j + 1) y hj)
/-! ### the net of a plan -/
/-- a place's next ones -/
def nxt (a : Pl) (s q : Nat) : Prop := (s = 0 ∧ q ∈ a.fs) ∨ (s, q) ∈ a.ps
def nmz (a : Pl) (q : Nat) : Option Str := if q = 0 then none else a.nm[q - 1]?
def ends (a : Pl) : List Nat := if a.em = true then 0 :: a.ls else a.ls
def NetAt (H : Hp) (t : Addr) (a : Pl) : Prop := ∃ (n x e : Addr) (ws : List V), H t = some (.tup [.ref n, .ref x, .ref e]) ∧ H n = some (.lst (.non :: a.nm.map V.str)) ∧ H x = some (.lst ws) ∧ ws.length = a.nm.length + 1 ∧
  (∀ (s : Nat) v, ws[s]? = some v → ∃ b qs, v = .ref b ∧ H b = some (.lst (nts qs)) ∧ qs.length ≤ 60 ∧ ∀ q, q ∈ qs ↔ nxt a s q) ∧ H e = some (.lst (nts (ends a)))
theorem NetAt.keep {H H' : Hp} (s : Same H H') {t : Addr} {a : Pl} (h : NetAt H t a) : NetAt H' t a :=
  let ⟨n, x, e, ws, h1, h2, h3, h4, h5, h6⟩ := h
  ⟨n, x, e, ws, s _ _ h1, s _ _ h2, s _ _ h3, h4, fun j v hj => let ⟨b, qs, k1, k2, k3⟩ := h5 j v hj; ⟨b, qs, k1, s _ _ k2, k3⟩, s _ _ h6⟩
/-- the places behind a word -/
def Beh (a : Pl) (u : List Str) (q : Nat) : Prop := (u = [] ∧ q = 0) ∨ At (nmz a) a u q
theorem nxt_in {a : Pl} (h : a.In 1) {s q : Nat} (n : nxt a s q) : 1 ≤ q ∧ q < 1 + a.nm.length := by
  rcases n with ⟨_, n⟩ | n
  · exact h.fs _ n
  · exact (h.ps _ _ n).2
theorem beh_le {a : Pl} (h : a.In 1) {u : List Str} {q : Nat} (b : Beh a u q) : q ≤ a.nm.length := by
  rcases b with ⟨_, rfl⟩ | b
  · omega
  · have := b.inn h; omega
theorem beh_snoc {a : Pl} (h : a.In 1) {u : List Str} {x : Str} {q : Nat} : Beh a (u ++ [x]) q ↔ ∃ s, Beh a u s ∧ nxt a s q ∧ nmz a q = some x := by
  constructor
  · rintro (⟨z, _⟩ | b)
    · simp at z
    · generalize e : u ++ [x] = v at b
      cases b with
      | @first _ x' h1 h2 =>
        have : u = [] ∧ x = x' := by
          cases u with
          | nil => simp at e; exact ⟨rfl, e⟩
          | cons y r => simp at e
        obtain ⟨rfl, rfl⟩ := this
        exact ⟨0, .inl ⟨rfl, rfl⟩, .inl ⟨rfl, h1⟩, h2⟩
      | @next u' p _ x' h1 h2 h3 =>
        obtain ⟨rfl, e2⟩ := List.append_inj' e rfl
        cases e2
        exact ⟨p, .inr h1, .inr h2, h3⟩
  · rintro ⟨s, b, n, e⟩
    rcases b with ⟨rfl, rfl⟩ | b
    · rcases n with ⟨_, n⟩ | n
      · exact .inr (.first n e)
      · have := (h.ps _ _ n).1; omega
    · rcases n with ⟨rfl, n⟩ | n
      · have := b.inn h; omega
      · exact .inr (.next b n e)
theorem beh_lg {a : Pl} (h : a.In 1) {u : List Str} : (∃ q, Beh a u q ∧ q ∈ ends a) ↔ Lg (nmz a) a u := by
  constructor
  · rintro ⟨q, b, e⟩
    rcases b with ⟨rfl, rfl⟩ | b
    · unfold ends at e
      split at e
      · next z => exact .inl ⟨rfl, z⟩
      · have := h.ls _ e; omega
    · have hq := b.inn h
      unfold ends at e
      split at e
      · rcases List.mem_cons.mp e with rfl | e
        · omega
        · exact .inr ⟨q, e, b⟩
      · exact .inr ⟨q, e, b⟩
  · rintro (⟨rfl, z⟩ | ⟨q, e, b⟩)
    · exact ⟨0, .inl ⟨rfl, rfl⟩, by unfold ends; rw [if_pos z]; simp⟩
    · refine ⟨q, .inr b, ?_⟩
      unfold ends
      split
      · exact List.mem_cons_of_mem _ e
      · exact e
/-- a body's plan from 1 on tells its words -/
theorem plan_words {l : List It} {u : List Str} : Lg (nmz (planB l .e0 1)) (planB l .e0 1) u ↔ WB l u := by
  have hn : (planB l .e0 1).nm = wrB l := by rw [planB_nm]; rfl
  have pl : Pla (nmz (planB l .e0 1)) 1 (Pl.e0.nm ++ wrB l) := fun k hk => by
    unfold nmz
    rw [if_neg (by omega), hn]
    show (wrB l)[1 + k - 1]? = (wrB l)[k]?
    rw [Nat.add_sub_cancel_left]
  rw [planB_lg l .e0 1 e0_in pl]
  exact ⟨fun ⟨u', v, e, h1, h2⟩ => by rw [e0_lg] at h1; subst h1; rw [e]; exact h2, fun h => ⟨[], u, rfl, e0_lg.mpr rfl, h⟩⟩
end FA

set_option Elab.async false
set_option linter.all false
set_option maxRecDepth 100000
/-! Starts of bodies: by places, and by nets. -/
namespace FA
open PySem
/-! ### each item and each body has a word -/
mutual
theorem wi_ex {ns : List Str} : ∀ i : It, okI ns i → ∃ w, WI i w
  | .call x, _ => ⟨[x], by simp only [WI]⟩
  | .may b, _ => ⟨[], by simp only [WI]; exact .inl trivial⟩
  | .loop b, _ => ⟨[], by simp only [WI]; exact .nil⟩
  | .one bs, h => by
    simp only [okI] at h
    obtain ⟨w, hw⟩ := wbs_ex bs h.2.2.2 (by intro e; rw [e] at h; simp at h)
    exact ⟨w, by simp only [WI]; exact hw⟩
theorem wb_ex {ns : List Str} : ∀ l : List It, okB ns l → ∃ w, WB l w
  | [], _ => ⟨[], by simp only [WB]⟩
  | i :: r, h => by
    simp only [okB] at h
    obtain ⟨u, hu⟩ := wi_ex i h.1
    obtain ⟨v, hv⟩ := wb_ex r h.2
    exact ⟨u ++ v, by simp only [WB]; exact ⟨u, v, rfl, hu, hv⟩⟩
theorem wbs_ex {ns : List Str} : ∀ bs : List (List It), okBs ns bs → bs ≠ [] → ∃ w, WBs bs w
  | [], _, h => absurd rfl h
  | b :: r, h, _ => by
    simp only [okBs] at h
    obtain ⟨w, hw⟩ := wb_ex b h.1
    exact ⟨w, by simp only [WBs]; exact .inl hw⟩
end
/-- the starts -/
def SB (l : List It) (v : List Str) : Prop := ∃ w, WB l (v ++ w)
def SI (i : It) (v : List Str) : Prop := ∃ w, WI i (v ++ w)
def SBs (bs : List (List It)) (v : List Str) : Prop := ∃ w, WBs bs (v ++ w)
/-! ### the places that are seen -/
mutual
def SnI : It → List Str → Nat → Nat → Prop
  | .call _ => fun _ _ _ => False
  | .may b => fun u s p => SnB b u s p
  | .loop b => fun u s p => ∃ m, Again b u s m ∧ SnB b u m p
  | .one bs => fun u s p => SnBs bs u s p
def SnB : List It → List Str → Nat → Nat → Prop
  | [] => fun _ _ _ => False
  | i :: r => fun u s p => (SnI i u s p ∨ EnI i u s p) ∨ ∃ m, EnI i u s m ∧ SnB r u m p
def SnBs : List (List It) → List Str → Nat → Nat → Prop
  | [] => fun _ _ _ => False
  | b :: r => fun u s p => SnB b u s p ∨ SnBs r u s p
end
theorem snBs_iff {u : List Str} {s p : Nat} : ∀ {bs : List (List It)}, SnBs bs u s p ↔ ∃ b ∈ bs, SnB b u s p
  | [] => by simp [SnBs]
  | b :: r => by simp [SnBs, snBs_iff (bs := r)]
theorem enB_cons {i : It} {r : List It} {u : List Str} {s p : Nat} : EnB (i :: r) u s p ↔ ∃ m, EnI i u s m ∧ EnB r u m p := by
  constructor
  · rintro ⟨v, h, w⟩
    simp only [WB] at w
    obtain ⟨v1, v2, rfl, w1, w2⟩ := w
    obtain ⟨m, h1, h2⟩ := sub_app.mp h
    exact ⟨m, ⟨v1, h1, w1⟩, v2, h2, w2⟩
  · rintro ⟨m, ⟨v1, h1, w1⟩, v2, h2, w2⟩
    exact ⟨v1 ++ v2, sub_app.mpr ⟨m, h1, h2⟩, by simp only [WB]; exact ⟨v1, v2, rfl, w1, w2⟩⟩
theorem snB_le {u : List Str} : ∀ {l : List It} {s p : Nat}, SnB l u s p → True := fun _ => trivial
mutual
theorem snI_le {u : List Str} : ∀ (i : It) (s p : Nat), SnI i u s p → s ≤ u.length
  | .call _, s, p, h => by simp only [SnI] at h
  | .may b, s, p, h => by simp only [SnI] at h; exact snB_le' b s p h
  | .loop b, s, p, h => by
    simp only [SnI] at h
    obtain ⟨m, h1, h2⟩ := h
    have := (enI_loop.mpr h1).le
    omega
  | .one bs, s, p, h => by simp only [SnI] at h; exact snBs_le bs s p h
theorem snB_le' {u : List Str} : ∀ (l : List It) (s p : Nat), SnB l u s p → s ≤ u.length
  | [], s, p, h => by simp only [SnB] at h
  | i :: r, s, p, h => by
    simp only [SnB] at h
    rcases h with (h | h) | ⟨m, h, _⟩
    · exact snI_le i s p h
    · have := h.le; omega
    · have := h.le; omega
theorem snBs_le {u : List Str} : ∀ (bs : List (List It)) (s p : Nat), SnBs bs u s p → s ≤ u.length
  | [], s, p, h => by simp only [SnBs] at h
  | b :: r, s, p, h => by
    simp only [SnBs] at h
    rcases h with h | h
    · exact snB_le' b s p h
    · exact snBs_le r s p h
end
theorem snB_take {u : List Str} : ∀ {l : List It} {k : Nat} {i : It}, l[k]? = some i → ∀ {s p : Nat}, SnB (l.take (k + 1)) u s p ↔ SnB (l.take k) u s p ∨ ∃ m, EnB (l.take k) u s m ∧ (SnI i u m p ∨ EnI i u m p)
  | [], k, i, e, s, p => by simp at e
  | j :: r, 0, i, e, s, p => by
    simp at e
    subst e
    simp only [Nat.zero_add, List.take_succ_cons, List.take_zero, SnB, and_false, exists_false, or_false, false_or]
    constructor
    · intro h
      refine ⟨s, enB_nil.mpr ⟨rfl, ?_⟩, h⟩
      rcases h with h | h
      · exact snI_le _ _ _ h
      · have := h.le; omega
    · rintro ⟨m, h1, h2⟩
      rw [(enB_nil.mp h1).1]
      exact h2
  | j :: r, k + 1, i, e, s, p => by
    have ih := fun {s p : Nat} => snB_take (u := u) (l := r) (k := k) (i := i) (by simpa using e) (s := s) (p := p)
    simp only [List.take_succ_cons, SnB]
    constructor
    · rintro (h | ⟨m, h1, h2⟩)
      · exact .inl (.inl h)
      · rcases ih.mp h2 with h | ⟨m', h3, h4⟩
        · exact .inl (.inr ⟨m, h1, h⟩)
        · exact .inr ⟨m', enB_cons.mpr ⟨m, h1, h3⟩, h4⟩
    · rintro ((h | ⟨m, h1, h2⟩) | ⟨m', h3, h4⟩)
      · exact .inl h
      · exact .inr ⟨m, h1, ih.mpr (.inl h2)⟩
      · obtain ⟨m, h1, h2⟩ := enB_cons.mp h3
        exact .inr ⟨m, h1, ih.mpr (.inr ⟨m', h2, h4⟩)⟩
/-! ### what is seen is a start -/
mutual
theorem snI_start {ns u : List Str} : ∀ (i : It) (s p : Nat), okI ns i → SnI i u s p → ∃ v, Sub u s p v ∧ SI i v
  | .call _, s, p, _, h => by simp only [SnI] at h
  | .may b, s, p, ok, h => by
    simp only [SnI] at h
    simp only [okI] at ok
    obtain ⟨v, h1, w, h2⟩ := snB_start b s p ok.2 h
    exact ⟨v, h1, w, by simp only [WI]; exact .inr h2⟩
  | .loop b, s, p, ok, h => by
    simp only [SnI] at h
    simp only [okI] at ok
    obtain ⟨m, h1, h2⟩ := h
    obtain ⟨v1, k1, w1⟩ := enI_loop.mpr h1
    obtain ⟨v2, k2, w, w2⟩ := snB_start b m p ok.2 h2
    simp only [WI] at w1
    refine ⟨v1 ++ v2, sub_app.mpr ⟨m, k1, k2⟩, w, ?_⟩
    simp only [WI]
    by_cases z : v2 ++ w = []
    · rw [List.append_assoc, z, List.append_nil]
      exact w1
    · rw [List.append_assoc]
      exact .snoc w1 w2 z
  | .one bs, s, p, ok, h => by
    simp only [SnI] at h
    simp only [okI] at ok
    obtain ⟨v, h1, w, h2⟩ := snBs_start bs s p ok.2.2.2 h
    exact ⟨v, h1, w, by simp only [WI]; exact h2⟩
theorem snB_start {ns u : List Str} : ∀ (l : List It) (s p : Nat), okB ns l → SnB l u s p → ∃ v, Sub u s p v ∧ SB l v
  | [], s, p, _, h => by simp only [SnB] at h
  | i :: r, s, p, ok, h => by
    simp only [SnB] at h
    simp only [okB] at ok
    obtain ⟨wr, hwr⟩ := wb_ex r ok.2
    rcases h with (h | ⟨v, h1, h2⟩) | ⟨m, ⟨v1, k1, w1⟩, h2⟩
    · obtain ⟨v, h1, w, h2⟩ := snI_start i s p ok.1 h
      exact ⟨v, h1, w ++ wr, by simp only [WB]; exact ⟨v ++ w, wr, by rw [List.append_assoc], h2, hwr⟩⟩
    · exact ⟨v, h1, wr, by simp only [WB]; exact ⟨v, wr, rfl, h2, hwr⟩⟩
    · obtain ⟨v2, k2, w, w2⟩ := snB_start r m p ok.2 h2
      exact ⟨v1 ++ v2, sub_app.mpr ⟨m, k1, k2⟩, w, by simp only [WB]; exact ⟨v1, v2 ++ w, by rw [List.append_assoc], w1, w2⟩⟩
theorem snBs_start {ns u : List Str} : ∀ (bs : List (List It)) (s p : Nat), okBs ns bs → SnBs bs u s p → ∃ v, Sub u s p v ∧ SBs bs v
  | [], s, p, _, h => by simp only [SnBs] at h
  | b :: r, s, p, ok, h => by
    simp only [SnBs] at h
    simp only [okBs] at ok
    rcases h with h | h
    · obtain ⟨v, h1, w, h2⟩ := snB_start b s p ok.1 h
      exact ⟨v, h1, w, by simp only [WBs]; exact .inl h2⟩
    · obtain ⟨v, h1, w, h2⟩ := snBs_start r s p ok.2 h
      exact ⟨v, h1, w, by simp only [WBs]; exact .inr h2⟩
end
/-! ### a start is seen -/
/-- a beginning of turns of L: some turns, and a start of one more -/
theorem star_start {L : List Str → Prop} {z : List Str} (h : Star L z) : ∀ v w, z = v ++ w → ∃ u v', v = u ++ v' ∧ Star L u ∧ (v' = [] ∨ ∃ w', L (v' ++ w')) := by
  induction h with
  | nil =>
    intro v w e
    obtain ⟨rfl, rfl⟩ := List.append_eq_nil_iff.mp e.symm
    exact ⟨[], [], rfl, .nil, .inl rfl⟩
  | @snoc u1 u2 h1 h2 hne ih =>
    intro v w e
    rcases List.append_eq_append_iff.mp e with ⟨a', e1, e2⟩ | ⟨c', e1, e2⟩
    · exact ⟨u1, a', e1, h1, .inr ⟨w, by rw [← e2]; exact h2⟩⟩
    · obtain ⟨u, v', k1, k2, k3⟩ := ih v c' e1
      exact ⟨u, v', k1, k2, k3⟩
mutual
theorem startI {u : List Str} : ∀ (i : It) (s p : Nat) (v : List Str), SI i v → v ≠ [] → Sub u s p v → SnI i u s p ∨ EnI i u s p
  | .call x, s, p, v, h, hv, hs => by
    obtain ⟨w, h⟩ := h
    simp only [WI] at h
    refine .inr (enI_call.mpr (sub_one.mp ?_))
    cases v with
    | nil => exact absurd rfl hv
    | cons y r =>
      rw [List.cons_append, List.cons.injEq] at h
      obtain ⟨h1, h2⟩ := h
      obtain ⟨h3, _⟩ := List.append_eq_nil_iff.mp h2
      rw [h1, h3] at hs
      exact hs
  | .may b, s, p, v, h, hv, hs => by
    obtain ⟨w, h⟩ := h
    simp only [WI] at h
    rcases h with h | h
    · exact absurd (List.append_eq_nil_iff.mp h).1 hv
    · exact .inl (by simp only [SnI]; exact startB b s p v ⟨w, h⟩ hv hs)
  | .loop b, s, p, v, h, hv, hs => by
    obtain ⟨w, h⟩ := h
    simp only [WI] at h
    obtain ⟨u1, v', e, h1, h2⟩ := star_start h v w rfl
    subst e
    obtain ⟨m, k1, k2⟩ := sub_app.mp hs
    have em : EnI (.loop b) u s m := ⟨u1, k1, by simp only [WI]; exact h1⟩
    by_cases z : v' = []
    · subst z
      obtain ⟨rfl, _⟩ := sub_nil.mp k2
      exact .inr em
    · refine .inl ?_
      simp only [SnI]
      refine ⟨m, enI_loop.mp em, startB b m p v' ?_ z k2⟩
      rcases h2 with h2 | h2
      · exact absurd h2 z
      · exact h2
  | .one bs, s, p, v, h, hv, hs => by
    obtain ⟨w, h⟩ := h
    simp only [WI] at h
    exact .inl (by simp only [SnI]; exact startBs bs s p v ⟨w, h⟩ hv hs)
theorem startB {u : List Str} : ∀ (l : List It) (s p : Nat) (v : List Str), SB l v → v ≠ [] → Sub u s p v → SnB l u s p
  | [], s, p, v, h, hv, hs => by
    obtain ⟨w, h⟩ := h
    simp only [WB] at h
    exact absurd (List.append_eq_nil_iff.mp h).1 hv
  | i :: r, s, p, v, h, hv, hs => by
    obtain ⟨w, h⟩ := h
    simp only [WB] at h
    obtain ⟨u1, u2, e, h1, h2⟩ := h
    simp only [SnB]
    rcases List.append_eq_append_iff.mp e with ⟨a', e1, e2⟩ | ⟨c', e1, e2⟩
    · exact .inl (startI i s p v ⟨a', by rw [← e1]; exact h1⟩ hv hs)
    · subst e1
      obtain ⟨m, k1, k2⟩ := sub_app.mp hs
      by_cases z : c' = []
      · subst z
        obtain ⟨rfl, _⟩ := sub_nil.mp k2
        exact .inl (.inr ⟨u1, k1, h1⟩)
      · exact .inr ⟨m, ⟨u1, k1, h1⟩, startB r m p c' ⟨w, by rw [← e2]; exact h2⟩ z k2⟩
theorem startBs {u : List Str} : ∀ (bs : List (List It)) (s p : Nat) (v : List Str), SBs bs v → v ≠ [] → Sub u s p v → SnBs bs u s p
  | [], s, p, v, h, hv, hs => by
    obtain ⟨w, h⟩ := h
    simp only [WBs] at h
  | b :: r, s, p, v, h, hv, hs => by
    obtain ⟨w, h⟩ := h
    simp only [WBs] at h
    simp only [SnBs]
    rcases h with h | h
    · exact .inl (startB b s p v ⟨w, h⟩ hv hs)
    · exact .inr (startBs r s p v ⟨w, h⟩ hv hs)
end
theorem sub_all {u : List Str} : Sub u 0 u.length u := ⟨Nat.zero_le _, Nat.le_refl _, by rw [List.drop_zero, Nat.sub_zero, List.take_length]⟩
/-- a word's end is seen just if the word is a start -/
theorem seen_start {ns : List Str} {l : List It} {u : List Str} (ok : okB ns l) : (u.length = 0 ∨ SnB l u 0 u.length) ∨ EnB l u 0 u.length ↔ SB l u := by
  constructor
  · rintro ((h | h) | h)
    · have : u = [] := List.eq_nil_of_length_eq_zero h
      subst this
      obtain ⟨w, hw⟩ := wb_ex l ok
      exact ⟨w, hw⟩
    · obtain ⟨v, h1, h2⟩ := snB_start l 0 u.length ok h
      have : v = u := by
        obtain ⟨_, _, e⟩ := h1
        rw [List.drop_zero, Nat.sub_zero, List.take_length] at e
        exact e.symm
      rw [← this]
      exact h2
    · exact ⟨[], by rw [List.append_nil]; exact enB_whole.mp h⟩
  · intro h
    by_cases z : u = []
    · exact .inl (.inl (by rw [z]; rfl))
    · exact .inl (.inr (startB l 0 u.length u h z sub_all))
/-! ### starts by nets -/
variable {nm : Nat → Option Str}
def Ext (nm : Nat → Option Str) (a : Pl) : Prop := ∀ w q, At nm a w q → ∃ v, Lg nm a (w ++ v)
theorem ext_e0 : Ext nm .e0 := fun w q h => by
  cases h with
  | first h1 _ => cases h1
  | next _ h2 _ => cases h2
theorem ext_no : Ext nm .no := fun w q h => by
  cases h with
  | first h1 _ => cases h1
  | next _ h2 _ => cases h2
theorem ext_seq {a b : Pl} {n m : Nat} (ha : a.In n) (hb : b.In m) (hm : m = n + a.nm.length) (ea : Ext nm a) (eb : Ext nm b) (ne : ∃ w, Lg nm b w) : Ext nm (a.seq b) := fun w q h => by
  rcases seq_at3 ha hb hm h with ⟨_, h⟩ | ⟨_, u, v, rfl, h1, h2⟩
  · obtain ⟨v, hv⟩ := ea w q h
    obtain ⟨wb, hwb⟩ := ne
    exact ⟨v ++ wb, (seq_lg ha hb hm).mpr ⟨w ++ v, wb, by rw [List.append_assoc], hv, hwb⟩⟩
  · obtain ⟨v', hv⟩ := eb v q h2
    exact ⟨v', (seq_lg ha hb hm).mpr ⟨u, v ++ v', by rw [List.append_assoc], h1, hv⟩⟩
theorem ext_alt {a b : Pl} {n m : Nat} (ha : a.In n) (hb : b.In m) (hm : m = n + a.nm.length) (ea : Ext nm a) (eb : Ext nm b) : Ext nm (a.alt b) := fun w q h => by
  rcases alt_at3 ha hb hm h with ⟨_, h⟩ | ⟨_, h⟩
  · obtain ⟨v, hv⟩ := ea w q h
    exact ⟨v, (alt_lg ha hb hm).mpr (.inl hv)⟩
  · obtain ⟨v, hv⟩ := eb w q h
    exact ⟨v, (alt_lg ha hb hm).mpr (.inr hv)⟩
theorem ext_opt {a : Pl} (ea : Ext nm a) : Ext nm a.opt := fun w q h => by
  obtain ⟨v, hv⟩ := ea w q (At.mono (a := a.opt) (b := a) (fun _ h => h) (fun _ _ h => h) h)
  exact ⟨v, opt_lg.mpr (.inr hv)⟩
theorem ext_turn {a : Pl} (ea : Ext nm a) : Ext nm a.turn := fun w q h => by
  obtain ⟨u, v, rfl, h1, h2⟩ := turn_at2 h
  obtain ⟨v', hv⟩ := ea v q h2
  refine ⟨v', turn_lg.mpr ?_⟩
  rw [List.append_assoc]
  exact .snoc h1 hv (by simp [h2.ne])
mutual
theorem planI_ext {ns : List Str} : ∀ (i : It) (n : Nat), okI ns i → Pla nm n (wrI i) → Ext nm (planI i n)
  | .call x, n, _, h => fun w q hat => by
    have hx : nm n = some x := by have := h 0 (by simp [wrI]); simpa [wrI] using this
    simp only [planI] at hat
    cases hat with
    | first h1 h2 =>
      refine ⟨[], ?_⟩
      simp only [List.mem_singleton] at h1
      subst h1
      rw [hx] at h2
      cases h2
      exact .inr ⟨q, by simp [planI], .first (by simp [planI]) hx⟩
    | next h1 h2 h3 => cases h2
  | .may b, n, ok, h => by
    simp only [wrI] at h
    simp only [okI] at ok
    simp only [planI]
    exact ext_opt (planB_ext b .e0 n e0_in ok.2 (by exact h) ext_e0)
  | .loop b, n, ok, h => by
    simp only [wrI] at h
    simp only [okI] at ok
    simp only [planI]
    exact ext_turn (planB_ext b .e0 n e0_in ok.2 (by exact h) ext_e0)
  | .one bs, n, ok, h => by
    simp only [wrI] at h
    simp only [okI] at ok
    simp only [planI]
    exact planO_ext bs n ok.2.2.2 h
theorem planB_ext {ns : List Str} : ∀ (l : List It) (a : Pl) (n : Nat), a.In n → okB ns l → Pla nm n (a.nm ++ wrB l) → Ext nm a → Ext nm (planB l a n)
  | [], a, n, _, _, _, ea => by simp only [planB]; exact ea
  | i :: r, a, n, hi, ok, h, ea => by
    simp only [wrB] at h
    simp only [okB] at ok
    have ii := planI_in i (n + a.nm.length)
    have h1 : Pla nm (n + a.nm.length) (wrI i) := (Pla.right h).left
    have k := planI_lg i (n + a.nm.length) h1
    simp only [planB]
    obtain ⟨w, hw⟩ := wi_ex i ok.1
    exact planB_ext r _ n (seq_in hi ii rfl) ok.2 (by simp only [Pl.seq, planI_nm i, List.append_assoc]; exact h) (ext_seq hi ii rfl ea (planI_ext i _ ok.1 h1) ⟨w, (k w).mpr hw⟩)
theorem planO_ext {ns : List Str} : ∀ (bs : List (List It)) (n : Nat), okBs ns bs → Pla nm n (wrBs bs) → Ext nm (planO bs n)
  | [], n, _, _ => by simp only [planO]; exact ext_no
  | b :: r, n, ok, h => by
    simp only [wrBs] at h
    simp only [okBs] at ok
    simp only [planO]
    exact planA_ext r _ n (planB_in b .e0 n e0_in) ok.2 (by rw [planB_nm b]; exact h) (planB_ext b .e0 n e0_in ok.1 (by exact h.left) ext_e0)
theorem planA_ext {ns : List Str} : ∀ (bs : List (List It)) (a : Pl) (n : Nat), a.In n → okBs ns bs → Pla nm n (a.nm ++ wrBs bs) → Ext nm a → Ext nm (planA bs a n)
  | [], a, n, _, _, _, ea => by simp only [planA]; exact ea
  | b :: r, a, n, hi, ok, h, ea => by
    simp only [wrBs] at h
    simp only [okBs] at ok
    have h1 : Pla nm (n + a.nm.length) (wrB b) := (Pla.right h).left
    have ii := planB_in b .e0 (n + a.nm.length) e0_in
    simp only [planA]
    exact planA_ext r _ n (alt_in hi ii rfl) ok.2 (by simp only [Pl.alt, planB_nm b, Pl.e0, List.nil_append, List.append_assoc]; exact h) (ext_alt hi ii rfl ea (planB_ext b .e0 _ e0_in ok.1 (by exact h1) ext_e0))
end
/-- the net of a body has a place behind a word just if it is a start -/
theorem plan_starts {ns : List Str} {l : List It} {u : List Str} (ok : okB ns l) : (∃ q, Beh (planB l .e0 1) u q) ↔ SB l u := by
  have inn : (planB l .e0 1).In 1 := planB_in l .e0 1 e0_in
  have hn : (planB l .e0 1).nm = wrB l := by rw [planB_nm]; rfl
  have pl : Pla (nmz (planB l .e0 1)) 1 (Pl.e0.nm ++ wrB l) := fun k hk => by
    unfold nmz
    rw [if_neg (by omega), hn]
    show (wrB l)[1 + k - 1]? = (wrB l)[k]?
    rw [Nat.add_sub_cancel_left]
  have ex : Ext (nmz (planB l .e0 1)) (planB l .e0 1) := planB_ext l .e0 1 e0_in ok pl ext_e0
  constructor
  · rintro ⟨q, ⟨rfl, _⟩ | h⟩
    · obtain ⟨w, hw⟩ := wb_ex l ok
      exact ⟨w, hw⟩
    · obtain ⟨v, hv⟩ := ex u q h
      exact ⟨v, plan_words.mp hv⟩
  · rintro ⟨w, hw⟩
    have key : ∀ (w : List Str), (∃ q, Beh (planB l .e0 1) (u ++ w.reverse) q) → ∃ q, Beh (planB l .e0 1) u q := fun w => by
      induction w with
      | nil => intro h; simpa using h
      | cons x r ih =>
        rintro ⟨q, h⟩
        rw [List.reverse_cons, ← List.append_assoc] at h
        obtain ⟨s, hs, _⟩ := (beh_snoc inn).mp h
        exact ih ⟨s, hs⟩
    have lg := (beh_lg inn).mpr (plan_words.mpr hw)
    obtain ⟨q, hq, _⟩ := lg
    exact key w.reverse ⟨q, by rw [List.reverse_reverse]; exact hq⟩
/-- what begins a start is one -/
theorem SB.pre {l : List It} {u v : List Str} (h : SB l (u ++ v)) : SB l u := let ⟨w, hw⟩ := h; ⟨v ++ w, by rw [← List.append_assoc]; exact hw⟩
theorem SB.word {l : List It} {u : List Str} (h : WB l u) : SB l u := ⟨[], by rw [List.append_nil]; exact h⟩
end FA

set_option Elab.async false
set_option linter.all false
set_option maxRecDepth 100000
set_option maxHeartbeats 4000000
/-! A list comprehension with a test, whose items are small numbers. -/
namespace FA
open PySem PySem.Spec PyProof.Rows L2
def pre (val : Nat → Option Nat) (i : Nat) : List Nat := (List.range i).filterMap val
theorem pre_succ (val : Nat → Option Nat) (i : Nat) : pre val (i + 1) = pre val i ++ (val i).toList := by
  unfold pre
  rw [List.range_succ, List.filterMap_append]
  cases h : val i <;> simp [h]
theorem pre_len (val : Nat → Option Nat) (i : Nat) : (pre val i).length ≤ i := by
  have := List.length_filterMap_le val (List.range i)
  rw [List.length_range] at this
  exact this
theorem pre_mem {val : Nat → Option Nat} {i q : Nat} : q ∈ pre val i ↔ ∃ j, j < i ∧ val j = some q := by
  unfold pre
  rw [List.mem_filterMap]
  exact ⟨fun ⟨j, h, e⟩ => ⟨j, List.mem_range.mp h, e⟩, fun ⟨j, h, e⟩ => ⟨j, List.mem_range.mpr h, e⟩⟩
theorem lcF {J : L2.It} {n : Nat} {g : TG} {tt : TT} {te : TE} {vs : List Nat} {σ : L2.St} {H1 : Hp} {D : Addr} {Qd : Hp → Prop} (hD : H1 D = none) (hn : n < 1000) (Y : Nat → V → Prop) (val : Nat → Option Nat)
    (go : ∀ i H, Same H1 H → i < n → J.go i H) (stop : ∀ H, Same H1 H → J.stop n H) (yld : ∀ i H x H', Same H1 H → i < n → J.yld i H x H' → H' = H ∧ Y i x)
    (step : ∀ i x H (body : Bool → L2.St → Hp → Prop), i < n → Y i x → Same H1 H → (∀ σ2 H2, Same H H2 → (val i = none → body false σ2 H2) ∧ ∀ q : Nat, val i = some q → (∀ Q : VK, Q (.int (q : Int)) H2 → te σ2 H2 Q) → body true σ2 H2) → g x (wipe σ vs) H fun σ2 H2 => wipe σ2 vs = wipe σ vs ∧ tt σ2 H2 fun b H3 => body b σ2 H3)
    (fin : ∀ H, Same H1 H → H D = some (.lst (nts (pre val n))) → Qd H) :
    ∃ W : Nat → Nat → Hp → Prop, (∃ m, W 0 m (upd H1 D (.lst []))) ∧ ∀ i m H, W i m H →
      (J.stop i H ∧ Qd H) ∨ (J.go i H ∧ ∃ Nx : Hp → Prop, (∀ H', Nx H' → ∃ m', m' < m ∧ W (i + 1) m' H') ∧ ∀ x H', J.yld i H x H' → g x (wipe σ vs) H' fun σ2 H2 => wipe σ2 vs = wipe σ vs ∧ tt σ2 H2 fun b H3 =>
        if b = true then te σ2 H3 fun y H4 => ∃ acc, H4 D = some (.lst acc) ∧ acc.length < sizeLine ∧ Nx (upd H4 D (.lst (acc ++ [y]))) else Nx H3) := by
  refine ⟨fun i m H => i ≤ n ∧ m = n - i ∧ Same H1 H ∧ H D = some (.lst (nts (pre val i))), ⟨_, Nat.zero_le _, rfl, fun b o e => by rw [upd_ne (ne_of_none e hD)]; exact e, upd_same⟩, ?_⟩
  rintro i m H ⟨hi, rfl, sm, hd⟩
  by_cases hlt : i < n
  · refine .inr ⟨go i H sm hlt, fun H' => i + 1 ≤ n ∧ Same H1 H' ∧ H' D = some (.lst (nts (pre val (i + 1)))), fun H' h => ⟨n - (i + 1), by omega, h.1, rfl, h.2⟩, fun x H' y => ?_⟩
    obtain ⟨rfl, hY⟩ := yld i H x H' sm hlt y
    refine step i x H' (fun b σ2 H3 => if b = true then te σ2 H3 fun y H4 => ∃ acc, H4 D = some (.lst acc) ∧ acc.length < sizeLine ∧ (i + 1 ≤ n ∧ Same H1 (upd H4 D (.lst (acc ++ [y]))) ∧ (upd H4 D (.lst (acc ++ [y]))) D = some (.lst (nts (pre val (i + 1))))) else (i + 1 ≤ n ∧ Same H1 H3 ∧ H3 D = some (.lst (nts (pre val (i + 1)))))) hlt hY sm fun σ2 H2 s2 => ⟨fun hv => ?_, fun q hv he => ?_⟩
    · rw [if_neg (by decide)]
      refine ⟨hlt, sm.trans s2, ?_⟩
      rw [pre_succ, hv]
      simp only [Option.toList_none, List.append_nil]
      exact s2 _ _ hd
    · rw [if_pos rfl]
      have pl := pre_len val i
      refine he _ ⟨_, s2 _ _ hd, small1000 (by rw [nts_len]; omega), hlt, fun b o e => ?_, ?_⟩
      · rw [upd_ne (ne_of_none e hD)]; exact s2 _ _ (sm _ _ e)
      · rw [upd_same, pre_succ, hv, nts_app]
        rfl
  · have : i = n := by omega
    subst this
    exact .inl ⟨stop H sm, fin H sm hd⟩
section
variable {X : Cx} {K : PySem.W.Frag}
theorem op_notIn_seqK (hK : X.K = K) : OpR X (compareOp .NotIn) (rIn K true) := by subst hK; exact op_notIn_seq
end
theorem eqv_one (ls : List Str) (x : Str) : PyData.eqv (.list (ls.map PyData.str)) (.list [.str x]) = decide (ls = [x]) := by
  match ls with
  | [] => simp [PyData.eqv, PyData.eqvAll]
  | [a] =>
    simp only [List.map_cons, List.map_nil, PyData.eqv, PyData.eqvAll]
    by_cases h : a = x
    · simp [h]
    · simp [h]
  | a :: b :: r => simp [PyData.eqv, PyData.eqvAll]
theorem cut_one {xs : List V} {k : Nat} (h : k ≤ xs.length) : cutV xs (some (k : Int)) (some ((k : Int) + 1)) = (xs.drop k).take 1 := by
  have e : ((k : Int) + 1) = ((k + 1 : Nat) : Int) := rfl
  rw [e]
  unfold cutV
  rw [HT.sIx_nat, HT.sIx_nat, Nat.min_eq_left h]
  by_cases z : k + 1 ≤ xs.length
  · rw [Nat.min_eq_left z, Nat.add_sub_cancel_left]
  · have z2 : k = xs.length := by omega
    subst z2
    rw [List.drop_length, List.take_nil, List.take_nil]
theorem take_one_is {u : List Str} {k : Nat} {x : Str} : (u.drop k).take 1 = [x] ↔ u[k]? = some x := by
  rw [List.take_one, List.head?_drop]
  cases u[k]? <;> simp
theorem pre_asc {val : Nat → Option Nat} : ∀ {n : Nat}, (∀ i j a b, i < j → j < n → val i = some a → val j = some b → a < b) → (pre val n).Pairwise (· < ·)
  | 0, _ => by simp [pre]
  | n + 1, h => by
    rw [pre_succ]
    refine List.pairwise_append.mpr ⟨pre_asc fun i j a b hij hj ha hb => h i j a b hij (by omega) ha hb, ?_, fun a ha b hb => ?_⟩
    · cases val n <;> simp
    · obtain ⟨i, hi, hv⟩ := pre_mem.mp ha
      cases hv2 : val n with
      | none => rw [hv2] at hb; simp at hb
      | some q =>
        rw [hv2] at hb
        simp at hb
        subst hb
        exact h i n a _ hi (by omega) hv hv2
end FA

set_option Elab.async false
set_option linter.all false
set_option maxRecDepth 100000
set_option maxHeartbeats 4000000
/-! sum of lists. -/
namespace FA
open PySem PySem.Spec PyProof.Rows L2
variable {P : Program} {w : World} {A : Around} {E : Value → Shared → Prop} {s : Shared}
def cat (con : Nat → List Value) (i : Nat) : List Value := (List.range i).flatMap con
theorem cat_succ (con : Nat → List Value) (i : Nat) : cat con (i + 1) = cat con i ++ con i := by
  unfold cat
  rw [List.range_succ, List.flatMap_append]
  simp
theorem sum_lists_loop {I : Addr} {fp wr : List Addr} {G : Array GenState → Array GenState → Prop} {n : Nat} {Pv : Nat → Value → Prop} {St : Nat → Shared → Prop} {R : Result → Shared → Prop} (W : WalksS P w A.in1 I fp wr G n Pv St)
    (S : Addr) (hSf : S ∉ fp) (hlt : ∀ b ∈ fp, b < S) (h0 : Heap) (con : Nat → List Value) (cap : ∀ i, i ≤ n → (cat con i).length ≤ sizeLine)
    (hval : ∀ i v, Pv i v → ∃ b c, v = .ref b ∧ IsL h0 b (con i).toArray c ∧ b ∉ wr ∧ b ≠ S) : ∀ (k i : Nat) (s : Shared) (Rr : Addr) (c cR : Nat), n - i = k → i ≤ n → St i s → (∀ b o, b ∉ wr → b ≠ S → h0.get? b = some o → s.heap.get? b = some o) →
      s.heap.get? S = some { cls := .type "list", data := .seq #[.ref Rr] c } → IsL s.heap Rr (cat con i).toArray cR → Rr ∉ wr → Rr ≠ S →
      (∀ s' R' c', Moved (S :: wr) G s s' → ((R' = Rr ∧ i = n) ∨ S < R') → IsL s'.heap R' (cat con n).toArray c' → R (.ok (.ret (.ref R'))) s') →
      codeAny (model P w) A (.builtin "sum.loop" ⟨[.ref I, .ref S, rawInt 2, rawInt 0], []⟩) R s := by
  have out : S ∉ wr := fun h => hSf (W.sub _ h)
  have more : ∀ b ∈ wr, b ∈ S :: wr := fun b hb => List.mem_cons_of_mem _ hb
  intro k
  induction k with
  | zero =>
    intro i s Rr c cR hk' hi hst h0s hS hL hRw hRS hR
    have hin : i = n := by omega
    subst hin
    refine codeAny_builtin F.entry_sum_loop ?_
    rw [Around.under_plainId F.plain_sum_loop _]
    unfold Builtin.«sum.loop»
    dsimp only [rawInt, seqItems?]
    refine wpAny_bind (wpAny_bind (wpAny_load hS ?_))
    refine wpAny_pure ?_
    dsimp only [Option.getD]
    show wpAny (model P w) A.in1 (((pyNext (.ref I)).tryCatch _) >>= _) _ _ s
    refine wpAny_bind (wpAny_tryCatch (W.done s _ _ hst fun s' hm => ?_))
    exact wpAny_pure (hR s' Rr cR (hm.mono more) (.inl ⟨rfl, rfl⟩) (hm.heap Rr _ hRw hL))
  | succ k ih =>
    intro i s Rr c cR hk' hi hst h0s hS hL hRw hRS hR
    have hi' : i < n := by omega
    have cp := cap (i + 1) hi'
    rw [cat_succ, List.length_append] at cp
    refine codeAny_builtin F.entry_sum_loop ?_
    rw [Around.under_plainId F.plain_sum_loop _]
    unfold Builtin.«sum.loop»
    dsimp only [rawInt, seqItems?]
    refine wpAny_bind (wpAny_bind (wpAny_load hS ?_))
    refine wpAny_pure ?_
    dsimp only [Option.getD]
    show wpAny (model P w) A.in1 (((pyNext (.ref I)).tryCatch _) >>= _) _ _ s
    refine wpAny_bind (wpAny_tryCatch (W.item i s _ _ hi' hst fun v s' hP hst' hm => ?_))
    obtain ⟨b, cb, rfl, hb, hbw, hbS⟩ := hval i v hP
    have hL' : IsL s'.heap Rr (cat con i).toArray cR := hm.heap Rr _ hRw hL
    have hb' : IsL s'.heap b (con i).toArray cb := hm.heap b _ hbw (h0s b _ hbw hbS hb)
    have hS' := hm.heap S _ out hS
    have hSlt : S < s'.heap.objs.size := Heap.lt_size hS'
    show wpAny (model P w) A.in1 (((holding [Value.ref b] (binaryOp .Add (.ref Rr) (.ref b))).attempt) >>= _) _ _ s'
    refine wpAny_bind (wpAny_attempt (wpAny_holding (_root_.PySem.P.add_list hL' hb' ?_ (by simp only [List.size_toArray]; omega))))
    have hNS : s'.heap.objs.size ≠ S := Nat.ne_of_gt hSlt
    have hNw : s'.heap.objs.size ∉ wr := fun hh => by
      exact absurd (Nat.lt_trans (hlt _ (W.sub _ hh)) hSlt) (Nat.lt_irrefl _)
    have ea : (cat con i).toArray ++ (con i).toArray = (cat con (i + 1)).toArray := by rw [cat_succ]; simp
    rw [ea]
    have hS1 : (s'.heap.push { cls := .type "list", data := .seq (cat con (i + 1)).toArray }).get? S = some { cls := .type "list", data := .seq #[.ref Rr] c } := Heap.get?_push_of_some _ hS'
    have hN1 := IsL.new s'.heap (cat con (i + 1)).toArray
    have k1 : ∀ (x : Addr) (o : Obj), s'.heap.get? x = some o → (s'.heap.push { cls := .type "list", data := .seq (cat con (i + 1)).toArray }).get? x = some o := fun x o e => Heap.get?_push_of_some _ e
    generalize s'.heap.push { cls := .type "list", data := .seq (cat con (i + 1)).toArray } = h1 at hS1 hN1 k1 ⊢
    generalize hN : s'.heap.objs.size = N at hN1 hNS hNw ⊢
    show wpAny (model P w) A.in1 (updateSeq S (fun _ => #[Value.ref N]) >>= _) _ _ _
    refine wpAny_bind (wpAny_updateSeq hS1 rfl ?_)
    refine wpAny_bind (wpAny_letGo ?_)
    have hS2 : (h1.update S (Obj.mapSeq fun _ => #[Value.ref N])).get? S = some { cls := .type "list", data := .seq #[.ref N] c } := Heap.get?_update_self _ hS1 rfl
    have hN2 : IsL (h1.update S (Obj.mapSeq fun _ => #[Value.ref N])) N (cat con (i + 1)).toArray 0 := IsL.update_other hN1 hNS.symm _
    have k2 : ∀ (x : Addr) (o : Obj), x ≠ S → s'.heap.get? x = some o → (h1.update S (Obj.mapSeq fun _ => #[Value.ref N])).get? x = some o := fun x o n e => by rw [Heap.get?_update_ne _ _ _ _ n]; exact k1 x o e
    generalize h1.update S (Obj.mapSeq fun _ => #[Value.ref N]) = h2 at hS2 hN2 k2 ⊢
    refine wpAny_bind (wpAny_updateSeq hS2 rfl ?_)
    have hS3 : (h2.update S (Obj.mapSeq fun _ => #[Value.ref N])).get? S = some { cls := .type "list", data := .seq #[.ref N] c } := Heap.get?_update_self _ hS2 rfl
    have hN3 : IsL (h2.update S (Obj.mapSeq fun _ => #[Value.ref N])) N (cat con (i + 1)).toArray 0 := IsL.update_other hN2 hNS.symm _
    have k3 : ∀ (x : Addr) (o : Obj), x ≠ S → s'.heap.get? x = some o → (h2.update S (Obj.mapSeq fun _ => #[Value.ref N])).get? x = some o := fun x o n e => by rw [Heap.get?_update_ne _ _ _ _ n]; exact k2 x o n e
    generalize h2.update S (Obj.mapSeq fun _ => #[Value.ref N]) = h3 at hS3 hN3 k3 ⊢
    refine wpAny_pure ⟨plainId_quiet F.plain_sum_loop _, ih (i + 1) _ N c 0 (by omega) hi' (W.frame _ s' _ _ hst' (Nat.le_refl _) fun x hx o e => k3 x o (fun z => hSf (by rw [← z]; exact hx)) e) (fun x o n1 n2 e => k3 x o n2 (hm.heap x o n1 (h0s x o n1 n2 e))) hS3 hN3 hNw hNS fun s3 R' c' hm3 hR' hL3 => ?_⟩
    refine hR s3 R' c' (Moved.trans W.gtrans ((hm.mono more).then_heap (Nat.le_refl _) fun x o hx e => k3 x o (fun z => hx (by rw [z]; exact List.mem_cons_self)) e) hm3) ?_ hL3
    rcases hR' with ⟨rfl, _⟩ | hR'
    · exact .inr (by rw [← hN]; exact hSlt)
    · exact .inr hR'
theorem args_sum_2 (a b : Value) : argsOk "sum" ⟨[a, b], []⟩ := by
  first
    | rfl
    | (unfold argsOk; rfl)
theorem call_sum_lists {l t : Addr} {items : Array Value} {con : Nat → List Value} {ct : Nat} {Q : Value → Shared → Prop} (hh : A.handled = none) (hl : s.heap.IsList l items) (ht : IsL s.heap t #[] ct) (cap : ∀ i, i ≤ items.size → (cat con i).length ≤ sizeLine)
    (hval : ∀ (i : Nat) (v : Value), items[i]? = some v → ∃ b c, v = .ref b ∧ IsL s.heap b (con i).toArray c)
    (h : ∀ (h' : Heap) (tk : Nat) (r c' : Nat), (∀ b o, s.heap.get? b = some o → h'.get? b = some o) → ((r = t ∧ 0 = items.size) ∨ s.heap.objs.size ≤ r) → IsL h' r (cat con items.size).toArray c' → Q (.ref r) { s with heap := h', toks := tk }) : wpAny (model P w) A (call (.builtin "sum") [.ref l, .ref t]) Q E s := by
  refine wpAny_call (codeAny_call_builtin F.plain_sum F.entry_sum ?_)
  rw [show checkBuiltinCall "sum" ⟨[.ref l, .ref t], []⟩ = pure () from rfl]
  refine wpAny_pure ?_
  unfold Builtin.«sum»
  generalize hPI : pyIter = PI
  wp_walk
  subst hPI
  refine wpAny_pyIter_list hl ?_
  have ht1 : IsL (s.heap.push { cls := .type "list_iterator", data := .fields #[.ref l, .int 0 0] }) t #[] ct := IsL.push ht _
  have hT : Shared.TypeIs { s with heap := s.heap.push { cls := .type "list_iterator", data := .fields #[.ref l, .int 0 0] } } (.ref t) "list" := ⟨_, ht1, rfl⟩
  dsimp only []
  refine wpAny_bind (wpAny_pure ?_)
  dsimp only []
  simp only [List.forIn_cons, List.forIn_nil, bind_assoc, pure_bind]
  refine wpAny_bind (wpAny_isInstance hT F.sub_list_str ?_)
  simp only [Bool.false_eq_true, if_false, pure_bind]
  refine wpAny_bind (wpAny_bind (wpAny_isInstance hT F.sub_list_bytes ?_))
  simp only [Bool.false_eq_true, if_false, pure_bind]
  refine wpAny_bind (wpAny_isInstance hT F.sub_list_bytearray ?_)
  simp only [Bool.false_eq_true, if_false, pure_bind]
  refine wpAny_pure (wpAny_bind (wpAny_newList ?_))
  have k1 : ∀ (b : Addr) (o : Obj), s.heap.get? b = some o → (s.heap.push { cls := .type "list_iterator", data := .fields #[.ref l, .int 0 0] }).get? b = some o := fun b o e => Heap.get?_push_of_some _ e
  have hlS : l < s.heap.objs.size := by
    obtain ⟨ol, hol, _⟩ := hl
    exact Heap.lt_size hol
  have htS : t < s.heap.objs.size := Heap.lt_size ht
  have sz : (s.heap.push { cls := .type "list_iterator", data := .fields #[.ref l, .int 0 0] }).objs.size = s.heap.objs.size + 1 := Heap.size_push _ _
  have hI : (s.heap.push { cls := .type "list_iterator", data := .fields #[.ref l, .int 0 0] }).get? s.heap.objs.size = some { cls := .type "list_iterator", data := .fields #[.ref l, .int 0 0] } := Heap.get?_push_size _ rfl
  have hl1 := hl.push { cls := .type "list_iterator", data := .fields #[.ref l, .int 0 0] }
  generalize s.heap.push { cls := .type "list_iterator", data := .fields #[.ref l, .int 0 0] } = h1 at ht1 hT k1 sz hI hl1 ⊢
  have hS : (h1.push { cls := .type "list", data := .seq [Value.ref t].toArray }).get? h1.objs.size = some { cls := .type "list", data := .seq #[.ref t] 0 } := Heap.get?_push_size _ rfl
  have k2 : ∀ (b : Addr) (o : Obj), h1.get? b = some o → (h1.push { cls := .type "list", data := .seq [Value.ref t].toArray }).get? b = some o := fun b o e => Heap.get?_push_of_some _ e
  have hl2 := hl1.push { cls := .type "list", data := .seq [Value.ref t].toArray }
  generalize hS1 : h1.objs.size = S at hS ⊢
  have eS : S = s.heap.objs.size + 1 := by rw [← hS1, sz]
  have hh3 : A.in1.handled = none := by simp [hh]
  have hneI : l ≠ s.heap.objs.size := Nat.ne_of_lt hlS
  have hSf : S ∉ [s.heap.objs.size, l] := by
    simp only [List.mem_cons, List.mem_singleton, List.not_mem_nil, or_false, not_or]
    exact ⟨by rw [eS]; exact Nat.succ_ne_self _, by rw [eS]; exact (Nat.ne_of_lt (Nat.lt_succ_of_lt hlS)).symm⟩
  generalize h1.push { cls := .type "list", data := .seq [Value.ref t].toArray } = h2 at hS k2 hl2 ⊢
  refine wpAny_pure ⟨plainId_quiet F.plain_sum_loop _, ?_⟩
  refine sum_lists_loop ((Walks.list hh3 _ l hneI items).toS) S hSf ?_ s.heap con cap ?_ (items.size - 0) 0 _ t 0 ct (by omega) (Nat.zero_le _) ⟨⟨_, k2 _ _ hI, rfl, rfl⟩, hl2⟩ (fun b o _ _ e => k2 _ _ (k1 _ _ e)) hS (by exact k2 _ _ ht1) ?_ ?_ ?_
  · intro b hb
    rcases List.mem_cons.mp hb with rfl | hb
    · rw [eS]; exact Nat.lt_succ_self _
    · rw [List.mem_singleton.mp hb, eS]; exact Nat.lt_succ_of_lt hlS
  · intro i v hv
    obtain ⟨b, c, rfl, hb⟩ := hval i v hv
    have : b < s.heap.objs.size := Heap.lt_size hb
    refine ⟨b, c, rfl, hb, fun z => ?_, fun z => ?_⟩
    · rw [List.mem_singleton.mp z] at this; exact absurd this (Nat.lt_irrefl _)
    · rw [z, eS] at this; exact absurd (Nat.lt_of_succ_lt this) (Nat.lt_irrefl _)
  · intro z
    rw [List.mem_singleton.mp z] at htS
    exact absurd htS (Nat.lt_irrefl _)
  · intro z
    rw [z, eS] at htS
    exact absurd (Nat.lt_of_succ_lt htS) (Nat.lt_irrefl _)
  · intro s' R' c' hm hR' hL
    obtain ⟨h', g2, d', tk', os'⟩ := s'
    have eg : g2 = s.gens := hm.gens
    have ed : d' = s.drawn := hm.drawn
    have eo : os' = s.os := hm.os
    subst eg; subst ed; subst eo
    refine h h' tk' R' c' (fun b o e => ?_) ?_ hL
    · have hb0 : b < s.heap.objs.size := Heap.lt_size e
      refine hm.heap b o ?_ (k2 _ _ (k1 _ _ e))
      simp only [List.mem_cons, List.mem_singleton, List.not_mem_nil, or_false, not_or]
      exact ⟨by rw [eS]; exact Nat.ne_of_lt (Nat.lt_succ_of_lt hb0), Nat.ne_of_lt hb0⟩
    · rcases hR' with ⟨rfl, z⟩ | hR'
      · exact .inl ⟨rfl, z⟩
      · exact .inr (Nat.le_of_lt (Nat.lt_trans (by rw [eS]; exact Nat.lt_succ_self _) hR'))
theorem paired_back {α β : Type} {F : α → β → Prop} : ∀ {l : List α} {m : List β} {i : Nat} {v : β}, PySem.Paired F l m → m[i]? = some v → ∃ x, l[i]? = some x ∧ F x v
  | _, _, 0, _, .cons a _, h => by cases h; exact ⟨_, rfl, a⟩
  | _, _, i + 1, _, .cons _ t, h => paired_back (i := i) t h
theorem flat_take_le {α : Type} : ∀ (ls : List (List α)) (i : Nat), (ls.take i).flatten.length ≤ ls.flatten.length
  | [], i => by simp
  | x :: r, 0 => by simp
  | x :: r, i + 1 => by
    have := flat_take_le r i
    simp only [List.take_succ_cons, List.flatten_cons, List.length_append]
    omega
section
variable {X : Cx}
/-- sum(list of lists, []) -/
def rSumLs : List V → Hp → VK → Prop := fun xs H Q => ∃ (p t : Addr) (ws : List V) (ls : List (List V)), xs = [V.ref p, V.ref t] ∧ H p = some (.lst ws) ∧ H t = some (.lst []) ∧ ws ≠ [] ∧ ws.length = ls.length ∧ (∀ (j : Nat) v, ws[j]? = some v → ∃ b zs, v = .ref b ∧ ls[j]? = some zs ∧ H b = some (.lst zs)) ∧ ls.flatten.length ≤ sizeLine ∧
  ∀ r, H r = none → Q (.ref r) (upd H r (.lst ls.flatten))
theorem cr_sumLs (hc : X.calm = true) : CallR X (.builtin "sum") rSumLs := by
  intro pins s σ H xs us Q I r h
  obtain ⟨p, t, ws, ls, rfl, hp, ht, hne, hwl, hls, hcap, q⟩ := h
  obtain ⟨u1, u2, rfl, e1, e2⟩ : ∃ u1 u2, us = [u1, u2] ∧ RelV (.ref p) u1 ∧ RelV (.ref t) u2 := by
    cases r with
    | cons a r => cases r with
      | cons b r => cases r; exact ⟨_, _, rfl, a, b⟩
  have hu1 : u1 = .ref p := e1
  have hu2 : u2 = .ref t := e2
  subst hu1 hu2
  obtain ⟨_, its, n, rv, ho⟩ := I.hok p _ hp
  obtain ⟨_, its2, n2, rv2, ho2⟩ := I.hok t _ ht
  cases rv2
  have ex : ∀ j : Nat, ∃ con : List Value, ∀ (b : Addr) (zs : List V), ws[j]? = some (V.ref b) → H b = some (.lst zs) → ∃ c, Vals zs con ∧ s.heap.get? b = some { cls := .type "list", data := .seq con.toArray c } := fun j => by
    cases hj : ws[j]? with
    | none => exact ⟨[], fun b zs e => by cases e⟩
    | some v =>
      obtain ⟨b, zs, rfl, _, hb⟩ := hls j v hj
      obtain ⟨_, its3, n3, rv3, ho3⟩ := I.hok b _ hb
      refine ⟨its3, fun b' zs' e e' => ?_⟩
      cases e
      rw [hb] at e'
      cases e'
      exact ⟨n3, rv3, ho3⟩
  obtain ⟨con, hcon⟩ : ∃ con : Nat → List Value, ∀ (j : Nat) (b : Addr) (zs : List V), ws[j]? = some (V.ref b) → H b = some (.lst zs) → ∃ c, Vals zs (con j) ∧ s.heap.get? b = some { cls := .type "list", data := .seq (con j).toArray c } := ⟨fun j => Classical.choose (ex j), fun j => Classical.choose_spec (ex j)⟩
  have hlen : its.length = ws.length := (Vals.length rv).symm
  have key : ∀ i, i ≤ ws.length → Vals (ls.take i).flatten (cat con i) := fun i => by
    induction i with
    | zero => intro _; exact .nil
    | succ i ih =>
      intro hi
      have hj : ws[i]? = some ws[i] := List.getElem?_eq_getElem (by omega)
      obtain ⟨b, zs, e, e3, hb⟩ := hls i _ hj
      rw [e] at hj
      obtain ⟨c, v3, _⟩ := hcon i b zs hj hb
      rw [cat_succ, List.take_add_one, e3, List.flatten_append]
      refine Vals.append (ih (by omega)) ?_
      simpa using v3
  have cap : ∀ i, i ≤ its.toArray.size → (cat con i).length ≤ sizeLine := fun i hi => by
    have hi' : i ≤ ws.length := by simpa [hlen] using hi
    rw [← Vals.length (key i hi')]
    exact Nat.le_trans (flat_take_le ls i) hcap
  refine call_sum_lists (P := X.prog) (w := X.w) (items := its.toArray) (con := con) (I.ok.hd hc) ⟨_, ho, rfl, n, rfl⟩ ho2 cap (fun i v hv => ?_) fun h' tk r c' hk hr hL => ?_
  · have hv' : its[i]? = some v := by simpa using hv
    obtain ⟨x, hx, rx⟩ := paired_back rv hv'
    obtain ⟨b, zs, rfl, e3, hb⟩ := hls i x hx
    obtain ⟨c, _, hg⟩ := hcon i b zs hx hb
    exact ⟨b, c, rx, hg⟩
  · have hr' : s.heap.objs.size ≤ r := by
      rcases hr with ⟨_, z⟩ | hr
      · have : ws.length = 0 := by rw [← hlen]; simpa using z.symm
        exact absurd (List.eq_nil_of_length_eq_zero this) hne
      · exact hr
    have e : its.toArray.size = ws.length := by simp [hlen]
    rw [e] at hL
    have kv := key ws.length (Nat.le_refl _)
    rw [List.take_of_length_le (by omega)] at kv
    exact ⟨.ref _, upd H r (.lst ls.flatten), I.laid (t' := tk) hk hr' ⟨hcap, _, _, kv, hL⟩, rfl, q r (I.hok.fresh hr')⟩
end
end FA

set_option Elab.async false
set_option linter.all false
set_option maxRecDepth 100000
set_option maxHeartbeats 4000000
/-! Lists of small numbers: sorted(set(..)), sorted(..), == of them. -/
namespace FA
open PySem PySem.Spec PyProof.Rows L2
variable {w : World} {K : PySem.W.Frag}
theorem nts_ints (l : List Nat) : nts l = (l.map fun (q : Nat) => (q : Int)).map V.int := by
  unfold nts
  rw [List.map_map]
  rfl
theorem nts_flat_all (ls : List (List Nat)) : (ls.map nts).flatten = nts ls.flatten := by
  induction ls with
  | nil => rfl
  | cons x r ih => rw [List.map_cons, List.flatten_cons, List.flatten_cons, nts_app, ih]
theorem nat_back {ns : List Int} {C : Nat → Prop} (h : ∀ k : Int, k ∈ ns ↔ ∃ q : Nat, C q ∧ k = (q : Int)) : ns.map V.int = nts (ns.map Int.toNat) ∧ ∀ q, q ∈ ns.map Int.toNat ↔ C q := by
  constructor
  · unfold nts
    rw [List.map_map]
    refine List.map_congr_left fun k hk => ?_
    obtain ⟨q, _, rfl⟩ := (h k).mp hk
    rfl
  · intro q
    rw [List.mem_map]
    constructor
    · rintro ⟨k, hk, rfl⟩
      obtain ⟨q, hq, rfl⟩ := (h k).mp hk
      exact hq
    · intro hq
      exact ⟨(q : Int), (h _).mpr ⟨q, hq, rfl⟩, rfl⟩
theorem toNat_asc {ns : List Int} (h : ns.Pairwise (· < ·)) (nn : ∀ k ∈ ns, 0 ≤ k) : (ns.map Int.toNat).Pairwise (· < ·) := by
  rw [List.pairwise_map]
  refine List.Pairwise.imp_of_mem (fun {a b} ha hb hab => ?_) h
  have := nn a ha
  have := nn b hb
  omega
theorem ints_few : ∀ {ks : List Int} {n : Nat}, ks.Nodup → (∀ k ∈ ks, 0 ≤ k ∧ k < (n : Int)) → ks.length ≤ n := fun {ks n} nd h => by
  have h1 : (ks.map Int.toNat).Nodup := by
    rw [List.Nodup, List.pairwise_map]
    refine List.Pairwise.imp_of_mem (fun {a b} ha hb hab => ?_) nd
    have := h a ha
    have := h b hb
    omega
  have h2 := nodup_len h1 (m := List.range n) fun q hq => by
    obtain ⟨k, hk, rfl⟩ := List.mem_map.mp hq
    have := h k hk
    rw [List.mem_range]
    omega
  rw [List.length_map, List.length_range] at h2
  exact h2
/-- sorted(set(l)) -/
theorem sort_setN {H : Hp} {p : Addr} {l : List Nat} {Q : VK} (hp : H p = some (.lst (nts l))) (hl : l.length ≤ 1000) (small : ∀ q ∈ l, q < 63)
    (q : ∀ a b o qs, H a = none → (upd H a o) b = none → qs.Pairwise (· < ·) → (∀ k, k ∈ qs ↔ k ∈ l) → Q (.ref b) (upd (upd H a o) b (.lst (nts qs)))) :
    rSetIs K w [.ref p] H (fun v H1 => rSortedSet w [v] H1 Q) := by
  refine ⟨p, _, rfl, by rw [nts_ints] at hp; exact SqL.of hp, by rw [List.length_map]; exact hl, fun a n ks ha nd mem len => ?_⟩
  have mem' : ∀ k : Int, k ∈ l.map (fun (q : Nat) => (q : Int)) ↔ ∃ q : Nat, q ∈ l ∧ k = (q : Int) := fun k => by
    rw [List.mem_map]
    exact ⟨fun ⟨q, h, e⟩ => ⟨q, h, e.symm⟩, fun ⟨q, h, e⟩ => ⟨q, h, e.symm⟩⟩
  have n64 : n ≤ 63 := by
    rw [← len]
    refine ints_few nd fun k hk => ?_
    obtain ⟨q0, h0, rfl⟩ := (mem' k).mp ((mem k).mp hk)
    have := small q0 h0
    omega
  refine ⟨a, _, n, rfl, upd_same, by omega, fun ns b pw hm hlen hb => ?_⟩
  have hm' : ∀ k : Int, k ∈ ns ↔ ∃ q : Nat, q ∈ l ∧ k = (q : Int) := fun k => by
    rw [hm, decide_eq_true_eq]
    exact mem' k
  obtain ⟨e1, e2⟩ := nat_back hm'
  rw [e1]
  exact q a b _ _ ha hb (toNat_asc pw fun k hk => by obtain ⟨q0, _, rfl⟩ := (hm' k).mp hk; omega) e2
/-- sorted(l), the numbers of l different -/
theorem sorted_nts {H : Hp} {p : Addr} {l : List Nat} {Q : VK} (hp : H p = some (.lst (nts l))) (hl : l.length < 64) (nd : l.Nodup)
    (q : ∀ b qs, H b = none → qs.Pairwise (· < ·) → (∀ k, k ∈ qs ↔ k ∈ l) → qs.length = l.length → Q (.ref b) (upd H b (.lst (nts qs)))) : rSorted K [.ref p] H Q := by
  refine ⟨p, _, rfl, by rw [nts_ints] at hp; exact SqL.of hp, by rw [List.length_map]; exact hl, fun ns b pm pw hb => ?_⟩
  have mem' : ∀ k : Int, k ∈ ns ↔ ∃ q : Nat, q ∈ l ∧ k = (q : Int) := fun k => by
    rw [pm.mem_iff, List.mem_map]
    exact ⟨fun ⟨q, h, e⟩ => ⟨q, h, e.symm⟩, fun ⟨q, h, e⟩ => ⟨q, h, e.symm⟩⟩
  obtain ⟨e1, e2⟩ := nat_back mem'
  have ndi : (l.map fun (q : Nat) => (q : Int)).Nodup := by
    rw [List.Nodup, List.pairwise_map]
    exact nd.imp fun h e => h (by omega)
  have ndn : ns.Nodup := pm.nodup_iff.mpr ndi
  have pl : ns.Pairwise (· < ·) := by
    refine List.Pairwise.imp₂ (fun {a b} h1 h2 => ?_) pw ndn
    omega
  rw [e1]
  refine q b _ hb (toNat_asc pl fun k hk => by obtain ⟨q0, _, rfl⟩ := (mem' k).mp hk; omega) e2 ?_
  rw [List.length_map, pm.length_eq, List.length_map]
theorem dp_nts {H : Hp} : ∀ ls : List Nat, DpAll K H (nts ls) (ls.map fun (q : Nat) => PyData.int (q : Int))
  | [] => .nil
  | x :: r => .cons (.int x) (dp_nts r)
theorem nts_shaped (ls : List Nat) : SeqAt.shaped (.list (ls.map fun (q : Nat) => PyData.int (q : Int))) = true := by
  refine dt_shaped ?_ ?_
  · induction ls with
    | nil => rfl
    | cons x r ih =>
      simp only [List.map_cons, PyData.canLayAll0, PyData.canLay0, Bool.true_and]
      exact ih
  · have : PyData.depthAll (ls.map fun (q : Nat) => PyData.int (q : Int)) = 0 := by
      induction ls with
      | nil => rfl
      | cons x r ih => simp only [List.map_cons, PyData.depthAll, PyData.depth, ih]; rfl
    rw [this]; omega
theorem nIBs_takeS : ∀ {l : List (List It)} {i : Nat} {b : List It}, l[i]? = some b → nIBs (l.take (i + 1)) = nIBs (l.take i) + nIB b
  | x :: r, 0, b, h => by cases h; simp [nIBs]
  | x :: r, i + 1, b, h => by
    have := nIBs_takeS (l := r) (i := i) (b := b) (by simpa using h)
    simp only [List.take_succ_cons, nIBs, this]
    omega
theorem nIBs_take : ∀ (l : List (List It)) (k : Nat), nIBs (l.take k) ≤ nIBs l
  | [], k => by simp
  | b :: r, 0 => by simp [nIBs]
  | b :: r, k + 1 => by
    have := nIBs_take r k
    simp only [List.take_succ_cons, nIBs]
    omega
end FA

set_option Elab.async false
set_option linter.all false
set_option maxRecDepth 100000
set_option maxHeartbeats 4000000
/-! Products in the heap. -/
namespace FA
open PySem PySem.Spec PyProof.Rows L2
inductive AtAt (H : Hp) : V → Atm → Prop
  | n (x : Str) : AtAt H (.str x) (.n x)
  | t {a : Addr} {xs : List Str} : H a = some (.tup (xs.map V.str)) → AtAt H (.ref a) (.t xs)
inductive AtsAt (H : Hp) : List V → Prd → Prop
  | nil : AtsAt H [] []
  | cons {v : V} {a : Atm} {vs : List V} {p : Prd} : AtAt H v a → AtsAt H vs p → AtsAt H (v :: vs) (a :: p)
def PdAt (H : Hp) (b : Addr) (p : Prd) : Prop := ∃ vs, H b = some (.lst vs) ∧ AtsAt H vs p
inductive PdsAt (H : Hp) : List V → List Prd → Prop
  | nil : PdsAt H [] []
  | cons {b : Addr} {p : Prd} {vs : List V} {ps : List Prd} : PdAt H b p → PdsAt H vs ps → PdsAt H (.ref b :: vs) (p :: ps)
section
variable {H H' : Hp}
theorem AtAt.keep (k : Kp H H') {v : V} {a : Atm} (h : AtAt H v a) : AtAt H' v a := by
  cases h with
  | n x => exact .n x
  | t h => exact .t (k.t _ _ h)
theorem AtAt.two {v : V} {a : Atm} (h : AtAt H v a) : (∃ x, v = .str x ∧ a = .n x) ∨ ∃ t xs, v = .ref t ∧ a = .t xs ∧ H t = some (.tup (xs.map V.str)) := by
  cases h with
  | n x => exact .inl ⟨x, rfl, rfl⟩
  | t h => exact .inr ⟨_, _, rfl, rfl, h⟩
theorem AtsAt.keep (k : Kp H H') : ∀ {vs : List V} {p : Prd}, AtsAt H vs p → AtsAt H' vs p
  | _, _, .nil => .nil
  | _, _, .cons h t => .cons (h.keep k) (t.keep k)
theorem PdAt.keep (k : Kp H H') {b : Addr} {p : Prd} (h : PdAt H b p) : PdAt H' b p := let ⟨vs, h1, h2⟩ := h; ⟨vs, k.l _ _ h1, h2.keep k⟩
theorem PdsAt.keep (k : Kp H H') : ∀ {vs : List V} {ps : List Prd}, PdsAt H vs ps → PdsAt H' vs ps
  | _, _, .nil => .nil
  | _, _, .cons h t => .cons (h.keep k) (t.keep k)
theorem AtsAt.length : ∀ {vs : List V} {p : Prd}, AtsAt H vs p → vs.length = p.length
  | _, _, .nil => rfl
  | _, _, .cons _ t => congrArg (· + 1) t.length
theorem PdsAt.length : ∀ {vs : List V} {ps : List Prd}, PdsAt H vs ps → vs.length = ps.length
  | _, _, .nil => rfl
  | _, _, .cons _ t => congrArg (· + 1) t.length
theorem AtsAt.get : ∀ {vs : List V} {p : Prd} {i : Nat} {v : V}, AtsAt H vs p → vs[i]? = some v → ∃ a, p[i]? = some a ∧ AtAt H v a
  | _, _, _, _, .nil, e => by simp at e
  | _, _, 0, _, .cons h _, e => by simp at e; subst e; exact ⟨_, rfl, h⟩
  | _, _, i + 1, _, .cons _ t, e => by
    obtain ⟨a, h1, h2⟩ := AtsAt.get (i := i) t (by simpa using e)
    exact ⟨a, by simpa using h1, h2⟩
theorem AtsAt.at : ∀ {vs : List V} {p : Prd} {i : Nat} {a : Atm}, AtsAt H vs p → p[i]? = some a → ∃ v, vs[i]? = some v ∧ AtAt H v a
  | _, _, _, _, .nil, e => by simp at e
  | _, _, 0, _, .cons h _, e => by simp at e; subst e; exact ⟨_, rfl, h⟩
  | _, _, i + 1, _, .cons _ t, e => by
    obtain ⟨a, h1, h2⟩ := AtsAt.at (i := i) t (by simpa using e)
    exact ⟨a, by simpa using h1, h2⟩
theorem PdsAt.get : ∀ {vs : List V} {ps : List Prd} {i : Nat} {v : V}, PdsAt H vs ps → vs[i]? = some v → ∃ b p, v = .ref b ∧ ps[i]? = some p ∧ PdAt H b p
  | _, _, _, _, .nil, e => by simp at e
  | _, _, 0, _, .cons h _, e => by simp at e; subst e; exact ⟨_, _, rfl, rfl, h⟩
  | _, _, i + 1, _, .cons _ t, e => by
    obtain ⟨b, p, h1, h2, h3⟩ := PdsAt.get (i := i) t (by simpa using e)
    exact ⟨b, p, h1, by simpa using h2, h3⟩
theorem AtsAt.app : ∀ {vs ws : List V} {p q : Prd}, AtsAt H vs p → AtsAt H ws q → AtsAt H (vs ++ ws) (p ++ q)
  | _, _, _, _, .nil, k => k
  | _, _, _, _, .cons h t, k => .cons h (t.app k)
theorem PdsAt.app : ∀ {vs ws : List V} {p q : List Prd}, PdsAt H vs p → PdsAt H ws q → PdsAt H (vs ++ ws) (p ++ q)
  | _, _, _, _, .nil, k => k
  | _, _, _, _, .cons h t, k => .cons h (t.app k)
theorem AtsAt.take (n : Nat) : ∀ {vs : List V} {p : Prd}, AtsAt H vs p → AtsAt H (vs.take n) (p.take n) := by
  induction n with
  | zero => intro vs p _; simp; exact .nil
  | succ n ih =>
    intro vs p h
    cases h with
    | nil => simp; exact .nil
    | cons h t => simp only [List.take_succ_cons]; exact .cons h (ih t)
theorem AtsAt.drop (n : Nat) : ∀ {vs : List V} {p : Prd}, AtsAt H vs p → AtsAt H (vs.drop n) (p.drop n) := by
  induction n with
  | zero => intro vs p h; simpa using h
  | succ n ih =>
    intro vs p h
    cases h with
    | nil => simp; exact .nil
    | cons h t => simp only [List.drop_succ_cons]; exact ih t
theorem AtsAt.rev : ∀ {vs : List V} {p : Prd}, AtsAt H vs p → AtsAt H vs.reverse p.reverse
  | _, _, .nil => .nil
  | _, _, .cons h t => by
    rw [List.reverse_cons, List.reverse_cons]
    exact t.rev.app (.cons h .nil)
theorem AtsAt.snoc_inv : ∀ {vs : List V} {p : Prd} {a : Atm}, AtsAt H vs (p ++ [a]) → ∃ ws v, vs = ws ++ [v] ∧ AtsAt H ws p ∧ AtAt H v a
  | _, [], _, .cons h .nil => ⟨[], _, rfl, .nil, h⟩
  | _, b :: p, a, .cons h t => by
    obtain ⟨ws, v, rfl, h1, h2⟩ := AtsAt.snoc_inv (p := p) t
    exact ⟨_ :: ws, v, rfl, .cons h h1, h2⟩
theorem AtsAt.names (xs : List Str) : AtsAt H (xs.map V.str) (xs.map Atm.n) := by
  induction xs with
  | nil => exact .nil
  | cons x r ih => exact .cons (.n x) ih
end
theorem kp_fr_same {H H1 H2 : Hp} (s : Same H1 H2) : Kp (fr H H1) (fr H H2) :=
  ⟨fun a xs e => let ⟨h1, h2⟩ := fr_some.mp e; fr_some.mpr ⟨h1, s _ _ h2⟩, fun a xs e => let ⟨h1, h2⟩ := fr_some.mp e; fr_some.mpr ⟨h1, s _ _ h2⟩⟩
/-- what is new behind a later heap is new behind an earlier one -/
theorem kp_fr_back {H H1 H2 : Hp} (s : Same H H1) : Kp (fr H1 H2) (fr H H2) :=
  ⟨fun a xs e => let ⟨h1, h2⟩ := fr_some.mp e; fr_some.mpr ⟨none_back (W := []) (Sm.of_same s) (fun _ z => by cases z) h1, h2⟩, fun a xs e => let ⟨h1, h2⟩ := fr_some.mp e; fr_some.mpr ⟨none_back (W := []) (Sm.of_same s) (fun _ z => by cases z) h1, h2⟩⟩
/-! ### products as Python's data -/
def dA : Atm → PyData
  | .n x => .str x
  | .t xs => .tuple (xs.map PyData.str)
def dPd (p : Prd) : PyData := .list (p.map dA)
def dPds (ps : List Prd) : PyData := .list (ps.map dPd)
section
variable {K : PySem.W.Frag} {H : Hp}
theorem AtAt.dp {v : V} {a : Atm} (h : AtAt H v a) : Dp K H v (dA a) := by
  cases h with
  | n x => exact .str x
  | t h => exact .tup (SqT.of h) (dp_strs _)
theorem eqv_atm (a : Atm) (y : Str) : PyData.eqv (dA a) (.str y) = decide (a = .n y) := by
  cases a with
  | n x =>
    by_cases h : x = y
    · simp [dA, PyData.eqv, h]
    · simp [dA, PyData.eqv, h]
  | t xs => simp [dA, PyData.eqv]
theorem atm_shaped {a : Atm} (h : ∀ x ∈ a.nms, okName x) : SeqAt.shaped (dA a) = true := by
  cases a with
  | n x =>
    have := strs_shaped (ls := [x]) h
    unfold SeqAt.shaped at this ⊢
    simp only [List.map_cons, List.map_nil, PyData.canLay0, PyData.canLayAll0, PyData.depth, PyData.depthAll, Bool.and_true, Bool.and_eq_true, dA] at this ⊢
    exact ⟨this.1, by decide⟩
  | t xs =>
    have := strs_shaped (ls := xs) h
    unfold SeqAt.shaped at this ⊢
    simp only [PyData.canLay0, PyData.depth, dA] at this ⊢
    exact this
end
section
variable {X : Cx}
theorem pe_joinK {K : PySem.W.Frag} {o e : Expr} {to te : TE} {apos pos : Pos} (hK : X.K = K) (ho : PE X o to) (he : PE X e te) (hs : starEach [e] X.env = [(false, eval e X.env)] := by rfl) (hbase : attributeBase o "join" X.env (eval o X.env) = eval o X.env := by rfl) (hline : (apos.endLine == pos.line) = true := by rfl) :
    PE X (.Call (.Attribute o "join" apos) [e] [] pos) (tM1 (fun x xs H Q => ∃ a p, ∃ ys : List Str, x = .str a ∧ xs = [.ref p] ∧ (SqL K H p (ys.map V.str) ∨ SqT K H p (ys.map V.str)) ∧
      (ys.map (·.length)).sum + ys.length * a.length ≤ 16777216 ∧ Q (.str (Txt.join a ys)) H) to te) := by
  subst hK
  exact pe_join ho he hs hbase hline
/-- a walk over a list or over a tuple -/
def iSeq (K : PySem.W.Frag) (tl : TE) : TI := fun σ H R => iList K tl σ H R ∨ iTup K tl σ H R
theorem pi_seq {tg l : Expr} {tl : TE} (h : PE X l tl) : PI X tg l (iSeq X.K tl) := ⟨fun pins s σ H R I q => by
  rcases q with q | q
  · exact (pi_list h).run pins s σ H R I q
  · exact (pi_tup h).run pins s σ H R I q⟩
end
theorem inV_strs (x : Str) (l : List Str) : inV (.str x) (l.map V.str) = decide (x ∈ l) := by
  induction l with
  | nil => rfl
  | cons y r ih =>
    have e : inV (.str x) ((y :: r).map V.str) = (decide (y = x) || inV (.str x) (r.map V.str)) := by
      show (eqV (.str y) (.str x) || _) = _
      rfl
    rw [e, ih]
    by_cases h : y = x
    · subst h; simp
    · have h2 : x ≠ y := fun z => h z.symm
      simp [h, h2]
theorem strs_flat (l : List Str) : (l.map V.str).all flatV = true := by
  induction l with
  | nil => rfl
  | cons x r ih => exact ih
/-! ### texts are short -/
theorem str_len_app (a b : Str) : (a ++ b).length = a.length + b.length := by
  show (a.cps ++ b.cps).size = _
  rw [Array.size_append]
  rfl
theorem join_len (s : Str) : ∀ l : List Str, (Txt.join s l).length ≤ (l.map (·.length)).sum + l.length * s.length := fun l => by
  rw [TL.join_eq]
  induction l with
  | nil => exact Nat.zero_le _
  | cons x r ih =>
    cases r with
    | nil => simp only [Str.join, List.map_cons, List.map_nil, List.sum_cons, List.sum_nil]; omega
    | cons y r =>
      have e : Str.join s (x :: y :: r) = x ++ s ++ Str.join s (y :: r) := rfl
      rw [e, str_len_app, str_len_app, List.map_cons, List.sum_cons, List.length_cons, Nat.succ_mul]
      omega
theorem idleR_snoc (a : Atm) : ∀ (p kept : List Atm), idleR kept (p ++ [a]) = putI a (popI a (idleR kept p))
  | [], kept => rfl
  | b :: r, kept => by
    show idleR (putI b (popI b kept)) (r ++ [a]) = _
    rw [idleR_snoc a r]
    rfl
theorem popI_t (xs : List Str) (c : Atm) (k : List Atm) : popI (.t xs) (c :: k) = if isW c (.t xs) = true then popI (.t xs) k else c :: k := by
  simp only [popI]
  rw [List.dropWhile_cons]
theorem idleR_all {Pp : Atm → Prop} : ∀ (p kept : List Atm), (∀ a ∈ p, Pp a) → (∀ a ∈ kept, Pp a) → ∀ a ∈ idleR kept p, Pp a
  | [], kept, _, h => by simpa [idleR] using h
  | a :: r, kept, hp, h => by
    have hk1 : ∀ b ∈ popI a kept, Pp b := fun b hb => by
      cases a with
      | n x => exact h b hb
      | t xs => exact h b ((List.dropWhile_sublist _).subset hb)
    have hm1 : ∀ b ∈ putI a (popI a kept), Pp b := fun b hb => by
      have ha := hp a (by simp)
      generalize popI a kept = k at hk1 hb
      unfold putI at hb
      split at hb
      · split at hb
        · exact hk1 b hb
        · rcases List.mem_cons.mp hb with rfl | hb
          · exact ha
          · exact hk1 b hb
      · rcases List.mem_cons.mp hb with rfl | hb
        · exact ha
        · exact hk1 b hb
    exact idleR_all r _ (fun b hb => hp b (List.mem_cons_of_mem _ hb)) hm1
theorem idle_all {Pp : Atm → Prop} {p : Prd} (h : ∀ a ∈ p, Pp a) : ∀ a ∈ idle p, Pp a := fun a ha => idleR_all p [] h (by simp) a (List.mem_reverse.mp ha)
theorem idle_le (p : Prd) : (idle p).length ≤ p.length := by
  have key : ∀ (p kept : List Atm), (idleR kept p).length ≤ kept.length + p.length := fun p => by
    induction p with
    | nil => intro kept; simp [idleR]
    | cons a r ih =>
      intro kept
      have h1 : (popI a kept).length ≤ kept.length := by
        cases a with
        | n x => exact Nat.le_refl _
        | t xs => exact (List.dropWhile_sublist _).length_le
      have h2 : ∀ k : List Atm, (putI a k).length ≤ k.length + 1 := fun k => by
        unfold putI
        split
        · split
          · simp only [List.length_cons]; omega
          · simp only [List.length_cons]; omega
        · simp only [List.length_cons]; omega
      have h3 := h2 (popI a kept)
      have h4 := ih (putI a (popI a kept))
      simp only [idleR, List.length_cons]
      omega
  have := key p []
  unfold idle
  rw [List.length_reverse]
  simpa using this
theorem sum_len {l : List Str} {m : Nat} (h : ∀ x ∈ l, x.length ≤ m) : (l.map (·.length)).sum ≤ m * l.length := by
  induction l with
  | nil => simp
  | cons x r ih =>
    have := ih fun y hy => h y (List.mem_cons_of_mem _ hy)
    have := h x (by simp)
    rw [List.map_cons, List.sum_cons, List.length_cons, Nat.mul_succ]
    omega
theorem okName.le {x : Str} (h : okName x) : x.length ≤ 8 := h.2.1
theorem atom_len {ns : List Str} (hn : ∀ x ∈ ns, okName x) {a : Atm} (h : okAtm ns a) : (atomText a).length ≤ 60 := by
  cases a with
  | n x =>
    have := (hn x (h.1 x (by simp [Atm.nms]))).le
    show x.length ≤ 60
    omega
  | t xs =>
    have h1 := join_len " " xs
    have h2 := sum_len (l := xs) (m := 8) fun x hx => (hn x (h.1 x hx)).le
    have h3 : xs.length ≤ 5 := h.2.1
    have e : (" " : Str).length = 1 := rfl
    have e1 : ("{" : Str).length = 1 := rfl
    have e2 : ("}" : Str).length = 1 := rfl
    rw [e, Nat.mul_one] at h1
    show (("{" : Str) ++ Txt.join " " xs ++ ("}" : Str)).length ≤ 60
    rw [str_len_app, str_len_app, e1, e2]
    omega
end FA

set_option Elab.async false
set_option linter.all false
set_option maxRecDepth 100000
set_option maxHeartbeats 4000000
namespace K43
open PySem PySem.Spec PyProof.Rows L2 FA
variable {P : Program} {w : World} {K : PySem.W.Frag} {mg : Str → Option Value} {base : Heap}
def spWithin : Sp := fun vs H Q _ => ∃ (t : Addr) (it : FA.It) (ns : List Str), vs = [.ref t] ∧ ItAt H (.ref t) it ∧ okI ns it ∧ ∀ r ws H', Same H H' → H' r = some (.lst ws) → (∀ Hx, Same Hx H → ItAt Hx (.ref t) it → BdsAt Hx ws (bodies it)) → ws ≠ [] → Q (.ref r) H'
theorem okWithin (T : Txt K mg) : FnOk P w K mg base CX0 1 T.aBodiesWithin T.fBodiesWithin ["item"] spWithin := by
  refine T.FBodiesWithin.ok scBodiesWithin (fun vs H Q E h => ?_) (fun cdv A outer s H vs Q E hr h => ?_)
  · obtain ⟨t, it, ns, rfl, _⟩ := h
    rfl
  obtain ⟨t, it, ns, rfl, hit, ok, q⟩ := h
  have hu := hu_of hr
  refine ⟨_, (pss_one (ps_ret (pe_ifExp (pt_cmpR op_eq (pe_ix ix_tup (pv 0) pe_int (fun _ _ => rfl)) pe_str (nomark _)) (pe_ix ix_tup (pv 0) pe_int (fun _ _ => rfl)) (pe_lst (pa_cons (pe_ix ix_tup (pv 0) pe_int (fun _ _ => rfl)) pa_nil))))), ?_⟩
  cases hit with
  | @may t b' vs' l' h1 h2 h3 =>
    refine ⟨_, rfl, _, _, _, _, rfl, rfl, SqT.of h1, at_of (j := 0) rfl rfl, rfl, _, rfl, ite2 (fun c => absurd (of_decide_eq_true c) (by decide)) (fun _ => ?_)⟩
    refine ⟨_, rfl, _, _, _, _, rfl, rfl, SqT.of h1, at_of (j := 1) rfl rfl, Nat.le_of_lt (small1000 (by simp)), fun p hp => ?_⟩
    have s1 := same_upd hp (.lst [V.ref b'])
    refine q p _ _ s1 upd_same (fun Hx sx hx => ?_) (by simp)
    cases hx with
    | may g1 g2 g3 =>
      have e := sx _ _ g1
      rw [h1] at e
      cases e
      exact .cons g2 g3 .nil
  | @loop t b' vs' l' h1 h2 h3 =>
    refine ⟨_, rfl, _, _, _, _, rfl, rfl, SqT.of h1, at_of (j := 0) rfl rfl, rfl, _, rfl, ite2 (fun c => absurd (of_decide_eq_true c) (by decide)) (fun _ => ?_)⟩
    refine ⟨_, rfl, _, _, _, _, rfl, rfl, SqT.of h1, at_of (j := 1) rfl rfl, Nat.le_of_lt (small1000 (by simp)), fun p hp => ?_⟩
    have s1 := same_upd hp (.lst [V.ref b'])
    refine q p _ _ s1 upd_same (fun Hx sx hx => ?_) (by simp)
    cases hx with
    | loop g1 g2 g3 =>
      have e := sx _ _ g1
      rw [h1] at e
      cases e
      exact .cons g2 g3 .nil
  | @one t b' vs' ls h1 h2 h3 =>
    simp only [okI] at ok
    refine ⟨_, rfl, _, _, _, _, rfl, rfl, SqT.of h1, at_of (j := 0) rfl rfl, rfl, _, rfl, ite2 (fun _ => ?_) (fun c => absurd (decide_eq_true rfl) c)⟩
    refine ⟨_, rfl, _, _, _, _, rfl, rfl, SqT.of h1, at_of (j := 1) rfl rfl, ?_⟩
    refine q b' vs' H (Same.refl _) h2 (fun Hx sx hx => ?_) (fun z => ?_)
    · cases hx with
      | one g1 g2 g3 =>
        have e := sx _ _ g1
        rw [h1] at e
        cases e
        have e2 := sx _ _ g2
        rw [h2] at e2
        cases e2
        exact g3
    · have := h3.length
      rw [z] at this
      simp at this
      omega
def spNames (n : Nat) : Sp := fun vs H Q _ => ∃ (b : Addr) (l : List FA.It) (ns : List Str), vs = [.ref b] ∧ BdAt H b l ∧ okB ns l ∧ nCB l ≤ 100 ∧ nIB l ≤ 12 ∧ dB l ≤ n ∧ ∀ r H', Same H H' → H r = none → H' r = some (.lst ((nmB l).map V.str)) → Q (.ref r) H'
theorem ItAt.two {H : Hp} {v : V} {it : FA.It} (h : ItAt H v it) : (∃ x, v = .str x ∧ it = .call x) ∨ ∃ t xs, v = .ref t ∧ H t = some (.tup xs) ∧ ∀ x, it ≠ .call x := by
  cases h with
  | call x => exact .inl ⟨x, rfl, rfl⟩
  | may h1 _ _ => exact .inr ⟨_, _, rfl, h1, fun x z => by cases z⟩
  | loop h1 _ _ => exact .inr ⟨_, _, rfl, h1, fun x z => by cases z⟩
  | one h1 _ _ => exact .inr ⟨_, _, rfl, h1, fun x z => by cases z⟩
theorem okNamesIn1 (T : Txt K mg) (n : Nat) (GNamesIn : FnOk P w K mg base CX0 (n + 2) T.aNamesIn T.fNamesIn ["body"] (spNames n)) : FnOk P w K mg base CX0 (n + 3) T.aNamesIn T.fNamesIn ["body"] (spNames (n + 1)) := by
  have GBodiesWithin : FnOk P w K mg base CX0 1 T.aBodiesWithin T.fBodiesWithin ["item"] spWithin := okWithin T
  refine T.FNamesIn.ok scNamesIn (fun vs H Q E h => ?_) (fun cdv A outer s H vs Q E hr h => ?_)
  · obtain ⟨b, l, ns, rfl, _⟩ := h
    rfl
  obtain ⟨b, l, ns, rfl, ⟨vs, hb, hits⟩, ok, hc, hni, hd, q⟩ := h
  have hu := hu_of hr
  refine ⟨_, (pss_cons (ps_set (i := 1) scNamesIn.nd rfl (by first | exact Or.inl rfl | exact Or.inr rfl) (pe_lst pa_nil))
      (pss_cons (ps_for PassesOwn.never rfl (pi_list (pv 0)) (pg_name (i := 2) scNamesIn.nd rfl (by first | exact Or.inl rfl | exact Or.inr rfl))
        (pss_one (ps_if (pt_val (pe_callB call_isi (by rfl) T.n_isinstance (by decide +kernel) (pa_cons (pv 2) (pa_cons (pe_bltn (v := .ty "str") (by rfl) T.n_str (by decide +kernel) rfl) pa_nil))))
          (pss_one (ps_expr (pe_bm PySem.F.plainAttrs_list PySem.F.slot_list_append PySem.F.type_list_append mt_append (pv 1) (pa_cons (pv 2) pa_nil)))) (pss_one (ps_for PassesOwn.never rfl (pi_list (pe_call GBodiesWithin (hr.mono (by omega)) rfl T.gBodiesWithin T.FBodiesWithin.kp T.bBodiesWithin .nil pass0 (pa_cons (pv 2) pa_nil))) (pg_name (i := 3) scNamesIn.nd rfl (by first | exact Or.inl rfl | exact Or.inr rfl))
            (pss_one (ps_expr (pe_bm PySem.F.plainAttrs_list PySem.F.slot_list_extend PySem.F.type_list_extend mt_extend (pv 1) (pa_cons (pe_call GNamesIn (hr.mono (by omega)) rfl T.gNamesIn T.FNamesIn.kp T.bNamesIn .nil pass0 (pa_cons (pv 3) pa_nil)) pa_nil)))))))))
      (pss_one (ps_ret (pv 1))))), ?_⟩
  have hl := hits.length
  refine ⟨Nat.zero_le _, fun f hf => ?_⟩
  have hbf : b ≠ f := ne_of_none hb hf
  refine ⟨_, rfl, b, rfl, ⟨_, SqL.of (same_upd hf (.lst []) _ _ hb)⟩, for_list (K := K) (a := b) (xs := vs) (fun i σ H' => ∃ v2 v3, σ = [some (.ref b), some (.ref f), v2, v3] ∧ Same H H' ∧ H' f = some (.lst ((nmB (l.take i)).map V.str))) ⟨none, none, rfl, same_upd hf _, upd_same⟩ ?_ ?_ ?_⟩
  · rintro i σ H' _ ⟨_, _, _, sm, _⟩
    exact SqL.of (sm _ _ hb)
  · rintro i y σ H1 hi ⟨v2, v3, rfl, sm, hf1⟩
    obtain ⟨it, e1, e2⟩ := hits.get hi
    have hm : it ∈ l := List.mem_of_getElem? e1
    have e3 := e2.keep (Kp.of sm)
    have c1 := nCB_mem hm
    have c2 := nIB_mem hm
    have c3 := dB_mem hm
    have oki := okB_all.mp ok it hm
    have pre := nmB_pre l i
    rcases ItAt.two e3 with ⟨x, rfl, rfl⟩ | ⟨t, xs, rfl, ht, hnc⟩
    · refine ⟨_, rfl, _, _, _, _, true, rfl, .ty _, ty_str x, kit_ty (by decide +kernel), _, rfl, iteT ?_⟩
      refine ⟨_, rfl, .inl ⟨rfl, _, SqL.of hf1⟩, _, rfl, f, _, .str x, rfl, rfl, hf1, small1000 (by rw [List.length_map]; omega), ?_⟩
      refine ⟨_, _, rfl, fun b o e => by rw [upd_ne (ne_of_none e hf)]; exact sm _ _ e, ?_⟩
      rw [upd_same, nmB_take e1, List.map_append]
      rfl
    · refine ⟨_, rfl, _, _, _, _, false, rfl, .ty _, ty_tup ht, kit_ty (by decide +kernel), _, rfl, iteF ?_⟩
      refine ⟨_, rfl, t, it, ns, rfl, e3, oki, fun r ws H2 s2 hr2 hbd hne => ?_⟩
      have hbs := hbd H sm e2
      have hrf : r ≠ f := by
        rintro rfl
        have hf2 := s2 _ _ hf1
        rw [hf2] at hr2
        obtain ⟨y, r', e⟩ := List.exists_cons_of_ne_nil hne
        obtain ⟨b2, bd, e3, _⟩ := hbs.get (i := 0) (v := y) (by rw [e]; rfl)
        rw [e, e3] at hr2
        exact strs_refs (HO.lst.inj (Option.some.inj hr2))
      have s02 := sm.trans s2
      refine ⟨r, rfl, ⟨_, SqL.of hr2⟩, for_list (K := K) (a := r) (xs := ws) (fun j σ H' => ∃ v3, σ = [some (.ref b), some (.ref f), some (.ref t), v3] ∧ Same H H' ∧ H' r = some (.lst ws) ∧ H' f = some (.lst ((nmB (l.take i) ++ nmBs ((bodies it).take j)).map V.str))) ⟨v3, rfl, s02, hr2, ?_⟩ ?_ ?_ ?_⟩
      · rw [s2 _ _ hf1]
        simp [nmBs]
      · rintro j σ H' _ ⟨_, _, _, h, _⟩
        exact SqL.of h
      · rintro j y σ H3 hj ⟨v3, rfl, s3, hr3, hf3⟩
        obtain ⟨b2, bd, rfl, q1, q2⟩ := hbs.get hj
        have hmb : bd ∈ bodies it := List.mem_of_getElem? q1
        have d1 := nCBs_mem hmb
        have d2 := nIBs_mem hmb
        have d3 := dBs_mem hmb
        have d4 := bodies_d it
        rw [nC_bodies hnc] at d1
        rw [nI_bodies] at d2
        refine ⟨_, rfl, .inl ⟨rfl, _, SqL.of hf3⟩, _, rfl, b2, bd, ns, rfl, q2.keep (Kp.of s3), okBs_all.mp (bodies_ok it oki) bd hmb, by omega, by omega, by omega, fun r2 H4 s4 hn4 hr4 => ?_⟩
        have hf4 := s4 _ _ hf3
        have hr34 := s4 _ _ hr3
        have p2 := nmBs_pre (bs := bodies it) j
        rw [nC_bodies hnc] at p2
        have p3 := nmB_len bd
        refine ⟨f, r2, _, _, rfl, rfl, hf4, hr4, Nat.le_of_lt (small1000 (by simp only [List.length_map, List.length_append]; omega)), ?_⟩
        refine ⟨_, rfl, fun b o e => by rw [upd_ne (ne_of_none e hf)]; exact s4 _ _ (s3 _ _ e), by rw [upd_ne hrf]; exact hr34, ?_⟩
        rw [upd_same, nmBs_take q1]
        simp only [List.map_append, List.append_assoc]
      · rintro σ H3 ⟨v3, rfl, s3, hr3, hf3⟩
        refine ⟨_, _, rfl, s3, ?_⟩
        rw [hf3, List.take_of_length_le (l := bodies it) (by have := hbs.length; omega), bodies_nm it hnc, nmB_take e1]
  · rintro σ H1 ⟨v2, v3, rfl, sm, hf1⟩
    refine ⟨_, rfl, q f H1 sm hf ?_⟩
    rw [hf1, List.take_of_length_le (by omega)]
theorem okNamesIn (T : Txt K mg) : ∀ n : Nat, FnOk P w K mg base CX0 (n + 2) T.aNamesIn T.fNamesIn ["body"] (spNames n)
  | 0 => fn_never fun vs H Q E h => by
    obtain ⟨b, l, ns, _, _, _, _, _, h0, _⟩ := h
    have := dB_pos l
    omega
  | n + 1 => okNamesIn1 T n (okNamesIn T n)
end K43


set_option Elab.async false
set_option linter.all false
set_option maxRecDepth 100000
set_option maxHeartbeats 4000000
namespace K43
open PySem PySem.Spec PyProof.Rows L2 FA
variable {P : Program} {w : World} {K : PySem.W.Frag} {mg : Str → Option Value} {base : Heap}
/-! ### callees -/
def spCallees : Sp := fun vs H Q _ => ∃ (d : Addr) (p : Pr) (x : Str), vs = [.ref d, .str x] ∧ PrAt H d p ∧ Valid p ∧ x ∈ pNames p ∧ ∀ r ys H', Same H H' → H r = none → H' r = some (.lst (ys.map V.str)) → Tells ys (nmB (bodyOf p x)) → Q (.ref r) H'
theorem okCallees (T : Txt K mg) : FnOk P w K mg base CX0 14 T.aCallees T.fCallees ["program", "name"] spCallees := by
  have GCheckProgram : FnOk P w K mg base CX0 13 T.aCheckProgram T.fCheckProgram ["program"] spCheckProgram := okCheckProgram T
  have GCheckName : FnOk P w K mg base CX0 2 T.aCheckName T.fCheckName ["program", "name"] spCheckName := okCheckName T
  have GNamesIn : FnOk P w K mg base CX0 6 T.aNamesIn T.fNamesIn ["body"] (spNames 4) := okNamesIn T 4
  refine T.FCallees.ok scCallees (fun vs H Q E h => ?_) (fun cdv A outer s H vs Q E hr h => ?_)
  · obtain ⟨d, p, x, rfl, _⟩ := h
    rfl
  obtain ⟨d, p, x, rfl, hpa, va, hx, q⟩ := h
  have hu := hu_of hr
  refine ⟨_, (pss_cons (ps_expr (pe_call GCheckProgram (hr.mono (by omega)) rfl T.gCheckProgram T.FCheckProgram.kp T.bCheckProgram .nil pass0 (pa_cons (pv 0) pa_nil)))
      (pss_cons (ps_expr (pe_call GCheckName (hr.mono (by omega)) rfl T.gCheckName T.FCheckName.kp T.bCheckName .nil pass0 (pa_cons (pv 0) (pa_cons (pv 1) pa_nil))))
      (pss_one (ps_ret (pe_callB (cr_sortedTx rfl) (by rfl) T.n_sorted (by decide +kernel) (pa_cons (pe_callTy (cr_setTx rfl) (by rfl) T.n_set (by decide +kernel) (pa_cons (pe_call GNamesIn (hr.mono (by omega)) rfl T.gNamesIn T.FNamesIn.kp T.bNamesIn .nil pass0 (pa_cons (pe_dget hu (pv 0) (pv 1) (fun _ _ => rfl)) pa_nil)) pa_nil)) pa_nil)))))), ?_⟩
  refine ⟨_, rfl, d, p, rfl, hpa, va, fun H1 s1 => ?_⟩
  have hpa1 := PrAt.same s1 hpa
  refine ⟨_, rfl, _, rfl, d, p, x, rfl, hpa1, hx, ?_⟩
  obtain ⟨l0, e0⟩ := lookup_mem hx
  rcases hpa1.look (x := x) with ⟨z1, _⟩ | ⟨l, b, z1, z2, z3⟩
  · rw [e0] at z1; cases z1
  obtain ⟨o1, o2, o3, o4⟩ := va.ok x l z1
  have eb : bodyOf p x = l := by unfold bodyOf; rw [z1]; rfl
  have en := nmB_len l
  refine ⟨_, rfl, _, rfl, d, _, rfl, z2, b, l, pNames p, rfl, z3, o1, by omega, o3, o4, fun r H2 s2 hrn hr2 => ?_⟩
  refine ⟨r, nmB l, rfl, SqL.of hr2, by omega, fun c hc => ?_⟩
  have ml := met_len (nmB l) []
  simp only [List.length_nil] at ml
  refine ⟨c, met [] (nmB l), rfl, upd_same, by omega, fun ys p2 hp hsrt hp2 => ?_⟩
  have s3 := same_upd hc (TxO P w c (met [] (nmB l)))
  have s4 := same_upd hp2 (.lst (ys.map V.str))
  have s04 := (s1.trans s2).trans (s3.trans s4)
  refine q p2 ys _ s04 ?_ upd_same (by rw [eb]; exact tells_met hp hsrt)
  exact none_back (W := []) (Sm.of_same ((s1.trans s2).trans s3)) (fun _ z => by cases z) hp2
/-! ### what main reaches -/
inductive Rc (p : Pr) : Str → Prop
  | main : Rc p "main"
  | step {x y : Str} : Rc p x → y ∈ nmB (bodyOf p x) → Rc p y
theorem callee_in {p : Pr} (va : Valid p) {x y : Str} (hx : x ∈ pNames p) (hy : y ∈ nmB (bodyOf p x)) : y ∈ pNames p := by
  obtain ⟨l, e⟩ := lookup_mem hx
  have eb : bodyOf p x = l := by unfold bodyOf; rw [e]; rfl
  rw [eb] at hy
  exact nmB_ok l (va.ok x l e).1 y hy
theorem Rc.name {p : Pr} (va : Valid p) {x : Str} (h : Rc p x) : x ∈ pNames p := by
  induction h with
  | main => exact va.main
  | step _ hy ih => exact callee_in va ih hy
theorem Rc.of {p : Pr} {S : List Str} (h0 : ("main" : Str) ∈ S) (hs : ∀ x ∈ S, ∀ y ∈ nmB (bodyOf p x), y ∈ S) {x : Str} (h : Rc p x) : x ∈ S := by
  induction h with
  | main => exact h0
  | step _ hy ih => exact hs _ ih _ hy
/-- the dict of what was found -/
def fdKv (fs : List Str) : List (Key × V) := fs.map fun x => (.inr x, .bl true)
theorem fdKv_in {x : Str} : ∀ {fs : List Str}, x ∈ fs → valV (fdKv fs) (.inr x) = some (.bl true)
  | y :: r, h => by
    by_cases e : y = x
    · subst e; exact valV_pos rfl
    · rcases List.mem_cons.mp h with z | z
      · exact absurd z.symm e
      · have q := fdKv_in z
        unfold fdKv at q ⊢
        rw [List.map_cons, valV_neg (fun z => e (Sum.inr.inj z))]
        exact q
theorem fdKv_out {x : Str} {fs : List Str} (h : x ∉ fs) : valV (fdKv fs) (.inr x) = none := valV_out fun q hq e => by
  unfold fdKv at hq
  obtain ⟨y, hy, rfl⟩ := List.mem_map.mp hq
  exact h (by rw [← Sum.inr.inj e]; exact hy)
theorem fdKv_put {x : Str} {fs : List Str} (h : x ∉ fs) : putK (fdKv fs) (.inr x) (.bl true) = fdKv (fs ++ [x]) := by
  rw [putK_new _ (fdKv_out h)]
  simp [fdKv]
def spReached : Sp := fun vs H Q _ => ∃ (d : Addr) (p : Pr), vs = [.ref d] ∧ PrAt H d p ∧ Valid p ∧ ∀ r ys H', Same H H' → H r = none → H' r = some (.lst (ys.map V.str)) → ys.Nodup → sortedS ys = true → (∀ x, x ∈ ys ↔ Rc p x) → Q (.ref r) H'
theorem okReached (T : Txt K mg) : FnOk P w K mg base CX0 14 T.aReached T.fReached ["program"] spReached := by
  have GCheckProgram : FnOk P w K mg base CX0 13 T.aCheckProgram T.fCheckProgram ["program"] spCheckProgram := okCheckProgram T
  have GNamesIn : FnOk P w K mg base CX0 6 T.aNamesIn T.fNamesIn ["body"] (spNames 4) := okNamesIn T 4
  refine T.FReached.ok scReached (fun vs H Q E h => ?_) (fun cdv A outer s H vs Q E hr h => ?_)
  · obtain ⟨d, p, rfl, _⟩ := h
    rfl
  obtain ⟨d, p, rfl, hpa, va, q⟩ := h
  have hu := hu_of hr
  refine ⟨_, (pss_cons (ps_expr (pe_call GCheckProgram (hr.mono (by omega)) rfl T.gCheckProgram T.FCheckProgram.kp T.bCheckProgram .nil pass0 (pa_cons (pv 0) pa_nil)))
      (pss_cons (ps_set (i := 1) scReached.nd rfl (by first | exact Or.inl rfl | exact Or.inr rfl) (pe_disp (pps_cons pe_str pe_bl pps_nil) (by rfl) (by rfl) (fun z => by cases z) (by decide)))
      (pss_cons (ps_set (i := 2) scReached.nd rfl (by first | exact Or.inl rfl | exact Or.inr rfl) (pe_lst (pa_cons pe_str pa_nil)))
      (pss_cons (ps_while PassesOwn.never (pt_truth (pv 2) (by intro _; rfl))
        (pss_cons (ps_set (i := 3) scReached.nd rfl (by first | exact Or.inl rfl | exact Or.inr rfl) (pe_bm0 PySem.F.plainAttrs_list PySem.F.slot_list_pop PySem.F.type_list_pop mt_pop (pv 2)))
        (pss_one (ps_for PassesOwn.never rfl (pi_list (pe_call GNamesIn (hr.mono (by omega)) rfl T.gNamesIn T.FNamesIn.kp T.bNamesIn .nil pass0 (pa_cons (pe_dget hu (pv 0) (pv 3) (fun _ _ => rfl)) pa_nil))) (pg_name (i := 4) scReached.nd rfl (by first | exact Or.inl rfl | exact Or.inr rfl))
          (pss_one (ps_if (pt_cmp (pc_dnotin hu (pv 4) (pv 1)))
            (pss_cons (ps_dput hu (pv 1) (pv 4) pe_bl rfl)
            (pss_one (ps_expr (pe_bm PySem.F.plainAttrs_list PySem.F.slot_list_append PySem.F.type_list_append mt_append (pv 2) (pa_cons (pv 4) pa_nil))))) pss_nil))))))
      (pss_one (ps_ret (pe_callB (call_sortedD rfl) (by rfl) T.n_sorted (by decide +kernel) (pa_cons (pv 1) pa_nil)))))))), ?_⟩
  have hlen := va.len
  refine ⟨_, rfl, d, p, rfl, hpa, va, fun H1 s1 => ?_⟩
  intro D hD
  refine ⟨upd_same, [(.inr "main", .bl true)], rfl, by decide, ?_⟩
  have eD : (upd (upd H1 D (.dK [])) D (.dK (mergeK [] [(.inr "main", .bl true)]))) D = some (.dK (fdKv ["main"])) := upd_same
  have s2 : Same H1 (upd (upd H1 D (.dK [])) D (.dK (mergeK [] [(.inr "main", .bl true)]))) := fun b o e => by
    rw [upd_ne (ne_of_none e hD), upd_ne (ne_of_none e hD)]
    exact e
  generalize upd (upd H1 D (.dK [])) D (.dK (mergeK [] [(.inr "main", .bl true)])) = H2 at eD s2 ⊢
  refine ⟨Nat.le_of_lt (small1000 (by simp)), fun W hW => ?_⟩
  have hDW : D ≠ W := ne_of_none eD hW
  have s3 := same_upd hW (.lst [V.str "main"])
  have eW : (upd H2 W (.lst [V.str "main"])) W = some (.lst ((["main"] : List Str).map V.str)) := upd_same
  have eD3 := s3 _ _ eD
  have s03 := (s1.trans s2).trans s3
  have hD0 : H D = none := none_back (W := []) (Sm.of_same s1) (fun _ z => by cases z) hD
  have hW0 : H W = none := none_back (W := []) (Sm.of_same (s1.trans s2)) (fun _ z => by cases z) hW
  generalize upd H2 W (.lst [V.str "main"]) = H3 at eW eD3 s03 ⊢
  clear s1 s2 s3 hD hW eD
  refine ⟨fun m σ H' => ∃ (fs ws : List Str) (v3 v4 : Option V), m = 2 * (p.length - fs.length) + ws.length ∧ σ = [some (.ref d), some (.ref D), some (.ref W), v3, v4] ∧ Same H H' ∧ H' D = some (.dK (fdKv fs)) ∧ H' W = some (.lst (ws.map V.str)) ∧ fs.Nodup ∧ (∀ x ∈ fs, Rc p x) ∧
    ("main" : Str) ∈ fs ∧ (∀ x ∈ ws, x ∈ fs) ∧ (∀ x ∈ fs, x ∉ ws → ∀ y ∈ nmB (bodyOf p x), y ∈ fs) ∧ 2 * (p.length - fs.length) + ws.length ≤ 20, ⟨_, ["main"], ["main"], none, none, rfl, rfl, s03, eD3, eW, by simp, fun x hx => by rw [List.mem_singleton.mp hx]; exact .main, by simp, fun x hx => hx, fun x hx n => absurd hx n, by simp; omega⟩, ?_⟩
  rintro m σ H4 ⟨fs, ws, v3, v4, rfl, rfl, s4, hD4, hW4, nd, rc, hm, sub, cl, me⟩
  have fin : ∀ {gs : List Str}, (∀ x ∈ gs, Rc p x) → gs.Nodup → gs.length ≤ p.length := fun rc nd => by
    have := nd_le nd fun x hx => (rc x hx).name va
    unfold pNames at this
    rwa [List.length_map] at this
  refine ⟨_, rfl, !(ws.map V.str).isEmpty, .inl ⟨_, SqL.of hW4, rfl⟩, ?_⟩
  rcases (List.eq_nil_or_concat ws).imp id (fun ⟨a, b, e⟩ => (⟨a, b, e.trans List.concat_eq_append⟩ : ∃ a b, ws = a ++ [b])) with rfl | ⟨ws', c, rfl⟩
  · -- nothing waits
    refine ite2 (fun z => absurd z (by simp)) (fun _ => ?_)
    have fl := fin rc nd
    refine ⟨_, rfl, D, fdKv fs, fs, rfl, .inl hD4, by simp [fdKv], by omega, fun ys r pe so hr => ?_⟩
    refine q r ys _ (s4.trans (same_upd hr _)) (none_back (W := []) (Sm.of_same s4) (fun _ z => by cases z) hr) upd_same (pe.symm.nodup nd) so fun x => ?_
    rw [pe.mem_iff]
    exact ⟨rc x, fun h => h.of hm fun x hx => cl x hx (by simp)⟩
  · refine ite2 (fun _ => ?_) (fun z => absurd (by simp) z)
    refine ⟨_, fun σ' H' h => h, ?_⟩
    have hc : c ∈ fs := sub c (by simp)
    have hcn := (rc c hc).name va
    have hlast : ((ws' ++ [c]).map V.str)[((ws' ++ [c]).map V.str).length - 1]? = some (.str c) := by simp
    refine ⟨_, rfl, .inl ⟨rfl, _, SqL.of hW4⟩, W, _, .str c, rfl, rfl, hW4, hlast, ?_⟩
    have hdl : ((ws' ++ [c]).map V.str).dropLast = ws'.map V.str := by simp
    rw [hdl]
    have hW5 : (upd H4 W (.lst (ws'.map V.str))) W = some (.lst (ws'.map V.str)) := upd_same
    have hD5 : (upd H4 W (.lst (ws'.map V.str))) D = some (.dK (fdKv fs)) := by rw [upd_ne hDW]; exact hD4
    have s5 : Same H (upd H4 W (.lst (ws'.map V.str))) := fun b o e => by rw [upd_ne (ne_of_none e hW0)]; exact s4 _ _ e
    generalize upd H4 W (.lst (ws'.map V.str)) = H5 at hW5 hD5 s5 ⊢
    obtain ⟨l0, e0⟩ := lookup_mem hcn
    have hpa5 := PrAt.same s5 hpa
    rcases hpa5.look (x := c) with ⟨z1, _⟩ | ⟨l, b, z1, z2, z3⟩
    · rw [e0] at z1; cases z1
    obtain ⟨o1, o2, o3, o4⟩ := va.ok c l z1
    have eb : bodyOf p c = l := by unfold bodyOf; rw [z1]; rfl
    have hfl := fin rc nd
    refine ⟨_, rfl, _, rfl, d, _, rfl, z2, b, l, pNames p, rfl, z3, o1, by omega, o3, o4, fun r H6 s6 hrn hr6 => ?_⟩
    have hrW : r ≠ W := (ne_of_none hW5 hrn).symm
    have hrD : r ≠ D := (ne_of_none hD5 hrn).symm
    have hW6 := s6 _ _ hW5
    have hD6 := s6 _ _ hD5
    have s06 := s5.trans s6
    refine ⟨r, rfl, ⟨_, SqL.of hr6⟩, for_list (K := K) (a := r) (xs := (nmB l).map V.str) (fun j σ H' => ∃ (gs us : List Str) (v4 : Option V), σ = [some (.ref d), some (.ref D), some (.ref W), some (.str c), v4] ∧ Same H H' ∧ H' r = some (.lst ((nmB l).map V.str)) ∧ H' D = some (.dK (fdKv gs)) ∧ H' W = some (.lst (us.map V.str)) ∧
      gs.Nodup ∧ (∀ x ∈ gs, Rc p x) ∧ (∀ x ∈ fs, x ∈ gs) ∧ (∀ x ∈ us, x ∈ gs) ∧ (∀ x ∈ gs, x ∉ us → x ∈ fs ∧ x ∉ ws') ∧ (∀ x ∈ (nmB l).take j, x ∈ gs) ∧ 2 * (p.length - gs.length) + us.length ≤ 2 * (p.length - fs.length) + ws'.length) ⟨fs, ws', v4, rfl, s06, hr6, hD6, hW6, nd, rc, fun x h => h, fun x hx => sub x (by simp [hx]), fun x h n => ⟨h, n⟩, by simp, Nat.le_refl _⟩ ?_ ?_ ?_⟩
    · rintro j σ H' _ ⟨_, _, _, _, _, h, _⟩
      exact SqL.of h
    · rintro j y σ H7 hj ⟨gs, us, v4, rfl, s7, hr7, hD7, hW7, nd7, rc7, f7, sub7, cl7, tk7, me7⟩
      rw [List.getElem?_map] at hj
      cases hy : (nmB l)[j]? with
      | none => rw [hy] at hj; cases hj
      | some x =>
        rw [hy] at hj
        cases hj
        have hxm : x ∈ nmB l := List.mem_of_getElem? hy
        have tk : ∀ {gs : List Str}, (∀ y ∈ (nmB l).take j, y ∈ gs) → x ∈ gs → ∀ y ∈ (nmB l).take (j + 1), y ∈ gs := fun h hx y hy2 => by
          rw [List.take_add_one, hy, List.mem_append] at hy2
          rcases hy2 with z | z
          · exact h y z
          · simp at z; rw [z]; exact hx
        by_cases hg : x ∈ gs
        · refine ⟨_, rfl, _, rfl, D, _, rfl, DGet.k (k := .inr x) hD7, _, rfl, ?_⟩
          rw [fdKv_in hg]
          refine ite2 (fun z => absurd z (by decide)) (fun _ => ?_)
          exact ⟨gs, us, _, rfl, s7, hr7, hD7, hW7, nd7, rc7, f7, sub7, cl7, tk tk7 hg, me7⟩
        · refine ⟨_, rfl, _, rfl, D, _, rfl, DGet.k (k := .inr x) hD7, _, rfl, ?_⟩
          rw [fdKv_out hg]
          refine ite2 (fun _ => ?_) (fun z => absurd rfl z)
          have gl := fin rc7 nd7
          refine ⟨_, rfl, _, rfl, D, _, rfl, DPut.k (k := .inr x) hD7 (small1000 (by unfold fdKv; rw [List.length_map]; omega)), ?_⟩
          rw [fdKv_put hg]
          have hD8 : (upd H7 D (.dK (fdKv (gs ++ [x])))) D = some (.dK (fdKv (gs ++ [x]))) := upd_same
          have hW8 : (upd H7 D (.dK (fdKv (gs ++ [x])))) W = some (.lst (us.map V.str)) := by rw [upd_ne hDW.symm]; exact hW7
          have hr8 : (upd H7 D (.dK (fdKv (gs ++ [x])))) r = some (.lst ((nmB l).map V.str)) := by rw [upd_ne hrD]; exact hr7
          have s8 : Same H (upd H7 D (.dK (fdKv (gs ++ [x])))) := fun b o e => by rw [upd_ne (ne_of_none e hD0)]; exact s7 _ _ e
          generalize upd H7 D (.dK (fdKv (gs ++ [x]))) = H8 at hD8 hW8 hr8 s8 ⊢
          have rc8 : ∀ z ∈ gs ++ [x], Rc p z := fun z hz => by
            rcases List.mem_append.mp hz with h | h
            · exact rc7 z h
            · rw [List.mem_singleton.mp h]
              exact (rc c hc).step (by rw [eb]; exact hxm)
          have nd8 : (gs ++ [x]).Nodup := by
            rw [List.nodup_append]
            exact ⟨nd7, by simp, fun a ha b hb e => hg (by rw [← List.mem_singleton.mp hb, ← e]; exact ha)⟩
          have gl8 := fin rc8 nd8
          rw [List.length_append, List.length_singleton] at gl8
          have ul : us.length ≤ 100 := by
            simp only [List.length_append, List.length_singleton] at me
            omega
          refine ⟨_, rfl, .inl ⟨rfl, _, SqL.of hW8⟩, _, rfl, W, _, .str x, rfl, rfl, hW8, small1000 (by rw [List.length_map]; omega), ?_⟩
          refine ⟨gs ++ [x], us ++ [x], _, rfl, fun b o e => by rw [upd_ne (ne_of_none e hW0)]; exact s8 _ _ e, by rw [upd_ne hrW]; exact hr8, by rw [upd_ne hDW]; exact hD8, by rw [upd_same, List.map_append]; rfl, nd8, rc8, fun z hz => List.mem_append_left _ (f7 z hz), fun z hz => ?_, fun z hz hn => ?_, tk (fun z hz => List.mem_append_left _ (tk7 z hz)) (by simp), ?_⟩
          · rcases List.mem_append.mp hz with h | h
            · exact List.mem_append_left _ (sub7 z h)
            · exact List.mem_append_right _ h
          · rw [List.mem_append, not_or] at hn
            rcases List.mem_append.mp hz with h | h
            · exact cl7 z h hn.1
            · exact absurd h hn.2
          · simp only [List.length_append, List.length_singleton]
            omega
    · rintro σ H7 ⟨gs, us, v4, rfl, s7, hr7, hD7, hW7, nd7, rc7, f7, sub7, cl7, tk7, me7⟩
      rw [List.take_of_length_le (by rw [List.length_map]; exact Nat.le_refl _)] at tk7
      refine ⟨_, ?_, gs, us, _, v4, rfl, rfl, s7, hD7, hW7, nd7, rc7, f7 _ hm, sub7, fun x hx hn y hy => ?_, ?_⟩
      · simp only [List.length_append, List.length_singleton]
        omega
      · obtain ⟨h1, h2⟩ := cl7 x hx hn
        by_cases e : x = c
        · rw [e, eb] at hy
          exact tk7 y hy
        · exact f7 y (cl x h1 (by simp [h2, e]) y hy)
      · simp only [List.length_append, List.length_singleton] at me
        omega
end K43


set_option Elab.async false
set_option linter.all false
set_option maxRecDepth 100000
set_option maxHeartbeats 8000000
namespace K43
open PySem PySem.Spec PyProof.Rows L2 FA
variable {P : Program} {w : World} {K : PySem.W.Frag} {mg : Str → Option Value} {base : Heap}
def spAtomWithin : Sp := fun vs H Q _ => ∃ (v o : V) (a b : Atm), vs = [v, o] ∧ AtAt H v a ∧ AtAt H o b ∧ (∀ x ∈ a.nms, FA.okName x) ∧ (∀ x ∈ b.nms, FA.okName x) ∧ a.nms.length ≤ 5 ∧ ∀ H', Same H H' → Q (.bl (isW a b)) H'
theorem okAtomWithin (T : Txt K mg) : FnOk P w K mg base CX0 1 T.aIsAtomWithin T.fIsAtomWithin ["atom", "other"] spAtomWithin := by
  refine T.FIsAtomWithin.ok scIsAtomWithin (fun vs H Q E h => ?_) (fun cdv A outer s H vs Q E hr h => ?_)
  · obtain ⟨v, o, a, b, rfl, _⟩ := h
    rfl
  obtain ⟨v, o, a, b, rfl, ha, hb, na, nb, la, q⟩ := h
  have hu := hu_of hr
  refine ⟨_, (pss_cons (ps_if (pt_val (pe_callB call_isi (by rfl) T.n_isinstance (by decide +kernel) (pa_cons (pv 1) (pa_cons (pe_bltn (v := .ty "str") (by rfl) T.n_str (by decide +kernel) rfl) pa_nil))))
        (pss_one (ps_ret (pe_cmpR (op_eqD hr.units) (pv 0) (pv 1) (nomark _)))) pss_nil)
      (pss_cons (ps_set (i := 2) scIsAtomWithin.nd rfl (by first | exact Or.inl rfl | exact Or.inr rfl) (pe_ifExp (pt_val (pe_callB call_isi (by rfl) T.n_isinstance (by decide +kernel) (pa_cons (pv 0) (pa_cons (pe_bltn (v := .ty "str") (by rfl) T.n_str (by decide +kernel) rfl) pa_nil)))) (pe_lst (pa_cons (pv 0) pa_nil)) (pv 0)))
      (pss_one (ps_ret (pe_callB (cr_all rfl) (by rfl) T.n_all (by decide +kernel) (pa_cons (pe_lc (own := [("name", 3)]) (g := gName 3) (tt := tYes) rfl scIsAtomWithin.nd (pi_seq (pv 2)) (blkOk_by (N := ["atom", "other", "names", "name"]) (sc := defScope sIsAtomWithin) (by decide +kernel)) (fun _ _ _ _ _ => (pg_name (i := 3) scIsAtomWithin.nd rfl (by first | exact Or.inl rfl | exact Or.inr rfl))) (fun _ _ _ _ _ => pts_nil) (fun _ _ _ _ _ => (pe_cmpR (op_in_seqK (K := K) rfl) (pv 3) (pv 1) (by rfl)))) pa_nil)))))), ?_⟩
  cases hb with
  | n y =>
    refine ⟨_, rfl, _, _, _, _, true, rfl, .ty _, ty_str y, kit_ty (by decide +kernel), _, rfl, iteT ?_⟩
    refine ⟨_, rfl, _, rfl, dA a, .str y, ha.dp, .str y, atm_shaped na, atm_shaped (a := .n y) nb, ?_⟩
    rw [eqv_atm]
    exact q H (Same.refl _)
  | @t ob ys hob =>
    refine ⟨_, rfl, _, _, _, _, false, rfl, .ty _, ty_tup hob, kit_ty (by decide +kernel), _, rfl, iteF ?_⟩
    have all_of : ∀ (xs : List Str) (ws : List V), ws.length = xs.length → (∀ (j : Nat) (y : V), ws[j]? = some y → ∃ x, xs[j]? = some x ∧ y = .bl (decide (x ∈ ys))) → ∃ bs : List Bool, ws = bs.map V.bl ∧ bs.all id = xs.all fun x => decide (x ∈ ys) := fun xs ws hl hg => by
      refine ⟨xs.map fun x => decide (x ∈ ys), ?_, by rw [List.all_map]; rfl⟩
      rw [List.map_map]
      exact ext_map hl hg
    cases ha with
    | n x =>
      refine ⟨_, rfl, _, _, _, _, true, rfl, .ty _, ty_str x, kit_ty (by decide +kernel), _, rfl, iteT ?_⟩
      refine ⟨_, rfl, Nat.le_of_lt (small1000 (by simp)), fun p hp => ?_⟩
      have s1 := same_upd0 hp (.lst [V.str x])
      have e1 : (upd H p (.lst [V.str x])) p = some (.lst (([x] : List Str).map V.str)) := upd_same
      generalize upd H p (.lst [V.str x]) = H1 at s1 e1 ⊢
      refine .inl ⟨_, rfl, p, rfl, ⟨_, SqL.of e1⟩, fun D hD => lcS (n := 1) hD (small1000 (by decide)) _ (fun j v _ => ∃ x', ([x] : List Str)[j]? = some x' ∧ v = .bl (decide (x' ∈ ys))) (go_l (SqL.of e1)) (stop_l (SqL.of e1)) (yld_l (SqL.of e1)) (fun _ _ _ _ _ h => h) ?_ ?_⟩
      · intro j y H2 R hj hy s2 kk
        obtain ⟨x', e2, rfl⟩ := str_get hy
        refine ⟨rfl, _, rfl, _, rfl, ob, _, rfl, .inr (SqT.of (s2 _ _ (s1 _ _ hob))), rfl, strs_flat _, ?_⟩
        refine kk _ _ (Same.refl _) ⟨x', e2, ?_⟩
        show V.bl (inV (.str x') (ys.map V.str)) = _
        rw [inV_strs]
      · intro H2 ws s2 hws hwl hg
        obtain ⟨bs, rfl, eb⟩ := all_of [x] ws hwl hg
        refine ⟨D, bs, rfl, SqL.of hws, ?_⟩
        rw [eb]
        exact q H2 (s1.trans s2)
    | @t oa xs hoa =>
      refine ⟨_, rfl, _, _, _, _, false, rfl, .ty _, ty_tup hoa, kit_ty (by decide +kernel), _, rfl, iteF ?_⟩
      have la' : xs.length ≤ 5 := la
      refine ⟨_, rfl, .inr ⟨_, rfl, oa, rfl, ⟨_, SqT.of hoa⟩, fun D hD => lcS (n := (xs.map V.str).length) hD (small1000 (by rw [List.length_map]; omega)) _ (fun j v _ => ∃ x', xs[j]? = some x' ∧ v = .bl (decide (x' ∈ ys))) (go_t (SqT.of hoa)) (stop_t (SqT.of hoa)) (yld_t (SqT.of hoa)) (fun _ _ _ _ _ h => h) ?_ ?_⟩⟩
      · intro j y H2 R hj hy s2 kk
        obtain ⟨x', e2, rfl⟩ := str_get hy
        refine ⟨rfl, _, rfl, _, rfl, ob, _, rfl, .inr (SqT.of (s2 _ _ hob)), rfl, strs_flat _, ?_⟩
        refine kk _ _ (Same.refl _) ⟨x', e2, ?_⟩
        show V.bl (inV (.str x') (ys.map V.str)) = _
        rw [inV_strs]
      · intro H2 ws s2 hws hwl hg
        rw [List.length_map] at hwl
        obtain ⟨bs, rfl, eb⟩ := all_of xs ws hwl hg
        refine ⟨D, bs, rfl, SqL.of hws, ?_⟩
        rw [eb]
        exact q H2 s2
/-- all names of a product are names -/
def nmPrd (p : Prd) : Prop := ∀ a ∈ p, (∀ x ∈ a.nms, FA.okName x) ∧ a.nms.length ≤ 5
def spPrdWithin : Sp := fun vs H Q _ => ∃ (b o : Addr) (p q : Prd), vs = [.ref b, .ref o] ∧ PdAt H b p ∧ PdAt H o q ∧ nmPrd p ∧ nmPrd q ∧ p.length ≤ 100 ∧ q.length ≤ 100 ∧ ∀ H', Same H H' → Q (.bl (within p q)) H'
theorem eat_nil : ∀ q : Prd, eat [] q = []
  | [] => rfl
  | .n y :: q => by simp only [eat]; exact eat_nil q
  | .t ys :: q => by simp only [eat, List.dropWhile_nil]; exact eat_nil q
theorem okPrdWithin (T : Txt K mg) : FnOk P w K mg base CX0 2 T.aIsProductWithin T.fIsProductWithin ["product", "other"] spPrdWithin := by
  have GIsAtomWithin : FnOk P w K mg base CX0 1 T.aIsAtomWithin T.fIsAtomWithin ["atom", "other"] spAtomWithin := okAtomWithin T
  refine T.FIsProductWithin.ok scIsProductWithin (fun vs H Q E h => ?_) (fun cdv A outer s H vs Q E hr h => ?_)
  · obtain ⟨b, o, p, q, rfl, _⟩ := h
    rfl
  obtain ⟨b, o, p, q, rfl, ⟨vp, hb, hp⟩, ⟨vq, ho, hq⟩, np, nq, lp, lq, qq⟩ := h
  have hu := hu_of hr
  refine ⟨_, (pss_cons (ps_set (i := 2) scIsProductWithin.nd rfl (by first | exact Or.inl rfl | exact Or.inr rfl) pe_int)
      (pss_cons (ps_for PassesOwn.never rfl (pi_list (pv 1)) (pg_name (i := 3) scIsProductWithin.nd rfl (by first | exact Or.inl rfl | exact Or.inr rfl))
        (pss_cons (ps_set (i := 4) scIsProductWithin.nd rfl (by first | exact Or.inl rfl | exact Or.inr rfl) (pe_ifExp (pt_val (pe_callB call_isi (by rfl) T.n_isinstance (by decide +kernel) (pa_cons (pv 3) (pa_cons (pe_bltn (v := .ty "str") (by rfl) T.n_str (by decide +kernel) rfl) pa_nil)))) pe_int (pe_callB call_len_seq (by rfl) T.n_len PySem.boot_len (pa_cons (pv 0) pa_nil))))
        (pss_one (ps_while PassesOwn.never (PW.pt (pw_and (pt_cmpR op_lt (pv 2) (pe_callB call_len_seq (by rfl) T.n_len PySem.boot_len (pa_cons (pv 0) pa_nil)) (nomark _)) (pw_and (pt_cmpR op_gt (pv 4) pe_int (nomark _)) (pw_and1 (pt_val (pe_call GIsAtomWithin (hr.mono (by omega)) rfl T.gIsAtomWithin T.FIsAtomWithin.kp T.bIsAtomWithin .nil pass0 (pa_cons (pe_ix ix_list (pv 0) (pv 2) (fun _ _ => rfl)) (pa_cons (pv 3) pa_nil))))))))
          (pss_cons (ps_set (i := 2) scIsProductWithin.nd rfl (by first | exact Or.inl rfl | exact Or.inr rfl) (pe_op op_add (pv 2) pe_int))
          (pss_one (ps_set (i := 4) scIsProductWithin.nd rfl (by first | exact Or.inl rfl | exact Or.inr rfl) (pe_op op_sub (pv 4) pe_int))))))))
      (pss_one (ps_ret (pe_cmpR op_eq (pv 2) (pe_callB call_len_seq (by rfl) T.n_len PySem.boot_len (pa_cons (pv 0) pa_nil)) (nomark _)))))), ?_⟩
  have pl := hp.length
  have ql := hq.length
  refine ⟨_, rfl, o, rfl, ⟨_, SqL.of ho⟩, for_list (K := K) (a := o) (xs := vq) (fun i σ H' => ∃ (tk : Nat) (v3 v4 : Option V), σ = [some (.ref b), some (.ref o), some (.int (tk : Int)), v3, v4] ∧ Same H H' ∧ tk ≤ p.length ∧ eat (p.drop tk) (q.drop i) = eat p q) ⟨0, none, none, rfl, Same.refl _, Nat.zero_le _, rfl⟩ ?_ ?_ ?_⟩
  · rintro i σ H' _ ⟨_, _, _, _, sm, _⟩
    exact SqL.of (sm _ _ ho)
  · rintro i y σ H1 hi ⟨tk, v3, v4, rfl, s1, htk, he⟩
    obtain ⟨am, e1, e2⟩ := hq.get hi
    have hdrop : q.drop i = am :: q.drop (i + 1) := by
      have lt : i < q.length := by
        by_cases z : i < q.length
        · exact z
        · rw [List.getElem?_eq_none (by omega)] at e1; cases e1
      rw [List.drop_eq_getElem_cons lt]
      congr 1
      rw [List.getElem?_eq_getElem lt] at e1
      exact Option.some.inj e1
    have na := nq am (List.mem_of_getElem? e1)
    have e2' := e2.keep (Kp.of s1)
    -- how many may be taken away
    obtain ⟨Rem, mo0, r0, rstep, rfin, hmo⟩ : ∃ (Rem : Nat → Nat → Prop) (mo0 : Nat), Rem tk mo0 ∧ (∀ t2 mo a, p[t2]? = some a → Rem t2 mo → 0 < mo → isW a am = true → Rem (t2 + 1) (mo - 1)) ∧ (∀ t2 mo, Rem t2 mo → (t2 = p.length ∨ mo = 0 ∨ ∃ a, p[t2]? = some a ∧ isW a am = false) → eat (p.drop t2) (q.drop (i + 1)) = eat p q) ∧ ((∃ y', am = .n y' ∧ mo0 = 1) ∨ ∃ ys, am = .t ys ∧ mo0 = p.length) := by
      rw [hdrop] at he
      have dr : ∀ t2 a, p[t2]? = some a → p.drop t2 = a :: p.drop (t2 + 1) := fun t2 a ea => by
        have lt : t2 < p.length := by
          by_cases z : t2 < p.length
          · exact z
          · rw [List.getElem?_eq_none (by omega)] at ea; cases ea
        rw [List.drop_eq_getElem_cons lt]
        congr 1
        rw [List.getElem?_eq_getElem lt] at ea
        exact Option.some.inj ea
      cases am with
      | n y' =>
        simp only [eat] at he
        refine ⟨fun t2 mo => (mo = 1 ∧ t2 = tk) ∨ (mo = 0 ∧ t2 = tk + 1 ∧ ∃ a, p[tk]? = some a ∧ isW a (.n y') = true), 1, .inl ⟨rfl, rfl⟩, ?_, ?_, .inl ⟨_, rfl, rfl⟩⟩
        · rintro t2 mo a ea (⟨rfl, rfl⟩ | ⟨rfl, _⟩) hpos hw
          · exact .inr ⟨rfl, rfl, a, ea, hw⟩
          · omega
        · rintro t2 mo (⟨rfl, rfl⟩ | ⟨rfl, rfl, a, ea, hw⟩) h
          · rcases h with h | h | ⟨a, ea, hw⟩
            · rw [h, List.drop_length] at he ⊢
              exact he
            · omega
            · rw [dr _ a ea] at he ⊢
              simp only [hw, Bool.false_eq_true, if_false] at he
              exact he
          · rw [dr _ a ea] at he
            simp only [hw, if_true] at he
            exact he
      | t ys =>
        simp only [eat] at he
        refine ⟨fun t2 mo => p.length - t2 ≤ mo ∧ (p.drop tk).dropWhile (fun a => isW a (.t ys)) = (p.drop t2).dropWhile (fun a => isW a (.t ys)), p.length, ⟨by omega, rfl⟩, ?_, ?_, .inr ⟨_, rfl, rfl⟩⟩
        · rintro t2 mo a ea ⟨h1, h2⟩ hpos hw
          refine ⟨by omega, ?_⟩
          rw [h2, dr t2 a ea, List.dropWhile_cons, if_pos hw]
        · rintro t2 mo ⟨h1, h2⟩ h
          rw [← he, h2]
          have stay : (p.drop t2).dropWhile (fun a => isW a (.t ys)) = p.drop t2 := by
            by_cases z : t2 < p.length
            · have ea : p[t2]? = some p[t2] := List.getElem?_eq_getElem z
              rcases h with h | h | ⟨a, ea', hw⟩
              · omega
              · omega
              · rw [dr t2 a ea', List.dropWhile_cons, if_neg (by rw [hw]; decide)]
            · rw [List.drop_eq_nil_of_le (by omega)]
              rfl
          rw [stay]
    clear he hdrop
    rcases e2'.two with ⟨x, rfl, ea⟩ | ⟨ta, xs, rfl, ea, hta⟩
    refine ⟨_, rfl, _, _, _, _, true, rfl, .ty _, ty_str x, kit_ty (by decide +kernel), _, rfl, iteT ?_⟩
    have e5 : mo0 = 1 := by
      rcases hmo with ⟨_, _, h⟩ | ⟨_, h, _⟩
      · exact h
      · rw [ea] at h; cases h
    subst e5
    rotate_left
    refine ⟨_, rfl, _, _, _, _, false, rfl, .ty _, ty_tup hta, kit_ty (by decide +kernel), _, rfl, iteF ?_⟩
    have e5 : mo0 = p.length := by
      rcases hmo with ⟨_, h, _⟩ | ⟨_, _, h⟩
      · rw [ea] at h; cases h
      · exact h
    refine ⟨_, rfl, b, _, rfl, .inl (SqL.of (s1 _ _ hb)), ?_⟩
    rw [pl]
    subst e5
    rotate_left
    all_goals
      clear hmo
      refine ⟨fun m σ H' => ∃ (t2 mo : Nat), Rem t2 mo ∧ σ = [some (.ref b), some (.ref o), some (.int (t2 : Int)), some _, some (.int (mo : Int))] ∧ m = p.length - t2 ∧ Same H H' ∧ t2 ≤ p.length, ⟨_, tk, _, r0, rfl, rfl, s1, htk⟩, ?_⟩
      rintro m σ H2 ⟨t2, mo, hrem, rfl, rfl, s2, ht2⟩
      refine ⟨_, rfl, _, rfl, b, _, rfl, .inl (SqL.of (s2 _ _ hb)), _, _, rfl, rfl, _, rfl, ite2 (fun c => ?_) (fun c => ?_)⟩
      · have c1 : t2 < p.length := by
          have := of_decide_eq_true c
          omega
        refine ⟨_, rfl, _, _, rfl, rfl, _, rfl, ite2 (fun c2 => ?_) (fun c2 => ?_)⟩
        · have c3 : 0 < mo := by
            have := of_decide_eq_true c2
            omega
          obtain ⟨v, hv1, hv2⟩ := hp.at (i := t2) (List.getElem?_eq_getElem c1)
          have nt := np p[t2] (List.getElem_mem c1)
          refine ⟨_, rfl, _, rfl, b, _, _, _, rfl, rfl, SqL.of (s2 _ _ hb), atI_nat hv1, _, rfl, v, _, p[t2], am, rfl, hv2.keep (Kp.of s2), e2.keep (Kp.of s2), nt.1, na.1, nt.2, fun H3 s3 => ?_⟩
          refine ⟨_, rfl, ?_⟩
          cases hw : isW p[t2] am with
          | true =>
            refine ite2 (fun _ => ?_) (fun z => absurd rfl z)
            refine ⟨_, fun σ' H' h => h, ?_⟩
            obtain ⟨k, rfl⟩ : ∃ k, mo = k + 1 := ⟨mo - 1, by omega⟩
            have em : ((k + 1 : Nat) : Int) - 1 = (k : Int) := by omega
            refine ⟨_, rfl, _, _, rfl, rfl, _, rfl, _, _, rfl, rfl, ?_⟩
            exact ⟨p.length - (t2 + 1), by omega, t2 + 1, k, rstep t2 (k + 1) _ (List.getElem?_eq_getElem c1) hrem c3 hw, congrArg (fun z => [some (V.ref b), some (V.ref o), some (V.int ((t2 + 1 : Nat) : Int)), some _, some (V.int z)]) em, rfl, s2.trans s3, by omega⟩
          | false =>
            refine ite2 (fun z => by cases z) (fun _ => ?_)
            exact ⟨t2, _, _, rfl, s2.trans s3, ht2, rfin t2 mo hrem (.inr (.inr ⟨_, List.getElem?_eq_getElem c1, hw⟩))⟩
        · have c3 : mo = 0 := by
            have : ¬ ((mo : Int) > 0) := fun z => c2 (decide_eq_true z)
            omega
          exact ⟨t2, _, _, rfl, s2, ht2, rfin t2 mo hrem (.inr (.inl c3))⟩
      · have c1 : t2 = p.length := by
          have : ¬ ((t2 : Int) < (vp.length : Int)) := fun z => c (decide_eq_true z)
          omega
        exact ⟨t2, _, _, rfl, s2, ht2, rfin t2 mo hrem (.inl c1)⟩
  · rintro σ H1 ⟨tk, v3, v4, rfl, s1, htk, he⟩
    refine ⟨_, rfl, _, rfl, b, _, rfl, .inl (SqL.of (s1 _ _ hb)), rfl, ?_⟩
    rw [ql, List.drop_length] at he
    simp only [eat] at he
    have : decide (V.int (tk : Int) = V.int (vp.length : Int)) = within p q := by
      unfold within
      rw [← he, pl]
      by_cases z : tk = p.length
      · subst z
        simp
      · have h1 : ¬ V.int (tk : Int) = V.int (p.length : Int) := fun h => z (by injection h with h; omega)
        rw [decide_eq_false h1]
        have h2 : p.drop tk ≠ [] := fun h => z (by have := List.drop_eq_nil_iff.mp h; omega)
        cases e : p.drop tk with
        | nil => exact absurd e h2
        | cons _ _ => rfl
    rw [this]
    exact qq H1 s1
/-- all products at some places -/
def spPrdIn : Sp := fun vs H Q _ => ∃ (b o : Addr) (vp : List V) (ps : List Prd) (p : Prd), vs = [.ref b, .ref o] ∧ H b = some (.lst vp) ∧ PdsAt H vp ps ∧ PdAt H o p ∧ (∀ q ∈ ps, nmPrd q ∧ q.length ≤ 100) ∧ nmPrd p ∧ p.length ≤ 100 ∧ ps.length ≤ 5000 ∧ ∀ H', Same H H' → Q (.bl (prdIn ps p)) H'
theorem okPrdIn (T : Txt K mg) : FnOk P w K mg base CX0 3 T.aIsProductIn T.fIsProductIn ["products", "product"] spPrdIn := by
  have GIsProductWithin : FnOk P w K mg base CX0 2 T.aIsProductWithin T.fIsProductWithin ["product", "other"] spPrdWithin := okPrdWithin T
  refine T.FIsProductIn.ok scIsProductIn (fun vs H Q E h => ?_) (fun cdv A outer s H vs Q E hr h => ?_)
  · obtain ⟨b, o, vp, ps, p, rfl, _⟩ := h
    rfl
  obtain ⟨b, o, vp, ps, p, rfl, hb, hps, hp, nps, np, lp, lps, q⟩ := h
  have hu := hu_of hr
  refine ⟨_, (pss_one (ps_ret (pe_callB (cr_any rfl) (by rfl) T.n_any (by decide +kernel) (pa_cons (pe_lc (own := [("other", 2)]) (g := gName 2) (tt := tYes) rfl scIsProductIn.nd (pi_list (pv 0)) (blkOk_by (N := ["products", "product", "other"]) (sc := defScope sIsProductIn) (by decide +kernel)) (fun _ _ _ _ _ => (pg_name (i := 2) scIsProductIn.nd rfl (by first | exact Or.inl rfl | exact Or.inr rfl))) (fun _ _ _ _ _ => pts_nil) (fun _ _ _ _ _ => (pe_call GIsProductWithin (hr.mono (by omega)) rfl T.gIsProductWithin T.FIsProductWithin.kp T.bIsProductWithin .nil pass0 (pa_cons (pv 1) (pa_cons (pv 2) pa_nil))))) pa_nil)))), ?_⟩
  have pl := hps.length
  have cap : vp.length < sizeLine := by rw [sizeLine_eq]; omega
  refine ⟨_, rfl, b, rfl, ⟨_, SqL.of hb⟩, fun D hD => lcS (n := vp.length) hD cap _ (fun j v _ => ∃ q, ps[j]? = some q ∧ v = .bl (within p q)) (go_l (SqL.of hb)) (stop_l (SqL.of hb)) (yld_l (SqL.of hb)) (fun _ _ _ _ _ h => h) ?_ ?_⟩
  · intro j y H2 R hj hy s2 kk
    obtain ⟨bq, q', rfl, e1, e2⟩ := hps.get hy
    have nq := nps q' (List.mem_of_getElem? e1)
    exact ⟨rfl, _, rfl, _, rfl, o, bq, p, q', rfl, hp.keep (Kp.of s2), e2.keep (Kp.of s2), np, nq.1, lp, nq.2, fun H3 s3 => kk _ H3 s3 ⟨q', e1, rfl⟩⟩
  · intro H2 ws s2 hws hwl hg
    have ew : ws = (ps.map fun q => within p q).map V.bl := by
      rw [List.map_map]
      exact ext_map (by omega) hg
    rw [ew] at hws
    refine ⟨D, _, rfl, SqL.of hws, ?_⟩
    rw [List.any_map]
    exact q H2 s2
end K43


set_option Elab.async false
set_option linter.all false
set_option maxRecDepth 100000
set_option maxHeartbeats 8000000
namespace K43
open PySem PySem.Spec PyProof.Rows L2 FA
variable {P : Program} {w : World} {K : PySem.W.Frag} {mg : Str → Option Value} {base : Heap}
theorem nm_len {a : Atm} (h : (∀ x ∈ a.nms, FA.okName x) ∧ a.nms.length ≤ 5) : (atomText a).length ≤ 60 := by
  cases a with
  | n x =>
    have := (h.1 x (by simp [Atm.nms])).le
    show x.length ≤ 60
    omega
  | t xs =>
    have h1 := join_len " " xs
    have h2 := sum_len (l := xs) (m := 8) fun x hx => (h.1 x hx).le
    have h3 : xs.length ≤ 5 := h.2
    have e : (" " : Str).length = 1 := rfl
    have e1 : ("{" : Str).length = 1 := rfl
    have e2 : ("}" : Str).length = 1 := rfl
    rw [e, Nat.mul_one] at h1
    show (("{" : Str) ++ Txt.join " " xs ++ ("}" : Str)).length ≤ 60
    rw [str_len_app, str_len_app, e1, e2]
    omega
def spPrdText : Sp := fun vs H Q _ => ∃ (b : Addr) (p : Prd), vs = [.ref b] ∧ PdAt H b p ∧ nmPrd p ∧ p.length ≤ 100 ∧ ∀ H', Same H H' → Q (.str (prdText p)) H'
theorem okPrdText (T : Txt K mg) : FnOk P w K mg base CX0 1 T.aProductText T.fProductText ["product"] spPrdText := by
  refine T.FProductText.ok scProductText (fun vs H Q E h => ?_) (fun cdv A outer s H vs Q E hr h => ?_)
  · obtain ⟨b, p, rfl, _⟩ := h
    rfl
  obtain ⟨b, p, rfl, ⟨vp, hb, hp⟩, np, lp, q⟩ := h
  have hu := hu_of hr
  refine ⟨_, (pss_cons (ps_setLc (i := 1) (own := [("atom", 2)]) (g := gName 2) (tt := tYes) rfl scProductText.nd rfl rfl (sw_true rfl rfl rfl (by decide +kernel)) (pi_list (pv 0)) (blkOk_by (N := ["product", "atoms", "atom"]) (sc := defScope sProductText) (by decide +kernel)) (fun _ _ _ _ _ => (pg_name (i := 2) scProductText.nd rfl (by first | exact Or.inl rfl | exact Or.inr rfl))) (fun _ _ _ _ _ => pts_nil) (fun _ _ _ _ _ => (pe_ifExp (pt_val (pe_callB (call_isiK1 (K := K) rfl) (by rfl) T.n_isinstance (by decide +kernel) (pa_cons (pv 2) (pa_cons (pe_bltn (v := .ty "str") (by rfl) T.n_str (by decide +kernel) rfl) pa_nil)))) (pv 2) (pe_op op_add_str (pe_op op_add_str pe_str (pe_joinK (K := K) rfl pe_str (pv 2))) pe_str))))
      (pss_one (ps_ret (pe_ifExp (pt_truth (pv 1) (by intro _; rfl)) (pe_join pe_str (pv 1)) pe_str)))), ?_⟩
  have pl := hp.length
  have e1 : (" " : Str).length = 1 := rfl
  refine ⟨_, rfl, b, rfl, ⟨_, SqL.of hb⟩, fun D hD => lcS (n := vp.length) hD (small1000 (by omega)) _ (fun j v _ => ∃ a, p[j]? = some a ∧ v = .str (atomText a)) (go_l (SqL.of hb)) (stop_l (SqL.of hb)) (yld_l (SqL.of hb)) (fun _ _ _ _ _ h => h) ?_ ?_⟩
  · intro j y H2 R hj hy s2 kk
    obtain ⟨a, ea, ha⟩ := hp.get hy
    have na := np a (List.mem_of_getElem? ea)
    have kk' := kk (.str (atomText a)) H2 (Same.refl _) ⟨a, ea, rfl⟩
    rcases (ha.keep (Kp.of s2)).two with ⟨x, rfl, rfl⟩ | ⟨t, xs, rfl, rfl, ht⟩
    · exact ⟨rfl, _, rfl, _, _, _, _, true, rfl, .ty _, ty_str x, kit_ty (by decide +kernel), _, rfl, iteT ⟨_, rfl, kk'⟩⟩
    · have h1 := join_len " " xs
      have h2 := sum_len (l := xs) (m := 8) fun x hx => (na.1 x hx).le
      have h3 : xs.length ≤ 5 := na.2
      have e2 : ("{" : Str).length = 1 := rfl
      have e3 : ("}" : Str).length = 1 := rfl
      rw [e1, Nat.mul_one] at h1
      have hs := sizeLine_eq
      refine ⟨rfl, _, rfl, _, _, _, _, false, rfl, .ty _, ty_tup ht, kit_ty (by decide +kernel), _, rfl, iteF ?_⟩
      refine ⟨⟨_, rfl⟩, _, rfl, _, t, xs, rfl, rfl, .inr (SqT.of ht), by rw [e1]; omega, _, _, rfl, rfl, by rw [e2]; omega, _, _, rfl, rfl, ?_, kk'⟩
      rw [str_len_app, e2, e3]
      omega
  · intro H2 ws s2 hws hwl hg
    have ew : ws = (p.map atomText).map V.str := by
      rw [List.map_map]
      exact ext_map (by omega) hg
    rw [ew] at hws
    refine ⟨_, rfl, !((p.map atomText).map V.str).isEmpty, .inl ⟨_, SqL.of hws, rfl⟩, ?_⟩
    have qq := q H2 s2
    unfold prdText at qq
    cases p with
    | nil => exact iteF qq
    | cons a r =>
      refine iteT ?_
      refine ⟨⟨_, rfl⟩, _, rfl, _, D, _, rfl, rfl, .inl (SqL.of hws), ?_, qq⟩
      have h2 := sum_len (l := (a :: r).map atomText) (m := 60) fun x hx => by
        obtain ⟨a', ha', rfl⟩ := List.mem_map.mp hx
        exact nm_len (np a' ha')
      rw [List.length_map] at h2 ⊢
      rw [e1]
      omega
def spIdle : Sp := fun vs H Q _ => ∃ (b : Addr) (p : Prd), vs = [.ref b] ∧ PdAt H b p ∧ nmPrd p ∧ p.length ≤ 100 ∧ ∀ r H' vs, Same H H' → H r = none → H' r = some (.lst vs) → AtsAt H vs (idle p) → Q (.ref r) H'
theorem okIdle (T : Txt K mg) : FnOk P w K mg base CX0 2 T.aWithoutIdleAtoms T.fWithoutIdleAtoms ["product"] spIdle := by
  have GIsAtomWithin : FnOk P w K mg base CX0 1 T.aIsAtomWithin T.fIsAtomWithin ["atom", "other"] spAtomWithin := okAtomWithin T
  refine T.FWithoutIdleAtoms.ok scWithoutIdleAtoms (fun vs H Q E h => ?_) (fun cdv A outer s H vs Q E hr h => ?_)
  · obtain ⟨b, p, rfl, _⟩ := h
    rfl
  obtain ⟨b, p, rfl, ⟨vp, hb, hp⟩, np, lp, q⟩ := h
  have hu := hu_of hr
  refine ⟨_, (pss_cons (ps_set (i := 1) scWithoutIdleAtoms.nd rfl (by first | exact Or.inl rfl | exact Or.inr rfl) (pe_lst pa_nil))
      (pss_cons (ps_for PassesOwn.never rfl (pi_list (pv 0)) (pg_name (i := 2) scWithoutIdleAtoms.nd rfl (by first | exact Or.inl rfl | exact Or.inr rfl))
        (pss_cons (ps_while PassesOwn.never (PW.pt (pw_and (pt_truth (pv 1) (by intro _; rfl)) (pw_and (pt_val (pe_callB call_isi (by rfl) T.n_isinstance (by decide +kernel) (pa_cons (pv 2) (pa_cons (pe_bltn (v := .ty "tuple") (by rfl) T.n_tuple (by decide +kernel) rfl) pa_nil)))) (pw_and1 (pt_val (pe_call GIsAtomWithin (hr.mono (by omega)) rfl T.gIsAtomWithin T.FIsAtomWithin.kp T.bIsAtomWithin .nil pass0 (pa_cons (pe_ix ix_list (pv 1) (pe_un un_neg pe_int) (fun _ _ => rfl)) (pa_cons (pv 2) pa_nil))))))))
          (pss_one (ps_expr (pe_bm0 PySem.F.plainAttrs_list PySem.F.slot_list_pop PySem.F.type_list_pop mt_pop (pv 1)))))
        (pss_one (ps_if (PW.pt (pw_or (pt_not (pt_truth (pv 1) (by intro _; rfl))) (pw_or (pt_val (pe_callB call_isi (by rfl) T.n_isinstance (by decide +kernel) (pa_cons (pe_ix ix_list (pv 1) (pe_un un_neg pe_int) (fun _ _ => rfl)) (pa_cons (pe_bltn (v := .ty "str") (by rfl) T.n_str (by decide +kernel) rfl) pa_nil)))) (pw_or1 (pt_not (pt_val (pe_call GIsAtomWithin (hr.mono (by omega)) rfl T.gIsAtomWithin T.FIsAtomWithin.kp T.bIsAtomWithin .nil pass0 (pa_cons (pv 2) (pa_cons (pe_ix ix_list (pv 1) (pe_un un_neg pe_int) (fun _ _ => rfl)) pa_nil)))))))))
          (pss_one (ps_expr (pe_bm PySem.F.plainAttrs_list PySem.F.slot_list_append PySem.F.type_list_append mt_append (pv 1) (pa_cons (pv 2) pa_nil)))) pss_nil))))
      (pss_one (ps_ret (pv 1))))), ?_⟩
  have pl := hp.length
  refine ⟨Nat.zero_le _, fun f hf => ?_⟩
  have hbf : b ≠ f := ne_of_none hb hf
  have put : ∀ (G : Hp) (o : HO), Same H G → Same H (upd G f o) := fun G o sG c e z => by
    rw [upd_ne (ne_of_none z hf)]
    exact sG _ _ z
  refine ⟨_, rfl, b, rfl, ⟨_, SqL.of (same_upd0 hf (.lst []) _ _ hb)⟩, for_list (K := K) (a := b) (xs := vp) (fun i σ H' => ∃ (v2 : Option V) (ks : List V), σ = [some (.ref b), some (.ref f), v2] ∧ Same H H' ∧ H' f = some (.lst ks) ∧ AtsAt H ks (idleR [] (p.take i)).reverse) ⟨none, [], rfl, same_upd0 hf _, upd_same, .nil⟩ ?_ ?_ ?_⟩
  · rintro i σ H' _ ⟨_, _, _, sm, _⟩
    exact SqL.of (sm _ _ hb)
  · rintro i y σ H1 hi ⟨v2, ks, rfl, s1, hf1, hks⟩
    obtain ⟨a, e1, e2⟩ := hp.get hi
    have na := np a (List.mem_of_getElem? e1)
    have enx : idleR [] (p.take (i + 1)) = putI a (popI a (idleR [] (p.take i))) := by
      rw [List.take_add_one, e1]
      exact idleR_snoc a _ _
    have okk : ∀ c ∈ idleR [] (p.take i), (∀ x ∈ c.nms, FA.okName x) ∧ c.nms.length ≤ 5 := idleR_all _ _ (fun c hc => np c (List.mem_of_mem_take hc)) (by simp)
    obtain ⟨k0, hk0⟩ : ∃ k0, k0 = idleR [] (p.take i) := ⟨_, rfl⟩
    rw [← hk0] at hks enx okk
    refine ⟨fun m σ H' => ∃ (ks : List V) (k : List Atm), σ = [some (.ref b), some (.ref f), some y] ∧ m = k.length ∧ Same H H' ∧ H' f = some (.lst ks) ∧ AtsAt H ks k.reverse ∧ popI a k = popI a k0 ∧ ∀ c ∈ k, (∀ x ∈ c.nms, FA.okName x) ∧ c.nms.length ≤ 5, ⟨_, ks, k0, rfl, rfl, s1, hf1, hks, rfl, okk⟩, ?_⟩
    rintro m σ H2 ⟨ks, k, rfl, rfl, s2, hf2, hks2, hpop, hok⟩
    -- the turn's end: the atom is put behind those that stay
    have done : ∀ (H9 : Hp) (ks : List V) (k : List Atm), k = popI a k0 → Same H H9 → H9 f = some (.lst ks) → AtsAt H ks k.reverse → (∀ c ∈ k, (∀ x ∈ c.nms, FA.okName x) ∧ c.nms.length ≤ 5) →
        (putI a k = a :: k → ks.length < sizeLine ∧ ∃ (v2 : Option V) (ks' : List V), [some (.ref b), some (.ref f), some y] = [some (.ref b), some (.ref f), v2] ∧ Same H (upd H9 f (.lst (ks ++ [y]))) ∧ (upd H9 f (.lst (ks ++ [y]))) f = some (.lst ks') ∧ AtsAt H ks' (idleR [] (p.take (i + 1))).reverse) ∧
        (putI a k = k → ∀ H10, Same H9 H10 → ∃ (v2 : Option V) (ks' : List V), [some (.ref b), some (.ref f), some y] = [some (.ref b), some (.ref f), v2] ∧ Same H H10 ∧ H10 f = some (.lst ks') ∧ AtsAt H ks' (idleR [] (p.take (i + 1))).reverse) := by
      intro H9 ks k hk s9 hf9 hks9 hok9
      refine ⟨fun hput => ⟨?_, _, ks ++ [y], rfl, put _ _ s9, upd_same, ?_⟩, fun hput H10 s10 => ⟨_, ks, rfl, s9.trans s10, s10 _ _ hf9, ?_⟩⟩
      · have h1 := hks9.length
        have h2 := (idleR_all (Pp := fun _ => True) (p.take i) [] (fun _ _ => trivial) (fun _ _ => trivial))
        have h3 := idle_le (p.take i)
        unfold idle at h3
        rw [List.length_reverse, List.length_take] at h3
        have h4 : k.length ≤ k0.length := by
          rw [hk]
          cases a with
          | n x => exact Nat.le_refl _
          | t xs => exact (List.dropWhile_sublist _).length_le
        rw [List.length_reverse] at h1
        rw [hk0] at h4
        exact small1000 (by omega)
      · rw [enx, ← hk, hput, List.reverse_cons]
        exact hks9.app (.cons e2 .nil)
      · rw [enx, ← hk, hput]
        exact hks9
    cases k with
    | nil =>
      have pe : popI a [] = [] := by cases a <;> rfl
      rw [pe] at hpop
      obtain rfl : ks = [] := by cases hks2; rfl
      obtain ⟨d1, _⟩ := done H2 [] [] hpop s2 hf2 hks2 hok
      obtain ⟨d2, d3⟩ := d1 rfl
      refine ⟨_, rfl, false, .inl ⟨[], SqL.of hf2, rfl⟩, ?_⟩
      refine iteF ?_
      refine ⟨_, rfl, false, .inl ⟨[], SqL.of hf2, rfl⟩, ?_⟩
      refine iteT ?_
      exact ⟨_, rfl, .inl ⟨rfl, _, SqL.of hf2⟩, _, rfl, f, _, y, rfl, rfl, hf2, d2, d3⟩
    | cons c k' =>
      rw [List.reverse_cons] at hks2
      obtain ⟨ks', vc, rfl, hk1, hk2⟩ := hks2.snoc_inv
      have hks2 : AtsAt H (ks' ++ [vc]) (c :: k').reverse := by rw [List.reverse_cons]; exact hks2
      have nc := hok c (by simp)
      have ne : (!(ks' ++ [vc]).isEmpty) = true := by cases ks' <;> rfl
      refine ⟨_, rfl, true, .inl ⟨_, SqL.of hf2, ne.symm⟩, ?_⟩
      refine iteT ?_
      rcases e2.two with ⟨x, rfl, ea⟩ | ⟨ta, xs, rfl, ea, hta⟩
      refine ⟨_, rfl, _, _, _, _, false, rfl, .ty _, ty_str x, kit_ty (by decide +kernel), _, rfl, iteF ?_⟩
      have hpk : c :: k' = popI a k0 := by rw [← hpop, ea]; rfl
      obtain ⟨H9, s9, e9⟩ : ∃ H9, Same H2 H9 ∧ H9 = H2 := ⟨_, Same.refl _, rfl⟩
      rw [← e9]
      clear e9
      rotate_left
      refine ⟨_, rfl, _, _, _, _, true, rfl, .ty _, ty_tup (s2 _ _ hta), kit_ty (by decide +kernel), _, rfl, iteT ?_⟩
      refine ⟨_, rfl, _, rfl, f, _, _, _, rfl, rfl, SqL.of hf2, atI_last _ _, _, rfl, vc, _, c, a, rfl, hk2.keep (Kp.of s2), e2.keep (Kp.of s2), nc.1, na.1, nc.2, fun H9 s9 => ?_⟩
      refine ⟨_, rfl, ?_⟩
      refine ite2 (fun hw => ?_) (fun hw => ?_)
      have hf9 := s9 _ _ hf2
      refine ⟨_, fun σ' H' h => h, ?_⟩
      refine ⟨_, rfl, .inl ⟨rfl, _, SqL.of hf9⟩, f, _, vc, rfl, rfl, hf9, by simp, ?_⟩
      refine ⟨k'.length, by simp, ks', k', rfl, rfl, put _ _ (s2.trans s9), by rw [upd_same, List.dropLast_concat], hk1, ?_, fun c hc => hok c (List.mem_cons_of_mem _ hc)⟩
      · rw [← hpop, ea, popI_t, if_pos (by rw [← ea]; exact hw)]
      have hpk : c :: k' = popI a k0 := by
        rw [← hpop, ea, popI_t, if_neg (by rw [← ea]; exact hw)]
      clear hw
      rotate_left
      all_goals
        have s09 := s2.trans s9
        have hf9 := s9 _ _ hf2
        obtain ⟨d1, d2⟩ := done H9 _ _ hpk s09 hf9 hks2 hok
        refine ⟨_, rfl, true, .inl ⟨_, SqL.of hf9, ne.symm⟩, ?_⟩
        refine iteF ?_
        rcases hk2.two with ⟨z, ez, ec⟩ | ⟨tc, ys, ez, ec, htc⟩
        · obtain ⟨d3, d4⟩ := d1 (by rw [ec]; rfl)
          subst ez
          refine ⟨_, rfl, _, rfl, f, _, _, _, rfl, rfl, SqL.of hf9, atI_last _ _, ?_⟩
          refine ⟨_, _, _, _, true, rfl, .ty _, ty_str z, kit_ty (by decide +kernel), _, rfl, iteT ?_⟩
          exact ⟨_, rfl, .inl ⟨rfl, _, SqL.of hf9⟩, _, rfl, f, _, _, rfl, rfl, hf9, d3, d4⟩
        · subst ez
          refine ⟨_, rfl, _, rfl, f, _, _, _, rfl, rfl, SqL.of hf9, atI_last _ _, ?_⟩
          have hk9 := hk2.keep (Kp.of s09)
          have e9 := e2.keep (Kp.of s09)
          refine ⟨_, _, _, _, false, rfl, .ty _, ty_tup (s09 _ _ htc), kit_ty (by decide +kernel), _, rfl, iteF ?_⟩
          refine ⟨_, rfl, _, rfl, _, rfl, f, _, _, _, rfl, rfl, SqL.of hf9, atI_last _ _, _, _, a, c, rfl, e9, hk9, na.1, nc.1, na.2, fun H10 s10 => ?_⟩
          refine ⟨_, rfl, ?_⟩
          cases hw : isW a c with
          | true =>
            refine iteF ?_
            exact d2 (by rw [ec] at hw ⊢; simp only [putI, hw, if_true]) H10 s10
          | false =>
            refine iteT ?_
            have hf10 := s10 _ _ hf9
            obtain ⟨d3, _⟩ := done H10 _ _ hpk (s09.trans s10) hf10 hks2 hok
            obtain ⟨d4, d5⟩ := d3 (by rw [ec] at hw ⊢; simp only [putI, hw, Bool.false_eq_true, if_false])
            exact ⟨_, rfl, .inl ⟨rfl, _, SqL.of hf10⟩, _, rfl, f, _, _, rfl, rfl, hf10, d4, d5⟩
  · rintro σ H1 ⟨v2, ks, rfl, s1, hf1, hks⟩
    rw [pl, List.take_length] at hks
    exact ⟨_, rfl, q f H1 ks s1 hf hf1 hks⟩
end K43


set_option Elab.async false
set_option linter.all false
set_option maxRecDepth 100000
set_option maxHeartbeats 4000000
/-! Two loops in a list comprehension, in general. -/
namespace FA
open PySem PySem.Spec PyProof.Rows L2
/-- all but D is kept -/
def But (D : Addr) (A B : Hp) : Prop := ∀ a o, a ≠ D → A a = some o → B a = some o
theorem But.of_same {D : Addr} {A B : Hp} (s : Same A B) : But D A B := fun a o _ e => s _ _ e
theorem But.upd {D : Addr} {A : Hp} {o : HO} : But D A (upd A D o) := fun a u n e => by rw [upd_ne n]; exact e
theorem lc2G {K : PySem.W.Frag} {te : TE} {i1 i2 : Nat} {σ : L2.St} {H1 : Hp} {A D : Addr} {vs : List V} {wi1 : TI} {Qd : Hp → Prop} (hA : SqL K H1 A vs) (hD : H1 D = none) (ne : i1 ≠ i2) (h1 : i1 < σ.length) (h2 : i2 < σ.length)
    (Wk : Nat → List V → Hp → Prop) (Acc : Nat → List V → Hp → Prop) (AccIn : Nat → List V → Nat → List V → Hp → Prop) (G : Nat → List V → Nat → V → Hp → Prop)
    (walk : ∀ (i : Nat) (x : V) (σ' : L2.St) (H : Hp) (R : L2.It → Hp → Prop), vs[i]? = some x → Same H1 H → (∃ acc, H D = some (.lst acc)) → σ' = (wipe σ [i1, i2]).set i1 (some x) → (∀ B ws H4, Same H H4 → H4 B = some (.lst ws) → B ≠ D → Wk i ws H4 → R (Itl K B) H4) → wi1 σ' H R)
    (el : ∀ (i : Nat) (x : V) (ws : List V) (j : Nat) (y : V) (σ' : L2.St) (H : Hp) (R : VK), vs[i]? = some x → ws[j]? = some y → Same H1 H → (∃ acc, H D = some (.lst acc)) → Wk i ws H → σ'[i1]? = some (some x) → σ'[i2]? = some (some y) → (∀ v H', Same H H' → G i ws j v H' → R v H') → te σ' H R)
    (wmono : ∀ i ws A B, But D A B → Wk i ws A → Wk i ws B) (amono : ∀ i acc A B, But D A B → Acc i acc A → Acc i acc B) (imono : ∀ i ws j acc A B, But D A B → AccIn i ws j acc A → AccIn i ws j acc B) (gmono : ∀ i ws j v A B, But D A B → G i ws j v A → G i ws j v B)
    (a0 : ∀ H, Acc 0 [] H) (start : ∀ i x ws acc H, vs[i]? = some x → Wk i ws H → Acc i acc H → AccIn i ws 0 acc H) (step : ∀ i ws j y v acc H, ws[j]? = some y → AccIn i ws j acc H → G i ws j v H → AccIn i ws (j + 1) (acc ++ [v]) H)
    (stop : ∀ i ws acc H, i < vs.length → Wk i ws H → AccIn i ws ws.length acc H → Acc (i + 1) acc H) (cap : ∀ i ws j acc H, i < vs.length → Wk i ws H → j < ws.length → AccIn i ws j acc H → acc.length < sizeLine)
    (fin : ∀ H ws, Same H1 H → H D = some (.lst ws) → Acc vs.length ws H → Qd H) :
    ∃ W : Nat → Nat → Hp → Prop, (∃ m, W 0 m (upd H1 D (.lst []))) ∧ ∀ i m H, W i m H → ((Itl K A).stop i H ∧ Qd H) ∨ ((Itl K A).go i H ∧ ∃ Nx : Hp → Prop, (∀ H', Nx H' → ∃ m', m' < m ∧ W (i + 1) m' H') ∧ ∀ x H', (Itl K A).yld i H x H' → gName i1 x (wipe σ [i1, i2]) H' fun σ2 H2 => wipe σ2 [i1, i2] = wipe σ [i1, i2] ∧ tYes σ2 H2 fun b H3 => if b = true then wi1 σ2 H3 fun J1 H4 => ∃ W1 : Nat → Nat → Hp → Prop, (∃ m, W1 0 m H4) ∧ ∀ j k H, W1 j k H → (J1.stop j H ∧ Nx H) ∨ (J1.go j H ∧ ∃ Nx1 : Hp → Prop, (∀ H', Nx1 H' → ∃ k', k' < k ∧ W1 (j + 1) k' H') ∧ ∀ x H', J1.yld j H x H' → gName i2 x (wipe σ2 [i2]) H' fun σ3 H5 => wipe σ3 [i2] = wipe σ2 [i2] ∧ tYes σ3 H5 fun b H6 => if b = true then te σ3 H6 fun y H7 => ∃ acc, H7 D = some (.lst acc) ∧ acc.length < sizeLine ∧ Nx1 (upd H7 D (.lst (acc ++ [y]))) else Nx1 H6) else Nx H3) := by
  have lw : (wipe σ [i1, i2]).length = σ.length := by rw [wipe_length]
  refine ⟨fun i m H => i ≤ vs.length ∧ m = vs.length - i ∧ Same H1 H ∧ ∃ ws, H D = some (.lst ws) ∧ Acc i ws H, ⟨_, Nat.zero_le _, rfl, fun b o e => by rw [upd_ne (ne_of_none e hD)]; exact e, [], upd_same, a0 _⟩, ?_⟩
  rintro i m H ⟨hi, rfl, sm, acc0, hws, hp⟩
  by_cases hlt : i < vs.length
  · refine .inr ⟨go_l hA i H sm hlt, fun H' => i + 1 ≤ vs.length ∧ Same H1 H' ∧ ∃ ws, H' D = some (.lst ws) ∧ Acc (i + 1) ws H', fun H' h => ⟨vs.length - (i + 1), by omega, h.1, rfl, h.2⟩, fun x H' y => ?_⟩
    obtain ⟨rfl, hx⟩ := yld_l hA i H x H' sm hlt y
    refine ⟨?_, ?_⟩
    · show ((((((σ.set i2 none).set i1 none)).set i1 (some x)).set i2 none)).set i1 none = (σ.set i2 none).set i1 none
      rw [List.set_set, List.set_comm _ _ ne, List.set_set, List.set_set]
    · refine yesT ?_
      rw [if_pos rfl]
      refine walk i x _ _ _ hx sm ⟨_, hws⟩ rfl fun B ws H4 s4 hB nBD wk => ?_
      refine ⟨fun j k H => j ≤ ws.length ∧ k = ws.length - j ∧ Same H1 H ∧ H B = some (.lst ws) ∧ Wk i ws H ∧ ∃ acc, H D = some (.lst acc) ∧ AccIn i ws j acc H, ⟨_, Nat.zero_le _, rfl, sm.trans s4, hB, wk, acc0, s4 _ _ hws, start i x ws acc0 H4 hx wk (amono _ _ _ _ (But.of_same s4) hp)⟩, ?_⟩
      rintro j k H2 ⟨hj, rfl, s2, hB2, wk2, acc, hacc, hin⟩
      by_cases hjl : j < ws.length
      · refine .inr ⟨go_l (SqL.of hB2) j H2 (Same.refl _) hjl, fun H' => j + 1 ≤ ws.length ∧ Same H1 H' ∧ H' B = some (.lst ws) ∧ Wk i ws H' ∧ ∃ acc, H' D = some (.lst acc) ∧ AccIn i ws (j + 1) acc H', fun H' h => ⟨ws.length - (j + 1), by omega, h.1, rfl, h.2⟩, fun y H' yy => ?_⟩
        obtain ⟨rfl, hy⟩ := yld_l (SqL.of hB2) j H2 y H' (Same.refl _) hjl yy
        refine ⟨?_, ?_⟩
        · show ((((wipe σ [i1, i2]).set i1 (some x)).set i2 none).set i2 (some y)).set i2 none = ((wipe σ [i1, i2]).set i1 (some x)).set i2 none
          rw [List.set_set, List.set_set]
        · refine yesT ?_
          rw [if_pos rfl]
          refine el i x ws j y _ _ _ hx hy s2 ⟨_, hacc⟩ wk2 ?_ ?_ fun v H5 s5 g5 => ?_
          · show ((((wipe σ [i1, i2]).set i1 (some x)).set i2 none).set i2 (some y))[i1]? = _
            rw [List.set_set, List.getElem?_set_ne (Ne.symm ne), List.getElem?_set_self (by rw [lw]; exact h1)]
          · show ((((wipe σ [i1, i2]).set i1 (some x)).set i2 none).set i2 (some y))[i2]? = _
            rw [List.set_set, List.getElem?_set_self (by rw [List.length_set, lw]; exact h2)]
          · have hacc5 := s5 _ _ hacc
            have b5 : But D H' (upd H5 D (.lst (acc ++ [v]))) := fun a o n e => by rw [upd_ne n]; exact s5 _ _ e
            have b6 : But D H5 (upd H5 D (.lst (acc ++ [v]))) := But.upd
            refine ⟨acc, hacc5, cap i ws j acc _ hlt wk2 hjl hin, by omega, fun b o e => ?_, by rw [upd_ne nBD]; exact s5 _ _ hB2, wmono _ _ _ _ b5 wk2, acc ++ [v], upd_same, ?_⟩
            · rw [upd_ne (ne_of_none e hD)]; exact s5 _ _ (s2 _ _ e)
            · exact step i ws j y v acc _ hy (imono _ _ _ _ _ _ b5 hin) (gmono _ _ _ _ _ _ b6 g5)
      · have : j = ws.length := by omega
        subst this
        exact .inl ⟨stop_l (SqL.of hB2) H2 (Same.refl _), hlt, s2, acc, hacc, stop i ws acc H2 hlt wk2 hin⟩
  · have : i = vs.length := by omega
    subst this
    exact .inl ⟨stop_l hA H sm, fin H acc0 sm hws hp⟩
section
variable {D : Addr} {H A B : Hp}
theorem kp_woBut (s : But D A B) : Kp (wo [D] (fr H A)) (wo [D] (fr H B)) := by
  have key : ∀ b o, wo [D] (fr H A) b = some o → wo [D] (fr H B) b = some o := fun b o e => by
    obtain ⟨h1, h2⟩ := wo_some.mp e
    obtain ⟨h3, h4⟩ := fr_some.mp h2
    exact wo_some.mpr ⟨h1, fr_some.mpr ⟨h3, s _ _ (by simpa using h1) h4⟩⟩
  exact ⟨fun _ _ e => key _ _ e, fun _ _ e => key _ _ e⟩
theorem kp_woIn (hD : A D = none) (s : Same A B) : Kp (fr H A) (wo [D] (fr H B)) := by
  have key : ∀ b o, fr H A b = some o → wo [D] (fr H B) b = some o := fun b o e => by
    obtain ⟨h1, h2⟩ := fr_some.mp e
    exact wo_some.mpr ⟨by simpa using ne_of_none h2 hD, fr_some.mpr ⟨h1, s _ _ h2⟩⟩
  exact ⟨fun _ _ e => key _ _ e, fun _ _ e => key _ _ e⟩
theorem kp_woNew {u : HO} (hD : A D = some u) (s : Same H A) : Kp (fr A B) (wo [D] (fr H B)) := by
  have key : ∀ b o, fr A B b = some o → wo [D] (fr H B) b = some o := fun b o e => by
    obtain ⟨h1, h2⟩ := fr_some.mp e
    refine wo_some.mpr ⟨?_, fr_some.mpr ⟨none_back (W := []) (Sm.of_same s) (fun _ z => by cases z) h1, h2⟩⟩
    simp only [List.mem_singleton]
    rintro rfl
    rw [hD] at h1
    cases h1
  exact ⟨fun _ _ e => key _ _ e, fun _ _ e => key _ _ e⟩
theorem kp_woOut : Kp (wo [D] (fr H A)) (fr H A) := ⟨fun _ _ e => (wo_some.mp e).2, fun _ _ e => (wo_some.mp e).2⟩
end
theorem rawBs_take {bs : List (List It)} {i : Nat} {b : List It} (h : bs[i]? = some b) : rawBs (bs.take (i + 1)) = rawBs (bs.take i) ++ rawB b [[]] := by
  have app : ∀ a c : List (List It), rawBs (a ++ c) = rawBs a ++ rawBs c := fun a c => by
    induction a with
    | nil => simp [rawBs]
    | cons x r ih => simp only [List.cons_append, rawBs, ih, List.append_assoc]
  rw [List.take_add_one, h, app]
  simp [rawBs]
theorem rawB_take {l : List It} {i : Nat} {it : It} (h : l[i]? = some it) (acc : List Prd) : rawB (l.take (i + 1)) acc = cross (rawB (l.take i) acc) (rawI it) := by
  have app : ∀ (a c : List It) (acc : List Prd), rawB (a ++ c) acc = rawB c (rawB a acc) := fun a => by
    induction a with
    | nil => intro c acc; simp [rawB]
    | cons x r ih => intro c acc; simp only [List.cons_append, rawB, ih]
  rw [List.take_add_one, h, app]
  simp [rawB]
theorem rawI_bodies : ∀ i : It, (∀ x, i ≠ .call x) → (∀ b, i ≠ .loop b) → rawI i = rawBs (bodies i)
  | .call x, h, _ => absurd rfl (h x)
  | .loop b, _, h => absurd rfl (h b)
  | .may b, _, _ => by simp [rawI, bodies, rawBs]
  | .one bs, _, _ => by simp [rawI, bodies]
theorem rawBs_pre (bs : List (List It)) (k : Nat) : (rawBs (bs.take k)).length ≤ (rawBs bs).length := by
  have app : ∀ a c : List (List It), rawBs (a ++ c) = rawBs a ++ rawBs c := fun a c => by
    induction a with
    | nil => simp [rawBs]
    | cons x r ih => simp only [List.cons_append, rawBs, ih, List.append_assoc]
  have := congrArg (fun z => (rawBs z).length) (List.take_append_drop k bs)
  simp only [app, List.length_append] at this
  omega
theorem PdsAt.at {H : Hp} : ∀ {vs : List V} {ps : List Prd} {i : Nat} {p : Prd}, PdsAt H vs ps → ps[i]? = some p → ∃ b, vs[i]? = some (.ref b) ∧ PdAt H b p
  | _, _, _, _, .nil, e => by simp at e
  | _, _, 0, _, .cons h _, e => by simp at e; subst e; exact ⟨_, rfl, h⟩
  | _, _, i + 1, _, .cons _ t, e => by
    obtain ⟨b, h1, h2⟩ := PdsAt.at (i := i) t (by simpa using e)
    exact ⟨b, by simpa using h1, h2⟩
theorem cross_take {a b : List Prd} {i : Nat} {p : Prd} (h : a[i]? = some p) : cross (a.take (i + 1)) b = cross (a.take i) b ++ b.map fun q => p ++ q := by
  unfold cross
  rw [List.take_add_one, h, List.flatMap_append]
  simp
end FA

set_option Elab.async false
set_option linter.all false
set_option maxRecDepth 100000
set_option maxHeartbeats 8000000
namespace K43
open PySem PySem.Spec PyProof.Rows L2 FA
variable {P : Program} {w : World} {K : PySem.W.Frag} {mg : Str → Option Value} {base : Heap}
def spPItem (d : Nat) : Sp := fun vs H Q _ => ∃ (v : V) (it : FA.It) (ns : List Str), vs = [v] ∧ ItAt H v it ∧ okI ns it ∧ nC it ≤ 5 ∧ nI it ≤ 12 ∧ dI it ≤ d ∧ ∀ r H' ws, Same H H' → H r = none → H' r = some (.lst ws) → PdsAt (fr H H') ws (rawI it) → Q (.ref r) H'
def spPBody (d : Nat) : Sp := fun vs H Q _ => ∃ (b : Addr) (l : List FA.It) (ns : List Str), vs = [.ref b] ∧ BdAt H b l ∧ okB ns l ∧ nCB l ≤ 5 ∧ nIB l ≤ 12 ∧ dB l ≤ d ∧ ∀ r H' ws, Same H H' → H r = none → H' r = some (.lst ws) → PdsAt (fr H H') ws (rawB l [[]]) → Q (.ref r) H'
theorem pow12 {n : Nat} (h : n ≤ 12) : 2 ^ n ≤ 4096 := Nat.le_trans (Nat.pow_le_pow_right (by decide) h) (by decide)
theorem raw_cap {n : Nat} (h : n ≤ 20000) : n < sizeLine := by rw [sizeLine_eq]; omega
theorem okPItem (T : Txt K mg) (d : Nat) (hd5 : d ≤ 4) (GProductsOfBody : FnOk P w K mg base CX0 (2 * d + 5) T.aProductsOfBody T.fProductsOfBody ["body"] (spPBody d)) : FnOk P w K mg base CX0 (2 * d + 6) T.aProductsOfItem T.fProductsOfItem ["item"] (spPItem d) := by
  have GNamesIn : FnOk P w K mg base CX0 (d + 2) T.aNamesIn T.fNamesIn ["body"] (spNames d) := okNamesIn T d
  have GBodiesWithin : FnOk P w K mg base CX0 1 T.aBodiesWithin T.fBodiesWithin ["item"] spWithin := okWithin T
  refine T.FProductsOfItem.ok scProductsOfItem (fun vs H Q E h => ?_) (fun cdv A outer s H vs Q E hr h => ?_)
  · obtain ⟨v, it, ns, rfl, _⟩ := h
    rfl
  obtain ⟨v, it, ns, rfl, hit, ok, c5, n12, hd, q⟩ := h
  have hu := hu_of hr
  refine ⟨_, (pss_cons (ps_if (pt_val (pe_callB call_isi (by rfl) T.n_isinstance (by decide +kernel) (pa_cons (pv 0) (pa_cons (pe_bltn (v := .ty "str") (by rfl) T.n_str (by decide +kernel) rfl) pa_nil))))
        (pss_one (ps_ret (pe_lst (pa_cons (pe_lst (pa_cons (pv 0) pa_nil)) pa_nil)))) pss_nil)
      (pss_cons (ps_if (pt_cmpR op_eq (pe_ix ix_tup (pv 0) pe_int (fun _ _ => rfl)) pe_str (nomark _))
        (pss_one (ps_ret (pe_lst (pa_cons (pe_lst (pa_cons (pe_callTy call_tuple_of (by rfl) T.n_tuple (by decide +kernel) (pa_cons (pe_callB (cr_sortedTx rfl) (by rfl) T.n_sorted (by decide +kernel) (pa_cons (pe_callTy (cr_setTx rfl) (by rfl) T.n_set (by decide +kernel) (pa_cons (pe_call GNamesIn (hr.mono (by omega)) rfl T.gNamesIn T.FNamesIn.kp T.bNamesIn .nil pass0 (pa_cons (pe_ix ix_tup (pv 0) pe_int (fun _ _ => rfl)) pa_nil)) pa_nil)) pa_nil)) pa_nil)) pa_nil)) pa_nil)))) pss_nil)
      (pss_one (ps_ret (pe_lc2 (own := [("body", 1), ("product", 2)]) (vs1 := [2]) (g := gName 1) (g1 := gName 2) (tt := tYes) (tt1 := tYes) rfl scProductsOfItem.nd (pi_list (pe_call GBodiesWithin (hr.mono (by omega)) rfl T.gBodiesWithin T.FBodiesWithin.kp T.bBodiesWithin .nil pass0 (pa_cons (pv 0) pa_nil))) (blkOk_by (N := ["item", "body", "product"]) (sc := defScope sProductsOfItem) (by decide +kernel)) (by decide) (fun _ _ _ _ _ => (pg_name (i := 1) scProductsOfItem.nd rfl (by first | exact Or.inl rfl | exact Or.inr rfl))) (fun _ _ _ _ _ => pts_nil) (fun _ _ _ _ _ => (pi_listK (K := K) rfl (pe_call GProductsOfBody (hr.mono (by omega)) rfl T.gProductsOfBody T.FProductsOfBody.kp T.bProductsOfBody .nil pass0 (pa_cons (pv 1) pa_nil)))) (fun _ _ _ _ _ => (pg_name (i := 2) scProductsOfItem.nd rfl (by first | exact Or.inl rfl | exact Or.inr rfl))) (fun _ _ _ _ _ => pts_nil) (fun _ _ _ _ _ => (pv 2))))))), ?_⟩
  have two : ∀ t (ht : ∃ xs, H t = some (.tup xs)), v = .ref t → (∀ x, it ≠ .call x) → (∀ b, it ≠ .loop b) → dBs (bodies it) ≤ d → tLc2 (iList K (tCall spWithin [] E0 (tCons (tVar 0) tNil))) (gName 1) tYes (iList K (tCall (spPBody d) [] E0 (tCons (tVar 1) tNil))) (gName 2) tYes (tVar 2) [1, 2] [2] [some v, none, none] H Q := by
    rintro t ⟨xs, ht⟩ rfl nc nl hdb
    have hraw := rawI_bodies it nc nl
    have okbs := bodies_ok it ok
    have cbs : nCBs (bodies it) ≤ 5 := by rw [nC_bodies nc]; exact c5
    have nbs : nIBs (bodies it) ≤ 12 := by rw [nI_bodies]; exact n12
    refine ⟨_, rfl, t, it, ns, rfl, hit, ok, fun r ws H1 s1 hr1 hbds hne => ?_⟩
    have bds : ∀ Hx, Same H Hx → BdsAt Hx ws (bodies it) := fun Hx sx => (hbds H (Same.refl _) hit).keep (Kp.of sx)
    have bl := (bds H (Same.refl _)).length
    have cap4 : (rawI it).length ≤ 8192 := by
      have := rawI_len it ok
      have : 2 ^ (nI it + 1) ≤ 2 ^ 13 := Nat.pow_le_pow_right (by decide) (by omega)
      omega
    refine ⟨r, rfl, ⟨_, SqL.of hr1⟩, fun D hD => ?_⟩
    have hDn : H D = none := none_back (W := []) (Sm.of_same s1) (fun _ z => by cases z) hD
    refine lc2G (K := K) (A := r) (D := D) (vs := ws) (H1 := H1) (σ := [some (V.ref t), none, none]) (i1 := 1) (i2 := 2) (SqL.of hr1) hD (by decide) (by simp) (by simp)
      (fun i ws2 Hx => ∃ bd, (bodies it)[i]? = some bd ∧ PdsAt (wo [D] (fr H Hx)) ws2 (rawB bd [[]]))
      (fun i acc Hx => PdsAt (wo [D] (fr H Hx)) acc (rawBs ((bodies it).take i)))
      (fun i ws2 j acc Hx => ∃ bd, (bodies it)[i]? = some bd ∧ PdsAt (wo [D] (fr H Hx)) ws2 (rawB bd [[]]) ∧ PdsAt (wo [D] (fr H Hx)) acc (rawBs ((bodies it).take i) ++ (rawB bd [[]]).take j))
      (fun i ws2 j v Hx => ws2[j]? = some v) ?walk ?el (fun i ws2 A B ab ⟨bd, e1, e2⟩ => ⟨bd, e1, e2.keep (kp_woBut ab)⟩) (fun i acc A B ab h => h.keep (kp_woBut ab)) (fun i ws2 j acc A B ab ⟨bd, e1, e2, e3⟩ => ⟨bd, e1, e2.keep (kp_woBut ab), e3.keep (kp_woBut ab)⟩) (fun i ws2 j v A B ab h => h) (fun Hx => by rw [List.take_zero]; simp only [rawBs]; exact .nil) ?start ?step ?stop ?cap ?fin
    case walk =>
      intro i x σ' Hx R hx sx ⟨accD, hDx⟩ eσ kk
      obtain ⟨bb, bd, rfl, q1, q2⟩ := (bds Hx (s1.trans sx)).get hx
      have hmb : bd ∈ bodies it := List.mem_of_getElem? q1
      have m1 := nCBs_mem hmb
      have m2 := nIBs_mem hmb
      have m3 := dBs_mem hmb
      subst eσ
      refine ⟨_, rfl, bb, bd, ns, rfl, q2, okBs_all.mp okbs bd hmb, by omega, by omega, by omega, fun r2 H2 ws2 s2 hr2n hr2 hp2 => ?_⟩
      refine ⟨r2, rfl, ⟨_, SqL.of hr2⟩, kk r2 ws2 H2 s2 hr2 ?_ ⟨bd, q1, hp2.keep (kp_woNew hDx (s1.trans sx))⟩⟩
      rintro rfl
      rw [hDx] at hr2n
      cases hr2n
    case el =>
      intro i x ws2 j y σ' Hx R hx hy sx _ wk h1 h2 kk
      exact ⟨y, h2, kk y Hx (Same.refl _) hy⟩
    case start =>
      rintro i x ws2 acc Hx hx ⟨bd, e1, e2⟩ ha
      exact ⟨bd, e1, e2, by rw [List.take_zero, List.append_nil]; exact ha⟩
    case step =>
      rintro i ws2 j y v acc Hx hy ⟨bd, e1, e2, e3⟩ hv
      obtain ⟨b, p, rfl, g1, g2⟩ := e2.get hv
      refine ⟨bd, e1, e2, ?_⟩
      rw [List.take_add_one, g1, ← List.append_assoc]
      exact e3.app (.cons g2 .nil)
    case stop =>
      rintro i ws2 acc Hx hi ⟨bd, e1, e2⟩ ⟨bd', e1', _, e3⟩
      rw [e1] at e1'
      cases e1'
      rw [e2.length, List.take_length] at e3
      rw [rawBs_take e1]
      exact e3
    case cap =>
      rintro i ws2 j acc Hx hi ⟨bd, e1, e2⟩ hj ⟨bd', e1', _, e3⟩
      rw [e1] at e1'
      cases e1'
      have l3 := e3.length
      have l2 := rawBs_pre (bodies it) (i + 1)
      rw [rawBs_take e1, List.length_append, ← hraw] at l2
      rw [List.length_append, List.length_take] at l3
      exact raw_cap (by omega)
    case fin =>
      intro Hx acc sx hDx hacc
      rw [bl, List.take_length, ← hraw] at hacc
      exact q D Hx acc (s1.trans sx) hDn hDx (hacc.keep kp_woOut)
  cases hit with
  | call x =>
    refine ⟨_, rfl, _, _, _, _, true, rfl, .ty _, ty_str x, kit_ty (by decide +kernel), _, rfl, iteT ?_⟩
    refine ⟨_, rfl, Nat.le_of_lt (small1000 (by simp)), fun p1 hp1 => ?_⟩
    have s1 := same_upd0 hp1 (.lst [V.str x])
    have e1 : (upd H p1 (.lst [V.str x])) p1 = some (.lst [V.str x]) := upd_same
    generalize upd H p1 (.lst [V.str x]) = H1 at s1 e1 ⊢
    refine ⟨Nat.le_of_lt (small1000 (by simp)), fun p2 hp2 => ?_⟩
    have s2 := same_upd0 hp2 (.lst [V.ref p1])
    refine q p2 _ _ (s1.trans s2) (none_back (W := []) (Sm.of_same s1) (fun _ z => by cases z) hp2) upd_same ?_
    simp only [rawI]
    exact .cons ⟨_, fr_some.mpr ⟨hp1, s2 _ _ e1⟩, .cons (.n x) .nil⟩ .nil
  | @may t b' ws l' h1 h2 h3 =>
    simp only [dI] at hd
    refine ⟨_, rfl, _, _, _, _, false, rfl, .ty _, ty_tup h1, kit_ty (by decide +kernel), _, rfl, iteF ?_⟩
    refine ⟨_, rfl, _, _, _, _, rfl, rfl, SqT.of h1, at_of (j := 0) rfl rfl, rfl, _, rfl, ite2 (fun c => absurd (of_decide_eq_true c) (by decide)) (fun _ => ?_)⟩
    exact two t ⟨_, h1⟩ rfl (fun x z => by cases z) (fun b z => by cases z) (by simp only [bodies, dBs]; omega)
  | @loop t b' ws l' h1 h2 h3 =>
    simp only [okI] at ok
    simp only [nC] at c5
    simp only [nI] at n12
    simp only [dI] at hd
    refine ⟨_, rfl, _, _, _, _, false, rfl, .ty _, ty_tup h1, kit_ty (by decide +kernel), _, rfl, iteF ?_⟩
    refine ⟨_, rfl, _, _, _, _, rfl, rfl, SqT.of h1, at_of (j := 0) rfl rfl, rfl, _, rfl, ite2 (fun _ => ?_) (fun c => absurd (decide_eq_true rfl) c)⟩
    refine ⟨_, rfl, _, _, _, _, rfl, rfl, SqT.of h1, at_of (j := 1) rfl rfl, b', l', ns, rfl, ⟨_, h2, h3⟩, ok.2, by omega, by omega, by omega, fun r H2 s2 hrn hr2 => ?_⟩
    have en := nmB_len l'
    refine ⟨r, nmB l', rfl, SqL.of hr2, by omega, fun c hc => ?_⟩
    have ml := met_len (nmB l') []
    simp only [List.length_nil] at ml
    refine ⟨c, met [] (nmB l'), rfl, upd_same, by omega, fun ys p2 hp hsrt hp2 => ?_⟩
    have s3 := same_upd hc (TxO P w c (met [] (nmB l')))
    have s4 := same_upd hp2 (.lst (ys.map V.str))
    have s04 := s2.trans (s3.trans s4)
    have et : Tells ys (nmB l') := tells_met hp hsrt
    refine ⟨p2, _, rfl, .inl ⟨SqL.of upd_same, fun t2 ht2 => ?_⟩⟩
    have s5 := s04.trans (same_upd0 ht2 (.tup (ys.map V.str)))
    have s5' := same_upd0 ht2 (.tup (ys.map V.str))
    have ht2n : H t2 = none := none_back (W := []) (Sm.of_same s04) (fun _ z => by cases z) ht2
    refine ⟨Nat.le_of_lt (small1000 (by simp)), fun p5 hp5 => ?_⟩
    have s6 := same_upd0 hp5 (.lst [V.ref t2])
    have hp5n : H p5 = none := none_back (W := []) (Sm.of_same s5) (fun _ z => by cases z) hp5
    have e5 : ∀ G : Hp, Same (upd (upd (upd H2 c (TxO P w c (met [] (nmB l')))) p2 (.lst (ys.map V.str))) t2 (.tup (ys.map V.str))) G → G t2 = some (.tup (ys.map V.str)) := fun G sG => sG _ _ upd_same
    refine ⟨Nat.le_of_lt (small1000 (by simp)), fun p6 hp6 => ?_⟩
    have s7 := same_upd0 hp6 (.lst [V.ref p5])
    refine q p6 _ _ (s5.trans (s6.trans s7)) (none_back (W := []) (Sm.of_same (s5.trans s6)) (fun _ z => by cases z) hp6) upd_same ?_
    simp only [rawI]
    rw [asc_of et]
    exact .cons ⟨_, fr_some.mpr ⟨hp5n, s7 _ _ upd_same⟩, .cons (.t (fr_some.mpr ⟨ht2n, e5 _ (s6.trans s7)⟩)) .nil⟩ .nil
  | @one t b' ws bs h1 h2 h3 =>
    simp only [dI] at hd
    refine ⟨_, rfl, _, _, _, _, false, rfl, .ty _, ty_tup h1, kit_ty (by decide +kernel), _, rfl, iteF ?_⟩
    refine ⟨_, rfl, _, _, _, _, rfl, rfl, SqT.of h1, at_of (j := 0) rfl rfl, rfl, _, rfl, ite2 (fun c => absurd (of_decide_eq_true c) (by decide)) (fun _ => ?_)⟩
    exact two t ⟨_, h1⟩ rfl (fun x z => by cases z) (fun b z => by cases z) (by simp only [bodies]; omega)
end K43


set_option Elab.async false
set_option linter.all false
set_option maxRecDepth 100000
set_option maxHeartbeats 8000000
namespace K43
open PySem PySem.Spec PyProof.Rows L2 FA
variable {P : Program} {w : World} {K : PySem.W.Frag} {mg : Str → Option Value} {base : Heap}
theorem okPBody (T : Txt K mg) (d : Nat) (hd5 : d ≤ 4) (GProductsOfItem : FnOk P w K mg base CX0 (2 * d + 4) T.aProductsOfItem T.fProductsOfItem ["item"] (spPItem (d - 1))) : FnOk P w K mg base CX0 (2 * d + 5) T.aProductsOfBody T.fProductsOfBody ["body"] (spPBody d) := by
  refine T.FProductsOfBody.ok scProductsOfBody (fun vs H Q E h => ?_) (fun cdv A outer s H vs Q E hr h => ?_)
  · obtain ⟨b, l, ns, rfl, _⟩ := h
    rfl
  obtain ⟨b, l, ns, rfl, hbd, ok, c5, n12, hd, q⟩ := h
  have hu := hu_of hr
  refine ⟨_, (pss_cons (ps_set (i := 1) scProductsOfBody.nd rfl (by first | exact Or.inl rfl | exact Or.inr rfl) (pe_lst (pa_cons (pe_lst pa_nil) pa_nil)))
      (pss_cons (ps_for PassesOwn.never rfl (pi_list (pv 0)) (pg_name (i := 2) scProductsOfBody.nd rfl (by first | exact Or.inl rfl | exact Or.inr rfl))
        (pss_cons (ps_set (i := 3) scProductsOfBody.nd rfl (by first | exact Or.inl rfl | exact Or.inr rfl) (pe_call GProductsOfItem (hr.mono (by omega)) rfl T.gProductsOfItem T.FProductsOfItem.kp T.bProductsOfItem .nil pass0 (pa_cons (pv 2) pa_nil)))
        (pss_one (ps_setLc2 (i := 1) (own := [("product", 4), ("more", 5)]) (vs1 := [5]) (g := gName 4) (g1 := gName 5) (tt := tYes) (tt1 := tYes) rfl scProductsOfBody.nd rfl rfl (sw_true rfl rfl rfl (by decide +kernel)) (pi_list (pv 1)) (blkOk_by (N := ["body", "found", "item", "behind", "product", "more"]) (sc := defScope sProductsOfBody) (by decide +kernel)) (by decide) (fun _ _ _ _ _ => (pg_name (i := 4) scProductsOfBody.nd rfl (by first | exact Or.inl rfl | exact Or.inr rfl))) (fun _ _ _ _ _ => pts_nil) (fun _ _ _ _ _ => (pi_listK (K := K) rfl (pv 3))) (fun _ _ _ _ _ => (pg_name (i := 5) scProductsOfBody.nd rfl (by first | exact Or.inl rfl | exact Or.inr rfl))) (fun _ _ _ _ _ => pts_nil) (fun _ _ _ _ _ => (pe_op op_cat (pv 4) (pv 5)))))))
      (pss_one (ps_ret (pv 1))))), ?_⟩
  obtain ⟨vs, hb, hits⟩ := hbd
  have hl := hits.length
  have capB : ∀ i, (rawB (l.take i) [[]]).length ≤ 4096 := fun i => by
    have e1 := rawB_len (l.take i) [[]] (okB_take i ok)
    rw [List.length_singleton, Nat.one_mul] at e1
    exact Nat.le_trans e1 (pow12 (Nat.le_trans (nIB_take l i) n12))
  have okP : ∀ i, ∀ p ∈ rawB (l.take i) [[]], p.length ≤ 5 := fun i p hp => by
    have := (rawB_ok (l.take i) [[]] 0 (okB_take i ok) (Nat.le_trans (nCB_take l i) c5) (fun p hp => by rw [List.mem_singleton.mp hp]; exact .nil) p hp).1
    have := nCB_take l i
    omega
  refine ⟨Nat.zero_le _, fun p1 h1 => ?_⟩
  have s1 := same_upd h1 (.lst [])
  have g1 : (upd H p1 (.lst [])) p1 = some (.lst []) := upd_same
  generalize upd H p1 (.lst []) = H1 at s1 g1 ⊢
  refine ⟨Nat.le_of_lt (small1000 (by simp)), fun p2 h2 => ?_⟩
  have s2 := same_upd h2 (.lst [.ref p1])
  have g2 : (upd H1 p2 (.lst [.ref p1])) p2 = some (.lst [.ref p1]) := upd_same
  generalize upd H1 p2 (.lst [.ref p1]) = H2 at s2 g2 ⊢
  have p2n : H p2 = none := none_back (W := []) (Sm.of_same s1) (fun _ z => by cases z) h2
  refine ⟨_, rfl, b, rfl, ⟨_, SqL.of ((s1.trans s2) _ _ hb)⟩, for_list (K := K) (a := b) (xs := vs) (fun i σ H' => ∃ (f : Addr) (ws : List V) (v2 v3 : Option V), σ = [some (.ref b), some (.ref f), v2, v3, none, none] ∧ Same H H' ∧ H f = none ∧ H' f = some (.lst ws) ∧ PdsAt (fr H H') ws (rawB (l.take i) [[]])) ⟨p2, _, none, none, rfl, s1.trans s2, p2n, g2, by rw [List.take_zero]; simp only [rawB]; exact .cons ⟨_, fr_some.mpr ⟨h1, s2 _ _ g1⟩, .nil⟩ .nil⟩ ?_ ?_ ?_⟩
  · rintro i σ H' _ ⟨_, _, _, _, _, sm, _⟩
    exact SqL.of (sm _ _ hb)
  · rintro i y σ H3 hi ⟨f, wf, v2, v3, rfl, sm, fn, hf, hp⟩
    obtain ⟨it, e1, e2⟩ := hits.get hi
    have hm : it ∈ l := List.mem_of_getElem? e1
    have m1 := nCB_mem hm
    have m2 := nIB_mem hm
    have m3 := dB_mem hm
    refine ⟨_, rfl, y, it, ns, rfl, e2.keep (Kp.of sm), okB_all.mp ok it hm, by omega, by omega, by omega, fun rb H4 wb s4 rbn hrb hpb => ?_⟩
    refine ⟨_, rfl, _, rfl, ⟨_, SqL.of (s4 _ _ hf)⟩, fun D hD => ?_⟩
    have sm4 := sm.trans s4
    have hDn : H D = none := none_back (W := []) (Sm.of_same sm4) (fun _ z => by cases z) hD
    have hpF : PdsAt (fr H H4) wf (rawB (l.take i) [[]]) := hp.keep (kp_fr_same s4)
    have hpR : PdsAt (fr H H4) wb (rawI it) := hpb.keep (kp_fr_back sm)
    have nBD : rb ≠ D := by rintro rfl; rw [hD] at hrb; cases hrb
    refine lc2G (K := K) (A := f) (D := D) (vs := wf) (H1 := H4) (σ := [some (V.ref b), some (.ref f), some y, some (.ref rb), none, none]) (i1 := 4) (i2 := 5) (SqL.of (s4 _ _ hf)) hD (by decide) (by simp) (by simp)
      (fun i ws2 Hx => ws2 = wb)
      (fun k acc Hx => PdsAt (wo [D] (fr H Hx)) acc (cross ((rawB (l.take i) [[]]).take k) (rawI it)))
      (fun k ws2 j acc Hx => ws2 = wb ∧ ∃ p, (rawB (l.take i) [[]])[k]? = some p ∧ PdsAt (wo [D] (fr H Hx)) acc (cross ((rawB (l.take i) [[]]).take k) (rawI it) ++ ((rawI it).take j).map (fun q => p ++ q)))
      (fun k ws2 j v Hx => ∃ p q bq, (rawB (l.take i) [[]])[k]? = some p ∧ (rawI it)[j]? = some q ∧ v = .ref bq ∧ PdAt (wo [D] (fr H Hx)) bq (p ++ q)) ?walk ?el (fun k ws2 A B ab h => h) (fun k acc A B ab h => h.keep (kp_woBut ab)) (fun k ws2 j acc A B ab ⟨e0, p, e1, e2⟩ => ⟨e0, p, e1, e2.keep (kp_woBut ab)⟩) (fun k ws2 j v A B ab ⟨p, q, bq, e1, e2, e3, e4⟩ => ⟨p, q, bq, e1, e2, e3, e4.keep (kp_woBut ab)⟩) (fun Hx => by rw [List.take_zero]; exact .nil) ?start ?step ?stop ?cap ?fin
    case walk =>
      intro k x σ' Hx R hx sx ⟨accD, hDx⟩ eσ kk
      subst eσ
      exact ⟨_, rfl, rb, rfl, ⟨_, SqL.of (sx _ _ hrb)⟩, kk rb wb Hx (Same.refl _) (sx _ _ hrb) nBD rfl⟩
    case el =>
      intro k x ws2 j y2 σ' Hx R hx hy sx ⟨accD, hDx⟩ wk g1 g2 kk
      subst wk
      obtain ⟨bp, p, rfl, q1, vp, q2, q3⟩ := hpF.get hx
      obtain ⟨bq, q, rfl, q4, vq, q5, q6⟩ := hpR.get hy
      have lp := q3.length
      have lq := q6.length
      have lp5 := okP i p (List.mem_of_getElem? q1)
      have lq5 := (rawI_ok it (okB_all.mp ok it hm) (by omega) q (List.mem_of_getElem? q4)).1
      refine ⟨_, g1, _, g2, bp, bq, vp, vq, rfl, rfl, sx _ _ (fr_some.mp q2).2, sx _ _ (fr_some.mp q5).2, Nat.le_of_lt (small1000 (by omega)), fun c hc => kk _ _ (same_upd0 hc _) ⟨p, q, c, q1, q4, rfl, vp ++ vq, ?_, ?_⟩⟩
      · refine wo_some.mpr ⟨?_, fr_some.mpr ⟨none_back (W := []) (Sm.of_same (sm4.trans sx)) (fun _ z => by cases z) hc, upd_same⟩⟩
        simp only [List.mem_singleton]
        rintro rfl
        rw [hDx] at hc
        cases hc
      · have kp : Kp (fr H H4) (wo [D] (fr H (upd Hx c (.lst (vp ++ vq))))) := kp_woIn hD (sx.trans (same_upd0 hc _))
        exact (q3.keep kp).app (q6.keep kp)
    case start =>
      rintro k x ws2 acc Hx hx rfl ha
      obtain ⟨bp, p, rfl, q1, _⟩ := hpF.get hx
      exact ⟨rfl, p, q1, by rw [List.take_zero, List.map_nil, List.append_nil]; exact ha⟩
    case step =>
      rintro k ws2 j y2 v acc Hx hy ⟨e0, p, e1, e2⟩ ⟨p', q, bq, e3, e4, rfl, e5⟩
      rw [e1] at e3
      cases e3
      refine ⟨e0, p, e1, ?_⟩
      rw [List.take_add_one, e4, List.map_append, ← List.append_assoc]
      exact e2.app (.cons e5 .nil)
    case stop =>
      rintro k ws2 acc Hx hi rfl ⟨_, p, e1, e2⟩
      rw [hpR.length, List.take_length] at e2
      rw [cross_take e1]
      exact e2
    case cap =>
      rintro k ws2 j acc Hx hk rfl hj ⟨_, p, ep, e2⟩
      have l1 := e2.length
      have l3 := capB i
      have l5 := hpR.length
      rw [List.length_append, cross_len, List.length_map, List.length_take, List.length_take] at l1
      refine raw_cap ?_
      have l6 := capB (i + 1)
      rw [rawB_take e1, cross_len] at l6
      have l7 := hpF.length
      have l8 : (k + 1) * (rawI it).length ≤ (rawB (l.take i) [[]]).length * (rawI it).length := Nat.mul_le_mul_right _ (by omega)
      rw [Nat.succ_mul] at l8
      rw [Nat.min_eq_left (by omega : k ≤ (rawB (l.take i) [[]]).length)] at l1
      omega
    case fin =>
      intro Hx acc sx hDx hacc
      rw [hpF.length, List.take_length, ← rawB_take e1] at hacc
      exact ⟨D, acc, _, _, rfl, sm4.trans sx, hDn, hDx, hacc.keep kp_woOut⟩
  · rintro σ H3 ⟨f, wf, v2, v3, rfl, sm, fn, hf, hp⟩
    rw [List.take_of_length_le (by omega)] at hp
    exact ⟨_, rfl, q f H3 wf sm fn hf hp⟩
end K43


set_option Elab.async false
set_option linter.all false
set_option maxRecDepth 100000
set_option maxHeartbeats 4000000
/-! Dicts from texts to lists; a list comprehension with a test, in general; heaps with new lists only. -/
namespace FA
open PySem PySem.Spec PyProof.Rows L2
section
variable {X : Cx}
/-- a statement over a dict that is walked: it is locked, or it is already -/
theorem ps_lock2 {st : Stmt} {t : TS} (h : PS X st t) : PS X st (fun D σ H => tLock t D σ H ∨ t D σ H) := ⟨fun pins s σ H D I hq => by
  rcases hq with hq | hq
  · exact (ps_lock h).run pins s σ H D I hq
  · exact h.run pins s σ H D I hq⟩
end
theorem Kp.trans {A B C : Hp} (h : Kp A B) (k : Kp B C) : Kp A C := ⟨fun _ _ e => k.l _ _ (h.l _ _ e), fun _ _ e => k.t _ _ (h.t _ _ e)⟩
/-- what is told of a heap by lists that are new and by all tuples -/
def frl (H H' : Hp) : Hp := fun b => match H' b with
  | some (.tup xs) => some (.tup xs)
  | o => match H b with
    | none => o
    | some _ => none
section
variable {H H1 H2 : Hp}
theorem frl_t {b : Addr} {xs : List V} : frl H H1 b = some (.tup xs) ↔ H1 b = some (.tup xs) := by
  unfold frl
  cases e : H1 b with
  | none => cases H b <;> simp
  | some o =>
    cases o with
    | tup ys => simp
    | _ => cases H b <;> simp
theorem frl_l {b : Addr} {xs : List V} : frl H H1 b = some (.lst xs) ↔ H b = none ∧ H1 b = some (.lst xs) := by
  unfold frl
  cases e : H1 b with
  | none => cases H b <;> simp
  | some o =>
    cases o with
    | tup ys => simp
    | _ => cases H b <;> simp
theorem kp_frl_same (s : Same H1 H2) : Kp (frl H H1) (frl H H2) :=
  ⟨fun _ _ e => frl_l.mpr ⟨(frl_l.mp e).1, s _ _ (frl_l.mp e).2⟩, fun _ _ e => frl_t.mpr (s _ _ (frl_t.mp e))⟩
theorem kp_frl_back (s : Same H H1) : Kp (frl H1 H2) (frl H H2) :=
  ⟨fun b _ e => frl_l.mpr ⟨none_back (W := []) (Sm.of_same s) (fun _ z => by cases z) (frl_l.mp e).1, (frl_l.mp e).2⟩, fun _ _ e => frl_t.mpr (frl_t.mp e)⟩
theorem kp_frl : Kp (frl H H1) H1 := ⟨fun _ _ e => (frl_l.mp e).2, fun _ _ e => frl_t.mp e⟩
theorem kp_frl_of : Kp (fr H H1) (frl H H1) := ⟨fun _ _ e => frl_l.mpr (fr_some.mp e), fun _ _ e => frl_t.mpr (fr_some.mp e).2⟩
/-- all but some addresses are kept -/
theorem kp_frl_wo {W : List Addr} (h : ∀ b o, b ∉ W → H1 b = some o → H2 b = some o) : Kp (wo W (frl H H1)) (wo W (frl H H2)) :=
  ⟨fun b _ e => wo_some.mpr ⟨(wo_some.mp e).1, frl_l.mpr ⟨(frl_l.mp (wo_some.mp e).2).1, h _ _ (wo_some.mp e).1 (frl_l.mp (wo_some.mp e).2).2⟩⟩,
   fun b _ e => wo_some.mpr ⟨(wo_some.mp e).1, frl_t.mpr (h _ _ (wo_some.mp e).1 (frl_t.mp (wo_some.mp e).2))⟩⟩
theorem kp_frl_new (h : ∀ b o, H b = none → H1 b = some o → H2 b = some o) (ht : ∀ b xs, H1 b = some (.tup xs) → H2 b = some (.tup xs)) : Kp (frl H H1) (frl H H2) :=
  ⟨fun _ _ e => frl_l.mpr ⟨(frl_l.mp e).1, h _ _ (frl_l.mp e).1 (frl_l.mp e).2⟩, fun _ _ e => frl_t.mpr (ht _ _ (frl_t.mp e))⟩
theorem kp_frl_upd {d : Addr} {u o : HO} (hd : H d = some u) (h1 : ∀ xs, H1 d ≠ some (.tup xs)) : Kp (frl H H1) (frl H (upd H1 d o)) :=
  kp_frl_new (fun b o' e e1 => by rw [upd_ne (by rintro rfl; rw [hd] at e; cases e)]; exact e1) (fun b xs e => by rw [upd_ne (by rintro rfl; exact h1 xs e)]; exact e)
theorem kp_frl_dk {d : Addr} {kvs : List (Key × V)} {o : HO} (h1 : H1 d = some (.dK kvs)) : Kp (frl H H1) (frl H (upd H1 d o)) :=
  ⟨fun b xs e => frl_l.mpr ⟨(frl_l.mp e).1, by rw [upd_ne (by rintro rfl; have := (frl_l.mp e).2; rw [h1] at this; cases this)]; exact (frl_l.mp e).2⟩,
   fun b xs e => frl_t.mpr (by rw [upd_ne (by rintro rfl; have := frl_t.mp e; rw [h1] at this; cases this)]; exact frl_t.mp e)⟩
theorem kp_wo_any {W : List Addr} {A : Hp} : Kp (wo W A) A := ⟨fun _ _ e => (wo_some.mp e).2, fun _ _ e => (wo_some.mp e).2⟩
/-- fewer addresses are left out, those that hold neither list nor tuple -/
theorem kp_wo_in {W : List Addr} {A : Hp} (h : ∀ a ∈ W, ∀ xs, A a ≠ some (.lst xs) ∧ A a ≠ some (.tup xs)) : Kp A (wo W A) :=
  ⟨fun b xs e => wo_some.mpr ⟨fun hb => (h b hb xs).1 e, e⟩, fun b xs e => wo_some.mpr ⟨fun hb => (h b hb xs).2 e, e⟩⟩
end
theorem AtAt.keepT {H H' : Hp} (k : ∀ a xs, H a = some (.tup xs) → H' a = some (.tup xs)) {v : V} {a : Atm} (h : AtAt H v a) : AtAt H' v a := by
  cases h with
  | n x => exact .n x
  | t h => exact .t (k _ _ h)
theorem AtsAt.keepT {H H' : Hp} (k : ∀ a xs, H a = some (.tup xs) → H' a = some (.tup xs)) : ∀ {vs : List V} {p : Prd}, AtsAt H vs p → AtsAt H' vs p
  | _, _, .nil => .nil
  | _, _, .cons h t => .cons (h.keepT k) (t.keepT k)
/-! ### a dict from texts to lists -/
def txD (ks : List Str) (f : Str → Addr) : List (Key × V) := ks.map fun y => (.inr y, .ref (f y))
def setA (f : Str → Addr) (x : Str) (c : Addr) : Str → Addr := fun y => if y = x then c else f y
theorem txD_keys (ks : List Str) (f : Str → Addr) : (txD ks f).map (·.1) = ks.map Sum.inr := by
  unfold txD
  rw [List.map_map]
  rfl
theorem txD_len (ks : List Str) (f : Str → Addr) : (txD ks f).length = ks.length := by unfold txD; rw [List.length_map]
theorem txD_in {x : Str} (f : Str → Addr) : ∀ {ks : List Str}, x ∈ ks → valV (txD ks f) (.inr x) = some (.ref (f x))
  | [], h => by cases h
  | y :: r, h => by
    by_cases e : y = x
    · subst e
      simp [txD, valV]
    · have e2 : ¬ (Sum.inr y : Key) = Sum.inr x := fun z => e (Sum.inr.inj z)
      have ih := txD_in f (ks := r) ((List.mem_cons.mp h).resolve_left fun z => e z.symm)
      unfold valV at ih ⊢
      unfold txD at ih ⊢
      rw [List.map_cons, List.find?_cons_of_neg (by simpa using e2)]
      exact ih
theorem txD_out {x : Str} (f : Str → Addr) {ks : List Str} (h : x ∉ ks) : valV (txD ks f) (.inr x) = none :=
  valV_out fun q hq e => by
    obtain ⟨y, hy, rfl⟩ := List.mem_map.mp hq
    exact h (Sum.inr.inj e ▸ hy)
theorem txD_put {x : Str} {c : Addr} (f : Str → Addr) {ks : List Str} : putK (txD ks f) (.inr x) (.ref c) = txD (if x ∈ ks then ks else ks ++ [x]) (setA f x c) := by
  by_cases h : x ∈ ks
  · rw [if_pos h]
    have hk : (txD ks f).any (fun kv => decide (kv.fst = Sum.inr x)) = true := List.any_eq_true.mpr ⟨(Sum.inr x, V.ref (f x)), List.mem_map.mpr ⟨x, h, rfl⟩, decide_eq_true rfl⟩
    unfold putK
    rw [if_pos hk]
    unfold txD
    rw [List.map_map]
    refine List.map_congr_left fun y _ => ?_
    show (if (Sum.inr y : Key) = Sum.inr x then ((Sum.inr y : Key), V.ref c) else ((Sum.inr y : Key), V.ref (f y))) = ((Sum.inr y : Key), V.ref (setA f x c y))
    by_cases e : y = x
    · subst e
      simp [setA]
    · rw [if_neg fun z => e (Sum.inr.inj z)]
      simp [setA, e]
  · rw [if_neg h, putK_new _ (txD_out f h)]
    unfold txD
    rw [List.map_append]
    congr 1
    · refine List.map_congr_left fun y hy => ?_
      have : y ≠ x := by rintro rfl; exact h hy
      simp [setA, this]
    · simp [setA]
theorem putK_snoc {kvs : List (Key × V)} {k : Key} {v v' : V} (h : ∀ q ∈ kvs, q.1 ≠ k) : putK (kvs ++ [(k, v)]) k v' = kvs ++ [(k, v')] := by
  have hk : (kvs ++ [(k, v)]).any (fun kv => decide (kv.fst = k)) = true := List.any_eq_true.mpr ⟨(k, v), by simp, decide_eq_true rfl⟩
  unfold putK
  rw [if_pos hk, List.map_append]
  congr 1
  · conv => rhs; rw [← List.map_id kvs]
    refine List.map_congr_left fun q hq => ?_
    rw [if_neg (h q hq)]
    rfl
  · simp
/-! ### a list comprehension with a test -/
theorem lcT {J : L2.It} {n : Nat} {g : TG} {tt : TT} {te : TE} {vs : List Nat} {σ : L2.St} {H1 : Hp} {D : Addr} {Qd : Hp → Prop} (hD : H1 D = none) (hn : n < sizeLine) (Y : Nat → V → Prop) (val : Nat → Option V)
    (go : ∀ i H, Same H1 H → i < n → J.go i H) (stop : ∀ H, Same H1 H → J.stop n H) (yld : ∀ i H x H', Same H1 H → i < n → J.yld i H x H' → H' = H ∧ Y i x)
    (step : ∀ i x H (body : Bool → L2.St → Hp → Prop), i < n → Y i x → Same H1 H → (∀ σ2 H2, Same H H2 → (val i = none → body false σ2 H2) ∧ ∀ q : V, val i = some q → (∀ Q : VK, Q q H2 → te σ2 H2 Q) → body true σ2 H2) → g x (wipe σ vs) H fun σ2 H2 => wipe σ2 vs = wipe σ vs ∧ tt σ2 H2 fun b H3 => body b σ2 H3)
    (fin : ∀ H, Same H1 H → H D = some (.lst ((List.range n).filterMap val)) → Qd H) :
    ∃ W : Nat → Nat → Hp → Prop, (∃ m, W 0 m (upd H1 D (.lst []))) ∧ ∀ i m H, W i m H →
      (J.stop i H ∧ Qd H) ∨ (J.go i H ∧ ∃ Nx : Hp → Prop, (∀ H', Nx H' → ∃ m', m' < m ∧ W (i + 1) m' H') ∧ ∀ x H', J.yld i H x H' → g x (wipe σ vs) H' fun σ2 H2 => wipe σ2 vs = wipe σ vs ∧ tt σ2 H2 fun b H3 =>
        if b = true then te σ2 H3 fun y H4 => ∃ acc, H4 D = some (.lst acc) ∧ acc.length < sizeLine ∧ Nx (upd H4 D (.lst (acc ++ [y]))) else Nx H3) := by
  have succ : ∀ i, (List.range (i + 1)).filterMap val = (List.range i).filterMap val ++ (val i).toList := fun i => by
    rw [List.range_succ, List.filterMap_append]
    cases h : val i <;> simp [h]
  refine ⟨fun i m H => i ≤ n ∧ m = n - i ∧ Same H1 H ∧ H D = some (.lst ((List.range i).filterMap val)), ⟨_, Nat.zero_le _, rfl, fun b o e => by rw [upd_ne (ne_of_none e hD)]; exact e, upd_same⟩, ?_⟩
  rintro i m H ⟨hi, rfl, sm, hd⟩
  by_cases hlt : i < n
  · refine .inr ⟨go i H sm hlt, fun H' => i + 1 ≤ n ∧ Same H1 H' ∧ H' D = some (.lst ((List.range (i + 1)).filterMap val)), fun H' h => ⟨n - (i + 1), by omega, h.1, rfl, h.2⟩, fun x H' y => ?_⟩
    obtain ⟨rfl, hY⟩ := yld i H x H' sm hlt y
    refine step i x H' (fun b σ2 H3 => if b = true then te σ2 H3 fun y H4 => ∃ acc, H4 D = some (.lst acc) ∧ acc.length < sizeLine ∧ (i + 1 ≤ n ∧ Same H1 (upd H4 D (.lst (acc ++ [y]))) ∧ (upd H4 D (.lst (acc ++ [y]))) D = some (.lst ((List.range (i + 1)).filterMap val))) else (i + 1 ≤ n ∧ Same H1 H3 ∧ H3 D = some (.lst ((List.range (i + 1)).filterMap val)))) hlt hY sm fun σ2 H2 s2 => ⟨fun hv => ?_, fun q hv he => ?_⟩
    · rw [if_neg (by decide)]
      refine ⟨hlt, sm.trans s2, ?_⟩
      rw [succ, hv]
      simp only [Option.toList_none, List.append_nil]
      exact s2 _ _ hd
    · rw [if_pos rfl]
      have pl := List.length_filterMap_le val (List.range i)
      rw [List.length_range] at pl
      refine he _ ⟨_, s2 _ _ hd, by omega, hlt, fun b o e => ?_, ?_⟩
      · rw [upd_ne (ne_of_none e hD)]; exact s2 _ _ (sm _ _ e)
      · rw [upd_same, succ, hv]
        rfl
  · have : i = n := by omega
    subst this
    exact .inl ⟨stop H sm, fin H sm hd⟩
/-- a list comprehension with a test, by the items -/
def valT {α : Type} (l : List α) (c : α → Bool) (f : α → V) (i : Nat) : Option V := (l[i]?).bind fun x => if c x = true then some (f x) else none
theorem range_fm {α : Type} (l : List α) (c : α → Bool) (f : α → V) : (List.range l.length).filterMap (valT l c f) = (l.filter c).map f := by
  induction l with
  | nil => rfl
  | cons a r ih =>
    rw [List.length_cons, List.range_succ_eq_map, List.filterMap_cons, List.filterMap_map]
    have e : (valT (a :: r) c f ∘ Nat.succ) = valT r c f := by
      funext i
      simp [Function.comp, valT]
    rw [e, ih]
    by_cases h : c a
    · simp [h, valT]
    · simp [h, valT]
/-! ### the last product with a text -/
theorem byText_snoc (ss : List Prd) (s : Prd) (x : Str) : byText (ss ++ [s]) x = if prdText s = x then s else byText ss x := by
  unfold byText
  rw [List.reverse_append, List.reverse_singleton, List.singleton_append, List.find?_cons]
  by_cases h : prdText s = x
  · simp [h]
  · simp [h]
theorem nd_take {ys : List Str} {i : Nat} {x : Str} (nd : ys.Nodup) (h : ys[i]? = some x) : x ∉ ys.take i := by
  obtain ⟨hi, e⟩ := List.getElem?_eq_some_iff.mp h
  have hd : ys.drop i = x :: ys.drop (i + 1) := by rw [← e]; exact List.drop_eq_getElem_cons hi
  rw [← List.take_append_drop i ys, hd] at nd
  exact fun hx => (List.nodup_append.mp nd).2.2 x hx x (by simp) rfl
/-! ### what a normal form holds -/
theorem normal_sub {raw : List Prd} {q : Prd} (h : q ∈ normal raw) : ∃ p ∈ raw, q = idle p := by
  unfold normal at h
  obtain ⟨x, hx, rfl⟩ := List.mem_map.mp h
  have hx2 := ((asc_tells _).mem x).mp (List.mem_filter.mp hx).1
  obtain ⟨s, hs, hx3⟩ := List.mem_map.mp hx2
  have : byText (raw.map idle) x ∈ raw.map idle := by
    unfold byText
    cases e : (raw.map idle).reverse.find? (fun p => decide (prdText p = x)) with
    | none =>
      have := List.find?_eq_none.mp e s (List.mem_reverse.mpr hs)
      simp [hx3] at this
    | some p => exact List.mem_reverse.mp (List.mem_of_find?_eq_some e)
  obtain ⟨p, hp, e⟩ := List.mem_map.mp this
  exact ⟨p, hp, e.symm⟩
theorem normal_len (raw : List Prd) : (normal raw).length ≤ raw.length := by
  unfold normal
  rw [List.length_map]
  refine Nat.le_trans (List.length_filter_le _ _) (Nat.le_trans (asc_len _) ?_)
  rw [List.length_map, List.length_map]
  exact Nat.le_refl _
end FA

set_option Elab.async false
set_option linter.all false
set_option maxRecDepth 100000
set_option maxHeartbeats 8000000
namespace K43
open PySem PySem.Spec PyProof.Rows L2 FA
variable {P : Program} {w : World} {K : PySem.W.Frag} {mg : Str → Option Value} {base : Heap}
theorem nmIdle {p : Prd} (h : nmPrd p) : nmPrd (idle p) := fun a ha => idleR_all (Pp := fun c => (∀ x ∈ c.nms, FA.okName x) ∧ c.nms.length ≤ 5) p [] h (fun _ z => by cases z) a (List.mem_reverse.mp ha)
theorem byText_mem {ss : List Prd} {x : Str} (h : ∃ p ∈ ss, prdText p = x) : byText ss x ∈ ss ∧ prdText (byText ss x) = x := by
  unfold byText
  cases e : ss.reverse.find? (fun p => decide (prdText p = x)) with
  | none =>
    obtain ⟨p, hp, rfl⟩ := h
    have := List.find?_eq_none.mp e p (List.mem_reverse.mpr hp)
    simp at this
  | some p => exact ⟨List.mem_reverse.mp (List.mem_of_find?_eq_some e), by simpa using List.find?_some e⟩
theorem PdsAt.all {H : Hp} : ∀ {vs : List V} {ps : List Prd}, PdsAt H vs ps → True := fun _ => trivial
theorem pdsMap {H : Hp} {f : Str → Addr} {g : Str → Prd} : ∀ (ks : List Str), (∀ x ∈ ks, PdAt H (f x) (g x)) → PdsAt H (ks.map fun x => V.ref (f x)) (ks.map g)
  | [], _ => .nil
  | x :: r, h => .cons (h x (by simp)) (pdsMap r fun y hy => h y (List.mem_cons_of_mem _ hy))
def spNorm : Sp := fun vs H Q _ => ∃ (b : Addr) (vp : List V) (ps : List Prd), vs = [.ref b] ∧ H b = some (.lst vp) ∧ PdsAt H vp ps ∧ (∀ q ∈ ps, nmPrd q ∧ q.length ≤ 100) ∧ ps.length ≤ 5000 ∧ (∀ ts : List Str, ts.Nodup → (∀ x ∈ ts, ∃ p ∈ ps, x = prdText (idle p)) → ts.length < 64) ∧ ∀ r H' ws, Same H H' → H r = none → H' r = some (.lst ws) → PdsAt (frl H H') ws (normal ps) → Q (.ref r) H'
theorem okNorm (T : Txt K mg) : FnOk P w K mg base CX0 4 T.aNormalForm T.fNormalForm ["products"] spNorm := by
  have GWithoutIdleAtoms : FnOk P w K mg base CX0 2 T.aWithoutIdleAtoms T.fWithoutIdleAtoms ["product"] spIdle := okIdle T
  have GProductText : FnOk P w K mg base CX0 1 T.aProductText T.fProductText ["product"] spPrdText := okPrdText T
  have GIsProductIn : FnOk P w K mg base CX0 3 T.aIsProductIn T.fIsProductIn ["products", "product"] spPrdIn := okPrdIn T
  refine T.FNormalForm.ok scNormalForm (fun vs H Q E h => ?_) (fun cdv A outer s H vs Q E hr h => ?_)
  · obtain ⟨b, vp, ps, rfl, _⟩ := h
    rfl
  obtain ⟨b, vp, ps, rfl, hb, hps, nps, lps, few, q⟩ := h
  have hu := hu_of hr
  refine ⟨_, (pss_cons (ps_set (i := 1) scNormalForm.nd rfl (by first | exact Or.inl rfl | exact Or.inr rfl) pe_dnewK)
      (pss_cons (ps_for PassesOwn.never rfl (pi_list (pv 0)) (pg_name (i := 2) scNormalForm.nd rfl (by first | exact Or.inl rfl | exact Or.inr rfl))
        (pss_cons (ps_set (i := 5) scNormalForm.nd rfl (by first | exact Or.inl rfl | exact Or.inr rfl) (pe_call GWithoutIdleAtoms (hr.mono (by omega)) rfl T.gWithoutIdleAtoms T.FWithoutIdleAtoms.kp T.bWithoutIdleAtoms .nil pass0 (pa_cons (pv 2) pa_nil)))
        (pss_one (ps_dput hu (pv 1) (pe_call GProductText (hr.mono (by omega)) rfl T.gProductText T.FProductText.kp T.bProductText .nil pass0 (pa_cons (pv 5) pa_nil)) (pv 5) rfl))))
      (pss_cons (ps_set (i := 3) scNormalForm.nd rfl (by first | exact Or.inl rfl | exact Or.inr rfl) (pe_lst pa_nil))
      (pss_cons (ps_for PassesOwn.never rfl (pi_list (pe_callB (call_sortedD rfl) (by rfl) T.n_sorted (by decide +kernel) (pa_cons (pv 1) pa_nil))) (pg_name (i := 4) scNormalForm.nd rfl (by first | exact Or.inl rfl | exact Or.inr rfl))
        (pss_cons (ps_lock2 (ps_setLc (i := 6) (own := [("other", 7)]) (g := gName 7) rfl scNormalForm.nd rfl rfl (sw_true rfl rfl rfl (by decide +kernel)) (pi_keys (pv 1)) (blkOk_by (N := ["products", "by_text", "product", "found", "text", "shorter", "others", "other"]) (sc := defScope sNormalForm) (by decide +kernel)) (fun _ _ _ _ _ => (pg_name (i := 7) scNormalForm.nd rfl (by first | exact Or.inl rfl | exact Or.inr rfl))) (fun _ _ _ _ _ => (pts_one (pt_cmpR op_ne (pv 7) (pv 4) (nomark _)))) (fun _ _ _ _ _ => (pe_dget hu (pv 1) (pv 7) (fun _ _ => rfl)))))
        (pss_one (ps_if (pt_not (pt_val (pe_call GIsProductIn (hr.mono (by omega)) rfl T.gIsProductIn T.FIsProductIn.kp T.bIsProductIn .nil pass0 (pa_cons (pv 6) (pa_cons (pe_dget hu (pv 1) (pv 4) (fun _ _ => rfl)) pa_nil)))))
          (pss_one (ps_expr (pe_bm PySem.F.plainAttrs_list PySem.F.slot_list_append PySem.F.type_list_append mt_append (pv 3) (pa_cons (pe_dget hu (pv 1) (pv 4) (fun _ _ => rfl)) pa_nil)))) pss_nil))))
      (pss_one (ps_ret (pv 3))))))), ?_⟩
  have pl := hps.length
  obtain ⟨ss, hss⟩ : ∃ ss, ss = ps.map idle := ⟨_, rfl⟩
  have sub : ∀ i, ∀ p ∈ ss.take i, nmPrd p ∧ p.length ≤ 100 := fun i p hp => by
    have := List.mem_of_mem_take hp
    rw [hss] at this
    obtain ⟨p0, hp0, rfl⟩ := List.mem_map.mp this
    have n0 := nps p0 hp0
    exact ⟨nmIdle n0.1, Nat.le_trans (idle_le p0) n0.2⟩
  have fewK : ∀ (ks : List Str) i, ks.Nodup → (∀ x ∈ ks, ∃ p ∈ ss.take i, prdText p = x) → ks.length < 64 := fun ks i nd hk => few ks nd fun x hx => by
    obtain ⟨p, hp, rfl⟩ := hk x hx
    have := List.mem_of_mem_take hp
    rw [hss] at this
    obtain ⟨p0, hp0, rfl⟩ := List.mem_map.mp this
    exact ⟨p0, hp0, rfl⟩
  intro d hd
  have hbd : b ≠ d := ne_of_none hb hd
  have s1 := same_upd0 hd (.dK [])
  refine ⟨_, rfl, b, rfl, ⟨_, SqL.of (s1 _ _ hb)⟩, for_list (K := K) (a := b) (xs := vp) (fun i σ H' => ∃ (v2 v5 : Option V) (ks : List Str) (f : Str → Addr), σ = [some (.ref b), some (.ref d), v2, none, none, v5, none, none] ∧ Same H H' ∧ H' d = some (.dK (txD ks f)) ∧ ks.Nodup ∧ (∀ x, x ∈ ks ↔ ∃ p ∈ ss.take i, prdText p = x) ∧ ∀ x ∈ ks, PdAt (frl H H') (f x) (byText (ss.take i) x)) ⟨none, none, [], fun _ => 0, rfl, s1, upd_same, List.nodup_nil, fun x => by simp, fun x hx => by cases hx⟩ ?_ ?_ ?_⟩
  · rintro i σ H' _ ⟨_, _, _, _, _, sm, _⟩
    exact SqL.of (sm _ _ hb)
  · rintro i y σ H1 hi ⟨v2, v5, ks, f, rfl, sm, hd1, nd, hk, hat⟩
    obtain ⟨bp, p, rfl, e1, e2⟩ := hps.get hi
    have np := nps p (List.mem_of_getElem? e1)
    have es : ss[i]? = some (idle p) := by rw [hss, List.getElem?_map, e1]; rfl
    refine ⟨_, rfl, bp, p, rfl, e2.keep (Kp.of sm), np.1, np.2, fun r H2 vr s2 hrn hr2 har => ?_⟩
    have hprd : PdAt H2 r (idle p) := ⟨vr, hr2, har.keep (Kp.of s2)⟩
    refine ⟨_, rfl, _, rfl, _, rfl, r, idle p, rfl, hprd, nmIdle np.1, Nat.le_trans (idle_le p) np.2, fun H3 s3 => ?_⟩
    have hd3 : H3 d = some (.dK (txD ks f)) := s3 _ _ (s2 _ _ hd1)
    have sm3 := sm.trans (s2.trans s3)
    have lk := fewK ks i nd fun x hx => (hk x).mp hx
    refine ⟨d, _, rfl, DPut.k (k := .inr (prdText (idle p))) hd3 (small1000 (by rw [txD_len]; omega)), ?_⟩
    have put : Same H (upd H3 d (.dK (putK (txD ks f) (.inr (prdText (idle p))) (.ref r)))) := fun c e z => by
      rw [upd_ne (ne_of_none z hd)]
      exact sm3 _ _ z
    have kd : Kp (frl H H3) (frl H (upd H3 d (.dK (putK (txD ks f) (.inr (prdText (idle p))) (.ref r))))) := by
      refine ⟨fun c xs e => ?_, fun c xs e => ?_⟩
      · obtain ⟨e3, e4⟩ := frl_l.mp e
        exact frl_l.mpr ⟨e3, by rw [upd_ne (by rintro rfl; rw [hd3] at e4; cases e4)]; exact e4⟩
      · have e4 := frl_t.mp e
        exact frl_t.mpr (by rw [upd_ne (by rintro rfl; rw [hd3] at e4; cases e4)]; exact e4)
    have hrH : H r = none := none_back (W := []) (Sm.of_same sm) (fun _ z => by cases z) hrn
    have new : PdAt (frl H H3) r (idle p) := ⟨vr, frl_l.mpr ⟨hrH, s3 _ _ hr2⟩, har.keepT fun c xs e => frl_t.mpr (s3 _ _ (s2 _ _ e))⟩
    have est : ss.take (i + 1) = ss.take i ++ [idle p] := by rw [List.take_add_one, es]; rfl
    refine ⟨_, _, _, setA f (prdText (idle p)) r, rfl, put, by rw [upd_same, txD_put], ?_, fun x => ?_, fun x hx => ?_⟩
    · split
      · exact nd
      · rename_i hx
        exact List.nodup_append.mpr ⟨nd, by simp, fun a ha c hc => by rw [List.mem_singleton.mp hc]; rintro rfl; exact hx ha⟩
    · rw [est]
      have hkx := hk (prdText (idle p))
      constructor
      · intro hx
        by_cases e : x = prdText (idle p)
        · exact ⟨idle p, by simp, e.symm⟩
        · have hx' : x ∈ ks := by
            split at hx
            · exact hx
            · simpa [e] using hx
          obtain ⟨p', h1, h2⟩ := (hk x).mp hx'
          exact ⟨p', by simp [h1], h2⟩
      · rintro ⟨p', h1, h2⟩
        rcases List.mem_append.mp h1 with h1 | h1
        · have := (hk x).mpr ⟨p', h1, h2⟩
          split
          · exact this
          · exact List.mem_append_left _ this
        · rw [List.mem_singleton.mp h1] at h2
          subst h2
          split
          · assumption
          · simp
    · rw [est, byText_snoc]
      by_cases e : prdText (idle p) = x
      · rw [if_pos e]
        unfold setA
        rw [if_pos e.symm]
        exact new.keep kd
      · rw [if_neg e]
        unfold setA
        rw [if_neg fun z => e z.symm]
        have hx' : x ∈ ks := by
          split at hx
          · exact hx
          · rcases List.mem_append.mp hx with h | h
            · exact h
            · exact absurd (List.mem_singleton.mp h).symm e
        exact ((hat x hx').keep (kp_frl_same (s2.trans s3))).keep kd
  · rintro σ H1 ⟨v2, v5, ks, f, rfl, s1, hd1, nd, hk, hat⟩
    have lk := fewK ks vp.length nd fun x hx => (hk x).mp hx
    have lss : ss.length = vp.length := by rw [hss, List.length_map]; omega
    rw [← lss, List.take_length] at hk hat
    have okt : ∀ x ∈ ks, nmPrd (byText ss x) ∧ (byText ss x).length ≤ 100 := fun x hx => by
      obtain ⟨h1, _⟩ := byText_mem ((hk x).mp hx)
      exact sub ss.length _ (by rw [List.take_length]; exact h1)
    refine ⟨Nat.zero_le _, fun fd hfd => ?_⟩
    have dfd : d ≠ fd := ne_of_none hd1 hfd
    have s2 := same_upd0 hfd (.lst [])
    have hd2 := s2 _ _ hd1
    refine ⟨_, rfl, d, txD ks f, ks, rfl, .inl hd2, txD_keys ks f, lk, fun ys p5 hperm hsrt hp5 => ?_⟩
    have et : Tells ys (ss.map prdText) := ⟨hperm.symm.nodup nd, hsrt, fun x => by rw [hperm.mem_iff, hk, List.mem_map]⟩
    have ly : ys.length = ks.length := hperm.length_eq
    obtain ⟨kp, hkp⟩ : ∃ kp : Str → Bool, kp = fun x => !(ys.any fun y => !decide (y = x) && within (byText ss x) (byText ss y)) := ⟨_, rfl⟩
    have enorm : normal ps = (ys.filter kp).map (byText ss) := by
      unfold normal
      simp only [← hss]
      rw [asc_of et, hkp]
    have fdH : H fd = none := none_back (W := []) (Sm.of_same s1) (fun _ z => by cases z) hfd
    have p5fd : p5 ≠ fd := by rintro rfl; rw [upd_same] at hp5; cases hp5
    have p5d : p5 ≠ d := by rintro rfl; rw [hd2] at hp5; cases hp5
    have s3 := same_upd0 hp5 (.lst (ys.map V.str))
    have s03 := s1.trans (s2.trans s3)
    have ini : ∀ x ∈ ks, PdAt (wo [fd] (frl H (upd (upd H1 fd (.lst [])) p5 (.lst (ys.map V.str))))) (f x) (byText ss x) := fun x hx => by
      refine (hat x hx).keep ⟨fun c xs e => ?_, fun c xs e => ?_⟩
      · obtain ⟨e3, e4⟩ := frl_l.mp e
        exact wo_some.mpr ⟨by simpa using ne_of_none e4 hfd, frl_l.mpr ⟨e3, s3 _ _ (s2 _ _ e4)⟩⟩
      · have e4 := frl_t.mp e
        exact wo_some.mpr ⟨by simpa using ne_of_none e4 hfd, frl_t.mpr (s3 _ _ (s2 _ _ e4))⟩
    refine ⟨p5, rfl, ⟨_, SqL.of upd_same⟩, for_list (K := K) (a := p5) (xs := ys.map V.str) (fun i σ H' => ∃ (v4 v6 : Option V) (fw : List V), σ = [some (.ref b), some (.ref d), v2, some (.ref fd), v4, v5, v6, none] ∧ Same H H' ∧ H' d = some (.dK (txD ks f)) ∧ H' p5 = some (.lst (ys.map V.str)) ∧ H' fd = some (.lst fw) ∧ (∀ x ∈ ks, PdAt (wo [fd] (frl H H')) (f x) (byText ss x)) ∧ PdsAt (wo [fd] (frl H H')) fw (((ys.take i).filter kp).map (byText ss))) ⟨none, none, [], rfl, s03, s3 _ _ hd2, upd_same, s3 _ _ upd_same, ini, .nil⟩ ?_ ?_ ?_⟩
    · rintro i σ H' _ ⟨_, _, _, _, _, _, h5, _⟩
      exact SqL.of h5
    · rintro i y σ H3 hi ⟨v4, v6, fw, rfl, sm, hd3, h53, hf3, hat3, hfw⟩
      obtain ⟨x, hx, rfl⟩ : ∃ x, ys[i]? = some x ∧ y = .str x := by
        rw [List.getElem?_map] at hi
        cases e : ys[i]? with
        | none => rw [e] at hi; cases hi
        | some x => rw [e] at hi; cases hi; exact ⟨x, rfl, rfl⟩
      have hxk : x ∈ ks := hperm.mem_iff.mp (List.mem_of_getElem? hx)
      refine .inl ⟨d, .dK (txD ks f), hd3, trivial, fun od => ?_⟩
      have hd4 : (upd H3 d (.frz od (.dK (txD ks f)))) d = some (.frz od (.dK (txD ks f))) := upd_same
      have of4 : ∀ c, c ≠ d → (upd H3 d (.frz od (.dK (txD ks f)))) c = H3 c := fun c hc => upd_ne hc
      generalize upd H3 d (.frz od (.dK (txD ks f))) = H4 at hd4 of4 ⊢
      refine ⟨_, rfl, d, od, rfl, .inl ⟨txD ks f, hd4, ?_⟩⟩
      refine fun D hD => lcT (n := (txD ks f).length) hD (small1000 (by rw [txD_len]; omega)) (fun j v => ∃ y, ks[j]? = some y ∧ v = .str y) (valT ks (fun y => !decide (y = x)) fun y => V.ref (f y)) (go_k hd4) (stop_k hd4) (fun j Hx v Hy sx hj yy => ?_) ?_ ?_
      · obtain ⟨rfl, k, v', e1, rfl⟩ := yld_k j Hx v Hy sx hj yy
        refine ⟨rfl, ?_⟩
        unfold txD at e1
        rw [List.getElem?_map] at e1
        cases e : ks[j]? with
        | none => rw [e] at e1; cases e1
        | some y => rw [e] at e1; cases e1; exact ⟨y, rfl, rfl⟩
      · rintro j v Hx body hj ⟨y, hy, rfl⟩ sx kk
        have hyk : y ∈ ks := List.mem_of_getElem? hy
        unfold valT at kk
        rw [hy] at kk
        refine ⟨rfl, _, rfl, _, rfl, rfl, ?_⟩
        obtain ⟨k1, k2⟩ := kk (List.set (wipe ([some (V.ref b), some (V.ref d), v2, some (V.ref fd), v4, v5, v6, none].set 4 (some (V.str x))) (List.map (fun x => x.snd) [(Str.ofString "other", 7)])) 7 (some (V.str y))) Hx (Same.refl _)
        have ex : decide ((V.str y : V) = V.str x) = decide (y = x) := by
          by_cases c : y = x
          · subst c; simp
          · rw [decide_eq_false c, decide_eq_false fun z => c (V.str.inj z)]
        rw [ex]
        by_cases c : y = x
        · have := k1 (by simp [c])
          rw [decide_eq_true c]
          exact ⟨_, rfl, this⟩
        · have := k2 (.ref (f y)) (by simp [c]) fun Q hQ => ⟨_, rfl, _, rfl, d, _, rfl, .inl ⟨txD ks f, .inr y, .inr ⟨od, sx _ _ hd4⟩, rfl, (txD_in f hyk).symm⟩, hQ⟩
          rw [decide_eq_false c]
          exact ⟨_, rfl, this⟩
      · intro Hx sx hDx
        have hdx := sx _ _ hd4
        rw [txD_len, range_fm ks (fun y => !decide (y = x)) (fun y => V.ref (f y))] at hDx
        refine ⟨hdx, ?_⟩
        have hDd : D ≠ d := by rintro rfl; rw [hd4] at hD; cases hD
        have of5 : ∀ c, c ≠ d → (upd Hx d (.dK (txD ks f))) c = Hx c := fun c hc => upd_ne hc
        have hd5 : (upd Hx d (.dK (txD ks f))) d = some (.dK (txD ks f)) := upd_same
        generalize upd Hx d (.dK (txD ks f)) = H5 at of5 hd5 ⊢
        have s35 : Same H3 H5 := fun c o e => by
          by_cases h : c = d
          · subst h; rw [hd3] at e; cases e; exact hd5
          · rw [of5 c h]; exact sx _ _ (by rw [of4 c h]; exact e)
        have hD5 : H5 D = some (.lst ((ks.filter fun y => !decide (y = x)).map fun y => V.ref (f y))) := by rw [of5 D hDd]; exact hDx
        have hat5 : ∀ y ∈ ks, PdAt H5 (f y) (byText ss y) := fun y hy => ((hat3 y hy).keep kp_wo_any).keep (kp_frl.trans (Kp.of s35))
        have hoth := pdsMap (ks.filter fun y => !decide (y = x)) fun y hy => hat5 y (List.mem_filter.mp hy).1
        refine ⟨_, rfl, _, rfl, _, rfl, d, _, rfl, .inl ⟨txD ks f, .inr x, .inl hd5, rfl, (txD_in f hxk).symm⟩, D, f x, _, _, byText ss x, rfl, hD5, hoth, hat5 x hxk, fun p hp => ?_, (okt x hxk).1, (okt x hxk).2, ?_, fun H6 s6 => ?_⟩
        · obtain ⟨y, hy, rfl⟩ := List.mem_map.mp hp
          exact okt y (List.mem_filter.mp hy).1
        · rw [List.length_map]
          have := List.length_filter_le (fun y => !decide (y = x)) ks
          omega
        have ekp : kp x = !prdIn ((ks.filter fun y => !decide (y = x)).map (byText ss)) (byText ss x) := by
          rw [hkp]
          show (!(ys.any fun y => !decide (y = x) && within (byText ss x) (byText ss y))) = !prdIn ((ks.filter fun y => !decide (y = x)).map (byText ss)) (byText ss x)
          congr 1
          unfold prdIn
          rw [List.any_map, Bool.eq_iff_iff, List.any_eq_true, List.any_eq_true]
          constructor
          · rintro ⟨y, hy, h⟩
            rw [Bool.and_eq_true] at h
            exact ⟨y, List.mem_filter.mpr ⟨hperm.mem_iff.mp hy, h.1⟩, h.2⟩
          · rintro ⟨y, hy, h⟩
            obtain ⟨h1, h2⟩ := List.mem_filter.mp hy
            exact ⟨y, hperm.mem_iff.mpr h1, by rw [Bool.and_eq_true]; exact ⟨h2, h⟩⟩
        have s36 := s35.trans s6
        have etk : (ys.take (i + 1)).filter kp = (ys.take i).filter kp ++ (if kp x then [x] else []) := by
          rw [List.take_add_one, hx, List.filter_append]
          simp [List.filter_cons]
        have lfw := hfw.length
        rw [List.length_map] at lfw
        have lfl := List.length_filter_le kp (ys.take i)
        rw [List.length_take] at lfl
        refine ⟨_, rfl, ?_⟩
        have hd6 := s6 _ _ hd5
        have h56 : H6 p5 = some (.lst (ys.map V.str)) := s36 _ _ h53
        have hf6 : H6 fd = some (.lst fw) := s36 _ _ hf3
        have kp6 : Kp (wo [fd] (frl H H3)) (wo [fd] (frl H H6)) := kp_frl_wo fun c o _ e => s36 _ _ e
        have hfw6 := hfw.keep kp6
        cases hpi : prdIn ((ks.filter fun y => !decide (y = x)).map (byText ss)) (byText ss x) with
        | true =>
          have hk6 : kp x = false := by rw [ekp, hpi]; rfl
          rw [hk6, if_neg (by decide), List.append_nil] at etk
          refine iteF ?_
          exact ⟨_, _, fw, rfl, sm.trans s36, hd6, h56, hf6, fun y hy => (hat3 y hy).keep kp6, by rw [etk]; exact hfw6⟩
        | false =>
          have hk6 : kp x = true := by rw [ekp, hpi]; rfl
          rw [hk6, if_pos rfl] at etk
          refine iteT ?_
          have kp7 : Kp (wo [fd] (frl H H6)) (wo [fd] (frl H (upd H6 fd (.lst (fw ++ [.ref (f x)]))))) := kp_frl_wo fun c o hc e => by rw [upd_ne (by simpa using hc)]; exact e
          have e7 : ∀ c, c ≠ fd → (upd H6 fd (.lst (fw ++ [.ref (f x)]))) c = H6 c := fun c hc => upd_ne hc
          refine ⟨_, rfl, .inl ⟨rfl, _, SqL.of hf6⟩, _, rfl, _, rfl, d, _, rfl, .inl ⟨txD ks f, .inr x, .inl hd6, rfl, (txD_in f hxk).symm⟩, fd, fw, _, rfl, rfl, hf6, small1000 (by omega), ?_⟩
          refine ⟨_, _, fw ++ [.ref (f x)], rfl, fun c o e => ?_, by rw [e7 d dfd]; exact hd6, by rw [e7 p5 p5fd]; exact h56, upd_same, fun y hy => ((hat3 y hy).keep kp6).keep kp7, ?_⟩
          · rw [e7 c (ne_of_none e fdH)]
            exact s36 _ _ (sm _ _ e)
          · rw [etk, List.map_append]
            exact (hfw6.keep kp7).app (.cons (((hat3 x hxk).keep kp6).keep kp7) .nil)
    · rintro σ H3 ⟨v4, v6, fw, rfl, sm, hd3, h53, hf3, hat3, hfw⟩
      rw [List.length_map, List.take_length, ← enorm] at hfw
      exact ⟨_, rfl, q fd H3 fw sm fdH hf3 (hfw.keep kp_wo_any)⟩
end K43


set_option Elab.async false
set_option linter.all false
set_option maxRecDepth 100000
set_option maxHeartbeats 8000000
namespace K43
open PySem PySem.Spec PyProof.Rows L2 FA
variable {P : Program} {w : World} {K : PySem.W.Frag} {mg : Str → Option Value} {base : Heap}
theorem okPBodies (T : Txt K mg) : ∀ d : Nat, d ≤ 4 → FnOk P w K mg base CX0 (2 * d + 5) T.aProductsOfBody T.fProductsOfBody ["body"] (spPBody d)
  | 0, _ => fn_never fun vs H Q E h => by
    obtain ⟨b, l, ns, _, _, _, _, _, h0, _⟩ := h
    have := dB_pos l
    omega
  | d + 1, hd => okPBody T (d + 1) (by omega) (okPItem T d (by omega) (okPBodies T d (by omega)))
def spNP : Sp := fun vs H Q _ => ∃ (b : Addr) (l : List FA.It) (ns : List Str), vs = [.ref b] ∧ BdAt H b l ∧ okB ns l ∧ (∀ x ∈ ns, FA.okName x) ∧ nCB l ≤ 5 ∧ nIB l ≤ 12 ∧ dB l ≤ 4 ∧ ∀ r H' ws, Same H H' → H r = none → H' r = some (.lst ws) → PdsAt (frl H H') ws (NP l) → Q (.ref r) H'
theorem nm_ok {ns : List Str} (hn : ∀ x ∈ ns, FA.okName x) {m : Nat} {p : Prd} (h : okPrd ns m p) : nmPrd p := fun a ha => ⟨fun x hx => hn x ((h.2 a ha).1 x hx), (h.2 a ha).2.1⟩
theorem okNP (T : Txt K mg) : FnOk P w K mg base CX0 14 T.aNormalProducts T.fNormalProducts ["body"] spNP := by
  have GProductsOfBody : FnOk P w K mg base CX0 13 T.aProductsOfBody T.fProductsOfBody ["body"] (spPBody 4) := okPBodies T 4 (by decide)
  have GNormalForm : FnOk P w K mg base CX0 4 T.aNormalForm T.fNormalForm ["products"] spNorm := okNorm T
  refine T.FNormalProducts.ok scNormalProducts (fun vs H Q E h => ?_) (fun cdv A outer s H vs Q E hr h => ?_)
  · obtain ⟨b, l, ns, rfl, _⟩ := h
    rfl
  obtain ⟨b, l, ns, rfl, hbd, ok, hn, c5, n12, hd, q⟩ := h
  have hu := hu_of hr
  refine ⟨_, (pss_one (ps_ret (pe_call GNormalForm (hr.mono (by omega)) rfl T.gNormalForm T.FNormalForm.kp T.bNormalForm .nil pass0 (pa_cons (pe_call GProductsOfBody (hr.mono (by omega)) rfl T.gProductsOfBody T.FProductsOfBody.kp T.bProductsOfBody .nil pass0 (pa_cons (pv 0) pa_nil)) pa_nil)))), ?_⟩
  have okp : ∀ p ∈ rawB l [[]], okPrd ns 5 p := fun p hp => (rawB_ok l [[]] 0 ok c5 (fun p hp => by rw [List.mem_singleton.mp hp]; exact .nil) p hp).mono (by omega)
  have len := rawB_len l [[]] ok
  rw [List.length_singleton, Nat.one_mul] at len
  have p12 := pow12 n12
  have cov : Cov (rawB l [[]]) (0 + nCB l) := covB l [[]] 0 ok ⟨[], by simp, by simp⟩
  refine ⟨_, rfl, b, l, ns, rfl, hbd, ok, c5, n12, hd, fun r1 H1 ws1 s1 hr1n hr1 hp1 => ?_⟩
  refine ⟨r1, ws1, rawB l [[]], rfl, hr1, hp1.keep kp_fr, fun p hp => ⟨nm_ok hn (okp p hp), Nat.le_trans (okp p hp).1 (by omega)⟩, by omega, fun ts nd ht => ?_, fun r2 H2 ws2 s2 hr2n hr2 hp2 => ?_⟩
  · have := cov_few cov nd (f := fun p => prdText (idle p)) ht
    have : 2 ^ (0 + nCB l) ≤ 2 ^ 5 := Nat.pow_le_pow_right (by decide) (by omega)
    omega
  · exact q r2 H2 ws2 (s1.trans s2) (none_back (W := []) (Sm.of_same s1) (fun _ z => by cases z) hr2n) hr2 (hp2.keep (kp_frl_back s1))
def spOnce : Sp := fun vs H Q _ => ∃ (b : Addr) (vp : List V) (ps : List Prd) (x : Str), vs = [.ref b, .str x] ∧ H b = some (.lst vp) ∧ PdsAt H vp ps ∧ (∀ q ∈ ps, nmPrd q ∧ q.length ≤ 90) ∧ ps.length ≤ 5000 ∧ FA.okName x ∧ (¬ Sing ps x → ∀ H', Same H H' → Q .non H') ∧ ∀ (p : Prd) (k : Nat) (t a c : Addr) (va vc : List V) (H' : Hp), p ∈ ps → p[k]? = some (.n x) → prdIn ps (p.take k ++ [.n x] ++ p.drop k) = false → Same H H' → H' t = some (.tup [.ref a, .ref c]) → H a = none → H' a = some (.lst va) → AtsAt H' va (p.take k) → H c = none → H' c = some (.lst vc) → AtsAt H' vc (p.drop (k + 1)) → Q (.ref t) H'
theorem okOnce (T : Txt K mg) : FnOk P w K mg base CX0 4 T.aOnceBetween T.fOnceBetween ["products", "callee"] spOnce := by
  have GIsProductIn : FnOk P w K mg base CX0 3 T.aIsProductIn T.fIsProductIn ["products", "product"] spPrdIn := okPrdIn T
  refine T.FOnceBetween.ok scOnceBetween (fun vs H Q E h => ?_) (fun cdv A outer s H vs Q E hr h => ?_)
  · obtain ⟨b, vp, ps, x, rfl, _⟩ := h
    rfl
  obtain ⟨b, vp, ps, x, rfl, hb, hps, nps, lps, nx, qn, qs⟩ := h
  have hu := hu_of hr
  refine ⟨_, (pss_cons (ps_for PassesOwn.never rfl (pi_list (pv 0)) (pg_name (i := 2) scOnceBetween.nd rfl (by first | exact Or.inl rfl | exact Or.inr rfl))
        (pss_one (ps_for PassesOwn.never rfl (pi_range1 (by rfl) T.n_range (pa_cons (pe_callB call_len_seq (by rfl) T.n_len PySem.boot_len (pa_cons (pv 2) pa_nil)) pa_nil)) (pg_name (i := 3) scOnceBetween.nd rfl (by first | exact Or.inl rfl | exact Or.inr rfl))
          (pss_one (ps_if (PW.pt (pw_and (pt_cmpR (op_eqD hr.units) (pe_ix ix_list (pv 2) (pv 3) (fun _ _ => rfl)) (pv 1) (nomark _)) (pw_and1 (pt_not (pt_val (pe_call GIsProductIn (hr.mono (by omega)) rfl T.gIsProductIn T.FIsProductIn.kp T.bIsProductIn .nil pass0 (pa_cons (pv 0) (pa_cons (pe_op op_cat (pe_op op_cat (pe_slice sl_list (pv 2) po_none (po_some (pv 3))) (pe_lst (pa_cons (pv 1) pa_nil))) (pe_slice sl_list (pv 2) (po_some (pv 3)) po_none)) pa_nil))))))))
            (pss_one (ps_ret (pe_tup (pa_cons (pe_slice sl_list (pv 2) po_none (po_some (pv 3))) (pa_cons (pe_slice sl_list (pv 2) (po_some (pe_op op_add (pv 3) pe_int)) po_none) pa_nil))))) pss_nil)))))
      (pss_one (ps_ret pe_non))), ?_⟩
  have pl := hps.length
  refine ⟨_, rfl, b, rfl, ⟨_, SqL.of hb⟩, for_list (K := K) (a := b) (xs := vp) (fun i σ H' => ∃ (v2 v3 : Option V), σ = [some (.ref b), some (.str x), v2, v3] ∧ Same H H' ∧ ∀ p ∈ ps.take i, ∀ k, p[k]? = some (.n x) → prdIn ps (p.take k ++ [.n x] ++ p.drop k) = true) ⟨none, none, rfl, Same.refl _, fun p hp => by simp at hp⟩ ?_ ?_ ?_⟩
  · rintro i σ H' _ ⟨_, _, _, sm, _⟩
    exact SqL.of (sm _ _ hb)
  · rintro i y σ H1 hi ⟨v2, v3, rfl, s1, hno⟩
    obtain ⟨bp, p, rfl, e1, vs, e2, e3⟩ := hps.get hi
    have hpm : p ∈ ps := List.mem_of_getElem? e1
    have np := nps p hpm
    have lv := e3.length
    refine ⟨_, rfl, bp, vs, rfl, .inl (SqL.of (s1 _ _ e2)), (vs.length : Int), rfl, by omega, by omega, for_range (lo := 0) (n := vs.length) (fun j σ H' => ∃ (v3 : Option V), σ = [some (.ref b), some (.str x), some (.ref bp), v3] ∧ Same H H' ∧ ∀ k, k < j → p[k]? = some (.n x) → prdIn ps (p.take k ++ [.n x] ++ p.drop k) = true) ⟨v3, rfl, s1, fun k hk => by omega⟩ ?_ ?_⟩
    · rintro j σ H2 hj ⟨v3, rfl, s2, hnk⟩
      obtain ⟨v, hv⟩ : ∃ v, vs[j]? = some v := ⟨_, List.getElem?_eq_getElem hj⟩
      obtain ⟨a, ea, ha⟩ := e3.get hv
      have na := np.1 a (List.mem_of_getElem? ea)
      have hat : atI vs (0 + (j : Int)) = some v := by rw [Int.zero_add]; exact atI_nat hv
      have h2 := s2 _ _ e2
      have nxt : ∀ H', Same H H' → (p[j]? = some (.n x) → prdIn ps (p.take j ++ [.n x] ++ p.drop j) = true) → ∃ (v3 : Option V), [some (V.ref b), some (V.str x), some (V.ref bp), some (V.int (0 + (j : Int)))] = [some (.ref b), some (.str x), some (.ref bp), v3] ∧ Same H H' ∧ ∀ k, k < j + 1 → p[k]? = some (.n x) → prdIn ps (p.take k ++ [.n x] ++ p.drop k) = true := fun H' s' h => ⟨_, rfl, s', fun k hk hx => by
        rcases (by omega : k < j ∨ k = j) with z | rfl
        · exact hnk k z hx
        · exact h hx⟩
      refine ⟨_, rfl, _, rfl, bp, _, _, _, rfl, rfl, SqL.of h2, hat, _, rfl, dA a, .str x, (ha.keep (Kp.of s2)).dp, .str x, atm_shaped na.1, atm_shaped (a := .n x) (by simpa [Atm.nms] using nx), ?_⟩
      rw [eqv_atm]
      refine ⟨_, rfl, ?_⟩
      by_cases ex : a = .n x
      · subst ex
        rw [decide_eq_true rfl]
        refine iteT ?_
        have jl : j ≤ vs.length := Nat.le_of_lt hj
        have ct : cutV vs none (some (0 + (j : Int))) = vs.take j := by rw [Int.zero_add]; exact cut_to jl
        have cf : cutV vs (some (0 + (j : Int))) none = vs.drop j := by rw [Int.zero_add]; exact cut_from jl
        have cf1 : cutV vs (some (0 + (j : Int) + 1)) none = vs.drop (j + 1) := by rw [Int.zero_add]; exact cut_from (k := j + 1) hj
        have vt : (vs.take j).length ≤ 90 := by rw [List.length_take]; omega
        have vd : (vs.drop j).length ≤ 90 := by rw [List.length_drop]; omega
        refine ⟨_, rfl, _, rfl, _, rfl, _, rfl, bp, vs, rfl, SqL.of h2, fun p1 h1 => ?_⟩
        rw [ct]
        have s3 := same_upd0 h1 (.lst (vs.take j))
        have e3' : (upd H2 p1 (.lst (vs.take j))) p1 = some (.lst (vs.take j)) := upd_same
        generalize upd H2 p1 (.lst (vs.take j)) = H3 at s3 e3' ⊢
        refine ⟨_, rfl, Nat.le_of_lt (small1000 (by simp)), fun p2 h2' => ?_⟩
        have s4 := same_upd0 h2' (.lst [V.str x])
        have e4' : (upd H3 p2 (.lst [V.str x])) p2 = some (.lst [V.str x]) := upd_same
        generalize upd H3 p2 (.lst [V.str x]) = H4 at s4 e4' ⊢
        refine ⟨p1, p2, _, _, rfl, rfl, s4 _ _ e3', e4', Nat.le_of_lt (small1000 (by simp only [List.length_singleton]; omega)), fun p3 h3 => ?_⟩
        have s5 := same_upd0 h3 (.lst (vs.take j ++ [V.str x]))
        have e5' : (upd H4 p3 (.lst (vs.take j ++ [V.str x]))) p3 = some (.lst (vs.take j ++ [V.str x])) := upd_same
        generalize upd H4 p3 (.lst (vs.take j ++ [V.str x])) = H5 at s5 e5' ⊢
        have s25 := s3.trans (s4.trans s5)
        refine ⟨_, rfl, _, rfl, _, rfl, bp, vs, rfl, SqL.of (s25 _ _ h2), fun p4 h4 => ?_⟩
        rw [cf]
        have s6 := same_upd0 h4 (.lst (vs.drop j))
        have e6' : (upd H5 p4 (.lst (vs.drop j))) p4 = some (.lst (vs.drop j)) := upd_same
        generalize upd H5 p4 (.lst (vs.drop j)) = H6 at s6 e6' ⊢
        refine ⟨p3, p4, _, _, rfl, rfl, s6 _ _ e5', e6', Nat.le_of_lt (small1000 (by simp only [List.length_append, List.length_singleton]; omega)), fun p5 h5 => ?_⟩
        have s7 := same_upd0 h5 (.lst (vs.take j ++ [V.str x] ++ vs.drop j))
        have e7' : (upd H6 p5 (.lst (vs.take j ++ [V.str x] ++ vs.drop j))) p5 = some (.lst (vs.take j ++ [V.str x] ++ vs.drop j)) := upd_same
        generalize upd H6 p5 (.lst (vs.take j ++ [V.str x] ++ vs.drop j)) = H7 at s7 e7' ⊢
        have s27 := s25.trans (s6.trans s7)
        have s07 := s2.trans s27
        have hpd : PdAt H7 p5 (p.take j ++ [.n x] ++ p.drop j) := ⟨_, e7', ((((e3.keep (Kp.of s07)).take j).app (.cons (.n x) .nil)).app ((e3.keep (Kp.of s07)).drop j))⟩
        refine ⟨b, p5, vp, ps, _, rfl, s07 _ _ hb, hps.keep (Kp.of s07), hpd, fun q' hq' => ⟨(nps q' hq').1, Nat.le_trans (nps q' hq').2 (by decide)⟩, ?_, ?_, lps, fun H8 s8 => ?_⟩
        · intro c hc
          rcases List.mem_append.mp hc with hc | hc
          · rcases List.mem_append.mp hc with hc | hc
            · exact np.1 c (List.mem_of_mem_take hc)
            · rw [List.mem_singleton.mp hc]
              exact ⟨by simpa [Atm.nms] using nx, by simp [Atm.nms]⟩
          · exact np.1 c (List.mem_of_mem_drop hc)
        · have := np.2
          simp only [List.length_append, List.length_take, List.length_drop, List.length_singleton]
          omega
        have s08 := s07.trans s8
        refine ⟨_, rfl, ?_⟩
        cases hin : prdIn ps (p.take j ++ [.n x] ++ p.drop j) with
        | true =>
          refine iteF ?_
          exact nxt H8 s08 fun _ => hin
        | false =>
          refine iteT ?_
          refine ⟨_, rfl, _, rfl, _, rfl, bp, vs, rfl, SqL.of (s08 _ _ e2), fun a1 ha1 => ?_⟩
          rw [ct]
          have s9 := same_upd0 ha1 (.lst (vs.take j))
          have e9 : (upd H8 a1 (.lst (vs.take j))) a1 = some (.lst (vs.take j)) := upd_same
          generalize upd H8 a1 (.lst (vs.take j)) = H9 at s9 e9 ⊢
          refine ⟨_, rfl, _, rfl, _, _, rfl, rfl, _, rfl, bp, vs, rfl, SqL.of ((s08.trans s9) _ _ e2), fun a2 ha2 => ?_⟩
          rw [cf1]
          have s10 := same_upd0 ha2 (.lst (vs.drop (j + 1)))
          have e10 : (upd H9 a2 (.lst (vs.drop (j + 1)))) a2 = some (.lst (vs.drop (j + 1))) := upd_same
          generalize upd H9 a2 (.lst (vs.drop (j + 1))) = H10 at s10 e10 ⊢
          refine ⟨Nat.le_of_lt (small1000 (by simp)), fun t ht => ?_⟩
          have s11 := same_upd0 ht (.tup [V.ref a1, V.ref a2])
          have s0 := s08.trans (s9.trans (s10.trans s11))
          exact qs p j t a1 a2 _ _ _ hpm ea hin s0 upd_same (none_back (W := []) (Sm.of_same s08) (fun _ z => by cases z) ha1) (s11 _ _ (s10 _ _ e9)) ((e3.keep (Kp.of s0)).take j) (none_back (W := []) (Sm.of_same (s08.trans s9)) (fun _ z => by cases z) ha2) (s11 _ _ e10) ((e3.keep (Kp.of s0)).drop (j + 1))
      · rw [decide_eq_false ex]
        refine iteF ?_
        refine iteF ?_
        exact nxt H2 s2 fun h => by rw [ea] at h; cases h; exact absurd rfl ex
    · rintro σ H2 ⟨v3, rfl, s2, hnk⟩
      refine ⟨_, _, rfl, s2, fun p' hp' k hk => ?_⟩
      rw [List.take_add_one, e1] at hp'
      rcases List.mem_append.mp hp' with h | h
      · exact hno p' h k hk
      · rw [List.mem_singleton.mp h] at hk ⊢
        refine hnk k ?_ hk
        by_cases z : k < p.length
        · omega
        · rw [List.getElem?_eq_none (by omega)] at hk; cases hk
  · rintro σ H1 ⟨v2, v3, rfl, s1, hno⟩
    rw [List.take_of_length_le (by omega)] at hno
    exact qn (fun ⟨p, hp, k, h1, h2⟩ => by rw [hno p hp k h1] at h2; cases h2) H1 s1
end K43


set_option Elab.async false
set_option linter.all false
set_option maxRecDepth 100000
set_option maxHeartbeats 8000000
namespace K43
open PySem PySem.Spec PyProof.Rows L2 FA
variable {P : Program} {w : World} {K : PySem.W.Frag} {mg : Str → Option Value} {base : Heap}
inductive Ex (p : Pr) : Str → Prop
  | main : Ex p "main"
  | step {x y : Str} : Ex p x → y ∈ nmB (bodyOf p x) → Sing (NP (bodyOf p x)) y → Ex p y
theorem Ex.rc {p : Pr} {x : Str} (h : Ex p x) : Rc p x := by
  induction h with
  | main => exact .main
  | step _ hy _ ih => exact ih.step hy
theorem Ex.name {p : Pr} (va : Valid p) {x : Str} (h : Ex p x) : x ∈ pNames p := h.rc.name va
theorem Ex.of {p : Pr} {S : List Str} (h0 : ("main" : Str) ∈ S) (hs : ∀ x ∈ S, ∀ y ∈ nmB (bodyOf p x), Sing (NP (bodyOf p x)) y → y ∈ S) {x : Str} (h : Ex p x) : x ∈ S := by
  induction h with
  | main => exact h0
  | step _ hy hz ih => exact hs _ ih _ hy hz
theorem NP_ok {ns : List Str} (hn : ∀ x ∈ ns, FA.okName x) {l : List FA.It} (ok : okB ns l) (c5 : nCB l ≤ 5) (n12 : nIB l ≤ 12) : (∀ q ∈ NP l, nmPrd q ∧ q.length ≤ 90) ∧ (NP l).length ≤ 5000 := by
  refine ⟨fun q hq => ?_, ?_⟩
  · obtain ⟨p, hp, rfl⟩ := normal_sub hq
    have okp := (rawB_ok l [[]] 0 ok c5 (fun p hp => by rw [List.mem_singleton.mp hp]; exact .nil) p hp)
    exact ⟨nmIdle (nm_ok hn okp), by have := okp.1; have := idle_le p; omega⟩
  · have h1 := normal_len (rawB l [[]])
    have h2 := rawB_len l [[]] ok
    rw [List.length_singleton, Nat.one_mul] at h2
    have := pow12 n12
    unfold NP
    omega
def spExact : Sp := fun vs H Q _ => ∃ (d : Addr) (p : Pr), vs = [.ref d] ∧ PrAt H d p ∧ Valid p ∧ ∀ r ys H', Same H H' → H r = none → H' r = some (.lst (ys.map V.str)) → ys.Nodup → sortedS ys = true → (∀ x, x ∈ ys ↔ Ex p x) → Q (.ref r) H'
theorem okExact (T : Txt K mg) : FnOk P w K mg base CX0 16 T.aExactFunctions T.fExactFunctions ["program"] spExact := by
  have GCheckProgram : FnOk P w K mg base CX0 13 T.aCheckProgram T.fCheckProgram ["program"] spCheckProgram := okCheckProgram T
  have GNormalProducts : FnOk P w K mg base CX0 14 T.aNormalProducts T.fNormalProducts ["body"] spNP := okNP T
  have GCallees : FnOk P w K mg base CX0 14 T.aCallees T.fCallees ["program", "name"] spCallees := okCallees T
  have GOnceBetween : FnOk P w K mg base CX0 4 T.aOnceBetween T.fOnceBetween ["products", "callee"] spOnce := okOnce T
  refine T.FExactFunctions.ok scExactFunctions (fun vs H Q E h => ?_) (fun cdv A outer s H vs Q E hr h => ?_)
  · obtain ⟨d, p, rfl, _⟩ := h
    rfl
  obtain ⟨d, p, rfl, hpa, va, q⟩ := h
  have hu := hu_of hr
  refine ⟨_, (pss_cons (ps_expr (pe_call GCheckProgram (hr.mono (by omega)) rfl T.gCheckProgram T.FCheckProgram.kp T.bCheckProgram .nil pass0 (pa_cons (pv 0) pa_nil)))
      (pss_cons (ps_set (i := 1) scExactFunctions.nd rfl (by first | exact Or.inl rfl | exact Or.inr rfl) (pe_disp (pps_cons pe_str pe_bl pps_nil) (by rfl) (by rfl) (fun z => by cases z) (by decide)))
      (pss_cons (ps_set (i := 2) scExactFunctions.nd rfl (by first | exact Or.inl rfl | exact Or.inr rfl) (pe_lst (pa_cons pe_str pa_nil)))
      (pss_cons (ps_while PassesOwn.never (pt_truth (pv 2) (by intro _; rfl))
        (pss_cons (ps_set (i := 3) scExactFunctions.nd rfl (by first | exact Or.inl rfl | exact Or.inr rfl) (pe_bm0 PySem.F.plainAttrs_list PySem.F.slot_list_pop PySem.F.type_list_pop mt_pop (pv 2)))
        (pss_cons (ps_set (i := 4) scExactFunctions.nd rfl (by first | exact Or.inl rfl | exact Or.inr rfl) (pe_call GNormalProducts (hr.mono (by omega)) rfl T.gNormalProducts T.FNormalProducts.kp T.bNormalProducts .nil pass0 (pa_cons (pe_dget hu (pv 0) (pv 3) (fun _ _ => rfl)) pa_nil)))
        (pss_one (ps_for PassesOwn.never rfl (pi_list (pe_call GCallees (hr.mono (by omega)) rfl T.gCallees T.FCallees.kp T.bCallees .nil pass0 (pa_cons (pv 0) (pa_cons (pv 3) pa_nil)))) (pg_name (i := 5) scExactFunctions.nd rfl (by first | exact Or.inl rfl | exact Or.inr rfl))
          (pss_one (ps_if (PW.pt (pw_and (pt_cmp (pc_dnotin hu (pv 5) (pv 1))) (pw_and1 (pt_cmpR op_notN (pe_call GOnceBetween (hr.mono (by omega)) rfl T.gOnceBetween T.FOnceBetween.kp T.bOnceBetween .nil pass0 (pa_cons (pv 4) (pa_cons (pv 5) pa_nil))) pe_non (nomark _)))))
            (pss_cons (ps_dput hu (pv 1) (pv 5) pe_bl rfl)
            (pss_one (ps_expr (pe_bm PySem.F.plainAttrs_list PySem.F.slot_list_append PySem.F.type_list_append mt_append (pv 2) (pa_cons (pv 5) pa_nil))))) pss_nil)))))))
      (pss_one (ps_ret (pe_callB (call_sortedD rfl) (by rfl) T.n_sorted (by decide +kernel) (pa_cons (pv 1) pa_nil)))))))), ?_⟩
  have hlen := va.len
  refine ⟨_, rfl, d, p, rfl, hpa, va, fun H1 s1 => ?_⟩
  intro D hD
  refine ⟨upd_same, [(.inr "main", .bl true)], rfl, by decide, ?_⟩
  have eD : (upd (upd H1 D (.dK [])) D (.dK (mergeK [] [(.inr "main", .bl true)]))) D = some (.dK (fdKv ["main"])) := upd_same
  have s2 : Same H1 (upd (upd H1 D (.dK [])) D (.dK (mergeK [] [(.inr "main", .bl true)]))) := fun b o e => by
    rw [upd_ne (ne_of_none e hD), upd_ne (ne_of_none e hD)]
    exact e
  generalize upd (upd H1 D (.dK [])) D (.dK (mergeK [] [(.inr "main", .bl true)])) = H2 at eD s2 ⊢
  refine ⟨Nat.le_of_lt (small1000 (by simp)), fun W hW => ?_⟩
  have hDW : D ≠ W := ne_of_none eD hW
  have s3 := same_upd hW (.lst [V.str "main"])
  have eW : (upd H2 W (.lst [V.str "main"])) W = some (.lst ((["main"] : List Str).map V.str)) := upd_same
  have eD3 := s3 _ _ eD
  have s03 := (s1.trans s2).trans s3
  have hD0 : H D = none := none_back (W := []) (Sm.of_same s1) (fun _ z => by cases z) hD
  have hW0 : H W = none := none_back (W := []) (Sm.of_same (s1.trans s2)) (fun _ z => by cases z) hW
  generalize upd H2 W (.lst [V.str "main"]) = H3 at eW eD3 s03 ⊢
  clear s1 s2 s3 hD hW eD
  refine ⟨fun m σ H' => ∃ (fs ws : List Str) (v3 v4 v5 : Option V), m = 2 * (p.length - fs.length) + ws.length ∧ σ = [some (.ref d), some (.ref D), some (.ref W), v3, v4, v5] ∧ Same H H' ∧ H' D = some (.dK (fdKv fs)) ∧ H' W = some (.lst (ws.map V.str)) ∧ fs.Nodup ∧ (∀ x ∈ fs, Ex p x) ∧
    ("main" : Str) ∈ fs ∧ (∀ x ∈ ws, x ∈ fs) ∧ (∀ x ∈ fs, x ∉ ws → ∀ y ∈ nmB (bodyOf p x), Sing (NP (bodyOf p x)) y → y ∈ fs) ∧ 2 * (p.length - fs.length) + ws.length ≤ 20, ⟨_, ["main"], ["main"], none, none, none, rfl, rfl, s03, eD3, eW, by simp, fun x hx => by rw [List.mem_singleton.mp hx]; exact .main, by simp, fun x hx => hx, fun x hx n => absurd hx n, by simp; omega⟩, ?_⟩
  rintro m σ H4 ⟨fs, ws, v3, v4, v5, rfl, rfl, s4, hD4, hW4, nd, rc, hm, sub, cl, me⟩
  have fin : ∀ {gs : List Str}, (∀ x ∈ gs, Ex p x) → gs.Nodup → gs.length ≤ p.length := fun rc nd => by
    have := nd_le nd fun x hx => (rc x hx).name va
    unfold pNames at this
    rwa [List.length_map] at this
  refine ⟨_, rfl, !(ws.map V.str).isEmpty, .inl ⟨_, SqL.of hW4, rfl⟩, ?_⟩
  rcases (List.eq_nil_or_concat ws).imp id (fun ⟨a, b, e⟩ => (⟨a, b, e.trans List.concat_eq_append⟩ : ∃ a b, ws = a ++ [b])) with rfl | ⟨ws', c, rfl⟩
  · -- nothing waits
    refine ite2 (fun z => absurd z (by simp)) (fun _ => ?_)
    have fl := fin rc nd
    refine ⟨_, rfl, D, fdKv fs, fs, rfl, .inl hD4, by simp [fdKv], by omega, fun ys r pe so hr => ?_⟩
    refine q r ys _ (s4.trans (same_upd hr _)) (none_back (W := []) (Sm.of_same s4) (fun _ z => by cases z) hr) upd_same (pe.symm.nodup nd) so fun x => ?_
    rw [pe.mem_iff]
    exact ⟨rc x, fun h => h.of hm fun x hx => cl x hx (by simp)⟩
  · refine ite2 (fun _ => ?_) (fun z => absurd (by simp) z)
    refine ⟨_, fun σ' H' h => h, ?_⟩
    have hc : c ∈ fs := sub c (by simp)
    have hcn := (rc c hc).name va
    have hlast : ((ws' ++ [c]).map V.str)[((ws' ++ [c]).map V.str).length - 1]? = some (.str c) := by simp
    refine ⟨_, rfl, .inl ⟨rfl, _, SqL.of hW4⟩, W, _, .str c, rfl, rfl, hW4, hlast, ?_⟩
    have hdl : ((ws' ++ [c]).map V.str).dropLast = ws'.map V.str := by simp
    rw [hdl]
    have hW5 : (upd H4 W (.lst (ws'.map V.str))) W = some (.lst (ws'.map V.str)) := upd_same
    have hD5 : (upd H4 W (.lst (ws'.map V.str))) D = some (.dK (fdKv fs)) := by rw [upd_ne hDW]; exact hD4
    have s5 : Same H (upd H4 W (.lst (ws'.map V.str))) := fun b o e => by rw [upd_ne (ne_of_none e hW0)]; exact s4 _ _ e
    generalize upd H4 W (.lst (ws'.map V.str)) = H5 at hW5 hD5 s5 ⊢
    obtain ⟨l0, e0⟩ := lookup_mem hcn
    have hpa5 := PrAt.same s5 hpa
    rcases hpa5.look (x := c) with ⟨z1, _⟩ | ⟨l, b, z1, z2, z3⟩
    · rw [e0] at z1; cases z1
    obtain ⟨o1, o2, o3, o4⟩ := va.ok c l z1
    have eb : bodyOf p c = l := by unfold bodyOf; rw [z1]; rfl
    have hfl := fin rc nd
    have hn : ∀ x ∈ pNames p, FA.okName x := fun x hx => va.nm x hx
    obtain ⟨np1, np2⟩ := NP_ok hn o1 o2 o3
    refine ⟨_, rfl, _, rfl, d, _, rfl, z2, b, l, pNames p, rfl, z3, o1, hn, o2, o3, o4, fun rp H6 wp s6 hrpn hrp hpp => ?_⟩
    have hrpW : rp ≠ W := (ne_of_none hW5 hrpn).symm
    have hrpD : rp ≠ D := (ne_of_none hD5 hrpn).symm
    have hW6 := s6 _ _ hW5
    have hD6 := s6 _ _ hD5
    have s06 := s5.trans s6
    refine ⟨_, rfl, _, rfl, d, p, c, rfl, PrAt.same s06 hpa, va, hcn, fun r ys H6' s6' hrn hr6' tl => ?_⟩
    rw [eb] at tl
    have hrW : r ≠ W := (ne_of_none hW6 hrn).symm
    have hrD : r ≠ D := (ne_of_none hD6 hrn).symm
    have hW6' := s6' _ _ hW6
    have hD6' := s6' _ _ hD6
    have s06' := s06.trans s6'
    refine ⟨r, rfl, ⟨_, SqL.of hr6'⟩, for_list (K := K) (a := r) (xs := ys.map V.str) (fun j σ H' => ∃ (gs us : List Str) (v5 : Option V), σ = [some (.ref d), some (.ref D), some (.ref W), some (.str c), some (.ref rp), v5] ∧ Same H H' ∧ H' r = some (.lst (ys.map V.str)) ∧ H' D = some (.dK (fdKv gs)) ∧ H' W = some (.lst (us.map V.str)) ∧ H' rp = some (.lst wp) ∧ PdsAt (frl H5 H') wp (NP l) ∧
      gs.Nodup ∧ (∀ x ∈ gs, Ex p x) ∧ (∀ x ∈ fs, x ∈ gs) ∧ (∀ x ∈ us, x ∈ gs) ∧ (∀ x ∈ gs, x ∉ us → x ∈ fs ∧ x ∉ ws') ∧ (∀ x ∈ ys.take j, Sing (NP l) x → x ∈ gs) ∧ 2 * (p.length - gs.length) + us.length ≤ 2 * (p.length - fs.length) + ws'.length) ⟨fs, ws', v5, rfl, s06', hr6', hD6', hW6', s6' _ _ hrp, hpp.keep (kp_frl_same s6'), nd, rc, fun x h => h, fun x hx => sub x (by simp [hx]), fun x h n => ⟨h, n⟩, by simp, Nat.le_refl _⟩ ?_ ?_ ?_⟩
    · rintro j σ H' _ ⟨_, _, _, _, _, h, _⟩
      exact SqL.of h
    · rintro j y σ H7 hj ⟨gs, us, v5, rfl, s7, hr7, hD7, hW7, hrp7, hpp7, nd7, rc7, f7, sub7, cl7, tk7, me7⟩
      rw [List.getElem?_map] at hj
      cases hy : ys[j]? with
      | none => rw [hy] at hj; cases hj
      | some x =>
        rw [hy] at hj
        cases hj
        have hxm : x ∈ nmB l := (tl.mem x).mp (List.mem_of_getElem? hy)
        have hxo : FA.okName x := hn x (nmB_ok l o1 x hxm)
        have tk : ∀ {gs : List Str}, (∀ y ∈ ys.take j, Sing (NP l) y → y ∈ gs) → (Sing (NP l) x → x ∈ gs) → ∀ y ∈ ys.take (j + 1), Sing (NP l) y → y ∈ gs := fun h hx y hy2 hs => by
          rw [List.take_add_one, hy, List.mem_append] at hy2
          rcases hy2 with z | z
          · exact h y z hs
          · simp at z; subst z; exact hx hs
        by_cases hg : x ∈ gs
        · refine ⟨_, rfl, _, rfl, D, _, rfl, DGet.k (k := .inr x) hD7, _, rfl, ?_⟩
          rw [fdKv_in hg]
          refine iteF ?_
          refine iteF ?_
          exact ⟨gs, us, _, rfl, s7, hr7, hD7, hW7, hrp7, hpp7, nd7, rc7, f7, sub7, cl7, tk tk7 (fun _ => hg), me7⟩
        · refine ⟨_, rfl, _, rfl, D, _, rfl, DGet.k (k := .inr x) hD7, _, rfl, ?_⟩
          rw [fdKv_out hg]
          refine iteT ?_
          refine ⟨_, rfl, _, rfl, rp, wp, NP l, x, rfl, hrp7, hpp7.keep kp_frl, np1, np2, hxo, fun hns H8 s8 => ?_, fun p' k t a c' va' vc' H8 hp' hk' hin s8 ht _ _ _ _ _ _ => ?_⟩
          · refine ⟨rfl, _, rfl, ?_⟩
            refine iteF ?_
            exact ⟨gs, us, _, rfl, s7.trans s8, s8 _ _ hr7, s8 _ _ hD7, s8 _ _ hW7, s8 _ _ hrp7, hpp7.keep (kp_frl_same s8), nd7, rc7, f7, sub7, cl7, tk tk7 (fun h => absurd h hns), me7⟩
          have hS : Sing (NP l) x := ⟨p', hp', k, hk', hin⟩
          have hr7 := s8 _ _ hr7
          have hD7 := s8 _ _ hD7
          have hW7 := s8 _ _ hW7
          have hrp7 := s8 _ _ hrp7
          have hpp7 := hpp7.keep (kp_frl_same s8)
          have s7 := s7.trans s8
          clear s8 ht
          generalize H8 = H7 at *
          refine ⟨rfl, _, rfl, ?_⟩
          refine iteT ?_
          have gl := fin rc7 nd7
          refine ⟨_, rfl, _, rfl, D, _, rfl, DPut.k (k := .inr x) hD7 (small1000 (by unfold fdKv; rw [List.length_map]; omega)), ?_⟩
          rw [fdKv_put hg]
          have hD8 : (upd H7 D (.dK (fdKv (gs ++ [x])))) D = some (.dK (fdKv (gs ++ [x]))) := upd_same
          have hW8 : (upd H7 D (.dK (fdKv (gs ++ [x])))) W = some (.lst (us.map V.str)) := by rw [upd_ne hDW.symm]; exact hW7
          have hr8 : (upd H7 D (.dK (fdKv (gs ++ [x])))) r = some (.lst (ys.map V.str)) := by rw [upd_ne hrD]; exact hr7
          have hrp8 : (upd H7 D (.dK (fdKv (gs ++ [x])))) rp = some (.lst wp) := by rw [upd_ne hrpD]; exact hrp7
          have hpp8 : PdsAt (frl H5 (upd H7 D (.dK (fdKv (gs ++ [x]))))) wp (NP l) := hpp7.keep (kp_frl_upd hD5 fun xs e => by rw [hD7] at e; cases e)
          have s8 : Same H (upd H7 D (.dK (fdKv (gs ++ [x])))) := fun b o e => by rw [upd_ne (ne_of_none e hD0)]; exact s7 _ _ e
          generalize upd H7 D (.dK (fdKv (gs ++ [x]))) = H8 at hD8 hW8 hr8 hrp8 hpp8 s8 ⊢
          have rc8 : ∀ z ∈ gs ++ [x], Ex p z := fun z hz => by
            rcases List.mem_append.mp hz with h | h
            · exact rc7 z h
            · rw [List.mem_singleton.mp h]
              exact (rc c hc).step (by rw [eb]; exact hxm) (by rw [eb]; exact hS)
          have nd8 : (gs ++ [x]).Nodup := by
            rw [List.nodup_append]
            exact ⟨nd7, by simp, fun a ha b hb e => hg (by rw [← List.mem_singleton.mp hb, ← e]; exact ha)⟩
          have gl8 := fin rc8 nd8
          rw [List.length_append, List.length_singleton] at gl8
          have ul : us.length ≤ 100 := by
            simp only [List.length_append, List.length_singleton] at me
            omega
          refine ⟨_, rfl, .inl ⟨rfl, _, SqL.of hW8⟩, _, rfl, W, _, .str x, rfl, rfl, hW8, small1000 (by rw [List.length_map]; omega), ?_⟩
          refine ⟨gs ++ [x], us ++ [x], _, rfl, fun b o e => by rw [upd_ne (ne_of_none e hW0)]; exact s8 _ _ e, by rw [upd_ne hrW]; exact hr8, by rw [upd_ne hDW]; exact hD8, by rw [upd_same, List.map_append]; rfl, by rw [upd_ne hrpW]; exact hrp8, hpp8.keep (kp_frl_upd hW5 fun xs e => by rw [hW8] at e; cases e), nd8, rc8, fun z hz => List.mem_append_left _ (f7 z hz), fun z hz => ?_, fun z hz hn => ?_, tk (fun z hz hs => List.mem_append_left _ (tk7 z hz hs)) (fun _ => by simp), ?_⟩
          · rcases List.mem_append.mp hz with h | h
            · exact List.mem_append_left _ (sub7 z h)
            · exact List.mem_append_right _ h
          · rw [List.mem_append, not_or] at hn
            rcases List.mem_append.mp hz with h | h
            · exact cl7 z h hn.1
            · exact absurd h hn.2
          · simp only [List.length_append, List.length_singleton]
            omega
    · rintro σ H7 ⟨gs, us, v5, rfl, s7, hr7, hD7, hW7, hrp7, hpp7, nd7, rc7, f7, sub7, cl7, tk7, me7⟩
      rw [List.take_of_length_le (by rw [List.length_map]; exact Nat.le_refl _)] at tk7
      refine ⟨_, ?_, gs, us, _, _, v5, rfl, rfl, s7, hD7, hW7, nd7, rc7, f7 _ hm, sub7, fun x hx hn y hy hs => ?_, ?_⟩
      · simp only [List.length_append, List.length_singleton]
        omega
      · obtain ⟨h1, h2⟩ := cl7 x hx hn
        by_cases e : x = c
        · rw [e, eb] at hy hs
          exact tk7 y ((tl.mem y).mpr hy) hs
        · exact f7 y (cl x h1 (by simp [h2, e]) y hy hs)
      · simp only [List.length_append, List.length_singleton] at me
        omega
end K43


set_option Elab.async false
set_option linter.all false
set_option maxRecDepth 100000
set_option maxHeartbeats 8000000
namespace K43
open PySem PySem.Spec PyProof.Rows L2 FA
variable {P : Program} {w : World} {K : PySem.W.Frag} {mg : Str → Option Value} {base : Heap}
/-- what a function's form holds -/
def FmAt (H : Hp) (p : Pr) (x : Str) (v : V) : Prop := ∃ (t b : Addr) (ws : List V), v = .ref t ∧ H b = some (.lst ws) ∧
  ((Ex p x ∧ H t = some (.tup [.str "exact", .ref b]) ∧ PdsAt H ws (NP (bodyOf p x))) ∨ (¬ Ex p x ∧ H t = some (.tup [.str "loose", .ref b]) ∧ ∃ zs, ws = zs.map V.str ∧ Tells zs (nmB (bodyOf p x))))
theorem FmAt.keep {H H' : Hp} {p : Pr} {x : Str} {v : V} (k : Kp H H') (h : FmAt H p x v) : FmAt H' p x v := by
  obtain ⟨t, b, ws, rfl, hb, h⟩ := h
  refine ⟨t, b, ws, rfl, k.l _ _ hb, ?_⟩
  rcases h with ⟨h1, h2, h3⟩ | ⟨h1, h2, h3⟩
  · exact .inl ⟨h1, k.t _ _ h2, h3.keep k⟩
  · exact .inr ⟨h1, k.t _ _ h2, h3⟩
inductive FmKv (H : Hp) (p : Pr) : List (Key × V) → List Str → Prop
  | nil : FmKv H p [] []
  | cons {x : Str} {v : V} {kvs : List (Key × V)} {ys : List Str} : FmAt H p x v → FmKv H p kvs ys → FmKv H p ((.inr x, v) :: kvs) (x :: ys)
theorem FmKv.keep {H H' : Hp} {p : Pr} (k : Kp H H') : ∀ {kvs : List (Key × V)} {ys : List Str}, FmKv H p kvs ys → FmKv H' p kvs ys
  | _, _, .nil => .nil
  | _, _, .cons h t => .cons (h.keep k) (t.keep k)
theorem FmKv.snoc {H : Hp} {p : Pr} {x : Str} {v : V} (hv : FmAt H p x v) : ∀ {kvs : List (Key × V)} {ys : List Str}, FmKv H p kvs ys → FmKv H p (kvs ++ [(.inr x, v)]) (ys ++ [x])
  | _, _, .nil => .cons hv .nil
  | _, _, .cons h t => .cons h (t.snoc hv)
theorem FmKv.len {H : Hp} {p : Pr} : ∀ {kvs : List (Key × V)} {ys : List Str}, FmKv H p kvs ys → kvs.length = ys.length
  | _, _, .nil => rfl
  | _, _, .cons _ t => congrArg (· + 1) t.len
theorem FmKv.keys {H : Hp} {p : Pr} : ∀ {kvs : List (Key × V)} {ys : List Str}, FmKv H p kvs ys → kvs.map (·.1) = ys.map Sum.inr
  | _, _, .nil => rfl
  | _, _, .cons _ t => by rw [List.map_cons, List.map_cons, t.keys]
theorem FmKv.get {H : Hp} {p : Pr} : ∀ {kvs : List (Key × V)} {ys : List Str} {i : Nat} {k : Key} {v : V}, FmKv H p kvs ys → kvs[i]? = some (k, v) → ∃ x, k = .inr x ∧ ys[i]? = some x ∧ FmAt H p x v
  | _, _, _, _, _, .nil, e => by simp at e
  | _, _, 0, _, _, .cons h _, e => by simp at e; obtain ⟨rfl, rfl⟩ := e; exact ⟨_, rfl, rfl, h⟩
  | _, _, i + 1, _, _, .cons _ t, e => by
    obtain ⟨x, h1, h2, h3⟩ := FmKv.get (i := i) t (by simpa using e)
    exact ⟨x, h1, by simpa using h2, h3⟩
theorem FmKv.out {H : Hp} {p : Pr} {kvs : List (Key × V)} {ys : List Str} {x : Str} (h : FmKv H p kvs ys) (hx : x ∉ ys) : valV kvs (.inr x) = none := valV_out fun q hq e => by
  have : q.1 ∈ kvs.map (·.1) := List.mem_map.mpr ⟨q, hq, rfl⟩
  rw [h.keys, e] at this
  obtain ⟨y, hy, e2⟩ := List.mem_map.mp this
  exact hx (Sum.inr.inj e2 ▸ hy)
theorem FmKv.look {H : Hp} {p : Pr} {x : Str} : ∀ {kvs : List (Key × V)} {ys : List Str}, FmKv H p kvs ys → x ∈ ys → ∃ v, valV kvs (.inr x) = some v ∧ FmAt H p x v
  | _, _, .nil, h => by cases h
  | _, _, .cons (x := y) (v := v) h t, hx => by
    by_cases e : y = x
    · subst e
      exact ⟨v, valV_pos rfl, h⟩
    · obtain ⟨v', h1, h2⟩ := t.look ((List.mem_cons.mp hx).resolve_left fun z => e z.symm)
      exact ⟨v', by rw [valV_neg (fun z => e (Sum.inr.inj z))]; exact h1, h2⟩
def spForm : Sp := fun vs H Q _ => ∃ (d : Addr) (p : Pr), vs = [.ref d] ∧ PrAt H d p ∧ Valid p ∧ ∀ r ys kvs H', Same H H' → H r = none → H' r = some (.dK kvs) → FmKv (frl H H') p kvs ys → ys.Nodup → sortedS ys = true → (∀ x, x ∈ ys ↔ Rc p x) → Q (.ref r) H'
theorem okForm (T : Txt K mg) : FnOk P w K mg base CX0 17 T.aFormOf T.fFormOf ["program"] spForm := by
  have GExactFunctions : FnOk P w K mg base CX0 16 T.aExactFunctions T.fExactFunctions ["program"] spExact := okExact T
  have GReached : FnOk P w K mg base CX0 14 T.aReached T.fReached ["program"] spReached := okReached T
  have GNormalProducts : FnOk P w K mg base CX0 14 T.aNormalProducts T.fNormalProducts ["body"] spNP := okNP T
  have GCallees : FnOk P w K mg base CX0 14 T.aCallees T.fCallees ["program", "name"] spCallees := okCallees T
  refine T.FFormOf.ok scFormOf (fun vs H Q E h => ?_) (fun cdv A outer s H vs Q E hr h => ?_)
  · obtain ⟨d, p, rfl, _⟩ := h
    rfl
  obtain ⟨d, p, rfl, hpa, va, q⟩ := h
  have hu := hu_of hr
  refine ⟨_, (pss_cons (ps_set (i := 1) scFormOf.nd rfl (by first | exact Or.inl rfl | exact Or.inr rfl) (pe_call GExactFunctions (hr.mono (by omega)) rfl T.gExactFunctions T.FExactFunctions.kp T.bExactFunctions .nil pass0 (pa_cons (pv 0) pa_nil)))
      (pss_cons (ps_set (i := 2) scFormOf.nd rfl (by first | exact Or.inl rfl | exact Or.inr rfl) pe_dnewK)
      (pss_cons (ps_for PassesOwn.never rfl (pi_list (pe_call GReached (hr.mono (by omega)) rfl T.gReached T.FReached.kp T.bReached .nil pass0 (pa_cons (pv 0) pa_nil))) (pg_name (i := 3) scFormOf.nd rfl (by first | exact Or.inl rfl | exact Or.inr rfl))
        (pss_one (ps_if (pt_cmpR op_in_seq (pv 3) (pv 1) (by rfl))
          (pss_one (ps_dput hu (pv 2) (pv 3) (pe_tup (pa_cons pe_str (pa_cons (pe_call GNormalProducts (hr.mono (by omega)) rfl T.gNormalProducts T.FNormalProducts.kp T.bNormalProducts .nil pass0 (pa_cons (pe_dget hu (pv 0) (pv 3) (fun _ _ => rfl)) pa_nil)) pa_nil))) rfl)) (pss_one (ps_dput hu (pv 2) (pv 3) (pe_tup (pa_cons pe_str (pa_cons (pe_call GCallees (hr.mono (by omega)) rfl T.gCallees T.FCallees.kp T.bCallees .nil pass0 (pa_cons (pv 0) (pa_cons (pv 3) pa_nil))) pa_nil))) rfl)))))
      (pss_one (ps_ret (pv 2)))))), ?_⟩
  have hlen := va.len
  refine ⟨_, rfl, d, p, rfl, hpa, va, fun re xs H1 s1 hren hre hnd hso hex => ?_⟩
  intro F hF
  have hF0 : H F = none := none_back (W := []) (Sm.of_same s1) (fun _ z => by cases z) hF
  have s2 := same_upd0 hF (.dK [])
  have eF : (upd H1 F (.dK [])) F = some (.dK []) := upd_same
  have hre2 := s2 _ _ hre
  have s02 := s1.trans s2
  generalize upd H1 F (.dK []) = H2 at s2 eF hre2 s02 ⊢
  have hreF : re ≠ F := ne_of_none hre hF
  refine ⟨_, rfl, d, p, rfl, PrAt.same s02 hpa, va, fun rr ys H3 s3 hrrn hrr hynd hyso hyr => ?_⟩
  have hrrF : rr ≠ F := (ne_of_none eF hrrn).symm
  have hy6 : ys.length ≤ 6 := by
    have := nd_le hynd fun x hx => ((hyr x).mp hx).name va
    unfold pNames at this
    rw [List.length_map] at this
    omega
  refine ⟨rr, rfl, ⟨_, SqL.of hrr⟩, for_list (K := K) (a := rr) (xs := ys.map V.str) (fun i σ H' => ∃ (kvs : List (Key × V)) (v3 : Option V), σ = [some (.ref d), some (.ref re), some (.ref F), v3] ∧ Same H H' ∧ H' re = some (.lst (xs.map V.str)) ∧ H' rr = some (.lst (ys.map V.str)) ∧ H' F = some (.dK kvs) ∧ FmKv (frl H H') p kvs (ys.take i)) ⟨[], none, rfl, s02.trans s3, s3 _ _ hre2, hrr, s3 _ _ eF, .nil⟩ ?_ ?_ ?_⟩
  · rintro i σ H' _ ⟨_, _, _, _, _, h, _⟩
    exact SqL.of h
  · rintro i y σ H4 hi ⟨kvs, v3, rfl, sm, hre4, hrr4, hF4, hk⟩
    obtain ⟨x, hx, rfl⟩ := str_get hi
    have hxn := ((hyr x).mp (List.mem_of_getElem? hx)).name va
    have kl := hk.len
    rw [List.length_take] at kl
    have hout := nd_take hynd hx
    have fin : ∀ (H5 : Hp) (v : V), Same H4 H5 → FmAt (frl H H5) p x v → ∃ (kvs' : List (Key × V)) (v3 : Option V), [some (V.ref d), some (V.ref re), some (V.ref F), some (V.str x)] = [some (.ref d), some (.ref re), some (.ref F), v3] ∧ Same H (upd H5 F (.dK (putK kvs (.inr x) v))) ∧ (upd H5 F (.dK (putK kvs (.inr x) v))) re = some (.lst (xs.map V.str)) ∧ (upd H5 F (.dK (putK kvs (.inr x) v))) rr = some (.lst (ys.map V.str)) ∧ (upd H5 F (.dK (putK kvs (.inr x) v))) F = some (.dK kvs') ∧ FmKv (frl H (upd H5 F (.dK (putK kvs (.inr x) v)))) p kvs' (ys.take (i + 1)) := fun H5 v s5 hv => by
      refine ⟨_, _, rfl, fun c o e => ?_, by rw [upd_ne hreF]; exact s5 _ _ hre4, by rw [upd_ne hrrF]; exact s5 _ _ hrr4, upd_same, ?_⟩
      · rw [upd_ne (ne_of_none e hF0)]
        exact s5 _ _ (sm _ _ e)
      · rw [putK_new _ (hk.out hout), List.take_add_one, hx]
        exact ((hk.keep (kp_frl_same s5)).snoc hv).keep (kp_frl_dk (s5 _ _ hF4))
    obtain ⟨l0, e0⟩ := lookup_mem hxn
    rcases (PrAt.same sm hpa).look (x := x) with ⟨z1, _⟩ | ⟨l, b, z1, z2, z3⟩
    · rw [e0] at z1; cases z1
    obtain ⟨o1, o2, o3, o4⟩ := va.ok x l z1
    have eb : bodyOf p x = l := by unfold bodyOf; rw [z1]; rfl
    have hn : ∀ x ∈ pNames p, FA.okName x := fun x hx => va.nm x hx
    refine ⟨_, rfl, _, rfl, re, _, rfl, .inl (SqL.of hre4), rfl, strs_flat _, _, rfl, ?_⟩
    rw [inV_strs]
    refine ite2 (fun h => ?_) (fun h => ?_)
    · have hE : Ex p x := (hex x).mp (of_decide_eq_true h)
      refine ⟨_, rfl, _, rfl, d, _, rfl, z2, b, l, pNames p, rfl, z3, o1, hn, o2, o3, o4, fun rp H5 wp s5 hrpn hrp hpp => ?_⟩
      refine ⟨Nat.le_of_lt (small1000 (by simp)), fun t ht => ?_⟩
      have s6 := same_upd0 ht (.tup [V.str "exact", V.ref rp])
      have hF6 := s6 _ _ (s5 _ _ hF4)
      refine ⟨_, rfl, _, rfl, F, _, rfl, DPut.k (k := .inr x) hF6 (small1000 (by omega)), ?_⟩
      refine fin _ _ (s5.trans s6) ⟨t, rp, wp, rfl, frl_l.mpr ⟨none_back (W := []) (Sm.of_same sm) (fun _ z => by cases z) hrpn, s6 _ _ hrp⟩, .inl ⟨hE, frl_t.mpr upd_same, ?_⟩⟩
      rw [eb]
      exact (hpp.keep (kp_frl_back sm)).keep (kp_frl_same s6)
    · have hE : ¬ Ex p x := fun z => h (decide_eq_true ((hex x).mpr z))
      refine ⟨_, rfl, _, rfl, d, p, x, rfl, PrAt.same sm hpa, va, hxn, fun rc zs H5 s5 hrcn hrc tl => ?_⟩
      refine ⟨Nat.le_of_lt (small1000 (by simp)), fun t ht => ?_⟩
      have s6 := same_upd0 ht (.tup [V.str "loose", V.ref rc])
      have hF6 := s6 _ _ (s5 _ _ hF4)
      refine ⟨_, rfl, _, rfl, F, _, rfl, DPut.k (k := .inr x) hF6 (small1000 (by omega)), ?_⟩
      exact fin _ _ (s5.trans s6) ⟨t, rc, _, rfl, frl_l.mpr ⟨none_back (W := []) (Sm.of_same sm) (fun _ z => by cases z) hrcn, s6 _ _ hrc⟩, .inr ⟨hE, frl_t.mpr upd_same, zs, rfl, tl⟩⟩
  · rintro σ H4 ⟨kvs, v3, rfl, sm, hre4, hrr4, hF4, hk⟩
    rw [List.length_map, List.take_length] at hk
    exact ⟨_, rfl, q F ys kvs H4 sm hF0 hF4 hk hynd hyso hyr⟩
end K43


set_option Elab.async false
set_option linter.all false
set_option maxRecDepth 100000
set_option maxHeartbeats 8000000
namespace K43
open PySem PySem.Spec PyProof.Rows L2 FA
variable {P : Program} {w : World} {K : PySem.W.Frag} {mg : Str → Option Value} {base : Heap}
def spPrdsOf : Sp := fun vs H Q _ => ∃ (d : Addr) (p : Pr) (x : Str), vs = [.ref d, .str x] ∧ PrAt H d p ∧ Valid p ∧ x ∈ pNames p ∧ ∀ r H' ws, Same H H' → H r = none → H' r = some (.lst ws) → PdsAt (frl H H') ws (NP (bodyOf p x)) → Q (.ref r) H'
theorem okPrdsOf (T : Txt K mg) : FnOk P w K mg base CX0 15 T.aProductsOf T.fProductsOf ["program", "name"] spPrdsOf := by
  have GCheckProgram : FnOk P w K mg base CX0 13 T.aCheckProgram T.fCheckProgram ["program"] spCheckProgram := okCheckProgram T
  have GCheckName : FnOk P w K mg base CX0 2 T.aCheckName T.fCheckName ["program", "name"] spCheckName := okCheckName T
  have GNormalProducts : FnOk P w K mg base CX0 14 T.aNormalProducts T.fNormalProducts ["body"] spNP := okNP T
  refine T.FProductsOf.ok scProductsOf (fun vs H Q E h => ?_) (fun cdv A outer s H vs Q E hr h => ?_)
  · obtain ⟨d, p, x, rfl, _⟩ := h
    rfl
  obtain ⟨d, p, x, rfl, hpa, va, hx, q⟩ := h
  have hu := hu_of hr
  refine ⟨_, (pss_cons (ps_expr (pe_call GCheckProgram (hr.mono (by omega)) rfl T.gCheckProgram T.FCheckProgram.kp T.bCheckProgram .nil pass0 (pa_cons (pv 0) pa_nil)))
      (pss_cons (ps_expr (pe_call GCheckName (hr.mono (by omega)) rfl T.gCheckName T.FCheckName.kp T.bCheckName .nil pass0 (pa_cons (pv 0) (pa_cons (pv 1) pa_nil))))
      (pss_one (ps_ret (pe_call GNormalProducts (hr.mono (by omega)) rfl T.gNormalProducts T.FNormalProducts.kp T.bNormalProducts .nil pass0 (pa_cons (pe_dget hu (pv 0) (pv 1) (fun _ _ => rfl)) pa_nil)))))), ?_⟩
  refine ⟨_, rfl, d, p, rfl, hpa, va, fun H1 s1 => ?_⟩
  have hpa1 := PrAt.same s1 hpa
  refine ⟨_, rfl, _, rfl, d, p, x, rfl, hpa1, hx, ?_⟩
  obtain ⟨l0, e0⟩ := lookup_mem hx
  rcases hpa1.look (x := x) with ⟨z1, _⟩ | ⟨l, b, z1, z2, z3⟩
  · rw [e0] at z1; cases z1
  obtain ⟨o1, o2, o3, o4⟩ := va.ok x l z1
  have eb : bodyOf p x = l := by unfold bodyOf; rw [z1]; rfl
  have hn : ∀ x ∈ pNames p, FA.okName x := fun x hx => va.nm x hx
  rw [eb] at q
  exact ⟨_, rfl, _, rfl, d, _, rfl, z2, b, l, pNames p, rfl, z3, o1, hn, o2, o3, o4, fun r H2 ws s2 hrn hr2 hp => q r H2 ws (s1.trans s2) (none_back (W := []) (Sm.of_same s1) (fun _ z => by cases z) hrn) hr2 (hp.keep (kp_frl_back s1))⟩
def spRept : Sp := fun vs H Q _ => ∃ (d : Addr) (p : Pr) (x y : Str), vs = [.ref d, .str x, .str y] ∧ PrAt H d p ∧ Valid p ∧ x ∈ pNames p ∧ y ∈ nmB (bodyOf p x) ∧ ∀ (c : Bool) H', Same H H' → (c = true ↔ ¬ Sing (NP (bodyOf p x)) y) → Q (.bl c) H'
theorem okRept (T : Txt K mg) : FnOk P w K mg base CX0 15 T.aIsRepeatable T.fIsRepeatable ["program", "name", "callee"] spRept := by
  have GCheckProgram : FnOk P w K mg base CX0 13 T.aCheckProgram T.fCheckProgram ["program"] spCheckProgram := okCheckProgram T
  have GCheckName : FnOk P w K mg base CX0 2 T.aCheckName T.fCheckName ["program", "name"] spCheckName := okCheckName T
  have GNamesIn : FnOk P w K mg base CX0 6 T.aNamesIn T.fNamesIn ["body"] (spNames 4) := okNamesIn T 4
  have GNormalProducts : FnOk P w K mg base CX0 14 T.aNormalProducts T.fNormalProducts ["body"] spNP := okNP T
  have GOnceBetween : FnOk P w K mg base CX0 4 T.aOnceBetween T.fOnceBetween ["products", "callee"] spOnce := okOnce T
  refine T.FIsRepeatable.ok scIsRepeatable (fun vs H Q E h => ?_) (fun cdv A outer s H vs Q E hr h => ?_)
  · obtain ⟨d, p, x, y, rfl, _⟩ := h
    rfl
  obtain ⟨d, p, x, y, rfl, hpa, va, hx, hy, q⟩ := h
  have hu := hu_of hr
  refine ⟨_, (pss_cons (ps_expr (pe_call GCheckProgram (hr.mono (by omega)) rfl T.gCheckProgram T.FCheckProgram.kp T.bCheckProgram .nil pass0 (pa_cons (pv 0) pa_nil)))
      (pss_cons (ps_expr (pe_call GCheckName (hr.mono (by omega)) rfl T.gCheckName T.FCheckName.kp T.bCheckName .nil pass0 (pa_cons (pv 0) (pa_cons (pv 1) pa_nil))))
      (pss_cons (ps_if (pt_cmpR op_notIn_seq (pv 2) (pe_call GNamesIn (hr.mono (by omega)) rfl T.gNamesIn T.FNamesIn.kp T.bNamesIn .nil pass0 (pa_cons (pe_dget hu (pv 0) (pv 1) (fun _ _ => rfl)) pa_nil)) (by rfl))
        (pss_one ps_never) pss_nil)
      (pss_one (ps_ret (pe_cmpR op_isN (pe_call GOnceBetween (hr.mono (by omega)) rfl T.gOnceBetween T.FOnceBetween.kp T.bOnceBetween .nil pass0 (pa_cons (pe_call GNormalProducts (hr.mono (by omega)) rfl T.gNormalProducts T.FNormalProducts.kp T.bNormalProducts .nil pass0 (pa_cons (pe_dget hu (pv 0) (pv 1) (fun _ _ => rfl)) pa_nil)) (pa_cons (pv 2) pa_nil))) pe_non (nomark _))))))), ?_⟩
  refine ⟨_, rfl, d, p, rfl, hpa, va, fun H1 s1 => ?_⟩
  have hpa1 := PrAt.same s1 hpa
  refine ⟨_, rfl, _, rfl, d, p, x, rfl, hpa1, hx, ?_⟩
  obtain ⟨l0, e0⟩ := lookup_mem hx
  rcases hpa1.look (x := x) with ⟨z1, _⟩ | ⟨l, b, z1, z2, z3⟩
  · rw [e0] at z1; cases z1
  obtain ⟨o1, o2, o3, o4⟩ := va.ok x l z1
  have eb : bodyOf p x = l := by unfold bodyOf; rw [z1]; rfl
  have hn : ∀ x ∈ pNames p, FA.okName x := fun x hx => va.nm x hx
  rw [eb] at q hy
  obtain ⟨np1, np2⟩ := NP_ok hn o1 o2 o3
  have hyo : FA.okName y := hn y (nmB_ok l o1 y hy)
  refine ⟨_, rfl, _, rfl, _, rfl, d, _, rfl, z2, b, l, pNames p, rfl, z3, o1, by omega, o3, o4, fun r H2 s2 hrn hr2 => ?_⟩
  refine ⟨r, _, rfl, .inl (SqL.of hr2), rfl, strs_flat _, _, rfl, ?_⟩
  rw [inV_strs, decide_eq_true hy]
  refine iteF ?_
  have s02 := s1.trans s2
  rcases (PrAt.same s02 hpa).look (x := x) with ⟨w1, _⟩ | ⟨l2, b2, w1, w2, w3⟩
  · rw [e0] at w1; cases w1
  rw [z1] at w1
  cases w1
  refine ⟨_, rfl, _, rfl, d, _, rfl, w2, b2, l, pNames p, rfl, w3, o1, hn, o2, o3, o4, fun rp H3 wp s3 hrpn hrp hpp => ?_⟩
  have s03 := s02.trans s3
  refine ⟨_, rfl, rp, wp, NP l, y, rfl, hrp, hpp.keep kp_frl, np1, np2, hyo, fun hns H8 s8 => ?_, fun p' k t a c' va' vc' H8 hp' hk' hin s8 ht _ _ _ _ _ _ => ?_⟩
  · exact ⟨rfl, q _ H8 (s03.trans s8) ⟨fun _ => hns, fun _ => rfl⟩⟩
  · exact ⟨rfl, q _ H8 (s03.trans s8) ⟨fun z => (by cases z), fun z => absurd ⟨p', hp', k, hk', hin⟩ z⟩⟩
end K43


set_option Elab.async false
set_option linter.all false
set_option maxRecDepth 100000
set_option maxHeartbeats 8000000
namespace K43
open PySem PySem.Spec PyProof.Rows L2 FA
variable {P : Program} {w : World} {K : PySem.W.Frag} {mg : Str → Option Value} {base : Heap}
def spDue : Sp := fun vs H Q _ => ∃ (d : Addr) (p : Pr), vs = [.ref d] ∧ PrAt H d p ∧ Valid p ∧ ∀ r ys kvs H', Same H H' → H r = none → H' r = some (.dK kvs) → FmKv (frl H H') p kvs ys → ys.Nodup → sortedS ys = true → (∀ x, x ∈ ys ↔ Rc p x) → Q (.ref r) H'
theorem okLDue (T : Txt K mg) : FnOk P w K mg base CX0 16 T.aLDue T.fLDue ["program"] spDue := by
  have GIsRepeatable : FnOk P w K mg base CX0 15 T.aIsRepeatable T.fIsRepeatable ["program", "name", "callee"] spRept := okRept T
  have GReached : FnOk P w K mg base CX0 14 T.aReached T.fReached ["program"] spReached := okReached T
  have GProductsOf : FnOk P w K mg base CX0 15 T.aProductsOf T.fProductsOf ["program", "name"] spPrdsOf := okPrdsOf T
  have GCallees : FnOk P w K mg base CX0 14 T.aCallees T.fCallees ["program", "name"] spCallees := okCallees T
  refine T.FLDue.ok scLDue (fun vs H Q E h => ?_) (fun cdv A outer s H vs Q E hr h => ?_)
  · obtain ⟨d, p, rfl, _⟩ := h
    rfl
  obtain ⟨d, p, rfl, hpa, va, q⟩ := h
  have hu := hu_of hr
  refine ⟨_, (pss_cons (ps_par3 (i := 2) (j := 3) (l := 4) rfl scLDue.nd rfl rfl rfl (by decide) (by decide) (by decide) rfl rfl rfl (pa_cons (pe_lst (pa_cons pe_str pa_nil)) (pa_cons pe_int (pa_cons pe_dnewK pa_nil))) (by rfl))
      (pss_cons (ps_while PassesOwn.never (pt_cmpR op_lt (pv 3) (pe_callB call_len_seq (by rfl) T.n_len PySem.boot_len (pa_cons (pv 2) pa_nil)) (nomark _))
        (pss_cons (ps_set (i := 5) scLDue.nd rfl (by first | exact Or.inl rfl | exact Or.inr rfl) (pe_ix ix_list (pv 2) (pv 3) (fun _ _ => rfl)))
        (pss_cons (ps_for PassesOwn.never rfl (pi_list (pe_call GCallees (hr.mono (by omega)) rfl T.gCallees T.FCallees.kp T.bCallees .nil pass0 (pa_cons (pv 0) (pa_cons (pv 5) pa_nil)))) (pg_name (i := 1) scLDue.nd rfl (by first | exact Or.inl rfl | exact Or.inr rfl))
          (pss_one (ps_if (PW.pt (pw_and (pt_cmpR op_notIn_seq (pv 1) (pv 2) (by rfl)) (pw_and1 (pt_not (pt_val (pe_call GIsRepeatable (hr.mono (by omega)) rfl T.gIsRepeatable T.FIsRepeatable.kp T.bIsRepeatable .nil pass0 (pa_cons (pv 0) (pa_cons (pv 5) (pa_cons (pv 1) pa_nil)))))))))
            (pss_one (ps_expr (pe_bm PySem.F.plainAttrs_list PySem.F.slot_list_append PySem.F.type_list_append mt_append (pv 2) (pa_cons (pv 1) pa_nil)))) pss_nil)))
        (pss_one (ps_set (i := 3) scLDue.nd rfl (by first | exact Or.inl rfl | exact Or.inr rfl) (pe_op op_add (pv 3) pe_int))))))
      (pss_cons (ps_for PassesOwn.never rfl (pi_list (pe_call GReached (hr.mono (by omega)) rfl T.gReached T.FReached.kp T.bReached .nil pass0 (pa_cons (pv 0) pa_nil))) (pg_name (i := 1) scLDue.nd rfl (by first | exact Or.inl rfl | exact Or.inr rfl))
        (pss_cons (ps_dput hu (pv 4) (pv 1) (pe_tup (pa_cons pe_str (pa_cons (pe_call GCallees (hr.mono (by omega)) rfl T.gCallees T.FCallees.kp T.bCallees .nil pass0 (pa_cons (pv 0) (pa_cons (pv 1) pa_nil))) pa_nil))) rfl)
        (pss_one (ps_if (pt_cmpR op_in_seq (pv 1) (pv 2) (by rfl))
          (pss_one (ps_dput hu (pv 4) (pv 1) (pe_tup (pa_cons pe_str (pa_cons (pe_call GProductsOf (hr.mono (by omega)) rfl T.gProductsOf T.FProductsOf.kp T.bProductsOf .nil pass0 (pa_cons (pv 0) (pa_cons (pv 1) pa_nil))) pa_nil))) rfl)) pss_nil))))
      (pss_one (ps_ret (pv 4)))))), ?_⟩
  have hlen := va.len
  refine ⟨Nat.le_of_lt (small1000 (by simp)), fun W hW => ?_⟩
  have s1 := same_upd0 hW (.lst [V.str "main"])
  have eW : (upd H W (.lst [V.str "main"])) W = some (.lst ((["main"] : List Str).map V.str)) := upd_same
  generalize upd H W (.lst [V.str "main"]) = H1 at s1 eW ⊢
  intro F hF
  have hF0 : H F = none := none_back (W := []) (Sm.of_same s1) (fun _ z => by cases z) hF
  have hWF : W ≠ F := ne_of_none eW hF
  have s2 := same_upd0 hF (.dK [])
  have eF : (upd H1 F (.dK [])) F = some (.dK []) := upd_same
  have eW2 := s2 _ _ eW
  have s02 := s1.trans s2
  generalize upd H1 F (.dK []) = H2 at s2 eF eW2 s02 ⊢
  clear s1 s2 eW hF
  refine ⟨_, _, _, rfl, ?_⟩
  have fin : ∀ {gs : List Str}, (∀ x ∈ gs, Ex p x) → gs.Nodup → gs.length ≤ p.length := fun rc nd => by
    have := nd_le nd fun x hx => (rc x hx).name va
    unfold pNames at this
    rwa [List.length_map] at this
  refine ⟨fun m σ H' => ∃ (es : List Str) (k : Nat) (v1 v5 : Option V), m = 6 - k ∧ σ = [some (.ref d), v1, some (.ref W), some (.int (k : Int)), some (.ref F), v5] ∧ Same H H' ∧ H' W = some (.lst (es.map V.str)) ∧ H' F = some (.dK []) ∧ es.Nodup ∧ (∀ x ∈ es, Ex p x) ∧ ("main" : Str) ∈ es ∧ k ≤ es.length ∧ (∀ x ∈ es.take k, ∀ y ∈ nmB (bodyOf p x), Sing (NP (bodyOf p x)) y → y ∈ es), ⟨_, ["main"], 0, none, none, rfl, rfl, s02, eW2, eF, by simp, fun x hx => by rw [List.mem_singleton.mp hx]; exact .main, by simp, by simp, fun x hx => by simp at hx⟩, ?_⟩
  rintro m σ H3 ⟨es, k, v1, v5, rfl, rfl, s3, hW3, hF3, nd, ex, hm, hk, cl⟩
  have el := fin ex nd
  refine ⟨_, rfl, _, rfl, W, _, rfl, .inl (SqL.of hW3), _, _, rfl, rfl, _, rfl, ?_⟩
  refine ite2 (fun hlt => ?_) (fun hge => ?_)
  · have hlt := of_decide_eq_true hlt
    rw [List.length_map] at hlt
    have hkl : k < es.length := by omega
    obtain ⟨c, hc⟩ : ∃ c, es[k]? = some c := ⟨_, List.getElem?_eq_getElem hkl⟩
    have hce : c ∈ es := List.mem_of_getElem? hc
    have hcn := (ex c hce).name va
    have hat : atI (es.map V.str) ((k : Int)) = some (.str c) := atI_nat (by rw [List.getElem?_map, hc]; rfl)
    refine ⟨_, fun σ' H' h => h, ?_⟩
    refine ⟨_, rfl, _, rfl, W, _, _, _, rfl, rfl, SqL.of hW3, hat, ?_⟩
    refine ⟨_, rfl, _, rfl, d, p, c, rfl, PrAt.same s3 hpa, va, hcn, fun r zs H4 s4 hrn hr4 tl => ?_⟩
    have hrW : r ≠ W := (ne_of_none hW3 hrn).symm
    refine ⟨r, rfl, ⟨_, SqL.of hr4⟩, for_list (K := K) (a := r) (xs := zs.map V.str) (fun j σ H' => ∃ (fs : List Str) (v1 : Option V), σ = [some (.ref d), v1, some (.ref W), some (.int (k : Int)), some (.ref F), some (.str c)] ∧ Same H H' ∧ H' r = some (.lst (zs.map V.str)) ∧ H' W = some (.lst (fs.map V.str)) ∧ H' F = some (.dK []) ∧ es <+: fs ∧ fs.Nodup ∧ (∀ x ∈ fs, Ex p x) ∧ (∀ y ∈ zs.take j, Sing (NP (bodyOf p c)) y → y ∈ fs)) ⟨es, v1, rfl, s3.trans s4, hr4, s4 _ _ hW3, s4 _ _ hF3, List.prefix_refl _, nd, ex, by simp⟩ ?_ ?_ ?_⟩
    · rintro j σ H' _ ⟨_, _, _, _, h, _⟩
      exact SqL.of h
    · rintro j y σ H5 hj ⟨fs, v1, rfl, s5, hr5, hW5, hF5, pre, nd5, ex5, tk⟩
      obtain ⟨x, hx, rfl⟩ := str_get hj
      have hxb : x ∈ nmB (bodyOf p c) := (tl.mem x).mp (List.mem_of_getElem? hx)
      have fl := fin ex5 nd5
      have tk' : ∀ {gs : List Str}, (∀ y ∈ zs.take j, Sing (NP (bodyOf p c)) y → y ∈ gs) → (Sing (NP (bodyOf p c)) x → x ∈ gs) → ∀ y ∈ zs.take (j + 1), Sing (NP (bodyOf p c)) y → y ∈ gs := fun h hx2 y hy2 hs => by
        rw [List.take_add_one, hx, List.mem_append] at hy2
        rcases hy2 with z | z
        · exact h y z hs
        · simp at z; subst z; exact hx2 hs
      refine ⟨_, rfl, _, rfl, W, _, rfl, .inl (SqL.of hW5), rfl, strs_flat _, _, rfl, ?_⟩
      rw [inV_strs]
      by_cases hg : x ∈ fs
      · rw [decide_eq_true hg]
        refine iteF ?_
        refine iteF ?_
        exact ⟨fs, _, rfl, s5, hr5, hW5, hF5, pre, nd5, ex5, tk' tk fun _ => hg⟩
      · rw [decide_eq_false hg]
        refine iteT ?_
        refine ⟨_, rfl, _, rfl, _, rfl, d, p, c, x, rfl, PrAt.same s5 hpa, va, hcn, hxb, fun cb H6 s6 hcb => ?_⟩
        refine ⟨_, rfl, ?_⟩
        cases cb with
        | true =>
          refine iteF ?_
          exact ⟨fs, _, rfl, s5.trans s6, s6 _ _ hr5, s6 _ _ hW5, s6 _ _ hF5, pre, nd5, ex5, tk' tk fun h => absurd h (hcb.mp rfl)⟩
        | false =>
          have hS : Sing (NP (bodyOf p c)) x := Classical.byContradiction fun h => by cases hcb.mpr h
          refine iteT ?_
          have hW6 := s6 _ _ hW5
          refine ⟨_, rfl, .inl ⟨rfl, _, SqL.of hW6⟩, _, rfl, W, _, .str x, rfl, rfl, hW6, small1000 (by rw [List.length_map]; omega), ?_⟩
          refine ⟨fs ++ [x], _, rfl, fun b o e => ?_, by rw [upd_ne hrW]; exact s6 _ _ hr5, by rw [upd_same, List.map_append]; rfl, by rw [upd_ne hWF.symm]; exact s6 _ _ hF5, pre.trans (List.prefix_append _ _), ?_, fun z hz => ?_, tk' (fun z hz hs => List.mem_append_left _ (tk z hz hs)) fun _ => by simp⟩
          · rw [upd_ne (ne_of_none e hW)]
            exact s6 _ _ (s5 _ _ e)
          · rw [List.nodup_append]
            exact ⟨nd5, by simp, fun a ha b hb e => hg (by rw [← List.mem_singleton.mp hb, ← e]; exact ha)⟩
          · rcases List.mem_append.mp hz with h | h
            · exact ex5 z h
            · rw [List.mem_singleton.mp h]
              exact (ex c hce).step hxb hS
    · rintro σ H5 ⟨fs, v1, rfl, s5, hr5, hW5, hF5, pre, nd5, ex5, tk⟩
      rw [List.length_map, List.take_length] at tk
      have pl := pre.length_le
      have hek : fs.take k = es.take k := by
        obtain ⟨r', rfl⟩ := pre
        rw [List.take_append_of_le_length (by omega)]
      have hck : fs[k]? = some c := by
        obtain ⟨r', rfl⟩ := pre
        rw [List.getElem?_append_left hkl]
        exact hc
      refine ⟨_, rfl, _, _, rfl, rfl, ?_⟩
      refine ⟨_, ?_, fs, k + 1, _, _, rfl, rfl, s5, hW5, hF5, nd5, ex5, pre.subset hm, by omega, fun x hx y hy hs => ?_⟩
      · omega
      · rw [List.take_add_one, hek, hck] at hx
        rcases List.mem_append.mp hx with h | h
        · exact pre.subset (cl x h y hy hs)
        · simp at h
          subst h
          exact tk y ((tl.mem y).mpr hy) hs
  · have hge : ¬ ((k : Int) < ((es.map V.str).length : Int)) := fun z => hge (decide_eq_true z)
    rw [List.length_map] at hge
    rw [show k = es.length by omega, List.take_length] at cl
    have hex : ∀ x, x ∈ es ↔ Ex p x := fun x => ⟨ex x, fun h => h.of hm cl⟩
    have hWH : H W = none := hW
    have s3' := s3
    refine ⟨_, rfl, d, p, rfl, PrAt.same s3 hpa, va, fun rr ys H4 s4 hrrn hrr hynd hyso hyr => ?_⟩
    have hrrF : rr ≠ F := (ne_of_none hF3 hrrn).symm
    have s04 := s3.trans s4
    have hy6 : ys.length ≤ 6 := by
      have := nd_le hynd fun x hx => ((hyr x).mp hx).name va
      unfold pNames at this
      rw [List.length_map] at this
      omega
    refine ⟨rr, rfl, ⟨_, SqL.of hrr⟩, for_list (K := K) (a := rr) (xs := ys.map V.str) (fun i σ H' => ∃ (kvs : List (Key × V)) (v1 : Option V), σ = [some (.ref d), v1, some (.ref W), some (.int (k : Int)), some (.ref F), v5] ∧ Same H H' ∧ H' W = some (.lst (es.map V.str)) ∧ H' rr = some (.lst (ys.map V.str)) ∧ H' F = some (.dK kvs) ∧ FmKv (frl H H') p kvs (ys.take i)) ⟨[], v1, rfl, s04, s4 _ _ hW3, hrr, s4 _ _ hF3, .nil⟩ ?_ ?_ ?_⟩
    · rintro i σ H' _ ⟨_, _, _, _, _, h, _⟩
      exact SqL.of h
    · rintro i y σ H5 hi ⟨kvs, w1, rfl, sm, hW5, hrr5, hF5, hk5⟩
      obtain ⟨x, hx, rfl⟩ := str_get hi
      have hxn := ((hyr x).mp (List.mem_of_getElem? hx)).name va
      have kl := hk5.len
      rw [List.length_take] at kl
      have hout := nd_take hynd hx
      have hov := hk5.out hout
      have hok : ∀ q ∈ kvs, q.1 ≠ .inr x := fun q hq e => by
        have : q.1 ∈ kvs.map (·.1) := List.mem_map.mpr ⟨q, hq, rfl⟩
        rw [hk5.keys, e] at this
        obtain ⟨y, hy, e2⟩ := List.mem_map.mp this
        exact hout (Sum.inr.inj e2 ▸ hy)
      have fin : ∀ (H6 : Hp) (v u : V), Same H H6 → H6 W = some (.lst (es.map V.str)) → H6 rr = some (.lst (ys.map V.str)) → (∃ kv0, H6 F = some (.dK kv0)) → FmKv (frl H H6) p kvs (ys.take i) → FmAt (frl H H6) p x v → ∃ (kvs' : List (Key × V)) (v1 : Option V), [some (V.ref d), some (V.str x), some (V.ref W), some (V.int (k : Int)), some (V.ref F), v5] = [some (.ref d), v1, some (.ref W), some (.int (k : Int)), some (.ref F), v5] ∧ Same H (upd H6 F (.dK (kvs ++ [(.inr x, v)]))) ∧ (upd H6 F (.dK (kvs ++ [(.inr x, v)]))) W = some (.lst (es.map V.str)) ∧ (upd H6 F (.dK (kvs ++ [(.inr x, v)]))) rr = some (.lst (ys.map V.str)) ∧ (upd H6 F (.dK (kvs ++ [(.inr x, v)]))) F = some (.dK kvs') ∧ FmKv (frl H (upd H6 F (.dK (kvs ++ [(.inr x, v)])))) p kvs' (ys.take (i + 1)) := fun H6 v u s6 h1 h2 ⟨kv0, h3⟩ h4 h5 => by
        refine ⟨_, _, rfl, fun c o e => ?_, by rw [upd_ne hWF]; exact h1, by rw [upd_ne hrrF]; exact h2, upd_same, ?_⟩
        · rw [upd_ne (ne_of_none e hF0)]
          exact s6 _ _ e
        · rw [List.take_add_one, hx]
          exact (h4.snoc h5).keep (kp_frl_dk h3)
      refine ⟨_, rfl, _, rfl, d, p, x, rfl, PrAt.same sm hpa, va, hxn, fun rc zs H6 s6 hrcn hrc tl => ?_⟩
      refine ⟨Nat.le_of_lt (small1000 (by simp)), fun t ht => ?_⟩
      have s7 := same_upd0 ht (.tup [V.str "loose", V.ref rc])
      have et : (upd H6 t (.tup [V.str "loose", V.ref rc])) t = some (.tup [V.str "loose", V.ref rc]) := upd_same
      have hrc7 := s7 _ _ hrc
      generalize upd H6 t (.tup [V.str "loose", V.ref rc]) = H7 at s7 et hrc7 ⊢
      have s57 := s6.trans s7
      have sm7 := sm.trans s57
      have hF7 := s57 _ _ hF5
      have hrcH : H rc = none := none_back (W := []) (Sm.of_same sm) (fun _ z => by cases z) hrcn
      refine ⟨_, rfl, _, rfl, F, _, rfl, DPut.k (k := .inr x) hF7 (small1000 (by omega)), ?_⟩
      rw [putK_new _ hov]
      have hk7 := hk5.keep (kp_frl_same (H := H) s57)
      have hk8 : FmKv (frl H (upd H7 F (.dK (kvs ++ [(.inr x, .ref t)])))) p kvs (ys.take i) := hk7.keep (kp_frl_dk hF7)
      have hW8 : (upd H7 F (.dK (kvs ++ [(.inr x, .ref t)]))) W = some (.lst (es.map V.str)) := by rw [upd_ne hWF]; exact s57 _ _ hW5
      refine ⟨_, rfl, _, rfl, W, _, rfl, .inl (SqL.of hW8), rfl, strs_flat _, _, rfl, ?_⟩
      rw [inV_strs]
      refine ite2 (fun h => ?_) (fun h => ?_)
      · have hE : Ex p x := (hex x).mp (of_decide_eq_true h)
        have hrr8 : (upd H7 F (.dK (kvs ++ [(.inr x, .ref t)]))) rr = some (.lst (ys.map V.str)) := by rw [upd_ne hrrF]; exact s57 _ _ hrr5
        have hF8 : (upd H7 F (.dK (kvs ++ [(.inr x, .ref t)]))) F = some (.dK (kvs ++ [(.inr x, .ref t)])) := upd_same
        have sm8 : Same H (upd H7 F (.dK (kvs ++ [(.inr x, .ref t)]))) := fun c o e => by rw [upd_ne (ne_of_none e hF0)]; exact sm7 _ _ e
        generalize upd H7 F (.dK (kvs ++ [(.inr x, .ref t)])) = H8 at hk8 hW8 hrr8 hF8 sm8 ⊢
        refine ⟨_, rfl, _, rfl, d, p, x, rfl, PrAt.same sm8 hpa, va, hxn, fun rp H9 wp s9 hrpn hrp hpp => ?_⟩
        refine ⟨Nat.le_of_lt (small1000 (by simp)), fun t2 ht2 => ?_⟩
        have s10 := same_upd0 ht2 (.tup [V.str "exact", V.ref rp])
        have s810 := s9.trans s10
        have hF10 := s810 _ _ hF8
        refine ⟨_, rfl, _, rfl, F, _, rfl, DPut.k (k := .inr x) hF10 (small1000 (by rw [List.length_append, List.length_singleton]; omega)), ?_⟩
        rw [putK_snoc hok]
        exact fin _ _ .non (sm8.trans s810) (s810 _ _ hW8) (s810 _ _ hrr8) ⟨_, hF10⟩ (hk8.keep (kp_frl_same s810)) ⟨t2, rp, wp, rfl, frl_l.mpr ⟨none_back (W := []) (Sm.of_same sm8) (fun _ z => by cases z) hrpn, s10 _ _ hrp⟩, .inl ⟨hE, frl_t.mpr upd_same, (hpp.keep (kp_frl_back sm8)).keep (kp_frl_same s10)⟩⟩
      · have hE : ¬ Ex p x := fun z => h (decide_eq_true ((hex x).mpr z))
        exact fin _ _ .non sm7 (s57 _ _ hW5) (s57 _ _ hrr5) ⟨_, hF7⟩ hk7 ⟨t, rc, _, rfl, frl_l.mpr ⟨hrcH, hrc7⟩, .inr ⟨hE, frl_t.mpr et, zs, rfl, tl⟩⟩
    · rintro σ H5 ⟨kvs, w1, rfl, sm, hW5, hrr5, hF5, hk5⟩
      rw [List.length_map, List.take_length] at hk5
      exact ⟨_, rfl, q F ys kvs H5 sm hF0 hF5 hk5 hynd hyso hyr⟩
end K43


set_option Elab.async false
set_option linter.all false
set_option maxRecDepth 100000
set_option maxHeartbeats 4000000
/-! Products and programs as data that repr can show. -/
namespace FA
open PySem PySem.Spec PyProof.Rows L2
theorem Fits.dict {α : Type} {f : α → Str} {g : α → PyData} {k b : Nat} {l : List α} (h : ∀ a ∈ l, okName (f a) ∧ Fits (g a) k b) : Fits (.dict (l.map fun a => (PyData.str (f a), g a))) (k + 2) ((b + 12) * l.length) := by
  have h1 : ∀ l : List α, (∀ a ∈ l, okName (f a) ∧ Fits (g a) k b) → PyData.showableKv (l.map fun a => (PyData.str (f a), g a)) = true := fun l => by
    induction l with
    | nil => intro _; rfl
    | cons q r ih =>
      intro h
      have h2 := (h q (by simp)).2.sh
      have h3 := ih fun u hu => h u (List.mem_cons_of_mem _ hu)
      simp only [List.map_cons, PyData.showableKv, PyData.showable, h2, h3, Bool.and_self]
  have h2 : ∀ l : List α, (∀ a ∈ l, okName (f a) ∧ Fits (g a) k b) → PyData.leavesShortKv 13 (l.map fun a => (PyData.str (f a), g a)) = true := fun l => by
    induction l with
    | nil => intro _; rfl
    | cons q r ih =>
      intro h
      have h2 := (h q (by simp)).2.lv
      have h4 := (h q (by simp)).1.short
      have h3 := ih fun u hu => h u (List.mem_cons_of_mem _ hu)
      simp only [List.map_cons, PyData.leavesShortKv, PyData.leavesShort, h2, h3, h4, Bool.and_self]
  have h3 : ∀ l : List α, (∀ a ∈ l, okName (f a) ∧ Fits (g a) k b) → PyData.depthKv (l.map fun a => (PyData.str (f a), g a)) ≤ k + 1 := fun l => by
    induction l with
    | nil => intro _; simp [PyData.depthKv]
    | cons q r ih =>
      intro h
      have h2 := (h q (by simp)).2.dp
      have h3 := ih fun u hu => h u (List.mem_cons_of_mem _ hu)
      simp only [List.map_cons, PyData.depthKv, PyData.depth]
      omega
  have h4 : ∀ l : List α, (∀ a ∈ l, okName (f a) ∧ Fits (g a) k b) → PyData.bulkKv (l.map fun a => (PyData.str (f a), g a)) ≤ (b + 12) * l.length := fun l => by
    induction l with
    | nil => intro _; simp [PyData.bulkKv]
    | cons q r ih =>
      intro h
      have h2 := (h q (by simp)).2.bk
      have h5 : (f q).cps.size ≤ 8 := (h q (by simp)).1.2.1
      have h3 := ih fun u hu => h u (List.mem_cons_of_mem _ hu)
      simp only [List.map_cons, PyData.bulkKv, PyData.bulk, List.length_cons, Nat.mul_succ]
      omega
  refine ⟨?_, ?_, ?_, ?_⟩
  · simp only [PyData.showable]; exact h1 l h
  · simp only [PyData.leavesShort]; exact h2 l h
  · have := h3 l h
    simp only [PyData.depth]
    omega
  · simp only [PyData.bulk]; exact h4 l h
theorem atm_fits {a : Atm} (h : (∀ x ∈ a.nms, okName x) ∧ a.nms.length ≤ 5) : Fits (dA a) 1 45 := by
  cases a with
  | n x => exact (Fits.str (h.1 x (by simp [Atm.nms]))).mono (by omega) (by omega)
  | t xs =>
    have h2 : xs.length ≤ 5 := h.2
    exact (Fits.tup (FitsAll.strs (ls := xs) h.1)).mono (by omega) (by omega)
theorem prd_fits {p : Prd} (h : ∀ a ∈ p, (∀ x ∈ a.nms, okName x) ∧ a.nms.length ≤ 5) (hl : p.length ≤ 5) : Fits (dPd p) 2 230 :=
  (Fits.list (FitsAll.map (f := dA) (k := 1) (b := 45) (l := p) fun a ha => atm_fits (h a ha))).mono (by omega) (by have : (45 + 1) * p.length ≤ 46 * 5 := Nat.mul_le_mul_left _ hl; omega)
section
variable {K : PySem.W.Frag} {H : Hp}
theorem AtAt.dd {v : V} {a : Atm} (h : AtAt H v a) : Dd K H v (dA a) := by
  cases h with
  | n x => exact .str x
  | t h => exact .tup h (dd_strs _)
theorem AtsAt.dd : ∀ {vs : List V} {p : Prd}, AtsAt H vs p → DdAll K H vs (p.map dA)
  | _, _, .nil => .nil
  | _, _, .cons h t => .cons h.dd t.dd
theorem PdsAt.dd : ∀ {vs : List V} {ps : List Prd}, PdsAt H vs ps → DdAll K H vs (ps.map dPd)
  | _, _, .nil => .nil
  | _, _, .cons ⟨_, h1, h2⟩ t => .cons (.lst h1 h2.dd) t.dd
end
/-- over a dict's keys, the dict locked -/
theorem for_keys {d : Addr} {od : Obj} {kvs : List (Key × V)} {g : TG} {tb : TS} {D : L2.Ends} {σ : L2.St} {H : Hp} (Pv : Nat → L2.St → Hp → Prop) (h0 : Pv 0 σ H) (hl : ∀ i σ H, Pv i σ H → H d = some (.frz od (.dK kvs)))
    (hs : ∀ i k v σ H, kvs[i]? = some (k, v) → Pv i σ H → g (kV k) σ H fun σ2 H2 => tb { D with nx := Pv (i + 1), ct := Pv (i + 1), bk := D.nx } σ2 H2) (hd : ∀ σ H, Pv kvs.length σ H → D.nx σ H) :
    ∃ W : Nat → Nat → L2.St → Hp → Prop, (∃ m, W 0 m σ H) ∧ ∀ i m σ H, W i m σ H →
      ((Itk d od kvs).stop i H ∧ D.nx σ H) ∨ ((Itk d od kvs).go i H ∧ ∃ N : L2.St → Hp → Prop, (∀ σ' H', N σ' H' → ∃ m', m' < m ∧ W (i + 1) m' σ' H') ∧ ∀ x H', (Itk d od kvs).yld i H x H' → g x σ H' fun σ2 H2 => tb { D with nx := N, ct := N, bk := D.nx } σ2 H2) := by
  refine ⟨fun i m σ H => m = kvs.length - i ∧ i ≤ kvs.length ∧ Pv i σ H, ⟨kvs.length, by simp, Nat.zero_le _, h0⟩, ?_⟩
  rintro i m σ H ⟨rfl, hi, p⟩
  have q := hl i σ H p
  by_cases hlt : i < kvs.length
  · refine .inr ⟨⟨q, hlt⟩, Pv (i + 1), fun σ' H' p' => ⟨kvs.length - (i + 1), by omega, rfl, hlt, p'⟩, fun x H' y => ?_⟩
    obtain ⟨e, k, v, e2, e3⟩ := y
    subst e
    subst e3
    exact hs i k v σ _ e2 p
  · have e : i = kvs.length := by omega
    subst e
    exact .inl ⟨⟨q, Nat.le_refl _⟩, hd σ H p⟩
/-! ### x in t, t a tuple of data -/
section
variable {X : Cx}
theorem op_inTD (room : X.A.units + 65 < cLine) : OpR X (compareOp .In) (fun x y H Q => ∃ (e : PyData) (es : List PyData), Dp X.K H x e ∧ Dp X.K H y (.tuple es) ∧ SeqAt.shaped e = true ∧ SeqAt.shaped (.list es) = true ∧ Q (.bl (es.any fun z => PyData.eqv z e)) H) := by
  intro pn sh sl Hx a b va vb Qx In ra rb hyp
  obtain ⟨e, es, he, hes, s1, s2, kk⟩ := hyp
  obtain ⟨_, g1⟩ := Dp.reads In e a va he ra
  obtain ⟨_, g2⟩ := Dp.reads In (.tuple es) b vb hes rb
  refine SeqAt.in_tuple_reads g2 g1 (SeqAt.canLay_of_shaped s2) (SeqAt.canLay_of_shaped s1) (room_in_shaped s1 room) ?_
  exact ⟨.bl _, Hx, In, rfl, kk⟩
end
/-! ### lists that grow -/
/-- a list behind H0, shorter than n -/
def Ls1 (H0 H : Hp) (n : Nat) (c : Addr) : Prop := H0 c = none ∧ ∃ vs, H c = some (.lst vs) ∧ vs.length < n
/-- a list behind H0, shorter than n, of texts and such lists, but not of itself -/
def Ls2 (H0 H : Hp) (n : Nat) (b : Addr) : Prop := H0 b = none ∧ ∃ ws, H b = some (.lst ws) ∧ ws.length < n ∧ V.ref b ∉ ws ∧ ∀ v ∈ ws, (∃ x, v = .str x) ∨ ∃ c, v = .ref c ∧ Ls1 H0 H n c
section
variable {H0 H : Hp} {n m : Nat} {c b : Addr} {vs : List V} {x : Str}
theorem Ls1.mono (h : Ls1 H0 H n b) (e : n ≤ m) : Ls1 H0 H m b := let ⟨h1, vs, h2, h3⟩ := h; ⟨h1, vs, h2, Nat.lt_of_lt_of_le h3 e⟩
theorem Ls2.mono (h : Ls2 H0 H n b) (e : n ≤ m) : Ls2 H0 H m b := let ⟨h1, ws, h2, h3, h4, h5⟩ := h; ⟨h1, ws, h2, Nat.lt_of_lt_of_le h3 e, h4, fun v hv => (h5 v hv).imp id fun ⟨c, e1, e2⟩ => ⟨c, e1, e2.mono e⟩⟩
theorem Ls1.keep {H' : Hp} (k : ∀ c vs, H c = some (.lst vs) → H' c = some (.lst vs)) (h : Ls1 H0 H n b) : Ls1 H0 H' n b := let ⟨h1, vs, h2, h3⟩ := h; ⟨h1, vs, k _ _ h2, h3⟩
theorem Ls2.keep {H' : Hp} (k : ∀ c vs, H c = some (.lst vs) → H' c = some (.lst vs)) (h : Ls2 H0 H n b) : Ls2 H0 H' n b := let ⟨h1, ws, h2, h3, h4, h5⟩ := h; ⟨h1, ws, k _ _ h2, h3, h4, fun v hv => (h5 v hv).imp id fun ⟨c, e1, e2⟩ => ⟨c, e1, e2.keep k⟩⟩
theorem Ls1.app (hc : H c = some (.lst vs)) (h : Ls1 H0 H n b) : Ls1 H0 (upd H c (.lst (vs ++ [.str x]))) (n + 1) b := by
  obtain ⟨h1, us, h2, h3⟩ := h
  by_cases e : b = c
  · subst e
    rw [hc] at h2
    cases h2
    exact ⟨h1, _, upd_same, by rw [List.length_append, List.length_singleton]; omega⟩
  · exact ⟨h1, us, by rw [upd_ne e]; exact h2, by omega⟩
theorem Ls2.app (hc : H c = some (.lst vs)) (h : Ls2 H0 H n b) : Ls2 H0 (upd H c (.lst (vs ++ [.str x]))) (n + 1) b := by
  obtain ⟨h1, us, h2, h3, h4, h5⟩ := h
  have h6 : ∀ v ∈ us, (∃ x, v = .str x) ∨ ∃ c', v = .ref c' ∧ Ls1 H0 (upd H c (.lst (vs ++ [.str x]))) (n + 1) c' := fun v hv => (h5 v hv).imp id fun ⟨c', e1, e2⟩ => ⟨c', e1, e2.app hc⟩
  by_cases e : b = c
  · subst e
    rw [hc] at h2
    cases h2
    refine ⟨h1, _, upd_same, by rw [List.length_append, List.length_singleton]; omega, fun z => ?_, fun v hv => ?_⟩
    · rcases List.mem_append.mp z with z | z
      · exact h4 z
      · simp at z
    · rcases List.mem_append.mp hv with z | z
      · exact h6 v z
      · exact .inl ⟨x, List.mem_singleton.mp z⟩
  · exact ⟨h1, us, by rw [upd_ne e]; exact h2, by omega, h4, h6⟩
end
theorem tx_filter {ys : List Str} (c : Str → Bool) (h : sortedS ys = true) : sortedS (ys.filter c) = true := pw_sorted ((sorted_pw h).sublist List.filter_sublist)
end FA

set_option Elab.async false
set_option linter.all false
set_option maxRecDepth 100000
set_option maxHeartbeats 1000000
namespace K43
open PySem PySem.Spec PyProof.Rows L2 FA
variable {P : Program} {w : World} {K : PySem.W.Frag} {mg : Str → Option Value} {base : Heap}
/-- the form of a function as data -/
noncomputable def fmD (p : Pr) (x : Str) : PyData := open Classical in if Ex p x then .tuple [.str "exact", .list ((NP (bodyOf p x)).map dPd)] else .tuple [.str "loose", .list ((asc (nmB (bodyOf p x))).map PyData.str)]
noncomputable def fmDs (p : Pr) (ys : List Str) : PyData := .dict (ys.map fun x => (PyData.str x, fmD p x))
theorem FmAt.dd {H : Hp} {p : Pr} {x : Str} {v : V} (h : FmAt H p x v) : Dd K H v (fmD p x) := by
  obtain ⟨t, b, ws, rfl, hb, h⟩ := h
  unfold fmD
  rcases h with ⟨h1, h2, h3⟩ | ⟨h1, h2, zs, rfl, h3⟩
  · rw [if_pos h1]
    exact .tup h2 (.cons (.str _) (.cons (.lst hb h3.dd) .nil))
  · rw [if_neg h1, asc_of h3]
    exact .tup h2 (.cons (.str _) (.cons (.lst hb (dd_strs _)) .nil))
theorem FmKv.dd {H : Hp} {p : Pr} : ∀ {kvs : List (Key × V)} {ys : List Str}, FmKv H p kvs ys → DdAll K H (kvs.map (·.2)) (ys.map (fmD p))
  | _, _, .nil => .nil
  | _, _, .cons h t => .cons h.dd t.dd
theorem FmKv.dt {H : Hp} {d : Addr} {p : Pr} {kvs : List (Key × V)} {ys : List Str} (hd : Rd H d (.dK kvs)) (h : FmKv H p kvs ys) : Dd K H (.ref d) (fmDs p ys) := by
  have q := Dd.dic (K := K) hd h.dd
  have e : ((kvs.map fun p => kD p.1).zip (ys.map (fmD p))) = ys.map fun x => (PyData.str x, fmD p x) := by
    have e2 : (kvs.map fun p => kD p.1) = ys.map fun x => PyData.str x := by
      have := congrArg (List.map kD) h.keys
      rw [List.map_map, List.map_map] at this
      exact this
    rw [e2, List.zip_map']
  rw [e] at q
  exact q
theorem Valid.at {p : Pr} (va : Valid p) {x : Str} (hx : x ∈ pNames p) : okB (pNames p) (bodyOf p x) ∧ nCB (bodyOf p x) ≤ 5 ∧ nIB (bodyOf p x) ≤ 12 ∧ dB (bodyOf p x) ≤ 4 := by
  obtain ⟨l, e⟩ := lookup_mem hx
  have eb : bodyOf p x = l := by unfold bodyOf; rw [e]; rfl
  rw [eb]
  exact va.ok x l e
theorem NP_ok5 {ns : List Str} (hn : ∀ x ∈ ns, FA.okName x) {l : List FA.It} (ok : okB ns l) (c5 : nCB l ≤ 5) : (∀ q ∈ NP l, nmPrd q ∧ q.length ≤ 5) ∧ (NP l).length ≤ 32 := by
  refine ⟨fun q hq => ?_, ?_⟩
  · obtain ⟨p, hp, rfl⟩ := normal_sub hq
    have okp := (rawB_ok l [[]] 0 ok c5 (fun p hp => by rw [List.mem_singleton.mp hp]; exact .nil) p hp)
    exact ⟨nmIdle (nm_ok hn okp), by have := okp.1; have := idle_le p; omega⟩
  · have cov : Cov (rawB l [[]]) (0 + nCB l) := covB l [[]] 0 ok ⟨[], by simp, by simp⟩
    have h1 := cov_few cov (asc_tells (((rawB l [[]]).map idle).map prdText)).nd (f := fun p => prdText (idle p)) fun x hx => by
      have := ((asc_tells _).mem x).mp hx
      rw [List.map_map] at this
      obtain ⟨p, hp, e⟩ := List.mem_map.mp this
      exact ⟨p, hp, e.symm⟩
    have h2 : 2 ^ (0 + nCB l) ≤ 2 ^ 5 := Nat.pow_le_pow_right (by decide) (by omega)
    unfold NP normal
    rw [List.length_map]
    refine Nat.le_trans (List.length_filter_le _ _) (Nat.le_trans h1 h2)
theorem exact_ok : FA.okName "exact" := ⟨by decide +kernel, by decide +kernel, by decide +kernel⟩
theorem loose_ok : FA.okName "loose" := ⟨by decide +kernel, by decide +kernel, by decide +kernel⟩
theorem fmD_fits {p : Pr} (va : Valid p) {x : Str} (hx : x ∈ pNames p) : Fits (fmD p x) 4 8000 := by
  obtain ⟨o1, o2, o3, o4⟩ := va.at hx
  have hn : ∀ x ∈ pNames p, FA.okName x := fun x hx => va.nm x hx
  obtain ⟨n1, n2⟩ := NP_ok5 hn o1 o2
  have tl := asc_tells (nmB (bodyOf p x))
  have al := asc_len (nmB (bodyOf p x))
  have nl := nmB_len (bodyOf p x)
  unfold fmD
  split
  · have h1 : FitsAll ((NP (bodyOf p x)).map dPd) 2 (231 * 32) := (FitsAll.map (f := dPd) (k := 2) (b := 230) fun q hq => prd_fits (n1 q hq).1 (n1 q hq).2).mono (Nat.le_refl _) (Nat.mul_le_mul_left _ n2)
    exact (Fits.tup (.cons ((Fits.str (x := "exact") exact_ok).mono (by omega : 0 ≤ 3) (Nat.le_refl _)) (.cons (Fits.list h1) (FitsAll.nil (b := 0))))).mono (by omega) (by omega)
  · have h1 : FitsAll ((asc (nmB (bodyOf p x))).map PyData.str) 0 (9 * (asc (nmB (bodyOf p x))).length) := FitsAll.strs fun y hy => hn y (nmB_ok _ o1 y ((tl.mem y).mp hy))
    exact (Fits.tup (.cons ((Fits.str (x := "loose") loose_ok).mono (by omega : 0 ≤ 1) (Nat.le_refl _)) (.cons (Fits.list h1) (FitsAll.nil (b := 0))))).mono (by omega) (by omega)
theorem fmDs_fits {p : Pr} (va : Valid p) {ys : List Str} (hy : ∀ x ∈ ys, x ∈ pNames p) (hl : ys.length ≤ 6) : Fits (fmDs p ys) 6 48100 :=
  (Fits.dict (f := fun x => x) (g := fmD p) (k := 4) (b := 8000) fun x hx => ⟨va.nm x (hy x hx), fmD_fits va (hy x hx)⟩).mono (by omega) (by omega)
theorem dtP_fits {p : Pr} (va : Valid p) : Fits (dtP p) 15 2400 := by
  have hn : ∀ x ∈ pNames p, FA.okName x := fun x hx => va.nm x hx
  have hl := va.len
  refine (Fits.dict (f := fun q : Str × FA.Bd => q.1) (g := fun q => PyData.list (dtB q.2)) (k := 13) (b := 384) (l := p) fun q hq => ?_).mono (by omega) (by omega)
  have hx : q.1 ∈ pNames p := List.mem_map.mpr ⟨q, hq, rfl⟩
  obtain ⟨o1, o2, o3, o4⟩ := va.ok q.1 q.2 (look_nd va.nd hq)
  refine ⟨hn _ hx, Fits.list (k := 12) ⟨dtB_show q.2, dtB_short hn q.2 o1, ?_, ?_⟩⟩
  · have := dtB_depth q.2
    omega
  · have := dtB_bulk hn q.2 o1
    omega
noncomputable def dtTF (p : Pr) (xs ys : List Str) : PyData := .list [.list (xs.map PyData.str), fmDs p ys]
theorem dtTF_fits {p : Pr} (va : Valid p) {xs ys : List Str} (hx : ∀ x ∈ xs, x ∈ pNames p) (hxl : xs.length ≤ 6) (hy : ∀ x ∈ ys, x ∈ pNames p) (hl : ys.length ≤ 6) : Fits (dtTF p xs ys) 8 60000 := by
  have h1 : FitsAll (xs.map PyData.str) 0 (9 * xs.length) := FitsAll.strs fun x h => va.nm x (hx x h)
  exact (Fits.list (.cons ((Fits.list h1).mono (by omega : 1 ≤ 6) (Nat.le_refl _)) (.cons (fmDs_fits va hy hl) (FitsAll.nil (b := 0))))).mono (by omega) (by omega)
theorem FmKv.val {H : Hp} {p : Pr} : ∀ {kvs : List (Key × V)} {ys : List Str} {i : Nat} {x : Str} {v : V}, FmKv H p kvs ys → ys.Nodup → kvs[i]? = some (.inr x, v) → valV kvs (.inr x) = some v
  | _, _, _, _, _, .nil, _, e => by simp at e
  | _, _, 0, x, v, .cons h _, _, e => by
    simp at e
    obtain ⟨rfl, rfl⟩ := e
    exact valV_pos rfl
  | _, _, i + 1, x, v, .cons (x := y) h t, nd, e => by
    have nd' := List.nodup_cons.mp nd
    rw [List.getElem?_cons_succ] at e
    obtain ⟨x', h1, h2, _⟩ := t.get e
    cases h1
    have : y ≠ x := by rintro rfl; exact nd'.1 (List.mem_of_getElem? h2)
    rw [valV_neg (fun z => this (Sum.inr.inj z))]
    exact FmKv.val t nd'.2 e
/-- the lists of a form can grow -/
theorem fm_ls {A B H0 : Hp} {p : Pr} {x : Str} {v : V} (va : Valid p) (hx : x ∈ pNames p) (hA : ∀ c, A c = none → H0 c = none) (h : FmAt (frl A B) p x v) : ∃ (t b : Addr) (w : Str), v = .ref t ∧ B t = some (.tup [.str w, .ref b]) ∧ Ls2 H0 B 5001 b := by
  obtain ⟨t, b, ws, rfl, hb, h⟩ := h
  obtain ⟨hb1, hb2⟩ := frl_l.mp hb
  obtain ⟨o1, o2, o3, o4⟩ := va.at hx
  have hn : ∀ x ∈ pNames p, FA.okName x := fun x hx => va.nm x hx
  rcases h with ⟨h1, h2, h3⟩ | ⟨h1, h2, zs, rfl, h3⟩
  · obtain ⟨n1, n2⟩ := NP_ok5 hn o1 o2
    have l1 := h3.length
    refine ⟨t, b, _, rfl, frl_t.mp h2, hA b hb1, ws, hb2, by omega, fun z => ?_, fun v hv => .inr ?_⟩
    · obtain ⟨i, hi⟩ := List.getElem?_of_mem z
      obtain ⟨q, pq, e1, e2, vq, e3, e4⟩ := h3.get hi
      cases e1
      rw [hb] at e3
      cases e3
      obtain ⟨a, _, ha⟩ := e4.get hi
      cases ha with
      | t ht => rw [hb] at ht; cases ht
    · obtain ⟨i, hi⟩ := List.getElem?_of_mem hv
      obtain ⟨q, pq, rfl, e2, vq, e3, e4⟩ := h3.get hi
      obtain ⟨q1, q2⟩ := frl_l.mp e3
      have := (n1 pq (List.mem_of_getElem? e2)).2
      have := e4.length
      exact ⟨q, rfl, hA q q1, vq, q2, by omega⟩
  · have l1 := asc_len (nmB (bodyOf p x))
    rw [asc_of h3] at l1
    have l2 := nmB_len (bodyOf p x)
    refine ⟨t, b, _, rfl, frl_t.mp h2, hA b hb1, _, hb2, by rw [List.length_map]; omega, fun z => ?_, fun v hv => .inl ?_⟩
    · obtain ⟨y, _, e⟩ := List.mem_map.mp z
      cases e
    · obtain ⟨y, _, e⟩ := List.mem_map.mp hv
      exact ⟨y, e.symm⟩
def spLRight : Sp := fun vs H Q _ => ∃ (d : Addr) (p : Pr), vs = [.ref d] ∧ PrAt H d p ∧ Valid p ∧ ∀ H', Same H H' → Q (.bl true) H'
theorem okLRight (T : Txt K mg) (sy : FA.SysB base) : FnG P w K mg base 18 T.aLRight T.fLRight ["program"] spLRight := by
  have GLDue : FnOk P w K mg base CX0 16 T.aLDue T.fLDue ["program"] spDue := okLDue T
  have GExactFunctions : FnOk P w K mg base CX0 16 T.aExactFunctions T.fExactFunctions ["program"] spExact := okExact T
  have GFormOf : FnOk P w K mg base CX0 17 T.aFormOf T.fFormOf ["program"] spForm := okForm T
  refine okG T.FLRight scLRight (fun vs H Q E h => ?_) (fun cdv A gd outer s H vs Q E hr h => ?_)
  · obtain ⟨d, p, rfl, _⟩ := h
    rfl
  obtain ⟨d, p, rfl, hpa, va, q⟩ := h
  have hu := hu_of hr
  refine ⟨_, (pss_cons (ps_asg (pe_tup (pa_cons (pe_callB (call_reprD sy gd hr.units) (by rfl) T.n_repr (by decide +kernel) (pa_cons (pv 0) pa_nil)) (pa_cons (pe_call GLDue (hr.mono (by omega)) rfl T.gLDue T.FLDue.kp T.bLDue .nil pass0 (pa_cons (pv 0) pa_nil)) pa_nil))) (pg_tup rfl (pgs_cons (pg_name (i := 3) scLRight.nd rfl (by first | exact Or.inl rfl | exact Or.inr rfl)) (pgs_cons (pg_name (i := 4) scLRight.nd rfl (by first | exact Or.inl rfl | exact Or.inr rfl)) pgs_nil))))
      (pss_cons (ps_lock2 (ps_setLc (i := 1) (own := [("name", 5)]) (g := gName 5) rfl scLRight.nd rfl rfl (sw_true rfl rfl rfl (by decide +kernel)) (pi_keys (pv 4)) (blkOk_by (N := ["program", "exact", "turn", "kept", "due", "name", "told", "form", "one"]) (sc := defScope sLRight) (by decide +kernel)) (fun _ _ _ _ _ => (pg_name (i := 5) scLRight.nd rfl (by first | exact Or.inl rfl | exact Or.inr rfl))) (fun _ _ _ _ _ => (pts_one (pt_cmpR op_eq (pe_ix (ix_tupK (K := K) rfl) (pe_dget hu (pv 4) (pv 5) (fun _ _ => rfl)) pe_int (fun _ _ => rfl)) pe_str (nomark _)))) (fun _ _ _ _ _ => (pv 5))))
      (pss_cons (ps_for PassesOwn.never rfl (pi_range1 (by rfl) T.n_range (pa_cons pe_int pa_nil)) (pg_name (i := 2) scLRight.nd rfl (by first | exact Or.inl rfl | exact Or.inr rfl))
        (pss_cons (ps_par (i := 6) (j := 7) (by rfl) scLRight.nd rfl rfl (by decide) rfl rfl (pa_cons (pe_call GExactFunctions (hr.mono (by omega)) rfl T.gExactFunctions T.FExactFunctions.kp T.bExactFunctions .nil pass0 (pa_cons (pv 0) pa_nil)) (pa_cons (pe_call GFormOf (hr.mono (by omega)) rfl T.gFormOf T.FFormOf.kp T.bFormOf .nil pass0 (pa_cons (pv 0) pa_nil)) pa_nil)) (by rfl))
        (pss_cons (ps_if (PW.pt (pw_or (pt_cmpR op_ne (pe_callB (call_reprD sy gd hr.units) (by rfl) T.n_repr (by decide +kernel) (pa_cons (pe_lst (pa_cons (pv 6) (pa_cons (pv 7) pa_nil))) pa_nil)) (pe_callB (call_reprD sy gd hr.units) (by rfl) T.n_repr (by decide +kernel) (pa_cons (pe_lst (pa_cons (pv 1) (pa_cons (pv 4) pa_nil))) pa_nil)) (nomark _)) (pw_or1 (pt_cmpR op_ne (pe_callB (call_reprD sy gd hr.units) (by rfl) T.n_repr (by decide +kernel) (pa_cons (pv 0) pa_nil)) (pv 3) (nomark _)))))
          (pss_one (ps_ret pe_bl)) pss_nil)
        (pss_cons (ps_lock2 (ps_for PassesOwn.never rfl (pi_keys (pv 7)) (pg_name (i := 5) scLRight.nd rfl (by first | exact Or.inl rfl | exact Or.inr rfl))
          (pss_cons (ps_for PassesOwn.never rfl (pi_list (pe_ix ix_tup (pe_dget hu (pv 7) (pv 5) (fun _ _ => rfl)) pe_int (fun _ _ => rfl))) (pg_name (i := 8) scLRight.nd rfl (by first | exact Or.inl rfl | exact Or.inr rfl))
            (pss_one (ps_if (pt_val (pe_callB call_isi (by rfl) T.n_isinstance (by decide +kernel) (pa_cons (pv 8) (pa_cons (pe_bltn (v := .ty "list") (by rfl) T.n_list (by decide +kernel) rfl) pa_nil))))
              (pss_one (ps_expr (pe_bm PySem.F.plainAttrs_list PySem.F.slot_list_append PySem.F.type_list_append mt_append (pv 8) (pa_cons pe_str pa_nil)))) pss_nil)))
          (pss_one (ps_expr (pe_bm PySem.F.plainAttrs_list PySem.F.slot_list_append PySem.F.type_list_append mt_append (pe_ix ix_tup (pe_dget hu (pv 7) (pv 5) (fun _ _ => rfl)) pe_int (fun _ _ => rfl)) (pa_cons pe_str pa_nil)))))))
        (pss_one (ps_expr (pe_bm0 PySem.F.plainAttrs_list PySem.F.slot_list_clear PySem.F.type_list_clear mt_clear (pv 6))))))))
      (pss_one (ps_ret pe_bl))))), ?_⟩
  have hlen := va.len
  have pf := dtP_fits va
  have hn : ∀ x ∈ pNames p, FA.okName x := fun x hx => va.nm x hx
  have ddP : ∀ H', Same H H' → Dd K H' (.ref d) (dtP p) := fun H' sm => by
    obtain ⟨kv, h1, h2⟩ := hpa
    exact PrKv.dt (Rd.same sm h1) (h2.keep (Kp.of sm))
  have few : ∀ {gs : List Str}, (∀ x ∈ gs, x ∈ pNames p) → gs.Nodup → gs.length ≤ 6 := fun rc nd => by
    have := nd_le nd rc
    unfold pNames at this
    rw [List.length_map] at this
    omega
  refine ⟨_, rfl, d, dtP p, rfl, ddP H (Same.refl _), pf.sh, by have := pf.dp; omega, pf.len (by omega), ?_⟩
  refine ⟨_, rfl, d, p, rfl, hpa, va, fun F ys kvs H1 s1 hFn hF hk hynd hyso hyr => ?_⟩
  have hyp : ∀ x ∈ ys, x ∈ pNames p := fun x hx => ((hyr x).mp hx).name va
  have hy6 := few hyp hynd
  have hk1 : FmKv H1 p kvs ys := hk.keep kp_frl
  clear hk
  refine ⟨Nat.le_of_lt (small1000 (by simp)), fun tt htt => ?_⟩
  have s2 := same_upd0 htt (.tup [V.str (dtP p).shown, V.ref F])
  have ett : (upd H1 tt (.tup [V.str (dtP p).shown, V.ref F])) tt = some (.tup [V.str (dtP p).shown, V.ref F]) := upd_same
  have hF2 := s2 _ _ hF
  have hk2 := hk1.keep (Kp.of s2)
  have s02 := s1.trans s2
  generalize upd H1 tt (.tup [V.str (dtP p).shown, V.ref F]) = H2 at s2 ett hF2 hk2 s02 ⊢
  clear s2 htt hk1
  refine ⟨tt, _, rfl, SqT.of ett, rfl, ?_⟩
  refine ⟨_, _, rfl, _, _, rfl, rfl, ?_⟩
  refine .inl ⟨F, .dK kvs, hF2, trivial, fun od => ?_⟩
  have hF3 : (upd H2 F (.frz od (.dK kvs))) F = some (.frz od (.dK kvs)) := upd_same
  have of3 : ∀ c, c ≠ F → (upd H2 F (.frz od (.dK kvs))) c = H2 c := fun c hc => upd_ne hc
  generalize upd H2 F (.frz od (.dK kvs)) = H3 at hF3 of3 ⊢
  have hk3 : FmKv H3 p kvs ys := hk2.keep ⟨fun c xs e => by rw [of3 c (by rintro rfl; rw [hF2] at e; cases e)]; exact e, fun c xs e => by rw [of3 c (by rintro rfl; rw [hF2] at e; cases e)]; exact e⟩
  have kl := hk3.len
  obtain ⟨cE, hcE⟩ : ∃ cE : Str → Bool, ∀ x, cE x = true ↔ Ex p x := ⟨fun x => @decide (Ex p x) (Classical.propDecidable _), fun x => @decide_eq_true_iff (Ex p x) (Classical.propDecidable _)⟩
  refine ⟨_, rfl, F, od, rfl, .inl ⟨kvs, hF3, ?_⟩⟩
  refine fun D hD => lcT (n := kvs.length) hD (small1000 (by omega)) (fun j v => ∃ y, ys[j]? = some y ∧ v = .str y) (valT ys cE V.str) (go_k hF3) (stop_k hF3) (fun j Hx v Hy sx hj yy => ?_) ?_ ?_
  · obtain ⟨rfl, k, v', e1, rfl⟩ := yld_k j Hx v Hy sx hj yy
    obtain ⟨x, rfl, e2, _⟩ := hk3.get e1
    exact ⟨rfl, x, e2, rfl⟩
  · rintro j v Hx body hj ⟨y, hy, rfl⟩ sx kk
    obtain ⟨v, hv, t, b, ws, rfl, hb, hv2⟩ := hk3.look (List.mem_of_getElem? hy)
    unfold valT at kk
    rw [hy] at kk
    refine ⟨rfl, ?_⟩
    rcases hv2 with ⟨h1, h2, _⟩ | ⟨h1, h2, _⟩
    · refine ⟨_, rfl, _, rfl, F, _, rfl, .inl ⟨kvs, .inr y, .inr ⟨od, sx _ _ hF3⟩, rfl, hv.symm⟩, t, _, _, _, rfl, rfl, SqT.of (sx _ _ h2), at_of (j := 0) rfl rfl, rfl, _, rfl, ?_⟩
      exact (kk _ Hx (Same.refl _)).2 (.str y) (by simp [(hcE y).mpr h1]) fun Q hQ => ⟨_, rfl, hQ⟩
    · have hc : cE y = false := by
        cases e : cE y with
        | false => rfl
        | true => exact absurd ((hcE y).mp e) h1
      refine ⟨_, rfl, _, rfl, F, _, rfl, .inl ⟨kvs, .inr y, .inr ⟨od, sx _ _ hF3⟩, rfl, hv.symm⟩, t, _, _, _, rfl, rfl, SqT.of (sx _ _ h2), at_of (j := 0) rfl rfl, rfl, _, rfl, ?_⟩
      exact (kk _ Hx (Same.refl _)).1 (by simp [hc])
  · intro Hx sx hDx
    rw [kl, range_fm ys cE V.str] at hDx
    have hDF : D ≠ F := by rintro rfl; rw [hF3] at hD; cases hD
    refine ⟨sx _ _ hF3, ?_⟩
    have hF5 : (upd Hx F (.dK kvs)) F = some (.dK kvs) := upd_same
    have of5 : ∀ c, c ≠ F → (upd Hx F (.dK kvs)) c = Hx c := fun c hc => upd_ne hc
    generalize upd Hx F (.dK kvs) = H5 at hF5 of5 ⊢
    have s25 : Same H2 H5 := fun c o e => by
      by_cases h : c = F
      · subst h; rw [hF2] at e; cases e; exact hF5
      · rw [of5 c h]; exact sx _ _ (by rw [of3 c h]; exact e)
    have hk5 := hk2.keep (Kp.of s25)
    have s05 := s02.trans s25
    obtain ⟨es, hes⟩ : ∃ es, es = ys.filter cE := ⟨_, rfl⟩
    have hD5 : H5 D = some (.lst (es.map V.str)) := by rw [of5 D hDF, hes]; exact hDx
    have esE : ∀ x, x ∈ es ↔ Ex p x := fun x => by
      rw [hes, List.mem_filter, hcE, hyr]
      exact ⟨fun h => h.2, fun h => ⟨h.rc, h⟩⟩
    have esT : ∀ xs : List Str, xs.Nodup → sortedS xs = true → (∀ x, x ∈ xs ↔ Ex p x) → xs = es := fun xs nd so hm =>
      sorted_one so (by rw [hes]; exact tx_filter cE hyso) (perm_same nd (by rw [hes]; exact hynd.filter _) fun x => (hm x).trans (esE x).symm)
    have esp : ∀ x ∈ es, x ∈ pNames p := fun x hx => ((esE x).mp hx).name va
    have es6 := few esp (by rw [hes]; exact hynd.filter _)
    have pf2 := dtTF_fits va esp es6 hyp hy6
    clear hk2 hk3 hF2 hF3 of3 of5 sx hDx hD ett
    refine ⟨2, rfl, by decide, by decide, ?_⟩
    refine for_range (lo := 0) (n := 2) (fun k σ H' => ∃ (v2 v5 v6 v7 v8 : Option V), σ = [some (.ref d), some (.ref D), v2, some (.str (dtP p).shown), some (.ref F), v5, v6, v7, v8] ∧ Same H5 H') ⟨none, none, none, none, none, rfl, Same.refl _⟩ ?_ ?_
    · rintro k σ H6 hk ⟨v2, v5, v6, v7, v8, rfl, s6⟩
      have s06 := s05.trans s6
      refine ⟨_, rfl, d, p, rfl, PrAt.same s06 hpa, va, fun re xs H7 s7 hren hre hxnd hxso hxex => ?_⟩
      have exs := esT xs hxnd hxso hxex
      subst exs
      have s07 := s06.trans s7
      refine ⟨_, rfl, d, p, rfl, PrAt.same s07 hpa, va, fun G zs kvg H8 s8 hGn hG hkg hznd hzso hzr => ?_⟩
      have ezs : zs = ys := sorted_one hzso hyso (perm_same hznd hynd fun x => (hzr x).trans (hyr x).symm)
      subst ezs
      refine ⟨_, _, rfl, ?_⟩
      have s58 := s6.trans (s7.trans s8)
      have s08 := s05.trans s58
      refine ⟨_, rfl, _, rfl, Nat.le_of_lt (small1000 (by simp)), fun p1 hp1 => ?_⟩
      have s9 := same_upd0 hp1 (.lst [V.ref re, V.ref G])
      have e9 : (upd H8 p1 (.lst [V.ref re, V.ref G])) p1 = some (.lst [V.ref re, V.ref G]) := upd_same
      generalize upd H8 p1 (.lst [V.ref re, V.ref G]) = H9 at s9 e9 ⊢
      refine ⟨p1, dtTF p xs zs, rfl, .lst e9 (.cons (.lst (s9 _ _ (s8 _ _ hre)) (dd_strs _)) (.cons (FmKv.dt (.inl (s9 _ _ hG)) (hkg.keep (kp_frl.trans (Kp.of s9)))) .nil)), pf2.sh, by have := pf2.dp; omega, pf2.len (by omega), ?_⟩
      refine ⟨_, rfl, _, rfl, Nat.le_of_lt (small1000 (by simp)), fun p2 hp2 => ?_⟩
      have s10 := same_upd0 hp2 (.lst [V.ref D, V.ref F])
      have e10 : (upd H9 p2 (.lst [V.ref D, V.ref F])) p2 = some (.lst [V.ref D, V.ref F]) := upd_same
      generalize upd H9 p2 (.lst [V.ref D, V.ref F]) = H10 at s10 e10 ⊢
      have s510 := s58.trans (s9.trans s10)
      refine ⟨p2, dtTF p xs zs, rfl, .lst e10 (.cons (.lst (s510 _ _ hD5) (dd_strs _)) (.cons (FmKv.dt (.inl (s510 _ _ hF5)) (hk5.keep (Kp.of s510))) .nil)), pf2.sh, by have := pf2.dp; omega, pf2.len (by omega), rfl, _, rfl, ?_⟩
      rw [decide_eq_true rfl]
      refine iteF ?_
      have s010 := s05.trans s510
      refine ⟨_, rfl, d, dtP p, rfl, ddP H10 s010, pf.sh, by have := pf.dp; omega, pf.len (by omega), _, rfl, rfl, _, rfl, ?_⟩
      rw [decide_eq_true rfl]
      refine iteF ?_
      have hre10 := s10 _ _ (s9 _ _ (s8 _ _ hre))
      have hG10 := s10 _ _ (s9 _ _ hG)
      have hkg10 := hkg.keep (kp_frl_same (s9.trans s10))
      have back7 : ∀ c, H7 c = none → H5 c = none := fun c hc => none_back (W := []) (Sm.of_same (s6.trans s7)) (fun _ z => by cases z) hc
      have hG5 : H5 G = none := back7 G hGn
      have hre5 : H5 re = none := none_back (W := []) (Sm.of_same s6) (fun _ z => by cases z) hren
      refine .inl ⟨G, .dK kvg, hG10, trivial, fun og => ?_⟩
      have hG11 : (upd H10 G (.frz og (.dK kvg))) G = some (.frz og (.dK kvg)) := upd_same
      have of11 : ∀ c, c ≠ G → (upd H10 G (.frz og (.dK kvg))) c = H10 c := fun c hc => upd_ne hc
      generalize upd H10 G (.frz og (.dK kvg)) = H11 at hG11 of11 ⊢
      have kpl : ∀ c vs, H10 c = some (.lst vs) → H11 c = some (.lst vs) := fun c vs e => by rw [of11 c (by rintro rfl; rw [hG10] at e; cases e)]; exact e
      have kpt : ∀ c vs, H10 c = some (.tup vs) → H11 c = some (.tup vs) := fun c vs e => by rw [of11 c (by rintro rfl; rw [hG10] at e; cases e)]; exact e
      have s511 : Same H5 H11 := fun c o e => by
        rw [of11 c (by rintro rfl; rw [hG5] at e; cases e)]
        exact s510 _ _ e
      obtain ⟨En, hEn⟩ : ∃ En : Hp → Nat → Prop, En = fun H' n => ∀ k v, (k, v) ∈ kvg → ∃ (t b : Addr) (w : Str), v = .ref t ∧ H' t = some (.tup [.str w, .ref b]) ∧ Ls2 H5 H' n b := ⟨_, rfl⟩
      have monE : ∀ {H' : Hp} {n m : Nat}, En H' n → n ≤ m → En H' m := fun {H' n m} h e => by
        rw [hEn] at h ⊢
        intro k v hv
        obtain ⟨t, b, w, h1, h2, h3⟩ := h k v hv
        exact ⟨t, b, w, h1, h2, h3.mono e⟩
      have appE : ∀ {H' : Hp} {n : Nat} {c : Addr} {vs : List V} {y : Str}, H' c = some (.lst vs) → En H' n → En (upd H' c (.lst (vs ++ [.str y]))) (n + 1) := fun {H' n c vs y} hc h => by
        rw [hEn] at h ⊢
        intro k v hv
        obtain ⟨t, b, w, h1, h2, h3⟩ := h k v hv
        exact ⟨t, b, w, h1, by rw [upd_ne (by rintro rfl; rw [hc] at h2; cases h2)]; exact h2, h3.app hc⟩
      have ini : En H11 5001 := by
        rw [hEn]
        intro k v hv
        obtain ⟨i, hi⟩ := List.getElem?_of_mem hv
        obtain ⟨x, rfl, e2, e3⟩ := hkg10.get hi
        obtain ⟨t, b, w, e4, e5, e6⟩ := fm_ls va (hyp x (List.mem_of_getElem? e2)) back7 e3
        exact ⟨t, b, w, e4, kpt _ _ e5, e6.keep kpl⟩
      have lg := hkg10.len
      have pow : ∀ i, i ≤ 6 → 2 ^ i ≤ 64 := fun i hi => Nat.le_trans (Nat.pow_le_pow_right (by decide) hi) (by decide)
      have capn : ∀ {n m : Nat}, n ≤ 700000 → m < n → m < sizeLine := fun h1 h2 => by rw [sizeLine_eq]; omega
      refine ⟨_, rfl, G, og, rfl, .inl ⟨kvg, hG11, ?_⟩⟩
      refine for_keys (fun i σ H' => ∃ (v5 v8 : Option V), σ = [some (.ref d), some (.ref D), some (.int (0 + (k : Int))), some (.str (dtP p).shown), some (.ref F), v5, some (.ref re), some (.ref G), v8] ∧ Same H5 H' ∧ H' G = some (.frz og (.dK kvg)) ∧ En H' (2 ^ i * 5001) ∧ Ls1 H5 H' (2 ^ i * 5001) re) ⟨v5, v8, rfl, s511, hG11, by simpa using ini, hre5, _, kpl _ _ hre10, by rw [List.length_map]; omega⟩ ?_ ?_ ?_
      · rintro i σ H' ⟨_, _, _, _, h, _⟩
        exact h
      · rintro i ky v σ H12 hi ⟨v5, v8, rfl, s12, hG12, hE12, hr12⟩
        obtain ⟨x, rfl, e2, _⟩ := hkg10.get hi
        have hi6 : i < 6 := by
          by_cases z : i < kvg.length
          · omega
          · rw [List.getElem?_eq_none (by omega)] at hi; cases hi
        have pi := pow i (by omega)
        have hvx : valV kvg (.inr x) = some v := hkg10.val hznd hi
        have hE12' := hE12
        rw [hEn] at hE12'
        obtain ⟨t, b, w', rfl, ht, hb0, ws, hbw, hwl, hbn, hall⟩ := hE12' _ _ (List.mem_of_getElem? hi)
        clear hE12'
        have nx2 : 2 ^ (i + 1) * 5001 = 2 ^ i * 5001 + 2 ^ i * 5001 := by rw [Nat.pow_succ]; omega
        have n64 : 2 ^ i * 5001 ≤ 320064 := by omega
        rw [nx2]
        clear pi nx2
        obtain ⟨N, hN⟩ : ∃ N, N = 2 ^ i * 5001 := ⟨_, rfl⟩
        rw [← hN] at hE12 hr12 hwl hall n64 ⊢
        clear hN
        refine ⟨_, rfl, _, rfl, G, _, rfl, .inl ⟨kvg, .inr x, .inr ⟨og, hG12⟩, rfl, hvx.symm⟩, t, _, _, _, rfl, rfl, SqT.of ht, at_of (j := 1) rfl rfl, b, rfl, ⟨_, SqL.of hbw⟩, for_list (K := K) (a := b) (xs := ws) (fun j σ H' => ∃ (v8 : Option V), σ = [some (.ref d), some (.ref D), some (.int (0 + (k : Int))), some (.str (dtP p).shown), some (.ref F), some (.str x), some (.ref re), some (.ref G), v8] ∧ Same H5 H' ∧ H' G = some (.frz og (.dK kvg)) ∧ H' b = some (.lst ws) ∧ H' t = some (.tup [.str w', .ref b]) ∧ (∀ v ∈ ws, (∃ x, v = .str x) ∨ ∃ c, v = .ref c ∧ Ls1 H5 H' (N + j) c) ∧ En H' (N + j) ∧ Ls1 H5 H' (N + j) re) ⟨v8, rfl, s12, hG12, hbw, ht, by rw [Nat.add_zero]; exact hall, by rw [Nat.add_zero]; exact hE12, by rw [Nat.add_zero]; exact hr12⟩ ?_ ?_ ?_⟩
        · rintro j σ H' _ ⟨_, _, _, _, h, _⟩
          exact SqL.of h
        · rintro j y σ H13 hj ⟨v8, rfl, s13, hG13, hb13, ht13, hall13, hE13, hr13⟩
          have jl : j < ws.length := by
            by_cases z : j < ws.length
            · exact z
            · rw [List.getElem?_eq_none (by omega)] at hj; cases hj
          rcases hall13 y (List.mem_of_getElem? hj) with ⟨z, rfl⟩ | ⟨c, rfl, hc⟩
          · refine ⟨_, rfl, _, _, _, _, false, rfl, .ty _, ty_str z, kit_ty (by decide +kernel), _, rfl, iteF ?_⟩
            exact ⟨_, rfl, s13, hG13, hb13, ht13, fun v hv => (hall13 v hv).imp id fun ⟨c, e1, e2⟩ => ⟨c, e1, e2.mono (by omega)⟩, monE hE13 (by omega), hr13.mono (by omega)⟩
          · obtain ⟨hc0, vc, hc13, hcl⟩ := hc
            refine ⟨_, rfl, _, _, _, _, true, rfl, .ty _, ty_lst hc13, kit_ty (by decide +kernel), _, rfl, iteT ?_⟩
            have hcb : b ≠ c := by rintro rfl; exact hbn (List.mem_of_getElem? hj)
            have htc : t ≠ c := by rintro rfl; rw [hc13] at ht13; cases ht13
            have hGc : G ≠ c := by rintro rfl; rw [hc13] at hG13; cases hG13
            refine ⟨_, rfl, .inl ⟨rfl, _, SqL.of hc13⟩, c, _, .str "x", rfl, rfl, hc13, capn (n := N + j) (by omega) hcl, ?_⟩
            exact ⟨_, rfl, fun a o e => by rw [upd_ne (ne_of_none e hc0)]; exact s13 _ _ e, by rw [upd_ne hGc]; exact hG13, by rw [upd_ne hcb]; exact hb13, by rw [upd_ne htc]; exact ht13, fun v hv => (hall13 v hv).imp id fun ⟨c', e1, e2⟩ => ⟨c', e1, e2.app hc13⟩, appE hc13 hE13, hr13.app hc13⟩
        · rintro σ H13 ⟨v8, rfl, s13, hG13, hb13, ht13, hall13, hE13, hr13⟩
          have hGb : G ≠ b := by rintro rfl; rw [hb13] at hG13; cases hG13
          refine ⟨_, rfl, _, rfl, G, _, rfl, .inl ⟨kvg, .inr x, .inr ⟨og, hG13⟩, rfl, hvx.symm⟩, t, _, _, _, rfl, rfl, SqT.of ht13, at_of (j := 1) rfl rfl, .inl ⟨rfl, _, SqL.of hb13⟩, b, _, .str "x", rfl, rfl, hb13, capn (n := N) (by omega) hwl, ?_⟩
          exact ⟨_, _, rfl, fun a o e => by rw [upd_ne (ne_of_none e hb0)]; exact s13 _ _ e, by rw [upd_ne hGb]; exact hG13, monE (appE hb13 hE13) (by omega), (hr13.app hb13).mono (by omega)⟩
      · rintro σ H12 ⟨v5, v8, rfl, s12, hG12, hE12, hr12⟩
        obtain ⟨_, vr, hvr, _⟩ := hr12
        have hrG : re ≠ G := by rintro rfl; rw [hG12] at hvr; cases hvr
        refine ⟨hG12, ?_⟩
        have hvr2 : (upd H12 G (.dK kvg)) re = some (.lst vr) := by rw [upd_ne hrG]; exact hvr
        refine ⟨_, rfl, .inl ⟨rfl, _, SqL.of hvr2⟩, re, _, rfl, rfl, hvr2, ?_⟩
        exact ⟨_, _, _, _, _, rfl, fun a o e => by rw [upd_ne (ne_of_none e hre5), upd_ne (ne_of_none e hG5)]; exact s12 _ _ e⟩
    · rintro σ H6 ⟨v2, v5, v6, v7, v8, rfl, s6⟩
      exact q H6 (s05.trans s6)
end K43


set_option Elab.async false
set_option linter.all false
set_option maxRecDepth 100000
set_option maxHeartbeats 1000000
namespace K43
open PySem PySem.Spec PyProof.Rows L2 FA
theorem prKvNames {H : Hp} : ∀ {kvs : List (Key × V)} {p : Pr}, PrKv H kvs p → (kvs.map fun kv => kV kv.1) = (pNames p).map V.str
  | _, _, .nil => rfl
  | _, _, .cons _ t => by
    have := prKvNames t
    simp only [List.map_cons, pNames] at this ⊢
    rw [this]
    rfl
theorem fmNames {H : Hp} {p : Pr} : ∀ {kvs : List (Key × V)} {ys : List Str}, FmKv H p kvs ys → (kvs.map fun kv => kV kv.1) = ys.map V.str
  | _, _, .nil => rfl
  | _, _, .cons _ t => by
    rw [List.map_cons, List.map_cons, fmNames t]
    rfl
theorem keyAt {H : Hp} {kvs : List (Key × V)} {p : Pr} {j : Nat} {k : Key} {v : V} (hk : PrKv H kvs p) (h : kvs[j]? = some (k, v)) : ∃ y, (pNames p)[j]? = some y ∧ kV k = V.str y := by
  have e := congrArg (fun l : List V => l[j]?) (prKvNames hk)
  simp only [List.getElem?_map, h, Option.map_some] at e
  cases hy : (pNames p)[j]? with
  | none => rw [hy] at e; cases e
  | some y => rw [hy] at e; exact ⟨y, rfl, Option.some.inj e⟩
theorem eqv_nilS (cs : List Str) : PyData.eqv (.list []) (.list (cs.map PyData.str)) = decide (cs = []) := by
  cases cs with
  | nil => simp [PyData.eqv, PyData.eqvAll]
  | cons x r => simp [PyData.eqv, PyData.eqvAll]
theorem eqv_oneS (g : Str) (cs : List Str) : PyData.eqv (.list [.str g]) (.list (cs.map PyData.str)) = decide (cs = [g]) := by
  match cs with
  | [] => simp [PyData.eqv, PyData.eqvAll]
  | [x] =>
    by_cases h : g = x
    · subst h; simp [PyData.eqv, PyData.eqvAll]
    · have h2 : ¬ x = g := fun z => h z.symm
      simp [PyData.eqv, PyData.eqvAll, h, h2]
  | x :: y :: r => simp [PyData.eqv, PyData.eqvAll]
theorem prKvDrop {H : Hp} {g : Str} : ∀ {kvs : List (Key × V)} {p : Pr}, PrKv H kvs p → PrKv H (dropK kvs (.inr g)) (p.filter fun r => !decide (r.1 = g))
  | _, _, .nil => .nil
  | _, _, .cons (x := y) h t => by
    have ih := prKvDrop (g := g) t
    unfold dropK at ih ⊢
    by_cases e : y = g
    · subst e
      simpa using ih
    · have e2 : ¬ ((Sum.inr y : Key) = Sum.inr g) := fun z => e (Sum.inr.inj z)
      rw [List.filter_cons_of_pos (by simp [e]), List.filter_cons_of_pos (by simp [e])]
      exact .cons h ih
theorem seq_inv {s t : TS} {D : L2.Ends} {σ : L2.St} {H : Hp} (I : L2.St → Hp → Prop) (h1 : ∀ N : L2.St → Hp → Prop, (∀ σ' H', I σ' H' → N σ' H') → s { D with nx := N } σ H) (h2 : ∀ σ' H', I σ' H' → t D σ' H') : tSeq s t D σ H := h1 _ h2
/-! ### programs that tell the same of what main reaches -/
section
variable {p q : Pr}
theorem rc_same (h : ∀ x, Rc p x → bodyOf q x = bodyOf p x) (x : Str) : Rc q x ↔ Rc p x := by
  constructor
  · intro r
    induction r with
    | main => exact .main
    | step _ hy ih => exact ih.step (by rw [← h _ ih]; exact hy)
  · intro r
    induction r with
    | main => exact .main
    | step hx hy ih => exact ih.step (by rw [h _ hx]; exact hy)
theorem ex_same (h : ∀ x, Rc p x → bodyOf q x = bodyOf p x) (x : Str) : Ex q x ↔ Ex p x := by
  constructor
  · intro r
    induction r with
    | main => exact .main
    | step _ hy hz ih =>
      have e := h _ ih.rc
      exact ih.step (by rw [← e]; exact hy) (by rw [← e]; exact hz)
  · intro r
    induction r with
    | main => exact .main
    | step hx hy hz ih =>
      have e := h _ hx.rc
      exact ih.step (by rw [e]; exact hy) (by rw [e]; exact hz)
theorem fmDs_same (h : ∀ x, Rc p x → bodyOf q x = bodyOf p x) {ys : List Str} (hy : ∀ x ∈ ys, Rc p x) : fmDs q ys = fmDs p ys := by
  unfold fmDs
  congr 1
  refine List.map_congr_left fun x hx => ?_
  have e := h x (hy x hx)
  have e2 := ex_same h x
  unfold fmD
  rw [e]
  by_cases c : Ex p x
  · rw [if_pos c, if_pos (e2.mpr c)]
  · rw [if_neg c, if_neg (fun z => c (e2.mp z))]
mutual
theorem okI_nm {ns ms : List Str} : ∀ i : FA.It, okI ns i → (∀ x ∈ nmI i, x ∈ ms) → okI ms i
  | .call x, _, k => by simp only [okI]; exact k x (by simp [nmI])
  | .may b, h, k => by simp only [okI] at h ⊢; exact ⟨h.1, okB_nm b h.2 fun x hx => k x (by simpa [nmI] using hx)⟩
  | .loop b, h, k => by simp only [okI] at h ⊢; exact ⟨h.1, okB_nm b h.2 fun x hx => k x (by simpa [nmI] using hx)⟩
  | .one bs, h, k => by simp only [okI] at h ⊢; exact ⟨h.1, h.2.1, h.2.2.1, okBs_nm bs h.2.2.2 fun x hx => k x (by simpa [nmI] using hx)⟩
theorem okB_nm {ns ms : List Str} : ∀ l : List FA.It, okB ns l → (∀ x ∈ nmB l, x ∈ ms) → okB ms l
  | [], _, _ => by simp [okB]
  | i :: r, h, k => by simp only [okB] at h ⊢; exact ⟨okI_nm i h.1 fun x hx => k x (by simp only [nmB]; exact List.mem_append_left _ hx), okB_nm r h.2 fun x hx => k x (by simp only [nmB]; exact List.mem_append_right _ hx)⟩
theorem okBs_nm {ns ms : List Str} : ∀ bs : List (List FA.It), okBs ns bs → (∀ x ∈ nmBs bs, x ∈ ms) → okBs ms bs
  | [], _, _ => by simp [okBs]
  | b :: r, h, k => by simp only [okBs] at h ⊢; exact ⟨okB_nm b h.1 fun x hx => k x (by simp only [nmBs]; exact List.mem_append_left _ hx), okBs_nm r h.2 fun x hx => k x (by simp only [nmBs]; exact List.mem_append_right _ hx)⟩
end
/-- a row at most so costly as another one, as far as its own names go -/
theorem costB_le2 {f g : Str → Int} (hf : ∀ x, 0 ≤ f x) {l : List FA.It} {ns : List Str} (ok : okB ns l) (h : ∀ x ∈ nmB l, g x ≤ f x) : costB g l ≤ costB f l :=
  costB_sel (ns := nmB l) (m := costB f l) hf (fun x hx _ => h x hx) l (okB_nm l ok fun _ h => h) (Int.le_refl _)
/-- names that call none but each other cost no more where the rest is left out -/
theorem rnd_sub {S : List Str} (hS : ∀ x ∈ S, bodyOf q x = bodyOf p x ∧ okB (pNames p) (bodyOf p x) ∧ ∀ y ∈ nmB (bodyOf p x), y ∈ S) : ∀ k, ∀ x ∈ S, rnd 13 q k x ≤ rnd 13 p k x
  | 0, x, _ => by simp only [rnd]; exact Int.le_refl _
  | k + 1, x, hx => by
    obtain ⟨h1, h2, h3⟩ := hS x hx
    have h4 := costB_le2 (f := rnd 13 p k) (g := rnd 13 q k) (rnd_nn (by decide) p k) h2 fun y hy => rnd_sub hS k y (h3 y hy)
    simp only [rnd, h1]
    omega
theorem look_body {x : Str} {l : Bd} (h : p.lookup x = some l) : bodyOf p x = l := by unfold bodyOf; rw [h]; rfl
/-! ### a program without a function that none else calls -/
def cut (p : Pr) (g : Str) : Pr := p.filter fun r => !decide (r.1 = g)
theorem cut_mem {g : Str} {r : Str × Bd} : r ∈ cut p g ↔ r ∈ p ∧ r.1 ≠ g := by
  unfold cut
  rw [List.mem_filter]
  simp
theorem cut_names {g x : Str} : x ∈ pNames (cut p g) ↔ x ∈ pNames p ∧ x ≠ g := by
  unfold pNames
  constructor
  · intro h
    obtain ⟨r, hr, rfl⟩ := List.mem_map.mp h
    have := cut_mem.mp hr
    exact ⟨List.mem_map.mpr ⟨r, this.1, rfl⟩, this.2⟩
  · rintro ⟨h, n⟩
    obtain ⟨r, hr, rfl⟩ := List.mem_map.mp h
    exact List.mem_map.mpr ⟨r, cut_mem.mpr ⟨hr, n⟩, rfl⟩
theorem cut_nd {g : Str} (nd : (pNames p).Nodup) : (pNames (cut p g)).Nodup := by
  unfold pNames cut
  exact (List.filter_sublist.map _).nodup nd
theorem cut_body {g x : Str} (nd : (pNames p).Nodup) (hx : x ≠ g) : bodyOf (cut p g) x = bodyOf p x := by
  unfold bodyOf
  cases e : p.lookup x with
  | some l => rw [look_nd (cut_nd nd) (cut_mem.mpr ⟨mem_look e, hx⟩)]
  | none =>
    cases e2 : (cut p g).lookup x with
    | none => rfl
    | some l =>
      have := look_nd nd (cut_mem.mp (mem_look e2)).1
      rw [e] at this
      cases this
theorem valid_cut {g : Str} (va : Valid p) (hm : ("main" : Str) ≠ g) (hc : ∀ x ∈ pNames p, x ≠ g → g ∉ nmB (bodyOf p x)) : Valid (cut p g) := by
  have nd := va.nd
  have key : ∀ x, x ∈ pNames p → x ≠ g → okB (pNames (cut p g)) (bodyOf p x) ∧ nCB (bodyOf p x) ≤ 5 ∧ nIB (bodyOf p x) ≤ 12 ∧ dB (bodyOf p x) ≤ 4 := fun x hx n => by
    obtain ⟨o1, o2, o3, o4⟩ := va.at hx
    exact ⟨okB_nm _ o1 fun y hy => cut_names.mpr ⟨nmB_ok _ o1 y hy, by rintro rfl; exact hc x hx n hy⟩, o2, o3, o4⟩
  have ok2 : ∀ x ∈ pNames (cut p g), okB (pNames (cut p g)) (bodyOf (cut p g) x) := fun x hx => by
    obtain ⟨h1, h2⟩ := cut_names.mp hx
    rw [cut_body nd h2]
    exact (key x h1 h2).1
  refine ⟨Nat.le_trans (List.length_filter_le _ _) va.len, cut_names.mpr ⟨va.main, hm⟩, fun x hx => va.nm x (cut_names.mp hx).1, cut_nd nd, fun x l e => ?_, fun x hx => ?_⟩
  · have hx : x ∈ pNames (cut p g) := List.mem_map.mpr ⟨(x, l), mem_look e, rfl⟩
    obtain ⟨h1, h2⟩ := cut_names.mp hx
    rw [← look_body e, cut_body nd h2]
    exact key x h1 h2
  · obtain ⟨h1, h2⟩ := cut_names.mp hx
    refine rnd_enough ok2 (M := p.length) hx (Int.le_trans (rnd_sub (p := p) (S := pNames (cut p g)) (fun y hy => ?_) p.length x hx) (va.ret x h1))
    obtain ⟨h3, h4⟩ := cut_names.mp hy
    exact ⟨cut_body nd h4, (va.at h3).1, fun z hz => nmB_ok _ (key y h3 h4).1 z hz⟩
/-! ### a program with one function more -/
def oth (y : Str) : Bd := [FA.It.may [.call "main", .call y]]
def more (p : Pr) (y : Str) : Pr := p ++ [(("other" : Str), oth y)]
theorem more_names {x y : Str} : x ∈ pNames (more p y) ↔ x ∈ pNames p ∨ x = "other" := by
  unfold pNames more
  simp
theorem other_ok : FA.okName "other" := ⟨by decide +kernel, by decide +kernel, by decide +kernel⟩
theorem more_body {x y : Str} (hx : x ≠ "other") : bodyOf (more p y) x = bodyOf p x := by
  unfold bodyOf more
  rw [List.lookup_append]
  have : List.lookup x [(("other" : Str), oth y)] = none := by
    rw [List.lookup_cons, beq_eq_false_iff_ne.mpr hx]
    rfl
  rw [this, Option.or_none]
theorem more_oth {y : Str} (ho : ("other" : Str) ∉ pNames p) : bodyOf (more p y) "other" = oth y := by
  have hn : p.lookup ("other" : Str) = none := by
    cases e : p.lookup ("other" : Str) with
    | none => rfl
    | some l => exact absurd (List.mem_map.mpr ⟨_, mem_look e, rfl⟩) ho
  unfold bodyOf more
  rw [List.lookup_append, hn]
  simp
theorem valid_more {y : Str} (va : Valid p) (hl : p.length < 6) (ho : ("other" : Str) ∉ pNames p) (hy : y ∈ pNames p) : Valid (more p y) := by
  have hno : ∀ {x}, x ∈ pNames p → x ≠ "other" := fun hx e => ho (e ▸ hx)
  have key : ∀ x, x ∈ pNames (more p y) → okB (pNames (more p y)) (bodyOf (more p y) x) ∧ nCB (bodyOf (more p y) x) ≤ 5 ∧ nIB (bodyOf (more p y) x) ≤ 12 ∧ dB (bodyOf (more p y) x) ≤ 4 := fun x hx => by
    rcases more_names.mp hx with h | rfl
    · rw [more_body (hno h)]
      obtain ⟨o1, o2, o3, o4⟩ := va.at h
      exact ⟨okB_more (fun z hz => more_names.mpr (.inl hz)) _ o1, o2, o3, o4⟩
    · rw [more_oth ho]
      refine ⟨?_, by simp [oth, nCB, nC], by simp [oth, nIB, nI], by simp [oth, dB, dI]⟩
      simp only [oth, okB, okI]
      exact ⟨⟨by simp, more_names.mpr (.inl va.main), more_names.mpr (.inl hy), trivial⟩, trivial⟩
  have ok2 : ∀ x ∈ pNames (more p y), okB (pNames (more p y)) (bodyOf (more p y) x) := fun x hx => (key x hx).1
  have nd2 : (pNames (more p y)).Nodup := by
    have e : pNames (more p y) = pNames p ++ ([("other" : Str)] : List Str) := by unfold pNames more; simp
    rw [e, List.nodup_append]
    exact ⟨va.nd, by simp, fun a ha b hb e => ho (by rw [← List.mem_singleton.mp hb, ← e]; exact ha)⟩
  refine ⟨by unfold more; rw [List.length_append]; exact hl, more_names.mpr (.inl va.main), fun x hx => ?_, nd2, fun x l e => ?_, fun x hx => ?_⟩
  · rcases more_names.mp hx with h | rfl
    · exact va.nm x h
    · exact other_ok
  · have hx : x ∈ pNames (more p y) := List.mem_map.mpr ⟨(x, l), mem_look e, rfl⟩
    rw [← look_body e]
    exact key x hx
  · rcases more_names.mp hx with h | rfl
    · refine rnd_enough ok2 (M := p.length) hx (Int.le_trans (rnd_sub (p := p) (S := pNames p) (fun z hz => ⟨more_body (hno hz), (va.at hz).1, fun u hu => nmB_ok _ (va.at hz).1 u hu⟩) p.length x h) (va.ret x h))
    · refine rnd_enough ok2 (M := 1) hx ?_
      simp only [rnd]
      rw [more_oth ho]
      simp [oth, costB, cost]
      omega
end
end K43


set_option Elab.async false
set_option linter.all false
set_option maxRecDepth 100000
set_option maxHeartbeats 1000000
namespace K43
open PySem PySem.Spec PyProof.Rows L2 FA
variable {P : Program} {w : World} {K : PySem.W.Frag} {mg : Str → Option Value} {base : Heap}
def spLaw : Sp := fun vs H Q _ => ∃ (s : Addr) (ns : List Int), vs = [.ref s] ∧ SqL K H s (ns.map V.int) ∧ ns.length ≤ 63 ∧ ∀ H', Q (.bl true) H'
theorem okLaw (T : Txt K mg) (sy : FA.SysB base) : FnG P w K mg base 19 T.aLaw T.fLaw ["script"] (spLaw (K := K)) := by
  have GLSpring : FnOk P w K mg base CX0 1 T.aLSpring T.fLSpring ["script"] (spSpring (K := K)) := okSpring T
  have GLDraw : FnOk P w K mg base CX0 1 T.aLDraw T.fLDraw ["spring", "many"] spDraw := okDraw T
  have GLProgram : FnOk P w K mg base CX0 8 T.aLProgram T.fLProgram ["spring", "most", "calls", "can_recur"] spLProgram := okLProgram T
  have GLRight : FnG P w K mg base 18 T.aLRight T.fLRight ["program"] spLRight := okLRight T sy
  have GFormOf : FnOk P w K mg base CX0 17 T.aFormOf T.fFormOf ["program"] spForm := okForm T
  have GCallees : FnOk P w K mg base CX0 14 T.aCallees T.fCallees ["program", "name"] spCallees := okCallees T
  refine okG T.FLaw scLaw (fun vs H Q E h => ?_) (fun cdv A gd outer s H vs Q E hr h => ?_)
  · obtain ⟨s, ns, rfl, _⟩ := h
    rfl
  obtain ⟨s, ns, rfl, hs, hns, q⟩ := h
  have hu := hu_of hr
  have hu65 := hu65_of hr
  refine ⟨_, (pss_cons (ps_set (i := 1) scLaw.nd rfl (by first | exact Or.inl rfl | exact Or.inr rfl) (pe_call GLSpring (hr.mono (by omega)) rfl T.gLSpring T.FLSpring.kp T.bLSpring .nil pass0 (pa_cons (pv 0) pa_nil)))
      (pss_cons (ps_for PassesOwn.never rfl (pi_range1 (by rfl) T.n_range (pa_cons (pe_op op_add pe_int (pe_callB (call_min2 rfl) (by rfl) T.n_min (by decide +kernel) (pa_cons pe_int (pa_cons (pe_callB call_len_seq (by rfl) T.n_len PySem.boot_len (pa_cons (pv 0) pa_nil)) pa_nil)))) pa_nil)) (pg_name (i := 2) scLaw.nd rfl (by first | exact Or.inl rfl | exact Or.inr rfl))
        (pss_cons (ps_set (i := 3) scLaw.nd rfl (by first | exact Or.inl rfl | exact Or.inr rfl) (pe_call GLProgram (hr.mono (by omega)) rfl T.gLProgram T.FLProgram.kp T.bLProgram .nil pass0 (pa_cons (pv 1) (pa_cons pe_int (pa_cons pe_int (pa_cons (pe_cmpR op_gt (pe_call GLDraw (hr.mono (by omega)) rfl T.gLDraw T.FLDraw.kp T.bLDraw .nil pass0 (pa_cons (pv 1) (pa_cons pe_int pa_nil))) pe_int (nomark _)) pa_nil))))))
        (pss_cons (ps_if (pt_not (pt_val (pe_callG GLRight gd (hr.mono (by omega)) rfl T.gLRight T.FLRight.kp T.bLRight (pa_cons (pv 3) pa_nil))))
          (pss_one (ps_ret pe_bl)) pss_nil)
        (pss_cons (ps_set (i := 4) scLaw.nd rfl (by first | exact Or.inl rfl | exact Or.inr rfl) (pe_call GFormOf (hr.mono (by omega)) rfl T.gFormOf T.FFormOf.kp T.bFormOf .nil pass0 (pa_cons (pv 3) pa_nil)))
        (pss_cons (ps_set (i := 5) scLaw.nd rfl (by first | exact Or.inl rfl | exact Or.inr rfl) (pe_callTy (call_dictP rfl) (by rfl) T.n_dict (by decide +kernel) (pa_cons (pe_lc (own := [("name", 8)]) (g := gName 8) (tt := tYes) rfl scLaw.nd (pi_list (pe_revL (pe_callTy (call_listD rfl) (by rfl) T.n_list (by decide +kernel) (pa_cons (pv 3) pa_nil)))) (blkOk_by (N := ["script", "spring", "turn", "program", "form", "turned", "gone", "calling", "name"]) (sc := defScope sLaw) (by decide +kernel)) (fun _ _ _ _ _ => (pg_name (i := 8) scLaw.nd rfl (by first | exact Or.inl rfl | exact Or.inr rfl))) (fun _ _ _ _ _ => pts_nil) (fun _ _ _ _ _ => (pe_tup (pa_cons (pv 8) (pa_cons (pe_dget hu (pv 3) (pv 8) (fun _ _ => rfl)) pa_nil))))) pa_nil)))
        (pss_cons (ps_if (pt_cmpR op_ne (pe_callB (call_reprD sy gd hr.units) (by rfl) T.n_repr (by decide +kernel) (pa_cons (pe_call GFormOf (hr.mono (by omega)) rfl T.gFormOf T.FFormOf.kp T.bFormOf .nil pass0 (pa_cons (pv 5) pa_nil)) pa_nil)) (pe_callB (call_reprD sy gd hr.units) (by rfl) T.n_repr (by decide +kernel) (pa_cons (pv 4) pa_nil)) (nomark _))
          (pss_one (ps_ret pe_bl)) pss_nil)
        (pss_cons (ps_set (i := 6) scLaw.nd rfl (by first | exact Or.inl rfl | exact Or.inr rfl) (pe_lock2 (pe_lc (own := [("name", 8)]) (g := gName 8) rfl scLaw.nd (pi_keys (pv 3)) (blkOk_by (N := ["script", "spring", "turn", "program", "form", "turned", "gone", "calling", "name"]) (sc := defScope sLaw) (by decide +kernel)) (fun _ _ _ _ _ => (pg_name (i := 8) scLaw.nd rfl (by first | exact Or.inl rfl | exact Or.inr rfl))) (fun _ _ _ _ _ => (pts_one (pt_cmp (pc_dnotin hu (pv 8) (pv 4))))) (fun _ _ _ _ _ => (pv 8)))))
        (pss_cons (ps_lock2 (ps_setLc (i := 7) (own := [("name", 8)]) (g := gName 8) rfl scLaw.nd rfl rfl (sw_true rfl rfl rfl (by decide +kernel)) (pi_keys (pv 3)) (blkOk_by (N := ["script", "spring", "turn", "program", "form", "turned", "gone", "calling", "name"]) (sc := defScope sLaw) (by decide +kernel)) (fun _ _ _ _ _ => (pg_name (i := 8) scLaw.nd rfl (by first | exact Or.inl rfl | exact Or.inr rfl))) (fun _ _ _ _ _ => (pts_one (PW.pt (pw_and (pt_cmpR (op_neDK (K := K) rfl hr.units) (pv 6) (pe_lst pa_nil) (nomark _)) (pw_and1 (pt_cmpR (op_in_seqK (K := K) rfl) (pe_ix (ix_listK (K := K) rfl) (pv 6) pe_int (fun _ _ => rfl)) (pe_call GCallees (hr.mono (by omega)) rfl T.gCallees T.FCallees.kp T.bCallees .nil pass0 (pa_cons (pv 3) (pa_cons (pv 8) pa_nil))) (by rfl))))))) (fun _ _ _ _ _ => (pv 8))))
        (pss_cons (ps_if (PW.pt (pw_and (pt_cmpR (op_neD hr.units) (pv 6) (pe_lst pa_nil) (nomark _)) (pw_and1 (pt_cmpR (op_inTD hu65) (pv 7) (pe_tup (pa_cons (pe_lst pa_nil) (pa_cons (pe_lst (pa_cons (pe_ix ix_list (pv 6) pe_int (fun _ _ => rfl)) pa_nil)) pa_nil))) (by rfl)))))
          (pss_one (ps_expr (pe_dpop1 (pv 5) (pe_ix ix_list (pv 6) pe_int (fun _ _ => rfl)) (by exact ⟨rfl, rfl, rfl, rfl⟩)))) pss_nil)
        (pss_cons (ps_if (pt_cmpR op_lt (pe_callB call_lenR (by rfl) T.n_len PySem.boot_len (pa_cons (pv 5) pa_nil)) pe_int (nomark _))
          (pss_one (ps_dput hu (pv 5) pe_str (pe_lst (pa_cons (pe_tup (pa_cons pe_str (pa_cons (pe_lst (pa_cons pe_str (pa_cons (pe_ix ix_list (pe_callTy (call_listD rfl) (by rfl) T.n_list (by decide +kernel) (pa_cons (pv 4) pa_nil)) pe_int (fun _ _ => rfl)) pa_nil))) pa_nil))) pa_nil)) rfl)) pss_nil)
        (pss_one (ps_if (pt_cmpR op_ne (pe_callB (call_reprD sy gd hr.units) (by rfl) T.n_repr (by decide +kernel) (pa_cons (pe_call GFormOf (hr.mono (by omega)) rfl T.gFormOf T.FFormOf.kp T.bFormOf .nil pass0 (pa_cons (pv 5) pa_nil)) pa_nil)) (pe_callB (call_reprD sy gd hr.units) (by rfl) T.n_repr (by decide +kernel) (pa_cons (pv 4) pa_nil)) (nomark _))
          (pss_one (ps_ret pe_bl)) pss_nil))))))))))))
      (pss_one (ps_ret pe_bl)))), ?_⟩
  refine ⟨_, rfl, s, ns, rfl, hs, fun a H1 s1 hna hw1 => ?_⟩
  obtain ⟨m, hm0, hm6, em⟩ : ∃ m : Int, 0 ≤ m ∧ m ≤ 6 ∧ 3 + (if ((ns.map V.int).length : Int) < 3 then ((ns.map V.int).length : Int) else 3) = m := by
    refine ⟨_, ?_, ?_, rfl⟩ <;> split <;> omega
  refine ⟨_, rfl, _, _, rfl, .inl (s1.seq hs), _, _, rfl, _, _, rfl, rfl, m, congrArg (fun z => [V.int z]) em, by omega, by omega, ?_⟩
  refine for_range (lo := 0) (n := m.toNat) (fun k σ H' => ∃ v2 v3 v4 v5 v6 v7 v8, σ = [some (.ref s), some (.ref a), v2, v3, v4, v5, v6, v7, v8] ∧ Same H H' ∧ WellAt H' a (k * 50000)) ⟨none, none, none, none, none, none, none, rfl, s1, hw1.mono (by omega)⟩ ?_ ?_
  · rintro k σ H3 hk ⟨v2, v3, v4, v5, v6, v7, v8, rfl, s3, hw3⟩
    have hk6 : k < 6 := by omega
    have far : ∀ {H' : Hp}, Sm [a] H3 H' → Same H H' := fun sm b o e => sm b o (by simp; exact ne_of_none e hna) (s3 _ _ e)
    obtain ⟨m0, hm0'⟩ : ∃ m0, m0 = k * 50000 := ⟨_, rfl⟩
    have hms : m0 + 50000 = (k + 1) * 50000 := by omega
    rw [← hm0'] at hw3
    refine ⟨_, rfl, _, rfl, a, 3, m0, rfl, by decide, by decide, hw3, by omega, fun r H4 r0 r1 sm4 hw4 => ?_⟩
    refine ⟨_, _, rfl, rfl, a, 6, 5, m0 + 1, decide (0 < r), rfl, by decide, by decide, by decide, by decide, hw4, by omega, fun d kvs p H5 sm5 hw5 hdn hd5 hk5' va hoth => ?_⟩
    have hk5 : PrKv H5 kvs p := hk5'.keep kp_off
    have sm05 := sm4.trans sm5
    have pa5 : PrAt H5 d p := ⟨kvs, .inl hd5, hk5⟩
    have hlen := va.len
    clear hk5' sm4 hw4
    refine ⟨_, rfl, d, p, rfl, pa5, va, fun H6 s6 => ?_⟩
    refine ⟨_, rfl, iteF ?_⟩
    refine ⟨_, rfl, d, p, rfl, PrAt.same s6 pa5, va, fun G ys kvg H7 s7 hGn hG hkg hynd hyso hyr => ?_⟩
    have s57 := s6.trans s7
    have hd7 := s57 _ _ hd5
    have hk7 := hk5.keep (Kp.of s57)
    have hkg7 : FmKv H7 p kvg ys := hkg.keep kp_frl
    have hkl := hk7.length
    -- the program with its keys turned
    refine ⟨_, rfl, d, kvs, rfl, .inl hd7, fun L hL => ?_⟩
    rw [prKvNames hk7]
    have s8 := same_upd0 hL (.lst ((pNames p).map V.str))
    have hL8 : (upd H7 L (.lst ((pNames p).map V.str))) L = some (.lst ((pNames p).map V.str)) := upd_same
    generalize upd H7 L (.lst ((pNames p).map V.str)) = H8 at s8 hL8 ⊢
    refine ⟨_, _, rfl, SqL.of hL8, fun pr hpr => ?_⟩
    have s9 := same_upd0 hpr (.lst ((pNames p).map V.str).reverse)
    have hz9 : (upd H8 pr (.lst ((pNames p).map V.str).reverse)) pr = some (.lst ((pNames p).reverse.map V.str)) := by rw [upd_same, List.map_reverse]
    generalize upd H8 pr (.lst ((pNames p).map V.str).reverse) = H9 at s9 hz9 ⊢
    have s79 := s8.trans s9
    have s59 := s57.trans s79
    obtain ⟨zs, hzs⟩ : ∃ zs, zs = (pNames p).reverse := ⟨_, rfl⟩
    rw [← hzs] at hz9
    have hzp : zs.Perm (pNames p) := by rw [hzs]; exact List.reverse_perm _
    have zl : zs.length = p.length := by rw [hzp.length_eq]; unfold pNames; rw [List.length_map]
    have hd9 := s79 _ _ hd7
    have hk9 := hk7.keep (Kp.of s79)
    refine ⟨pr, rfl, ⟨_, SqL.of hz9⟩, fun D hD => lcS (n := (zs.map V.str).length) hD (small1000 (by rw [List.length_map]; omega)) _ (fun j v H => ∃ x t b, zs[j]? = some x ∧ v = .ref t ∧ H t = some (.tup [.str x, .ref b]) ∧ BdAt H9 b (bodyOf p x))
      (go_l (SqL.of hz9)) (stop_l (SqL.of hz9)) (yld_l (SqL.of hz9)) (fun j v A B ht ⟨x, t, b, a1, a2, a3, a4⟩ => ⟨x, t, b, a1, a2, ht _ _ a3, a4⟩) ?_ ?_⟩
    · intro j x Hx R hj hx sx kk
      obtain ⟨y, hy, rfl⟩ := str_get hx
      have hyp : y ∈ pNames p := hzp.mem_iff.mp (List.mem_of_getElem? hy)
      obtain ⟨l0, e0⟩ := lookup_mem hyp
      rcases hk9.look (x := y) with ⟨z1, _⟩ | ⟨l, b, z1, z2, z3⟩
      · rw [e0] at z1; cases z1
      refine ⟨rfl, _, rfl, _, rfl, _, rfl, d, _, rfl, .inl ⟨kvs, .inr y, .inl (sx _ _ hd9), rfl, z2.symm⟩, Nat.le_of_lt (small1000 (by simp)), fun t ht => ?_⟩
      exact kk _ _ (same_upd ht _) ⟨y, t, b, hy, rfl, upd_same, by rw [bodyOf_look z1]; exact z3⟩
    · intro H10 vs s10 hD10 hl10 hg10
      rw [List.length_map] at hl10
      obtain ⟨ps, kvt, g1, g2, g3⟩ := rows_body (G := H9) hl10 hg10
      rw [g1] at hD10
      refine ⟨D, ps, kvt, rfl, SqL.of hD10, Paired.weak (fun t kv h => SqT.of h) g2, fun T hT => ?_⟩
      obtain ⟨q1, hq1⟩ : ∃ q1, q1 = zs.map fun x => (x, bodyOf p x) := ⟨_, rfl⟩
      rw [← hq1] at g3
      have pp : q1.Perm p := by
        have := hzp.map fun x => (x, bodyOf p x)
        rw [map_bodies va.nd] at this
        rw [hq1]
        exact this
      have vq := va.perm pp
      have bq := body_perm pp va.nd
      rw [mergeK_nd kvt [] (keys_nd g3 vq.nd), List.nil_append]
      have s11 := same_upd hT (.dK kvt)
      have hT11 : (upd H10 T (.dK kvt)) T = some (.dK kvt) := upd_same
      generalize upd H10 T (.dK kvt) = H11 at s11 hT11 ⊢
      have s911 := s10.trans s11
      have s711 := s79.trans s911
      have pq11 : PrAt H11 T q1 := ⟨kvt, .inl hT11, g3.keep (Kp.of s911)⟩
      have hT7 : H7 T = none := none_back (W := []) (Sm.of_same (s79.trans s10)) (fun _ z => by cases z) hT
      have hyrc : ∀ x ∈ ys, Rc p x := fun x hx => (hyr x).mp hx
      have hy6 : ys.length ≤ 6 := by
        have := nd_le hynd fun x hx => (hyrc x hx).name va
        unfold pNames at this
        rw [List.length_map] at this
        omega
      have pff := fmDs_fits va (ys := ys) (fun x hx => (hyrc x hx).name va) hy6
      -- the same form
      have again : ∀ {q : Pr} {zs : List Str}, (∀ x, Rc p x → bodyOf q x = bodyOf p x) → zs.Nodup → sortedS zs = true → (∀ x, x ∈ zs ↔ Rc q x) → fmDs q zs = fmDs p ys := fun h nd so hm => by
        rw [sorted_one so hyso (perm_same nd hynd fun x => (hm x).trans ((rc_same h x).trans (hyr x).symm))]
        exact fmDs_same h hyrc
      refine ⟨_, rfl, T, q1, rfl, pq11, vq, fun G2 ys2 kvg2 H12 s12 hGn2 hG2 hkg2 hynd2 hyso2 hyr2 => ?_⟩
      have e2 := again (fun x _ => bq x) hynd2 hyso2 hyr2
      have s712 := s711.trans s12
      refine ⟨G2, fmDs p ys, rfl, by rw [← e2]; exact FmKv.dt (.inl hG2) (hkg2.keep kp_frl), pff.sh, by have := pff.dp; omega, pff.len (by omega), ?_⟩
      refine ⟨_, rfl, G, fmDs p ys, rfl, FmKv.dt (.inl (s712 _ _ hG)) (hkg7.keep (Kp.of s712)), pff.sh, by have := pff.dp; omega, pff.len (by omega), rfl, _, rfl, ?_⟩
      rw [decide_eq_true rfl]
      refine iteF ?_
      clear hL hL8 hpr hz9 hD hD10 hl10 hg10 g1 g2 hT
      -- gone
      have hd12 := s712 _ _ hd7
      have hG12 := s712 _ _ hG
      have hk12 := hk7.keep (Kp.of s712)
      have hT12 := s12 _ _ hT11
      have hkl7 : kvs.length ≤ 6 := by rw [hkl]; exact hlen
      have ksz : kvs.length < sizeLine := small1000 (by omega)
      have hGd : G ≠ d := by rintro rfl; rw [hd7] at *; exact absurd (s7 _ _ (s6 _ _ hd5)) (by intro z; have := (s6 _ _ hd5); rw [hGn] at this; cases this)
      have hTd : T ≠ d := by rintro rfl; rw [hT7] at hd7; cases hd7
      refine .inl ⟨d, .dK kvs, hd12, trivial, fun od => ?_⟩
      have hd13 : (upd H12 d (.frz od (.dK kvs))) d = some (.frz od (.dK kvs)) := upd_same
      have of13 : ∀ c, c ≠ d → (upd H12 d (.frz od (.dK kvs))) c = H12 c := fun c hc => upd_ne hc
      generalize upd H12 d (.frz od (.dK kvs)) = H13 at hd13 of13 ⊢
      have hG13 : H13 G = some (.dK kvg) := by rw [of13 G hGd]; exact hG12
      refine ⟨_, rfl, d, od, rfl, .inl ⟨kvs, hd13, ?_⟩⟩
      refine fun D1 hD1 => lcT (n := kvs.length) hD1 ksz (fun j v => ∃ y, (pNames p)[j]? = some y ∧ v = .str y) (valT (pNames p) (fun x => !decide (x ∈ ys)) V.str) (go_k hd13) (stop_k hd13) (fun j Hx v Hy sx hj yy => ?_) ?_ ?_
      · obtain ⟨rfl, k', v', f1, rfl⟩ := yld_k j Hx v Hy sx hj yy
        obtain ⟨y, f2, f3⟩ := keyAt hk12 f1
        exact ⟨rfl, y, f2, f3⟩
      · rintro j v Hx body hj ⟨y, hy, rfl⟩ sx kk
        unfold valT at kk
        rw [hy] at kk
        refine ⟨rfl, _, rfl, _, rfl, G, _, rfl, DGet.k (k := .inr y) (sx _ _ hG13), _, rfl, ?_⟩
        by_cases hyy : y ∈ ys
        · obtain ⟨v', f1, _⟩ := hkg7.look hyy
          rw [f1]
          exact (kk _ Hx (Same.refl _)).1 (by simp [hyy])
        · rw [hkg7.out hyy]
          exact (kk _ Hx (Same.refl _)).2 (.str y) (by simp [hyy]) fun Q hQ => ⟨_, rfl, hQ⟩
      · intro Hx sx hDx
        have hlk : kvs.length = (pNames p).length := by rw [hkl]; unfold pNames; rw [List.length_map]
        rw [hlk, range_fm] at hDx
        obtain ⟨gs, hgs⟩ : ∃ gs, gs = (pNames p).filter fun x => !decide (x ∈ ys) := ⟨_, rfl⟩
        rw [← hgs] at hDx
        have hD1d : D1 ≠ d := by rintro rfl; rw [hd13] at hD1; cases hD1
        refine ⟨sx _ _ hd13, ?_⟩
        have hd14 : (upd Hx d (.dK kvs)) d = some (.dK kvs) := upd_same
        have of14 : ∀ c, c ≠ d → (upd Hx d (.dK kvs)) c = Hx c := fun c hc => upd_ne hc
        generalize upd Hx d (.dK kvs) = H14 at hd14 of14 ⊢
        have s1214 : Same H12 H14 := fun c o e => by
          by_cases h : c = d
          · subst h; rw [hd12] at e; cases e; exact hd14
          · rw [of14 c h]; exact sx _ _ (by rw [of13 c h]; exact e)
        have hg14 : H14 D1 = some (.lst (gs.map V.str)) := by rw [of14 D1 hD1d]; exact hDx
        have gsP : ∀ x, x ∈ gs ↔ x ∈ pNames p ∧ x ∉ ys := fun x => by rw [hgs, List.mem_filter]; simp
        have gs6 : gs.length ≤ 6 := by rw [hgs]; exact Nat.le_trans (List.length_filter_le _ _) (by omega)
        have gso : ∀ x ∈ gs, FA.okName x := fun x hx => va.nm x ((gsP x).mp hx).1
        clear hDx sx hd13 of13 of14 hG13 hD1
        -- calling
        have hk14 := hk12.keep (Kp.of s1214)
        have hT14 := s1214 _ _ hT12
        have hG14 := s1214 _ _ hG12
        obtain ⟨cC, hcC⟩ : ∃ cC : Str → Bool, ∀ y, cC y = true ↔ ∃ g, gs[0]? = some g ∧ g ∈ nmB (bodyOf p y) := ⟨fun y => @decide (∃ g, gs[0]? = some g ∧ g ∈ nmB (bodyOf p y)) (Classical.propDecidable _), fun y => @decide_eq_true_iff _ (Classical.propDecidable _)⟩
        refine .inl ⟨d, .dK kvs, hd14, trivial, fun oe => ?_⟩
        have hd15 : (upd H14 d (.frz oe (.dK kvs))) d = some (.frz oe (.dK kvs)) := upd_same
        have of15 : ∀ c, c ≠ d → (upd H14 d (.frz oe (.dK kvs))) c = H14 c := fun c hc => upd_ne hc
        have hk15 : PrKv (upd H14 d (.frz oe (.dK kvs))) kvs p := hk14.keep ⟨fun b xs e => by rw [upd_ne (by rintro rfl; rw [hd14] at e; cases e)]; exact e, fun b xs e => by rw [upd_ne (by rintro rfl; rw [hd14] at e; cases e)]; exact e⟩
        generalize upd H14 d (.frz oe (.dK kvs)) = H15 at hd15 of15 hk15 ⊢
        have hg15 : H15 D1 = some (.lst (gs.map V.str)) := by rw [of15 D1 hD1d]; exact hg14
        have pa15 : PrAt H15 d p := ⟨kvs, .inr ⟨oe, hd15⟩, hk15⟩
        refine ⟨_, rfl, d, oe, rfl, .inl ⟨kvs, hd15, ?_⟩⟩
        refine fun D2 hD2 => lcT (n := kvs.length) hD2 ksz (fun j v => ∃ y, (pNames p)[j]? = some y ∧ v = .str y) (valT (pNames p) cC V.str) (go_k hd15) (stop_k hd15) (fun j Hx v Hy sx hj yy => ?_) ?_ ?_
        · obtain ⟨rfl, k', v', f1, rfl⟩ := yld_k j Hx v Hy sx hj yy
          obtain ⟨y, f2, f3⟩ := keyAt hk12 f1
          exact ⟨rfl, y, f2, f3⟩
        · rintro j v Hx body hj ⟨y, hy, rfl⟩ sx kk
          have hyn : y ∈ pNames p := List.mem_of_getElem? hy
          unfold valT at kk
          rw [hy] at kk
          refine ⟨rfl, _, rfl, Nat.zero_le _, fun e he => ?_⟩
          have sy1 := same_upd0 he (.lst [])
          have hey : (upd Hx e (.lst [])) e = some (.lst []) := upd_same
          generalize upd Hx e (.lst []) = Hy at sy1 hey ⊢
          have sxy := sx.trans sy1
          have hgy := sxy _ _ hg15
          refine ⟨_, _, .lst (SqL.of hgy) (dp_strs gs), .lst (SqL.of hey) .nil, strs_shaped gso, dt_shaped rfl (by decide), ?_⟩
          rw [eqv_nil]
          cases gs with
          | nil =>
            have hc : cC y = false := by
              cases e : cC y with
              | false => rfl
              | true => obtain ⟨g, z, _⟩ := (hcC y).mp e; cases z
            refine ⟨_, rfl, iteF ?_⟩
            exact (kk _ Hy sy1).1 (by simp [hc])
          | cons g r =>
            refine ⟨_, rfl, iteT ?_⟩
            refine ⟨_, rfl, D1, _, _, .str g, rfl, rfl, SqL.of hgy, at_of (j := 0) rfl rfl, ?_⟩
            refine ⟨_, rfl, _, rfl, d, p, y, rfl, PrAt.same sxy pa15, va, hyn, fun rr zz Hz sz hrr hrz tl => ?_⟩
            refine ⟨rr, _, rfl, .inl (SqL.of hrz), rfl, strs_flat _, _, rfl, ?_⟩
            have ein : (if false = true then !inV (.str g) (zz.map V.str) else inV (.str g) (zz.map V.str)) = cC y := by
              rw [if_neg (by decide), inV_strs, Bool.eq_iff_iff, hcC, decide_eq_true_iff, tl.mem]
              exact ⟨fun h => ⟨g, rfl, h⟩, fun ⟨g', e1, h⟩ => by cases e1; exact h⟩
            rw [ein]
            cases e : cC y with
            | false => exact (kk _ Hz (sy1.trans sz)).1 (by simp [e])
            | true => exact (kk _ Hz (sy1.trans sz)).2 (.str y) (by simp [e]) fun Q hQ => ⟨_, rfl, hQ⟩
        · intro Hx sx hDx
          rw [hlk, range_fm] at hDx
          obtain ⟨cs, hcs⟩ : ∃ cs, cs = (pNames p).filter cC := ⟨_, rfl⟩
          rw [← hcs] at hDx
          have hD2d : D2 ≠ d := by rintro rfl; rw [hd15] at hD2; cases hD2
          refine ⟨sx _ _ hd15, ?_⟩
          have hd16 : (upd Hx d (.dK kvs)) d = some (.dK kvs) := upd_same
          have of16 : ∀ c, c ≠ d → (upd Hx d (.dK kvs)) c = Hx c := fun c hc => upd_ne hc
          generalize upd Hx d (.dK kvs) = H16 at hd16 of16 ⊢
          have s1416 : Same H14 H16 := fun c o e => by
            by_cases h : c = d
            · subst h; rw [hd14] at e; cases e; exact hd16
            · rw [of16 c h]; exact sx _ _ (by rw [of15 c h]; exact e)
          have hc16 : H16 D2 = some (.lst (cs.map V.str)) := by rw [of16 D2 hD2d]; exact hDx
          have hg16 := s1416 _ _ hg14
          have hT16 := s1416 _ _ hT14
          have csP : ∀ x, x ∈ cs ↔ x ∈ pNames p ∧ ∃ g, gs[0]? = some g ∧ g ∈ nmB (bodyOf p x) := fun x => by rw [hcs, List.mem_filter, hcC]
          have cso : ∀ x ∈ cs, FA.okName x := fun x hx => va.nm x ((csP x).mp hx).1
          have s1116 := s12.trans (s1214.trans s1416)
          have s1216 := s1214.trans s1416
          have hkt16 := g3.keep (Kp.of (s911.trans s1116))
          have s516 := s57.trans (s711.trans s1116)
          clear hDx sx hd15 of15 of16 hk15 hg15 pa15 hD2 hg14 hd14 hT14 hG14 hk14
          -- without the first of them
          have kpT : ∀ {Ha : Hp} {k1 k2 : List (Key × V)}, Ha T = some (.dK k1) → Kp Ha (upd Ha T (.dK k2)) := fun h => kp_dk h
          show L2.Ends.nx _ _ _
          dsimp only [L2.Ends.nx]
          refine seq_inv (fun σ' H' => σ' = [some (.ref s), some (.ref a), some (.int (0 + (k : Int))), some (.ref d), some (.ref G), some (.ref T), some (.ref D1), some (.ref D2), v8] ∧ ∃ (q2 : Pr) (kv2 : List (Key × V)), Sm [T] H16 H' ∧ H' T = some (.dK kv2) ∧ PrKv H' kv2 q2 ∧ Valid q2 ∧ (∀ x, Rc p x → bodyOf q2 x = bodyOf p x) ∧ (∀ x ∈ pNames q2, x ∈ pNames p)) (fun N kk => ?_) ?_
          · refine ⟨_, rfl, Nat.zero_le _, fun e he => ?_⟩
            have sy := same_upd0 he (.lst [])
            have hey : (upd H16 e (.lst [])) e = some (.lst []) := upd_same
            generalize upd H16 e (.lst []) = Hy at sy hey ⊢
            have hgy := sy _ _ hg16
            refine ⟨_, _, .lst (SqL.of hgy) (dp_strs gs), .lst (SqL.of hey) .nil, strs_shaped gso, dt_shaped rfl (by decide), ?_⟩
            rw [eqv_nil]
            have names1 : ∀ x ∈ pNames q1, x ∈ pNames p := fun x hx => (names_perm pp).mem_iff.mp hx
            have stay : ∀ Hz, Same Hy Hz → N [some (.ref s), some (.ref a), some (.int (0 + (k : Int))), some (.ref d), some (.ref G), some (.ref T), some (.ref D1), some (.ref D2), v8] Hz := fun Hz sz => kk _ _ ⟨rfl, q1, kvt, Sm.of_same (sy.trans sz), sz _ _ (sy _ _ hT16), hkt16.keep (Kp.of (sy.trans sz)), vq, fun x _ => bq x, names1⟩
            cases gs with
            | nil =>
              refine ⟨_, rfl, iteF ?_⟩
              refine iteF ?_
              exact stay Hy (Same.refl _)
            | cons g r =>
              refine ⟨_, rfl, iteT ?_⟩
              refine ⟨_, rfl, Nat.zero_le _, fun e1 he1 => ?_⟩
              have sz1 := same_upd0 he1 (.lst [])
              have hz1 : (upd Hy e1 (.lst [])) e1 = some (.lst []) := upd_same
              generalize upd Hy e1 (.lst []) = Hz1 at sz1 hz1 ⊢
              refine ⟨_, rfl, D1, _, _, .str g, rfl, rfl, SqL.of (sz1 _ _ hgy), at_of (j := 0) rfl rfl, Nat.le_of_lt (small1000 (by simp)), fun e2 he2 => ?_⟩
              have sz2 := same_upd0 he2 (.lst [V.str g])
              have hz2 : (upd Hz1 e2 (.lst [V.str g])) e2 = some (.lst [V.str g]) := upd_same
              generalize upd Hz1 e2 (.lst [V.str g]) = Hz2 at sz2 hz2 ⊢
              refine ⟨Nat.le_of_lt (small1000 (by simp)), fun e3 he3 => ?_⟩
              have sz3 := same_upd0 he3 (.tup [V.ref e1, V.ref e2])
              have hz3 : (upd Hz2 e3 (.tup [V.ref e1, V.ref e2])) e3 = some (.tup [V.ref e1, V.ref e2]) := upd_same
              generalize upd Hz2 e3 (.tup [V.ref e1, V.ref e2]) = Hz3 at sz3 hz3 ⊢
              have syz := sz1.trans (sz2.trans sz3)
              have gok := gso g (by simp)
              refine ⟨.list (cs.map PyData.str), [.list [], .list [.str g]], .lst (SqL.of (syz _ _ (sy _ _ hc16))) (dp_strs cs), .tup (SqT.of hz3) (.cons (.lst (SqL.of (sz3 _ _ (sz2 _ _ hz1))) .nil) (.cons (.lst (SqL.of (sz3 _ _ hz2)) (.cons (.str _) .nil)) .nil)), strs_shaped cso, ?_, ?_⟩
              · exact dt_shaped (by simp [PyData.canLayAll0, PyData.canLay0, gok.strOk]) (by simp [PyData.depthAll, PyData.depth])
              have eany : ([PyData.list [], .list [.str g]].any fun z => PyData.eqv z (.list (cs.map PyData.str))) = (decide (cs = []) || decide (cs = [g])) := by
                simp only [List.any_cons, List.any_nil, eqv_nilS, eqv_oneS, Bool.or_false]
              rw [eany]
              refine ⟨_, rfl, ?_⟩
              cases hc : (decide (cs = []) || decide (cs = [g])) with
              | false =>
                refine iteF ?_
                exact stay Hz3 syz
              | true =>
                refine iteT ?_
                obtain ⟨hgp, hgy2⟩ := (gsP g).mp (by simp)
                have hgq : g ∈ pNames q1 := (names_perm pp).mem_iff.mpr hgp
                have hTz := syz _ _ (sy _ _ hT16)
                have hkz := hkt16.keep (Kp.of (sy.trans syz))
                obtain ⟨l0, e0⟩ := lookup_mem hgq
                rcases hkz.look (x := g) with ⟨z1, _⟩ | ⟨lg, bg, z1, z2, z3⟩
                · rw [e0] at z1; cases z1
                have hmg : ("main" : Str) ≠ g := fun z => hgy2 (by rw [← z]; exact (hyr _).mpr .main)
                have hcall : ∀ x ∈ pNames q1, x ≠ g → g ∉ nmB (bodyOf q1 x) := fun x hx hne h => by
                  rw [bq] at h
                  have hxc := (csP x).mpr ⟨(names_perm pp).mem_iff.mp hx, g, rfl, h⟩
                  rw [Bool.or_eq_true] at hc
                  rcases hc with hc | hc
                  · rw [of_decide_eq_true hc] at hxc; cases hxc
                  · rw [of_decide_eq_true hc] at hxc; exact hne (List.mem_singleton.mp hxc)
                refine ⟨_, rfl, T, rfl, ?isd, _, rfl, D1, _, _, .str g, rfl, rfl, SqL.of (syz _ _ hgy), at_of (j := 0) rfl rfl, kvt, .inr g, .ref bg, hTz, rfl, z2, ?go⟩
                case isd => exact .inl ⟨_, .inl hTz⟩
                case go =>
                  refine kk _ _ ⟨rfl, cut q1 g, dropK kvt (.inr g), fun b o hb e => ?_, upd_same, (prKvDrop hkz).keep (kpT hTz), valid_cut vq hmg hcall, fun x hx => ?_, fun x hx => names1 x (cut_names.mp hx).1⟩
                  · rw [upd_ne (by simpa using hb)]
                    exact syz _ _ (sy _ _ e)
                  · have hxg : x ≠ g := fun z => hgy2 (by rw [← z]; exact (hyr _).mpr hx)
                    rw [cut_body vq.nd hxg]
                    exact bq x
          · rintro σ' H17 ⟨rfl, q2, kv2, sm17, hT17, hk17, v2q, bq2, nm2⟩
            have hkg16 := hkg7.keep (Kp.of (s711.trans s1116))
            have hG16 := (s711.trans s1116) _ _ hG
            have hGT : G ≠ T := by rintro rfl; rw [hT7] at hG; cases hG
            have hT16' : ∀ b o, H16 b = some o → (∀ kv, o ≠ .dK kv) → b ≠ T := fun b o e n => by rintro rfl; rw [hT16] at e; cases e; exact n _ rfl
            have hl2 := hk17.length
            refine seq_inv (fun σ' H' => σ' = [some (.ref s), some (.ref a), some (.int (0 + (k : Int))), some (.ref d), some (.ref G), some (.ref T), some (.ref D1), some (.ref D2), v8] ∧ ∃ (q3 : Pr) (kv3 : List (Key × V)), Sm [T] H16 H' ∧ H' T = some (.dK kv3) ∧ PrKv H' kv3 q3 ∧ Valid q3 ∧ (∀ x, Rc p x → bodyOf q3 x = bodyOf p x)) (fun N kk => ?_) ?_
            · refine ⟨_, rfl, T, kv2, rfl, .inl hT17, _, _, rfl, rfl, _, rfl, ite2 (fun hlt => ?_) (fun _ => ?_)⟩
              · have hlt := of_decide_eq_true hlt
                have hq6 : q2.length < 6 := by omega
                obtain ⟨y0, yr, hy0⟩ : ∃ y0 yr, ys = y0 :: yr := by
                  cases ys with
                  | nil => exact absurd ((hyr _).mpr .main) (by simp)
                  | cons y0 yr => exact ⟨y0, yr, rfl⟩
                have hG17 : H17 G = some (.dK kvg) := sm17 _ _ (by simpa using hGT) hG16
                refine ⟨_, rfl, G, kvg, rfl, .inl hG17, fun L2' hL2 => ?_⟩
                rw [fmNames hkg7]
                have sa1 := same_upd0 hL2 (.lst (ys.map V.str))
                have ha1 : (upd H17 L2' (.lst (ys.map V.str))) L2' = some (.lst (ys.map V.str)) := upd_same
                generalize upd H17 L2' (.lst (ys.map V.str)) = Ha1 at sa1 ha1 ⊢
                refine ⟨L2', _, _, .str y0, rfl, rfl, SqL.of ha1, at_of (j := 0) rfl (by rw [hy0]; rfl), Nat.le_of_lt (small1000 (by simp)), fun b2 hb2 => ?_⟩
                have sa2 := same_upd0 hb2 (.lst [V.str "main", V.str y0])
                have ha2 : (upd Ha1 b2 (.lst [V.str "main", V.str y0])) b2 = some (.lst [V.str "main", V.str y0]) := upd_same
                generalize upd Ha1 b2 (.lst [V.str "main", V.str y0]) = Ha2 at sa2 ha2 ⊢
                refine ⟨Nat.le_of_lt (small1000 (by simp)), fun t2 ht2 => ?_⟩
                have sa3 := same_upd0 ht2 (.tup [V.str "maybe", V.ref b2])
                have ha3 : (upd Ha2 t2 (.tup [V.str "maybe", V.ref b2])) t2 = some (.tup [V.str "maybe", V.ref b2]) := upd_same
                generalize upd Ha2 t2 (.tup [V.str "maybe", V.ref b2]) = Ha3 at sa3 ha3 ⊢
                refine ⟨Nat.le_of_lt (small1000 (by simp)), fun l2 hl2' => ?_⟩
                have sa4 := same_upd0 hl2' (.lst [V.ref t2])
                have ha4 : (upd Ha3 l2 (.lst [V.ref t2])) l2 = some (.lst [V.ref t2]) := upd_same
                generalize upd Ha3 l2 (.lst [V.ref t2]) = Ha4 at sa4 ha4 ⊢
                have sa14 := sa1.trans (sa2.trans (sa3.trans sa4))
                have hTa := sa14 _ _ hT17
                have hka := hk17.keep (Kp.of sa14)
                have hbd : BdAt Ha4 l2 (oth y0) := ⟨_, ha4, .cons (.may (sa4 _ _ ha3) (sa4 _ _ (sa3 _ _ ha2)) (.cons (.call _) (.cons (.call _) .nil))) .nil⟩
                have ho2 : ("other" : Str) ∉ pNames q2 := fun z => hoth (nm2 _ z)
                have hov : valV kv2 (.inr "other") = none := by
                  rcases hka.look (x := "other") with ⟨_, z⟩ | ⟨l, b, z1, _⟩
                  · exact z
                  · exact absurd (List.mem_map.mpr ⟨_, mem_look z1, rfl⟩) ho2
                refine ⟨_, rfl, T, _, rfl, DPut.k (k := .inr "other") hTa (small1000 (by omega)), ?_⟩
                rw [putK_new _ hov]
                have hy0r : Rc p y0 := hyrc y0 (by rw [hy0]; simp)
                have hy0q : y0 ∈ pNames q2 := ((rc_same bq2 y0).mpr hy0r).name v2q
                refine kk _ _ ⟨rfl, more q2 y0, _, fun b o hb e => ?_, upd_same, (PrKv.snoc hbd hka).keep (kpT hTa), valid_more v2q hq6 ho2 hy0q, fun x hx => ?_⟩
                · rw [upd_ne (by simpa using hb)]
                  exact sa14 _ _ (sm17 _ _ hb e)
                · rw [more_body (fun z => hoth (by rw [← z]; exact hx.name va))]
                  exact bq2 x hx
              · exact kk _ _ ⟨rfl, q2, kv2, sm17, hT17, hk17, v2q, bq2⟩
            · rintro σ' H18 ⟨rfl, q3, kv3, sm18, hT18, hk18, v3q, bq3⟩
              refine ⟨_, rfl, T, q3, rfl, ⟨kv3, .inl hT18, hk18⟩, v3q, fun G3 ys3 kvg3 H19 s19 hGn3 hG3 hkg3 hynd3 hyso3 hyr3 => ?_⟩
              have e3 := again bq3 hynd3 hyso3 hyr3
              have hG18 : H18 G = some (.dK kvg) := sm18 _ _ (by simpa using hGT) hG16
              have hkg18 : FmKv H18 p kvg ys := hkg16.keep ⟨fun b xs e => sm18 _ _ (by simpa using hT16' b _ e (by intro kv z; cases z)) e, fun b xs e => sm18 _ _ (by simpa using hT16' b _ e (by intro kv z; cases z)) e⟩
              refine ⟨G3, fmDs p ys, rfl, by rw [← e3]; exact FmKv.dt (.inl hG3) (hkg3.keep kp_frl), pff.sh, by have := pff.dp; omega, pff.len (by omega), ?_⟩
              refine ⟨_, rfl, G, fmDs p ys, rfl, FmKv.dt (.inl (s19 _ _ hG18)) (hkg18.keep (Kp.of s19)), pff.sh, by have := pff.dp; omega, pff.len (by omega), rfl, _, rfl, ?_⟩
              rw [decide_eq_true rfl]
              refine iteF ?_
              have s05 : Same H H5 := far sm05
              have hTH : H T = none := none_back (W := []) (Sm.of_same (s05.trans s57)) (fun _ z => by cases z) hT7
              refine ⟨_, _, _, _, _, _, _, rfl, fun b o e => s19 _ _ (sm18 _ _ (by simpa using ne_of_none e hTH) (s516 _ _ (s05 _ _ e))), ?_⟩
              have haT : a ≠ T := by
                rintro rfl
                obtain ⟨o, e⟩ := hw5.some
                rw [s57 _ _ e] at hT7
                cases hT7
              exact (hw5.keep fun o e => s19 _ _ (sm18 _ _ (by simpa using haT) (s516 _ _ e))).mono (by omega)
  · rintro σ H3 ⟨v2, v3, v4, v5, v6, v7, v8, rfl, s3, hw3⟩
    exact q H3
end K43


set_option Elab.async false
set_option linter.all false
set_option maxRecDepth 100000
set_option maxHeartbeats 4000000
namespace K43
open PySem PySem.Spec PyProof.Rows L2 FA LiI
theorem all_mk {P : Program} {w : World} {K : PySem.W.Frag} {h : Heap} {mg : Str → Option Value} {fa : Addr} (X : K.In h) (G : h.Ns mainGlobals mg) (hfa : mg "law" = some (.ref fa))
    {fBodiesWithin : Addr} {odBodiesWithin anBodiesWithin : Option Addr} {slBodiesWithin : Array (Option Value)} {ocBodiesWithin kVBodiesWithin dcBodiesWithin pmBodiesWithin cdBodiesWithin ctBodiesWithin : Value}
    {fNamesIn : Addr} {odNamesIn anNamesIn : Option Addr} {slNamesIn : Array (Option Value)} {ocNamesIn kVNamesIn dcNamesIn pmNamesIn cdNamesIn ctNamesIn : Value}
    {fIsName : Addr} {odIsName anIsName : Option Addr} {slIsName : Array (Option Value)} {ocIsName kVIsName dcIsName pmIsName cdIsName ctIsName : Value}
    {fIsFunction : Addr} {odIsFunction anIsFunction : Option Addr} {slIsFunction : Array (Option Value)} {ocIsFunction kVIsFunction dcIsFunction pmIsFunction cdIsFunction ctIsFunction : Value}
    {fChoices : Addr} {odChoices anChoices : Option Addr} {slChoices : Array (Option Value)} {ocChoices kVChoices dcChoices pmChoices cdChoices ctChoices : Value}
    {fItemSize : Addr} {odItemSize anItemSize : Option Addr} {slItemSize : Array (Option Value)} {ocItemSize kVItemSize dcItemSize pmItemSize cdItemSize ctItemSize : Value}
    {fBodySize : Addr} {odBodySize anBodySize : Option Addr} {slBodySize : Array (Option Value)} {ocBodySize kVBodySize dcBodySize pmBodySize cdBodySize ctBodySize : Value}
    {fLeastInItem : Addr} {odLeastInItem anLeastInItem : Option Addr} {slLeastInItem : Array (Option Value)} {ocLeastInItem kVLeastInItem dcLeastInItem pmLeastInItem cdLeastInItem ctLeastInItem : Value}
    {fLeastInBody : Addr} {odLeastInBody anLeastInBody : Option Addr} {slLeastInBody : Array (Option Value)} {ocLeastInBody kVLeastInBody dcLeastInBody pmLeastInBody cdLeastInBody ctLeastInBody : Value}
    {fLeastCalls : Addr} {odLeastCalls anLeastCalls : Option Addr} {slLeastCalls : Array (Option Value)} {ocLeastCalls kVLeastCalls dcLeastCalls pmLeastCalls cdLeastCalls ctLeastCalls : Value}
    {fIsProgram : Addr} {odIsProgram anIsProgram : Option Addr} {slIsProgram : Array (Option Value)} {ocIsProgram kVIsProgram dcIsProgram pmIsProgram cdIsProgram ctIsProgram : Value}
    {fCheckProgram : Addr} {odCheckProgram anCheckProgram : Option Addr} {slCheckProgram : Array (Option Value)} {ocCheckProgram kVCheckProgram dcCheckProgram pmCheckProgram cdCheckProgram ctCheckProgram : Value}
    {fCheckName : Addr} {odCheckName anCheckName : Option Addr} {slCheckName : Array (Option Value)} {ocCheckName kVCheckName dcCheckName pmCheckName cdCheckName ctCheckName : Value}
    {fCallees : Addr} {odCallees anCallees : Option Addr} {slCallees : Array (Option Value)} {ocCallees kVCallees dcCallees pmCallees cdCallees ctCallees : Value}
    {fReached : Addr} {odReached anReached : Option Addr} {slReached : Array (Option Value)} {ocReached kVReached dcReached pmReached cdReached ctReached : Value}
    {fIsAtomWithin : Addr} {odIsAtomWithin anIsAtomWithin : Option Addr} {slIsAtomWithin : Array (Option Value)} {ocIsAtomWithin kVIsAtomWithin dcIsAtomWithin pmIsAtomWithin cdIsAtomWithin ctIsAtomWithin : Value}
    {fIsProductWithin : Addr} {odIsProductWithin anIsProductWithin : Option Addr} {slIsProductWithin : Array (Option Value)} {ocIsProductWithin kVIsProductWithin dcIsProductWithin pmIsProductWithin cdIsProductWithin ctIsProductWithin : Value}
    {fIsProductIn : Addr} {odIsProductIn anIsProductIn : Option Addr} {slIsProductIn : Array (Option Value)} {ocIsProductIn kVIsProductIn dcIsProductIn pmIsProductIn cdIsProductIn ctIsProductIn : Value}
    {fProductText : Addr} {odProductText anProductText : Option Addr} {slProductText : Array (Option Value)} {ocProductText kVProductText dcProductText pmProductText cdProductText ctProductText : Value}
    {fWithoutIdleAtoms : Addr} {odWithoutIdleAtoms anWithoutIdleAtoms : Option Addr} {slWithoutIdleAtoms : Array (Option Value)} {ocWithoutIdleAtoms kVWithoutIdleAtoms dcWithoutIdleAtoms pmWithoutIdleAtoms cdWithoutIdleAtoms ctWithoutIdleAtoms : Value}
    {fNormalForm : Addr} {odNormalForm anNormalForm : Option Addr} {slNormalForm : Array (Option Value)} {ocNormalForm kVNormalForm dcNormalForm pmNormalForm cdNormalForm ctNormalForm : Value}
    {fProductsOfItem : Addr} {odProductsOfItem anProductsOfItem : Option Addr} {slProductsOfItem : Array (Option Value)} {ocProductsOfItem kVProductsOfItem dcProductsOfItem pmProductsOfItem cdProductsOfItem ctProductsOfItem : Value}
    {fProductsOfBody : Addr} {odProductsOfBody anProductsOfBody : Option Addr} {slProductsOfBody : Array (Option Value)} {ocProductsOfBody kVProductsOfBody dcProductsOfBody pmProductsOfBody cdProductsOfBody ctProductsOfBody : Value}
    {fNormalProducts : Addr} {odNormalProducts anNormalProducts : Option Addr} {slNormalProducts : Array (Option Value)} {ocNormalProducts kVNormalProducts dcNormalProducts pmNormalProducts cdNormalProducts ctNormalProducts : Value}
    {fProductsOf : Addr} {odProductsOf anProductsOf : Option Addr} {slProductsOf : Array (Option Value)} {ocProductsOf kVProductsOf dcProductsOf pmProductsOf cdProductsOf ctProductsOf : Value}
    {fOnceBetween : Addr} {odOnceBetween anOnceBetween : Option Addr} {slOnceBetween : Array (Option Value)} {ocOnceBetween kVOnceBetween dcOnceBetween pmOnceBetween cdOnceBetween ctOnceBetween : Value}
    {fIsRepeatable : Addr} {odIsRepeatable anIsRepeatable : Option Addr} {slIsRepeatable : Array (Option Value)} {ocIsRepeatable kVIsRepeatable dcIsRepeatable pmIsRepeatable cdIsRepeatable ctIsRepeatable : Value}
    {fExactFunctions : Addr} {odExactFunctions anExactFunctions : Option Addr} {slExactFunctions : Array (Option Value)} {ocExactFunctions kVExactFunctions dcExactFunctions pmExactFunctions cdExactFunctions ctExactFunctions : Value}
    {fFormOf : Addr} {odFormOf anFormOf : Option Addr} {slFormOf : Array (Option Value)} {ocFormOf kVFormOf dcFormOf pmFormOf cdFormOf ctFormOf : Value}
    {fLSpring : Addr} {odLSpring anLSpring : Option Addr} {slLSpring : Array (Option Value)} {ocLSpring kVLSpring dcLSpring pmLSpring cdLSpring ctLSpring : Value}
    {fLDraw : Addr} {odLDraw anLDraw : Option Addr} {slLDraw : Array (Option Value)} {ocLDraw kVLDraw dcLDraw pmLDraw cdLDraw ctLDraw : Value}
    {fLItems : Addr} {odLItems anLItems : Option Addr} {slLItems : Array (Option Value)} {ocLItems kVLItems dcLItems pmLItems cdLItems ctLItems : Value}
    {fLCalls : Addr} {odLCalls anLCalls : Option Addr} {slLCalls : Array (Option Value)} {ocLCalls kVLCalls dcLCalls pmLCalls cdLCalls ctLCalls : Value}
    {fLCount : Addr} {odLCount anLCount : Option Addr} {slLCount : Array (Option Value)} {ocLCount kVLCount dcLCount pmLCount cdLCount ctLCount : Value}
    {fLCost : Addr} {odLCost anLCost : Option Addr} {slLCost : Array (Option Value)} {ocLCost kVLCost dcLCost pmLCost cdLCost ctLCost : Value}
    {fLProgram : Addr} {odLProgram anLProgram : Option Addr} {slLProgram : Array (Option Value)} {ocLProgram kVLProgram dcLProgram pmLProgram cdLProgram ctLProgram : Value}
    {fLDue : Addr} {odLDue anLDue : Option Addr} {slLDue : Array (Option Value)} {ocLDue kVLDue dcLDue pmLDue cdLDue ctLDue : Value}
    {fLRight : Addr} {odLRight anLRight : Option Addr} {slLRight : Array (Option Value)} {ocLRight kVLRight dcLRight pmLRight cdLRight ctLRight : Value}
    {fLaw : Addr} {odLaw anLaw : Option Addr} {slLaw : Array (Option Value)} {ocLaw kVLaw dcLaw pmLaw cdLaw ctLaw : Value}
    {tFEWEST_CHOICES : Tok}
    {tMOST_CALLS : Tok}
    {tMOST_CALLS_TO_RETURN : Tok}
    {tMOST_CHOICES : Tok}
    {tMOST_FUNCTIONS : Tok}
    {tMOST_ITEMS : Tok}
    {tMOST_LETTERS : Tok}
    {tMOST_LEVELS : Tok}
    (aBodiesWithin : PySem.W.nsIn K mainGlobals "bodies_within" = some (some (.ref fBodiesWithin)))
    (lBodiesWithin : K.lookup fBodiesWithin = some ⟨ocBodiesWithin, odBodiesWithin, .func (PySem.W.fnOf "bodies_within" "bodies_within" (defArgs sBodiesWithin) (defBody sBodiesWithin) (defScope sBodiesWithin) .none kVBodiesWithin dcBodiesWithin pmBodiesWithin anBodiesWithin cdBodiesWithin ctBodiesWithin), slBodiesWithin⟩)
    (cBodiesWithin : PySem.W.codeIn K cdBodiesWithin "bodies_within" = true) (kBodiesWithin : PySem.W.keepIn K (.ref fBodiesWithin) = true)
    (aNamesIn : PySem.W.nsIn K mainGlobals "names_in" = some (some (.ref fNamesIn)))
    (lNamesIn : K.lookup fNamesIn = some ⟨ocNamesIn, odNamesIn, .func (PySem.W.fnOf "names_in" "names_in" (defArgs sNamesIn) (defBody sNamesIn) (defScope sNamesIn) .none kVNamesIn dcNamesIn pmNamesIn anNamesIn cdNamesIn ctNamesIn), slNamesIn⟩)
    (cNamesIn : PySem.W.codeIn K cdNamesIn "names_in" = true) (kNamesIn : PySem.W.keepIn K (.ref fNamesIn) = true)
    (aIsName : PySem.W.nsIn K mainGlobals "is_name" = some (some (.ref fIsName)))
    (lIsName : K.lookup fIsName = some ⟨ocIsName, odIsName, .func (PySem.W.fnOf "is_name" "is_name" (defArgs sIsName) (defBody sIsName) (defScope sIsName) .none kVIsName dcIsName pmIsName anIsName cdIsName ctIsName), slIsName⟩)
    (cIsName : PySem.W.codeIn K cdIsName "is_name" = true) (kIsName : PySem.W.keepIn K (.ref fIsName) = true)
    (aIsFunction : PySem.W.nsIn K mainGlobals "is_function" = some (some (.ref fIsFunction)))
    (lIsFunction : K.lookup fIsFunction = some ⟨ocIsFunction, odIsFunction, .func (PySem.W.fnOf "is_function" "is_function" (defArgs sIsFunction) (defBody sIsFunction) (defScope sIsFunction) .none kVIsFunction dcIsFunction pmIsFunction anIsFunction cdIsFunction ctIsFunction), slIsFunction⟩)
    (cIsFunction : PySem.W.codeIn K cdIsFunction "is_function" = true) (kIsFunction : PySem.W.keepIn K (.ref fIsFunction) = true)
    (aChoices : PySem.W.nsIn K mainGlobals "_choices" = some (some (.ref fChoices)))
    (lChoices : K.lookup fChoices = some ⟨ocChoices, odChoices, .func (PySem.W.fnOf "_choices" "_choices" (defArgs sChoices) (defBody sChoices) (defScope sChoices) .none kVChoices dcChoices pmChoices anChoices cdChoices ctChoices), slChoices⟩)
    (cChoices : PySem.W.codeIn K cdChoices "_choices" = true) (kChoices : PySem.W.keepIn K (.ref fChoices) = true)
    (aItemSize : PySem.W.nsIn K mainGlobals "_item_size" = some (some (.ref fItemSize)))
    (lItemSize : K.lookup fItemSize = some ⟨ocItemSize, odItemSize, .func (PySem.W.fnOf "_item_size" "_item_size" (defArgs sItemSize) (defBody sItemSize) (defScope sItemSize) .none kVItemSize dcItemSize pmItemSize anItemSize cdItemSize ctItemSize), slItemSize⟩)
    (cItemSize : PySem.W.codeIn K cdItemSize "_item_size" = true) (kItemSize : PySem.W.keepIn K (.ref fItemSize) = true)
    (aBodySize : PySem.W.nsIn K mainGlobals "_body_size" = some (some (.ref fBodySize)))
    (lBodySize : K.lookup fBodySize = some ⟨ocBodySize, odBodySize, .func (PySem.W.fnOf "_body_size" "_body_size" (defArgs sBodySize) (defBody sBodySize) (defScope sBodySize) .none kVBodySize dcBodySize pmBodySize anBodySize cdBodySize ctBodySize), slBodySize⟩)
    (cBodySize : PySem.W.codeIn K cdBodySize "_body_size" = true) (kBodySize : PySem.W.keepIn K (.ref fBodySize) = true)
    (aLeastInItem : PySem.W.nsIn K mainGlobals "_least_in_item" = some (some (.ref fLeastInItem)))
    (lLeastInItem : K.lookup fLeastInItem = some ⟨ocLeastInItem, odLeastInItem, .func (PySem.W.fnOf "_least_in_item" "_least_in_item" (defArgs sLeastInItem) (defBody sLeastInItem) (defScope sLeastInItem) .none kVLeastInItem dcLeastInItem pmLeastInItem anLeastInItem cdLeastInItem ctLeastInItem), slLeastInItem⟩)
    (cLeastInItem : PySem.W.codeIn K cdLeastInItem "_least_in_item" = true) (kLeastInItem : PySem.W.keepIn K (.ref fLeastInItem) = true)
    (aLeastInBody : PySem.W.nsIn K mainGlobals "_least_in_body" = some (some (.ref fLeastInBody)))
    (lLeastInBody : K.lookup fLeastInBody = some ⟨ocLeastInBody, odLeastInBody, .func (PySem.W.fnOf "_least_in_body" "_least_in_body" (defArgs sLeastInBody) (defBody sLeastInBody) (defScope sLeastInBody) .none kVLeastInBody dcLeastInBody pmLeastInBody anLeastInBody cdLeastInBody ctLeastInBody), slLeastInBody⟩)
    (cLeastInBody : PySem.W.codeIn K cdLeastInBody "_least_in_body" = true) (kLeastInBody : PySem.W.keepIn K (.ref fLeastInBody) = true)
    (aLeastCalls : PySem.W.nsIn K mainGlobals "_least_calls" = some (some (.ref fLeastCalls)))
    (lLeastCalls : K.lookup fLeastCalls = some ⟨ocLeastCalls, odLeastCalls, .func (PySem.W.fnOf "_least_calls" "_least_calls" (defArgs sLeastCalls) (defBody sLeastCalls) (defScope sLeastCalls) .none kVLeastCalls dcLeastCalls pmLeastCalls anLeastCalls cdLeastCalls ctLeastCalls), slLeastCalls⟩)
    (cLeastCalls : PySem.W.codeIn K cdLeastCalls "_least_calls" = true) (kLeastCalls : PySem.W.keepIn K (.ref fLeastCalls) = true)
    (aIsProgram : PySem.W.nsIn K mainGlobals "is_program" = some (some (.ref fIsProgram)))
    (lIsProgram : K.lookup fIsProgram = some ⟨ocIsProgram, odIsProgram, .func (PySem.W.fnOf "is_program" "is_program" (defArgs sIsProgram) (defBody sIsProgram) (defScope sIsProgram) .none kVIsProgram dcIsProgram pmIsProgram anIsProgram cdIsProgram ctIsProgram), slIsProgram⟩)
    (cIsProgram : PySem.W.codeIn K cdIsProgram "is_program" = true) (kIsProgram : PySem.W.keepIn K (.ref fIsProgram) = true)
    (aCheckProgram : PySem.W.nsIn K mainGlobals "check_program" = some (some (.ref fCheckProgram)))
    (lCheckProgram : K.lookup fCheckProgram = some ⟨ocCheckProgram, odCheckProgram, .func (PySem.W.fnOf "check_program" "check_program" (defArgs sCheckProgram) (defBody sCheckProgram) (defScope sCheckProgram) .none kVCheckProgram dcCheckProgram pmCheckProgram anCheckProgram cdCheckProgram ctCheckProgram), slCheckProgram⟩)
    (cCheckProgram : PySem.W.codeIn K cdCheckProgram "check_program" = true) (kCheckProgram : PySem.W.keepIn K (.ref fCheckProgram) = true)
    (aCheckName : PySem.W.nsIn K mainGlobals "check_name" = some (some (.ref fCheckName)))
    (lCheckName : K.lookup fCheckName = some ⟨ocCheckName, odCheckName, .func (PySem.W.fnOf "check_name" "check_name" (defArgs sCheckName) (defBody sCheckName) (defScope sCheckName) .none kVCheckName dcCheckName pmCheckName anCheckName cdCheckName ctCheckName), slCheckName⟩)
    (cCheckName : PySem.W.codeIn K cdCheckName "check_name" = true) (kCheckName : PySem.W.keepIn K (.ref fCheckName) = true)
    (aCallees : PySem.W.nsIn K mainGlobals "callees" = some (some (.ref fCallees)))
    (lCallees : K.lookup fCallees = some ⟨ocCallees, odCallees, .func (PySem.W.fnOf "callees" "callees" (defArgs sCallees) (defBody sCallees) (defScope sCallees) .none kVCallees dcCallees pmCallees anCallees cdCallees ctCallees), slCallees⟩)
    (cCallees : PySem.W.codeIn K cdCallees "callees" = true) (kCallees : PySem.W.keepIn K (.ref fCallees) = true)
    (aReached : PySem.W.nsIn K mainGlobals "reached" = some (some (.ref fReached)))
    (lReached : K.lookup fReached = some ⟨ocReached, odReached, .func (PySem.W.fnOf "reached" "reached" (defArgs sReached) (defBody sReached) (defScope sReached) .none kVReached dcReached pmReached anReached cdReached ctReached), slReached⟩)
    (cReached : PySem.W.codeIn K cdReached "reached" = true) (kReached : PySem.W.keepIn K (.ref fReached) = true)
    (aIsAtomWithin : PySem.W.nsIn K mainGlobals "is_atom_within" = some (some (.ref fIsAtomWithin)))
    (lIsAtomWithin : K.lookup fIsAtomWithin = some ⟨ocIsAtomWithin, odIsAtomWithin, .func (PySem.W.fnOf "is_atom_within" "is_atom_within" (defArgs sIsAtomWithin) (defBody sIsAtomWithin) (defScope sIsAtomWithin) .none kVIsAtomWithin dcIsAtomWithin pmIsAtomWithin anIsAtomWithin cdIsAtomWithin ctIsAtomWithin), slIsAtomWithin⟩)
    (cIsAtomWithin : PySem.W.codeIn K cdIsAtomWithin "is_atom_within" = true) (kIsAtomWithin : PySem.W.keepIn K (.ref fIsAtomWithin) = true)
    (aIsProductWithin : PySem.W.nsIn K mainGlobals "_is_product_within" = some (some (.ref fIsProductWithin)))
    (lIsProductWithin : K.lookup fIsProductWithin = some ⟨ocIsProductWithin, odIsProductWithin, .func (PySem.W.fnOf "_is_product_within" "_is_product_within" (defArgs sIsProductWithin) (defBody sIsProductWithin) (defScope sIsProductWithin) .none kVIsProductWithin dcIsProductWithin pmIsProductWithin anIsProductWithin cdIsProductWithin ctIsProductWithin), slIsProductWithin⟩)
    (cIsProductWithin : PySem.W.codeIn K cdIsProductWithin "_is_product_within" = true) (kIsProductWithin : PySem.W.keepIn K (.ref fIsProductWithin) = true)
    (aIsProductIn : PySem.W.nsIn K mainGlobals "is_product_in" = some (some (.ref fIsProductIn)))
    (lIsProductIn : K.lookup fIsProductIn = some ⟨ocIsProductIn, odIsProductIn, .func (PySem.W.fnOf "is_product_in" "is_product_in" (defArgs sIsProductIn) (defBody sIsProductIn) (defScope sIsProductIn) .none kVIsProductIn dcIsProductIn pmIsProductIn anIsProductIn cdIsProductIn ctIsProductIn), slIsProductIn⟩)
    (cIsProductIn : PySem.W.codeIn K cdIsProductIn "is_product_in" = true) (kIsProductIn : PySem.W.keepIn K (.ref fIsProductIn) = true)
    (aProductText : PySem.W.nsIn K mainGlobals "product_text" = some (some (.ref fProductText)))
    (lProductText : K.lookup fProductText = some ⟨ocProductText, odProductText, .func (PySem.W.fnOf "product_text" "product_text" (defArgs sProductText) (defBody sProductText) (defScope sProductText) .none kVProductText dcProductText pmProductText anProductText cdProductText ctProductText), slProductText⟩)
    (cProductText : PySem.W.codeIn K cdProductText "product_text" = true) (kProductText : PySem.W.keepIn K (.ref fProductText) = true)
    (aWithoutIdleAtoms : PySem.W.nsIn K mainGlobals "_without_idle_atoms" = some (some (.ref fWithoutIdleAtoms)))
    (lWithoutIdleAtoms : K.lookup fWithoutIdleAtoms = some ⟨ocWithoutIdleAtoms, odWithoutIdleAtoms, .func (PySem.W.fnOf "_without_idle_atoms" "_without_idle_atoms" (defArgs sWithoutIdleAtoms) (defBody sWithoutIdleAtoms) (defScope sWithoutIdleAtoms) .none kVWithoutIdleAtoms dcWithoutIdleAtoms pmWithoutIdleAtoms anWithoutIdleAtoms cdWithoutIdleAtoms ctWithoutIdleAtoms), slWithoutIdleAtoms⟩)
    (cWithoutIdleAtoms : PySem.W.codeIn K cdWithoutIdleAtoms "_without_idle_atoms" = true) (kWithoutIdleAtoms : PySem.W.keepIn K (.ref fWithoutIdleAtoms) = true)
    (aNormalForm : PySem.W.nsIn K mainGlobals "_normal_form" = some (some (.ref fNormalForm)))
    (lNormalForm : K.lookup fNormalForm = some ⟨ocNormalForm, odNormalForm, .func (PySem.W.fnOf "_normal_form" "_normal_form" (defArgs sNormalForm) (defBody sNormalForm) (defScope sNormalForm) .none kVNormalForm dcNormalForm pmNormalForm anNormalForm cdNormalForm ctNormalForm), slNormalForm⟩)
    (cNormalForm : PySem.W.codeIn K cdNormalForm "_normal_form" = true) (kNormalForm : PySem.W.keepIn K (.ref fNormalForm) = true)
    (aProductsOfItem : PySem.W.nsIn K mainGlobals "_products_of_item" = some (some (.ref fProductsOfItem)))
    (lProductsOfItem : K.lookup fProductsOfItem = some ⟨ocProductsOfItem, odProductsOfItem, .func (PySem.W.fnOf "_products_of_item" "_products_of_item" (defArgs sProductsOfItem) (defBody sProductsOfItem) (defScope sProductsOfItem) .none kVProductsOfItem dcProductsOfItem pmProductsOfItem anProductsOfItem cdProductsOfItem ctProductsOfItem), slProductsOfItem⟩)
    (cProductsOfItem : PySem.W.codeIn K cdProductsOfItem "_products_of_item" = true) (kProductsOfItem : PySem.W.keepIn K (.ref fProductsOfItem) = true)
    (aProductsOfBody : PySem.W.nsIn K mainGlobals "_products_of_body" = some (some (.ref fProductsOfBody)))
    (lProductsOfBody : K.lookup fProductsOfBody = some ⟨ocProductsOfBody, odProductsOfBody, .func (PySem.W.fnOf "_products_of_body" "_products_of_body" (defArgs sProductsOfBody) (defBody sProductsOfBody) (defScope sProductsOfBody) .none kVProductsOfBody dcProductsOfBody pmProductsOfBody anProductsOfBody cdProductsOfBody ctProductsOfBody), slProductsOfBody⟩)
    (cProductsOfBody : PySem.W.codeIn K cdProductsOfBody "_products_of_body" = true) (kProductsOfBody : PySem.W.keepIn K (.ref fProductsOfBody) = true)
    (aNormalProducts : PySem.W.nsIn K mainGlobals "normal_products" = some (some (.ref fNormalProducts)))
    (lNormalProducts : K.lookup fNormalProducts = some ⟨ocNormalProducts, odNormalProducts, .func (PySem.W.fnOf "normal_products" "normal_products" (defArgs sNormalProducts) (defBody sNormalProducts) (defScope sNormalProducts) .none kVNormalProducts dcNormalProducts pmNormalProducts anNormalProducts cdNormalProducts ctNormalProducts), slNormalProducts⟩)
    (cNormalProducts : PySem.W.codeIn K cdNormalProducts "normal_products" = true) (kNormalProducts : PySem.W.keepIn K (.ref fNormalProducts) = true)
    (aProductsOf : PySem.W.nsIn K mainGlobals "products_of" = some (some (.ref fProductsOf)))
    (lProductsOf : K.lookup fProductsOf = some ⟨ocProductsOf, odProductsOf, .func (PySem.W.fnOf "products_of" "products_of" (defArgs sProductsOf) (defBody sProductsOf) (defScope sProductsOf) .none kVProductsOf dcProductsOf pmProductsOf anProductsOf cdProductsOf ctProductsOf), slProductsOf⟩)
    (cProductsOf : PySem.W.codeIn K cdProductsOf "products_of" = true) (kProductsOf : PySem.W.keepIn K (.ref fProductsOf) = true)
    (aOnceBetween : PySem.W.nsIn K mainGlobals "once_between" = some (some (.ref fOnceBetween)))
    (lOnceBetween : K.lookup fOnceBetween = some ⟨ocOnceBetween, odOnceBetween, .func (PySem.W.fnOf "once_between" "once_between" (defArgs sOnceBetween) (defBody sOnceBetween) (defScope sOnceBetween) .none kVOnceBetween dcOnceBetween pmOnceBetween anOnceBetween cdOnceBetween ctOnceBetween), slOnceBetween⟩)
    (cOnceBetween : PySem.W.codeIn K cdOnceBetween "once_between" = true) (kOnceBetween : PySem.W.keepIn K (.ref fOnceBetween) = true)
    (aIsRepeatable : PySem.W.nsIn K mainGlobals "is_repeatable" = some (some (.ref fIsRepeatable)))
    (lIsRepeatable : K.lookup fIsRepeatable = some ⟨ocIsRepeatable, odIsRepeatable, .func (PySem.W.fnOf "is_repeatable" "is_repeatable" (defArgs sIsRepeatable) (defBody sIsRepeatable) (defScope sIsRepeatable) .none kVIsRepeatable dcIsRepeatable pmIsRepeatable anIsRepeatable cdIsRepeatable ctIsRepeatable), slIsRepeatable⟩)
    (cIsRepeatable : PySem.W.codeIn K cdIsRepeatable "is_repeatable" = true) (kIsRepeatable : PySem.W.keepIn K (.ref fIsRepeatable) = true)
    (aExactFunctions : PySem.W.nsIn K mainGlobals "exact_functions" = some (some (.ref fExactFunctions)))
    (lExactFunctions : K.lookup fExactFunctions = some ⟨ocExactFunctions, odExactFunctions, .func (PySem.W.fnOf "exact_functions" "exact_functions" (defArgs sExactFunctions) (defBody sExactFunctions) (defScope sExactFunctions) .none kVExactFunctions dcExactFunctions pmExactFunctions anExactFunctions cdExactFunctions ctExactFunctions), slExactFunctions⟩)
    (cExactFunctions : PySem.W.codeIn K cdExactFunctions "exact_functions" = true) (kExactFunctions : PySem.W.keepIn K (.ref fExactFunctions) = true)
    (aFormOf : PySem.W.nsIn K mainGlobals "form_of" = some (some (.ref fFormOf)))
    (lFormOf : K.lookup fFormOf = some ⟨ocFormOf, odFormOf, .func (PySem.W.fnOf "form_of" "form_of" (defArgs sFormOf) (defBody sFormOf) (defScope sFormOf) .none kVFormOf dcFormOf pmFormOf anFormOf cdFormOf ctFormOf), slFormOf⟩)
    (cFormOf : PySem.W.codeIn K cdFormOf "form_of" = true) (kFormOf : PySem.W.keepIn K (.ref fFormOf) = true)
    (aLSpring : PySem.W.nsIn K mainGlobals "_law_spring" = some (some (.ref fLSpring)))
    (lLSpring : K.lookup fLSpring = some ⟨ocLSpring, odLSpring, .func (PySem.W.fnOf "_law_spring" "_law_spring" (defArgs sLSpring) (defBody sLSpring) (defScope sLSpring) .none kVLSpring dcLSpring pmLSpring anLSpring cdLSpring ctLSpring), slLSpring⟩)
    (cLSpring : PySem.W.codeIn K cdLSpring "_law_spring" = true) (kLSpring : PySem.W.keepIn K (.ref fLSpring) = true)
    (aLDraw : PySem.W.nsIn K mainGlobals "_law_draw" = some (some (.ref fLDraw)))
    (lLDraw : K.lookup fLDraw = some ⟨ocLDraw, odLDraw, .func (PySem.W.fnOf "_law_draw" "_law_draw" (defArgs sLDraw) (defBody sLDraw) (defScope sLDraw) .none kVLDraw dcLDraw pmLDraw anLDraw cdLDraw ctLDraw), slLDraw⟩)
    (cLDraw : PySem.W.codeIn K cdLDraw "_law_draw" = true) (kLDraw : PySem.W.keepIn K (.ref fLDraw) = true)
    (aLItems : PySem.W.nsIn K mainGlobals "_law_items" = some (some (.ref fLItems)))
    (lLItems : K.lookup fLItems = some ⟨ocLItems, odLItems, .func (PySem.W.fnOf "_law_items" "_law_items" (defArgs sLItems) (defBody sLItems) (defScope sLItems) .none kVLItems dcLItems pmLItems anLItems cdLItems ctLItems), slLItems⟩)
    (cLItems : PySem.W.codeIn K cdLItems "_law_items" = true) (kLItems : PySem.W.keepIn K (.ref fLItems) = true)
    (aLCalls : PySem.W.nsIn K mainGlobals "_law_calls" = some (some (.ref fLCalls)))
    (lLCalls : K.lookup fLCalls = some ⟨ocLCalls, odLCalls, .func (PySem.W.fnOf "_law_calls" "_law_calls" (defArgs sLCalls) (defBody sLCalls) (defScope sLCalls) .none kVLCalls dcLCalls pmLCalls anLCalls cdLCalls ctLCalls), slLCalls⟩)
    (cLCalls : PySem.W.codeIn K cdLCalls "_law_calls" = true) (kLCalls : PySem.W.keepIn K (.ref fLCalls) = true)
    (aLCount : PySem.W.nsIn K mainGlobals "_law_count" = some (some (.ref fLCount)))
    (lLCount : K.lookup fLCount = some ⟨ocLCount, odLCount, .func (PySem.W.fnOf "_law_count" "_law_count" (defArgs sLCount) (defBody sLCount) (defScope sLCount) .none kVLCount dcLCount pmLCount anLCount cdLCount ctLCount), slLCount⟩)
    (cLCount : PySem.W.codeIn K cdLCount "_law_count" = true) (kLCount : PySem.W.keepIn K (.ref fLCount) = true)
    (aLCost : PySem.W.nsIn K mainGlobals "_law_cost" = some (some (.ref fLCost)))
    (lLCost : K.lookup fLCost = some ⟨ocLCost, odLCost, .func (PySem.W.fnOf "_law_cost" "_law_cost" (defArgs sLCost) (defBody sLCost) (defScope sLCost) .none kVLCost dcLCost pmLCost anLCost cdLCost ctLCost), slLCost⟩)
    (cLCost : PySem.W.codeIn K cdLCost "_law_cost" = true) (kLCost : PySem.W.keepIn K (.ref fLCost) = true)
    (aLProgram : PySem.W.nsIn K mainGlobals "_law_program" = some (some (.ref fLProgram)))
    (lLProgram : K.lookup fLProgram = some ⟨ocLProgram, odLProgram, .func (PySem.W.fnOf "_law_program" "_law_program" (defArgs sLProgram) (defBody sLProgram) (defScope sLProgram) .none kVLProgram dcLProgram pmLProgram anLProgram cdLProgram ctLProgram), slLProgram⟩)
    (cLProgram : PySem.W.codeIn K cdLProgram "_law_program" = true) (kLProgram : PySem.W.keepIn K (.ref fLProgram) = true)
    (aLDue : PySem.W.nsIn K mainGlobals "_law_due" = some (some (.ref fLDue)))
    (lLDue : K.lookup fLDue = some ⟨ocLDue, odLDue, .func (PySem.W.fnOf "_law_due" "_law_due" (defArgs sLDue) (defBody sLDue) (defScope sLDue) .none kVLDue dcLDue pmLDue anLDue cdLDue ctLDue), slLDue⟩)
    (cLDue : PySem.W.codeIn K cdLDue "_law_due" = true) (kLDue : PySem.W.keepIn K (.ref fLDue) = true)
    (aLRight : PySem.W.nsIn K mainGlobals "_law_right" = some (some (.ref fLRight)))
    (lLRight : K.lookup fLRight = some ⟨ocLRight, odLRight, .func (PySem.W.fnOf "_law_right" "_law_right" (defArgs sLRight) (defBody sLRight) (defScope sLRight) .none kVLRight dcLRight pmLRight anLRight cdLRight ctLRight), slLRight⟩)
    (cLRight : PySem.W.codeIn K cdLRight "_law_right" = true) (kLRight : PySem.W.keepIn K (.ref fLRight) = true)
    (aLaw : PySem.W.nsIn K mainGlobals "law" = some (some (.ref fLaw)))
    (lLaw : K.lookup fLaw = some ⟨ocLaw, odLaw, .func (PySem.W.fnOf "law" "law" (defArgs sLaw) (defBody sLaw) (defScope sLaw) .none kVLaw dcLaw pmLaw anLaw cdLaw ctLaw), slLaw⟩)
    (cLaw : PySem.W.codeIn K cdLaw "law" = true) (kLaw : PySem.W.keepIn K (.ref fLaw) = true)
    (z_abs : PySem.W.nsIn K mainGlobals "abs" = some none)
    (z_all : PySem.W.nsIn K mainGlobals "all" = some none)
    (z_any : PySem.W.nsIn K mainGlobals "any" = some none)
    (z_dict : PySem.W.nsIn K mainGlobals "dict" = some none)
    (z_enumerate : PySem.W.nsIn K mainGlobals "enumerate" = some none)
    (z_int : PySem.W.nsIn K mainGlobals "int" = some none)
    (z_isinstance : PySem.W.nsIn K mainGlobals "isinstance" = some none)
    (z_len : PySem.W.nsIn K mainGlobals "len" = some none)
    (z_list : PySem.W.nsIn K mainGlobals "list" = some none)
    (z_min : PySem.W.nsIn K mainGlobals "min" = some none)
    (z_range : PySem.W.nsIn K mainGlobals "range" = some none)
    (z_repr : PySem.W.nsIn K mainGlobals "repr" = some none)
    (z_set : PySem.W.nsIn K mainGlobals "set" = some none)
    (z_sorted : PySem.W.nsIn K mainGlobals "sorted" = some none)
    (z_str : PySem.W.nsIn K mainGlobals "str" = some none)
    (z_sum : PySem.W.nsIn K mainGlobals "sum" = some none)
    (z_tuple : PySem.W.nsIn K mainGlobals "tuple" = some none)
    (q_FEWEST_CHOICES : PySem.W.nsIn K mainGlobals "FEWEST_CHOICES" = some (some (.int 2 tFEWEST_CHOICES)))
    (q_MOST_CALLS : PySem.W.nsIn K mainGlobals "MOST_CALLS" = some (some (.int 5 tMOST_CALLS)))
    (q_MOST_CALLS_TO_RETURN : PySem.W.nsIn K mainGlobals "MOST_CALLS_TO_RETURN" = some (some (.int 12 tMOST_CALLS_TO_RETURN)))
    (q_MOST_CHOICES : PySem.W.nsIn K mainGlobals "MOST_CHOICES" = some (some (.int 4 tMOST_CHOICES)))
    (q_MOST_FUNCTIONS : PySem.W.nsIn K mainGlobals "MOST_FUNCTIONS" = some (some (.int 6 tMOST_FUNCTIONS)))
    (q_MOST_ITEMS : PySem.W.nsIn K mainGlobals "MOST_ITEMS" = some (some (.int 12 tMOST_ITEMS)))
    (q_MOST_LETTERS : PySem.W.nsIn K mainGlobals "MOST_LETTERS" = some (some (.int 8 tMOST_LETTERS)))
    (q_MOST_LEVELS : PySem.W.nsIn K mainGlobals "MOST_LEVELS" = some (some (.int 4 tMOST_LEVELS))) :
    ∃ fd : FuncData, (∀ (s : Shared) (v : Value), BindsTo s fd ⟨[v], []⟩ [("script", v)]) ∧ ∀ base : Heap, FA.SysB base → K.In base → base.Ns mainGlobals mg → FnG P w K mg base 19 fa fd ["script"] (spLaw (K := K)) := by
  have e := hfa.symm.trans (PySem.W.mg_of X G aLaw)
  cases e
  have FBodiesWithin := fun_mk (st := sBodiesWithin) lBodiesWithin cBodiesWithin kBodiesWithin
  have bBodiesWithin := FBodiesWithin.binds (ps := ["item"]) fun _ _ _ _ _ _ us hl => match us, hl with | [_], _ => rfl
  have FNamesIn := fun_mk (st := sNamesIn) lNamesIn cNamesIn kNamesIn
  have bNamesIn := FNamesIn.binds (ps := ["body"]) fun _ _ _ _ _ _ us hl => match us, hl with | [_], _ => rfl
  have FIsName := fun_mk (st := sIsName) lIsName cIsName kIsName
  have bIsName := FIsName.binds (ps := ["value"]) fun _ _ _ _ _ _ us hl => match us, hl with | [_], _ => rfl
  have FIsFunction := fun_mk (st := sIsFunction) lIsFunction cIsFunction kIsFunction
  have bIsFunction := FIsFunction.binds (ps := ["program", "value"]) fun _ _ _ _ _ _ us hl => match us, hl with | [_, _], _ => rfl
  have FChoices := fun_mk (st := sChoices) lChoices cChoices kChoices
  have bChoices := FChoices.binds (ps := ["item"]) fun _ _ _ _ _ _ us hl => match us, hl with | [_], _ => rfl
  have FItemSize := fun_mk (st := sItemSize) lItemSize cItemSize kItemSize
  have bItemSize := FItemSize.binds (ps := ["program", "item", "level"]) fun _ _ _ _ _ _ us hl => match us, hl with | [_, _, _], _ => rfl
  have FBodySize := fun_mk (st := sBodySize) lBodySize cBodySize kBodySize
  have bBodySize := FBodySize.binds (ps := ["program", "body", "level"]) fun _ _ _ _ _ _ us hl => match us, hl with | [_, _, _], _ => rfl
  have FLeastInItem := fun_mk (st := sLeastInItem) lLeastInItem cLeastInItem kLeastInItem
  have bLeastInItem := FLeastInItem.binds (ps := ["least", "item"]) fun _ _ _ _ _ _ us hl => match us, hl with | [_, _], _ => rfl
  have FLeastInBody := fun_mk (st := sLeastInBody) lLeastInBody cLeastInBody kLeastInBody
  have bLeastInBody := FLeastInBody.binds (ps := ["least", "body"]) fun _ _ _ _ _ _ us hl => match us, hl with | [_, _], _ => rfl
  have FLeastCalls := fun_mk (st := sLeastCalls) lLeastCalls cLeastCalls kLeastCalls
  have bLeastCalls := FLeastCalls.binds (ps := ["program"]) fun _ _ _ _ _ _ us hl => match us, hl with | [_], _ => rfl
  have FIsProgram := fun_mk (st := sIsProgram) lIsProgram cIsProgram kIsProgram
  have bIsProgram := FIsProgram.binds (ps := ["value"]) fun _ _ _ _ _ _ us hl => match us, hl with | [_], _ => rfl
  have FCheckProgram := fun_mk (st := sCheckProgram) lCheckProgram cCheckProgram kCheckProgram
  have bCheckProgram := FCheckProgram.binds (ps := ["program"]) fun _ _ _ _ _ _ us hl => match us, hl with | [_], _ => rfl
  have FCheckName := fun_mk (st := sCheckName) lCheckName cCheckName kCheckName
  have bCheckName := FCheckName.binds (ps := ["program", "name"]) fun _ _ _ _ _ _ us hl => match us, hl with | [_, _], _ => rfl
  have FCallees := fun_mk (st := sCallees) lCallees cCallees kCallees
  have bCallees := FCallees.binds (ps := ["program", "name"]) fun _ _ _ _ _ _ us hl => match us, hl with | [_, _], _ => rfl
  have FReached := fun_mk (st := sReached) lReached cReached kReached
  have bReached := FReached.binds (ps := ["program"]) fun _ _ _ _ _ _ us hl => match us, hl with | [_], _ => rfl
  have FIsAtomWithin := fun_mk (st := sIsAtomWithin) lIsAtomWithin cIsAtomWithin kIsAtomWithin
  have bIsAtomWithin := FIsAtomWithin.binds (ps := ["atom", "other"]) fun _ _ _ _ _ _ us hl => match us, hl with | [_, _], _ => rfl
  have FIsProductWithin := fun_mk (st := sIsProductWithin) lIsProductWithin cIsProductWithin kIsProductWithin
  have bIsProductWithin := FIsProductWithin.binds (ps := ["product", "other"]) fun _ _ _ _ _ _ us hl => match us, hl with | [_, _], _ => rfl
  have FIsProductIn := fun_mk (st := sIsProductIn) lIsProductIn cIsProductIn kIsProductIn
  have bIsProductIn := FIsProductIn.binds (ps := ["products", "product"]) fun _ _ _ _ _ _ us hl => match us, hl with | [_, _], _ => rfl
  have FProductText := fun_mk (st := sProductText) lProductText cProductText kProductText
  have bProductText := FProductText.binds (ps := ["product"]) fun _ _ _ _ _ _ us hl => match us, hl with | [_], _ => rfl
  have FWithoutIdleAtoms := fun_mk (st := sWithoutIdleAtoms) lWithoutIdleAtoms cWithoutIdleAtoms kWithoutIdleAtoms
  have bWithoutIdleAtoms := FWithoutIdleAtoms.binds (ps := ["product"]) fun _ _ _ _ _ _ us hl => match us, hl with | [_], _ => rfl
  have FNormalForm := fun_mk (st := sNormalForm) lNormalForm cNormalForm kNormalForm
  have bNormalForm := FNormalForm.binds (ps := ["products"]) fun _ _ _ _ _ _ us hl => match us, hl with | [_], _ => rfl
  have FProductsOfItem := fun_mk (st := sProductsOfItem) lProductsOfItem cProductsOfItem kProductsOfItem
  have bProductsOfItem := FProductsOfItem.binds (ps := ["item"]) fun _ _ _ _ _ _ us hl => match us, hl with | [_], _ => rfl
  have FProductsOfBody := fun_mk (st := sProductsOfBody) lProductsOfBody cProductsOfBody kProductsOfBody
  have bProductsOfBody := FProductsOfBody.binds (ps := ["body"]) fun _ _ _ _ _ _ us hl => match us, hl with | [_], _ => rfl
  have FNormalProducts := fun_mk (st := sNormalProducts) lNormalProducts cNormalProducts kNormalProducts
  have bNormalProducts := FNormalProducts.binds (ps := ["body"]) fun _ _ _ _ _ _ us hl => match us, hl with | [_], _ => rfl
  have FProductsOf := fun_mk (st := sProductsOf) lProductsOf cProductsOf kProductsOf
  have bProductsOf := FProductsOf.binds (ps := ["program", "name"]) fun _ _ _ _ _ _ us hl => match us, hl with | [_, _], _ => rfl
  have FOnceBetween := fun_mk (st := sOnceBetween) lOnceBetween cOnceBetween kOnceBetween
  have bOnceBetween := FOnceBetween.binds (ps := ["products", "callee"]) fun _ _ _ _ _ _ us hl => match us, hl with | [_, _], _ => rfl
  have FIsRepeatable := fun_mk (st := sIsRepeatable) lIsRepeatable cIsRepeatable kIsRepeatable
  have bIsRepeatable := FIsRepeatable.binds (ps := ["program", "name", "callee"]) fun _ _ _ _ _ _ us hl => match us, hl with | [_, _, _], _ => rfl
  have FExactFunctions := fun_mk (st := sExactFunctions) lExactFunctions cExactFunctions kExactFunctions
  have bExactFunctions := FExactFunctions.binds (ps := ["program"]) fun _ _ _ _ _ _ us hl => match us, hl with | [_], _ => rfl
  have FFormOf := fun_mk (st := sFormOf) lFormOf cFormOf kFormOf
  have bFormOf := FFormOf.binds (ps := ["program"]) fun _ _ _ _ _ _ us hl => match us, hl with | [_], _ => rfl
  have FLSpring := fun_mk (st := sLSpring) lLSpring cLSpring kLSpring
  have bLSpring := FLSpring.binds (ps := ["script"]) fun _ _ _ _ _ _ us hl => match us, hl with | [_], _ => rfl
  have FLDraw := fun_mk (st := sLDraw) lLDraw cLDraw kLDraw
  have bLDraw := FLDraw.binds (ps := ["spring", "many"]) fun _ _ _ _ _ _ us hl => match us, hl with | [_, _], _ => rfl
  have FLItems := fun_mk (st := sLItems) lLItems cLItems kLItems
  have bLItems := FLItems.binds (ps := ["spring", "some", "calls", "deep"]) fun _ _ _ _ _ _ us hl => match us, hl with | [_, _, _, _], _ => rfl
  have FLCalls := fun_mk (st := sLCalls) lLCalls cLCalls kLCalls
  have bLCalls := FLCalls.binds (ps := ["body"]) fun _ _ _ _ _ _ us hl => match us, hl with | [_], _ => rfl
  have FLCount := fun_mk (st := sLCount) lLCount cLCount kLCount
  have bLCount := FLCount.binds (ps := ["body"]) fun _ _ _ _ _ _ us hl => match us, hl with | [_], _ => rfl
  have FLCost := fun_mk (st := sLCost) lLCost cLCost kLCost
  have bLCost := FLCost.binds (ps := ["costs", "body"]) fun _ _ _ _ _ _ us hl => match us, hl with | [_, _], _ => rfl
  have FLProgram := fun_mk (st := sLProgram) lLProgram cLProgram kLProgram
  have bLProgram := FLProgram.binds (ps := ["spring", "most", "calls", "can_recur"]) fun _ _ _ _ _ _ us hl => match us, hl with | [_, _, _, _], _ => rfl
  have FLDue := fun_mk (st := sLDue) lLDue cLDue kLDue
  have bLDue := FLDue.binds (ps := ["program"]) fun _ _ _ _ _ _ us hl => match us, hl with | [_], _ => rfl
  have FLRight := fun_mk (st := sLRight) lLRight cLRight kLRight
  have bLRight := FLRight.binds (ps := ["program"]) fun _ _ _ _ _ _ us hl => match us, hl with | [_], _ => rfl
  have FLaw := fun_mk (st := sLaw) lLaw cLaw kLaw
  have bLaw := FLaw.binds (ps := ["script"]) fun _ _ _ _ _ _ us hl => match us, hl with | [_], _ => rfl
  let T : Txt K mg := {
    aBodiesWithin := _, fBodiesWithin := _, FBodiesWithin := FBodiesWithin, bBodiesWithin := bBodiesWithin, gBodiesWithin := PySem.W.mg_of X G aBodiesWithin,
    aNamesIn := _, fNamesIn := _, FNamesIn := FNamesIn, bNamesIn := bNamesIn, gNamesIn := PySem.W.mg_of X G aNamesIn,
    aIsName := _, fIsName := _, FIsName := FIsName, bIsName := bIsName, gIsName := PySem.W.mg_of X G aIsName,
    aIsFunction := _, fIsFunction := _, FIsFunction := FIsFunction, bIsFunction := bIsFunction, gIsFunction := PySem.W.mg_of X G aIsFunction,
    aChoices := _, fChoices := _, FChoices := FChoices, bChoices := bChoices, gChoices := PySem.W.mg_of X G aChoices,
    aItemSize := _, fItemSize := _, FItemSize := FItemSize, bItemSize := bItemSize, gItemSize := PySem.W.mg_of X G aItemSize,
    aBodySize := _, fBodySize := _, FBodySize := FBodySize, bBodySize := bBodySize, gBodySize := PySem.W.mg_of X G aBodySize,
    aLeastInItem := _, fLeastInItem := _, FLeastInItem := FLeastInItem, bLeastInItem := bLeastInItem, gLeastInItem := PySem.W.mg_of X G aLeastInItem,
    aLeastInBody := _, fLeastInBody := _, FLeastInBody := FLeastInBody, bLeastInBody := bLeastInBody, gLeastInBody := PySem.W.mg_of X G aLeastInBody,
    aLeastCalls := _, fLeastCalls := _, FLeastCalls := FLeastCalls, bLeastCalls := bLeastCalls, gLeastCalls := PySem.W.mg_of X G aLeastCalls,
    aIsProgram := _, fIsProgram := _, FIsProgram := FIsProgram, bIsProgram := bIsProgram, gIsProgram := PySem.W.mg_of X G aIsProgram,
    aCheckProgram := _, fCheckProgram := _, FCheckProgram := FCheckProgram, bCheckProgram := bCheckProgram, gCheckProgram := PySem.W.mg_of X G aCheckProgram,
    aCheckName := _, fCheckName := _, FCheckName := FCheckName, bCheckName := bCheckName, gCheckName := PySem.W.mg_of X G aCheckName,
    aCallees := _, fCallees := _, FCallees := FCallees, bCallees := bCallees, gCallees := PySem.W.mg_of X G aCallees,
    aReached := _, fReached := _, FReached := FReached, bReached := bReached, gReached := PySem.W.mg_of X G aReached,
    aIsAtomWithin := _, fIsAtomWithin := _, FIsAtomWithin := FIsAtomWithin, bIsAtomWithin := bIsAtomWithin, gIsAtomWithin := PySem.W.mg_of X G aIsAtomWithin,
    aIsProductWithin := _, fIsProductWithin := _, FIsProductWithin := FIsProductWithin, bIsProductWithin := bIsProductWithin, gIsProductWithin := PySem.W.mg_of X G aIsProductWithin,
    aIsProductIn := _, fIsProductIn := _, FIsProductIn := FIsProductIn, bIsProductIn := bIsProductIn, gIsProductIn := PySem.W.mg_of X G aIsProductIn,
    aProductText := _, fProductText := _, FProductText := FProductText, bProductText := bProductText, gProductText := PySem.W.mg_of X G aProductText,
    aWithoutIdleAtoms := _, fWithoutIdleAtoms := _, FWithoutIdleAtoms := FWithoutIdleAtoms, bWithoutIdleAtoms := bWithoutIdleAtoms, gWithoutIdleAtoms := PySem.W.mg_of X G aWithoutIdleAtoms,
    aNormalForm := _, fNormalForm := _, FNormalForm := FNormalForm, bNormalForm := bNormalForm, gNormalForm := PySem.W.mg_of X G aNormalForm,
    aProductsOfItem := _, fProductsOfItem := _, FProductsOfItem := FProductsOfItem, bProductsOfItem := bProductsOfItem, gProductsOfItem := PySem.W.mg_of X G aProductsOfItem,
    aProductsOfBody := _, fProductsOfBody := _, FProductsOfBody := FProductsOfBody, bProductsOfBody := bProductsOfBody, gProductsOfBody := PySem.W.mg_of X G aProductsOfBody,
    aNormalProducts := _, fNormalProducts := _, FNormalProducts := FNormalProducts, bNormalProducts := bNormalProducts, gNormalProducts := PySem.W.mg_of X G aNormalProducts,
    aProductsOf := _, fProductsOf := _, FProductsOf := FProductsOf, bProductsOf := bProductsOf, gProductsOf := PySem.W.mg_of X G aProductsOf,
    aOnceBetween := _, fOnceBetween := _, FOnceBetween := FOnceBetween, bOnceBetween := bOnceBetween, gOnceBetween := PySem.W.mg_of X G aOnceBetween,
    aIsRepeatable := _, fIsRepeatable := _, FIsRepeatable := FIsRepeatable, bIsRepeatable := bIsRepeatable, gIsRepeatable := PySem.W.mg_of X G aIsRepeatable,
    aExactFunctions := _, fExactFunctions := _, FExactFunctions := FExactFunctions, bExactFunctions := bExactFunctions, gExactFunctions := PySem.W.mg_of X G aExactFunctions,
    aFormOf := _, fFormOf := _, FFormOf := FFormOf, bFormOf := bFormOf, gFormOf := PySem.W.mg_of X G aFormOf,
    aLSpring := _, fLSpring := _, FLSpring := FLSpring, bLSpring := bLSpring, gLSpring := PySem.W.mg_of X G aLSpring,
    aLDraw := _, fLDraw := _, FLDraw := FLDraw, bLDraw := bLDraw, gLDraw := PySem.W.mg_of X G aLDraw,
    aLItems := _, fLItems := _, FLItems := FLItems, bLItems := bLItems, gLItems := PySem.W.mg_of X G aLItems,
    aLCalls := _, fLCalls := _, FLCalls := FLCalls, bLCalls := bLCalls, gLCalls := PySem.W.mg_of X G aLCalls,
    aLCount := _, fLCount := _, FLCount := FLCount, bLCount := bLCount, gLCount := PySem.W.mg_of X G aLCount,
    aLCost := _, fLCost := _, FLCost := FLCost, bLCost := bLCost, gLCost := PySem.W.mg_of X G aLCost,
    aLProgram := _, fLProgram := _, FLProgram := FLProgram, bLProgram := bLProgram, gLProgram := PySem.W.mg_of X G aLProgram,
    aLDue := _, fLDue := _, FLDue := FLDue, bLDue := bLDue, gLDue := PySem.W.mg_of X G aLDue,
    aLRight := _, fLRight := _, FLRight := FLRight, bLRight := bLRight, gLRight := PySem.W.mg_of X G aLRight,
    aLaw := _, fLaw := _, FLaw := FLaw, bLaw := bLaw, gLaw := PySem.W.mg_of X G aLaw,
    n_abs := PySem.W.mg_none_of X G z_abs,
    n_all := PySem.W.mg_none_of X G z_all,
    n_any := PySem.W.mg_none_of X G z_any,
    n_dict := PySem.W.mg_none_of X G z_dict,
    n_enumerate := PySem.W.mg_none_of X G z_enumerate,
    n_int := PySem.W.mg_none_of X G z_int,
    n_isinstance := PySem.W.mg_none_of X G z_isinstance,
    n_len := PySem.W.mg_none_of X G z_len,
    n_list := PySem.W.mg_none_of X G z_list,
    n_min := PySem.W.mg_none_of X G z_min,
    n_range := PySem.W.mg_none_of X G z_range,
    n_repr := PySem.W.mg_none_of X G z_repr,
    n_set := PySem.W.mg_none_of X G z_set,
    n_sorted := PySem.W.mg_none_of X G z_sorted,
    n_str := PySem.W.mg_none_of X G z_str,
    n_sum := PySem.W.mg_none_of X G z_sum,
    n_tuple := PySem.W.mg_none_of X G z_tuple,
    t_FEWEST_CHOICES := tFEWEST_CHOICES, c_FEWEST_CHOICES := PySem.W.mg_of X G q_FEWEST_CHOICES,
    t_MOST_CALLS := tMOST_CALLS, c_MOST_CALLS := PySem.W.mg_of X G q_MOST_CALLS,
    t_MOST_CALLS_TO_RETURN := tMOST_CALLS_TO_RETURN, c_MOST_CALLS_TO_RETURN := PySem.W.mg_of X G q_MOST_CALLS_TO_RETURN,
    t_MOST_CHOICES := tMOST_CHOICES, c_MOST_CHOICES := PySem.W.mg_of X G q_MOST_CHOICES,
    t_MOST_FUNCTIONS := tMOST_FUNCTIONS, c_MOST_FUNCTIONS := PySem.W.mg_of X G q_MOST_FUNCTIONS,
    t_MOST_ITEMS := tMOST_ITEMS, c_MOST_ITEMS := PySem.W.mg_of X G q_MOST_ITEMS,
    t_MOST_LETTERS := tMOST_LETTERS, c_MOST_LETTERS := PySem.W.mg_of X G q_MOST_LETTERS,
    t_MOST_LEVELS := tMOST_LEVELS, c_MOST_LEVELS := PySem.W.mg_of X G q_MOST_LEVELS }
  refine ⟨PySem.W.fnOf "law" "law" (defArgs sLaw) (defBody sLaw) (defScope sLaw) .none kVLaw dcLaw pmLaw anLaw cdLaw ctLaw, fun s v => .of_eq rfl, fun base sy _ _ => ?_⟩
  exact okLaw (P := P) (w := w) (base := base) T sy
end K43
open PySem PySem.W PyProof.Rows
set_option maxRecDepth 100000 in
set_option maxHeartbeats 0 in
theorem PySem.Challenge.cw_stacksamples_k43_forms_beside_the_functi_holds : PySem.Challenge.rw_stacksamples_k43_forms_beside_the_functi.Holds := by
  w_on; o_law; k_head; (case hw => w_witness2)
  k_fill
  refine FA.walk_ofG (l := PySem.Challenge.rw_stacksamples_k43_forms_beside_the_functi) (n := 63) (k := 19) (x := "script") (sp := fun K => K43.spLaw (K := K)) rfl (by decide) (by decide +kernel) rfl ⟨rfl, by decide, by decide⟩ (fun w h Y => PySem.W.kIn_of Y) ?F (fun _ _ a ns hl _ hS => ⟨a, ns, rfl, hS, hl, fun _ => rfl⟩)
  case F =>
    intro w mg fa h KX G hmg
    refine' K43.all_mk KX G hmg ?aBodiesWithin ?lBodiesWithin ?cBodiesWithin ?kBodiesWithin ?aNamesIn ?lNamesIn ?cNamesIn ?kNamesIn ?aIsName ?lIsName ?cIsName ?kIsName ?aIsFunction ?lIsFunction ?cIsFunction ?kIsFunction ?aChoices ?lChoices ?cChoices ?kChoices ?aItemSize ?lItemSize ?cItemSize ?kItemSize ?aBodySize ?lBodySize ?cBodySize ?kBodySize ?aLeastInItem ?lLeastInItem ?cLeastInItem ?kLeastInItem ?aLeastInBody ?lLeastInBody ?cLeastInBody ?kLeastInBody ?aLeastCalls ?lLeastCalls ?cLeastCalls ?kLeastCalls ?aIsProgram ?lIsProgram ?cIsProgram ?kIsProgram ?aCheckProgram ?lCheckProgram ?cCheckProgram ?kCheckProgram ?aCheckName ?lCheckName ?cCheckName ?kCheckName ?aCallees ?lCallees ?cCallees ?kCallees ?aReached ?lReached ?cReached ?kReached ?aIsAtomWithin ?lIsAtomWithin ?cIsAtomWithin ?kIsAtomWithin ?aIsProductWithin ?lIsProductWithin ?cIsProductWithin ?kIsProductWithin ?aIsProductIn ?lIsProductIn ?cIsProductIn ?kIsProductIn ?aProductText ?lProductText ?cProductText ?kProductText ?aWithoutIdleAtoms ?lWithoutIdleAtoms ?cWithoutIdleAtoms ?kWithoutIdleAtoms ?aNormalForm ?lNormalForm ?cNormalForm ?kNormalForm ?aProductsOfItem ?lProductsOfItem ?cProductsOfItem ?kProductsOfItem ?aProductsOfBody ?lProductsOfBody ?cProductsOfBody ?kProductsOfBody ?aNormalProducts ?lNormalProducts ?cNormalProducts ?kNormalProducts ?aProductsOf ?lProductsOf ?cProductsOf ?kProductsOf ?aOnceBetween ?lOnceBetween ?cOnceBetween ?kOnceBetween ?aIsRepeatable ?lIsRepeatable ?cIsRepeatable ?kIsRepeatable ?aExactFunctions ?lExactFunctions ?cExactFunctions ?kExactFunctions ?aFormOf ?lFormOf ?cFormOf ?kFormOf ?aLSpring ?lLSpring ?cLSpring ?kLSpring ?aLDraw ?lLDraw ?cLDraw ?kLDraw ?aLItems ?lLItems ?cLItems ?kLItems ?aLCalls ?lLCalls ?cLCalls ?kLCalls ?aLCount ?lLCount ?cLCount ?kLCount ?aLCost ?lLCost ?cLCost ?kLCost ?aLProgram ?lLProgram ?cLProgram ?kLProgram ?aLDue ?lLDue ?cLDue ?kLDue ?aLRight ?lLRight ?cLRight ?kLRight ?aLaw ?lLaw ?cLaw ?kLaw ?z_abs ?z_all ?z_any ?z_dict ?z_enumerate ?z_int ?z_isinstance ?z_len ?z_list ?z_min ?z_range ?z_repr ?z_set ?z_sorted ?z_str ?z_sum ?z_tuple ?q_FEWEST_CHOICES ?q_MOST_CALLS ?q_MOST_CALLS_TO_RETURN ?q_MOST_CHOICES ?q_MOST_FUNCTIONS ?q_MOST_ITEMS ?q_MOST_LETTERS ?q_MOST_LEVELS
    (case aBodiesWithin => k_is); (case lBodiesWithin => k_is); (case cBodiesWithin => k_is); (case kBodiesWithin => k_is)
    (case aNamesIn => k_is); (case lNamesIn => k_is); (case cNamesIn => k_is); (case kNamesIn => k_is)
    (case aIsName => k_is); (case lIsName => k_is); (case cIsName => k_is); (case kIsName => k_is)
    (case aIsFunction => k_is); (case lIsFunction => k_is); (case cIsFunction => k_is); (case kIsFunction => k_is)
    (case aChoices => k_is); (case lChoices => k_is); (case cChoices => k_is); (case kChoices => k_is)
    (case aItemSize => k_is); (case lItemSize => k_is); (case cItemSize => k_is); (case kItemSize => k_is)
    (case aBodySize => k_is); (case lBodySize => k_is); (case cBodySize => k_is); (case kBodySize => k_is)
    (case aLeastInItem => k_is); (case lLeastInItem => k_is); (case cLeastInItem => k_is); (case kLeastInItem => k_is)
    (case aLeastInBody => k_is); (case lLeastInBody => k_is); (case cLeastInBody => k_is); (case kLeastInBody => k_is)
    (case aLeastCalls => k_is); (case lLeastCalls => k_is); (case cLeastCalls => k_is); (case kLeastCalls => k_is)
    (case aIsProgram => k_is); (case lIsProgram => k_is); (case cIsProgram => k_is); (case kIsProgram => k_is)
    (case aCheckProgram => k_is); (case lCheckProgram => k_is); (case cCheckProgram => k_is); (case kCheckProgram => k_is)
    (case aCheckName => k_is); (case lCheckName => k_is); (case cCheckName => k_is); (case kCheckName => k_is)
    (case aCallees => k_is); (case lCallees => k_is); (case cCallees => k_is); (case kCallees => k_is)
    (case aReached => k_is); (case lReached => k_is); (case cReached => k_is); (case kReached => k_is)
    (case aIsAtomWithin => k_is); (case lIsAtomWithin => k_is); (case cIsAtomWithin => k_is); (case kIsAtomWithin => k_is)
    (case aIsProductWithin => k_is); (case lIsProductWithin => k_is); (case cIsProductWithin => k_is); (case kIsProductWithin => k_is)
    (case aIsProductIn => k_is); (case lIsProductIn => k_is); (case cIsProductIn => k_is); (case kIsProductIn => k_is)
    (case aProductText => k_is); (case lProductText => k_is); (case cProductText => k_is); (case kProductText => k_is)
    (case aWithoutIdleAtoms => k_is); (case lWithoutIdleAtoms => k_is); (case cWithoutIdleAtoms => k_is); (case kWithoutIdleAtoms => k_is)
    (case aNormalForm => k_is); (case lNormalForm => k_is); (case cNormalForm => k_is); (case kNormalForm => k_is)
    (case aProductsOfItem => k_is); (case lProductsOfItem => k_is); (case cProductsOfItem => k_is); (case kProductsOfItem => k_is)
    (case aProductsOfBody => k_is); (case lProductsOfBody => k_is); (case cProductsOfBody => k_is); (case kProductsOfBody => k_is)
    (case aNormalProducts => k_is); (case lNormalProducts => k_is); (case cNormalProducts => k_is); (case kNormalProducts => k_is)
    (case aProductsOf => k_is); (case lProductsOf => k_is); (case cProductsOf => k_is); (case kProductsOf => k_is)
    (case aOnceBetween => k_is); (case lOnceBetween => k_is); (case cOnceBetween => k_is); (case kOnceBetween => k_is)
    (case aIsRepeatable => k_is); (case lIsRepeatable => k_is); (case cIsRepeatable => k_is); (case kIsRepeatable => k_is)
    (case aExactFunctions => k_is); (case lExactFunctions => k_is); (case cExactFunctions => k_is); (case kExactFunctions => k_is)
    (case aFormOf => k_is); (case lFormOf => k_is); (case cFormOf => k_is); (case kFormOf => k_is)
    (case aLSpring => k_is); (case lLSpring => k_is); (case cLSpring => k_is); (case kLSpring => k_is)
    (case aLDraw => k_is); (case lLDraw => k_is); (case cLDraw => k_is); (case kLDraw => k_is)
    (case aLItems => k_is); (case lLItems => k_is); (case cLItems => k_is); (case kLItems => k_is)
    (case aLCalls => k_is); (case lLCalls => k_is); (case cLCalls => k_is); (case kLCalls => k_is)
    (case aLCount => k_is); (case lLCount => k_is); (case cLCount => k_is); (case kLCount => k_is)
    (case aLCost => k_is); (case lLCost => k_is); (case cLCost => k_is); (case kLCost => k_is)
    (case aLProgram => k_is); (case lLProgram => k_is); (case cLProgram => k_is); (case kLProgram => k_is)
    (case aLDue => k_is); (case lLDue => k_is); (case cLDue => k_is); (case kLDue => k_is)
    (case aLRight => k_is); (case lLRight => k_is); (case cLRight => k_is); (case kLRight => k_is)
    (case aLaw => k_is); (case lLaw => k_is); (case cLaw => k_is); (case kLaw => k_is)
    (case z_abs => k_is)
    (case z_all => k_is)
    (case z_any => k_is)
    (case z_dict => k_is)
    (case z_enumerate => k_is)
    (case z_int => k_is)
    (case z_isinstance => k_is)
    (case z_len => k_is)
    (case z_list => k_is)
    (case z_min => k_is)
    (case z_range => k_is)
    (case z_repr => k_is)
    (case z_set => k_is)
    (case z_sorted => k_is)
    (case z_str => k_is)
    (case z_sum => k_is)
    (case z_tuple => k_is)
    (case q_FEWEST_CHOICES => k_is)
    (case q_MOST_CALLS => k_is)
    (case q_MOST_CALLS_TO_RETURN => k_is)
    (case q_MOST_CHOICES => k_is)
    (case q_MOST_FUNCTIONS => k_is)
    (case q_MOST_ITEMS => k_is)
    (case q_MOST_LETTERS => k_is)
    (case q_MOST_LEVELS => k_is)


