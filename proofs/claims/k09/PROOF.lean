import PyProof.Rows.All
import Wide.All
import OpenK.AllK
import Wide.FinOn
import HandS.ForMost
import HandS.Deep
import HandS.DictComp
import HandS.ListItems
import HandS.Wide
import HandS.IsInst
import HandS.Style
import HandS.SetFor
import PyProof.StrOps2
import PyProof.ReprRoads
import PySem.Challenge.RW_stacksamples_k09_products_compared
import HandS.SetTxt0
import HandS.More
import PyProof.ListStr
import HandS.TupAny
import HandS.Strs
import HandS.SetBool
import HandS.DictTup
import HandS.IterVal
set_option Elab.async false
set_option linter.all false
set_option maxRecDepth 100000
set_option maxHeartbeats 4000000
/-! What the hand layer lacked for these laws: powers of great numbers, a text repeated, list.count of data, repr of data (where nothing that shows itself is under way). -/
namespace FA
open PySem PySem.Spec PyProof.Rows L2

theorem bits_of {i : Int} {n : Nat} (h : i.natAbs < 2 ^ n) (h0 : 0 < n) : Builtin.Int.intBits i ≤ n := by
  have x := PySem.Flt.log2_lt_of h0 h
  unfold Builtin.Int.intBits
  split <;> omega
/-- i ** j, i below a million bits, j at most 100 -/
def CPowW (i j : Int) : Prop := 0 ≤ j ∧ j ≤ 100 ∧ i.natAbs < 2 ^ 1000000
/-- the text of n signs x -/
def exes (n : Nat) : Str := ⟨(List.replicate n 120).toArray⟩
section
variable {X : Cx}
theorem op_powW : OpR X (binaryOp .Pow) (rI CPowW fun i j => .int (i ^ j.toNat)) := opI fun i j _ _ _ _ _ hc q => by
  obtain ⟨h0, h1, h2⟩ := hc
  refine pow_int h0 ?_ q
  have b := bits_of h2 (by decide)
  have e : ((2 : Int) ^ 27) = 134217728 := by decide
  rw [e]
  have c : (Builtin.Int.intBits i : Int) * j ≤ 1000000 * 100 := Int.mul_le_mul (by omega) h1 h0 (by decide)
  omega
/-- 'x' * n -/
theorem op_mul_x : OpR X (binaryOp .Mult) (fun x y H Q => ∃ n : Nat, x = .str "x" ∧ y = .int (n : Int) ∧ 1 ≤ n ∧ n ≤ 4 ∧ Q (.str (exes n)) H) := by
  intro pins s σ H x y v u Q I rx ry h
  obtain ⟨n, rfl, rfl, h1, h2, q⟩ := h
  obtain ⟨t, rfl⟩ := rx
  obtain ⟨t', rfl⟩ := ry
  have hs := sizeLine_eq
  match n, h1, h2, q with
  | 1, _, _, q =>
    refine PySem.P.mul_str (by decide) (fun _ h => ?_) (fun _ h => ?_) ?_
    · exact absurd h (by decide)
    · exact absurd h (by decide)
    · rw [if_neg (by decide), if_pos (by decide)]
      exact ⟨.str "x", H, I, ⟨_, rfl⟩, q⟩
  | 2, _, _, q =>
    refine PySem.P.mul_str (by decide) (fun _ _ => by decide +kernel) (fun _ _ => by decide +kernel) ?_
    rw [if_neg (by decide), if_neg (by decide)]
    exact ⟨by decide +kernel, .str (exes 2), H, I.tok _, ⟨_, rfl⟩, q⟩
  | 3, _, _, q =>
    refine PySem.P.mul_str (by decide) (fun _ _ => by decide +kernel) (fun _ _ => by decide +kernel) ?_
    rw [if_neg (by decide), if_neg (by decide)]
    exact ⟨by decide +kernel, .str (exes 3), H, I.tok _, ⟨_, rfl⟩, q⟩
  | 4, _, _, q =>
    refine PySem.P.mul_str (by decide) (fun _ _ => by decide +kernel) (fun _ _ => by decide +kernel) ?_
    rw [if_neg (by decide), if_neg (by decide)]
    exact ⟨by decide +kernel, .str (exes 4), H, I.tok _, ⟨_, rfl⟩, q⟩
/-- xs.count(y), data of any depth -/
def rCountD (K : PySem.W.Frag) : V → List V → Hp → VK → Prop := fun x xs H Q => ∃ (a : Addr) (y : V) (d : PyData) (ds : List PyData), x = V.ref a ∧ xs = [y] ∧ Dp K H (V.ref a) (.list ds) ∧ Dp K H y d ∧
  SeqAt.shaped (.list ds) = true ∧ SeqAt.shaped d = true ∧ Q (.int (ds.countP (fun z => PyData.eqv z d) : Nat)) H
theorem mt_countD (hu : X.A.units + 65 < cLine) : MtR X "list.count" (rCountD X.K) := by
  intro pins s σ H x xs v us Q I rx rxs h
  obtain ⟨a, y, d, ds, rfl, rfl, hl, hy, sl, sd, q⟩ := h
  cases rx
  obtain ⟨uy, rfl, ry⟩ := rxs.one
  obtain ⟨bs, r1⟩ := Dp.reads I d y uy hy ry
  have lay : PyData.canLayAll0 ds = true := SeqAt.canLay_of_shaped sl
  have room : X.A.units + 1 + min (PyData.depthAll ds) d.depth < cLine := room_in_shaped sd hu
  cases hl with
  | lst hs ha =>
    obtain ⟨its, rv, ⟨⟨cls, dd, data, sls⟩, n, ho, hc, hdn, hdt⟩, hlen⟩ := I.list hs
    simp only at hc hdt
    subst hc hdt
    obtain ⟨as, h4⟩ := Dp.readsAll I ds _ its ha rv
    have hmap : its.map (SeqAt.readOf s.heap) = ds := SeqAt.readsAll_map ds its as lay h4
    refine call_meets PySem.F.slot_list_count ⟨_, ho, rfl⟩ PySem.F.entry_list_count (PySem.F.args_list_count_2 _ _)
      (SeqAt.list_countAt a its.toArray n dd sls uy (fun u => PyData.eqv (SeqAt.readOf s.heap u) d)) ⟨ho, SeqAt.items_eqAt (vs := its.toArray) (show ReadsAll s.heap its.toArray.toList ds as from h4) r1 lay (SeqAt.canLay_of_shaped sd) room, ?_⟩
    have e : its.toArray.toList.countP (fun u => PyData.eqv (SeqAt.readOf s.heap u) d) = ds.countP (fun z => PyData.eqv z d) := by
      rw [← hmap, List.countP_map]
      rfl
    rw [e]
    exact ⟨.int _, H, I.tok _, ⟨s.toks, rfl⟩, q⟩
end

/-! ### data with dicts within -/
def kD : Key → PyData
  | .inl i => .int i
  | .inr x => .str x
mutual
inductive Dd (K : PySem.W.Frag) (H : Hp) : V → PyData → Prop
  | non : Dd K H .non .none
  | bl (b : Bool) : Dd K H (.bl b) (.bool b)
  | int (i : Int) : Dd K H (.int i) (.int i)
  | str (x : Str) : Dd K H (.str x) (.str x)
  | lst {a : Addr} {xs : List V} {ds : List PyData} : H a = some (.lst xs) → DdAll K H xs ds → Dd K H (.ref a) (.list ds)
  | tup {a : Addr} {xs : List V} {ds : List PyData} : H a = some (.tup xs) → DdAll K H xs ds → Dd K H (.ref a) (.tuple ds)
  | dic {a : Addr} {kvs : List (Key × V)} {ds : List PyData} : Rd H a (.dK kvs) → DdAll K H (kvs.map (·.2)) ds → Dd K H (.ref a) (.dict ((kvs.map fun p => kD p.1).zip ds))
inductive DdAll (K : PySem.W.Frag) (H : Hp) : List V → List PyData → Prop
  | nil : DdAll K H [] []
  | cons {v : V} {vs : List V} {d : PyData} {ds : List PyData} : Dd K H v d → DdAll K H vs ds → DdAll K H (v :: vs) (d :: ds)
end
theorem DdAll.length {K : PySem.W.Frag} {H : Hp} : ∀ {vs : List V} {ds : List PyData}, DdAll K H vs ds → vs.length = ds.length
  | _, _, .nil => rfl
  | _, _, .cons _ t => congrArg (· + 1) t.length
/-- where the modules' own dict stands, something stands from the start -/
def SysB (base : Heap) : Prop := ∃ o : Obj, base.get? sysModules = some o
section
variable {X : Cx} {pins : List (Addr × Obj)} {σ : L2.St} {H : Hp} {s : Shared}
theorem key_reads (k : Key) {v : Value} (h : keyIs k v = true) (hp : Heap) : Reads hp v (kD k) [] := by
  rcases keyIs_shape h with ⟨i, t, rfl, rfl⟩ | ⟨x, t, rfl, rfl⟩
  · exact Reads.int i t
  · exact Reads.str x t
theorem pairs_split {P : Program} {w : World} : ∀ {kvs : List (Key × V)} {vs : List (Key × Value)} {es : List DictEntry}, KV kvs vs → Pairs (mixKind P w) es vs →
    Vals (kvs.map (·.2)) (es.map (·.val)) ∧ ∀ h : Heap, ReadsAll h (es.map (·.key)) (kvs.map fun p => kD p.1) []
  | _, _, _, .nil, .nil => ⟨.nil, fun _ => .nil⟩
  | p :: kvs, q :: vs, e :: es, .cons r rt, .cons hk hv ht => by
    obtain ⟨i1, i2⟩ := pairs_split rt ht
    refine ⟨.cons (by show L2.RelV p.2 e.val; rw [hv]; exact r.2) i1, fun hp => ?_⟩
    have a := key_reads p.1 (by rw [r.1]; exact hk) hp
    exact ReadsAll.cons (as := []) (bs := []) a (i2 hp)
theorem not_sys {a : Addr} {u : HO} (I : L2.Inv X pins σ H s) (S : SysB X.base) (e : H a = some u) : sysModules ≠ a := fun z => by
  obtain ⟨o, ho⟩ := S
  have q := (I.bs _ _ ho).2
  rw [z, e] at q
  cases q
mutual
theorem Dd.reads (I : L2.Inv X pins σ H s) (S : SysB X.base) : ∀ (v : V) (d : PyData) (u : Value), Dd X.K H v d → L2.RelV v u → ∃ as, Reads s.heap u d as ∧ sysModules ∉ as
  | _, _, _, .non, r => by cases r; exact ⟨_, Reads.none, by simp⟩
  | _, _, _, .bl b, r => by cases r; exact ⟨_, Reads.bool b, by simp⟩
  | _, _, _, .int i, r => by obtain ⟨t, rfl⟩ := r; exact ⟨_, Reads.int i t, by simp⟩
  | _, _, _, .str x, r => by obtain ⟨t, rfl⟩ := r; exact ⟨_, Reads.str x t, by simp⟩
  | _, _, _, .lst e ha, r => by
    cases r
    obtain ⟨its, rv, ⟨o, n, ho, hc, _, hd⟩, _⟩ := I.list (SqL.of e)
    obtain ⟨as, hr, hn⟩ := DdAll.reads I S _ _ its ha rv
    refine ⟨_, Reads.list ho hc hd hr, ?_⟩
    simp only [List.mem_cons, not_or]
    exact ⟨not_sys I S e, hn⟩
  | _, _, _, .tup e ha, r => by
    cases r
    obtain ⟨its, rv, ⟨o, ho, hc, n, hd⟩, _⟩ := I.tuple (SqT.of e)
    obtain ⟨as, hr, hn⟩ := DdAll.reads I S _ _ its ha rv
    exact ⟨_, Reads.tuple ho hc hd hr, hn⟩
  | _, _, _, @Dd.dic _ _ a kvs ds e ha, r => by
    cases r
    obtain ⟨hz, hs, vs, kv, o, es, ep, ho, hx, hd, hk, hp, hn⟩ := dk_rd I.hok e
    obtain ⟨q1, q2⟩ := pairs_split kv hp
    obtain ⟨bs, hr, hb⟩ := DdAll.reads I S _ _ _ ha q1
    have hl : (kvs.map fun p => kD p.1).length = ds.length := by
      have := ha.length
      simpa using this
    refine ⟨a :: [] ++ bs, Reads.dict ho hx.1 hd (by rw [List.map_fst_zip (Nat.le_of_eq hl)]; exact q2 s.heap) (by rw [List.map_snd_zip (Nat.le_of_eq hl.symm)]; exact hr), ?_⟩
    simp only [List.cons_append, List.nil_append, List.mem_cons, not_or]
    exact ⟨fun z => by rw [z] at hs; simp at hs, hb⟩
theorem DdAll.reads (I : L2.Inv X pins σ H s) (S : SysB X.base) : ∀ (vs : List V) (ds : List PyData) (us : List Value), DdAll X.K H vs ds → Vals vs us → ∃ as, ReadsAll s.heap us ds as ∧ sysModules ∉ as
  | _, _, _, .nil, r => by cases r; exact ⟨_, ReadsAll.nil, by simp⟩
  | _, _, _, .cons h1 h2, r => by
    cases r with
    | cons r1 r2 =>
      obtain ⟨as, q1, n1⟩ := Dd.reads I S _ _ _ h1 r1
      obtain ⟨bs, q2, n2⟩ := DdAll.reads I S _ _ _ h2 r2
      exact ⟨_, ReadsAll.cons q1 q2, by simp [n1, n2]⟩
end
end
section
variable {X : Cx}
/-- repr(x), x a list, a tuple, a dict: where nothing that shows itself is under way -/
def rReprD (K : PySem.W.Frag) : List V → Hp → VK → Prop := fun xs H Q => ∃ (a : Addr) (d : PyData), xs = [.ref a] ∧ Dd K H (.ref a) d ∧ d.showable = true ∧ d.depth ≤ 60 ∧ d.shown.length ≤ sizeLine ∧ Q (.str d.shown) H
theorem call_reprD (S : SysB X.base) (hg : X.A.guards = some []) (hu : X.A.units + 64 < cLine) : CallR X (.builtin "repr") (rReprD X.K) := by
  intro pins s σ H xs us Q I r h
  obtain ⟨a, d, rfl, hd, hs, hdp, hz, q⟩ := h
  obtain ⟨u, rfl, ru⟩ := r.one
  cases ru
  obtain ⟨as, hr, hn⟩ := Dd.reads I S _ _ _ hd rfl
  refine repr_of_reads' hr hs (fun _ => hn) hg (by omega) (fun _ _ e => e) (fun h' t tk hk => ?_) hz
  exact ⟨.str _, H, I.kept hk, ⟨_, rfl⟩, q⟩
end
end FA

set_option Elab.async false
set_option linter.all false
set_option maxRecDepth 100000
set_option maxHeartbeats 4000000
/-! Defs that are called where nothing shows itself (no repr is under way). -/
namespace FA
open PySem PySem.Spec PyProof.Rows L2
/-- the promise of a def that is called where no repr is under way -/
structure FnG (P : Program) (w : World) (K : PySem.W.Frag) (mg : Str → Option Value) (base : Heap) (k : Nat) (f : Addr) (fd : FuncData) (ps : List Str) (sp : Sp) : Prop where
  len : ∀ vs H Q E, sp vs H Q E → vs.length = ps.length
  run : ∀ (A : Around), A.guards = some [] → ∀ (outer : List Env) (s : Shared) (H : Hp) (args : Args) (us : List Value) (vs : List V) (Q : VK) (E : XK), Room k A → Env0 P w K mg base A outer s H → BindsTo s fd args (ps.zip us) →
    Vals vs us → sp vs H Q E → codeAny (model P w) A (.call (.ref f) args) (CR CX0 outer P w H s Q E) s
theorem FnG.mono {P : Program} {w : World} {K : PySem.W.Frag} {mg : Str → Option Value} {base : Heap} {j k : Nat} {f : Addr} {fd : FuncData} {ps : List Str} {sp : Sp} (F : FnG P w K mg base j f fd ps sp) (h : j ≤ k) : FnG P w K mg base k f fd ps sp :=
  ⟨F.len, fun A g outer s H args us vs Q E r => F.run A g outer s H args us vs Q E (r.mono h)⟩
section
variable {P : Program} {w : World} {K : PySem.W.Frag} {mg : Str → Option Value} {base : Heap}
theorem okG {x qual : Str} {st : Stmt} {f : Addr} {fd : FuncData} {N ps : List Str} {k : Nat} {sp : Sp} (F : Fun K x qual st f fd) (S : FnScope N ps (defScope st)) (len : ∀ vs H Q E, sp vs H Q E → vs.length = ps.length)
    (body : ∀ (cdv : Value) (A : Around), A.guards = some [] → ∀ (outer : List Env) (s : Shared) (H : Hp) (vs : List V) (Q : VK) (E : XK), Room k (A.deeper (envOfC qual (defScope st) s.heap.objs.size f cdv)) → sp vs H Q E →
      ∃ t, PSs (cxOf CX0 P w K mg base N qual (defScope st) f cdv A outer s H E).nox (defBody st) t ∧ t { nx := fun _ H' => Q .non H', rt := Q } (start N vs) H) : FnG P w K mg base (k + 1) f fd ps sp := by
  obtain ⟨oc, od, kV, doc, pm, an, cdv, ct, osl, rfl, lk, hcd⟩ := F.ex
  refine ⟨len, fun A g outer s H args us vs Q E hr e0 hb r hsp => ?_⟩
  have kin : K.In s.heap := e0.mod.kin.keeps fun b o e => (e0.bs b o e).1
  have nol : s.heap.NoLimit := e0.mod.nolimit.keeps fun b o e => (e0.bs b o e).1
  have pk : ∀ y ∈ ps.zip us, (defScope st).names.lookup y.1 = some .local ∨ ((defScope st).names.lookup y.1 = some .cell ∧ ((cellsFrom (s.heap.objs.size + 1) (defScope st).names []).lookup y.1).isSome = true) := by
    rintro ⟨n, v⟩ hy
    rcases S.par n (List.of_mem_zip hy).1 with q | q
    · exact .inl q
    · exact .inr ⟨q, PySem.W.cellsFrom_some _ _ _ (.inl q)⟩
  refine codeAny_call_function hr.depth (kin _ _ lk) rfl S.co S.gen rfl (PySem.W.codeRec_of kin hcd) (hb _ _ _ _ (wpAny_newFunctionEnv_cells S.kind pk fun env he s1 x => ?_))
  subst he
  refine ⟨nol.keeps x.toInCall.keep, codeAny_func ?_⟩
  obtain ⟨t, ht, hq⟩ := body cdv A g outer s H vs Q E (hr.deeper _) hsp
  have I := inv_start (CX := CX0) (E := E) S hr.hd e0 (len _ _ _ _ hsp) r x
  refine wpAny_mono (ht.nox.run [] s1 (start N vs) H _ I hq) (fun fl s' hs => ?_) fun e s' hs => hs
  cases fl with
  | ret u =>
    obtain ⟨v, σ', H', J, rv, q⟩ := hs
    exact ⟨v, H', J.os, J.bare, J.base, J.hok, rv, q⟩
  | next =>
    obtain ⟨σ', H', J, q⟩ := hs
    exact ⟨V.non, H', J.os, J.bare, J.base, J.hok, rfl, q⟩
  | brk =>
    obtain ⟨_, _, _, q⟩ := hs
    exact False.elim q
  | cont =>
    obtain ⟨_, _, _, q⟩ := hs
    exact False.elim q
end
section
variable {X : Cx} {k : Nat} {f : Addr} {fd : FuncData} {ps : List Str} {sp : Sp} {x : Str} {p pos : Pos} {e : Expr} {es : List Expr} {t : TA}
theorem pe_callG (F : FnG X.prog X.w X.K X.mg X.base k f fd ps sp) (g : X.A.guards = some []) (hr : Room k X.A) (hg : Gl X x) (hm : X.mg x = some (.ref f)) (hk : PySem.W.keepIn X.K (.ref f) = true) (hb : Binds X.K fd ps []) (ha : PA X (e :: es) t)
    (hdb : (x == ("__debug__" : Str)) = false := by decide) (he : starEach (e :: es) X.env = (false, eval e X.env) :: starEach es X.env := by rfl) (hpl : (backTo pos (starEach es X.env)).any (·.1) = false := by rfl) :
    PE X (.Call (.Name x p) (e :: es) [] pos) (tCall sp [] E0 t) := by
  refine ⟨fun pins s σ H Q I h => wpAny_Call_Name_kw (ld_glob I hg hm ?_ hdb)⟩
  refine PySem.W.callWith_K (h₀ := X.base) I.ok.mod.kin hk (thn (ha.run pos pins s σ H _ I h) fun us s1 hh => ?_) he hpl
  obtain ⟨vs, H1, I1, r, q⟩ := hh
  refine ⟨I1.kIn, ?_⟩
  rw [List.append_nil] at q
  have hl : us.length = ps.length := by rw [← r.length]; exact F.len _ _ _ _ q
  have bb := hb s1 us I1.kIn (by rw [List.append_nil]; exact hl)
  rw [List.append_nil] at bb
  refine wpAny_call (codeAny_mono (F.run X.A g X.stack s1 H1 ⟨us, []⟩ us vs Q E0 hr I1.env0 bb r q) fun r s' hq => ?_)
  cases r with
  | error e => exact False.elim hq
  | ok fl =>
    cases fl with
    | ret u => exact I1.after hq
    | next => exact False.elim hq
    | brk => exact False.elim hq
    | cont => exact False.elim hq
end
end FA

set_option Elab.async false
set_option linter.all false
set_option maxRecDepth 100000
set_option maxHeartbeats 4000000
/-! The law's end for such a def. -/
namespace FA
open PySem PySem.Spec PyProof.Rows L2
/-- the script, known to its object; nothing else -/
noncomputable def hpS (K : PySem.W.Frag) (a : Addr) (vs : List Value) (ns : List Int) : Hp := fun b =>
  if b = a ∧ K.lookup a = none then some (.frz { cls := .type "list", data := .seq vs.toArray } (.lst (ns.map V.int))) else none
section
variable {K : PySem.W.Frag} {a b : Addr} {vs : List Value} {ns : List Int}
theorem hpS_some {o : HO} (h : hpS K a vs ns b = some o) : b = a ∧ K.lookup a = none ∧ o = .frz { cls := .type "list", data := .seq vs.toArray } (.lst (ns.map V.int)) := by
  unfold hpS at h
  split at h
  · rename_i c
    cases h
    exact ⟨c.1, c.2, rfl⟩
  · cases h
theorem hpS_none (h : b ≠ a ∨ K.lookup a ≠ none) : hpS K a vs ns b = none := by
  cases q : hpS K a vs ns b with
  | none => rfl
  | some o =>
    obtain ⟨e1, e2, _⟩ := hpS_some q
    rcases h with h | h
    · exact absurd e1 h
    · exact absurd e2 h
theorem hpS_only : Only (hpS K a vs ns) := fun b => by
  cases q : hpS K a vs ns b with
  | none => exact .inl rfl
  | some o =>
    obtain ⟨_, _, e⟩ := hpS_some q
    exact .inr ⟨_, _, by rw [e]⟩
end
theorem law_callG {P : Program} {w : World} {K : PySem.W.Frag} {mg mb : Str → Option Value} {k : Nat} {fa a : Addr} {fd : FuncData} {x : Str} {sp : Sp} {s₁ : Shared} {vs : List Value} {ns : List Int}
    (KX : K.In s₁.heap) (hns : s₁.heap.Ns mainGlobals mg) (hb : s₁.heap.Ns builtinsNs mb) (hbb : ∀ x : Str, x ≠ "__name__" → mb x = bootBuiltins x) (hlim : s₁.heap.NoLimit) (hg : s₁.gens = #[])
    (hz : ∃ mm, s₁.heap.Ns sysModules mm) (ha : s₁.heap.get? a = some { cls := .type "list", data := .seq vs.toArray }) (hi : IntsAre vs ns) (hl : ns.length ≤ sizeLine) (hr : Room k callerA)
    (F : ∀ base : Heap, SysB base → K.In base → base.Ns mainGlobals mg → FnG P w K mg base k fa fd [x] sp) (hbind : ∀ (s : Shared) (u : Value), BindsTo s fd ⟨[u], []⟩ [(x, u)])
    (hsp : ∀ H : Hp, Only H → SqL K H a (ns.map V.int) → sp [.ref a] H (fun v _ => v = .bl true) fun _ _ _ => False) :
    codeAny (model P w) callerA (.call (.ref fa) ⟨[.ref a], []⟩) (fun r s' => r = .ok (.ret (.bool true)) ∧ OldK s₁.heap s'.heap ∧ s'.os = s₁.os ∧ AllBare s'.gens) s₁ := by
  have rv := vals_ints hi
  have lv := hi.length
  -- a dict of the heap is no list: it is not tracked
  have dictFree : ∀ {b : Addr} {o : Obj} {es : Array DictEntry} {ep : Nat}, s₁.heap.get? b = some o → o.data = .dict es ep → hpS K a vs ns b = none := fun {b o es ep} e d => by
    refine hpS_none (.inl fun z => ?_)
    rw [z, ha] at e
    cases e
    cases d
  have nsB : ∀ {b : Addr} {m : Str → Option Value}, s₁.heap.Ns b m → (hidT s₁.heap (hpS K a vs ns)).Ns b m := by
    rintro b m ⟨o, es, ep, e, d, r⟩
    exact ⟨o, es, ep, hidT_get e (dictFree e d), d, r⟩
  have kB : K.In (hidT s₁.heap (hpS K a vs ns)) := fun b o e => hidT_get (KX b o e) (by
    by_cases z : b = a
    · subst z
      exact hpS_none (.inr (by rw [e]; simp))
    · exact hpS_none (.inl z))
  have md : Mod K mg (hidT s₁.heap (hpS K a vs ns)) := by
    obtain ⟨mc, h1, h2⟩ := hlim
    exact ⟨kB, nsB hns, ⟨mb, nsB hb, hbb⟩, mc, nsB h1, h2⟩
  have ok : HOk P w (hpS K a vs ns) s₁.heap := fun b o e => by
    obtain ⟨rfl, _, rfl⟩ := hpS_some e
    exact ⟨ha, by rw [List.length_map]; exact hl, vs, _, rv, ha⟩
  have sq : SqL K (hpS K a vs ns) a (ns.map V.int) := by
    cases q : K.lookup a with
    | none => exact .inl (.inr ⟨_, if_pos ⟨rfl, q⟩⟩)
    | some o =>
      have e := KX a o q
      rw [ha] at e
      cases e
      exact .inr ⟨_, vs.toArray, _, q, rfl, rfl, rfl, by rw [List.size_toArray, lv]; exact hl, by simpa using rv⟩
  have e0 : Env0 P w K mg (hidT s₁.heap (hpS K a vs ns)) callerA [] s₁ (hpS K a vs ns) := by
    refine ⟨rfl, md, fun b o e => of_hidT e, Nat.le_of_eq (hidT_size _ _), trivial, fun b z => ?_, ok, .of_eq hg⟩
    cases z
  obtain ⟨mm, hz⟩ := hz
  have sB : SysB (hidT s₁.heap (hpS K a vs ns)) := let ⟨o, _, _, e, _⟩ := nsB hz; ⟨o, e⟩
  refine codeAny_mono ((F _ sB kB (nsB hns)).run callerA rfl [] s₁ _ ⟨[.ref a], []⟩ [.ref a] [.ref a] _ _ hr e0 (hbind s₁ (.ref a)) (.cons rfl .nil) (hsp _ hpS_only sq)) fun r s' h => ?_
  cases r with
  | error e => exact False.elim h
  | ok fl =>
    cases fl with
    | next => exact False.elim h
    | brk => exact False.elim h
    | cont => exact False.elim h
    | ret u =>
      obtain ⟨v, H', os, bare, un, ok', r', q⟩ := h
      have q' : v = .bl true := q
      subst q'
      cases r'
      refine ⟨rfl, OldK.of_keep fun b o e => ?_, os, bare⟩
      cases q : hpS K a vs ns b with
      | none => exact un.keep b o e q (by intro z; cases z) (by intro z; cases z)
      | some u =>
        obtain ⟨rfl, _, rfl⟩ := hpS_some q
        obtain ⟨e1, _⟩ := ok b _ q
        obtain ⟨e2, _⟩ := ok' b _ (un.frzs b _ _ q)
        rw [e] at e1
        cases e1
        exact e2
theorem walk_ofG {l : PySem.W.OpenLaw} {n k : Nat} {q : Program} {loose : List Str} {XP : (Str → Option Value) → Heap → Prop} {YP : World → Heap → Prop} {d : DefRec} {K : Params → PySem.W.Frag} {sp : PySem.W.Frag → Sp} {x : Str}
    (hn : l.most = some n) (hn2 : n ≤ sizeLine) (hq : importsNone q = true) (hdf : d.params.defaults = []) (hr : Room k callerA) (hY : ∀ (w : World) (h : Heap), YP w h → (K w.params).In h)
    (F : ∀ (w : World) (mg : Str → Option Value) (fa : Addr) (h : Heap), (K w.params).In h → h.Ns mainGlobals mg → mg d.name = some (.ref fa) →
      ∃ fd : FuncData, (∀ (s : Shared) (u : Value), BindsTo s fd ⟨[u], []⟩ [(x, u)]) ∧ ∀ base : Heap, SysB base → (K w.params).In base → base.Ns mainGlobals mg → FnG l.prog w (K w.params) mg base k fa fd [x] (sp (K w.params)))
    (hsp : ∀ (K : PySem.W.Frag) (H : Hp) (a : Addr) (ns : List Int), ns.length ≤ n → Only H → SqL K H a (ns.map V.int) → sp K [.ref a] H (fun v _ => v = .bl true) fun _ _ _ => False) :
    PySem.W.WalkO q loose XP YP l.row.toRowW d [] (fun f vs => PySem.call f vs) := by
  refine Att.attach_call hn hdf fun w s₀ s₁ mg mb fa o pm cd doc a vs ns G Y ho hd hcd hmg hobj hints hlen hg => ?_
  have KX := hY w _ Y
  obtain ⟨fd, hb, hF⟩ := F w mg fa _ KX G.T.g hmg
  exact law_callG KX G.T.g G.T.b G.T.builtins G.T.nolimit hg (let ⟨mm, h, _⟩ := (G.T.seer hq).mods; ⟨mm, h⟩) hobj hints (Nat.le_trans hlen hn2) hr hF hb fun H hO hS => hsp (K w.params) H a ns hlen hO hS
end FA

set_option Elab.async false
set_option linter.all false
set_option maxRecDepth 100000
/-! Bodies and programs as plain data, and their mathematics. -/
namespace FA
open PySem
/-- an item of a body -/
inductive It where
  | call (x : Str)
  | may (b : List It)
  | loop (b : List It)
  | one (bs : List (List It))
abbrev Bd := List It
mutual
def nC : It → Nat
  | .call _ => 1
  | .may b => nCB b
  | .loop b => nCB b
  | .one bs => nCBs bs
def nCB : List It → Nat
  | [] => 0
  | i :: r => nC i + nCB r
def nCBs : List (List It) → Nat
  | [] => 0
  | b :: r => nCB b + nCBs r
end
mutual
def nI : It → Nat
  | .call _ => 0
  | .may b => nIB b
  | .loop b => nIB b
  | .one bs => nIBs bs
def nIB : List It → Nat
  | [] => 0
  | i :: r => (1 + nI i) + nIB r
def nIBs : List (List It) → Nat
  | [] => 0
  | b :: r => nIB b + nIBs r
end
mutual
/-- how deep an item goes below the body in which it stands; how deep a body is, 1 at least -/
def dI : It → Nat
  | .call _ => 0
  | .may b => dB b
  | .loop b => dB b
  | .one bs => dBs bs
def dB : List It → Nat
  | [] => 1
  | i :: r => max (1 + dI i) (dB r)
def dBs : List (List It) → Nat
  | [] => 0
  | b :: r => max (dB b) (dBs r)
end
mutual
def okI (ns : List Str) : It → Prop
  | .call x => x ∈ ns
  | .may b => b ≠ [] ∧ okB ns b
  | .loop b => b ≠ [] ∧ okB ns b
  | .one bs => 2 ≤ bs.length ∧ bs.length ≤ 4 ∧ bs.countP (fun b => b.isEmpty) ≤ 1 ∧ okBs ns bs
def okB (ns : List Str) : List It → Prop
  | [] => True
  | i :: r => okI ns i ∧ okB ns r
def okBs (ns : List Str) : List (List It) → Prop
  | [] => True
  | b :: r => okB ns b ∧ okBs ns r
end
def minL : List Int → Int
  | [] => 0
  | [x] => x
  | x :: y :: r => min x (minL (y :: r))
mutual
/-- the least number of calls, f telling that of each function -/
def cost (f : Str → Int) : It → Int
  | .call x => f x
  | .may _ => 0
  | .loop _ => 0
  | .one bs => minL (costBs f bs)
def costB (f : Str → Int) : List It → Int
  | [] => 0
  | i :: r => cost f i + costB f r
def costBs (f : Str → Int) : List (List It) → List Int
  | [] => []
  | b :: r => costB f b :: costBs f r
end
theorem costBs_map (f : Str → Int) : ∀ bs : List (List It), costBs f bs = bs.map (costB f)
  | [] => by simp only [costBs, List.map_nil]
  | b :: r => by simp only [costBs, List.map_cons, costBs_map f r]
theorem costB_sum (f : Str → Int) : ∀ b : List It, costB f b = (b.map (cost f)).sum
  | [] => by simp only [costB, List.map_nil, List.sum_nil]
  | i :: r => by simp only [costB, List.map_cons, List.sum_cons, costB_sum f r]
theorem okB_all {ns : List Str} : ∀ {b : List It}, okB ns b ↔ ∀ i ∈ b, okI ns i
  | [] => by simp [okB]
  | i :: r => by simp only [okB, List.forall_mem_cons, okB_all]
theorem okBs_all {ns : List Str} : ∀ {bs : List (List It)}, okBs ns bs ↔ ∀ b ∈ bs, okB ns b
  | [] => by simp [okBs]
  | b :: r => by simp only [okBs, List.forall_mem_cons, okBs_all]
theorem minL_mem : ∀ {l : List Int}, l ≠ [] → minL l ∈ l
  | [x], _ => by simp [minL]
  | x :: y :: r, _ => by
    have ih := minL_mem (l := y :: r) (by simp)
    simp only [minL]
    by_cases h : x ≤ minL (y :: r)
    · rw [Int.min_eq_left h]; simp
    · rw [Int.min_eq_right (by omega)]; exact List.mem_cons_of_mem _ ih
theorem minL_le : ∀ {l : List Int} {y : Int}, y ∈ l → minL l ≤ y
  | [x], y, h => by simp at h; simp [minL, h]
  | x :: z :: r, y, h => by
    simp only [minL]
    rcases List.mem_cons.mp h with rfl | h
    · exact Int.min_le_left _ _
    · exact Int.le_trans (Int.min_le_right _ _) (minL_le h)
theorem minL_unique {l : List Int} {m : Int} (h1 : m ∈ l) (h2 : ∀ y ∈ l, m ≤ y) : m = minL l := by
  have hn : l ≠ [] := List.ne_nil_of_mem h1
  exact Int.le_antisymm (h2 _ (minL_mem hn)) (minL_le h1)
/-! ### costs: not negative, rising with f, and cut alike -/
mutual
theorem cost_nn {f : Str → Int} (hf : ∀ x, 0 ≤ f x) : ∀ i : It, 0 ≤ cost f i
  | .call x => by simp only [cost]; exact hf x
  | .may _ => by simp only [cost]; omega
  | .loop _ => by simp only [cost]; omega
  | .one bs => by
    simp only [cost]
    cases bs with
    | nil => simp [costBs, minL]
    | cons b r =>
      have h := minL_mem (l := costBs f (b :: r)) (by simp [costBs])
      exact costBs_nn hf (b :: r) _ h
theorem costB_nn {f : Str → Int} (hf : ∀ x, 0 ≤ f x) : ∀ b : List It, 0 ≤ costB f b
  | [] => by simp [costB]
  | i :: r => by
    have h1 := cost_nn hf i
    have h2 := costB_nn hf r
    simp only [costB]; omega
theorem costBs_nn {f : Str → Int} (hf : ∀ x, 0 ≤ f x) : ∀ bs : List (List It), ∀ y ∈ costBs f bs, 0 ≤ y
  | [], y, h => by simp [costBs] at h
  | b :: r, y, h => by
    simp only [costBs, List.mem_cons] at h
    rcases h with rfl | h
    · exact costB_nn hf b
    · exact costBs_nn hf r y h
end
/-- two lists, place by place -/
def le2 : List Int → List Int → Prop
  | [], [] => True
  | x :: r, y :: s => x ≤ y ∧ le2 r s
  | _, _ => False
theorem minL_le2 : ∀ {l m : List Int}, le2 l m → minL l ≤ minL m
  | [], [], _ => Int.le_refl _
  | [x], [y], h => h.1
  | x :: x' :: r, y :: y' :: s, h => by
    have ih := minL_le2 (l := x' :: r) (m := y' :: s) h.2
    have h1 := h.1
    simp only [minL]; omega
  | [_], _ :: _ :: _, h => h.2.elim
  | _ :: _ :: _, [_], h => h.2.elim
  | [], _ :: _, h => h.elim
  | _ :: _, [], h => h.elim
mutual
theorem cost_le {f g : Str → Int} (h : ∀ x, f x ≤ g x) : ∀ i : It, cost f i ≤ cost g i
  | .call x => by simp only [cost]; exact h x
  | .may _ => by simp only [cost]; omega
  | .loop _ => by simp only [cost]; omega
  | .one bs => by simp only [cost]; exact minL_le2 (costBs_le h bs)
theorem costB_le {f g : Str → Int} (h : ∀ x, f x ≤ g x) : ∀ b : List It, costB f b ≤ costB g b
  | [] => by simp [costB]
  | i :: r => by
    have h1 := cost_le h i
    have h2 := costB_le h r
    simp only [costB]; omega
theorem costBs_le {f g : Str → Int} (h : ∀ x, f x ≤ g x) : ∀ bs : List (List It), le2 (costBs f bs) (costBs g bs)
  | [] => by simp [costBs, le2]
  | b :: r => by simp only [costBs, le2]; exact ⟨costB_le h b, costBs_le h r⟩
end
/-- cut at c, place by place -/
def cut2 (c : Int) : List Int → List Int → Prop
  | [], [] => True
  | x :: r, y :: s => min c x = min c y ∧ cut2 c r s
  | _, _ => False
theorem minL_cut {c : Int} : ∀ {l m : List Int}, cut2 c l m → min c (minL l) = min c (minL m)
  | [], [], _ => rfl
  | [x], [y], h => h.1
  | x :: x' :: r, y :: y' :: s, h => by
    have ih := minL_cut (l := x' :: r) (m := y' :: s) h.2
    have h1 := h.1
    simp only [minL]; omega
  | [_], _ :: _ :: _, h => h.2.elim
  | _ :: _ :: _, [_], h => h.2.elim
  | [], _ :: _, h => h.elim
  | _ :: _, [], h => h.elim
mutual
theorem cost_cut {c : Int} {f g : Str → Int} (hf : ∀ x, 0 ≤ f x) (hg : ∀ x, 0 ≤ g x) (h : ∀ x, min c (f x) = min c (g x)) : ∀ i : It, min c (cost f i) = min c (cost g i)
  | .call x => by simp only [cost]; exact h x
  | .may _ => by simp only [cost]
  | .loop _ => by simp only [cost]
  | .one bs => by simp only [cost]; exact minL_cut (costBs_cut hf hg h bs)
theorem costB_cut {c : Int} {f g : Str → Int} (hf : ∀ x, 0 ≤ f x) (hg : ∀ x, 0 ≤ g x) (h : ∀ x, min c (f x) = min c (g x)) : ∀ b : List It, min c (costB f b) = min c (costB g b)
  | [] => by simp [costB]
  | i :: r => by
    have h1 := cost_cut hf hg h i
    have h2 := costB_cut hf hg h r
    have a1 := cost_nn hf i
    have a2 := cost_nn hg i
    have a3 := costB_nn hf r
    have a4 := costB_nn hg r
    simp only [costB]; omega
theorem costBs_cut {c : Int} {f g : Str → Int} (hf : ∀ x, 0 ≤ f x) (hg : ∀ x, 0 ≤ g x) (h : ∀ x, min c (f x) = min c (g x)) : ∀ bs : List (List It), cut2 c (costBs f bs) (costBs g bs)
  | [] => by simp [costBs, cut2]
  | b :: r => by simp only [costBs, cut2]; exact ⟨costB_cut hf hg h b, costBs_cut hf hg h r⟩
end
/-! ### programs -/
abbrev Pr := List (Str × Bd)
def bodyOf (p : Pr) (x : Str) : Bd := (p.lookup x).getD []
/-- the round k of the least calls, cut at c -/
def rnd (c : Int) (p : Pr) : Nat → Str → Int
  | 0, _ => c
  | k + 1, x => min c (1 + costB (rnd c p k) (bodyOf p x))
theorem rnd_nn {c : Int} (hc : 0 ≤ c) (p : Pr) : ∀ k x, 0 ≤ rnd c p k x
  | 0, _ => hc
  | k + 1, x => by
    have h := costB_nn (f := rnd c p k) (rnd_nn hc p k) (bodyOf p x)
    simp only [rnd]; omega
theorem rnd_le {c : Int} (p : Pr) : ∀ k x, rnd c p k x ≤ c
  | 0, _ => Int.le_refl _
  | k + 1, x => by simp only [rnd]; exact Int.min_le_left _ _
theorem rnd_cut {c d : Int} (hc : 0 ≤ c) (hcd : c ≤ d) (p : Pr) : ∀ k x, min c (rnd d p k x) = rnd c p k x
  | 0, x => by simp only [rnd]; omega
  | k + 1, x => by
    have h := costB_cut (c := c) (f := rnd d p k) (g := rnd c p k) (rnd_nn (by omega) p k) (rnd_nn hc p k) (fun y => by
      have := rnd_cut hc hcd p k y
      have := rnd_le (c := c) p k y
      omega) (bodyOf p x)
    have a1 := costB_nn (f := rnd d p k) (rnd_nn (by omega) p k) (bodyOf p x)
    have a2 := costB_nn (f := rnd c p k) (rnd_nn hc p k) (bodyOf p x)
    simp only [rnd]; omega
theorem rnd_down {c : Int} (p : Pr) : ∀ k x, rnd c p (k + 1) x ≤ rnd c p k x
  | 0, x => by simp only [rnd]; exact Int.min_le_left _ _
  | k + 1, x => by
    have h := costB_le (f := rnd c p (k + 1)) (g := rnd c p k) (rnd_down p k) (bodyOf p x)
    simp only [rnd] at h ⊢; omega
theorem rnd_downs {c : Int} (p : Pr) (x : Str) : ∀ {j k : Nat}, j ≤ k → rnd c p k x ≤ rnd c p j x
  | j, 0, h => by have : j = 0 := by omega
                  subst this; exact Int.le_refl _
  | j, k + 1, h => by
    by_cases e : j = k + 1
    · rw [e]; exact Int.le_refl _
    · exact Int.le_trans (rnd_down p k x) (rnd_downs p x (by omega))
end FA

set_option Elab.async false
set_option linter.all false
set_option maxRecDepth 100000
set_option maxHeartbeats 4000000
/-! How bodies and programs lie in the heap. -/
namespace FA
open PySem PySem.Spec PyProof.Rows L2
/-- the heap without some addresses -/
def wo (W : List Addr) (H : Hp) : Hp := fun b => if b ∈ W then none else H b
theorem wo_some {W : List Addr} {H : Hp} {b : Addr} {o : HO} : wo W H b = some o ↔ b ∉ W ∧ H b = some o := by
  unfold wo
  by_cases h : b ∈ W
  · simp [h]
  · simp [h]
theorem wo_nil {H : Hp} : wo [] H = H := by funext b; simp [wo]
/-- all but what stands at W is as it was -/
def Sm (W : List Addr) (H H' : Hp) : Prop := ∀ b o, b ∉ W → H b = some o → H' b = some o
theorem Sm.refl (W : List Addr) (H : Hp) : Sm W H H := fun _ _ _ h => h
theorem Sm.trans {W : List Addr} {H H1 H2 : Hp} (a : Sm W H H1) (b : Sm W H1 H2) : Sm W H H2 := fun c o n h => b c o n (a c o n h)
theorem Sm.of_same {W : List Addr} {H H' : Hp} (h : Same H H') : Sm W H H' := fun b o _ e => h b o e
theorem Sm.same {W : List Addr} {H H' : Hp} (h : Sm W H H') : Same (wo W H) (wo W H') := fun b o e => by
  rw [wo_some] at e ⊢
  exact ⟨e.1, h b o e.1 e.2⟩
theorem Sm.nil {H H' : Hp} (h : Sm [] H H') : Same H H' := fun b o e => h b o (by simp) e
theorem Sm.more {W W' : List Addr} {H H' : Hp} (h : Sm W H H') (s : ∀ b ∈ W, b ∈ W') : Sm W' H H' := fun b o n e => h b o (fun z => n (s b z)) e
/-- what is new needs no leave -/
theorem Sm.drop {r : Addr} {W : List Addr} {H H1 H2 : Hp} (h0 : Sm W H H1) (hr : H r = none) (h : Sm (r :: W) H1 H2) : Sm W H H2 := fun b o n e =>
  h b o (by
    simp only [List.mem_cons, not_or]
    exact ⟨ne_of_none e hr, n⟩) (h0 b o n e)
theorem Sm.new {W : List Addr} {H : Hp} {p : Addr} {o : HO} (h : H p = none) : Sm W H (upd H p o) := fun b u _ e => by rw [upd_ne (ne_of_none e h)]; exact e
theorem Sm.at {W : List Addr} {H : Hp} {p : Addr} {o : HO} (h : p ∈ W) : Sm W H (upd H p o) := fun b u n e => by
  rw [upd_ne (fun z => n (by rw [z]; exact h))]; exact e
theorem Sm.none {W : List Addr} {H H' : Hp} {b : Addr} (h : Sm W H H') (n : b ∉ W) (e : H' b = none) : H b = none := by
  cases q : H b with
  | none => rfl
  | some o => rw [h b o n q] at e; cases e
mutual
inductive ItAt (H : Hp) : V → It → Prop
  | call (x : Str) : ItAt H (.str x) (.call x)
  | may {t b : Addr} {vs : List V} {l : List It} : H t = some (.tup [.str "maybe", .ref b]) → H b = some (.lst vs) → ItsAt H vs l → ItAt H (.ref t) (.may l)
  | loop {t b : Addr} {vs : List V} {l : List It} : H t = some (.tup [.str "loop", .ref b]) → H b = some (.lst vs) → ItsAt H vs l → ItAt H (.ref t) (.loop l)
  | one {t b : Addr} {vs : List V} {ls : List (List It)} : H t = some (.tup [.str "one", .ref b]) → H b = some (.lst vs) → BdsAt H vs ls → ItAt H (.ref t) (.one ls)
inductive ItsAt (H : Hp) : List V → List It → Prop
  | nil : ItsAt H [] []
  | cons {v : V} {i : It} {vs : List V} {l : List It} : ItAt H v i → ItsAt H vs l → ItsAt H (v :: vs) (i :: l)
inductive BdsAt (H : Hp) : List V → List (List It) → Prop
  | nil : BdsAt H [] []
  | cons {b : Addr} {vs : List V} {l : List It} {r : List V} {ls : List (List It)} : H b = some (.lst vs) → ItsAt H vs l → BdsAt H r ls → BdsAt H (.ref b :: r) (l :: ls)
end
/-- a body at b -/
def BdAt (H : Hp) (b : Addr) (l : List It) : Prop := ∃ vs, H b = some (.lst vs) ∧ ItsAt H vs l
/-- lists and tuples are kept -/
structure Kp (H H' : Hp) : Prop where
  l : ∀ a xs, H a = some (.lst xs) → H' a = some (.lst xs)
  t : ∀ a xs, H a = some (.tup xs) → H' a = some (.tup xs)
theorem Kp.of {H H' : Hp} (h : Same H H') : Kp H H' := ⟨fun _ _ e => h _ _ e, fun _ _ e => h _ _ e⟩
section
variable {H H' : Hp}
mutual
theorem ItAt.keep (k : Kp H H') : ∀ {v : V} {i : It}, ItAt H v i → ItAt H' v i
  | _, _, .call x => .call x
  | _, _, .may h1 h2 h3 => .may (k.t _ _ h1) (k.l _ _ h2) (ItsAt.keep k h3)
  | _, _, .loop h1 h2 h3 => .loop (k.t _ _ h1) (k.l _ _ h2) (ItsAt.keep k h3)
  | _, _, .one h1 h2 h3 => .one (k.t _ _ h1) (k.l _ _ h2) (BdsAt.keep k h3)
theorem ItsAt.keep (k : Kp H H') : ∀ {vs : List V} {l : List It}, ItsAt H vs l → ItsAt H' vs l
  | _, _, .nil => .nil
  | _, _, .cons h t => .cons (ItAt.keep k h) (ItsAt.keep k t)
theorem BdsAt.keep (k : Kp H H') : ∀ {vs : List V} {l : List (List It)}, BdsAt H vs l → BdsAt H' vs l
  | _, _, .nil => .nil
  | _, _, .cons h h2 t => .cons (k.l _ _ h) (ItsAt.keep k h2) (BdsAt.keep k t)
end
theorem BdAt.keep (k : Kp H H') {b : Addr} {l : List It} (h : BdAt H b l) : BdAt H' b l := let ⟨vs, h1, h2⟩ := h; ⟨vs, k.l _ _ h1, h2.keep k⟩
theorem ItsAt.length : ∀ {vs : List V} {l : List It}, ItsAt H vs l → vs.length = l.length
  | _, _, .nil => rfl
  | _, _, .cons _ t => congrArg (· + 1) t.length
theorem BdsAt.length : ∀ {vs : List V} {l : List (List It)}, BdsAt H vs l → vs.length = l.length
  | _, _, .nil => rfl
  | _, _, .cons _ _ t => congrArg (· + 1) t.length
theorem ItsAt.get : ∀ {vs : List V} {l : List It} {i : Nat} {v : V}, ItsAt H vs l → vs[i]? = some v → ∃ it, l[i]? = some it ∧ ItAt H v it
  | _, _, _, _, .nil, e => by simp at e
  | _, _, 0, _, .cons h _, e => by simp at e; subst e; exact ⟨_, rfl, h⟩
  | _, _, i + 1, _, .cons _ t, e => by
    obtain ⟨it, a, b⟩ := ItsAt.get (i := i) t (by simpa using e)
    exact ⟨it, by simpa using a, b⟩
theorem BdsAt.get : ∀ {vs : List V} {l : List (List It)} {i : Nat} {v : V}, BdsAt H vs l → vs[i]? = some v → ∃ b bd, v = .ref b ∧ l[i]? = some bd ∧ BdAt H b bd
  | _, _, _, _, .nil, e => by simp at e
  | _, _, 0, _, .cons h h2 _, e => by simp at e; subst e; exact ⟨_, _, rfl, rfl, _, h, h2⟩
  | _, _, i + 1, _, .cons _ _ t, e => by
    obtain ⟨b, bd, a, c, d⟩ := BdsAt.get (i := i) t (by simpa using e)
    exact ⟨b, bd, a, by simpa using c, d⟩
theorem ItsAt.append : ∀ {vs ws : List V} {l m : List It}, ItsAt H vs l → ItsAt H ws m → ItsAt H (vs ++ ws) (l ++ m)
  | _, _, _, _, .nil, b => b
  | _, _, _, _, .cons h t, b => .cons h (t.append b)
theorem BdsAt.append : ∀ {vs ws : List V} {l m : List (List It)}, BdsAt H vs l → BdsAt H ws m → BdsAt H (vs ++ ws) (l ++ m)
  | _, _, _, _, .nil, b => b
  | _, _, _, _, .cons h h2 t, b => .cons h h2 (t.append b)
theorem ItsAt.take (n : Nat) : ∀ {vs : List V} {l : List It}, ItsAt H vs l → ItsAt H (vs.take n) (l.take n) := by
  induction n with
  | zero => intro vs l _; simp; exact .nil
  | succ n ih =>
    intro vs l h
    cases h with
    | nil => simp; exact .nil
    | cons h t => simp only [List.take_succ_cons]; exact .cons h (ih t)
theorem BdsAt.take (n : Nat) : ∀ {vs : List V} {l : List (List It)}, BdsAt H vs l → BdsAt H (vs.take n) (l.take n) := by
  induction n with
  | zero => intro vs l _; simp; exact .nil
  | succ n ih =>
    intro vs l h
    cases h with
    | nil => simp; exact .nil
    | cons h h2 t => simp only [List.take_succ_cons]; exact .cons h h2 (ih t)
theorem BdsAt.drop (n : Nat) : ∀ {vs : List V} {l : List (List It)}, BdsAt H vs l → BdsAt H (vs.drop n) (l.drop n) := by
  induction n with
  | zero => intro vs l h; simpa using h
  | succ n ih =>
    intro vs l h
    cases h with
    | nil => simp; exact .nil
    | cons h h2 t => simp only [List.drop_succ_cons]; exact ih t
end
/-- the rows of a program's dict -/
inductive PrKv (H : Hp) : List (Key × V) → Pr → Prop
  | nil : PrKv H [] []
  | cons {x : Str} {b : Addr} {l : List It} {kvs : List (Key × V)} {p : Pr} : BdAt H b l → PrKv H kvs p → PrKv H ((.inr x, .ref b) :: kvs) ((x, l) :: p)
/-- a program at d -/
def PrAt (H : Hp) (d : Addr) (p : Pr) : Prop := ∃ kvs, Rd H d (.dK kvs) ∧ PrKv H kvs p
theorem PrKv.keep {H H' : Hp} (k : Kp H H') : ∀ {kvs : List (Key × V)} {p : Pr}, PrKv H kvs p → PrKv H' kvs p
  | _, _, .nil => .nil
  | _, _, .cons h t => .cons (h.keep k) (t.keep k)
theorem PrKv.length {H : Hp} : ∀ {kvs : List (Key × V)} {p : Pr}, PrKv H kvs p → kvs.length = p.length
  | _, _, .nil => rfl
  | _, _, .cons _ t => congrArg (· + 1) t.length
theorem PrKv.keys {H : Hp} : ∀ {kvs : List (Key × V)} {p : Pr}, PrKv H kvs p → kvs.map (·.1) = p.map fun q => Sum.inr q.1
  | _, _, .nil => rfl
  | _, _, .cons _ t => by simp only [List.map_cons, t.keys]
theorem PrKv.look {H : Hp} {x : Str} : ∀ {kvs : List (Key × V)} {p : Pr}, PrKv H kvs p → (p.lookup x = none ∧ valV kvs (.inr x) = none) ∨ ∃ l b, p.lookup x = some l ∧ valV kvs (.inr x) = some (.ref b) ∧ BdAt H b l
  | _, _, .nil => .inl ⟨rfl, rfl⟩
  | (.inr y, .ref b) :: kvs, (_, l) :: p, .cons h t => by
    by_cases e : x = y
    · subst e
      refine .inr ⟨l, b, by simp [List.lookup], by simp [valV], h⟩
    · have e1 : (x == y) = false := beq_eq_false_iff_ne.mpr e
      have e2 : ¬ (Sum.inr y : Key) = Sum.inr x := fun z => e (Sum.inr.inj z).symm
      rcases t.look (x := x) with ⟨h1, h2⟩ | ⟨l', b', h1, h2, h3⟩
      · refine .inl ⟨by simp [List.lookup, e1, h1], ?_⟩
        unfold valV at h2 ⊢
        rw [List.find?_cons_of_neg (by simpa using e2)]
        exact h2
      · refine .inr ⟨l', b', by simp [List.lookup, e1, h1], ?_, h3⟩
        unfold valV at h2 ⊢
        rw [List.find?_cons_of_neg (by simpa using e2)]
        exact h2
theorem PrAt.look {H : Hp} {d : Addr} {p : Pr} {x : Str} (h : PrAt H d p) : (p.lookup x = none ∧ DGet H d (.str x) none) ∨ ∃ l b, p.lookup x = some l ∧ DGet H d (.str x) (some (.ref b)) ∧ BdAt H b l := by
  obtain ⟨kvs, hd, hk⟩ := h
  rcases hk.look (x := x) with ⟨h1, h2⟩ | ⟨l, b, h1, h2, h3⟩
  · exact .inl ⟨h1, .inl ⟨kvs, .inr x, hd, rfl, h2.symm⟩⟩
  · exact .inr ⟨l, b, h1, .inl ⟨kvs, .inr x, hd, rfl, h2.symm⟩, h3⟩
end FA

set_option Elab.async false
set_option linter.all false
set_option maxRecDepth 100000
set_option maxHeartbeats 4000000
/-! The text of the law and the program, by places. -/
namespace K09
open PySem PySem.Spec PyProof.Rows L2 FA
def top (i : Nat) : Stmt := PySem.Challenge.pw_stacksamples_k09_products_compared.main.body.getD i (.Pass ⟨0, 0, 0, 0⟩)
abbrev sIsName : Stmt := top 6
theorem scIsName : FnScope ["value", "letter"] ["value"] (defScope sIsName) := ⟨rfl, rfl, rfl, by decide +kernel, rfl, by decide +kernel, by decide +kernel⟩
abbrev sIsAtom : Stmt := top 11
theorem scIsAtom : FnScope ["value", "name"] ["value"] (defScope sIsAtom) := ⟨rfl, rfl, rfl, by decide +kernel, rfl, by decide +kernel, by decide +kernel⟩
abbrev sIsProduct : Stmt := top 12
theorem scIsProduct : FnScope ["value", "atom"] ["value"] (defScope sIsProduct) := ⟨rfl, rfl, rfl, by decide +kernel, rfl, by decide +kernel, by decide +kernel⟩
abbrev sCheckProducts : Stmt := top 13
theorem scCheckProducts : FnScope ["products", "product"] ["products"] (defScope sCheckProducts) := ⟨rfl, rfl, rfl, by decide +kernel, rfl, by decide +kernel, by decide +kernel⟩
abbrev sCheckWordOfNames : Stmt := top 14
theorem scCheckWordOfNames : FnScope ["word", "name"] ["word"] (defScope sCheckWordOfNames) := ⟨rfl, rfl, rfl, by decide +kernel, rfl, by decide +kernel, by decide +kernel⟩
abbrev sIsAtomWithin : Stmt := top 15
theorem scIsAtomWithin : FnScope ["atom", "other", "names", "name"] ["atom", "other"] (defScope sIsAtomWithin) := ⟨rfl, rfl, rfl, by decide +kernel, rfl, by decide +kernel, by decide +kernel⟩
abbrev sIsProductWithin : Stmt := top 16
theorem scIsProductWithin : FnScope ["product", "other", "taken", "atom", "most"] ["product", "other"] (defScope sIsProductWithin) := ⟨rfl, rfl, rfl, by decide +kernel, rfl, by decide +kernel, by decide +kernel⟩
abbrev sIsProductIn : Stmt := top 17
theorem scIsProductIn : FnScope ["products", "product", "other"] ["products", "product"] (defScope sIsProductIn) := ⟨rfl, rfl, rfl, by decide +kernel, rfl, by decide +kernel, by decide +kernel⟩
abbrev sProductText : Stmt := top 18
theorem scProductText : FnScope ["product", "atoms", "atom"] ["product"] (defScope sProductText) := ⟨rfl, rfl, rfl, by decide +kernel, rfl, by decide +kernel, by decide +kernel⟩
abbrev sWithoutIdleAtoms : Stmt := top 19
theorem scWithoutIdleAtoms : FnScope ["product", "kept", "atom"] ["product"] (defScope sWithoutIdleAtoms) := ⟨rfl, rfl, rfl, by decide +kernel, rfl, by decide +kernel, by decide +kernel⟩
abbrev sNormalForm : Stmt := top 20
theorem scNormalForm : FnScope ["products", "by_text", "product", "found", "text", "shorter", "others", "other"] ["products"] (defScope sNormalForm) := ⟨rfl, rfl, rfl, by decide +kernel, rfl, by decide +kernel, by decide +kernel⟩
abbrev sWordIn : Stmt := top 21
theorem scWordIn : FnScope ["products", "word"] ["products", "word"] (defScope sWordIn) := ⟨rfl, rfl, rfl, by decide +kernel, rfl, by decide +kernel, by decide +kernel⟩
abbrev sIncludes : Stmt := top 22
theorem scIncludes : FnScope ["products", "other", "product"] ["products", "other"] (defScope sIncludes) := ⟨rfl, rfl, rfl, by decide +kernel, rfl, by decide +kernel, by decide +kernel⟩
abbrev sReduced : Stmt := top 23
theorem scReduced : FnScope ["products"] ["products"] (defScope sReduced) := ⟨rfl, rfl, rfl, by decide +kernel, rfl, by decide +kernel, by decide +kernel⟩
abbrev sLPouch : Stmt := top 25
theorem scLPouch : FnScope ["script", "index", "mixed", "cell"] ["script", "index"] (defScope sLPouch) := ⟨rfl, rfl, rfl, by decide +kernel, rfl, by decide +kernel, by decide +kernel⟩
abbrev sLPick : Stmt := top 26
theorem scLPick : FnScope ["pouch", "size", "wide", "digit"] ["pouch", "size"] (defScope sLPick) := ⟨rfl, rfl, rfl, by decide +kernel, rfl, by decide +kernel, by decide +kernel⟩
abbrev sLProduct : Stmt := top 27
theorem scLProduct : FnScope ["pouch", "names", "most", "found", "turn", "some", "name"] ["pouch", "names", "most"] (defScope sLProduct) := ⟨rfl, rfl, rfl, by decide +kernel, rfl, by decide +kernel, by decide +kernel⟩
abbrev sLBent : Stmt := top 28
theorem scLBent : FnScope ["pouch", "names", "whole", "most", "atom", "own", "spot", "way"] ["pouch", "names", "whole", "most"] (defScope sLBent) := ⟨rfl, rfl, rfl, by decide +kernel, rfl, by decide +kernel, by decide +kernel⟩
abbrev sLProducts : Stmt := top 29
theorem scLProducts : FnScope ["pouch", "names", "many", "most", "found", "turn"] ["pouch", "names", "many", "most"] (defScope sLProducts) := ⟨rfl, rfl, rfl, by decide +kernel, rfl, by decide +kernel, by decide +kernel⟩
abbrev sLInProduct : Stmt := top 30
theorem scLInProduct : FnScope ["product", "word", "spots", "atom", "later", "at", "name"] ["product", "word"] (defScope sLInProduct) := ⟨rfl, rfl, rfl, by decide +kernel, rfl, by decide +kernel, by decide +kernel⟩
abbrev sLLongest : Stmt := top 31
theorem scLLongest : FnScope ["product", "times", "found", "atom"] ["product", "times"] (defScope sLLongest) := ⟨rfl, rfl, rfl, by decide +kernel, rfl, by decide +kernel, by decide +kernel⟩
abbrev sLAllIn : Stmt := top 32
theorem scLAllIn : FnScope ["product", "products", "word", "other"] ["product", "products"] (defScope sLAllIn) := ⟨rfl, rfl, rfl, by decide +kernel, rfl, by decide +kernel, by decide +kernel⟩
abbrev sLText : Stmt := top 33
theorem scLText : FnScope ["product", "words", "atom"] ["product"] (defScope sLText) := ⟨rfl, rfl, rfl, by decide +kernel, rfl, by decide +kernel, by decide +kernel⟩
abbrev sLIsPlain : Stmt := top 34
theorem scLIsPlain : FnScope ["found", "product", "atom", "one"] ["found"] (defScope sLIsPlain) := ⟨rfl, rfl, rfl, by decide +kernel, rfl, by decide +kernel, by decide +kernel⟩
abbrev sLIsNormal : Stmt := top 35
theorem scLIsNormal : FnScope ["found", "texts", "at", "product", "one", "two", "names", "atom", "name"] ["found"] (defScope sLIsNormal) := ⟨rfl, rfl, rfl, by decide +kernel, rfl, by decide +kernel, by decide +kernel⟩
abbrev sLSame : Stmt := top 36
theorem scLSame : FnScope ["products", "others", "lost", "one"] ["products", "others"] (defScope sLSame) := ⟨rfl, rfl, rfl, by decide +kernel, rfl, by decide +kernel, by decide +kernel⟩
abbrev sLWord : Stmt := top 37
theorem scLWord : FnScope ["pouch", "names", "products", "word", "name", "turn"] ["pouch", "names", "products"] (defScope sLWord) := ⟨rfl, rfl, rfl, by decide +kernel, rfl, by decide +kernel, by decide +kernel⟩
abbrev sLRight : Stmt := top 38
theorem scLRight : FnScope ["pouch", "names", "products", "others", "kept", "due", "step", "turn", "word", "found", "product", "one"] ["pouch", "names", "products", "others"] (defScope sLRight) := ⟨rfl, rfl, rfl, by decide +kernel, rfl, by decide +kernel, by decide +kernel⟩
abbrev sLaw : Stmt := top 39
theorem scLaw : FnScope ["script", "index", "pouch", "turn", "names", "products", "others", "near", "some", "many", "most", "one"] ["script"] (defScope sLaw) := ⟨rfl, rfl, rfl, by decide +kernel, rfl, by decide +kernel, by decide +kernel⟩
/-- what the top has left: the defs, the constants, and that the built-in names are the built-in ones -/
structure Txt (K : PySem.W.Frag) (mg : Str → Option Value) where
  aIsName : Addr
  fIsName : FuncData
  FIsName : Fun K "is_name" "is_name" sIsName aIsName fIsName
  bIsName : Binds K fIsName ["value"] []
  gIsName : mg "is_name" = some (.ref aIsName)
  aIsAtom : Addr
  fIsAtom : FuncData
  FIsAtom : Fun K "_is_atom" "_is_atom" sIsAtom aIsAtom fIsAtom
  bIsAtom : Binds K fIsAtom ["value"] []
  gIsAtom : mg "_is_atom" = some (.ref aIsAtom)
  aIsProduct : Addr
  fIsProduct : FuncData
  FIsProduct : Fun K "_is_product" "_is_product" sIsProduct aIsProduct fIsProduct
  bIsProduct : Binds K fIsProduct ["value"] []
  gIsProduct : mg "_is_product" = some (.ref aIsProduct)
  aCheckProducts : Addr
  fCheckProducts : FuncData
  FCheckProducts : Fun K "_check_products" "_check_products" sCheckProducts aCheckProducts fCheckProducts
  bCheckProducts : Binds K fCheckProducts ["products"] []
  gCheckProducts : mg "_check_products" = some (.ref aCheckProducts)
  aCheckWordOfNames : Addr
  fCheckWordOfNames : FuncData
  FCheckWordOfNames : Fun K "_check_word_of_names" "_check_word_of_names" sCheckWordOfNames aCheckWordOfNames fCheckWordOfNames
  bCheckWordOfNames : Binds K fCheckWordOfNames ["word"] []
  gCheckWordOfNames : mg "_check_word_of_names" = some (.ref aCheckWordOfNames)
  aIsAtomWithin : Addr
  fIsAtomWithin : FuncData
  FIsAtomWithin : Fun K "is_atom_within" "is_atom_within" sIsAtomWithin aIsAtomWithin fIsAtomWithin
  bIsAtomWithin : Binds K fIsAtomWithin ["atom", "other"] []
  gIsAtomWithin : mg "is_atom_within" = some (.ref aIsAtomWithin)
  aIsProductWithin : Addr
  fIsProductWithin : FuncData
  FIsProductWithin : Fun K "_is_product_within" "_is_product_within" sIsProductWithin aIsProductWithin fIsProductWithin
  bIsProductWithin : Binds K fIsProductWithin ["product", "other"] []
  gIsProductWithin : mg "_is_product_within" = some (.ref aIsProductWithin)
  aIsProductIn : Addr
  fIsProductIn : FuncData
  FIsProductIn : Fun K "is_product_in" "is_product_in" sIsProductIn aIsProductIn fIsProductIn
  bIsProductIn : Binds K fIsProductIn ["products", "product"] []
  gIsProductIn : mg "is_product_in" = some (.ref aIsProductIn)
  aProductText : Addr
  fProductText : FuncData
  FProductText : Fun K "product_text" "product_text" sProductText aProductText fProductText
  bProductText : Binds K fProductText ["product"] []
  gProductText : mg "product_text" = some (.ref aProductText)
  aWithoutIdleAtoms : Addr
  fWithoutIdleAtoms : FuncData
  FWithoutIdleAtoms : Fun K "_without_idle_atoms" "_without_idle_atoms" sWithoutIdleAtoms aWithoutIdleAtoms fWithoutIdleAtoms
  bWithoutIdleAtoms : Binds K fWithoutIdleAtoms ["product"] []
  gWithoutIdleAtoms : mg "_without_idle_atoms" = some (.ref aWithoutIdleAtoms)
  aNormalForm : Addr
  fNormalForm : FuncData
  FNormalForm : Fun K "_normal_form" "_normal_form" sNormalForm aNormalForm fNormalForm
  bNormalForm : Binds K fNormalForm ["products"] []
  gNormalForm : mg "_normal_form" = some (.ref aNormalForm)
  aWordIn : Addr
  fWordIn : FuncData
  FWordIn : Fun K "word_in" "word_in" sWordIn aWordIn fWordIn
  bWordIn : Binds K fWordIn ["products", "word"] []
  gWordIn : mg "word_in" = some (.ref aWordIn)
  aIncludes : Addr
  fIncludes : FuncData
  FIncludes : Fun K "includes" "includes" sIncludes aIncludes fIncludes
  bIncludes : Binds K fIncludes ["products", "other"] []
  gIncludes : mg "includes" = some (.ref aIncludes)
  aReduced : Addr
  fReduced : FuncData
  FReduced : Fun K "reduced" "reduced" sReduced aReduced fReduced
  bReduced : Binds K fReduced ["products"] []
  gReduced : mg "reduced" = some (.ref aReduced)
  aLPouch : Addr
  fLPouch : FuncData
  FLPouch : Fun K "_law_pouch" "_law_pouch" sLPouch aLPouch fLPouch
  bLPouch : Binds K fLPouch ["script", "index"] []
  gLPouch : mg "_law_pouch" = some (.ref aLPouch)
  aLPick : Addr
  fLPick : FuncData
  FLPick : Fun K "_law_pick" "_law_pick" sLPick aLPick fLPick
  bLPick : Binds K fLPick ["pouch", "size"] []
  gLPick : mg "_law_pick" = some (.ref aLPick)
  aLProduct : Addr
  fLProduct : FuncData
  FLProduct : Fun K "_law_product" "_law_product" sLProduct aLProduct fLProduct
  bLProduct : Binds K fLProduct ["pouch", "names", "most"] []
  gLProduct : mg "_law_product" = some (.ref aLProduct)
  aLBent : Addr
  fLBent : FuncData
  FLBent : Fun K "_law_bent" "_law_bent" sLBent aLBent fLBent
  bLBent : Binds K fLBent ["pouch", "names", "whole", "most"] []
  gLBent : mg "_law_bent" = some (.ref aLBent)
  aLProducts : Addr
  fLProducts : FuncData
  FLProducts : Fun K "_law_products" "_law_products" sLProducts aLProducts fLProducts
  bLProducts : Binds K fLProducts ["pouch", "names", "many", "most"] []
  gLProducts : mg "_law_products" = some (.ref aLProducts)
  aLInProduct : Addr
  fLInProduct : FuncData
  FLInProduct : Fun K "_law_in_product" "_law_in_product" sLInProduct aLInProduct fLInProduct
  bLInProduct : Binds K fLInProduct ["product", "word"] []
  gLInProduct : mg "_law_in_product" = some (.ref aLInProduct)
  aLLongest : Addr
  fLLongest : FuncData
  FLLongest : Fun K "_law_longest" "_law_longest" sLLongest aLLongest fLLongest
  bLLongest : Binds K fLLongest ["product", "times"] []
  gLLongest : mg "_law_longest" = some (.ref aLLongest)
  aLAllIn : Addr
  fLAllIn : FuncData
  FLAllIn : Fun K "_law_all_in" "_law_all_in" sLAllIn aLAllIn fLAllIn
  bLAllIn : Binds K fLAllIn ["product", "products"] []
  gLAllIn : mg "_law_all_in" = some (.ref aLAllIn)
  aLText : Addr
  fLText : FuncData
  FLText : Fun K "_law_text" "_law_text" sLText aLText fLText
  bLText : Binds K fLText ["product"] []
  gLText : mg "_law_text" = some (.ref aLText)
  aLIsPlain : Addr
  fLIsPlain : FuncData
  FLIsPlain : Fun K "_law_is_plain" "_law_is_plain" sLIsPlain aLIsPlain fLIsPlain
  bLIsPlain : Binds K fLIsPlain ["found"] []
  gLIsPlain : mg "_law_is_plain" = some (.ref aLIsPlain)
  aLIsNormal : Addr
  fLIsNormal : FuncData
  FLIsNormal : Fun K "_law_is_normal" "_law_is_normal" sLIsNormal aLIsNormal fLIsNormal
  bLIsNormal : Binds K fLIsNormal ["found"] []
  gLIsNormal : mg "_law_is_normal" = some (.ref aLIsNormal)
  aLSame : Addr
  fLSame : FuncData
  FLSame : Fun K "_law_same" "_law_same" sLSame aLSame fLSame
  bLSame : Binds K fLSame ["products", "others"] []
  gLSame : mg "_law_same" = some (.ref aLSame)
  aLWord : Addr
  fLWord : FuncData
  FLWord : Fun K "_law_word" "_law_word" sLWord aLWord fLWord
  bLWord : Binds K fLWord ["pouch", "names", "products"] []
  gLWord : mg "_law_word" = some (.ref aLWord)
  aLRight : Addr
  fLRight : FuncData
  FLRight : Fun K "_law_right" "_law_right" sLRight aLRight fLRight
  bLRight : Binds K fLRight ["pouch", "names", "products", "others"] []
  gLRight : mg "_law_right" = some (.ref aLRight)
  aLaw : Addr
  fLaw : FuncData
  FLaw : Fun K "law" "law" sLaw aLaw fLaw
  bLaw : Binds K fLaw ["script"] []
  gLaw : mg "law" = some (.ref aLaw)
  n_abs : mg "abs" = none
  n_all : mg "all" = none
  n_any : mg "any" = none
  n_enumerate : mg "enumerate" = none
  n_isinstance : mg "isinstance" = none
  n_len : mg "len" = none
  n_list : mg "list" = none
  n_max : mg "max" = none
  n_min : mg "min" = none
  n_range : mg "range" = none
  n_repr : mg "repr" = none
  n_set : mg "set" = none
  n_sorted : mg "sorted" = none
  n_str : mg "str" = none
  n_tuple : mg "tuple" = none
  n_zip : mg "zip" = none
  t_MOST_ATOMS : Tok
  c_MOST_ATOMS : mg "MOST_ATOMS" = some (.int 12 t_MOST_ATOMS)
  t_MOST_LETTERS : Tok
  c_MOST_LETTERS : mg "MOST_LETTERS" = some (.int 8 t_MOST_LETTERS)
  t_MOST_NAMES_IN_TUPLE : Tok
  c_MOST_NAMES_IN_TUPLE : mg "MOST_NAMES_IN_TUPLE" = some (.int 5 t_MOST_NAMES_IN_TUPLE)
  t_MOST_PRODUCTS : Tok
  c_MOST_PRODUCTS : mg "MOST_PRODUCTS" = some (.int 12 t_MOST_PRODUCTS)
end K09


set_option Elab.async false
set_option linter.all false
set_option maxRecDepth 100000
set_option maxHeartbeats 4000000
/-! Words for readings: isinstance, dicts under a walk, comprehensions whose element changes nothing that was there. -/
namespace FA
open PySem PySem.Spec PyProof.Rows L2
theorem isi_ty {K : PySem.W.Frag} {H : Hp} {x : V} {m n : String} {b : Bool} {Q : VK} (ht : TyX K H x (.type m)) (q : Q (.bl b) H) (hk : kitB m n = some b := by decide +kernel) : rIsi K [x, .ty n] H Q :=
  ⟨x, .ty n, _, _, b, rfl, .ty n, ht, kit_ty hk, q⟩
theorem ty_str {K : PySem.W.Frag} {H : Hp} (x : Str) : TyX K H (.str x) (.type "str") := .base (.str x)
theorem ty_dict {K : PySem.W.Frag} {H : Hp} {d : Addr} {kvs : List (Key × V)} (h : Rd H d (.dK kvs)) : TyX K H (.ref d) (.type "dict") := by
  rcases h with h | ⟨o, h⟩
  · exact .base (.dK h)
  · exact .fDict h
theorem ty_lst {K : PySem.W.Frag} {H : Hp} {d : Addr} {xs : List V} (h : H d = some (.lst xs)) : TyX K H (.ref d) (.type "list") := .base (.lst h)
theorem ty_tup {K : PySem.W.Frag} {H : Hp} {d : Addr} {xs : List V} (h : H d = some (.tup xs)) : TyX K H (.ref d) (.type "tuple") := .base (.tup h)
section
variable {X : Cx}
/-- len(d), d a dict, also while it is walked -/
theorem call_lenR : CallR X (.builtin "len") (fun xs H Q => ∃ d kvs, xs = [.ref d] ∧ Rd H d (.dK kvs) ∧ Q (.int (kvs.length : Nat)) H) := by
  intro pins s σ H xs us Q I r h
  obtain ⟨d, kvs, rfl, hd, q⟩ := h
  obtain ⟨u, rfl, ru⟩ := r.one
  cases ru
  exact d_len I hd fun t s' I' => ⟨.int kvs.length, H, I', ⟨t, rfl⟩, q⟩
/-- a walk over a dict: it is locked, or it is already -/
theorem pe_lock2 {e : Expr} {t : TE} (h : PE X e t) : PE X e (fun σ H Q => tLockE t σ H Q ∨ t σ H Q) := ⟨fun pins s σ H Q I hq => by
  rcases hq with hq | hq
  · exact (pe_lock h).run pins s σ H Q I hq
  · exact h.run pins s σ H Q I hq⟩
end
theorem same_upd0 {H : Hp} {p : Addr} (h : H p = none) (o : HO) : Same H (upd H p o) := fun b u e => by rw [upd_ne (ne_of_none e h)]; exact e
/-- the reading of such a walk that changes nothing which was there; N tells the value by what stands off d -/
theorem lock2 {t : TE} {σ : L2.St} {H : Hp} {Q : VK} {d : Addr} {kvs : List (Key × V)} (hd : Rd H d (.dK kvs)) (N : V → Hp → Prop) (hN : ∀ v H2 H3, (∀ b, b ≠ d → H3 b = H2 b) → N v H2 → N v H3)
    (body : ∀ (H1 : Hp) (od : Obj) (R : VK), H1 d = some (.frz od (.dK kvs)) → (∀ b, b ≠ d → H1 b = H b) → (∀ v H2, Same H1 H2 → N v H2 → R v H2) → t σ H1 R)
    (q : ∀ v H3, Same H H3 → N v H3 → Q v H3) : tLockE t σ H Q ∨ t σ H Q := by
  rcases hd with hd | ⟨od, hd⟩
  · refine .inl ⟨d, _, hd, trivial, fun od => body _ od _ upd_same (fun b hb => upd_ne hb) fun v H2 sm n => ⟨sm _ _ upd_same, q v _ (fun b o e => ?_) (hN v H2 _ (fun b hb => upd_ne hb) n)⟩⟩
    by_cases hb : b = d
    · subst hb; rw [hd] at e; cases e; exact upd_same
    · rw [upd_ne hb]; exact sm _ _ (by rw [upd_ne hb]; exact e)
  · exact .inr (body H od Q hd (fun _ _ => rfl) fun v H2 sm n => q v H2 sm n)
/-- a list comprehension whose element changes nothing that was there: G tells the j-th item, by the tuples that stand -/
theorem lcS {J : L2.It} {n : Nat} {g : TG} {te : TE} {vs : List Nat} {σ : L2.St} {H1 : Hp} {D : Addr} {Qd : Hp → Prop} (hD : H1 D = none) (hn : n < sizeLine) (Y : Nat → V → Prop) (G : Nat → V → Hp → Prop)
    (go : ∀ i H, Same H1 H → i < n → J.go i H) (stop : ∀ H, Same H1 H → J.stop n H) (yld : ∀ i H x H', Same H1 H → i < n → J.yld i H x H' → H' = H ∧ Y i x)
    (mono : ∀ j v A B, (∀ a xs, A a = some (.tup xs) → B a = some (.tup xs)) → G j v A → G j v B)
    (step : ∀ i x H (R : VK), i < n → Y i x → Same H1 H → (∀ y H', Same H H' → G i y H' → R y H') → g x (wipe σ vs) H fun σ2 H2 => wipe σ2 vs = wipe σ vs ∧ te σ2 H2 R)
    (fin : ∀ H ys, Same H1 H → H D = some (.lst ys) → ys.length = n → (∀ j y, ys[j]? = some y → G j y H) → Qd H) :
    ∃ W : Nat → Nat → Hp → Prop, (∃ m, W 0 m (upd H1 D (.lst []))) ∧ ∀ i m H, W i m H →
      (J.stop i H ∧ Qd H) ∨ (J.go i H ∧ ∃ Nx : Hp → Prop, (∀ H', Nx H' → ∃ m', m' < m ∧ W (i + 1) m' H') ∧ ∀ x H', J.yld i H x H' → g x (wipe σ vs) H' fun σ2 H2 => wipe σ2 vs = wipe σ vs ∧ tYes σ2 H2 fun b H3 =>
        if b = true then te σ2 H3 fun y H4 => ∃ acc, H4 D = some (.lst acc) ∧ acc.length < sizeLine ∧ Nx (upd H4 D (.lst (acc ++ [y]))) else Nx H3) := by
  refine ⟨fun i m H => m = n - i ∧ i ≤ n ∧ Same H1 H ∧ ∃ ys, H D = some (.lst ys) ∧ ys.length = i ∧ ∀ j y, ys[j]? = some y → G j y H, ⟨n, by simp, Nat.zero_le _, fun b o e => ?_, [], upd_same, rfl, by simp⟩, ?_⟩
  · rw [upd_ne (ne_of_none e hD)]; exact e
  · rintro i m H ⟨rfl, hi, sm, ys, hy, hl, hG⟩
    by_cases hlt : i < n
    · refine .inr ⟨go i H sm hlt, fun H' => i + 1 ≤ n ∧ Same H1 H' ∧ ∃ ys, H' D = some (.lst ys) ∧ ys.length = i + 1 ∧ ∀ j y, ys[j]? = some y → G j y H', fun H' h => ⟨n - (i + 1), by omega, rfl, h⟩, fun x H' y => ?_⟩
      obtain ⟨rfl, hY⟩ := yld i H x H' sm hlt y
      have st := step i x H' (fun y H4 => ∃ acc, H4 D = some (.lst acc) ∧ acc.length < sizeLine ∧ (i + 1 ≤ n ∧ Same H1 (upd H4 D (.lst (acc ++ [y]))) ∧ ∃ ys, (upd H4 D (.lst (acc ++ [y]))) D = some (.lst ys) ∧ ys.length = i + 1 ∧ ∀ j y', ys[j]? = some y' → G j y' (upd H4 D (.lst (acc ++ [y]))))) hlt hY sm fun v H4 s4 g4 => ?_
      · exact st
      · have tk : ∀ o a xs, H4 a = some (.tup xs) → (upd H4 D o) a = some (.tup xs) := fun o a xs e => by
          rw [upd_ne]
          · exact e
          · rintro rfl
            rw [s4 _ _ hy] at e
            cases e
        refine ⟨ys, s4 _ _ hy, by omega, hlt, fun b o e => ?_, ys ++ [v], upd_same, by simp [hl], fun j y' hj => ?_⟩
        · rw [upd_ne (ne_of_none e hD)]; exact s4 _ _ (sm _ _ e)
        · by_cases hj2 : j < ys.length
          · rw [List.getElem?_append_left hj2] at hj
            exact mono j y' _ _ (tk _) (mono j y' _ _ (fun a xs e => s4 _ _ e) (hG j y' hj))
          · rw [List.getElem?_append_right (by omega)] at hj
            have e0 : j - ys.length = 0 := by
              rcases Nat.eq_zero_or_pos (j - ys.length) with z | z
              · exact z
              · rw [List.getElem?_eq_none (by simp; omega)] at hj; cases hj
            rw [e0] at hj
            cases hj
            have : j = i := by omega
            subst this
            exact mono _ _ _ _ (tk _) g4
    · have : i = n := by omega
      subst this
      exact .inl ⟨stop H sm, fin H ys sm hy hl hG⟩
theorem valV_out {kvs : List (Key × V)} {k : Key} (h : ∀ q ∈ kvs, q.1 ≠ k) : valV kvs k = none := by
  induction kvs with
  | nil => rfl
  | cons q r ih =>
    rw [valV_neg (h q (by simp))]
    exact ih fun q' hq => h q' (List.mem_cons_of_mem _ hq)
theorem wipe_back {σ : L2.St} {i : Nat} {x : Option V} : wipe ((wipe σ [i]).set i x) [i] = wipe σ [i] := by
  show ((σ.set i none).set i x).set i none = σ.set i none
  rw [List.set_set, List.set_set]
/-- {k: e for k in d}, e changing nothing that was there, its value told by the key -/
theorem dcS {d : Addr} {od : Obj} {kvs : List (Key × V)} {i0 : Nat} {tv : TE} {σ : L2.St} {H1 : Hp} {D : Addr} {Qd : Hp → Prop} (hD : H1 D = none) (hd : H1 d = some (.frz od (.dK kvs))) (hnd : (kvs.map (·.1)).Nodup) (hn : kvs.length < sizeLine) (hi0 : i0 < σ.length) (val : Key → V)
    (step : ∀ (i : Nat) k v H (R : VK), kvs[i]? = some (k, v) → Same H1 H → (∀ H', Same H H' → R (val k) H') → tv ((wipe σ [i0]).set i0 (some (kV k))) H R)
    (fin : ∀ H, Same H1 H → H D = some (.dK (kvs.map fun q => (q.1, val q.1))) → Qd H) :
    ∃ W : Nat → Nat → Hp → Prop, (∃ m, W 0 m (upd H1 D (.dK []))) ∧ ∀ i m H, W i m H →
      ((Itk d od kvs).stop i H ∧ Qd H) ∨ ((Itk d od kvs).go i H ∧ ∃ Nx : Hp → Prop, (∀ H', Nx H' → ∃ m', m' < m ∧ W (i + 1) m' H') ∧ ∀ x H', (Itk d od kvs).yld i H x H' → gName i0 x (wipe σ [i0]) H' fun σ2 H2 => wipe σ2 [i0] = wipe σ [i0] ∧ tYes σ2 H2 fun b H3 =>
        if b = true then tVar i0 σ2 H3 fun y H4 => tv σ2 H4 fun z H5 => ∃ kvs k, y = kV k ∧ H5 D = some (.dK kvs) ∧ kvs.length < sizeLine ∧ Nx (upd H5 D (.dK (putK kvs k z))) else Nx H3) := by
  refine ⟨fun i m H => m = kvs.length - i ∧ i ≤ kvs.length ∧ Same H1 H ∧ H D = some (.dK ((kvs.take i).map fun q => (q.1, val q.1))), ⟨kvs.length, by simp, Nat.zero_le _, same_upd0 hD _, upd_same⟩, ?_⟩
  rintro i m H ⟨rfl, hi, sm, hy⟩
  by_cases hlt : i < kvs.length
  · refine .inr ⟨⟨sm _ _ hd, hlt⟩, fun H' => Same H1 H' ∧ H' D = some (.dK ((kvs.take (i + 1)).map fun q => (q.1, val q.1))), fun H' h => ⟨kvs.length - (i + 1), by omega, rfl, hlt, h⟩, fun x H' y => ?_⟩
    obtain ⟨rfl, k, v, e, rfl⟩ := y
    refine ⟨wipe_back, ?_⟩
    unfold tYes
    dsimp only
    rw [if_pos rfl]
    refine ⟨kV k, ?_, ?_⟩
    · have : i0 < (wipe σ [i0]).length := by rw [wipe_length]; exact hi0
      rw [List.getElem?_set_self this]
    · refine step i k v H' _ e sm fun H5 s5 => ⟨_, k, rfl, s5 _ _ hy, ?_, ?_, ?_⟩
      · rw [List.length_map, List.length_take]; omega
      · intro b o hb
        rw [upd_ne (ne_of_none hb hD)]
        exact s5 _ _ (sm _ _ hb)
      · have ke : kvs[i] = (k, v) := by
          rw [List.getElem?_eq_getElem hlt] at e
          exact Option.some.inj e
        rw [upd_same, putK_new, List.take_add_one, e, List.map_append]
        · rfl
        · refine valV_out fun q hq => ?_
          obtain ⟨q0, hq0, rfl⟩ := List.mem_map.mp hq
          intro z
          obtain ⟨j, hj, ej⟩ := List.mem_take_iff_getElem.mp hq0
          have hj' : j < i := by omega
          have h1 := List.nodup_iff_pairwise_ne.mp hnd
          have h2 := List.pairwise_iff_getElem.mp h1 j i (by rw [List.length_map]; omega) (by rw [List.length_map]; exact hlt) hj'
          rw [List.getElem_map, List.getElem_map, ke] at h2
          exact h2 (by rw [← ej] at z; exact z)
  · have : i = kvs.length := by omega
    subst this
    refine .inl ⟨⟨sm _ _ hd, Nat.le_refl _⟩, fin H sm ?_⟩
    rw [List.take_length] at hy
    exact hy
/-! the walks that are met -/
section
variable {K : PySem.W.Frag} {H1 : Hp} {a : Addr} {xs : List V}
theorem go_l (h : SqL K H1 a xs) : ∀ i H, Same H1 H → i < xs.length → (Itl K a).go i H := fun i H sm hi => ⟨xs, xs[i], sm.seq h, by simp [hi]⟩
theorem stop_l (h : SqL K H1 a xs) : ∀ H, Same H1 H → (Itl K a).stop xs.length H := fun H sm => ⟨xs, sm.seq h, Nat.le_refl _⟩
theorem yld_l (h : SqL K H1 a xs) : ∀ i H x H', Same H1 H → i < xs.length → (Itl K a).yld i H x H' → H' = H ∧ xs[i]? = some x := fun i H x H' sm hi y => ⟨y.1, y.2 xs (sm.seq h)⟩
theorem go_s {z : Str} : ∀ i H, Same H1 H → i < z.cps.size → (Its z).go i H := fun i H _ hi => hi
theorem stop_s {z : Str} : ∀ H, Same H1 H → (Its z).stop z.cps.size H := fun H _ => Nat.le_refl _
theorem yld_s {z : Str} : ∀ i H x H', Same H1 H → i < z.cps.size → (Its z).yld i H x H' → H' = H ∧ ∃ c, z.cps[i]? = some c ∧ x = .str ⟨#[c]⟩ := fun i H x H' _ _ y => y
theorem go_k {d : Addr} {o : Obj} {kvs : List (Key × V)} (h : H1 d = some (.frz o (.dK kvs))) : ∀ i H, Same H1 H → i < kvs.length → (Itk d o kvs).go i H := fun i H sm hi => ⟨sm _ _ h, hi⟩
theorem stop_k {d : Addr} {o : Obj} {kvs : List (Key × V)} (h : H1 d = some (.frz o (.dK kvs))) : ∀ H, Same H1 H → (Itk d o kvs).stop kvs.length H := fun H sm => ⟨sm _ _ h, Nat.le_refl _⟩
theorem yld_k {d : Addr} {o : Obj} {kvs : List (Key × V)} : ∀ i H x H', Same H1 H → i < kvs.length → (Itk d o kvs).yld i H x H' → H' = H ∧ ∃ k v, kvs[i]? = some (k, v) ∧ x = kV k := fun i H x H' _ _ y => y
end
theorem ext_map {α : Type} {ys : List V} {l : List α} {f : α → V} (hl : ys.length = l.length) (h : ∀ (j : Nat) y, ys[j]? = some y → ∃ a, l[j]? = some a ∧ y = f a) : ys = l.map f := by
  refine List.ext_getElem? fun j => ?_
  by_cases hj : j < ys.length
  · obtain ⟨a, e1, e2⟩ := h j ys[j] (List.getElem?_eq_getElem hj)
    rw [List.getElem?_eq_getElem hj, List.getElem?_map, e1, e2]
    rfl
  · rw [List.getElem?_eq_none (by omega), List.getElem?_eq_none (by rw [List.length_map]; omega)]
theorem dpAll_map {K : PySem.W.Frag} {H : Hp} {α : Type} {f : α → PyData} : ∀ {ys : List V} {l : List α}, ys.length = l.length → (∀ (j : Nat) y, ys[j]? = some y → ∃ a, l[j]? = some a ∧ Dp K H y (f a)) → DpAll K H ys (l.map f)
  | [], [], _, _ => .nil
  | [], _ :: _, h, _ => by simp at h
  | _ :: _, [], h, _ => by simp at h
  | y :: ys, a :: l, hl, h => by
    obtain ⟨a', e1, e2⟩ := h 0 y rfl
    cases e1
    exact .cons e2 (dpAll_map (by simpa using hl) fun j y e => h (j + 1) y (by simpa using e))
theorem fn_never {P : Program} {w : World} {K : PySem.W.Frag} {mg : Str → Option Value} {base : Heap} {CX : CXT} {k : Nat} {f : Addr} {fd : FuncData} {ps : List Str} {sp : Sp} (no : ∀ vs H Q E, ¬ sp vs H Q E) : FnOk P w K mg base CX k f fd ps sp :=
  ⟨fun vs H Q E h => absurd h (no vs H Q E), fun A outer s H args us vs Q E _ _ _ _ h => absurd h (no vs H Q E)⟩
section
variable {X : Cx} {K : PySem.W.Frag}
theorem call_len_seqK (hK : X.K = K) : CallR X (.builtin "len") (fun xs H Q => ∃ p ys, xs = [.ref p] ∧ (SqL K H p ys ∨ SqT K H p ys) ∧ Q (.int ys.length) H) := by subst hK; exact call_len_seq
theorem ix_listK (hK : X.K = K) : IxR X (rIxL K) := by subst hK; exact ix_list
theorem ix_tupK (hK : X.K = K) : IxR X (rIxT K) := by subst hK; exact ix_tup
theorem call_isiK1 (hK : X.K = K) : CallR X (.builtin "isinstance") (rIsi K) := by subst hK; exact call_isi
theorem op_neDK (hK : X.K = K) (hu : X.A.units + 64 < cLine) : OpR X (compareOp .NotEq) (rNeD K) := by subst hK; exact op_neD hu
theorem op_eqDK (hK : X.K = K) (hu : X.A.units + 64 < cLine) : OpR X (compareOp .Eq) (rEqD K) := by subst hK; exact op_eqD hu
theorem sl_listK (hK : X.K = K) : SlR X (rSlL K) := by subst hK; exact sl_list
variable {o e : Expr} {es : List Expr} {to : TE} {t : TA} {name : Str} {apos cpos : Pos} {T id : String} {r : V → List V → Hp → VK → Prop}
theorem pe_bmK (hK : X.K = K) (pa : PlainAttrs T) (slot : Slot T name id) (hty : typeOf (.builtin id) = pure (.type "method_descriptor")) (hm : MtR X id r) (ho : PE X o to) (ha : PA X (e :: es) t)
    (hbase : attributeBase o name X.env (eval o X.env) = eval o X.env := by rfl)
    (hfew : ((backTo cpos (starEach (e :: es) X.env)).all (fun x => !x.1) && (backToKw cpos (keywordEach [] X.env)).all (fun x => x.1.isSome) && decide ((e :: es).length + ([] : List Keyword).length + (if ([] : List Keyword).isEmpty then 0 else 1) < 30)) = true := by rfl)
    (hline : (apos.endLine == cpos.line) = true := by rfl) (hs : starEach (e :: es) X.env = (false, eval e X.env) :: starEach es X.env := by rfl) (hplain : (backTo cpos (starEach es X.env)).any (·.1) = false := by rfl) :
    PE X (.Call (.Attribute o name apos) (e :: es) [] cpos) (tBM K T r to t) := by
  subst hK
  exact pe_bm pa slot hty hm ho ha hbase hfew hline hs hplain
end
theorem hu65_of {A : Around} {k : Nat} (hr : Room k A) : A.units + 65 < cLine := by have := hr.un; omega
theorem same_upd {H : Hp} {p : Addr} (h : H p = none) (o : HO) : Same H (upd H p o) := fun b u e => by rw [upd_ne (ne_of_none e h)]; exact e
end FA

set_option Elab.async false
set_option linter.all false
set_option maxRecDepth 100000
set_option maxHeartbeats 4000000
/-! Bodies and programs as Python's data: for ==, count and repr. -/
namespace FA
open PySem PySem.Spec PyProof.Rows L2
/-- a name: 1 to 8 small letters -/
def okName (x : Str) : Prop := 1 ≤ x.length ∧ x.length ≤ 8 ∧ ∀ c ∈ x.cps.toList, 97 ≤ c ∧ c ≤ 122
theorem okName.strOk {x : Str} (h : okName x) : PyData.strOk x = true := by
  unfold PyData.strOk
  rw [Array.all_eq_true']
  intro c hc
  have := h.2.2 c (by simpa using hc)
  exact decide_eq_true (by omega)
mutual
def dtI : It → PyData
  | .call x => .str x
  | .may b => .tuple [.str "maybe", .list (dtB b)]
  | .loop b => .tuple [.str "loop", .list (dtB b)]
  | .one bs => .tuple [.str "one", .list (dtBs bs)]
def dtB : List It → List PyData
  | [] => []
  | i :: r => dtI i :: dtB r
def dtBs : List (List It) → List PyData
  | [] => []
  | b :: r => .list (dtB b) :: dtBs r
end
section
variable {K : PySem.W.Frag} {H : Hp}
mutual
theorem ItAt.dp : ∀ {v : V} {i : It}, ItAt H v i → Dp K H v (dtI i)
  | _, _, .call x => by simp only [dtI]; exact .str x
  | _, _, .may h1 h2 h3 => by simp only [dtI]; exact .tup (SqT.of h1) (.cons (.str _) (.cons (.lst (SqL.of h2) (ItsAt.dp h3)) .nil))
  | _, _, .loop h1 h2 h3 => by simp only [dtI]; exact .tup (SqT.of h1) (.cons (.str _) (.cons (.lst (SqL.of h2) (ItsAt.dp h3)) .nil))
  | _, _, .one h1 h2 h3 => by simp only [dtI]; exact .tup (SqT.of h1) (.cons (.str _) (.cons (.lst (SqL.of h2) (BdsAt.dp h3)) .nil))
theorem ItsAt.dp : ∀ {vs : List V} {l : List It}, ItsAt H vs l → DpAll K H vs (dtB l)
  | _, _, .nil => by simp only [dtB]; exact .nil
  | _, _, .cons h t => by simp only [dtB]; exact .cons (ItAt.dp h) (ItsAt.dp t)
theorem BdsAt.dp : ∀ {vs : List V} {l : List (List It)}, BdsAt H vs l → DpAll K H vs (dtBs l)
  | _, _, .nil => by simp only [dtBs]; exact .nil
  | _, _, .cons h h2 t => by simp only [dtBs]; exact .cons (.lst (SqL.of h) (ItsAt.dp h2)) (BdsAt.dp t)
end
mutual
theorem ItAt.dd : ∀ {v : V} {i : It}, ItAt H v i → Dd K H v (dtI i)
  | _, _, .call x => by simp only [dtI]; exact .str x
  | _, _, .may h1 h2 h3 => by simp only [dtI]; exact .tup h1 (.cons (.str _) (.cons (.lst h2 (ItsAt.dd h3)) .nil))
  | _, _, .loop h1 h2 h3 => by simp only [dtI]; exact .tup h1 (.cons (.str _) (.cons (.lst h2 (ItsAt.dd h3)) .nil))
  | _, _, .one h1 h2 h3 => by simp only [dtI]; exact .tup h1 (.cons (.str _) (.cons (.lst h2 (BdsAt.dd h3)) .nil))
theorem ItsAt.dd : ∀ {vs : List V} {l : List It}, ItsAt H vs l → DdAll K H vs (dtB l)
  | _, _, .nil => by simp only [dtB]; exact .nil
  | _, _, .cons h t => by simp only [dtB]; exact .cons (ItAt.dd h) (ItsAt.dd t)
theorem BdsAt.dd : ∀ {vs : List V} {l : List (List It)}, BdsAt H vs l → DdAll K H vs (dtBs l)
  | _, _, .nil => by simp only [dtBs]; exact .nil
  | _, _, .cons h h2 t => by simp only [dtBs]; exact .cons (.lst h (ItsAt.dd h2)) (BdsAt.dd t)
end
theorem PrKv.dd : ∀ {kvs : List (Key × V)} {p : Pr}, PrKv H kvs p → DdAll K H (kvs.map (·.2)) (p.map fun q => PyData.list (dtB q.2))
  | _, _, .nil => .nil
  | _, _, .cons h t => by
    obtain ⟨vs, h1, h2⟩ := h
    exact .cons (.lst h1 (ItsAt.dd h2)) t.dd
end
/-- the program as data -/
def dtP (p : Pr) : PyData := .dict (p.map fun q => (.str q.1, .list (dtB q.2)))
theorem PrKv.dt {K : PySem.W.Frag} {H : Hp} {d : Addr} {kvs : List (Key × V)} {p : Pr} (hd : Rd H d (.dK kvs)) (h : PrKv H kvs p) : Dd K H (.ref d) (dtP p) := by
  have q := Dd.dic (K := K) hd h.dd
  have e : ((kvs.map fun p => kD p.1).zip (p.map fun q => PyData.list (dtB q.2))) = p.map fun q => (PyData.str q.1, PyData.list (dtB q.2)) := by
    have e2 : (kvs.map fun p => kD p.1) = p.map fun q => PyData.str q.1 := by
      have := congrArg (List.map kD) h.keys
      rw [List.map_map, List.map_map] at this
      exact this
    rw [e2, List.zip_map']
  rw [e] at q
  exact q
/-! ### sizes -/
mutual
theorem dtI_lay {ns : List Str} (hn : ∀ x ∈ ns, okName x) : ∀ i : It, okI ns i → (dtI i).canLay0 = true
  | .call x, h => by simp only [dtI, PyData.canLay0]; exact (hn x (by simpa [okI] using h)).strOk
  | .may b, h => by
    simp only [okI] at h
    simp only [dtI, PyData.canLay0, PyData.canLayAll0, dtB_lay hn b h.2, Bool.and_true]; decide +kernel
  | .loop b, h => by
    simp only [okI] at h
    simp only [dtI, PyData.canLay0, PyData.canLayAll0, dtB_lay hn b h.2, Bool.and_true]; decide +kernel
  | .one bs, h => by
    simp only [okI] at h
    simp only [dtI, PyData.canLay0, PyData.canLayAll0, dtBs_lay hn bs h.2.2.2, Bool.and_true]; decide +kernel
theorem dtB_lay {ns : List Str} (hn : ∀ x ∈ ns, okName x) : ∀ b : List It, okB ns b → PyData.canLayAll0 (dtB b) = true
  | [], _ => by simp only [dtB, PyData.canLayAll0]
  | i :: r, h => by
    simp only [okB] at h
    simp only [dtB, PyData.canLayAll0, dtI_lay hn i h.1, dtB_lay hn r h.2, Bool.and_true]
theorem dtBs_lay {ns : List Str} (hn : ∀ x ∈ ns, okName x) : ∀ bs : List (List It), okBs ns bs → PyData.canLayAll0 (dtBs bs) = true
  | [], _ => by simp only [dtBs, PyData.canLayAll0]
  | b :: r, h => by
    simp only [okBs] at h
    simp only [dtBs, PyData.canLayAll0, PyData.canLay0, dtB_lay hn b h.1, dtBs_lay hn r h.2, Bool.and_true]
end
mutual
theorem dtI_depth : ∀ i : It, (dtI i).depth ≤ 3 * dI i + 2
  | .call x => by simp only [dtI, PyData.depth]; omega
  | .may b => by
    have := dtB_depth b
    simp only [dtI, PyData.depth, PyData.depthAll, dI]; omega
  | .loop b => by
    have := dtB_depth b
    simp only [dtI, PyData.depth, PyData.depthAll, dI]; omega
  | .one bs => by
    have := dtBs_depth bs
    simp only [dtI, PyData.depth, PyData.depthAll, dI]; omega
theorem dtB_depth : ∀ b : List It, PyData.depthAll (dtB b) + 1 ≤ 3 * dB b
  | [] => by simp only [dtB, PyData.depthAll, dB]; omega
  | i :: r => by
    have h1 := dtI_depth i
    have h2 := dtB_depth r
    simp only [dtB, PyData.depthAll, dB]; omega
theorem dtBs_depth : ∀ bs : List (List It), PyData.depthAll (dtBs bs) ≤ 3 * dBs bs
  | [] => by simp only [dtBs, PyData.depthAll, dBs]; omega
  | b :: r => by
    have h1 := dtB_depth b
    have h2 := dtBs_depth r
    simp only [dtBs, PyData.depthAll, PyData.depth, dBs]; omega
end
mutual
theorem dtI_show : ∀ i : It, (dtI i).showable = true
  | .call x => by simp only [dtI, PyData.showable]
  | .may b => by simp only [dtI, PyData.showable, PyData.showableAll, dtB_show b, Bool.and_true]
  | .loop b => by simp only [dtI, PyData.showable, PyData.showableAll, dtB_show b, Bool.and_true]
  | .one bs => by simp only [dtI, PyData.showable, PyData.showableAll, dtBs_show bs, Bool.and_true]
theorem dtB_show : ∀ b : List It, PyData.showableAll (dtB b) = true
  | [] => by simp only [dtB, PyData.showableAll]
  | i :: r => by simp only [dtB, PyData.showableAll, dtI_show i, dtB_show r, Bool.and_true]
theorem dtBs_show : ∀ bs : List (List It), PyData.showableAll (dtBs bs) = true
  | [] => by simp only [dtBs, PyData.showableAll]
  | b :: r => by simp only [dtBs, PyData.showableAll, PyData.showable, dtB_show b, dtBs_show r, Bool.and_true]
end
theorem okName.short {x : Str} (h : okName x) : (x.cps.toList.all fun c => decide (c < 16 ^ 8)) = true := by
  rw [List.all_eq_true]
  intro c hc
  have := h.2.2 c hc
  exact decide_eq_true (by omega)
mutual
theorem dtI_short {ns : List Str} (hn : ∀ x ∈ ns, okName x) : ∀ i : It, okI ns i → (dtI i).leavesShort 13 = true
  | .call x, h => by simp only [dtI, PyData.leavesShort]; exact (hn x (by simpa [okI] using h)).short
  | .may b, h => by
    simp only [okI] at h
    simp only [dtI, PyData.leavesShort, PyData.leavesShortAll, dtB_short hn b h.2, Bool.and_true]; decide +kernel
  | .loop b, h => by
    simp only [okI] at h
    simp only [dtI, PyData.leavesShort, PyData.leavesShortAll, dtB_short hn b h.2, Bool.and_true]; decide +kernel
  | .one bs, h => by
    simp only [okI] at h
    simp only [dtI, PyData.leavesShort, PyData.leavesShortAll, dtBs_short hn bs h.2.2.2, Bool.and_true]; decide +kernel
theorem dtB_short {ns : List Str} (hn : ∀ x ∈ ns, okName x) : ∀ b : List It, okB ns b → PyData.leavesShortAll 13 (dtB b) = true
  | [], _ => by simp only [dtB, PyData.leavesShortAll]
  | i :: r, h => by
    simp only [okB] at h
    simp only [dtB, PyData.leavesShortAll, dtI_short hn i h.1, dtB_short hn r h.2, Bool.and_true]
theorem dtBs_short {ns : List Str} (hn : ∀ x ∈ ns, okName x) : ∀ bs : List (List It), okBs ns bs → PyData.leavesShortAll 13 (dtBs bs) = true
  | [], _ => by simp only [dtBs, PyData.leavesShortAll]
  | b :: r, h => by
    simp only [okBs] at h
    simp only [dtBs, PyData.leavesShortAll, PyData.leavesShort, dtB_short hn b h.1, dtBs_short hn r h.2, Bool.and_true]
end
mutual
theorem dtI_bulk {ns : List Str} (hn : ∀ x ∈ ns, okName x) : ∀ i : It, okI ns i → (dtI i).bulk ≤ 12 + 32 * nI i
  | .call x, h => by
    have h2 : x.cps.size ≤ 8 := (hn x (by simpa [okI] using h)).2.1
    simp only [dtI, PyData.bulk]; omega
  | .may b, h => by
    simp only [okI] at h
    have h1 := dtB_bulk hn b h.2
    have h2 : ("maybe" : Str).cps.size = 5 := by decide +kernel
    simp only [dtI, PyData.bulk, PyData.bulkAll, nI, h2]; omega
  | .loop b, h => by
    simp only [okI] at h
    have h1 := dtB_bulk hn b h.2
    have h2 : ("loop" : Str).cps.size = 4 := by decide +kernel
    simp only [dtI, PyData.bulk, PyData.bulkAll, nI, h2]; omega
  | .one bs, h => by
    simp only [okI] at h
    have h1 := dtBs_bulk hn bs h.2.2.2
    have h2 : ("one" : Str).cps.size = 3 := by decide +kernel
    have h3 := h.2.1
    simp only [dtI, PyData.bulk, PyData.bulkAll, nI, h2]; omega
theorem dtB_bulk {ns : List Str} (hn : ∀ x ∈ ns, okName x) : ∀ b : List It, okB ns b → PyData.bulkAll (dtB b) ≤ 32 * nIB b
  | [], _ => by simp only [dtB, PyData.bulkAll, nIB]; omega
  | i :: r, h => by
    simp only [okB] at h
    have h1 := dtI_bulk hn i h.1
    have h2 := dtB_bulk hn r h.2
    simp only [dtB, PyData.bulkAll, nIB]; omega
theorem dtBs_bulk {ns : List Str} (hn : ∀ x ∈ ns, okName x) : ∀ bs : List (List It), okBs ns bs → PyData.bulkAll (dtBs bs) ≤ 32 * nIBs bs + bs.length
  | [], _ => by simp only [dtBs, PyData.bulkAll, nIBs]; omega
  | b :: r, h => by
    simp only [okBs] at h
    have h1 := dtB_bulk hn b h.1
    have h2 := dtBs_bulk hn r h.2
    simp only [dtBs, PyData.bulkAll, PyData.bulk, nIBs, List.length_cons]; omega
end
theorem dt_shaped {ds : List PyData} (h : PyData.canLayAll0 ds = true) (h2 : PyData.depthAll ds ≤ 60) : SeqAt.shaped (.list ds) = true := by
  show (PyData.canLay0 (.list ds) && decide (PyData.depth (.list ds) ≤ 64)) = true
  rw [Bool.and_eq_true]
  exact ⟨by simp only [PyData.canLay0]; exact h, decide_eq_true (by simp only [PyData.depth]; omega)⟩
/-- how many of the bodies are empty -/
theorem count_empty : ∀ bs : List (List It), (dtBs bs).countP (fun z => PyData.eqv z (.list [])) = bs.countP (fun b => b.isEmpty)
  | [] => rfl
  | b :: r => by
    have e : PyData.eqv (.list (dtB b)) (.list []) = b.isEmpty := by
      cases b with
      | nil => simp [dtB, PyData.eqv, PyData.eqvAll]
      | cons i r => simp [dtB, PyData.eqv, PyData.eqvAll]
    simp only [dtBs, List.countP_cons, e, count_empty r]
end FA

set_option Elab.async false
set_option linter.all false
set_option maxRecDepth 100000
set_option maxHeartbeats 4000000
namespace K09
open PySem PySem.Spec PyProof.Rows L2 FA
variable {P : Program} {w : World} {K : PySem.W.Frag} {mg : Str → Option Value} {base : Heap}

theorem not_lt1 {a b : Nat} (h : b ≤ a) : ¬ [a] < [b] := fun z => by
  cases z with
  | rel z => omega
  | cons z => cases z
def spIsName : Sp := fun vs H Q _ => ∃ x : Str, vs = [.str x] ∧ okName x ∧ ∀ H', Same H H' → Q (.bl true) H'
theorem okIsName (T : Txt K mg) : FnOk P w K mg base CX0 1 T.aIsName T.fIsName ["value"] spIsName := by
  refine T.FIsName.ok scIsName (fun vs H Q E h => ?_) (fun cdv A outer s H vs Q E hr h => ?_)
  · obtain ⟨x, rfl, _⟩ := h
    rfl
  obtain ⟨x, rfl, ⟨h1, h2, h3⟩, q⟩ := h
  have hu := hu_of hr
  have hs := sizeLine_eq
  refine ⟨_, (pss_cons (ps_if (PW.pt (pw_or (pt_not (pt_val (pe_callB call_isi (by rfl) T.n_isinstance (by decide +kernel) (pa_cons (pv 0) (pa_cons (pe_bltn (v := .ty "str") (by rfl) T.n_str (by decide +kernel) rfl) pa_nil))))) (pw_or1 (pt_not (pt_chain op_le op_le pe_int (pe_callB call_len_str (by rfl) T.n_len PySem.boot_len (pa_cons (pv 0) pa_nil)) (pe_glob (v := .int 8) rfl T.c_MOST_LETTERS ⟨_, rfl⟩))))))
        (pss_one (ps_ret pe_bl)) pss_nil)
      (pss_one (ps_ret (pe_callB (cr_all rfl) (by rfl) T.n_all (by decide +kernel) (pa_cons (pe_lc (own := [("letter", 1)]) (g := gName 1) (tt := tYes) rfl scIsName.nd (pi_str (pv 0)) (blkOk_by (N := ["value", "letter"]) (sc := defScope sIsName) (by decide +kernel)) (fun _ _ _ _ _ => (pg_name (i := 1) scIsName.nd rfl (by first | exact Or.inl rfl | exact Or.inr rfl))) (fun _ _ _ _ _ => pts_nil) (fun _ _ _ _ _ => (pe_chain op_le_str op_le_str pe_str (pv 1) pe_str))) pa_nil))))), ?_⟩
  refine ⟨_, rfl, _, _, _, _, true, rfl, .ty _, ty_str x, kit_ty (by decide +kernel), _, rfl, iteF ?_⟩
  refine ⟨_, rfl, _, rfl, by omega, _, _, rfl, rfl, _, rfl, ?_⟩
  refine ite2 (fun c => ?_) (fun c => absurd (decide_eq_true (by omega)) c)
  refine ⟨_, _, rfl, rfl, _, rfl, ?_⟩
  refine ite2 (fun c => absurd (c.symm.trans (congrArg not (decide_eq_true (by omega)))) (by decide)) (fun c => ?_)
  refine ⟨_, rfl, _, rfl, fun D hD => lcS (n := x.cps.size) hD (by show x.cps.size < _; have : x.cps.size = x.length := rfl; omega) (fun i v => ∃ c, x.cps[i]? = some c ∧ v = .str ⟨#[c]⟩) (fun _ v _ => v = .bl true) go_s stop_s yld_s (fun _ _ _ _ _ e => e) ?_ ?_⟩
  · rintro i _ H1 R hi ⟨c, hc, rfl⟩ sm k
    have hc' := h3 c (by
      rw [← Array.getElem?_toList] at hc
      exact List.mem_of_getElem? hc)
    refine ⟨rfl, _, rfl, _, _, rfl, rfl, _, rfl, ?_⟩
    have e1 : (!decide ([c] < ("a" : Str).cps.toList)) = true := by
      have : ("a" : Str).cps.toList = [97] := by decide +kernel
      rw [this, decide_eq_false (not_lt1 hc'.1)]
      rfl
    have e2 : (!decide (("z" : Str).cps.toList < [c])) = true := by
      have : ("z" : Str).cps.toList = [122] := by decide +kernel
      rw [this, decide_eq_false (not_lt1 hc'.2)]
      rfl
    refine ite2 (fun _ => ⟨_, _, rfl, rfl, ?_⟩) (fun n => absurd e1 n)
    rw [e2]
    exact k _ _ (Same.refl _) rfl
  · intro H1 ys sm hy hl hg
    have ey : ys = (List.replicate x.cps.size true).map V.bl := by
      refine List.ext_getElem? fun j => ?_
      rw [List.map_replicate, List.getElem?_replicate]
      by_cases hj : j < ys.length
      · have := hg j ys[j] (List.getElem?_eq_getElem hj)
        rw [List.getElem?_eq_getElem hj, this, if_pos (by omega)]
      · rw [List.getElem?_eq_none (by omega), if_neg (by omega)]
    refine ⟨D, _, rfl, SqL.of (by rw [hy, ey]), ?_⟩
    have e : ((List.replicate x.cps.size true).all id) = true := by simp
    rw [e]
    exact q H1 sm
end K09


set_option Elab.async false
set_option linter.all false
set_option maxRecDepth 100000
set_option maxHeartbeats 4000000
/-! Sets of texts whose order is asked: set(list of texts), sorted of it. -/
namespace FA
open PySem PySem.Spec PyProof.Rows L2 PySem.Froz
variable {P : Program} {w : World} {A : Around} {E : Value → Shared → Prop} {s : Shared} {a : Addr}
/-- a set of the texts l at a, its places known -/
def TSet (P : Program) (w : World) (h : Heap) (a : Addr) (l : List Str) : Prop :=
  ∃ D : SD, h.get? a = some (sObj "set" D) ∧ TxOk P w D l ∧ l.Nodup ∧ Ris D.2.2.place.toList ∧ (w.params.followText "set-order" = true ∨ D.2.2.led = true)
theorem TSet.keep {h h' : Heap} {l : List Str} (R : TSet P w h a l) (k : ∀ o, h.get? a = some o → h'.get? a = some o) : TSet P w h' a l := by
  obtain ⟨D, ho, r⟩ := R
  exact ⟨D, k _ ho, r⟩
theorem tail_more {ep : Nat} {es : Array (Int × Value)} {t : SetTable} {b : Bool} (r : Ris t.place.toList) : Ris (tailTx ep es t b).2.2.place.toList ∧ (tailTx ep es t b).2.2.led = t.led := by
  unfold tailTx
  split
  · exact ⟨relayAll_ris t es _, relayAll_led t es _⟩
  · exact ⟨r, rfl⟩
theorem add_more {D : SD} {h : Int} {v : Value} (r : Ris D.2.2.place.toList) : Ris (addTx h v D).2.2.place.toList ∧ (addTx h v D).2.2.led = D.2.2.led := by
  unfold addTx
  have r1 := layNew_ris D.2.2 D.1 h v r
  have l1 := layNew_led D.2.2 D.1 h v
  split
  · obtain ⟨x, y⟩ := tail_more (ep := D.2.1) (es := (layNew D.2.2 D.1 h v).1) (t := { (layNew D.2.2 D.1 h v).2.1 with plain := false }) (b := (layNew D.2.2 D.1 h v).2.2.1) r1
    exact ⟨x, y.trans l1⟩
  · obtain ⟨x, y⟩ := tail_more (ep := D.2.1) (es := (layNew D.2.2 D.1 h v).1) (t := (layNew D.2.2 D.1 h v).2.1) (b := (layNew D.2.2 D.1 h v).2.2.1) r1
    exact ⟨x, y.trans l1⟩
theorem add_old {T : String} {D : SD} {l : List Str} {k : Str} {u : Tok} {Q : Bool → Shared → Prop} (ho : s.heap.get? a = some (sObj T D)) (F : TxOk P w D l) (hk : k ∈ l) (hb : l.length + 1 < scanBound) (h : Q false s) :
    wpAny (model P w) A (setAddHashed a (.str k u) (hashStr w k)) Q E s := by
  obtain ⟨es, ep, t⟩ := D
  have hsz : es.size = l.length := F.sz
  have hkey : (strKind P w).is k (.str k u) = true := is_str k u
  obtain ⟨j, hj⟩ : ∃ j, List.findIdx? (fun e => (strKind P w).is k e.2) es.toList = some j := by
    cases hr : List.findIdx? (fun e => (strKind P w).is k e.2) es.toList with
    | some j => exact ⟨j, rfl⟩
    | none =>
      obtain ⟨e, he, z⟩ := (F.mem k).mp hk
      have := List.findIdx?_eq_none_iff.mp hr e he
      rw [z] at this
      cases this
  unfold setAddHashed setAddHashedIn
  refine wpAny_holding (wpAny_bind (wpAny_setState_of ho rfl F.fit ?_))
  dsimp only
  rw [byScan_of rfl (show es.size < scanBound by omega) F.el]
  simp only [↓reduceIte]
  unfold setAddByScan
  refine wpAny_bind (wpAny_bind (wpAny_rule ?_))
  refine wpAny_bind (wpAny_setScan_of (knd := strKind P w) (k := k) hkey ho rfl F.fit F.el ?_)
  rw [hj]
  exact wpAny_pure (wpAny_pure h)
theorem ts_add {l : List Str} {k : Str} {u : Tok} {Q : Bool → Shared → Prop} (R : TSet P w s.heap a l) (hb : l.length + 1 < scanBound)
    (hQ : ∀ h', Heap.SameBut a s.heap h' → TSet P w h' a (if k ∈ l then l else k :: l) → Q (!decide (k ∈ l)) { s with heap := h' }) : wpAny (model P w) A (setAddHashed a (.str k u) (hashStr w k)) Q E s := by
  obtain ⟨D, ho, F, nd, r, hl⟩ := R
  by_cases hk : k ∈ l
  · refine add_old ho F hk hb ?_
    have q := hQ s.heap ⟨rfl, fun _ _ => rfl⟩ (by rw [if_pos hk]; exact ⟨D, ho, F, nd, r, hl⟩)
    rw [decide_eq_true hk] at q
    exact q
  · refine add_x ho F hk hb ?_
    obtain ⟨r1, l1⟩ := add_more (h := hashStr w k) (v := .str k u) r
    have q := hQ (s.heap.update a fun _ => sObj "set" (addTx (hashStr w k) (.str k u) D)) (Heap.SameBut.update _ _ _) (by
      rw [if_neg hk]
      exact ⟨_, get_upd _ ho rfl, add_ok u F, List.nodup_cons.mpr ⟨hk, nd⟩, r1, hl.imp id fun z => by rw [l1]; exact z⟩)
    rw [decide_eq_false hk] at q
    exact q
theorem ts_new {h : Heap} (ho : h.get? a = some { cls := .type "set", dict := none, data := .set #[] 0 (.fresh 0 0 (!w.params.followText "set-order")) }) : TSet P w h a [] :=
  ⟨(#[], 0, .fresh 0 0 (!w.params.followText "set-order")), ho, TxOk.nil (by rfl), List.nodup_nil, List.Pairwise.nil, by
    show _ ∨ (!w.params.followText "set-order") = true
    cases w.params.followText "set-order"
    · exact .inr rfl
    · exact .inl rfl⟩
/-- the texts of ns that were met, each once -/
def met : List Str → List Str → List Str
  | acc, [] => acc
  | acc, k :: r => met (if k ∈ acc then acc else k :: acc) r
theorem met_snoc : ∀ (ns acc : List Str) (k : Str), met acc (ns ++ [k]) = if k ∈ met acc ns then met acc ns else k :: met acc ns
  | [], acc, k => rfl
  | x :: r, acc, k => met_snoc r _ k
theorem met_len : ∀ (ns acc : List Str), (met acc ns).length ≤ acc.length + ns.length
  | [], acc => Nat.le_refl _
  | x :: r, acc => by
    rw [met]
    by_cases hx : x ∈ acc
    · rw [if_pos hx]
      have := met_len r acc
      simp only [List.length_cons]; omega
    · rw [if_neg hx]
      have := met_len r (x :: acc)
      simp only [List.length_cons] at this ⊢; omega
theorem met_mem : ∀ (ns acc : List Str) (x : Str), x ∈ met acc ns ↔ x ∈ acc ∨ x ∈ ns
  | [], acc, x => by simp [met]
  | y :: r, acc, x => by
    rw [met, met_mem r]
    by_cases hy : y ∈ acc
    · rw [if_pos hy, List.mem_cons]
      constructor
      · rintro (h | h)
        · exact .inl h
        · exact .inr (.inr h)
      · rintro (h | rfl | h)
        · exact .inl h
        · exact .inl hy
        · exact .inr h
    · rw [if_neg hy, List.mem_cons, List.mem_cons]
      constructor
      · rintro ((h | h) | h)
        · exact .inr (.inl h)
        · exact .inl h
        · exact .inr (.inr h)
      · rintro (h | h | h)
        · exact .inl (.inr h)
        · exact .inl (.inl h)
        · exact .inr h
theorem set_update_texts {I : Addr} {fp wr : List Addr} {G : Array GenState → Array GenState → Prop} {n : Nat} {Pv : Nat → Value → Prop} {St : Nat → Shared → Prop} {R : Result → Shared → Prop} (W : WalksS P w A.in1 I fp wr G n Pv St)
    (S : Addr) (hSf : S ∉ fp) (ns : List Str) (hn : n = ns.length) (hb : ∀ i, (met [] (ns.take i)).length + 1 < scanBound) (hval : ∀ i v, Pv i v → ∃ k t, ns[i]? = some k ∧ v = .str k t) : ∀ (k i : Nat) (s : Shared), n - i = k → i ≤ n → St i s → TSet P w s.heap S (met [] (ns.take i)) →
      (∀ s', Moved (S :: wr) G s s' → TSet P w s'.heap S (met [] ns) → R (.ok (.ret .none)) s') → codeAny (model P w) A (.builtin "set.update.loop" ⟨[.ref S, .ref I], []⟩) R s := by
  have out : S ∉ wr := fun h => hSf (W.sub _ h)
  have more : ∀ b ∈ wr, b ∈ S :: wr := fun b hb => List.mem_cons_of_mem _ hb
  intro k
  induction k with
  | zero =>
    intro i s hk' hi hst hS hR
    have hin : i = n := by omega
    subst hin
    refine codeAny_builtin F.entry_set_update_loop ?_
    rw [Around.under_plainId F.plain_set_update_loop _]
    show wpAny _ A.in1 (pyNext (.ref I) >>= _) _ _ s
    refine wpAny_bind (W.done s _ _ hst fun s' hm => ?_)
    show wpAny _ A.in1 (ret Value.none) _ _ s'
    rw [List.take_of_length_le (by omega)] at hS
    exact wpAny_pure (hR s' (hm.mono more) (hS.keep fun o e => hm.heap S o out e))
  | succ k ih =>
    intro i s hk' hi hst hS hR
    have hlt : i < n := by omega
    refine codeAny_builtin F.entry_set_update_loop ?_
    rw [Around.under_plainId F.plain_set_update_loop _]
    show wpAny _ A.in1 (pyNext (.ref I) >>= _) _ _ s
    refine wpAny_bind (W.item i s _ _ hlt hst fun v s' hP hst' hm => ?_)
    obtain ⟨z, t, hz, rfl⟩ := hval i v hP
    have hS' : TSet P w s'.heap S (met [] (ns.take i)) := hS.keep fun o e => hm.heap S o out e
    have hl := met_len (ns.take i) []
    have hl2 : (ns.take i).length ≤ ns.length := by rw [List.length_take]; omega
    show wpAny _ A.in1 (holding [Value.str z t] (setAdd S (.str z t)) >>= _) _ _ s'
    refine wpAny_bind (wpAny_holding ?_)
    unfold setAdd
    refine wpAny_holding (wpAny_bind ((strKind P w).pyHash (k := z) (is_str z t) ?_))
    refine ts_add (s := { s' with toks := s'.toks + 1 }) hS' (hb i) fun h' hsb hS2 => ?_
    have hS3 : TSet P w h' S (met [] (ns.take (i + 1))) := by
      rw [List.take_add_one, hz]
      show TSet P w h' S (met [] (ns.take i ++ [z]))
      rw [met_snoc]
      exact hS2
    refine wpAny_pure ⟨plainId_quiet F.plain_set_update_loop _, ih (i + 1) _ (by omega) hlt (W.frame _ s' _ _ hst' (Nat.le_succ _) fun b hb o e => ?_) hS3 fun s'' hm'' hS'' => ?_⟩
    · rw [hsb.2 b (fun h : b = S => hSf (by rw [← h]; exact hb))]
      exact e
    · refine hR s'' (Moved.trans W.gtrans ((hm.mono more).then_heap (Nat.le_succ _) fun b o hb e => ?_) hm'') hS''
      rw [hsb.2 b (fun h : b = S => hb (by rw [h]; exact List.mem_cons_self))]
      exact e
/-- the set as it is laid: empty -/
abbrev emptyTx (w : World) : Obj := { cls := .type "set", dict := none, data := .set #[] 0 (.fresh 0 0 (!w.params.followText "set-order")) }
set_option maxRecDepth 100000 in
set_option maxHeartbeats 3200000 in
theorem call_set_texts {l : Addr} {items : Array Value} (ns : List Str) {Q : Value → Shared → Prop} (hh : A.handled = none) (hl : s.heap.IsList l items) (hit : StrsAre items.toList ns) (hb : ∀ i, (met [] (ns.take i)).length + 1 < scanBound)
    (h : ∀ (h' : Heap) (tk : Nat), TSet P w h' s.heap.objs.size (met [] ns) → (∀ b o, s.heap.get? b = some o → h'.get? b = some o) → Q (.ref s.heap.objs.size) { s with heap := h', toks := tk }) : wpAny (model P w) A (call (.type "set") [.ref l]) Q E s := by
  have hisz : items.size = ns.length := by
    have q := StrsAre.length hit
    rw [Array.length_toList] at q
    exact q
  obtain ⟨c, tl, hmro⟩ := F.called_set.mro
  have hmade := F.called_set.made
  have hsub := F.called_set.sub
  refine wpAny_call (codeAny_of_tree ?_)
  show wpAny _ _ (callAny (.type "set") _) _ _ _
  refine wpAny_pure ⟨Code.quiet_builtin _ (by decide +kernel), codeAny_builtin F.entry_type_call ?_⟩
  rw [Around.under_plain (weight_type_call_type "set" [.ref l] []) rfl]
  have h1 := F.called_set.notType
  have h2 := F.called_set.canCreate
  have hct := F.typeCall_set_1 (.ref l)
  repeat (any_goals (first | assumption | wp_step))
  refine codeAny_mono (code_set_led1 (.ref l) (E := E) (Q₁ := fun obj s₁ => obj = .ref s.heap.objs.size ∧ s₁ = { s with heap := s.heap.push (emptyTx w) }) ⟨rfl, rfl⟩) fun r s₁ hr => ?_
  cases r with
  | error e => exact hr
  | ok fl =>
    cases fl with
    | ret obj =>
      obtain ⟨rfl, rfl⟩ := hr
      have hS : (s.heap.push (emptyTx w)).get? s.heap.objs.size = some (emptyTx w) := Heap.get?_push_size _ rfl
      have hT : Shared.TypeIs { s with heap := s.heap.push (emptyTx w) } (.ref s.heap.objs.size) "set" := ⟨_, hS, rfl⟩
      have hli := F.called_set.init.lookup
      have hbi := F.called_set.init.bind (.ref s.heap.objs.size)
      repeat (any_goals (first | assumption | wp_step))
      refine codeAny_mono (codeAny_call_builtin (R := wants (fun r s₂ => r = .none ∧ ∃ h' tk, s₂ = { s with heap := h', toks := tk } ∧ TSet P w h' s.heap.objs.size (met [] ns) ∧ (∀ b o, s.heap.get? b = some o → h'.get? b = some o)) E)
        F.called_set.init.plain F.entry_set_init (check_set_init_1 hT ?_)) fun r₂ s₂ hr₂ => ?_
      · obtain ⟨ol, hol, hcl, nl, hdl⟩ := hl
        obtain ⟨ocls, odict, odata, oslots⟩ := ol
        simp only at hcl hdl
        subst hcl; subst hdl
        have hol' : (s.heap.push (emptyTx w)).get? l = some { cls := .type "list", dict := odict, data := .seq items nl, slots := oslots } := Heap.get?_push_of_some _ hol
        have hsls := F.sub_list_set
        have hslf := F.sub_list_frozenset
        have hne : (Value.type "list" == Value.type "dict") = false := by decide
        have hl1 : (s.heap.push (emptyTx w)).IsList l items := ⟨_, hol', rfl, nl, rfl⟩
        unfold Builtin.«set.__init__» noKeywords Builtin.Frozenset.updateFrom
        generalize hPI : pyIter = PI
        wp_walk
        subst hPI
        refine wpAny_pyIter_list hl1 ?_
        refine wpAny_bind (wpAny_runValue ?_)
        have hlS : l < s.heap.objs.size := Heap.lt_size hol
        have hh3 : A.in1.in1.in1.handled = none := by simp [hh]
        have hneI : l ≠ (s.heap.push (emptyTx w)).objs.size := by
          rw [Heap.size_push]
          exact Nat.ne_of_lt (Nat.lt_succ_of_lt hlS)
        have hSf : s.heap.objs.size ∉ [(s.heap.push (emptyTx w)).objs.size, l] := by
          rw [Heap.size_push]
          simp only [List.mem_cons, List.mem_singleton, List.not_mem_nil, or_false, not_or]
          exact ⟨Nat.ne_of_lt (Nat.lt_succ_self _), Nat.ne_of_gt hlS⟩
        have hval : ∀ (i : Nat) (v : Value), items[i]? = some v → ∃ k t, ns[i]? = some k ∧ v = .str k t := fun i v hv => by
          obtain ⟨y, t, e1, e2⟩ := StrsAre.item hit i v (by rw [Array.getElem?_toList]; exact hv)
          exact ⟨y, t, e2, e1⟩
        refine set_update_texts ((Walks.list hh3 _ l hneI items).toS) s.heap.objs.size hSf ns hisz hb hval (items.size - 0) 0 _ (by omega) (Nat.zero_le _) ⟨⟨_, Heap.get?_push_size _ rfl, rfl, rfl⟩, (hl1.push _)⟩ ?hS0 ?hR
        case hS0 =>
          exact ts_new (Heap.get?_push_of_some _ hS)
        case hR =>
          intro s' hm hS'
          obtain ⟨h', g2, d', tk', os'⟩ := s'
          have eg : g2 = s.gens := hm.gens
          have ed : d' = s.drawn := hm.drawn
          have eo : os' = s.os := hm.os
          subst eg; subst ed; subst eo
          show wpAny _ _ _ _ _ _
          refine wpAny_pure ?_
          show wpAny _ _ (ret Value.none) _ _ _
          refine wpAny_pure ⟨rfl, h', tk', rfl, hS', fun b o e => ?_⟩
          have hb0 : b < s.heap.objs.size := Heap.lt_size e
          refine hm.heap b o ?_ (Heap.get?_push_of_some _ (Heap.get?_push_of_some _ e))
          simp only [List.mem_cons, List.mem_singleton, List.not_mem_nil, or_false, not_or]
          refine ⟨Nat.ne_of_lt hb0, ?_⟩
          rw [Heap.size_push]
          exact Nat.ne_of_lt (Nat.lt_succ_of_lt hb0)
      · cases r₂ with
        | error e => exact hr₂
        | ok fl₂ =>
          cases fl₂ with
          | ret r =>
            obtain ⟨rfl, h', tk, rfl, hS', hk'⟩ := hr₂
            repeat (any_goals (first | assumption | wp_step))
            exact h _ _ hS' hk'
          | _ => exact hr₂.elim
    | _ => exact hr.elim
theorem small_scan {n : Nat} (h : n ≤ 1000) : n + 1 < scanBound := by
  have : (1002 : Nat) < scanBound := by decide
  omega
/-! ### the rules -/
def TxO (P : Program) (w : World) (a : Addr) (l : List Str) : HO := .ext fun h => TSet P w h a l
theorem txO_new {H : Hp} {h : Heap} {l : List Str} (R : TSet P w h a l) : ObjOk P w H h a (TxO P w a l) := by
  have ⟨D, ho, _⟩ := R
  exact ⟨R, ⟨_, ho⟩, fun h1 h2 p k => TSet.keep p k⟩
section
variable {X : Cx}
/-- set(xs), xs a list of texts -/
def rSetTx (K : PySem.W.Frag) (P : Program) (w : World) : List V → Hp → VK → Prop := fun xs H Q => ∃ (p : Addr) (ns : List Str), xs = [V.ref p] ∧ SqL K H p (ns.map V.str) ∧ ns.length ≤ 1000 ∧ ∀ q, H q = none → Q (.ref q) (upd H q (TxO P w q (met [] ns)))
theorem cr_setTx (hc : X.calm = true) : CallR X (.type "set") (rSetTx X.K X.prog X.w) := by
  intro pins s σ H xs us Q I r h
  obtain ⟨p, ns, rfl, hs, hn, q⟩ := h
  rw [Vals.ref1 r]
  obtain ⟨its, rv, ⟨o, n, ho, h1, h2, h3⟩, hz⟩ := I.list hs
  have sa : StrsAre its ns := strs_of_vals rv
  refine call_set_texts ns (I.ok.hd hc) (items := its.toArray) ⟨o, ho, h1, n, h3⟩ (by simpa using sa) (fun i => by
    have h1 := met_len (ns.take i) []
    have h2 := small_scan hn
    rw [List.length_take, List.length_nil] at h1
    omega) fun h' tk hT hk => ?_
  exact ⟨.ref _, upd H s.heap.objs.size (TxO X.prog X.w s.heap.objs.size (met [] ns)), I.laid (t' := tk) hk (Nat.le_refl _) (txO_new hT), rfl, q _ (I.hok.fresh (Nat.le_refl _))⟩
theorem perm_of_sub {α : Type} : ∀ {l m : List α}, l.Nodup → (∀ x ∈ l, x ∈ m) → m.length = l.length → m.Perm l
  | [], m, _, _, h => by rw [List.eq_nil_of_length_eq_zero h]
  | x :: r, m, nd, sub, h => by
    obtain ⟨a, b, e⟩ := List.append_of_mem (sub x (by simp))
    have nd' := List.nodup_cons.mp nd
    subst e
    refine List.perm_middle.trans (List.Perm.cons x (perm_of_sub nd'.2 (fun y hy => ?_) ?_))
    · have := sub y (List.mem_cons_of_mem _ hy)
      rw [List.mem_append, List.mem_cons] at this
      rw [List.mem_append]
      rcases this with z | z | z
      · exact .inl z
      · subst z; exact absurd hy nd'.1
      · exact .inr z
    · simp only [List.length_append, List.length_cons] at h ⊢
      omega
/-- the texts that a set gives, in its own order -/
theorem texts_of {D : SD} {l : List Str} (F : TxOk P w D l) (nd : l.Nodup) {vs : List Value} (pm : vs.Perm (D.1.toList.map (·.2))) : ∃ ks, StrsAre vs ks ∧ ks.Perm l := by
  have each : ∀ v ∈ vs, ∃ (x : Str) (t : Tok), v = .str x t := fun v hv => by
    obtain ⟨e, he, q⟩ := List.mem_map.mp (pm.mem_iff.mp hv)
    obtain ⟨⟨k, hk, _⟩, _⟩ := F.el e he
    obtain ⟨t, ev⟩ := Value.isStrOf_shape (x := k) (v := e.2) hk
    exact ⟨k, t, by rw [← q]; exact ev⟩
  have ex : ∀ vs : List Value, (∀ v ∈ vs, ∃ (x : Str) (t : Tok), v = .str x t) → ∃ ks : List Str, StrsAre vs ks ∧ ks.length = vs.length ∧ ∀ x, x ∈ ks ↔ ∃ t, Value.str x t ∈ vs := by
    intro vs
    induction vs with
    | nil => exact fun _ => ⟨[], .nil, rfl, fun x => by simp⟩
    | cons v r ih =>
      intro hv
      obtain ⟨x, t, e⟩ := hv v (by simp)
      obtain ⟨ks, h1, h2, h3⟩ := ih fun u hu => hv u (List.mem_cons_of_mem _ hu)
      subst e
      refine ⟨x :: ks, .cons _ _ h1, by simp [h2], fun y => ?_⟩
      rw [List.mem_cons, h3]
      constructor
      · rintro (rfl | ⟨u, hu⟩)
        · exact ⟨t, by simp⟩
        · exact ⟨u, List.mem_cons_of_mem _ hu⟩
      · rintro ⟨u, hu⟩
        rcases List.mem_cons.mp hu with z | z
        · cases z; exact .inl rfl
        · exact .inr ⟨u, z⟩
  obtain ⟨ks, h1, h2, h3⟩ := ex vs each
  refine ⟨ks, h1, perm_of_sub nd (fun x hx => ?_) ?_⟩
  · obtain ⟨e, he, z⟩ := (F.mem x).mp hx
    obtain ⟨t, ev⟩ := Value.isStrOf_shape (x := x) (v := e.2) z
    exact (h3 x).mpr ⟨t, pm.mem_iff.mpr (by rw [← ev]; exact List.mem_map.mpr ⟨e, he, rfl⟩)⟩
  · rw [h2, pm.length_eq, List.length_map, Array.length_toList, F.sz]
/-- sorted(s), s a set of fewer than 64 texts -/
def rSortedTx (P : Program) (w : World) : List V → Hp → VK → Prop := fun vs H Q => ∃ (a : Addr) (l : List Str), vs = [V.ref a] ∧ H a = some (TxO P w a l) ∧ l.length < 64 ∧ ∀ ys p, ys.Perm l → sortedS ys = true → H p = none → Q (.ref p) (upd H p (.lst (ys.map V.str)))
theorem cr_sortedTx (hc : X.calm = true) : CallR X (.builtin "sorted") (rSortedTx X.prog X.w) := by
  intro pins s σ H vs us Q I r h
  obtain ⟨a, l, rfl, ha, h64, q⟩ := h
  obtain ⟨D, ho, F, nd, rs, hl⟩ : TSet X.prog X.w s.heap a l := (I.hok a _ ha).1
  rw [Vals.ref1 r]
  refine Calls.call_function_entry PyProof.Rows.kind_sorted PyProof.Rows.plain_sorted PyProof.Rows.entry_sorted (PyProof.Rows.args_sorted1 _) ?_
  unfold Builtin.«sorted»
  refine wpAny_bind (m := checkCount "sorted" 1 1 _) (wpAny_pure ?_)
  have hsz : D.1.size = l.length := F.sz
  refine wpAny_bind (collect_set (A := X.A.in1) (es := D.1) (ep := D.2.1) (t := D.2.2) (I.ok.hd hc) ⟨_, ho, rfl, rfl⟩ F.fit (by have := small_scan (n := D.1.size) (by omega); omega) rs hl fun s1 vs k1 hz g1 o1 pm => ?_)
  obtain ⟨ks, hS, pk⟩ := texts_of F nd pm
  have hvl : vs.length = l.length := by rw [pm.length_eq, List.length_map, Array.length_toList, hsz]
  refine wpAny_bind (wpAny_newList ?_ (by rw [hvl, sizeLine_eq]; omega))
  have hoL : (s1.heap.push (seqObj "list" vs.toArray 0)).get? s1.heap.objs.size = some (seqObj "list" vs.toArray 0) := Heap.get?_push_size _ rfl
  refine wpAny_bind (wpAny_holding (wpAny_call_entry PyProof.Rows.slot_list_sort ⟨_, hoL, rfl⟩ PyProof.Rows.entry_list_sort
    (list_sort_treeK strKind_oneLt (s := { s1 with heap := s1.heap.push (seqObj "list" vs.toArray 0) }) hoL hS.keysOf (fun v₁ v₂ rest e => keyKind_strs (by rw [← e]; exact hS)) (by rw [hvl]; exact h64) fun st' hp hs => ⟨_, rfl, ?_⟩) (PyProof.Rows.args_list_sort _)))
  obtain ⟨ys, y1, y2, y3⟩ := sorted_out_str hS hp hs
  obtain ⟨e', he'⟩ := PyProof.Rows.sortedHeap_at (vs := vs) (out := (arrOf st').map (·.2)) hoL
  have yl : ys.Perm l := y2.trans pk
  have hlen : (ys.map V.str).length ≤ sizeLine := by
    rw [List.length_map, yl.length_eq, sizeLine_eq]
    omega
  have hn : H s1.heap.objs.size = none := I.hok.fresh hz
  have kk : ∀ b u, s.heap.get? b = some u → (sortedHeap (s1.heap.push (seqObj "list" vs.toArray 0)) s1.heap.objs.size vs ((arrOf st').map (·.2))).get? b = some u := fun b u e => by
    have e1 := k1 b u e
    have hb := Heap.lt_size e1
    rw [PyProof.Rows.sortedHeap_old (Nat.ne_of_lt hb) (by rw [size_push']; exact Nat.lt_succ_of_lt hb)]
    exact Heap.get?_push_of_some _ e1
  have J : Inv X pins σ (upd H s1.heap.objs.size (.lst (ys.map V.str))) { s with heap := sortedHeap (s1.heap.push (seqObj "list" vs.toArray 0)) s1.heap.objs.size vs ((arrOf st').map (·.2)), gens := s1.gens, drawn := s1.drawn, toks := s1.toks } :=
    I.call (ch := []) (Un.laid kk hz hn) (I.hok.laid kk hz ⟨hlen, ((arrOf st').map (·.2)).toList, e', vals_of_strs y1, by rw [Array.toArray_toList]; exact he'⟩) (by rw [g1]; exact I.bare) (fun _ z => nomatch z)
  refine wpAny_pure ⟨_, rfl, .ref s1.heap.objs.size, _, ?_, rfl, q ys _ yl y3 hn⟩
  have e : ({ s1 with heap := sortedHeap (s1.heap.push (seqObj "list" vs.toArray 0)) s1.heap.objs.size vs ((arrOf st').map (·.2)) } : Shared) = { s with heap := sortedHeap (s1.heap.push (seqObj "list" vs.toArray 0)) s1.heap.objs.size vs ((arrOf st').map (·.2)), gens := s1.gens, drawn := s1.drawn, toks := s1.toks } := by
    obtain ⟨a1, a2, a3, a4, a5⟩ := s1
    obtain ⟨b1, b2, b3, b4, b5⟩ := s
    have o1 : a5 = b5 := o1
    subst o1
    rfl
  exact e ▸ J
end
end FA

set_option Elab.async false
set_option linter.all false
set_option maxRecDepth 100000
set_option maxHeartbeats 4000000
/-! list(text) -/
namespace FA
open PySem PySem.Spec PyProof.Rows L2
theorem vals_of : ∀ {xs : List V} {us : List Value}, xs.length = us.length → (∀ (j : Nat) u, us[j]? = some u → ∃ x, xs[j]? = some x ∧ L2.RelV x u) → Vals xs us
  | [], [], _, _ => .nil
  | [], _ :: _, h, _ => by simp at h
  | _ :: _, [], h, _ => by simp at h
  | x :: xs, u :: us, hl, h => by
    obtain ⟨x', e1, e2⟩ := h 0 u rfl
    cases e1
    exact .cons e2 (vals_of (by simpa using hl) fun j u e => h (j + 1) u (by simpa using e))
section
variable {X : Cx}
theorem call_strL (hc : X.calm = true) : CallR X (.type "list") (fun xs H Q => ∃ z : Str, xs = [.str z] ∧ z.cps.size ≤ sizeLine ∧ ∀ l, H l = none → Q (.ref l) (upd H l (.lst (z.cps.toList.map fun c => V.str ⟨#[c]⟩)))) := by
  intro pins s σ H xs us Q I r h
  obtain ⟨z, rfl, hz, q⟩ := h
  obtain ⟨u, rfl, ru⟩ := r.one
  obtain ⟨t, rfl⟩ := ru
  refine call_list_str (I.ok.hd hc) z t (fun h' tk acc' c' hk e hi => ?_) hz
  have hv : Vals (z.cps.toList.map fun c => V.str ⟨#[c]⟩) acc'.toList := vals_of (by rw [List.length_map, Array.length_toList, Array.length_toList, hi.1]) fun j u hj => by
    rw [Array.getElem?_toList] at hj
    obtain ⟨c, t', h1, rfl⟩ := hi.2 j u hj
    exact ⟨.str ⟨#[c]⟩, by rw [List.getElem?_map, Array.getElem?_toList, h1]; rfl, _, rfl⟩
  refine ⟨.ref s.heap.objs.size, _, I.laid (t' := tk) (o := .lst (z.cps.toList.map fun c => V.str ⟨#[c]⟩)) hk (Nat.le_refl _) ⟨by rw [List.length_map, Array.length_toList]; exact hz, acc'.toList, c', hv, ?_⟩, rfl, q _ (I.hok.fresh (Nat.le_refl _))⟩
  rw [e]
end
end FA

set_option Elab.async false
set_option linter.all false
set_option maxRecDepth 100000
set_option maxHeartbeats 4000000
/-! What several families of laws share: new objects, statements cut, slices, bodies put together, walks of enumerate and of tuples. -/
namespace FA
open PySem PySem.Spec PyProof.Rows L2
theorem yesT {σ : L2.St} {H : Hp} {Q : Bool → Hp → Prop} (h : Q true H) : tYes σ H Q := h
theorem ix_of {n : Nat} {i : Int} (h0 : 0 ≤ i) (h1 : i < n) : ixN n i = some i.toNat := by
  unfold ixN
  rw [if_pos h0, if_pos h1]
theorem erase_perm {α : Type} {l : List α} {i : Nat} (h : i < l.length) : (l[i] :: l.eraseIdx i).Perm l := by
  rw [List.eraseIdx_eq_take_drop_succ]
  have e : l.take i ++ l[i] :: l.drop (i + 1) = l := by rw [← List.drop_eq_getElem_cons h, List.take_append_drop]
  exact List.perm_middle.symm.trans (List.Perm.of_eq e)
/-- what is new in H' -/
def fr (H H' : Hp) : Hp := fun b => match H b with
  | none => H' b
  | some _ => none
theorem fr_some {H H' : Hp} {b : Addr} {o : HO} : fr H H' b = some o ↔ H b = none ∧ H' b = some o := by
  unfold fr
  cases H b with
  | none => simp
  | some u => simp
theorem none_back {W : List Addr} {H H1 : Hp} {b : Addr} (s : Sm W H H1) (k : ∀ a ∈ W, ∃ o, H1 a = some o) (h : H1 b = none) : H b = none := by
  by_cases hb : b ∈ W
  · obtain ⟨o, e⟩ := k b hb
    rw [e] at h; cases h
  · exact s.none hb h
/-- new behind H1: new behind H, and kept -/
theorem fr_step {W : List Addr} {H H1 H2 H3 : Hp} (s : Sm W H H1) (k : ∀ a ∈ W, ∃ o, H1 a = some o) (s2 : Sm W H2 H3) : Kp (fr H1 H2) (fr H H3) := by
  have key : ∀ a o, fr H1 H2 a = some o → fr H H3 a = some o := fun a o e => by
    rw [fr_some] at e ⊢
    refine ⟨none_back s k e.1, s2 a o (fun z => ?_) e.2⟩
    obtain ⟨u, e2⟩ := k a z
    rw [e2] at e
    cases e.1
  exact ⟨fun a xs e => key _ _ e, fun a xs e => key _ _ e⟩
theorem strs_ne {ls : List Str} {x : Int} {r : List V} (h : (ls.map V.str) = V.int x :: r) : False := by
  cases ls with
  | nil => cases h
  | cons a r => cases h
theorem okB_snoc {ns : List Str} {l : List It} {it : It} (h : okB ns l) (h2 : okI ns it) : okB ns (l ++ [it]) := by
  rw [okB_all] at h ⊢
  intro i hi
  rcases List.mem_append.mp hi with z | z
  · exact h i z
  · simp at z; rw [z]; exact h2
theorem nCB_snoc : ∀ (l : List It) (it : It), nCB (l ++ [it]) = nCB l + nC it
  | [], it => by simp [nCB]
  | i :: r, it => by simp only [List.cons_append, nCB, nCB_snoc r it]; omega
theorem nIB_snoc : ∀ (l : List It) (it : It), nIB (l ++ [it]) = nIB l + (1 + nI it)
  | [], it => by simp [nIB]
  | i :: r, it => by simp only [List.cons_append, nIB, nIB_snoc r it]; omega
theorem dB_snoc : ∀ (l : List It) (it : It), dB (l ++ [it]) = max (dB l) (1 + dI it)
  | [], it => by simp only [List.nil_append, dB]; omega
  | i :: r, it => by simp only [List.cons_append, dB, dB_snoc r it]; omega
theorem split_at {X : Cx} {body : List Stmt} {D0 : Ends} {σ0 : L2.St} {H0 : Hp} (k : Nat) (R : Ends → L2.St → Hp → Prop) (h2 : ∃ u, PSs X (body.drop k) u ∧ ∀ D σ H, R D σ H → u D σ H)
    (h1 : ∀ u, PSs X (body.drop k) u → (∀ D σ H, R D σ H → u D σ H) → ∃ t, PSs X body t ∧ t D0 σ0 H0) : ∃ t, PSs X body t ∧ t D0 σ0 H0 := by
  obtain ⟨u, a, b⟩ := h2
  exact h1 u a b
theorem dp_strs {K : PySem.W.Frag} {H : Hp} : ∀ ls : List Str, DpAll K H (ls.map V.str) (ls.map PyData.str)
  | [] => .nil
  | x :: r => .cons (.str x) (dp_strs r)
theorem strs_shaped {ls : List Str} (h : ∀ x ∈ ls, okName x) : SeqAt.shaped (.list (ls.map PyData.str)) = true := by
  refine dt_shaped ?_ ?_
  · induction ls with
    | nil => rfl
    | cons x r ih =>
      simp only [List.map_cons, PyData.canLayAll0, PyData.canLay0, (h x (by simp)).strOk, Bool.true_and]
      exact ih fun y hy => h y (List.mem_cons_of_mem _ hy)
  · have : ∀ ls : List Str, PyData.depthAll (ls.map PyData.str) = 0 := fun ls => by
      induction ls with
      | nil => rfl
      | cons x r ih => simp only [List.map_cons, PyData.depthAll, PyData.depth, ih]; rfl
    rw [this]; omega
theorem eqv_nil (ds : List PyData) : PyData.eqv (.list ds) (.list []) = ds.isEmpty := by
  cases ds with
  | nil => simp [PyData.eqv, PyData.eqvAll]
  | cons a r => simp [PyData.eqv, PyData.eqvAll]
theorem nCBs_app : ∀ a b : List (List It), nCBs (a ++ b) = nCBs a + nCBs b
  | [], b => by simp [nCBs]
  | x :: r, b => by simp only [List.cons_append, nCBs, nCBs_app r b]; omega
theorem nIBs_app : ∀ a b : List (List It), nIBs (a ++ b) = nIBs a + nIBs b
  | [], b => by simp [nIBs]
  | x :: r, b => by simp only [List.cons_append, nIBs, nIBs_app r b]; omega
theorem dBs_app : ∀ a b : List (List It), dBs (a ++ b) = max (dBs a) (dBs b)
  | [], b => by simp only [List.nil_append, dBs]; omega
  | x :: r, b => by simp only [List.cons_append, dBs, dBs_app r b]; omega
theorem okBs_app {ns : List Str} {a b : List (List It)} : okBs ns (a ++ b) ↔ okBs ns a ∧ okBs ns b := by
  simp only [okBs_all, List.mem_append]
  exact ⟨fun h => ⟨fun x hx => h x (.inl hx), fun x hx => h x (.inr hx)⟩, fun h x hx => hx.elim (h.1 x) (h.2 x)⟩
theorem kp_wo {D : Addr} {H H1 : Hp} : Kp (wo [D] (fr H H1)) (fr H H1) := ⟨fun x xs e => (wo_some.mp e).2, fun x xs e => (wo_some.mp e).2⟩
theorem kp_fr {H H1 : Hp} : Kp (fr H H1) H1 := ⟨fun x xs e => (fr_some.mp e).2, fun x xs e => (fr_some.mp e).2⟩
theorem cut_from {xs : List V} {k : Nat} (h : k ≤ xs.length) : cutV xs (some (k : Int)) none = xs.drop k := by
  unfold cutV
  rw [HT.sIx_nat, HT.sIx_none, Nat.min_eq_left h, List.take_of_length_le (by rw [List.length_drop]; omega)]
theorem cut_to {xs : List V} {k : Nat} (h : k ≤ xs.length) : cutV xs none (some (k : Int)) = xs.take k := by
  unfold cutV
  rw [HT.sIx_nat, HT.sIx_none, Nat.min_eq_left h, List.drop_zero, Nat.sub_zero]
theorem BdAt.toBds {H : Hp} {b : Addr} {l : List It} {vs : List V} {ls : List (List It)} (h : BdAt H b l) (t : BdsAt H vs ls) : BdsAt H (.ref b :: vs) (l :: ls) := let ⟨_, h1, h2⟩ := h; .cons h1 h2 t
theorem strs_perm : ∀ {ys : List V} {ns : List Str}, ys.Perm (ns.map V.str) → ∃ zs : List Str, ys = zs.map V.str ∧ zs.Perm ns := by
  intro ys ns h
  have key : ∀ {a b : List V}, a.Perm b → (∀ v ∈ b, ∃ z, v = V.str z) → (∀ v ∈ a, ∃ z, v = V.str z) := fun p hb v hv => hb v (p.mem_iff.mp hv)
  have h1 := key h (fun v hv => by obtain ⟨z, _, e⟩ := List.mem_map.mp hv; exact ⟨z, e.symm⟩)
  have ex : ∀ l : List V, (∀ v ∈ l, ∃ z, v = V.str z) → ∃ zs : List Str, l = zs.map V.str := by
    intro l
    induction l with
    | nil => exact fun _ => ⟨[], rfl⟩
    | cons v r ih =>
      intro hv
      obtain ⟨z, e⟩ := hv v (by simp)
      obtain ⟨zs, e2⟩ := ih fun u hu => hv u (List.mem_cons_of_mem _ hu)
      exact ⟨z :: zs, by rw [e, e2]; rfl⟩
  obtain ⟨zs, e⟩ := ex ys h1
  subst e
  refine ⟨zs, rfl, ?_⟩
  have inj : ∀ a b : Str, V.str a = V.str b → a = b := fun a b e => V.str.inj e
  let un : V → Str := fun v => match v with | .str z => z | _ => "main"
  have q := h.map un
  rw [List.map_map, List.map_map] at q
  have i1 : (un ∘ V.str) = id := rfl
  rw [i1, List.map_id, List.map_id] at q
  exact q
theorem mem_look : ∀ {p : Pr} {x : Str} {l : Bd}, p.lookup x = some l → (x, l) ∈ p
  | (y, m) :: p, x, l, h => by
    by_cases e : x = y
    · subst e
      simp [List.lookup] at h
      rw [h]; simp
    · have e1 : (x == y) = false := beq_eq_false_iff_ne.mpr e
      simp only [List.lookup, e1] at h
      exact List.mem_cons_of_mem _ (mem_look h)
theorem cut_last (xs : List V) : cutV xs none (some (-1)) = xs.take (xs.length - 1) := by
  have e : HT.sIx xs.length xs.length (some (-1)) = xs.length - 1 := by
    show (if (-1 : Int) < 0 then ((-1 : Int) + (xs.length : Int)).toNat else min (-1 : Int).toNat xs.length) = _
    rw [if_pos (by decide)]
    omega
  unfold cutV
  rw [e, HT.sIx_none, List.drop_zero, Nat.sub_zero]
mutual
theorem okI_more {ns ms : List Str} (s : ∀ x ∈ ns, x ∈ ms) : ∀ i : It, okI ns i → okI ms i
  | .call x, h => by simp only [okI] at h ⊢; exact s x h
  | .may b, h => by simp only [okI] at h ⊢; exact ⟨h.1, okB_more s b h.2⟩
  | .loop b, h => by simp only [okI] at h ⊢; exact ⟨h.1, okB_more s b h.2⟩
  | .one bs, h => by simp only [okI] at h ⊢; exact ⟨h.1, h.2.1, h.2.2.1, okBs_more s bs h.2.2.2⟩
theorem okB_more {ns ms : List Str} (s : ∀ x ∈ ns, x ∈ ms) : ∀ b : List It, okB ns b → okB ms b
  | [], _ => by simp [okB]
  | i :: r, h => by simp only [okB] at h ⊢; exact ⟨okI_more s i h.1, okB_more s r h.2⟩
theorem okBs_more {ns ms : List Str} (s : ∀ x ∈ ns, x ∈ ms) : ∀ bs : List (List It), okBs ns bs → okBs ms bs
  | [], _ => by simp [okBs]
  | b :: r, h => by simp only [okBs] at h ⊢; exact ⟨okB_more s b h.1, okBs_more s r h.2⟩
end
theorem mergeK_nd : ∀ (more kvs : List (Key × V)), ((kvs ++ more).map (·.1)).Nodup → mergeK kvs more = kvs ++ more
  | [], kvs, _ => by simp [mergeK]
  | q :: r, kvs, nd => by
    have e : mergeK kvs (q :: r) = mergeK (putK kvs q.1 q.2) r := rfl
    have hv : valV kvs q.1 = none := valV_out fun u hu z => by
      rw [List.map_append, List.nodup_append] at nd
      exact nd.2.2 u.1 (List.mem_map.mpr ⟨u, hu, rfl⟩) q.1 (by simp) z
    rw [e, putK_new _ hv, mergeK_nd r _ (by rw [List.append_assoc]; exact nd), List.append_assoc]
    rfl
theorem Sm.put {W : List Addr} {H H1 : Hp} {L : Addr} {o : HO} (h : H L = Option.none) (s : Sm W H H1) : Sm W H (upd H1 L o) := fun b u n e => by
  rw [upd_ne (ne_of_none e h)]
  exact s b u n e
theorem kp_off {W : List Addr} {H : Hp} : Kp (wo W H) H := ⟨fun x xs e => (wo_some.mp e).2, fun x xs e => (wo_some.mp e).2⟩
theorem cut_to' (xs : List V) (k : Nat) : cutV xs none (some (k : Int)) = xs.take k := by
  unfold cutV
  rw [HT.sIx_none, HT.sIx_nat, List.drop_zero, Nat.sub_zero]
  by_cases h : k ≤ xs.length
  · rw [Nat.min_eq_left h]
  · rw [Nat.min_eq_right (by omega), List.take_of_length_le (Nat.le_refl _), List.take_of_length_le (by omega)]
theorem Paired.weak {α β : Type} {F G : α → β → Prop} (h : ∀ a b, F a b → G a b) : ∀ {l : List α} {m : List β}, Paired F l m → Paired G l m
  | _, _, .nil => .nil
  | _, _, .cons a t => .cons (h _ _ a) (Paired.weak h t)
theorem paired_mem {α β : Type} {F G : α → β → Prop} : ∀ {l : List α} {m : List β}, Paired F l m → (∀ a ∈ l, ∀ b, F a b → G a b) → Paired G l m
  | _, _, .nil, _ => .nil
  | _, _, .cons a t, h => .cons (h _ (by simp) _ a) (paired_mem t fun x hx b hb => h x (List.mem_cons_of_mem _ hx) b hb)
theorem kp_dk {H : Hp} {d : Addr} {k0 kvs : List (Key × V)} (h : H d = some (.dK k0)) : Kp H (upd H d (.dK kvs)) :=
  ⟨fun b xs e => by rw [upd_ne (by rintro rfl; rw [h] at e; cases e)]; exact e, fun b xs e => by rw [upd_ne (by rintro rfl; rw [h] at e; cases e)]; exact e⟩
theorem str_get {ns : List Str} {j : Nat} {x : V} (h : (ns.map V.str)[j]? = some x) : ∃ y, ns[j]? = some y ∧ x = .str y := by
  rw [List.getElem?_map] at h
  cases e : ns[j]? with
  | none => rw [e] at h; cases h
  | some y => rw [e] at h; cases h; exact ⟨y, rfl, rfl⟩
/-! ### walks of enumerate, of tuples -/
theorem SqT.same {K : PySem.W.Frag} {H H' : Hp} {a : Addr} {xs : List V} (e : Same H H') (h : SqT K H a xs) : SqT K H' a xs := by
  rcases h with (h | ⟨o, h⟩) | h
  · exact .inl (.inl (e _ _ h))
  · exact .inl (.inr ⟨o, e _ _ h⟩)
  · exact .inr h
theorem for_enum {K : PySem.W.Frag} {a : Addr} {xs : List V} {g : TG} {tb : TS} {D : Ends} {σ : L2.St} {H : Hp} (Pv : Nat → L2.St → Hp → Prop) (h0 : Pv 0 σ H) (hl : ∀ i σ H, i ≤ xs.length → Pv i σ H → SqL K H a xs)
    (hs : ∀ i x σ H T, xs[i]? = some x → Pv i σ H → H T = none → g (.ref T) σ (upd H T (.tup [.int (i : Nat), x])) fun σ2 H2 => tb { D with nx := Pv (i + 1), ct := Pv (i + 1), bk := D.nx } σ2 H2) (hd : ∀ σ H, Pv xs.length σ H → D.nx σ H) :
    ∃ W : Nat → Nat → L2.St → Hp → Prop, (∃ m, W 0 m σ H) ∧ ∀ i m σ H, W i m σ H →
      ((Ite K a).stop i H ∧ D.nx σ H) ∨ ((Ite K a).go i H ∧ ∃ N : L2.St → Hp → Prop, (∀ σ' H', N σ' H' → ∃ m', m' < m ∧ W (i + 1) m' σ' H') ∧ ∀ x H', (Ite K a).yld i H x H' → g x σ H' fun σ2 H2 => tb { D with nx := N, ct := N, bk := D.nx } σ2 H2) := by
  refine ⟨fun i m σ H => m = xs.length - i ∧ i ≤ xs.length ∧ Pv i σ H, ⟨xs.length, by simp, Nat.zero_le _, h0⟩, ?_⟩
  rintro i m σ H ⟨rfl, hi, p⟩
  have q := hl i σ H hi p
  by_cases hlt : i < xs.length
  · refine .inr ⟨⟨xs, xs[i], q, by simp [hlt]⟩, Pv (i + 1), fun σ' H' p' => ⟨xs.length - (i + 1), by omega, rfl, hlt, p'⟩, fun x H' y => ?_⟩
    obtain ⟨T, x, rfl, hT, rfl, y⟩ := y
    exact hs i x σ _ T (y xs q) p hT
  · have e : i = xs.length := by omega
    subst e
    exact .inl ⟨⟨xs, q, Nat.le_refl _⟩, hd σ H p⟩
section
variable {K : PySem.W.Frag} {H1 : Hp} {a : Addr} {xs : List V}
theorem go_t (h : SqT K H1 a xs) : ∀ i H, Same H1 H → i < xs.length → (Itt K a).go i H := fun i H sm hi => ⟨xs, xs[i], SqT.same sm h, by simp [hi]⟩
theorem stop_t (h : SqT K H1 a xs) : ∀ H, Same H1 H → (Itt K a).stop xs.length H := fun H sm => ⟨xs, SqT.same sm h, Nat.le_refl _⟩
theorem yld_t (h : SqT K H1 a xs) : ∀ i H x H', Same H1 H → i < xs.length → (Itt K a).yld i H x H' → H' = H ∧ xs[i]? = some x := fun i H x H' sm hi y => ⟨y.1, y.2 xs (SqT.same sm h)⟩
end
section
variable {X : Cx}
/-- 'main' * 2 -/
theorem op_mul_main : OpR X (binaryOp .Mult) (fun x y H Q => x = .str "main" ∧ y = .int 2 ∧ Q (.str "mainmain") H) := by
  intro pins s σ H x y v u Q I rx ry h
  obtain ⟨rfl, rfl, q⟩ := h
  obtain ⟨t, rfl⟩ := rx
  obtain ⟨t', rfl⟩ := ry
  refine PySem.P.mul_str (by decide) (fun _ _ => by decide +kernel) (fun _ _ => by decide +kernel) ?_
  rw [if_neg (by decide), if_neg (by decide)]
  exact ⟨by decide +kernel, .str "mainmain", H, I.tok _, ⟨_, by first | rfl | decide +kernel⟩, q⟩
end
mutual
def nmI : It → List Str
  | .call x => [x]
  | .may b => nmB b
  | .loop b => nmB b
  | .one bs => nmBs bs
def nmB : List It → List Str
  | [] => []
  | i :: r => nmI i ++ nmB r
def nmBs : List (List It) → List Str
  | [] => []
  | b :: r => nmB b ++ nmBs r
end
mutual
theorem nmI_len : ∀ i : It, (nmI i).length = nC i
  | .call x => by simp [nmI, nC]
  | .may b => by simp only [nmI, nC, nmB_len b]
  | .loop b => by simp only [nmI, nC, nmB_len b]
  | .one bs => by simp only [nmI, nC, nmBs_len bs]
theorem nmB_len : ∀ b : List It, (nmB b).length = nCB b
  | [] => by simp [nmB, nCB]
  | i :: r => by simp only [nmB, nCB, List.length_append, nmI_len i, nmB_len r]
theorem nmBs_len : ∀ bs : List (List It), (nmBs bs).length = nCBs bs
  | [] => by simp [nmBs, nCBs]
  | b :: r => by simp only [nmBs, nCBs, List.length_append, nmB_len b, nmBs_len r]
end
mutual
theorem nmI_ok {ns : List Str} : ∀ i : It, okI ns i → ∀ x ∈ nmI i, x ∈ ns
  | .call y, h, x, hx => by simp only [okI] at h; simp only [nmI, List.mem_singleton] at hx; rw [hx]; exact h
  | .may b, h, x, hx => by simp only [okI] at h; simp only [nmI] at hx; exact nmB_ok b h.2 x hx
  | .loop b, h, x, hx => by simp only [okI] at h; simp only [nmI] at hx; exact nmB_ok b h.2 x hx
  | .one bs, h, x, hx => by simp only [okI] at h; simp only [nmI] at hx; exact nmBs_ok bs h.2.2.2 x hx
theorem nmB_ok {ns : List Str} : ∀ b : List It, okB ns b → ∀ x ∈ nmB b, x ∈ ns
  | [], _, x, hx => by simp [nmB] at hx
  | i :: r, h, x, hx => by
    simp only [okB] at h
    simp only [nmB, List.mem_append] at hx
    exact hx.elim (nmI_ok i h.1 x) (nmB_ok r h.2 x)
theorem nmBs_ok {ns : List Str} : ∀ bs : List (List It), okBs ns bs → ∀ x ∈ nmBs bs, x ∈ ns
  | [], _, x, hx => by simp [nmBs] at hx
  | b :: r, h, x, hx => by
    simp only [okBs] at h
    simp only [nmBs, List.mem_append] at hx
    exact hx.elim (nmB_ok b h.1 x) (nmBs_ok r h.2 x)
end
theorem nmB_take {l : List It} {i : Nat} {it : It} (h : l[i]? = some it) : nmB (l.take (i + 1)) = nmB (l.take i) ++ nmI it := by
  have app : ∀ a b : List It, nmB (a ++ b) = nmB a ++ nmB b := fun a b => by
    induction a with
    | nil => simp [nmB]
    | cons x r ih => simp only [List.cons_append, nmB, ih, List.append_assoc]
  rw [List.take_add_one, h, app]
  simp [nmB]
theorem nmBs_take {l : List (List It)} {i : Nat} {b : List It} (h : l[i]? = some b) : nmBs (l.take (i + 1)) = nmBs (l.take i) ++ nmB b := by
  have app : ∀ a b : List (List It), nmBs (a ++ b) = nmBs a ++ nmBs b := fun a b => by
    induction a with
    | nil => simp [nmBs]
    | cons x r ih => simp only [List.cons_append, nmBs, ih, List.append_assoc]
  rw [List.take_add_one, h, app]
  simp [nmBs]
/-- the bodies of an item that is no call -/
def bodies : It → List (List It)
  | .call _ => []
  | .may b => [b]
  | .loop b => [b]
  | .one bs => bs
theorem bodies_nm : ∀ i : It, (∀ x, i ≠ .call x) → nmBs (bodies i) = nmI i
  | .call x, h => absurd rfl (h x)
  | .may b, _ => by simp [bodies, nmBs, nmI]
  | .loop b, _ => by simp [bodies, nmBs, nmI]
  | .one bs, _ => rfl
theorem bodies_ok {ns : List Str} : ∀ i : It, okI ns i → okBs ns (bodies i)
  | .call x, _ => by simp [bodies, okBs]
  | .may b, h => by simp only [okI] at h; simp [bodies, okBs, h.2]
  | .loop b, h => by simp only [okI] at h; simp [bodies, okBs, h.2]
  | .one bs, h => by simp only [okI] at h; exact h.2.2.2
theorem bodies_d : ∀ i : It, dBs (bodies i) ≤ dI i
  | .call x => by simp [bodies, dBs, dI]
  | .may b => by simp only [bodies, dBs, dI]; omega
  | .loop b => by simp only [bodies, dBs, dI]; omega
  | .one bs => by simp only [bodies, dI]; omega
theorem strs_refs {ns : List Str} {b : Addr} {r : List V} (h : (ns.map V.str) = V.ref b :: r) : False := by
  cases ns with
  | nil => cases h
  | cons a r => cases h
theorem okB_take {ns : List Str} {l : Bd} (k : Nat) (h : okB ns l) : okB ns (l.take k) := by
  rw [okB_all] at h ⊢
  exact fun i hi => h i (List.mem_of_mem_take hi)
theorem nCB_take : ∀ (l : Bd) (k : Nat), nCB (l.take k) ≤ nCB l
  | [], k => by simp [nCB]
  | i :: r, 0 => by simp [nCB]
  | i :: r, k + 1 => by have := nCB_take r k; simp only [List.take_succ_cons, nCB]; omega
theorem nIB_take : ∀ (l : Bd) (k : Nat), nIB (l.take k) ≤ nIB l
  | [], k => by simp [nIB]
  | i :: r, 0 => by simp [nIB]
  | i :: r, k + 1 => by have := nIB_take r k; simp only [List.take_succ_cons, nIB]; omega
theorem dB_pos : ∀ b : List It, 1 ≤ dB b
  | [] => by simp [dB]
  | i :: r => by have := dB_pos r; simp only [dB]; omega
theorem dB_take : ∀ (l : Bd) (k : Nat), dB (l.take k) ≤ dB l
  | [], k => by simp [dB]
  | i :: r, 0 => by have := dB_pos (i :: r); simp only [List.take_zero, dB] at this ⊢; omega
  | i :: r, k + 1 => by have := dB_take r k; simp only [List.take_succ_cons, dB]; omega
theorem nCBs_mem : ∀ {bs : List (List It)} {b}, b ∈ bs → nCB b ≤ nCBs bs
  | b' :: r, b, h => by
    rcases List.mem_cons.mp h with rfl | h
    · simp only [nCBs]; omega
    · have := nCBs_mem h; simp only [nCBs]; omega
theorem nIBs_mem : ∀ {bs : List (List It)} {b}, b ∈ bs → nIB b ≤ nIBs bs
  | b' :: r, b, h => by
    rcases List.mem_cons.mp h with rfl | h
    · simp only [nIBs]; omega
    · have := nIBs_mem h; simp only [nIBs]; omega
theorem dBs_mem : ∀ {bs : List (List It)} {b}, b ∈ bs → dB b ≤ dBs bs
  | b' :: r, b, h => by
    rcases List.mem_cons.mp h with rfl | h
    · simp only [dBs]; omega
    · have := dBs_mem h; simp only [dBs]; omega
theorem dB_mem : ∀ {l : List It} {it : It}, it ∈ l → 1 + dI it ≤ dB l
  | i :: r, it, h => by
    simp only [dB]
    rcases List.mem_cons.mp h with rfl | h
    · omega
    · have := dB_mem h; omega
theorem nCB_mem {l : List It} {i : It} (h : i ∈ l) : nC i ≤ nCB l := by
  induction l with
  | nil => cases h
  | cons x r ih =>
    simp only [nCB]
    rcases List.mem_cons.mp h with e | h
    · rw [e]; omega
    · have := ih h; omega
theorem nI_bodies : ∀ i : It, nIBs (bodies i) = nI i
  | .call x => by simp [bodies, nIBs, nI]
  | .may b => by simp [bodies, nIBs, nI]
  | .loop b => by simp [bodies, nIBs, nI]
  | .one bs => by simp only [bodies, nI]
theorem nIB_mem {l : List It} {i : It} (h : i ∈ l) : nI i ≤ nIB l := by
  induction l with
  | nil => cases h
  | cons x r ih =>
    simp only [nIB]
    rcases List.mem_cons.mp h with e | h
    · rw [e]; omega
    · have := ih h; omega
theorem nC_bodies {i : It} (h : ∀ x, i ≠ .call x) : nCBs (bodies i) = nC i := by
  have := congrArg List.length (bodies_nm i h)
  rw [nmBs_len, nmI_len] at this
  exact this
theorem nmBs_pre {bs : List (List It)} (j : Nat) : (nmBs (bs.take j)).length ≤ nCBs bs := by
  have t := List.take_append_drop j bs
  have e : nCBs bs = nCBs (bs.take j) + nCBs (bs.drop j) := by rw [← t, nCBs_app, t]
  rw [nmBs_len]
  omega
theorem nmB_pre (l : List It) (i : Nat) : (nmB (l.take i)).length ≤ nCB l := by
  rw [nmB_len]
  exact nCB_take l i

theorem nIB_len : ∀ l : List It, l.length ≤ nIB l
  | [] => by simp [nIB]
  | i :: r => by have := nIB_len r; simp only [List.length_cons, nIB]; omega
/-- an item by its parts: a call, or a tuple of its kind and a list -/
theorem ItAt.parts {H : Hp} {v : V} {it : It} (h : ItAt H v it) : (∃ x, v = .str x ∧ it = .call x) ∨
    ∃ t k b vs, v = .ref t ∧ H t = some (.tup [.str k, .ref b]) ∧ H b = some (.lst vs) ∧ ((k = "one" ∧ ∃ ls, it = .one ls ∧ BdsAt H vs ls) ∨ (k ≠ ("one" : Str) ∧ ∃ l, (it = .may l ∨ it = .loop l) ∧ ItsAt H vs l)) := by
  cases h with
  | call x => exact .inl ⟨x, rfl, rfl⟩
  | may h1 h2 h3 => exact .inr ⟨_, _, _, _, rfl, h1, h2, .inr ⟨by decide, _, .inl rfl, h3⟩⟩
  | loop h1 h2 h3 => exact .inr ⟨_, _, _, _, rfl, h1, h2, .inr ⟨by decide, _, .inr rfl, h3⟩⟩
  | one h1 h2 h3 => exact .inr ⟨_, _, _, _, rfl, h1, h2, .inl ⟨rfl, _, rfl, h3⟩⟩
/-! ### what is new, but for one list that grows -/
theorem kp_turn {W : List Addr} {f : Addr} {H H1 H2 : Hp} (g : ∀ x ∈ W, ∃ o, H x = some o) (s : Sm W H1 H2) : Kp (wo [f] (fr H H1)) (wo [f] (fr H H2)) := by
  have key : ∀ x o, wo [f] (fr H H1) x = some o → wo [f] (fr H H2) x = some o := fun x o e => by
    rw [wo_some, fr_some] at e ⊢
    refine ⟨e.1, e.2.1, s x o (fun z => ?_) e.2.2⟩
    obtain ⟨u, e2⟩ := g x z
    rw [e2] at e
    cases e.2.1
  exact ⟨fun x xs e => key _ _ e, fun x xs e => key _ _ e⟩
theorem kp_put {f : Addr} {H H2 : Hp} {o : HO} : Kp (wo [f] (fr H H2)) (wo [f] (fr H (upd H2 f o))) := by
  have key : ∀ x u, wo [f] (fr H H2) x = some u → wo [f] (fr H (upd H2 f o)) x = some u := fun x u e => by
    rw [wo_some, fr_some] at e ⊢
    refine ⟨e.1, e.2.1, ?_⟩
    rw [upd_ne (by simpa using e.1)]
    exact e.2.2
  exact ⟨fun x xs e => key _ _ e, fun x xs e => key _ _ e⟩
theorem kp_in {W : List Addr} {f : Addr} {H H1 H2 : Hp} {u : HO} (s : Sm W H H1) (k : ∀ x ∈ W, ∃ o, H1 x = some o) (hf : H1 f = some u) : Kp (fr H1 H2) (wo [f] (fr H H2)) := by
  have key : ∀ x v, fr H1 H2 x = some v → wo [f] (fr H H2) x = some v := fun x v e => by
    rw [fr_some] at e
    have ne : x ≠ f := by
      rintro rfl
      rw [hf] at e
      cases e.1
    rw [wo_some, fr_some]
    exact ⟨by simpa using ne, none_back s k e.1, e.2⟩
  exact ⟨fun x xs e => key _ _ e, fun x xs e => key _ _ e⟩
theorem wof_new {W : List Addr} {f p : Addr} {H H1 H2 : Hp} {u o : HO} (s : Sm W H H1) (k : ∀ x ∈ W, ∃ o, H1 x = some o) (hf : H1 f = some u) (hp : H1 p = none) (h : H2 p = some o) : wo [f] (fr H H2) p = some o := by
  have ne : p ≠ f := by
    rintro rfl
    rw [hf] at hp
    cases hp
  rw [wo_some, fr_some]
  exact ⟨by simpa using ne, none_back s k hp, h⟩
theorem nCB_takeS {l : List It} {i : Nat} {it : It} (h : l[i]? = some it) : nCB (l.take (i + 1)) = nCB (l.take i) + nC it := by
  rw [List.take_add_one, h]
  exact nCB_snoc _ _
theorem nIB_takeS {l : List It} {i : Nat} {it : It} (h : l[i]? = some it) : nIB (l.take (i + 1)) = nIB (l.take i) + (1 + nI it) := by
  rw [List.take_add_one, h]
  exact nIB_snoc _ _
theorem sum_nCB : ∀ bs : List (List It), (bs.map fun b => (nCB b : Int)).sum = nCBs bs
  | [] => rfl
  | b :: r => by have := sum_nCB r; simp only [List.map_cons, List.sum_cons, nCBs]; omega
theorem sum_nIB : ∀ bs : List (List It), (bs.map fun b => (nIB b : Int)).sum = nIBs bs
  | [] => rfl
  | b :: r => by have := sum_nIB r; simp only [List.map_cons, List.sum_cons, nIBs]; omega
theorem dd_strs {K : PySem.W.Frag} {H : Hp} : ∀ ls : List Str, DdAll K H (ls.map V.str) (ls.map PyData.str)
  | [] => .nil
  | x :: r => .cons (.str x) (dd_strs r)
end FA

set_option Elab.async false
set_option linter.all false
set_option maxRecDepth 100000
set_option maxHeartbeats 4000000
/-! Products as data, as the program makes them; how they lie in the heap. -/
namespace FA
open PySem PySem.Spec PyProof.Rows L2
/-! ### ascending texts: one order only -/
def leS (a b : Str) : Prop := a.cps.toList ≤ b.cps.toList
theorem leS_of {p x : Str} (h : (!ltCps x.cps.toList p.cps.toList) = true) : leS p x := by
  rw [ltCps_eq] at h
  unfold leS
  have : ¬ x.cps.toList < p.cps.toList := by simpa using h
  exact List.not_lt.mp this
theorem leS_trans {a b c : Str} (h : leS a b) (k : leS b c) : leS a c := List.le_trans h k
theorem leS_anti {a b : Str} (h : leS a b) (k : leS b a) : a = b := by
  have e : a.cps.toList = b.cps.toList := List.le_antisymm h k
  cases a
  cases b
  congr 1
  exact Array.toList_inj.mp e
theorem rising_pw : ∀ (p : Str) (l : List Str), risingS p l = true → (p :: l).Pairwise leS
  | p, [], _ => by simp
  | p, x :: r, h => by
    have h : (!ltCps x.cps.toList p.cps.toList && risingS x r) = true := h
    rw [Bool.and_eq_true] at h
    have ih := rising_pw x r h.2
    have px := leS_of h.1
    refine List.pairwise_cons.mpr ⟨fun y hy => ?_, ih⟩
    rcases List.mem_cons.mp hy with rfl | hy
    · exact px
    · exact leS_trans px ((List.pairwise_cons.mp ih).1 y hy)
theorem sorted_pw : ∀ {l : List Str}, sortedS l = true → l.Pairwise leS
  | [], _ => .nil
  | x :: r, h => rising_pw x r h
theorem sorted_one {a b : List Str} (ha : sortedS a = true) (hb : sortedS b = true) (p : a.Perm b) : a = b :=
  List.Perm.eq_of_pairwise (fun x y _ _ h k => leS_anti h k) (sorted_pw ha) (sorted_pw hb) p
theorem nd_le : ∀ {a b : List Str}, a.Nodup → (∀ x ∈ a, x ∈ b) → a.length ≤ b.length
  | [], b, _, _ => by simp
  | x :: r, b, nd, s => by
    obtain ⟨u, v, e⟩ := List.append_of_mem (s x (by simp))
    have nd' := List.nodup_cons.mp nd
    subst e
    have := nd_le (a := r) (b := u ++ v) nd'.2 fun y hy => by
      have := s y (List.mem_cons_of_mem _ hy)
      rw [List.mem_append, List.mem_cons] at this
      rw [List.mem_append]
      rcases this with z | z | z
      · exact .inl z
      · subst z; exact absurd hy nd'.1
      · exact .inr z
    simp only [List.length_append, List.length_cons] at this ⊢
    omega
/-- two lists without doubles and with the same texts -/
theorem perm_same {a b : List Str} (ha : a.Nodup) (hb : b.Nodup) (h : ∀ x, x ∈ a ↔ x ∈ b) : a.Perm b := by
  have l1 := nd_le ha fun x hx => (h x).mp hx
  have l2 := nd_le hb fun x hx => (h x).mpr hx
  exact perm_of_sub hb (fun x hx => (h x).mpr hx) (by omega)
theorem met_nd : ∀ (ns acc : List Str), acc.Nodup → (met acc ns).Nodup
  | [], acc, h => h
  | x :: r, acc, h => by
    rw [met]
    by_cases hx : x ∈ acc
    · rw [if_pos hx]; exact met_nd r acc h
    · rw [if_neg hx]; exact met_nd r _ (List.nodup_cons.mpr ⟨hx, h⟩)
/-- ys tells the texts of the list, ascending, each once -/
structure Tells (ys l : List Str) : Prop where
  nd : ys.Nodup
  so : sortedS ys = true
  mem : ∀ x, x ∈ ys ↔ x ∈ l
theorem Tells.one {a b l m : List Str} (ha : Tells a l) (hb : Tells b m) (h : ∀ x, x ∈ l ↔ x ∈ m) : a = b :=
  sorted_one ha.so hb.so (perm_same ha.nd hb.nd fun x => (ha.mem x).trans ((h x).trans (hb.mem x).symm))
theorem tells_met {ys ns : List Str} (p : ys.Perm (met [] ns)) (s : sortedS ys = true) : Tells ys ns :=
  ⟨p.symm.nodup (met_nd ns [] List.nodup_nil), s, fun x => by rw [p.mem_iff, met_mem]; simp⟩
open Classical in
/-- the texts of a list, ascending, each once -/
noncomputable def asc (l : List Str) : List Str := if h : ∃ ys, Tells ys l then Classical.choose h else []
theorem asc_of {ys l : List Str} (h : Tells ys l) : asc l = ys := by
  unfold asc
  have e : ∃ ys, Tells ys l := ⟨ys, h⟩
  rw [dif_pos e]
  exact (Classical.choose_spec e).one h fun _ => Iff.rfl
/-! ### atoms and products -/
inductive Atm where
  | n (x : Str)
  | t (xs : List Str)
deriving DecidableEq
abbrev Prd := List Atm
def Atm.nms : Atm → List Str
  | .n x => [x]
  | .t xs => xs
/-- an atom has only words of another one -/
def isW (a o : Atm) : Bool := match o with
  | .n y => decide (a = .n y)
  | .t ys => a.nms.all fun x => decide (x ∈ ys)
/-- what is left of a product when the atoms of another one take away what they can -/
def eat : Prd → Prd → Prd
  | p, [] => p
  | p, .n y :: q => eat (match p with | a :: r => if isW a (.n y) then r else p | [] => []) q
  | p, .t ys :: q => eat (p.dropWhile fun a => isW a (.t ys)) q
def within (p q : Prd) : Bool := (eat p q).isEmpty
def prdIn (ps : List Prd) (p : Prd) : Bool := ps.any fun q => within p q
def atomText : Atm → Str
  | .n x => x
  | .t xs => "{" ++ Txt.join " " xs ++ "}"
def prdText (p : Prd) : Str := if p.isEmpty then "." else Txt.join " " (p.map atomText)
/-- the atoms that are kept, the last one first -/
def popI (a : Atm) (kept : List Atm) : List Atm := match a with
  | .n _ => kept
  | .t _ => kept.dropWhile fun b => isW b a
def putI (a : Atm) (k : List Atm) : List Atm := match k with
  | .t ys :: k' => if isW a (.t ys) then .t ys :: k' else a :: .t ys :: k'
  | k => a :: k
def idleR : List Atm → Prd → List Atm
  | kept, [] => kept
  | kept, a :: r => idleR (putI a (popI a kept)) r
def idle (p : Prd) : Prd := (idleR [] p).reverse
/-- the last of the products with a text -/
def byText (ss : List Prd) (x : Str) : Prd := (ss.reverse.find? fun p => decide (prdText p = x)).getD []
noncomputable def normal (raw : List Prd) : List Prd :=
  let ss := raw.map idle
  let ts := asc (ss.map prdText)
  (ts.filter fun x => !(ts.any fun y => !decide (y = x) && within (byText ss x) (byText ss y))).map (byText ss)
def cross (a b : List Prd) : List Prd := a.flatMap fun p => b.map fun q => p ++ q
mutual
noncomputable def rawI : It → List Prd
  | .call x => [[.n x]]
  | .may b => rawB b [[]]
  | .loop b => [[.t (asc (nmB b))]]
  | .one bs => rawBs bs
noncomputable def rawB : List It → List Prd → List Prd
  | [] => fun acc => acc
  | i :: r => fun acc => rawB r (cross acc (rawI i))
noncomputable def rawBs : List (List It) → List Prd
  | [] => []
  | b :: r => rawB b [[]] ++ rawBs r
end
/-- the normal form of the products of a body -/
noncomputable def NP (l : List It) : List Prd := normal (rawB l [[]])
/-- a name can stand once, but not twice, somewhere in products -/
def Sing (ps : List Prd) (x : Str) : Prop := ∃ p ∈ ps, ∃ k, p[k]? = some (.n x) ∧ prdIn ps (p.take k ++ [.n x] ++ p.drop k) = false
/-! ### how many, how long -/
theorem cross_len (a b : List Prd) : (cross a b).length = a.length * b.length := by
  unfold cross
  induction a with
  | nil => simp
  | cons x r ih => rw [List.flatMap_cons, List.length_append, ih, List.length_map, List.length_cons, Nat.succ_mul, Nat.add_comm]
theorem mem_cross {a b : List Prd} {p : Prd} : p ∈ cross a b ↔ ∃ x ∈ a, ∃ y ∈ b, p = x ++ y := by
  simp only [cross, List.mem_flatMap, List.mem_map]
  exact ⟨fun ⟨x, hx, y, hy, e⟩ => ⟨x, hx, y, hy, e.symm⟩, fun ⟨x, hx, y, hy, e⟩ => ⟨x, hx, y, hy, e.symm⟩⟩
theorem two_pow_add {m n : Nat} (hm : 1 ≤ m) (hn : 1 ≤ n) : 2 ^ m + 2 ^ n ≤ 2 ^ (m + n) := by
  obtain ⟨a, rfl⟩ : ∃ a, m = a + 1 := ⟨m - 1, by omega⟩
  obtain ⟨b, rfl⟩ : ∃ b, n = b + 1 := ⟨n - 1, by omega⟩
  have ha : 1 ≤ 2 ^ a := Nat.one_le_two_pow
  have hb : 1 ≤ 2 ^ b := Nat.one_le_two_pow
  have e : 2 ^ (a + 1 + (b + 1)) = 4 * (2 ^ a * 2 ^ b) := by
    rw [show a + 1 + (b + 1) = a + b + 2 by omega, Nat.pow_add, Nat.pow_add]
    omega
  rw [e, Nat.pow_succ, Nat.pow_succ]
  have h1 : 2 ^ a ≤ 2 ^ a * 2 ^ b := Nat.le_mul_of_pos_right _ (by omega)
  have h2 : 2 ^ b ≤ 2 ^ a * 2 ^ b := Nat.le_mul_of_pos_left _ (by omega)
  omega
theorem nIB_pos {b : List It} (h : b ≠ []) : 1 ≤ nIB b := by
  cases b with
  | nil => exact absurd rfl h
  | cons i r => simp only [nIB]; omega
mutual
theorem rawI_len {ns : List Str} : ∀ i : It, okI ns i → (rawI i).length ≤ 2 ^ (nI i + 1)
  | .call x, _ => by simp [rawI, nI]
  | .may b, h => by
    simp only [okI] at h
    simp only [rawI, nI]
    have := rawB_len b [[]] h.2
    rw [List.length_singleton, Nat.one_mul] at this
    rw [Nat.pow_succ]
    omega
  | .loop b, h => by
    simp only [rawI, List.length_singleton]
    exact Nat.one_le_two_pow
  | .one bs, h => by
    simp only [okI] at h
    simp only [rawI, nI]
    have := (rawBs_len bs h.2.2.2).1
    have : 1 ≤ 2 ^ nIBs bs := Nat.one_le_two_pow
    rw [Nat.pow_succ]
    omega
theorem rawB_len {ns : List Str} : ∀ (l : List It) (acc : List Prd), okB ns l → (rawB l acc).length ≤ acc.length * 2 ^ nIB l
  | [], acc, _ => by simp [rawB, nIB]
  | i :: r, acc, h => by
    simp only [okB] at h
    simp only [rawB, nIB]
    have h1 := rawI_len i h.1
    have h2 := rawB_len r (cross acc (rawI i)) h.2
    rw [cross_len] at h2
    refine Nat.le_trans h2 ?_
    rw [Nat.add_comm 1 (nI i), Nat.pow_add, ← Nat.mul_assoc]
    exact Nat.mul_le_mul_right _ (Nat.mul_le_mul_left _ h1)
theorem rawBs_len {ns : List Str} : ∀ (bs : List (List It)), okBs ns bs → (rawBs bs).length ≤ 2 ^ nIBs bs + bs.countP (fun b => b.isEmpty) ∧ (nIBs bs = 0 → (rawBs bs).length ≤ bs.countP (fun b => b.isEmpty))
  | [], _ => by simp [rawBs]
  | b :: r, h => by
    simp only [okBs] at h
    have h1 := rawB_len b [[]] h.1
    have ih := rawBs_len r h.2
    rw [List.length_singleton, Nat.one_mul] at h1
    simp only [rawBs, nIBs, List.length_append, List.countP_cons]
    by_cases e : b = []
    · subst e
      simp only [rawB, List.length_singleton, nIB, List.isEmpty_nil, if_true, Nat.zero_add]
      exact ⟨by have := ih.1; omega, fun z => by have := ih.2 z; omega⟩
    · have e2 : b.isEmpty = false := by cases b with | nil => exact absurd rfl e | cons _ _ => rfl
      have np := nIB_pos e
      simp only [e2, Bool.false_eq_true, if_false, Nat.add_zero]
      refine ⟨?_, fun z => by omega⟩
      by_cases z : nIBs r = 0
      · have := ih.2 z
        rw [z, Nat.add_zero]
        omega
      · have h3 := two_pow_add np (by omega : 1 ≤ nIBs r)
        have := ih.1
        omega
end
mutual
theorem nC_pos {ns : List Str} : ∀ i : It, okI ns i → 1 ≤ nC i
  | .call x, _ => by simp [nC]
  | .may b, h => by simp only [okI] at h; simp only [nC]; exact nCB_pos b h.2 h.1
  | .loop b, h => by simp only [okI] at h; simp only [nC]; exact nCB_pos b h.2 h.1
  | .one bs, h => by
    simp only [okI] at h
    simp only [nC]
    exact nCBs_pos bs h.2.2.2 (by omega)
theorem nCB_pos {ns : List Str} : ∀ l : List It, okB ns l → l ≠ [] → 1 ≤ nCB l
  | [], _, h => absurd rfl h
  | i :: r, h, _ => by
    simp only [okB] at h
    simp only [nCB]
    have := nC_pos i h.1
    omega
theorem nCBs_pos {ns : List Str} : ∀ bs : List (List It), okBs ns bs → bs.countP (fun b => b.isEmpty) < bs.length → 1 ≤ nCBs bs
  | [], _, h => by simp at h
  | b :: r, h, k => by
    simp only [okBs] at h
    simp only [nCBs]
    by_cases e : b = []
    · subst e
      have := nCBs_pos r h.2 (by simp only [List.countP_cons, List.length_cons, List.isEmpty_nil, if_true] at k; omega)
      omega
    · have := nCB_pos b h.1 e
      omega
end
/-- a list that holds all products but the empty one -/
def Cov (ps : List Prd) (c : Nat) : Prop := ∃ D : List Prd, D.length + 1 ≤ 2 ^ c ∧ ∀ p ∈ ps, p = [] ∨ p ∈ D
theorem cov_app {a b : List Prd} {m n : Nat} (ha : Cov a m) (hb : Cov b n) : Cov (a ++ b) (m + n) := by
  obtain ⟨D, d1, d2⟩ := ha
  obtain ⟨E, e1, e2⟩ := hb
  refine ⟨D ++ E, ?_, fun p hp => ?_⟩
  · rw [List.length_append, Nat.pow_add]
    have := Nat.mul_le_mul d1 e1
    rw [Nat.add_mul, Nat.mul_add] at this
    omega
  · rcases List.mem_append.mp hp with h | h
    · exact (d2 p h).imp id fun h => List.mem_append_left _ h
    · exact (e2 p h).imp id fun h => List.mem_append_right _ h
theorem cov_cross {a b : List Prd} {m n : Nat} (ha : Cov a m) (hb : Cov b n) : Cov (cross a b) (m + n) := by
  obtain ⟨D, d1, d2⟩ := ha
  obtain ⟨E, e1, e2⟩ := hb
  refine ⟨D ++ E ++ cross D E, ?_, fun p hp => ?_⟩
  · rw [List.length_append, List.length_append, cross_len, Nat.pow_add]
    have := Nat.mul_le_mul d1 e1
    rw [Nat.add_mul, Nat.mul_add] at this
    omega
  · obtain ⟨x, hx, y, hy, rfl⟩ := mem_cross.mp hp
    rcases d2 x hx with rfl | hx
    · rcases e2 y hy with rfl | hy
      · exact .inl rfl
      · exact .inr (by simp [hy])
    · rcases e2 y hy with rfl | hy
      · exact .inr (by simp [hx])
      · exact .inr (List.mem_append_right _ (mem_cross.mpr ⟨x, hx, y, hy, rfl⟩))
mutual
theorem covI {ns : List Str} : ∀ i : It, okI ns i → Cov (rawI i) (nC i)
  | .call x, _ => ⟨[[.n x]], by simp [nC], fun p hp => .inr (by simpa [rawI] using hp)⟩
  | .may b, h => by
    simp only [okI] at h
    simp only [rawI, nC]
    have := covB b [[]] 0 h.2 ⟨[], by simp, by simp⟩
    rwa [Nat.zero_add] at this
  | .loop b, h => by
    simp only [okI] at h
    simp only [rawI, nC]
    refine ⟨[[.t (asc (nmB b))]], ?_, fun p hp => .inr hp⟩
    have := nCB_pos b h.2 h.1
    have : 2 ^ 1 ≤ 2 ^ nCB b := Nat.pow_le_pow_right (by decide) this
    simpa using this
  | .one bs, h => by
    simp only [okI] at h
    simp only [rawI, nC]
    exact covBs bs h.2.2.2
theorem covB {ns : List Str} : ∀ (l : List It) (acc : List Prd) (m : Nat), okB ns l → Cov acc m → Cov (rawB l acc) (m + nCB l)
  | [], acc, m, _, k => by simpa [rawB, nCB] using k
  | i :: r, acc, m, h, k => by
    simp only [okB] at h
    simp only [rawB, nCB]
    have := covB r _ (m + nC i) h.2 (cov_cross k (covI i h.1))
    rwa [Nat.add_assoc] at this
theorem covBs {ns : List Str} : ∀ (bs : List (List It)), okBs ns bs → Cov (rawBs bs) (nCBs bs)
  | [], _ => ⟨[], by simp [nCBs], by simp [rawBs]⟩
  | b :: r, h => by
    simp only [okBs] at h
    simp only [rawBs, nCBs]
    have h1 := covB b [[]] 0 h.1 ⟨[], by simp, by simp⟩
    rw [Nat.zero_add] at h1
    exact cov_app h1 (covBs r h.2)
end
/-- different texts of products are few -/
theorem cov_few {ps : List Prd} {c : Nat} (h : Cov ps c) {ts : List Str} (nd : ts.Nodup) {f : Prd → Str} (ht : ∀ x ∈ ts, ∃ p ∈ ps, x = f p) : ts.length ≤ 2 ^ c := by
  obtain ⟨D, d1, d2⟩ := h
  have := nd_le (b := f [] :: D.map f) nd fun x hx => by
    obtain ⟨p, hp, rfl⟩ := ht x hx
    rcases d2 p hp with rfl | hp
    · simp
    · exact List.mem_cons_of_mem _ (List.mem_map.mpr ⟨p, hp, rfl⟩)
  rw [List.length_cons, List.length_map] at this
  omega
/-- an atom of a body: its names are few, names of the program -/
def okAtm (ns : List Str) (a : Atm) : Prop := (∀ x ∈ a.nms, x ∈ ns) ∧ a.nms.length ≤ 5 ∧ 1 ≤ a.nms.length
def okPrd (ns : List Str) (m : Nat) (p : Prd) : Prop := p.length ≤ m ∧ ∀ a ∈ p, okAtm ns a
theorem okPrd.mono {ns : List Str} {m n : Nat} {p : Prd} (h : okPrd ns m p) (e : m ≤ n) : okPrd ns n p := ⟨Nat.le_trans h.1 e, h.2⟩
theorem okPrd.app {ns : List Str} {m n : Nat} {p q : Prd} (h : okPrd ns m p) (k : okPrd ns n q) : okPrd ns (m + n) (p ++ q) :=
  ⟨by rw [List.length_append]; have := h.1; have := k.1; omega, fun a ha => (List.mem_append.mp ha).elim (h.2 a) (k.2 a)⟩
theorem ltCps_iff {a b : Str} : ltCps a.cps.toList b.cps.toList = true ↔ ¬ leS b a := by
  rw [ltCps_eq]
  unfold leS
  rw [List.not_le]
  simp
theorem leS_total (a b : Str) : leS a b ∨ leS b a := List.le_total _ _
theorem pw_rising : ∀ (p : Str) (l : List Str), (p :: l).Pairwise leS → risingS p l = true
  | p, [], _ => rfl
  | p, x :: r, h => by
    obtain ⟨h1, h2⟩ := List.pairwise_cons.mp h
    show (!ltCps x.cps.toList p.cps.toList && risingS x r) = true
    rw [pw_rising x r h2, Bool.and_true]
    cases e : ltCps x.cps.toList p.cps.toList with
    | false => rfl
    | true => exact absurd (h1 x (by simp)) (ltCps_iff.mp e)
theorem pw_sorted : ∀ {l : List Str}, l.Pairwise leS → sortedS l = true
  | [], _ => rfl
  | x :: r, h => pw_rising x r h
open Classical in
/-- for each list of texts there is the ascending one -/
theorem asc_ex : ∀ l : List Str, ∃ ys, Tells ys l
  | [] => ⟨[], List.nodup_nil, rfl, fun x => Iff.rfl⟩
  | x :: r => by
    obtain ⟨ys, nd, so, mem⟩ := asc_ex r
    by_cases hx : x ∈ ys
    · exact ⟨ys, nd, so, fun y => by
        rw [mem, List.mem_cons]
        exact ⟨.inr, fun h => h.elim (fun e => by rw [e]; exact (mem x).mp hx) id⟩⟩
    · have pw := sorted_pw so
      refine ⟨ys.filter (fun y => decide (leS y x)) ++ x :: ys.filter (fun y => decide (¬ leS y x)), ?_, pw_sorted ?_, fun y => ?_⟩
      · rw [List.nodup_append, List.nodup_cons]
        refine ⟨nd.filter _, ⟨fun h => hx (List.mem_filter.mp h).1, nd.filter _⟩, fun a ha b hb e => ?_⟩
        subst e
        obtain ⟨a1, a2⟩ := List.mem_filter.mp ha
        rcases List.mem_cons.mp hb with rfl | hb
        · exact hx a1
        · exact of_decide_eq_true (List.mem_filter.mp hb).2 (of_decide_eq_true a2)
      · rw [List.pairwise_append, List.pairwise_cons]
        refine ⟨pw.filter _, ⟨fun b hb => (leS_total b x).resolve_left (of_decide_eq_true (List.mem_filter.mp hb).2), pw.filter _⟩, fun a ha b hb => ?_⟩
        have a2 := of_decide_eq_true (List.mem_filter.mp ha).2
        rcases List.mem_cons.mp hb with rfl | hb
        · exact a2
        · exact leS_trans a2 ((leS_total b x).resolve_left (of_decide_eq_true (List.mem_filter.mp hb).2))
      · rw [List.mem_append, List.mem_cons, List.mem_filter, List.mem_filter, List.mem_cons, ← mem]
        by_cases z : leS y x
        · simp [z]; constructor
          · rintro (h | h)
            · exact .inr h
            · exact .inl h
          · rintro (h | h)
            · exact .inr h
            · exact .inl h
        · simp [z]
theorem asc_tells (l : List Str) : Tells (asc l) l := by
  obtain ⟨ys, h⟩ := asc_ex l
  rw [asc_of h]
  exact h
theorem asc_congr {l m : List Str} (h : ∀ x, x ∈ l ↔ x ∈ m) : asc l = asc m := (asc_tells l).one (asc_tells m) h
theorem asc_len (l : List Str) : (asc l).length ≤ l.length := nd_le (asc_tells l).nd fun x hx => ((asc_tells l).mem x).mp hx
theorem okPrd.nil {ns : List Str} {m : Nat} : okPrd ns m [] := ⟨Nat.zero_le _, fun a h => by cases h⟩
theorem cross_ok {ns : List Str} {a b : List Prd} {m n : Nat} (ha : ∀ p ∈ a, okPrd ns m p) (hb : ∀ p ∈ b, okPrd ns n p) : ∀ p ∈ cross a b, okPrd ns (m + n) p := fun p hp => by
  obtain ⟨x, hx, y, hy, rfl⟩ := mem_cross.mp hp
  exact (ha x hx).app (hb y hy)
mutual
theorem rawI_ok {ns : List Str} : ∀ i : It, okI ns i → nC i ≤ 5 → ∀ p ∈ rawI i, okPrd ns (nC i) p
  | .call x, h, _, p, hp => by
    simp only [okI] at h
    simp only [rawI, List.mem_singleton] at hp
    subst hp
    exact ⟨by simp [nC], fun a ha => by rw [List.mem_singleton.mp ha]; exact ⟨fun y hy => by rw [List.mem_singleton.mp hy]; exact h, by simp [Atm.nms], by simp [Atm.nms]⟩⟩
  | .may b, h, c, p, hp => by
    simp only [okI] at h
    simp only [rawI] at hp
    simp only [nC] at c ⊢
    have := rawB_ok b [[]] 0 h.2 c (fun p hp => by rw [List.mem_singleton.mp hp]; exact .nil) p hp
    rwa [Nat.zero_add] at this
  | .loop b, h, c, p, hp => by
    simp only [okI] at h
    simp only [rawI, List.mem_singleton] at hp
    simp only [nC] at c ⊢
    subst hp
    have np := nCB_pos b h.2 h.1
    have tl := asc_tells (nmB b)
    have al := asc_len (nmB b)
    have nl := nmB_len b
    refine ⟨by simpa using np, fun a ha => ?_⟩
    rw [List.mem_singleton.mp ha]
    refine ⟨fun x hx => nmB_ok b h.2 x ((tl.mem x).mp hx), by show (asc (nmB b)).length ≤ 5; omega, ?_⟩
    show 1 ≤ (asc (nmB b)).length
    obtain ⟨x, hx⟩ : ∃ x, x ∈ nmB b := List.exists_mem_of_length_pos (by omega)
    exact List.length_pos_of_mem ((tl.mem x).mpr hx)
  | .one bs, h, c, p, hp => by
    simp only [okI] at h
    simp only [rawI] at hp
    simp only [nC] at c ⊢
    exact rawBs_ok bs h.2.2.2 c p hp
theorem rawB_ok {ns : List Str} : ∀ (l : List It) (acc : List Prd) (m : Nat), okB ns l → nCB l ≤ 5 → (∀ p ∈ acc, okPrd ns m p) → ∀ p ∈ rawB l acc, okPrd ns (m + nCB l) p
  | [], acc, m, _, _, k, p, hp => by
    simp only [rawB] at hp
    simpa [nCB] using k p hp
  | i :: r, acc, m, h, c, k, p, hp => by
    simp only [okB] at h
    simp only [rawB] at hp
    simp only [nCB] at c ⊢
    have := rawB_ok r _ (m + nC i) h.2 (by omega) (cross_ok k (rawI_ok i h.1 (by omega))) p hp
    rwa [Nat.add_assoc] at this
theorem rawBs_ok {ns : List Str} : ∀ (bs : List (List It)), okBs ns bs → nCBs bs ≤ 5 → ∀ p ∈ rawBs bs, okPrd ns (nCBs bs) p
  | [], _, _, p, hp => by simp [rawBs] at hp
  | b :: r, h, c, p, hp => by
    simp only [okBs] at h
    simp only [rawBs] at hp
    simp only [nCBs] at c ⊢
    rcases List.mem_append.mp hp with hp | hp
    · have := rawB_ok b [[]] 0 h.1 (by omega) (fun p hp => by rw [List.mem_singleton.mp hp]; exact .nil) p hp
      exact this.mono (by omega)
    · exact (rawBs_ok r h.2 (by omega) p hp).mono (by omega)
end
theorem idleR_ok {ns : List Str} : ∀ (p kept : List Atm), (∀ a ∈ p, okAtm ns a) → (∀ a ∈ kept, okAtm ns a) → (∀ a ∈ idleR kept p, okAtm ns a) ∧ (idleR kept p).length ≤ kept.length + p.length
  | [], kept, _, h => ⟨by simpa [idleR] using h, by simp [idleR]⟩
  | a :: r, kept, hp, h => by
    have ha := hp a (by simp)
    have hr : ∀ b ∈ r, okAtm ns b := fun b hb => hp b (List.mem_cons_of_mem _ hb)
    have hk1 : ∀ b ∈ popI a kept, okAtm ns b := fun b hb => by
      cases a with
      | n x => exact h b hb
      | t xs => exact h b ((List.dropWhile_sublist _).subset hb)
    have hk2 : (popI a kept).length ≤ kept.length := by
      cases a with
      | n x => exact Nat.le_refl _
      | t xs => exact (List.dropWhile_sublist _).length_le
    obtain ⟨k, e1⟩ : ∃ k, k = popI a kept := ⟨_, rfl⟩
    rw [← e1] at hk1 hk2
    have hm1 : ∀ b ∈ putI a k, okAtm ns b := fun b hb => by
      unfold putI at hb
      split at hb
      · split at hb
        · exact hk1 b hb
        · rcases List.mem_cons.mp hb with rfl | hb
          · exact ha
          · exact hk1 b hb
      · rcases List.mem_cons.mp hb with rfl | hb
        · exact ha
        · exact hk1 b hb
    have hm2 : (putI a k).length ≤ kept.length + 1 := by
      unfold putI
      split
      · split
        · omega
        · simp only [List.length_cons] at hk2 ⊢; omega
      · simp only [List.length_cons]; omega
    have ih := idleR_ok r (putI a k) hr hm1
    have e3 : idleR kept (a :: r) = idleR (putI a k) r := by rw [e1]; rfl
    rw [e3]
    exact ⟨ih.1, by have := ih.2; simp only [List.length_cons]; omega⟩
theorem idle_ok {ns : List Str} {m : Nat} {p : Prd} (h : okPrd ns m p) : okPrd ns m (idle p) := by
  have := idleR_ok p [] h.2 (by simp)
  unfold idle
  refine ⟨?_, fun a ha => this.1 a (List.mem_reverse.mp ha)⟩
  have h1 := this.2
  have h2 := h.1
  rw [List.length_reverse]
  simp only [List.length_nil, Nat.zero_add] at h1
  omega
end FA

set_option Elab.async false
set_option linter.all false
set_option maxRecDepth 100000
set_option maxHeartbeats 4000000
/-! Set comprehensions of whole numbers, with one clause and with two. -/
namespace FA
open PySem PySem.Spec PyProof.Rows L2
section
variable {P : Program} {w : World} {A : Around}
/-- the tests of a clause, as the machine asks them -/
def testAll (ifs : List Expr) (env : Env) : Sem Bool := forIn ifs true fun c r => if r = true then do let ok ← isTrue c env (eval c env); pure (ForInStep.yield ok) else pure (ForInStep.yield r)
/-- one item of a clause: drawn, stored, tested -/
def Draws (P : Program) (w : World) (A : Around) (env : Env) (tg : Expr) (ifs : List Expr) (it : Value) (E : Value → Shared → Prop) (over : Shared → Prop) (with_ : Bool → Shared → Prop) (s : Shared) : Prop :=
  wpAny (model P w) A (pyNext it) (fun r s1 => match r with
    | none => over s1
    | some v => wpAny (model P w) A (letOwnedTupleGo tg it v) (fun _ s2 => wpAny (model P w) A (assign tg env v) (fun _ s3 => wpAny (model P w) A (testAll ifs env) with_ E s3) E s2) E s1) E s
/-- one turn of a clause that does b with an item -/
def turnOf (c : Code) (ip : Pos) (tg : Expr) (ifs : List Expr) (it : Value) (env : Env) (b : Sem Unit) : Sem Fin := do
  standAt ip
  match ← pyNext it with
  | none => pure (.done .next)
  | some v =>
    letOwnedTupleGo tg it v
    assign tg env v
    let mut ok := true
    for x in ifs do
      if ok then ok ← isTrue x env (eval x env)
    if ok then b
    again c
theorem turns_by {e : Expr} {k : Nat} {it acc : Value} {env : Env} {ip : Pos} {tg : Expr} {ifs : List Expr} {b : Sem Unit} {R : Result → Shared → Prop} (hq : (Code.compLoop e k it acc env).quiet = true)
    (eq : compTurn e k it acc env = turnOf (.compLoop e k it acc env) ip tg ifs it env b)
    (den : (model P w).den (.compLoop e k it acc env) = (compTurn e k it acc env).onRaise (fun x => do noteFrame x env; theTreesLotGoes x)) (und : A.under (.compLoop e k it acc env) = A)
    (J : Nat → Shared → Prop)
    (one : ∀ n s, J n s → Draws P w A env tg ifs it (notedBy (model P w) A env fun x s' => R (.error x) s') (R (.ok .next))
      (fun ok s' => if ok = true then wpAny (model P w) A b (fun _ s'' => ∃ m, m < n ∧ J m s'') (notedBy (model P w) A env fun x s' => R (.error x) s') s' else ∃ m, m < n ∧ J m s') s) {n : Nat} {s : Shared} (h : J n s) :
    codeAny (model P w) A (.compLoop e k it acc env) R s := by
  refine codeAny_loop hq J (fun n s hJ => ?_) n h
  rw [und, den]
  refine wpAny_noted ?_
  rw [eq]
  unfold turnOf
  refine wpAny_bind (wpAny_standAt (wpAny_bind (wpAny_mono (one n s hJ) (fun r s1 d1 => ?_) fun _ _ z => z)))
  cases r with
  | none => exact wpAny_pure d1
  | some v =>
    refine wpAny_bind (wpAny_mono d1 (fun _ s2 d2 => wpAny_bind (wpAny_mono d2 (fun _ s3 d3 => wpAny_bind (wpAny_mono d3 (fun ok s4 d4 => ?_) fun _ _ z => z)) fun _ _ z => z)) fun _ _ z => z)
    cases ok with
    | false => exact wpAny_pure ⟨rfl, d4⟩
    | true => exact wpAny_bind (wpAny_mono d4 (fun _ s5 d5 => wpAny_pure ⟨rfl, d5⟩) fun _ _ z => z)
/-- a clause's start: its loop, or its loop behind one more iter() -/
theorem starts_by {e : Expr} {k : Nat} {it acc : Value} {env : Env} {g : Comprehension} {R : Result → Shared → Prop} {s : Shared} (hg : (clausesOf e)[k]? = some g) (ha : g.is_async = 0)
    (den : (model P w).den (.compStart e k it acc env) = (compStart e k it acc env).onRaise (fun x => do noteFrame x env; standAt theWindowsPlace)) (und : A.under (.compStart e k it acc env) = A)
    (q : (Code.compLoop e k it acc env).quiet = true)
    (h : codeAny (model P w) A (.compLoop e k it acc env) R s) (again_ : wpAny (model P w) A (pyIter it) (fun v s' => codeAny (model P w) A (.compLoop e k v acc env) R s' ∧ (Code.compLoop e k v acc env).quiet = true) (notedBy (model P w) A env fun x s' => R (.error x) s') s) :
    codeAny (model P w) A (.compStart e k it acc env) R s := by
  refine codeAny_of_tree ?_
  rw [und, den]
  refine wpAny_notedAt ?_
  unfold compStart
  rw [hg]
  simp only [Option.elim, ha, bne_self_eq_false, Bool.false_eq_true, if_false]
  refine wpAny_bind (wpAny_askSetting (wpAny_ite ?_))
  split
  · exact wpAny_pure ⟨q, h⟩
  · refine wpAny_bind (wpAny_rule (wpAny_bind (wpAny_standAt (wpAny_bind (wpAny_mono again_ (fun v s' z => wpAny_pure ⟨z.2, z.1⟩) fun _ _ z => z)))))
end
theorem draws_mono {P : Program} {w : World} {A : Around} {env : Env} {tg : Expr} {ifs : List Expr} {it : Value} {E : Value → Shared → Prop} {o o' : Shared → Prop} {v v' : Bool → Shared → Prop} {s : Shared} (h : Draws P w A env tg ifs it E o v s) (ho : ∀ s, o s → o' s) (hv : ∀ b s, v b s → v' b s) : Draws P w A env tg ifs it E o' v' s := by
  refine wpAny_mono h (fun r s1 z => ?_) fun _ _ z => z
  cases r with
  | none => exact ho _ z
  | some u => exact wpAny_mono z (fun _ s2 z => wpAny_mono z (fun _ s3 z => wpAny_mono z hv fun _ _ z => z) fun _ _ z => z) fun _ _ z => z
theorem wipe_twice {σ : L2.St} {vs : List Nat} : wipe (wipe σ vs) vs = wipe σ vs := by
  have key : ∀ (vs : List Nat) (σ : L2.St) (i : Nat), (wipe σ vs)[i]? = if i ∈ vs then (if i < σ.length then some none else none) else σ[i]? := by
    intro vs
    induction vs with
    | nil => intro σ i; simp [wipe]
    | cons v r ih =>
      intro σ i
      have e : wipe σ (v :: r) = (wipe σ r).set v none := rfl
      rw [e, List.getElem?_set]
      by_cases h : v = i
      · subst h
        simp [wipe_length]
      · rw [if_neg h, ih]
        have h' : ¬ i = v := fun z => h z.symm
        have : i ∈ v :: r ↔ i ∈ r := by simp [h']
        simp only [this]
  refine List.ext_getElem? fun i => ?_
  rw [key, key]
  split
  · rw [wipe_length]
  · rfl
section
/-- within a block B: a walk stands behind some items, n turns are left at most -/
def InLoop (B : Cx) (pins : List (Addr × Obj)) (τ : L2.St) (fp : List Addr) (tn : Nat → Heap → Prop) (W : Nat → Nat → Hp → Prop) (n : Nat) (s : Shared) : Prop :=
  ∃ i H, L2.Inv B pins τ H s ∧ tn i s.heap ∧ (∀ b ∈ fp, H b = none) ∧ W i n H
/-- what such a loop asks: an end that is reached, or an item whose body brings it a turn further -/
def Loops (J : L2.It) (g : TG) (tt : TT) (τ : L2.St) (vs : List Nat) (over : Hp → Prop) (body : Bool → L2.St → Hp → (Hp → Prop) → Prop) (W : Nat → Nat → Hp → Prop) : Prop :=
  ∀ i m H, W i m H → (J.stop i H ∧ over H) ∨ (J.go i H ∧ ∃ N : Hp → Prop, (∀ H', N H' → ∃ m', m' < m ∧ W (i + 1) m' H') ∧ ∀ x H', J.yld i H x H' → g x τ H' fun σ2 H2 => wipe σ2 vs = wipe τ vs ∧ tt σ2 H2 fun b H3 => body b σ2 H3 N)
theorem one_turn {B : Cx} {tg : Expr} {ifs : List Expr} {J : L2.It} {fp : List Addr} {it : Addr} {tn : Nat → Heap → Prop} {g : TG} {tt : TT} {pins : List (Addr × Obj)} {τ : L2.St} {vs : List Nat} {over : Hp → Prop} {body : Bool → L2.St → Hp → (Hp → Prop) → Prop} {W : Nat → Nat → Hp → Prop} {E : Value → Shared → Prop} {n : Nat} {s : Shared}
    (T : Turn B.prog B.w B.K tg J fp it tn) (calm : B.calm = true) (hx : B.xe = fun _ _ => False) (G : PG B tg g) (C : PTs B ifs tt) (free : ∀ {σ' : L2.St} {H' : Hp} {s' : Shared}, L2.Inv B pins σ' H' s' → (∀ b ∈ fp, H' b = none) → ∀ b ∈ fp, FpOk B pins H' b)
    (L : Loops J g tt τ vs over body W) (S : InLoop B pins τ fp tn W n s) :
    Draws B.prog B.w B.A B.env tg ifs (.ref it) E (fun s' => ∃ H', L2.Inv B pins τ H' s' ∧ over H')
      (fun ok s' => ∃ σ2 H3 N pn, L2.Inv B (pins ++ pn) σ2 H3 s' ∧ wipe σ2 vs = wipe τ vs ∧ body ok σ2 H3 N ∧
        ∀ {σ' : L2.St} {s'' : Shared} {H' : Hp}, L2.Inv B (pins ++ pn) σ' H' s'' → τ.length = σ'.length → (∀ (j : Nat) v, τ[j]? = some (some v) → σ'[j]? = some (some v)) → N H' → ∃ m, m < n ∧ InLoop B pins τ fp tn W m s'') s := by
  obtain ⟨i, H, I, st, nf, w0⟩ := S
  rcases L i n H w0 with ⟨hstop, ho⟩ | ⟨hgo, N, hN, hstep⟩
  · refine thnF (T.done B rfl rfl rfl calm i pins s τ H (fun _ _ => False) I (free I nf) st hstop) fun r s1 hr => ?_
    obtain ⟨rfl, I1⟩ := hr
    exact ⟨H, I1, ho⟩
  · refine thnF (T.item B rfl rfl rfl calm i pins s τ H (fun _ _ => False) I (free I nf) st hgo) fun r s1 hr => ?_
    obtain ⟨u, rfl, hu⟩ := hr
    refine thnF hu fun _ s2 hu2 => ?_
    obtain ⟨x, H2, I2, rx, y2, st2, nf2⟩ := hu2
    have I2p := I2.pinned (free I2 nf2) (T.obj _ _ st2)
    have ga := G.run _ s2 τ H2 x u _ I2p rx (hstep x H2 y2)
    rw [hx] at ga
    refine thnF ga fun _ s3 ⟨σ3, H3, I3, hw3, q3⟩ => ?_
    have ca := C.run _ s3 σ3 H3 _ I3 q3
    rw [hx] at ca
    refine thnF ca fun ok s4 ⟨H4, I4, q4⟩ => ?_
    refine ⟨σ3, H4, N, pinsAt fp s2.heap, I4, hw3, q4, fun {σ' s'' H'} I' hl hk nx => ?_⟩
    obtain ⟨m', hm, w'⟩ := hN H' nx
    have kept : ∀ b ∈ fp, ∀ o, s2.heap.get? b = some o → s''.heap.get? b = some o ∧ H' b = none := fun b hb o e => by
      have z := I'.pin (b, o) (List.mem_append_right _ (List.mem_append_right _ (mem_pinsAt hb e)))
      exact ⟨z.1, z.2.1⟩
    refine ⟨m', hm, i + 1, H', I'.unpinned.weak hl hk, T.keep _ _ _ st2 fun b hb o e => (kept b hb o e).1, fun b hb => ?_, w'⟩
    obtain ⟨o, e, _⟩ := T.obj _ _ st2 b hb
    exact (kept b hb o e).2
/-- one more number in a set that is being made -/
theorem adds {B : Cx} {pins : List (Addr × Obj)} {τ : L2.St} {H : Hp} {s : Shared} {E : Value → Shared → Prop} {D : Addr} {S : Int → Bool} {n : Nat} {k : Int} {u : Value} {Q : Value → Shared → Prop} (I : L2.Inv B pins τ H s) (hD : H D = some (SetO B.w D S n)) (room : n + 1 < scanBound) (ru : L2.RelV (.int k) u)
    (q : ∀ s', L2.Inv B pins τ (upd H D (SetO B.w D (fun j => S j || decide (j = k)) (if S k = true then n else n + 1))) s' → Q .none s') : wpAny (model B.prog B.w) B.A (call (.builtin "set.add") [.ref D, u]) Q E s := by
  obtain ⟨t, rfl⟩ := ru
  refine setR_add (setO_get I hD) room fun h' keeps made => ?_
  obtain ⟨o, _, _, _, ho, _⟩ := id made
  exact q _ (I.write (e := D) (t' := s.toks + 1) (by rw [hD]; trivial) (.inl rfl) (fun b v hb hv => (keeps.2 b hb).trans hv) ⟨o, ho⟩ (setO_new made))
end
section
variable {X : Cx}
/-- what stands at D while the set is made -/
def adding (w : World) (D : Addr) (te : TE) (σ : L2.St) (H : Hp) (N : Hp → Prop) : Prop := te σ H fun y H1 => ∃ (k : Int) (S : Int → Bool) (n : Nat), y = .int k ∧ H1 D = some (SetO w D S n) ∧ n + 1 < scanBound ∧ N (upd H1 D (SetO w D (fun j => S j || decide (j = k)) (if S k = true then n else n + 1)))
def tSi (w : World) (wi : TI) (g : TG) (tt : TT) (te : TE) (vs : List Nat) : TE := fun σ H Q => wi σ H fun J H1 => ∀ D, H1 D = none → ∃ W : Nat → Nat → Hp → Prop, (∃ m, W 0 m (upd H1 D (SetO w D (fun _ => false) 0))) ∧
  Loops J g tt (wipe σ vs) vs (fun H => Q (.ref D) H) (fun b σ2 H3 N => if b = true then adding w D te σ2 H3 N else N H3) W
def tSi2 (w : World) (wi : TI) (g : TG) (tt : TT) (wi1 : TI) (g1 : TG) (tt1 : TT) (te : TE) (vs vs1 : List Nat) : TE := fun σ H Q => wi σ H fun J H1 => ∀ D, H1 D = none → ∃ W : Nat → Nat → Hp → Prop, (∃ m, W 0 m (upd H1 D (SetO w D (fun _ => false) 0))) ∧
  Loops J g tt (wipe σ vs) vs (fun H => Q (.ref D) H) (fun b σ2 H3 N => if b = true then wi1 σ2 H3 fun J1 H4 => ∃ W1 : Nat → Nat → Hp → Prop, (∃ m, W1 0 m H4) ∧
    Loops J1 g1 tt1 (wipe σ2 vs1) vs1 N (fun b σ3 H5 N1 => if b = true then adding w D te σ3 H5 N1 else N1 H5) W1 else N H3) W
/-- the frame of a set comprehension: what is walked first, the new set, the block's own context; its loop is left -/
theorem set_frame {elt tg iter : Expr} {ifs : List Expr} {more : List Comprehension} {scope : Scope} {own : List (Str × Nat)} {pos ip : Pos} {wi : TI} {pins : List (Addr × Obj)} {σ : L2.St} {H : Hp} {s : Shared} {Q : VK} {R : L2.It → Hp → Prop}
    (I : L2.Inv X pins σ H s) (nd : X.N.Nodup) (hi : PI X tg iter wi) (ok : BlkOk X.N X.env.scope scope own) (fold : ∀ x, foldedSetIterable iter X.env x = pure x) (h : wi σ H R)
    (loop : ∀ (s3 s4 : Shared) (H2 H3 : Hp) (D C it : Addr) (cl : List (Str × Addr)) (fp : List Addr) (tn : Nat → Heap → Prop) (J : L2.It), R J H2 → H2 D = none → H3 = upd H2 D (SetO X.w D (fun _ => false) 0) → Turn X.prog X.w X.K tg J fp it tn →
      (∀ {σ' : L2.St} {H' : Hp} {s' : Shared}, L2.Inv (X.blk s3 H3 scope (compEnvC scope cl C X.env) fp) [] σ' H' s' → (∀ b ∈ fp, H' b = none) → ∀ b ∈ fp, FpOk (X.blk s3 H3 scope (compEnvC scope cl C X.env) fp) [] H' b) →
      L2.Inv (X.blk s3 H3 scope (compEnvC scope cl C X.env) fp) [] (wipe σ (own.map (·.2))) H3 s4 → tn 0 s4.heap → (∀ b ∈ fp, H3 b = none) →
      codeAny (model X.prog X.w) X.A (.compLoop (.SetComp elt (⟨tg, iter, ifs, 0⟩ :: more) scope pos) 0 (.ref it) (.ref D) (compEnvC scope cl C X.env))
        (fun r s' => r = .ok .next ∧ ∃ H', L2.Inv (X.blk s3 H3 scope (compEnvC scope cl C X.env) fp) [] (wipe σ (own.map (·.2))) H' s' ∧ Q (.ref D) H') s4) :
    wpAny (model X.prog X.w) X.A (comprehension (.SetComp elt (⟨tg, iter, ifs, 0⟩ :: more) scope pos) scope X.env ip (newSet (.type "set")) false (eval iter X.env)) (fun u s' => ∃ v H', L2.Inv X pins σ H' s' ∧ L2.RelV v u ∧ Q v H') X.xe s := by
  have cells : ∀ y ∈ scope.names, y.2 = .free → ∃ c, X.env.cells.lookup y.1 = some c := fun y hy e => (ok.free y hy e).elim (fun k => I.ok.has _ (.inl k)) fun k => I.ok.has _ (.inr k)
  refine wpAny_comprehension_free (use := none) rfl fold (closure_ok cells) ok.kind (fun y hy e => (ok.uniq y hy).trans (congrArg some e)) ?_
  refine thn (hi.run pins s σ H _ I h) fun _ _ hx => thn hx fun _ s2 hw => ?_
  obtain ⟨it, fp, tn, J, H2, rfl, I2, T, st2, f2, q⟩ := hw
  refine PpSet.newSet_ok (newEnv_comp ?_)
  obtain ⟨D, hD⟩ : ∃ D, D = s2.heap.objs.size := ⟨_, rfl⟩
  rw [← hD]
  have Dnew : H2 D = none := I2.hok.fresh (Nat.le_of_eq hD.symm)
  obtain ⟨s3, e3⟩ : ∃ z : Shared, z = { s2 with heap := s2.heap.push { cls := .type "set", dict := none, data := .set #[] 0 (.fresh 0 0 (!X.w.params.followText "set-order")) } } := ⟨_, rfl⟩
  rw [← e3]
  have kept : ∀ b o, s2.heap.get? b = some o → s3.heap.get? b = some o := fun b o e => by rw [e3]; exact Heap.get?_push_of_some _ e
  have I3 : L2.Inv X pins σ (upd H2 D (SetO X.w D (fun _ => false) 0)) s3 := by
    rw [e3]
    refine I2.laid (t' := s2.toks) (fun b o e => Heap.get?_push_of_some _ e) (Nat.le_of_eq hD.symm) ?_
    rw [hD]
    exact setO_new (setR_fresh X.w)
  have small : ∀ b ∈ fp, b < s2.heap.objs.size := fun b hb => (T.obj _ _ st2 b hb).elim fun o e => Heap.lt_size e.1
  obtain ⟨H3, eH⟩ : ∃ z, z = upd H2 D (SetO X.w D (fun _ => false) 0) := ⟨_, rfl⟩
  rw [← eH] at I3
  have f3 : ∀ b ∈ fp, FpOk X pins H3 b ∧ b < s3.heap.objs.size := fun b hb => by
    have lt := small b hb
    have ne : b ≠ D := by rw [hD]; exact Nat.ne_of_lt lt
    refine ⟨⟨?_, (f2 b hb).2⟩, by rw [e3]; exact Nat.lt_of_lt_of_le lt (by rw [Heap.size_push]; exact Nat.le_succ _)⟩
    rw [eH, upd_ne ne]
    exact (f2 b hb).1
  have IB := block_start I3 ok nd f3
  have st4 : tn 0 (pushCells (s3.heap.push { cls := .type "dict", data := .dict #[] }) scope.names) := T.keep _ _ _ st2 fun b _ o e => pushCells_keeps _ _ _ _ (Heap.get?_push_of_some _ (kept b o e))
  have nf : ∀ b ∈ fp, H3 b = none := fun b hb => (f3 b hb).1.1
  have free : ∀ {C : Addr} {cl : List (Str × Addr)} {σ' : L2.St} {H' : Hp} {s' : Shared}, L2.Inv (X.blk s3 H3 scope (compEnvC scope cl C X.env) fp) [] σ' H' s' → (∀ b ∈ fp, H' b = none) → ∀ b ∈ fp, FpOk (X.blk s3 H3 scope (compEnvC scope cl C X.env) fp) [] H' b := fun J' hn b hb =>
    ⟨hn b hb, (J'.ok.exf b hb).1, J'.ok.exfs b hb, .inl hb, (J'.ok.exf b hb).2, fun p hp => by
      rw [List.append_nil] at hp
      exact absurd hp List.not_mem_nil⟩
  have run := loop s3 { s3 with heap := pushCells (s3.heap.push { cls := .type "dict", data := .dict #[] }) scope.names } H2 H3 D s3.heap.objs.size it (cellsFrom (s3.heap.objs.size + 1) scope.names (cloFrom X.env.cells scope.names [])) fp tn J q Dnew eH T free IB st4 nf
  have back : codeAny (model X.prog X.w) X.A (.compLoop (.SetComp elt (⟨tg, iter, ifs, 0⟩ :: more) scope pos) 0 (.ref it) (.ref D) (compEnvC scope (cellsFrom (s3.heap.objs.size + 1) scope.names (cloFrom X.env.cells scope.names [])) s3.heap.objs.size X.env))
      (compPost (model X.prog X.w) X.A X.xe none (fun u s' => ∃ v H', L2.Inv X pins σ H' s' ∧ L2.RelV v u ∧ Q v H') (.ref D) s3.heap.objs.size) { s3 with heap := pushCells (s3.heap.push { cls := .type "dict", data := .dict #[] }) scope.names } := by
    refine codeAny_mono run fun r s' hr => ?_
    obtain ⟨rfl, H', J', qq⟩ := hr
    have IX : L2.Inv X pins σ H' s' := I3.call' (ch := fp) J'.os J'.base J'.hok J'.bare fun b hb => by
      obtain ⟨_, a1, a2, a3, a4, a5⟩ := (f3 b hb).1
      exact ⟨a3, a1, a4, a5⟩
    obtain ⟨m, ns, _⟩ := J'.loc
    refine ⟨m, ns, fun h'' sb => ?_⟩
    obtain ⟨b0, b1, b2, b3, b4, b5⟩ := I3.fpOk (Nat.le_refl _) (show H' s3.heap.objs.size = none from J'.free)
    exact ⟨.ref D, H', IX.turned (t' := s'.toks) (fun b o hb e => (sb.2 b hb).trans e) b0 b1 b3 b4 b5, rfl, qq⟩
  exact starts_by (g := ⟨tg, iter, ifs, 0⟩) rfl rfl rfl rfl rfl back (T.self X.A 0 _ _ _ st4 ⟨back, rfl⟩)
/-- {elt for tg in iter if ..}, elt a whole number -/
theorem pe_si {elt tg iter : Expr} {ifs : List Expr} {scope : Scope} {own : List (Str × Nat)} {pos : Pos} {wi : TI} {g : TG} {tt : TT} {te : TE} (hc : X.calm = true) (nd : X.N.Nodup) (hi : PI X tg iter wi) (ok : BlkOk X.N X.env.scope scope own)
    (hg : ∀ (s : Shared) (H : Hp) (C : Addr) (cl : List (Str × Addr)) (fp : List Addr), PG (X.blk s H scope (compEnvC scope cl C X.env) fp) tg g) (ht : ∀ (s : Shared) (H : Hp) (C : Addr) (cl : List (Str × Addr)) (fp : List Addr), PTs (X.blk s H scope (compEnvC scope cl C X.env) fp) ifs tt)
    (he : ∀ (s : Shared) (H : Hp) (C : Addr) (cl : List (Str × Addr)) (fp : List Addr), PE (X.blk s H scope (compEnvC scope cl C X.env) fp) elt te) (fold : ∀ x, foldedSetIterable iter X.env x = pure x := by intro _; rfl) :
    PE X (.SetComp elt [⟨tg, iter, ifs, 0⟩] scope pos) (tSi X.w wi g tt te (own.map (·.2))) := by
  refine ⟨fun pins s σ H Q I h => ?_⟩
  rw [PpSet.eval_SetComp]
  refine set_frame I nd hi ok fold h fun s3 s4 H2 H3 D C it cl fp tn J q Dn eH T free IB st nf => ?_
  obtain ⟨W, ⟨m0, w0⟩, L⟩ := q D Dn
  rw [← eH] at w0
  have G := hg s3 H3 C cl fp
  have Ct := ht s3 H3 C cl fp
  have Ee := he s3 H3 C cl fp
  refine turns_by (b := do let v ← eval elt (compEnvC scope cl C X.env); standAt elt.pos; let _ ← call (.builtin "set.add") [.ref D, v]) rfl rfl rfl rfl (InLoop (X.blk s3 H3 scope (compEnvC scope cl C X.env) fp) [] (wipe σ (own.map (·.2))) fp tn W) (fun n s5 S => ?_) ⟨0, H3, IB, st, nf, w0⟩
  refine draws_mono (one_turn (B := X.blk s3 H3 scope (compEnvC scope cl C X.env) fp) T hc rfl G Ct free L S) (fun s' ⟨H', I', qq⟩ => ⟨rfl, H', I', qq⟩) fun o s' ⟨σ2, H4, N, pn, I4, hw, bd, close⟩ => ?_
  have l2 : (wipe σ (own.map (·.2))).length = σ2.length := by
    have := congrArg List.length hw
    rw [wipe_length, wipe_length] at this
    rw [this]
  have k2 : ∀ (j : Nat) v, (wipe σ (own.map (·.2)))[j]? = some (some v) → σ2[j]? = some (some v) := fun j v e => by
    have e2 : (wipe σ2 (own.map (·.2)))[j]? = some (some v) := by rw [hw, wipe_twice]; exact e
    exact (wipe_some e2).1
  cases o with
  | false => exact close I4 l2 k2 bd
  | true =>
    simp only [if_true] at bd ⊢
    refine wpAny_bind (thnF (Ee.run _ s' σ2 H4 _ I4 bd) fun u s6 ⟨y, H5, I5, ru, k, S0, n0, ey, hD, hn, nx⟩ => ?_)
    subst ey
    refine wpAny_bind (wpAny_standAt (wpAny_bind (adds (B := X.blk s3 H3 scope (compEnvC scope cl C X.env) fp) I5 hD hn ru fun s7 I7 => wpAny_pure (close I7 l2 k2 nx))))
theorem wiped_len {σ τ : L2.St} {vs : List Nat} (h : wipe σ vs = wipe τ vs) : τ.length = σ.length := by
  have := congrArg List.length h
  rw [wipe_length, wipe_length] at this
  exact this.symm
theorem wiped_has {σ τ : L2.St} {vs : List Nat} (h : wipe σ vs = wipe τ vs) (j : Nat) (v : V) (e : (wipe τ vs)[j]? = some (some v)) : σ[j]? = some (some v) := by
  rw [← h] at e
  exact (wipe_some e).1
/-- the first of two clauses: with an item it runs the second clause's loop -/
theorem turns_first {elt tg iter tg1 iter1 : Expr} {ifs ifs1 : List Expr} {scope : Scope} {pos : Pos} {it acc : Value} {env : Env} {P : Program} {w : World} {A : Around} {R : Result → Shared → Prop} (fold1 : ∀ x, foldedSetIterable iter1 env x = pure x) (J : Nat → Shared → Prop)
    (one : ∀ n s, J n s → Draws P w A env tg ifs it (notedBy (model P w) A env fun x s' => R (.error x) s') (R (.ok .next))
      (fun ok s' => if ok = true then wpAny (model P w) A (eval iter1 env) (fun x s1 => wpAny (model P w) A (pyIter x) (fun it1 s2 =>
          codeAny (model P w) A (.compStart (.SetComp elt [⟨tg, iter, ifs, 0⟩, ⟨tg1, iter1, ifs1, 0⟩] scope pos) 1 it1 acc env) (fun r s'' => r = .ok .next ∧ ∃ m, m < n ∧ J m s'') s2)
          (notedBy (model P w) A env fun x s' => R (.error x) s') s1) (notedBy (model P w) A env fun x s' => R (.error x) s') s' else ∃ m, m < n ∧ J m s') s) {n : Nat} {s : Shared} (h : J n s) :
    codeAny (model P w) A (.compLoop (.SetComp elt [⟨tg, iter, ifs, 0⟩, ⟨tg1, iter1, ifs1, 0⟩] scope pos) 0 it acc env) R s := by
  refine codeAny_loop rfl J (fun n s hJ => ?_) n h
  have den : (model P w).den (.compLoop (.SetComp elt [⟨tg, iter, ifs, 0⟩, ⟨tg1, iter1, ifs1, 0⟩] scope pos) 0 it acc env) = (compTurn (.SetComp elt [⟨tg, iter, ifs, 0⟩, ⟨tg1, iter1, ifs1, 0⟩] scope pos) 0 it acc env).onRaise (fun x => do noteFrame x env; theTreesLotGoes x) := rfl
  have und : A.under (.compLoop (.SetComp elt [⟨tg, iter, ifs, 0⟩, ⟨tg1, iter1, ifs1, 0⟩] scope pos) 0 it acc env) = A := rfl
  rw [und, den]
  refine wpAny_noted ?_
  have shape : compTurn (.SetComp elt [⟨tg, iter, ifs, 0⟩, ⟨tg1, iter1, ifs1, 0⟩] scope pos) 0 it acc env = (do
      standAt iter.pos
      match ← pyNext it with
      | none => pure (.done .next)
      | some v =>
        letOwnedTupleGo tg it v
        assign tg env v
        let mut fits := true
        for t in ifs do
          if fits then fits ← isTrue t env (eval t env)
        if fits then
          let src ← eval iter1 env
          standAt iter1.pos
          let src ← foldedSetIterable iter1 env src
          let _ ← runOwn (.compStart (.SetComp elt [⟨tg, iter, ifs, 0⟩, ⟨tg1, iter1, ifs1, 0⟩] scope pos) 1 (← holding [src] (pyIter src)) acc env) env
        again (.compLoop (.SetComp elt [⟨tg, iter, ifs, 0⟩, ⟨tg1, iter1, ifs1, 0⟩] scope pos) 0 it acc env)) := rfl
  rw [shape]
  refine wpAny_bind (wpAny_standAt (wpAny_bind (wpAny_mono (one n s hJ) (fun r s1 d1 => ?_) fun _ _ z => z)))
  cases r with
  | none => exact wpAny_pure d1
  | some v =>
    refine wpAny_bind (wpAny_mono d1 (fun _ s2 d2 => wpAny_bind (wpAny_mono d2 (fun _ s3 d3 => wpAny_bind (wpAny_mono d3 (fun ok s4 d4 => ?_) fun _ _ z => z)) fun _ _ z => z)) fun _ _ z => z)
    cases ok with
    | false => exact wpAny_pure ⟨rfl, d4⟩
    | true =>
      refine wpAny_bind (wpAny_mono d4 (fun x s5 d5 => wpAny_bind (wpAny_standAt (wpAny_bind (wpAny_of_eq (fold1 x) (wpAny_bind (wpAny_holding (wpAny_mono d5 (fun it1 s6 d6 => wpAny_bind (wpAny_runOwn ?_)) fun _ _ z => z))))))) fun _ _ z => z)
      rw [Around.mark_none]
      refine codeAny_mono d6 fun r s7 d7 => ?_
      obtain ⟨rfl, d7⟩ := d7
      first
        | exact wpAny_pure ⟨rfl, d7⟩
        | exact wpAny_bind (wpAny_pure (wpAny_pure ⟨rfl, d7⟩))
/-- {elt for tg in iter if .. for tg1 in iter1 if ..}, elt a whole number -/
theorem pe_si2 {elt tg iter tg1 iter1 : Expr} {ifs ifs1 : List Expr} {scope : Scope} {own : List (Str × Nat)} {vs1 : List Nat} {pos : Pos} {wi wi1 : TI} {g g1 : TG} {tt tt1 : TT} {te : TE} (hc : X.calm = true) (nd : X.N.Nodup) (hi : PI X tg iter wi) (ok : BlkOk X.N X.env.scope scope own) (sub : ∀ i ∈ vs1, i ∈ own.map (·.2))
    (hg : ∀ (s : Shared) (H : Hp) (C : Addr) (cl : List (Str × Addr)) (fp : List Addr), PG (X.blk s H scope (compEnvC scope cl C X.env) fp) tg g) (ht : ∀ (s : Shared) (H : Hp) (C : Addr) (cl : List (Str × Addr)) (fp : List Addr), PTs (X.blk s H scope (compEnvC scope cl C X.env) fp) ifs tt)
    (hi1 : ∀ (s : Shared) (H : Hp) (C : Addr) (cl : List (Str × Addr)) (fp : List Addr), PI (X.blk s H scope (compEnvC scope cl C X.env) fp) tg1 iter1 wi1)
    (hg1 : ∀ (s : Shared) (H : Hp) (C : Addr) (cl : List (Str × Addr)) (fp : List Addr), PG (X.blk s H scope (compEnvC scope cl C X.env) fp) tg1 g1) (ht1 : ∀ (s : Shared) (H : Hp) (C : Addr) (cl : List (Str × Addr)) (fp : List Addr), PTs (X.blk s H scope (compEnvC scope cl C X.env) fp) ifs1 tt1)
    (he : ∀ (s : Shared) (H : Hp) (C : Addr) (cl : List (Str × Addr)) (fp : List Addr), PE (X.blk s H scope (compEnvC scope cl C X.env) fp) elt te)
    (fold : ∀ x, foldedSetIterable iter X.env x = pure x := by intro _; rfl) (fold1 : ∀ env x, foldedSetIterable iter1 env x = pure x := by intro _ _; rfl) :
    PE X (.SetComp elt [⟨tg, iter, ifs, 0⟩, ⟨tg1, iter1, ifs1, 0⟩] scope pos) (tSi2 X.w wi g tt wi1 g1 tt1 te (own.map (·.2)) vs1) := by
  refine ⟨fun pins s σ H Q I h => ?_⟩
  rw [PpSet.eval_SetComp]
  refine set_frame I nd hi ok fold h fun s3 s4 H2 H3 D C it cl fp tn J q Dn eH T free IB st nf => ?_
  obtain ⟨W, ⟨m0, w0⟩, L⟩ := q D Dn
  rw [← eH] at w0
  have G := hg s3 H3 C cl fp
  have Ct := ht s3 H3 C cl fp
  have Ee := he s3 H3 C cl fp
  have G1 := hg1 s3 H3 C cl fp
  have Ct1 := ht1 s3 H3 C cl fp
  have Ii := hi1 s3 H3 C cl fp
  obtain ⟨B, eB⟩ : ∃ B, B = X.blk s3 H3 scope (compEnvC scope cl C X.env) fp := ⟨_, rfl⟩
  obtain ⟨ce, ece⟩ : ∃ c, c = compEnvC scope cl C X.env := ⟨_, rfl⟩
  have hB : B.prog = X.prog ∧ B.w = X.w ∧ B.K = X.K ∧ B.A = X.A ∧ B.env = ce ∧ B.calm = X.calm ∧ B.xe = fun _ _ => False := by subst eB; subst ece; exact ⟨rfl, rfl, rfl, rfl, rfl, rfl, rfl⟩
  refine turns_first (fold1 _) (InLoop (X.blk s3 H3 scope (compEnvC scope cl C X.env) fp) [] (wipe σ (own.map (·.2))) fp tn W) (fun n s5 S => ?_) ⟨0, H3, IB, st, nf, w0⟩
  refine draws_mono (one_turn (B := X.blk s3 H3 scope (compEnvC scope cl C X.env) fp) T hc rfl G Ct free L S) (fun s' ⟨H', I', qq⟩ => ⟨rfl, H', I', qq⟩) fun o s' ⟨σ2, H4, N, pn, I4, hw, bd, close⟩ => ?_
  have hw' : wipe σ2 (own.map (·.2)) = wipe σ (own.map (·.2)) := by rw [hw, wipe_twice]
  have l2 : (wipe σ (own.map (·.2))).length = σ2.length := by rw [wipe_length]; exact wiped_len hw'
  have k2 : ∀ (j : Nat) v, (wipe σ (own.map (·.2)))[j]? = some (some v) → σ2[j]? = some (some v) := wiped_has hw'
  cases o with
  | false => exact close I4 l2 k2 bd
  | true =>
    simp only [if_true] at bd ⊢
    refine thnF (Ii.run _ s' σ2 H4 _ I4 bd) fun xv s6 hx => thnF hx fun itv s7 hy => ?_
    obtain ⟨it1, fp1, tn1, J1, H7, rfl, I7, T1, st7, f7, W1, ⟨m1, w1⟩, L1⟩ := hy
    -- the second clause's own loop
    have free1 : ∀ {σ' : L2.St} {H' : Hp} {s'' : Shared}, L2.Inv (X.blk s3 H3 scope (compEnvC scope cl C X.env) fp) ([] ++ pn) σ' H' s'' → (∀ b ∈ fp1, H' b = none) → ∀ b ∈ fp1, FpOk (X.blk s3 H3 scope (compEnvC scope cl C X.env) fp) ([] ++ pn) H' b := fun _ hn b hb => ⟨hn b hb, (f7 b hb).2⟩
    have k3 : ∀ (j : Nat) v, (wipe σ (own.map (·.2)))[j]? = some (some v) → (wipe σ2 vs1)[j]? = some (some v) := fun j v e => by
      have e1 := k2 j v e
      have out : j ∉ vs1 := fun z => by
        rw [← hw'] at e
        exact (wipe_some e).2 (sub j z)
      rw [wipe_out out]
      exact e1
    have inner : codeAny (model X.prog X.w) X.A (.compLoop (.SetComp elt [⟨tg, iter, ifs, 0⟩, ⟨tg1, iter1, ifs1, 0⟩] scope pos) 1 (.ref it1) (.ref D) (compEnvC scope cl C X.env))
        (fun r s'' => r = .ok .next ∧ ∃ m, m < n ∧ InLoop (X.blk s3 H3 scope (compEnvC scope cl C X.env) fp) [] (wipe σ (own.map (·.2))) fp tn W m s'') s7 := by
      refine turns_by (b := do let v ← eval elt (compEnvC scope cl C X.env); standAt elt.pos; let _ ← call (.builtin "set.add") [.ref D, v]) rfl rfl rfl rfl (InLoop (X.blk s3 H3 scope (compEnvC scope cl C X.env) fp) ([] ++ pn) (wipe σ2 vs1) fp1 tn1 W1) (fun n1 s8 S1 => ?_) ⟨0, H7, I7.weak (wipe_length _ _) (fun j v e => (wipe_some e).1), st7, fun b hb => (f7 b hb).1, w1⟩
      refine draws_mono (one_turn (B := X.blk s3 H3 scope (compEnvC scope cl C X.env) fp) T1 hc rfl G1 Ct1 free1 L1 S1) (fun s' ⟨H', I', qq⟩ => ⟨rfl, close I' (by rw [l2, wipe_length]) k3 qq⟩) fun o s9 ⟨σ3, H9, N1, pn1, I9, hw1, bd1, close1⟩ => ?_
      have hw1' : wipe σ3 vs1 = wipe σ2 vs1 := by rw [hw1, wipe_twice]
      have l3 : (wipe σ2 vs1).length = σ3.length := by rw [wipe_length]; exact wiped_len hw1'
      have k4 : ∀ (j : Nat) v, (wipe σ2 vs1)[j]? = some (some v) → σ3[j]? = some (some v) := wiped_has hw1'
      cases o with
      | false => exact close1 I9 l3 k4 bd1
      | true =>
        simp only [if_true] at bd1 ⊢
        refine wpAny_bind (thnF (Ee.run _ s9 σ3 H9 _ I9 bd1) fun u s10 ⟨y, H10, I10, ru, k, S0, n0, ey, hD, hn, nx⟩ => ?_)
        subst ey
        refine wpAny_bind (wpAny_standAt (wpAny_bind (adds (B := X.blk s3 H3 scope (compEnvC scope cl C X.env) fp) I10 hD hn ru fun s11 I11 => wpAny_pure (close1 I11 l3 k4 nx))))
    exact starts_by (g := ⟨tg1, iter1, ifs1, 0⟩) rfl rfl rfl rfl rfl inner (T1.self X.A 0 _ _ _ st7 ⟨inner, rfl⟩)
end
end FA

set_option Elab.async false
set_option linter.all false
set_option maxRecDepth 100000
set_option maxHeartbeats 4000000
/-! set(list of whole numbers), with numbers that stand there twice. -/
namespace FA
open PySem PySem.Spec PyProof.Rows L2
variable {P : Program} {w : World} {A : Around} {E : Value → Shared → Prop} {s : Shared} {a : Addr}
/-- the set of the numbers of l at a -/
def SetI (w : World) (h : Heap) (a : Addr) (l : List Int) : Prop := ∃ n, n ≤ l.length ∧ SetR w h a (fun k => decide (k ∈ l)) n
theorem SetI.keep {h h' : Heap} {l : List Int} (R : SetI w h a l) (k : ∀ o, h.get? a = some o → h'.get? a = some o) : SetI w h' a l := let ⟨n, q, r⟩ := R; ⟨n, q, r.at k⟩
theorem si_add {l : List Int} {k : Int} {u : Tok} {Q : Bool → Shared → Prop} (R : SetI w s.heap a l) (hb : l.length + 1 < scanBound)
    (hQ : ∀ h', Heap.SameBut a s.heap h' → SetI w h' a (l ++ [k]) → Q (!decide (k ∈ l)) { s with heap := h' }) : wpAny (model P w) A (setAddHashed a (.int k u) ((intKind P w).hash k)) Q E s := by
  obtain ⟨n, hn, r⟩ := R
  refine setR_add_hashed r (by omega) fun h' sb r2 => hQ h' sb ⟨_, ?_, r2.congr fun j => ?_⟩
  · rw [List.length_append, List.length_singleton]
    split <;> omega
  · simp only [List.mem_append, List.mem_singleton, Bool.decide_or]
theorem si_new {h : Heap} (ho : h.get? a = some { cls := .type "set", dict := none, data := .set #[] 0 (.fresh 0 0 (!w.params.followText "set-order")) }) : SetI w h a [] := by
  refine ⟨0, Nat.le_refl _, ?_⟩
  refine ⟨_, #[], 0, _, ho, ⟨rfl, rfl, rfl⟩, rfl, by simp, by simp, by simp, by decide, rfl, rfl, List.Pairwise.nil, ?_⟩
  show _ ∨ (!w.params.followText "set-order") = true
  cases w.params.followText "set-order"
  · exact .inr rfl
  · exact .inl rfl
theorem ints_item : ∀ {us : List Value} {ns : List Int}, IntsAre us ns → ∀ (i : Nat) (v : Value), us[i]? = some v → ∃ k t, ns[i]? = some k ∧ v = .int k t
  | _, _, .nil, i, v, h => by simp at h
  | _, _, .cons n t hr, 0, v, h => by simp at h; exact ⟨n, t, rfl, h.symm⟩
  | _, _, .cons n t hr, i + 1, v, h => by
    simp only [List.getElem?_cons_succ] at h
    obtain ⟨k, t', e1, e2⟩ := ints_item hr i v h
    exact ⟨k, t', by simpa using e1, e2⟩
theorem set_update_ints {I : Addr} {fp wr : List Addr} {G : Array GenState → Array GenState → Prop} {n : Nat} {Pv : Nat → Value → Prop} {St : Nat → Shared → Prop} {R : Result → Shared → Prop} (W : WalksS P w A.in1 I fp wr G n Pv St)
    (S : Addr) (hSf : S ∉ fp) (ns : List Int) (hn : n = ns.length) (hb : ns.length + 1 < scanBound) (hval : ∀ i v, Pv i v → ∃ k t, ns[i]? = some k ∧ v = .int k t) : ∀ (k i : Nat) (s : Shared), n - i = k → i ≤ n → St i s → SetI w s.heap S (ns.take i) →
      (∀ s', Moved (S :: wr) G s s' → SetI w s'.heap S ns → R (.ok (.ret .none)) s') → codeAny (model P w) A (.builtin "set.update.loop" ⟨[.ref S, .ref I], []⟩) R s := by
  have out : S ∉ wr := fun h => hSf (W.sub _ h)
  have more : ∀ b ∈ wr, b ∈ S :: wr := fun b hb => List.mem_cons_of_mem _ hb
  intro k
  induction k with
  | zero =>
    intro i s hk' hi hst hS hR
    have hin : i = n := by omega
    subst hin
    refine codeAny_builtin F.entry_set_update_loop ?_
    rw [Around.under_plainId F.plain_set_update_loop _]
    show wpAny _ A.in1 (pyNext (.ref I) >>= _) _ _ s
    refine wpAny_bind (W.done s _ _ hst fun s' hm => ?_)
    show wpAny _ A.in1 (ret Value.none) _ _ s'
    rw [List.take_of_length_le (by omega)] at hS
    exact wpAny_pure (hR s' (hm.mono more) (SetI.keep hS fun o e => hm.heap S o out e))
  | succ k ih =>
    intro i s hk' hi hst hS hR
    have hlt : i < n := by omega
    refine codeAny_builtin F.entry_set_update_loop ?_
    rw [Around.under_plainId F.plain_set_update_loop _]
    show wpAny _ A.in1 (pyNext (.ref I) >>= _) _ _ s
    refine wpAny_bind (W.item i s _ _ hlt hst fun v s' hP hst' hm => ?_)
    obtain ⟨z, t, hz, rfl⟩ := hval i v hP
    have hS' : SetI w s'.heap S (ns.take i) := SetI.keep hS fun o e => hm.heap S o out e
    have hl2 : (ns.take i).length ≤ ns.length := by rw [List.length_take]; omega
    show wpAny _ A.in1 (holding [Value.int z t] (setAdd S (.int z t)) >>= _) _ _ s'
    refine wpAny_bind (wpAny_holding ?_)
    unfold setAdd
    refine wpAny_holding (wpAny_bind ((intKind P w).pyHash (k := z) (intKind_is P w z t) ?_))
    refine si_add (s := { s' with toks := s'.toks + 1 }) hS' (by omega) fun h' hsb hS2 => ?_
    have hS3 : SetI w h' S (ns.take (i + 1)) := by
      rw [List.take_add_one, hz]
      show SetI w h' S (ns.take i ++ [z])
      exact hS2
    refine wpAny_pure ⟨plainId_quiet F.plain_set_update_loop _, ih (i + 1) _ (by omega) hlt (W.frame _ s' _ _ hst' (Nat.le_succ _) fun b hb o e => ?_) hS3 fun s'' hm'' hS'' => ?_⟩
    · rw [hsb.2 b (fun h : b = S => hSf (by rw [← h]; exact hb))]
      exact e
    · refine hR s'' (Moved.trans W.gtrans ((hm.mono more).then_heap (Nat.le_succ _) fun b o hb e => ?_) hm'') hS''
      rw [hsb.2 b (fun h : b = S => hb (by rw [h]; exact List.mem_cons_self))]
      exact e
/-- the set as it is laid: empty -/
abbrev emptyS (w : World) : Obj := { cls := .type "set", dict := none, data := .set #[] 0 (.fresh 0 0 (!w.params.followText "set-order")) }
set_option maxRecDepth 100000 in
set_option maxHeartbeats 3200000 in
theorem call_set_ints {l : Addr} {items : Array Value} (ns : List Int) {Q : Value → Shared → Prop} (hh : A.handled = none) (hl : s.heap.IsList l items) (hit : IntsAre items.toList ns) (hb : ns.length + 1 < scanBound)
    (h : ∀ (h' : Heap) (tk : Nat), SetI w h' s.heap.objs.size ns → (∀ b o, s.heap.get? b = some o → h'.get? b = some o) → Q (.ref s.heap.objs.size) { s with heap := h', toks := tk }) : wpAny (model P w) A (call (.type "set") [.ref l]) Q E s := by
  have hisz : items.size = ns.length := by
    have q := IntsAre.length hit
    rw [Array.length_toList] at q
    exact q
  obtain ⟨c, tl, hmro⟩ := F.called_set.mro
  have hmade := F.called_set.made
  have hsub := F.called_set.sub
  refine wpAny_call (codeAny_of_tree ?_)
  show wpAny _ _ (callAny (.type "set") _) _ _ _
  refine wpAny_pure ⟨Code.quiet_builtin _ (by decide +kernel), codeAny_builtin F.entry_type_call ?_⟩
  rw [Around.under_plain (weight_type_call_type "set" [.ref l] []) rfl]
  have h1 := F.called_set.notType
  have h2 := F.called_set.canCreate
  have hct := F.typeCall_set_1 (.ref l)
  repeat (any_goals (first | assumption | wp_step))
  refine codeAny_mono (code_set_led1 (.ref l) (E := E) (Q₁ := fun obj s₁ => obj = .ref s.heap.objs.size ∧ s₁ = { s with heap := s.heap.push (emptyS w) }) ⟨rfl, rfl⟩) fun r s₁ hr => ?_
  cases r with
  | error e => exact hr
  | ok fl =>
    cases fl with
    | ret obj =>
      obtain ⟨rfl, rfl⟩ := hr
      have hS : (s.heap.push (emptyS w)).get? s.heap.objs.size = some (emptyS w) := Heap.get?_push_size _ rfl
      have hT : Shared.TypeIs { s with heap := s.heap.push (emptyS w) } (.ref s.heap.objs.size) "set" := ⟨_, hS, rfl⟩
      have hli := F.called_set.init.lookup
      have hbi := F.called_set.init.bind (.ref s.heap.objs.size)
      repeat (any_goals (first | assumption | wp_step))
      refine codeAny_mono (codeAny_call_builtin (R := wants (fun r s₂ => r = .none ∧ ∃ h' tk, s₂ = { s with heap := h', toks := tk } ∧ SetI w h' s.heap.objs.size ns ∧ (∀ b o, s.heap.get? b = some o → h'.get? b = some o)) E)
        F.called_set.init.plain F.entry_set_init (check_set_init_1 hT ?_)) fun r₂ s₂ hr₂ => ?_
      · obtain ⟨ol, hol, hcl, nl, hdl⟩ := hl
        obtain ⟨ocls, odict, odata, oslots⟩ := ol
        simp only at hcl hdl
        subst hcl; subst hdl
        have hol' : (s.heap.push (emptyS w)).get? l = some { cls := .type "list", dict := odict, data := .seq items nl, slots := oslots } := Heap.get?_push_of_some _ hol
        have hsls := F.sub_list_set
        have hslf := F.sub_list_frozenset
        have hne : (Value.type "list" == Value.type "dict") = false := by decide
        have hl1 : (s.heap.push (emptyS w)).IsList l items := ⟨_, hol', rfl, nl, rfl⟩
        unfold Builtin.«set.__init__» noKeywords Builtin.Frozenset.updateFrom
        generalize hPI : pyIter = PI
        wp_walk
        subst hPI
        refine wpAny_pyIter_list hl1 ?_
        refine wpAny_bind (wpAny_runValue ?_)
        have hlS : l < s.heap.objs.size := Heap.lt_size hol
        have hh3 : A.in1.in1.in1.handled = none := by simp [hh]
        have hneI : l ≠ (s.heap.push (emptyS w)).objs.size := by
          rw [Heap.size_push]
          exact Nat.ne_of_lt (Nat.lt_succ_of_lt hlS)
        have hSf : s.heap.objs.size ∉ [(s.heap.push (emptyS w)).objs.size, l] := by
          rw [Heap.size_push]
          simp only [List.mem_cons, List.mem_singleton, List.not_mem_nil, or_false, not_or]
          exact ⟨Nat.ne_of_lt (Nat.lt_succ_self _), Nat.ne_of_gt hlS⟩
        have hval : ∀ (i : Nat) (v : Value), items[i]? = some v → ∃ k t, ns[i]? = some k ∧ v = .int k t := fun i v hv => by
          exact ints_item hit i v (by rw [Array.getElem?_toList]; exact hv)
        refine set_update_ints ((Walks.list hh3 _ l hneI items).toS) s.heap.objs.size hSf ns hisz hb hval (items.size - 0) 0 _ (by omega) (Nat.zero_le _) ⟨⟨_, Heap.get?_push_size _ rfl, rfl, rfl⟩, (hl1.push _)⟩ ?hS0 ?hR
        case hS0 =>
          exact si_new (Heap.get?_push_of_some _ hS)
        case hR =>
          intro s' hm hS'
          obtain ⟨h', g2, d', tk', os'⟩ := s'
          have eg : g2 = s.gens := hm.gens
          have ed : d' = s.drawn := hm.drawn
          have eo : os' = s.os := hm.os
          subst eg; subst ed; subst eo
          show wpAny _ _ _ _ _ _
          refine wpAny_pure ?_
          show wpAny _ _ (ret Value.none) _ _ _
          refine wpAny_pure ⟨rfl, h', tk', rfl, hS', fun b o e => ?_⟩
          have hb0 : b < s.heap.objs.size := Heap.lt_size e
          refine hm.heap b o ?_ (Heap.get?_push_of_some _ (Heap.get?_push_of_some _ e))
          simp only [List.mem_cons, List.mem_singleton, List.not_mem_nil, or_false, not_or]
          refine ⟨Nat.ne_of_lt hb0, ?_⟩
          rw [Heap.size_push]
          exact Nat.ne_of_lt (Nat.lt_succ_of_lt hb0)
      · cases r₂ with
        | error e => exact hr₂
        | ok fl₂ =>
          cases fl₂ with
          | ret r =>
            obtain ⟨rfl, h', tk, rfl, hS', hk'⟩ := hr₂
            repeat (any_goals (first | assumption | wp_step))
            exact h _ _ hS' hk'
          | _ => exact hr₂.elim
    | _ => exact hr.elim
/-- how many are in such a set -/
theorem setR_count {h : Heap} {S : Int → Bool} {n : Nat} (R : SetR w h a S n) : ∃ ks : List Int, ks.Nodup ∧ (∀ k, S k = true ↔ k ∈ ks) ∧ ks.length = n := by
  obtain ⟨o, es, ep, t, ho, hx, hd, g, nd, hm, hb, hf, hn, _⟩ := R
  exact ⟨_, nd, hm, by rw [List.length_map, Array.length_toList]; exact hn⟩
section
variable {X : Cx}
/-- set(xs), xs a list of whole numbers: n of them are different -/
def rSetIs (K : PySem.W.Frag) (w : World) : List V → Hp → VK → Prop := fun xs H Q => ∃ (p : Addr) (ns : List Int), xs = [V.ref p] ∧ SqL K H p (ns.map V.int) ∧ ns.length ≤ 1000 ∧ ∀ q n ks, H q = none → List.Nodup ks → (∀ k, k ∈ ks ↔ k ∈ ns) → ks.length = n → Q (.ref q) (upd H q (SetO w q (fun k => decide (k ∈ ns)) n))
theorem cr_setIs (hc : X.calm = true) : CallR X (.type "set") (rSetIs X.K X.w) := by
  intro pins s σ H xs us Q I r h
  obtain ⟨p, ns, rfl, hs, hn, q⟩ := h
  rw [Vals.ref1 r]
  obtain ⟨its, rv, ⟨o, n, ho, h1, h2, h3⟩, hz⟩ := I.list hs
  have ia : IntsAre its ns := intsAre_of rv
  have sc : ns.length + 1 < scanBound := by
    have : (1002 : Nat) < scanBound := by decide
    omega
  refine call_set_ints (P := X.prog) (w := X.w) ns (I.ok.hd hc) (items := its.toArray) ⟨o, ho, h1, n, h3⟩ (by simpa using ia) sc fun h' tk hT hk => ?_
  obtain ⟨m, _, R⟩ := hT
  obtain ⟨ks, nd, mem, len⟩ := setR_count R
  exact ⟨.ref _, upd H s.heap.objs.size (SetO X.w s.heap.objs.size (fun k => decide (k ∈ ns)) m), I.laid (t' := tk) hk (Nat.le_refl _) (setO_new R), rfl, q _ m ks (I.hok.fresh (Nat.le_refl _)) nd (fun k => by rw [← mem, decide_eq_true_eq]) len⟩
end
end FA

set_option Elab.async false
set_option linter.all false
set_option maxRecDepth 100000
/-! The words of a body, its plan and what a plan's places tell of words. -/
namespace FA
open PySem
inductive Star (L : List Str → Prop) : List Str → Prop where
  | nil : Star L []
  | snoc {u v : List Str} : Star L u → L v → v ≠ [] → Star L (u ++ v)
mutual
/-- the words of an item, of a body, of one of some bodies -/
def WI : It → List Str → Prop
  | .call x => fun w => w = [x]
  | .may b => fun w => w = [] ∨ WB b w
  | .loop b => fun w => Star (WB b) w
  | .one bs => fun w => WBs bs w
def WB : List It → List Str → Prop
  | [] => fun w => w = []
  | i :: r => fun w => ∃ u v, w = u ++ v ∧ WI i u ∧ WB r v
def WBs : List (List It) → List Str → Prop
  | [] => fun _ => False
  | b :: r => fun w => WB b w ∨ WBs r w
end
theorem WB_app : ∀ {a b : List It} {w : List Str}, WB (a ++ b) w ↔ ∃ u v, w = u ++ v ∧ WB a u ∧ WB b v
  | [], b, w => by
    simp only [List.nil_append, WB]
    exact ⟨fun h => ⟨[], w, rfl, rfl, h⟩, fun ⟨u, v, e, e1, h⟩ => by subst e1; rw [e]; exact h⟩
  | i :: r, b, w => by
    simp only [List.cons_append, WB]
    constructor
    · rintro ⟨u, v, e, h1, h2⟩
      obtain ⟨u2, v2, e2, h3, h4⟩ := WB_app.mp h2
      exact ⟨u ++ u2, v2, by rw [e, e2, List.append_assoc], ⟨u, u2, rfl, h1, h3⟩, h4⟩
    · rintro ⟨u, v, e, ⟨u2, v2, e2, h1, h2⟩, h3⟩
      exact ⟨u2, v2 ++ v, by rw [e, e2, List.append_assoc], h1, WB_app.mpr ⟨v2, v, rfl, h2, h3⟩⟩
theorem WB_one {i : It} {w : List Str} : WB [i] w ↔ WI i w := by
  simp only [WB]
  exact ⟨fun ⟨u, v, e, h1, h2⟩ => by subst h2; rw [e, List.append_nil]; exact h1, fun h => ⟨w, [], by simp, h, rfl⟩⟩
theorem WB_snoc {l : List It} {k : Nat} {i : It} (h : l[k]? = some i) {w : List Str} : WB (l.take (k + 1)) w ↔ ∃ u v, w = u ++ v ∧ WB (l.take k) u ∧ WI i v := by
  rw [List.take_add_one, h, WB_app]
  simp only [Option.toList_some, WB_one]
theorem WBs_iff : ∀ {bs : List (List It)} {w : List Str}, WBs bs w ↔ ∃ b ∈ bs, WB b w
  | [], w => by simp [WBs]
  | b :: r, w => by simp [WBs, WBs_iff (bs := r)]
/-- a plan -/
structure Pl where
  nm : List Str
  fs : List Nat
  ls : List Nat
  ps : List (Nat × Nat)
  em : Bool
def both (l f : List Nat) : List (Nat × Nat) := l.flatMap (fun a => f.map (fun b => (a, b)))
theorem both_mem {l f : List Nat} {a b : Nat} : (a, b) ∈ both l f ↔ a ∈ l ∧ b ∈ f := by
  simp only [both, List.mem_flatMap, List.mem_map]
  exact ⟨fun ⟨x, hx, y, hy, e⟩ => by cases e; exact ⟨hx, hy⟩, fun ⟨h1, h2⟩ => ⟨a, h1, b, h2, rfl⟩⟩
def Pl.e0 : Pl := ⟨[], [], [], [], true⟩
def Pl.no : Pl := ⟨[], [], [], [], false⟩
def Pl.seq (a b : Pl) : Pl :=
  ⟨a.nm ++ b.nm, if a.em then a.fs ++ b.fs else a.fs, if b.em then a.ls ++ b.ls else b.ls, a.ps ++ b.ps ++ both a.ls b.fs, a.em && b.em⟩
def Pl.alt (a b : Pl) : Pl := ⟨a.nm ++ b.nm, a.fs ++ b.fs, a.ls ++ b.ls, a.ps ++ b.ps, a.em || b.em⟩
def Pl.opt (a : Pl) : Pl := ⟨a.nm, a.fs, a.ls, a.ps, true⟩
def Pl.turn (a : Pl) : Pl := ⟨a.nm, a.fs, a.ls, a.ps ++ both a.ls a.fs, true⟩
mutual
def planI : It → Nat → Pl
  | .call x => fun n => ⟨[x], [n], [n], [], false⟩
  | .may b => fun n => (planB b .e0 n).opt
  | .loop b => fun n => (planB b .e0 n).turn
  | .one bs => fun n => planO bs n
/-- a body's plan behind one that there is -/
def planB : List It → Pl → Nat → Pl
  | [] => fun acc _ => acc
  | i :: r => fun acc n => planB r (acc.seq (planI i (n + acc.nm.length))) n
def planO : List (List It) → Nat → Pl
  | [] => fun _ => .no
  | b :: r => fun n => planA r (planB b .e0 n) n
def planA : List (List It) → Pl → Nat → Pl
  | [] => fun acc _ => acc
  | b :: r => fun acc n => planA r (acc.alt (planB b .e0 (n + acc.nm.length))) n
end
/-- the plan's places lie from n on -/
structure Pl.In (a : Pl) (n : Nat) : Prop where
  fs : ∀ q ∈ a.fs, n ≤ q ∧ q < n + a.nm.length
  ls : ∀ q ∈ a.ls, n ≤ q ∧ q < n + a.nm.length
  ps : ∀ p q, (p, q) ∈ a.ps → (n ≤ p ∧ p < n + a.nm.length) ∧ n ≤ q ∧ q < n + a.nm.length
/-- the place to which a word leads -/
inductive At (nm : Nat → Option Str) (a : Pl) : List Str → Nat → Prop where
  | first {q : Nat} {x : Str} : q ∈ a.fs → nm q = some x → At nm a [x] q
  | next {u : List Str} {p q : Nat} {x : Str} : At nm a u p → (p, q) ∈ a.ps → nm q = some x → At nm a (u ++ [x]) q
def Lg (nm : Nat → Option Str) (a : Pl) (w : List Str) : Prop := (w = [] ∧ a.em = true) ∨ ∃ q ∈ a.ls, At nm a w q
variable {nm : Nat → Option Str}
theorem At.ne {a : Pl} {w : List Str} {q : Nat} (h : At nm a w q) : w ≠ [] := by
  cases h <;> simp
theorem At.inn {a : Pl} {n : Nat} (ha : a.In n) {w : List Str} {q : Nat} (h : At nm a w q) : n ≤ q ∧ q < n + a.nm.length := by
  cases h with
  | first h1 h2 => exact ha.fs _ h1
  | next h1 h2 h3 => exact (ha.ps _ _ h2).2
/-- it has the same ways as another plan, of which it has all firsts and pairs -/
theorem At.mono {a b : Pl} (hf : ∀ q ∈ a.fs, q ∈ b.fs) (hp : ∀ p q, (p, q) ∈ a.ps → (p, q) ∈ b.ps) {w : List Str} {q : Nat} (h : At nm a w q) : At nm b w q := by
  induction h with
  | first h1 h2 => exact .first (hf _ h1) h2
  | next h1 h2 h3 ih => exact .next ih (hp _ _ h2) h3
section Seq
variable {a b : Pl} {n m : Nat} (ha : a.In n) (hb : b.In m) (hm : m = n + a.nm.length)
theorem seq_at1 {w : List Str} {q : Nat} (h : At nm a w q) : At nm (a.seq b) w q := by
  refine h.mono (fun q h => ?_) (fun p q h => ?_)
  · simp only [Pl.seq]
    split
    · exact List.mem_append_left _ h
    · exact h
  · simp only [Pl.seq]
    exact List.mem_append_left _ (List.mem_append_left _ h)
theorem seq_at2 {u v : List Str} {q : Nat} (hu : Lg nm a u) (h : At nm b v q) : At nm (a.seq b) (u ++ v) q := by
  induction h with
  | @first q x h1 h2 =>
    rcases hu with ⟨rfl, he⟩ | ⟨l, hl, hat⟩
    · refine .first ?_ h2
      simp only [Pl.seq, he, if_true]
      exact List.mem_append_right _ h1
    · refine .next (seq_at1 hat) ?_ h2
      simp only [Pl.seq]
      exact List.mem_append_right _ (both_mem.mpr ⟨hl, h1⟩)
  | @next v p q x h1 h2 h3 ih =>
    rw [← List.append_assoc]
    refine .next ih ?_ h3
    simp only [Pl.seq]
    exact List.mem_append_left _ (List.mem_append_right _ h2)
include ha hb hm in
theorem seq_at3 {w : List Str} {q : Nat} (h : At nm (a.seq b) w q) : (q < m ∧ At nm a w q) ∨ (m ≤ q ∧ ∃ u v, w = u ++ v ∧ Lg nm a u ∧ At nm b v q) := by
  induction h with
  | @first q x h1 h2 =>
    simp only [Pl.seq] at h1
    have hh : q ∈ a.fs ∨ (a.em = true ∧ q ∈ b.fs) := by
      split at h1
      · next he => rcases List.mem_append.mp h1 with h | h
                   · exact .inl h
                   · exact .inr ⟨he, h⟩
      · exact .inl h1
    rcases hh with h | ⟨he, h⟩
    · exact .inl ⟨by have := (ha.fs _ h).2; omega, .first h h2⟩
    · exact .inr ⟨(hb.fs _ h).1, [], [x], rfl, .inl ⟨rfl, he⟩, .first h h2⟩
  | @next u p q x h1 h2 h3 ih =>
    simp only [Pl.seq] at h2
    rcases List.mem_append.mp h2 with h2 | h2
    · rcases List.mem_append.mp h2 with h2 | h2
      · have := ha.ps _ _ h2
        rcases ih with ⟨_, ih⟩ | ⟨ih, _⟩
        · exact .inl ⟨by omega, .next ih h2 h3⟩
        · omega
      · have := hb.ps _ _ h2
        rcases ih with ⟨ih, _⟩ | ⟨_, u1, v1, e, e1, e2⟩
        · omega
        · exact .inr ⟨by omega, u1, v1 ++ [x], by rw [e, List.append_assoc], e1, .next e2 h2 h3⟩
    · obtain ⟨k1, k2⟩ := both_mem.mp h2
      have c1 := ha.ls _ k1
      have c2 := hb.fs _ k2
      rcases ih with ⟨_, ih⟩ | ⟨ih, _⟩
      · exact .inr ⟨c2.1, u, [x], rfl, .inr ⟨p, k1, ih⟩, .first k2 h3⟩
      · omega
include ha hb hm in
theorem seq_lg {w : List Str} : Lg nm (a.seq b) w ↔ ∃ u v, w = u ++ v ∧ Lg nm a u ∧ Lg nm b v := by
  constructor
  · rintro (⟨rfl, he⟩ | ⟨q, hq, hat⟩)
    · simp only [Pl.seq, Bool.and_eq_true] at he
      exact ⟨[], [], rfl, .inl ⟨rfl, he.1⟩, .inl ⟨rfl, he.2⟩⟩
    · have hh : (b.em = true ∧ q ∈ a.ls) ∨ q ∈ b.ls := by
        simp only [Pl.seq] at hq
        split at hq
        · next he => rcases List.mem_append.mp hq with h | h
                     · exact .inl ⟨he, h⟩
                     · exact .inr h
        · exact .inr hq
      rcases hh with ⟨he, hq⟩ | hq
      · have := ha.ls _ hq
        rcases seq_at3 ha hb hm hat with ⟨_, h⟩ | ⟨h, _⟩
        · exact ⟨w, [], by simp, .inr ⟨q, hq, h⟩, .inl ⟨rfl, he⟩⟩
        · omega
      · have := hb.ls _ hq
        rcases seq_at3 ha hb hm hat with ⟨h, _⟩ | ⟨_, u, v, e, h1, h2⟩
        · omega
        · exact ⟨u, v, e, h1, .inr ⟨q, hq, h2⟩⟩
  · rintro ⟨u, v, rfl, h1, h2⟩
    rcases h2 with ⟨rfl, he⟩ | ⟨q, hq, hat⟩
    · rcases h1 with ⟨rfl, he1⟩ | ⟨q, hq, hat⟩
      · exact .inl ⟨rfl, by simp [Pl.seq, he, he1]⟩
      · refine .inr ⟨q, ?_, by rw [List.append_nil]; exact seq_at1 hat⟩
        simp only [Pl.seq, he, if_true]
        exact List.mem_append_left _ hq
    · refine .inr ⟨q, ?_, seq_at2 h1 hat⟩
      simp only [Pl.seq]
      split
      · exact List.mem_append_right _ hq
      · exact hq
include ha hb hm in
theorem seq_in : (a.seq b).In n := by
  have l : (a.seq b).nm.length = a.nm.length + b.nm.length := by simp [Pl.seq]
  constructor
  · intro q hq
    have hh : q ∈ a.fs ∨ q ∈ b.fs := by
      simp only [Pl.seq] at hq
      split at hq
      · exact List.mem_append.mp hq
      · exact .inl hq
    rcases hh with h | h
    · have := ha.fs _ h; omega
    · have := hb.fs _ h; omega
  · intro q hq
    have hh : q ∈ a.ls ∨ q ∈ b.ls := by
      simp only [Pl.seq] at hq
      split at hq
      · exact List.mem_append.mp hq
      · exact .inr hq
    rcases hh with h | h
    · have := ha.ls _ h; omega
    · have := hb.ls _ h; omega
  · intro p q hq
    simp only [Pl.seq] at hq
    rcases List.mem_append.mp hq with hq | hq
    · rcases List.mem_append.mp hq with hq | hq
      · have := ha.ps _ _ hq; omega
      · have := hb.ps _ _ hq; omega
    · obtain ⟨k1, k2⟩ := both_mem.mp hq
      have c1 := ha.ls _ k1
      have c2 := hb.fs _ k2
      omega
include ha hb hm in
theorem alt_in : (a.alt b).In n := by
  have l : (a.alt b).nm.length = a.nm.length + b.nm.length := by simp [Pl.alt]
  constructor
  · intro q hq
    rcases List.mem_append.mp hq with h | h
    · have := ha.fs _ h; omega
    · have := hb.fs _ h; omega
  · intro q hq
    rcases List.mem_append.mp hq with h | h
    · have := ha.ls _ h; omega
    · have := hb.ls _ h; omega
  · intro p q hq
    rcases List.mem_append.mp hq with hq | hq
    · have := ha.ps _ _ hq; omega
    · have := hb.ps _ _ hq; omega
theorem alt_at1 {w : List Str} {q : Nat} (h : At nm a w q) : At nm (a.alt b) w q :=
  h.mono (fun q h => List.mem_append_left _ h) (fun p q h => List.mem_append_left _ h)
theorem alt_at2 {w : List Str} {q : Nat} (h : At nm b w q) : At nm (a.alt b) w q :=
  h.mono (fun q h => List.mem_append_right _ h) (fun p q h => List.mem_append_right _ h)
include ha hb hm in
theorem alt_at3 {w : List Str} {q : Nat} (h : At nm (a.alt b) w q) : (q < m ∧ At nm a w q) ∨ (m ≤ q ∧ At nm b w q) := by
  induction h with
  | @first q x h1 h2 =>
    rcases List.mem_append.mp h1 with h | h
    · exact .inl ⟨by have := (ha.fs _ h).2; omega, .first h h2⟩
    · exact .inr ⟨(hb.fs _ h).1, .first h h2⟩
  | @next u p q x h1 h2 h3 ih =>
    rcases List.mem_append.mp h2 with h2 | h2
    · have := ha.ps _ _ h2
      rcases ih with ⟨_, ih⟩ | ⟨ih, _⟩
      · exact .inl ⟨by omega, .next ih h2 h3⟩
      · omega
    · have := hb.ps _ _ h2
      rcases ih with ⟨ih, _⟩ | ⟨_, ih⟩
      · omega
      · exact .inr ⟨by omega, .next ih h2 h3⟩
include ha hb hm in
theorem alt_lg {w : List Str} : Lg nm (a.alt b) w ↔ Lg nm a w ∨ Lg nm b w := by
  constructor
  · rintro (⟨rfl, he⟩ | ⟨q, hq, hat⟩)
    · simp only [Pl.alt, Bool.or_eq_true] at he
      exact he.imp (fun h => .inl ⟨rfl, h⟩) (fun h => .inl ⟨rfl, h⟩)
    · rcases List.mem_append.mp hq with hq | hq
      · have := ha.ls _ hq
        rcases alt_at3 ha hb hm hat with ⟨_, h⟩ | ⟨h, _⟩
        · exact .inl (.inr ⟨q, hq, h⟩)
        · omega
      · have := hb.ls _ hq
        rcases alt_at3 ha hb hm hat with ⟨h, _⟩ | ⟨_, h⟩
        · omega
        · exact .inr (.inr ⟨q, hq, h⟩)
  · rintro ((⟨rfl, he⟩ | ⟨q, hq, hat⟩) | (⟨rfl, he⟩ | ⟨q, hq, hat⟩))
    · exact .inl ⟨rfl, by simp [Pl.alt, he]⟩
    · exact .inr ⟨q, List.mem_append_left _ hq, alt_at1 hat⟩
    · exact .inl ⟨rfl, by simp [Pl.alt, he]⟩
    · exact .inr ⟨q, List.mem_append_right _ hq, alt_at2 hat⟩
end Seq
theorem opt_in {a : Pl} {n : Nat} (ha : a.In n) : a.opt.In n := ⟨ha.fs, ha.ls, ha.ps⟩
theorem turn_in {a : Pl} {n : Nat} (ha : a.In n) : a.turn.In n := by
  refine ⟨ha.fs, ha.ls, fun p q h => ?_⟩
  rcases List.mem_append.mp h with h | h
  · exact ha.ps _ _ h
  · obtain ⟨k1, k2⟩ := both_mem.mp h
    exact ⟨ha.ls _ k1, ha.fs _ k2⟩
theorem opt_lg {a : Pl} {w : List Str} : Lg nm a.opt w ↔ w = [] ∨ Lg nm a w := by
  constructor
  · rintro (⟨rfl, he⟩ | ⟨q, hq, hat⟩)
    · exact .inl rfl
    · exact .inr (.inr ⟨q, hq, At.mono (a := a.opt) (b := a) (fun _ h => h) (fun _ _ h => h) hat⟩)
  · rintro (rfl | ⟨rfl, he⟩ | ⟨q, hq, hat⟩)
    · exact .inl ⟨rfl, rfl⟩
    · exact .inl ⟨rfl, rfl⟩
    · exact .inr ⟨q, hq, At.mono (a := a) (b := a.opt) (fun _ h => h) (fun _ _ h => h) hat⟩
theorem turn_at1 {a : Pl} {u : List Str} (hu : Star (Lg nm a) u) : ∀ {v : List Str} {q : Nat}, At nm a v q → At nm a.turn (u ++ v) q := by
  induction hu with
  | nil => exact fun {v q} h => At.mono (a := a) (b := a.turn) (fun _ h => h) (fun _ _ h => List.mem_append_left _ h) h
  | @snoc u v hu hv hne ih =>
    intro v2 q h
    rcases hv with ⟨z, _⟩ | ⟨l, hl, hat⟩
    · exact absurd z hne
    induction h with
    | first h1 h2 => exact .next (ih hat) (List.mem_append_right _ (both_mem.mpr ⟨hl, h1⟩)) h2
    | next h1 h2 h3 ih2 =>
      rw [← List.append_assoc]
      exact .next ih2 (List.mem_append_left _ h2) h3
theorem turn_at2 {a : Pl} {w : List Str} {q : Nat} (h : At nm a.turn w q) : ∃ u v, w = u ++ v ∧ Star (Lg nm a) u ∧ At nm a v q := by
  induction h with
  | @first q x h1 h2 => exact ⟨[], [x], rfl, .nil, .first h1 h2⟩
  | @next u p q x h1 h2 h3 ih =>
    obtain ⟨u1, v1, e, k1, k2⟩ := ih
    rcases List.mem_append.mp h2 with h2 | h2
    · exact ⟨u1, v1 ++ [x], by rw [e, List.append_assoc], k1, .next k2 h2 h3⟩
    · obtain ⟨c1, c2⟩ := both_mem.mp h2
      exact ⟨u, [x], rfl, by rw [e]; exact .snoc k1 (.inr ⟨p, c1, k2⟩) k2.ne, .first c2 h3⟩
theorem turn_lg {a : Pl} {w : List Str} : Lg nm a.turn w ↔ Star (Lg nm a) w := by
  constructor
  · rintro (⟨rfl, he⟩ | ⟨q, hq, hat⟩)
    · exact .nil
    · obtain ⟨u, v, rfl, h1, h2⟩ := turn_at2 hat
      exact .snoc h1 (.inr ⟨q, hq, h2⟩) h2.ne
  · intro h
    cases h with
    | nil => exact .inl ⟨rfl, rfl⟩
    | @snoc u v hu hv hne =>
      rcases hv with ⟨z, _⟩ | ⟨l, hl, hat⟩
      · exact absurd z hne
      · exact .inr ⟨l, hl, turn_at1 hu hat⟩
theorem Star.imp {L M : List Str → Prop} (h : ∀ w, L w → M w) {w : List Str} (s : Star L w) : Star M w := by
  induction s with
  | nil => exact .nil
  | snoc _ h1 h2 ih => exact .snoc ih (h _ h1) h2
/-- the names stand from n on -/
def Pla (nm : Nat → Option Str) (n : Nat) (l : List Str) : Prop := ∀ k, k < l.length → nm (n + k) = l[k]?
theorem Pla.left {n : Nat} {a b : List Str} (h : Pla nm n (a ++ b)) : Pla nm n a := fun k hk => by
  rw [h k (by rw [List.length_append]; omega), List.getElem?_append_left hk]
theorem Pla.right {n : Nat} {a b : List Str} (h : Pla nm n (a ++ b)) : Pla nm (n + a.length) b := fun k hk => by
  have := h (a.length + k) (by rw [List.length_append]; omega)
  rw [show n + a.length + k = n + (a.length + k) by omega, this, List.getElem?_append_right (by omega)]
  congr 1
  omega
theorem e0_in {n : Nat} : Pl.e0.In n := ⟨(fun q h => nomatch h), (fun q h => nomatch h), (fun p q h => nomatch h)⟩
theorem no_in {n : Nat} : Pl.no.In n := ⟨(fun q h => nomatch h), (fun q h => nomatch h), (fun p q h => nomatch h)⟩
theorem no_lg {w : List Str} : ¬ Lg nm .no w := by
  rintro (⟨_, h⟩ | ⟨q, hq, _⟩)
  · cases h
  · cases hq
theorem e0_lg {w : List Str} : Lg nm .e0 w ↔ w = [] := by
  constructor
  · rintro (⟨rfl, he⟩ | ⟨q, hq, hat⟩)
    · rfl
    · cases hq
  · exact fun h => .inl ⟨h, rfl⟩
/-! ### a plan's names, places and words -/
mutual
/-- the names written in an item, a body, some bodies -/
def wrI : It → List Str
  | .call x => [x]
  | .may b => wrB b
  | .loop b => wrB b
  | .one bs => wrBs bs
def wrB : List It → List Str
  | [] => []
  | i :: r => wrI i ++ wrB r
def wrBs : List (List It) → List Str
  | [] => []
  | b :: r => wrB b ++ wrBs r
end
mutual
theorem planI_nm : ∀ (i : It) (n : Nat), (planI i n).nm = wrI i
  | .call x, n => by simp [planI, wrI]
  | .may b, n => by simp only [planI, wrI, Pl.opt, planB_nm b .e0 n]; rfl
  | .loop b, n => by simp only [planI, wrI, Pl.turn, planB_nm b .e0 n]; rfl
  | .one bs, n => by simp only [planI, wrI]; exact planO_nm bs n
theorem planB_nm : ∀ (l : List It) (a : Pl) (n : Nat), (planB l a n).nm = a.nm ++ wrB l
  | [], a, n => by simp [planB, wrB]
  | i :: r, a, n => by
    simp only [planB, wrB]
    rw [planB_nm r]
    simp only [Pl.seq, planI_nm i, List.append_assoc]
theorem planO_nm : ∀ (bs : List (List It)) (n : Nat), (planO bs n).nm = wrBs bs
  | [], n => by simp [planO, wrBs, Pl.no]
  | b :: r, n => by
    simp only [planO, wrBs]
    rw [planA_nm r, planB_nm b]
    rfl
theorem planA_nm : ∀ (bs : List (List It)) (a : Pl) (n : Nat), (planA bs a n).nm = a.nm ++ wrBs bs
  | [], a, n => by simp [planA, wrBs]
  | b :: r, a, n => by
    simp only [planA, wrBs]
    rw [planA_nm r]
    simp only [Pl.alt, planB_nm b, Pl.e0, List.nil_append, List.append_assoc]
end
mutual
theorem planI_in : ∀ (i : It) (n : Nat), (planI i n).In n
  | .call x, n => by
    refine ⟨fun q h => ?_, fun q h => ?_, fun p q h => ?_⟩
    · simp only [planI, List.mem_singleton] at h ⊢; simp; omega
    · simp only [planI, List.mem_singleton] at h ⊢; simp; omega
    · simp [planI] at h
  | .may b, n => by simp only [planI]; exact opt_in (planB_in b .e0 n e0_in)
  | .loop b, n => by simp only [planI]; exact turn_in (planB_in b .e0 n e0_in)
  | .one bs, n => by simp only [planI]; exact planO_in bs n
theorem planB_in : ∀ (l : List It) (a : Pl) (n : Nat), a.In n → (planB l a n).In n
  | [], a, n, h => by simp only [planB]; exact h
  | i :: r, a, n, h => by
    simp only [planB]
    exact planB_in r _ n (seq_in h (planI_in i _) rfl)
theorem planO_in : ∀ (bs : List (List It)) (n : Nat), (planO bs n).In n
  | [], n => by simp only [planO]; exact no_in
  | b :: r, n => by simp only [planO]; exact planA_in r _ n (planB_in b .e0 n e0_in)
theorem planA_in : ∀ (bs : List (List It)) (a : Pl) (n : Nat), a.In n → (planA bs a n).In n
  | [], a, n, h => by simp only [planA]; exact h
  | b :: r, a, n, h => by
    simp only [planA]
    exact planA_in r _ n (alt_in h (planB_in b .e0 _ e0_in) rfl)
end
mutual
theorem planI_lg : ∀ (i : It) (n : Nat), Pla nm n (wrI i) → ∀ w, Lg nm (planI i n) w ↔ WI i w
  | .call x, n, h, w => by
    have hx : nm n = some x := by have := h 0 (by simp [wrI]); simpa [wrI] using this
    simp only [planI, WI]
    constructor
    · rintro (⟨rfl, he⟩ | ⟨q, hq, hat⟩)
      · cases he
      · cases hat with
        | first h1 h2 =>
          simp only [List.mem_singleton] at h1
          subst h1
          rw [hx] at h2
          cases h2
          rfl
        | next h1 h2 h3 => cases h2
    · rintro rfl
      exact .inr ⟨n, by simp, .first (by simp) hx⟩
  | .may b, n, h, w => by
    simp only [wrI] at h
    simp only [planI, WI, opt_lg]
    rw [planB_lg b .e0 n e0_in (by exact h)]
    constructor
    · rintro (h | ⟨u, v, rfl, h1, h2⟩)
      · exact .inl h
      · rw [e0_lg] at h1; subst h1; exact .inr h2
    · rintro (h | h)
      · exact .inl h
      · exact .inr ⟨[], w, rfl, e0_lg.mpr rfl, h⟩
  | .loop b, n, h, w => by
    simp only [wrI] at h
    simp only [planI, WI, turn_lg]
    have k : ∀ w, Lg nm (planB b .e0 n) w ↔ WB b w := fun w => by
      rw [planB_lg b .e0 n e0_in (by exact h)]
      exact ⟨fun ⟨u, v, e, h1, h2⟩ => by rw [e0_lg] at h1; subst h1; rw [e]; exact h2, fun h => ⟨[], w, rfl, e0_lg.mpr rfl, h⟩⟩
    exact ⟨Star.imp fun w => (k w).mp, Star.imp fun w => (k w).mpr⟩
  | .one bs, n, h, w => by
    simp only [wrI] at h
    simp only [planI, WI]
    exact planO_lg bs n h w
theorem planB_lg : ∀ (l : List It) (a : Pl) (n : Nat), a.In n → Pla nm n (a.nm ++ wrB l) → ∀ {w}, Lg nm (planB l a n) w ↔ ∃ u v, w = u ++ v ∧ Lg nm a u ∧ WB l v
  | [], a, n, hi, h, w => by
    simp only [planB, WB]
    exact ⟨fun h => ⟨w, [], by simp, h, rfl⟩, fun ⟨u, v, e, h1, h2⟩ => by subst h2; rw [e, List.append_nil]; exact h1⟩
  | i :: r, a, n, hi, h, w => by
    simp only [wrB] at h
    have ii := planI_in i (n + a.nm.length)
    have h1 : Pla nm (n + a.nm.length) (wrI i) := (Pla.right h).left
    have k := planI_lg i (n + a.nm.length) h1
    simp only [planB, WB]
    rw [planB_lg r _ n (seq_in hi ii rfl) (by simp only [Pl.seq, planI_nm i, List.append_assoc]; exact h)]
    constructor
    · rintro ⟨u, v, rfl, h1, h2⟩
      rw [seq_lg hi ii rfl] at h1
      obtain ⟨u1, v1, rfl, h3, h4⟩ := h1
      exact ⟨u1, v1 ++ v, by rw [List.append_assoc], h3, v1, v, rfl, (k v1).mp h4, h2⟩
    · rintro ⟨u, v, rfl, h1, u1, v1, rfl, h2, h3⟩
      exact ⟨u ++ u1, v1, by rw [List.append_assoc], (seq_lg hi ii rfl).mpr ⟨u, u1, rfl, h1, (k u1).mpr h2⟩, h3⟩
theorem planO_lg : ∀ (bs : List (List It)) (n : Nat), Pla nm n (wrBs bs) → ∀ w, Lg nm (planO bs n) w ↔ WBs bs w
  | [], n, h, w => by
    simp only [planO, WBs, iff_false]
    exact no_lg
  | b :: r, n, h, w => by
    simp only [wrBs] at h
    have k : ∀ w, Lg nm (planB b .e0 n) w ↔ WB b w := fun w => by
      rw [planB_lg b .e0 n e0_in (by exact h.left)]
      exact ⟨fun ⟨u, v, e, h1, h2⟩ => by rw [e0_lg] at h1; subst h1; rw [e]; exact h2, fun h => ⟨[], w, rfl, e0_lg.mpr rfl, h⟩⟩
    simp only [planO, WBs]
    rw [planA_lg r _ n (planB_in b .e0 n e0_in) (by rw [planB_nm b]; exact h), k]
theorem planA_lg : ∀ (bs : List (List It)) (a : Pl) (n : Nat), a.In n → Pla nm n (a.nm ++ wrBs bs) → ∀ {w}, Lg nm (planA bs a n) w ↔ Lg nm a w ∨ WBs bs w
  | [], a, n, hi, h, w => by simp [planA, WBs]
  | b :: r, a, n, hi, h, w => by
    simp only [wrBs] at h
    have h1 : Pla nm (n + a.nm.length) (wrB b) := (Pla.right h).left
    have k : ∀ w, Lg nm (planB b .e0 (n + a.nm.length)) w ↔ WB b w := fun w => by
      rw [planB_lg b .e0 _ e0_in (by exact h1)]
      exact ⟨fun ⟨u, v, e, h1, h2⟩ => by rw [e0_lg] at h1; subst h1; rw [e]; exact h2, fun h => ⟨[], w, rfl, e0_lg.mpr rfl, h⟩⟩
    have ii := planB_in b .e0 (n + a.nm.length) e0_in
    simp only [planA, WBs]
    rw [planA_lg r _ n (alt_in hi ii rfl) (by simp only [Pl.alt, planB_nm b, Pl.e0, List.nil_append, List.append_assoc]; exact h), alt_lg hi ii rfl, k, or_assoc]
end
end FA

set_option Elab.async false
set_option linter.all false
set_option maxRecDepth 100000
set_option maxHeartbeats 4000000
/-! Plans in the heap; two loops in one comprehension; how long plans are. -/
namespace FA
open PySem PySem.Spec PyProof.Rows L2
variable {K : PySem.W.Frag} {H H' : Hp}
def nts (l : List Nat) : List V := l.map fun (q : Nat) => V.int (q : Int)
theorem nts_len (l : List Nat) : (nts l).length = l.length := by simp [nts]
theorem nts_app (a b : List Nat) : nts (a ++ b) = nts a ++ nts b := by simp [nts]
theorem nts_get {l : List Nat} {j : Nat} {v : V} (h : (nts l)[j]? = some v) : ∃ q : Nat, l[j]? = some q ∧ v = .int (q : Int) := by
  unfold nts at h
  rw [List.getElem?_map] at h
  cases e : l[j]? with
  | none => rw [e] at h; cases h
  | some q => rw [e] at h; cases h; exact ⟨q, rfl, rfl⟩
/-- references to pairs of numbers -/
inductive PrsAt (H : Hp) : List V → List (Nat × Nat) → Prop where
  | nil : PrsAt H [] []
  | cons {t : Addr} {q : Nat × Nat} {vs : List V} {l : List (Nat × Nat)} : H t = some (.tup [.int (q.1 : Int), .int (q.2 : Int)]) → PrsAt H vs l → PrsAt H (.ref t :: vs) (q :: l)
theorem PrsAt.keep (k : ∀ t xs, H t = some (.tup xs) → H' t = some (.tup xs)) : ∀ {vs : List V} {l : List (Nat × Nat)}, PrsAt H vs l → PrsAt H' vs l
  | _, _, .nil => .nil
  | _, _, .cons h t => .cons (k _ _ h) (t.keep k)
theorem PrsAt.length : ∀ {vs : List V} {l : List (Nat × Nat)}, PrsAt H vs l → vs.length = l.length
  | _, _, .nil => rfl
  | _, _, .cons _ t => congrArg (· + 1) t.length
theorem PrsAt.app : ∀ {vs ws : List V} {l m : List (Nat × Nat)}, PrsAt H vs l → PrsAt H ws m → PrsAt H (vs ++ ws) (l ++ m)
  | _, _, _, _, .nil, k => k
  | _, _, _, _, .cons h t, k => .cons h (t.app k)
theorem PrsAt.get : ∀ {vs : List V} {l : List (Nat × Nat)} {i : Nat} {v : V}, PrsAt H vs l → vs[i]? = some v → ∃ t q, v = .ref t ∧ l[i]? = some q ∧ H t = some (.tup [.int (q.1 : Int), .int (q.2 : Int)])
  | _, _, 0, _, .cons h t, e => by cases e; exact ⟨_, _, rfl, rfl, h⟩
  | _, _, i + 1, _, .cons h t, e => t.get (i := i) e
/-- a plan in the heap -/
def PlAt (H : Hp) (t : Addr) (a : Pl) : Prop := ∃ (n f l p : Addr) (ws : List V), H t = some (.tup [.ref n, .ref f, .ref l, .ref p, .bl a.em]) ∧ H n = some (.lst (a.nm.map V.str)) ∧ H f = some (.lst (nts a.fs)) ∧ H l = some (.lst (nts a.ls)) ∧ H p = some (.lst ws) ∧ PrsAt H ws a.ps
theorem PlAt.keep (s : Same H H') {t : Addr} {a : Pl} (h : PlAt H t a) : PlAt H' t a :=
  let ⟨n, f, l, p, ws, h1, h2, h3, h4, h5, h6⟩ := h
  ⟨n, f, l, p, ws, s _ _ h1, s _ _ h2, s _ _ h3, s _ _ h4, s _ _ h5, h6.keep fun _ _ e => s _ _ e⟩
/-! ### how long -/
structure Pl.Sz (a : Pl) (D : Nat) : Prop where
  fs : a.fs.length ≤ a.nm.length
  ls : a.ls.length ≤ a.nm.length
  ps : a.ps.length ≤ D * (a.nm.length * a.nm.length)
theorem both_len : ∀ (l f : List Nat), (both l f).length = l.length * f.length
  | [], f => by simp [both]
  | x :: r, f => by
    have ih := both_len r f
    simp only [both, List.flatMap_cons, List.length_append, List.length_map, List.length_cons] at ih ⊢
    rw [ih, Nat.add_mul]
    omega
theorem Pl.Sz.mono {a : Pl} {D D' : Nat} (h : a.Sz D) (d : D ≤ D') : a.Sz D' := ⟨h.fs, h.ls, Nat.le_trans h.ps (Nat.mul_le_mul_right _ d)⟩
theorem sq_add (a b : Nat) : (a + b) * (a + b) = a * a + a * b + (a * b + b * b) := by
  rw [Nat.add_mul, Nat.mul_add, Nat.mul_add, Nat.mul_comm b a]
theorem seq_sz {a b : Pl} {D : Nat} (hD : 1 ≤ D) (ha : a.Sz D) (hb : b.Sz D) : (a.seq b).Sz D := by
  have a1 := ha.fs
  have a2 := ha.ls
  have b1 := hb.fs
  have b2 := hb.ls
  refine ⟨?_, ?_, ?_⟩
  · simp only [Pl.seq, List.length_append]
    split
    · rw [List.length_append]; omega
    · omega
  · simp only [Pl.seq, List.length_append]
    split
    · rw [List.length_append]; omega
    · omega
  · simp only [Pl.seq, List.length_append, both_len]
    have a3 := ha.ps
    have b3 := hb.ps
    have c1 : a.ls.length * b.fs.length ≤ a.nm.length * b.nm.length := Nat.mul_le_mul a2 b1
    have c2 : a.nm.length * b.nm.length ≤ D * (a.nm.length * b.nm.length) := Nat.le_mul_of_pos_left _ hD
    rw [sq_add, Nat.mul_add, Nat.mul_add, Nat.mul_add]
    omega
theorem alt_sz {a b : Pl} {D : Nat} (ha : a.Sz D) (hb : b.Sz D) : (a.alt b).Sz D := by
  have a1 := ha.fs
  have a2 := ha.ls
  have b1 := hb.fs
  have b2 := hb.ls
  refine ⟨?_, ?_, ?_⟩
  · simp only [Pl.alt, List.length_append]; omega
  · simp only [Pl.alt, List.length_append]; omega
  · simp only [Pl.alt, List.length_append]
    have a3 := ha.ps
    have b3 := hb.ps
    rw [sq_add, Nat.mul_add, Nat.mul_add, Nat.mul_add]
    omega
theorem turn_sz {a : Pl} {D : Nat} (ha : a.Sz D) : a.turn.Sz (D + 1) := by
  refine ⟨ha.fs, ha.ls, ?_⟩
  simp only [Pl.turn, List.length_append, both_len]
  have a3 := ha.ps
  have c := Nat.mul_le_mul ha.ls ha.fs
  rw [Nat.add_mul, Nat.one_mul]
  omega
theorem e0_sz {D : Nat} : Pl.e0.Sz D := ⟨Nat.le_refl _, Nat.le_refl _, Nat.zero_le _⟩
mutual
theorem planI_sz : ∀ (i : It) (n : Nat), (planI i n).Sz (dI i + 1)
  | .call x, n => by
    simp only [planI]
    exact ⟨Nat.le_refl _, Nat.le_refl _, Nat.zero_le _⟩
  | .may b, n => by
    have h := (planB_sz b .e0 n (dB b) e0_sz (Nat.le_refl _)).mono (Nat.le_succ _)
    simp only [planI, dI]
    exact ⟨h.fs, h.ls, h.ps⟩
  | .loop b, n => by
    simp only [planI, dI]
    exact turn_sz (planB_sz b .e0 n (dB b) e0_sz (Nat.le_refl _))
  | .one bs, n => by
    simp only [planI, dI]
    exact (planO_sz bs n (dBs bs) (Nat.le_refl _)).mono (Nat.le_succ _)
theorem planB_sz : ∀ (l : List It) (a : Pl) (n : Nat) (D : Nat), a.Sz D → dB l ≤ D → (planB l a n).Sz D
  | [], a, n, D, h, d => by simp only [planB]; exact h
  | i :: r, a, n, D, h, d => by
    simp only [dB] at d
    simp only [planB]
    exact planB_sz r _ n D (seq_sz (by omega) h ((planI_sz i _).mono (by omega))) (by omega)
theorem planO_sz : ∀ (bs : List (List It)) (n : Nat) (D : Nat), dBs bs ≤ D → (planO bs n).Sz D
  | [], n, D, d => by simp only [planO]; exact ⟨Nat.le_refl _, Nat.le_refl _, Nat.zero_le _⟩
  | b :: r, n, D, d => by
    simp only [dBs] at d
    simp only [planO]
    exact planA_sz r _ n D (planB_sz b .e0 n D e0_sz (by omega)) (by omega)
theorem planA_sz : ∀ (bs : List (List It)) (a : Pl) (n : Nat) (D : Nat), a.Sz D → dBs bs ≤ D → (planA bs a n).Sz D
  | [], a, n, D, h, d => by simp only [planA]; exact h
  | b :: r, a, n, D, h, d => by
    simp only [dBs] at d
    simp only [planA]
    exact planA_sz r _ n D (alt_sz h (planB_sz b .e0 _ D e0_sz (by omega))) (by omega)
end
/-- a plan is small: no list of it is longer than 500 -/
structure Pl.Few (a : Pl) : Prop where
  nm : a.nm.length ≤ 8
  fs : a.fs.length ≤ 8
  ls : a.ls.length ≤ 8
  ps : a.ps.length ≤ 400
theorem Pl.Sz.few {a : Pl} {D : Nat} (h : a.Sz D) (d : D ≤ 6) (n : a.nm.length ≤ 8) : a.Few := by
  refine ⟨n, Nat.le_trans h.fs n, Nat.le_trans h.ls n, Nat.le_trans h.ps ?_⟩
  exact Nat.le_trans (Nat.mul_le_mul d (Nat.mul_le_mul n n)) (by decide)
/-- [(a, b) for a in l for b in f] -/
theorem lc2S {l f : List Nat} {te : TE} {i1 i2 : Nat} {σ : L2.St} {H1 : Hp} {A B D : Addr} {wi1 : TI} {Qd : Hp → Prop} (hA : H1 A = some (.lst (nts l))) (hl : l.length ≤ 8) (hf : f.length ≤ 8) (hD : H1 D = none) (ne : i1 ≠ i2) (h1 : i1 < σ.length) (h2 : i2 < σ.length)
    (walk : ∀ (σ' : L2.St) (H : Hp) (q : Nat) (Q : L2.It → Hp → Prop), Same H1 H → σ' = (wipe σ [i1, i2]).set i1 (some (.int (q : Int))) → Q (Itl K B) H → wi1 σ' H Q) (hB : H1 B = some (.lst (nts f)))
    (el : ∀ (σ' : L2.St) (H : Hp) (p q : Nat) (Q : VK), σ'[i1]? = some (some (.int (p : Int))) → σ'[i2]? = some (some (.int (q : Int))) → (∀ t, H t = none → Q (.ref t) (upd H t (.tup [.int (p : Int), .int (q : Int)]))) → te σ' H Q)
    (fin : ∀ H ws, Same H1 H → H D = some (.lst ws) → PrsAt H ws (both l f) → Qd H) :
    ∃ W : Nat → Nat → Hp → Prop, (∃ m, W 0 m (upd H1 D (.lst []))) ∧ ∀ i m H, W i m H → ((Itl K A).stop i H ∧ Qd H) ∨ ((Itl K A).go i H ∧ ∃ Nx : Hp → Prop, (∀ H', Nx H' → ∃ m', m' < m ∧ W (i + 1) m' H') ∧ ∀ x H', (Itl K A).yld i H x H' → gName i1 x (wipe σ [i1, i2]) H' fun σ2 H2 => wipe σ2 [i1, i2] = wipe σ [i1, i2] ∧ tYes σ2 H2 fun b H3 => if b = true then wi1 σ2 H3 fun J1 H4 => ∃ W1 : Nat → Nat → Hp → Prop, (∃ m, W1 0 m H4) ∧ ∀ j k H, W1 j k H → (J1.stop j H ∧ Nx H) ∨ (J1.go j H ∧ ∃ Nx1 : Hp → Prop, (∀ H', Nx1 H' → ∃ k', k' < k ∧ W1 (j + 1) k' H') ∧ ∀ x H', J1.yld j H x H' → gName i2 x (wipe σ2 [i2]) H' fun σ3 H5 => wipe σ3 [i2] = wipe σ2 [i2] ∧ tYes σ3 H5 fun b H6 => if b = true then te σ3 H6 fun y H7 => ∃ acc, H7 D = some (.lst acc) ∧ acc.length < sizeLine ∧ Nx1 (upd H7 D (.lst (acc ++ [y]))) else Nx1 H6) else Nx H3) := by
  have tk : ∀ (o : HO) (H : Hp) (ws : List V), H D = some (.lst ws) → ∀ a xs, H a = some (.tup xs) → (upd H D o) a = some (.tup xs) := fun o H ws hy a xs e => by
    rw [upd_ne]
    · exact e
    · rintro rfl
      rw [hy] at e
      cases e
  have lw : (wipe σ [i1, i2]).length = σ.length := by rw [wipe_length]
  refine ⟨fun i m H => i ≤ l.length ∧ m = l.length - i ∧ Same H1 H ∧ ∃ ws, H D = some (.lst ws) ∧ PrsAt H ws (both (l.take i) f), ⟨_, Nat.zero_le _, rfl, fun b o e => by rw [upd_ne (ne_of_none e hD)]; exact e, [], upd_same, ?_⟩, ?_⟩
  · rw [List.take_zero]; exact .nil
  rintro i m H ⟨hi, rfl, sm, ws, hws, hp⟩
  by_cases hlt : i < l.length
  · have hlt2 : i < (nts l).length := by rw [nts_len]; exact hlt
    refine .inr ⟨go_l (SqL.of hA) i H sm hlt2, fun H' => i + 1 ≤ l.length ∧ Same H1 H' ∧ ∃ ws, H' D = some (.lst ws) ∧ PrsAt H' ws (both (l.take (i + 1)) f), fun H' h => ⟨l.length - (i + 1), by omega, h.1, rfl, h.2⟩, fun x H' y => ?_⟩
    obtain ⟨rfl, hx⟩ := yld_l (SqL.of hA) i H x H' sm hlt2 y
    obtain ⟨p, e1, rfl⟩ := nts_get hx
    have tk1 : both (l.take (i + 1)) f = both (l.take i) f ++ f.map fun b => (p, b) := by
      rw [List.take_add_one, e1]
      simp [both]
    refine ⟨?_, ?_⟩
    · show ((((((σ.set i2 none).set i1 none)).set i1 (some (.int (p : Int)))).set i2 none)).set i1 none = (σ.set i2 none).set i1 none
      rw [List.set_set, List.set_comm _ _ ne, List.set_set, List.set_set]
    · refine yesT ?_
      rw [if_pos rfl]
      refine walk _ _ p _ sm rfl ?_
      refine ⟨fun j k H => j ≤ f.length ∧ k = f.length - j ∧ Same H1 H ∧ ∃ ws, H D = some (.lst ws) ∧ PrsAt H ws (both (l.take i) f ++ (f.take j).map fun b => (p, b)), ⟨_, Nat.zero_le _, rfl, sm, ws, hws, ?_⟩, ?_⟩
      · rw [List.take_zero, List.map_nil, List.append_nil]; exact hp
      rintro j k H2 ⟨hj, rfl, s2, ws2, hws2, hp2⟩
      by_cases hjl : j < f.length
      · have hjl2 : j < (nts f).length := by rw [nts_len]; exact hjl
        refine .inr ⟨go_l (SqL.of hB) j H2 s2 hjl2, fun H' => j + 1 ≤ f.length ∧ Same H1 H' ∧ ∃ ws, H' D = some (.lst ws) ∧ PrsAt H' ws (both (l.take i) f ++ (f.take (j + 1)).map fun b => (p, b)), fun H' h => ⟨f.length - (j + 1), by omega, h.1, rfl, h.2⟩, fun x H' y => ?_⟩
        obtain ⟨rfl, hx2⟩ := yld_l (SqL.of hB) j H2 x H' s2 hjl2 y
        obtain ⟨q, e2, rfl⟩ := nts_get hx2
        refine ⟨?_, ?_⟩
        · show ((((wipe σ [i1, i2]).set i1 (some (.int (p : Int)))).set i2 none).set i2 (some (.int (q : Int)))).set i2 none = ((wipe σ [i1, i2]).set i1 (some (.int (p : Int)))).set i2 none
          rw [List.set_set, List.set_set]
        · refine yesT ?_
          rw [if_pos rfl]
          refine el _ _ p q _ ?_ ?_ fun t ht => ?_
          · show ((((wipe σ [i1, i2]).set i1 (some (.int (p : Int)))).set i2 none).set i2 (some (.int (q : Int))))[i1]? = _
            rw [List.set_set, List.getElem?_set_ne (Ne.symm ne), List.getElem?_set_self (by rw [lw]; exact h1)]
          · show ((((wipe σ [i1, i2]).set i1 (some (.int (p : Int)))).set i2 none).set i2 (some (.int (q : Int))))[i2]? = _
            rw [List.set_set, List.getElem?_set_self (by rw [List.length_set, lw]; exact h2)]
          · have htD : D ≠ t := ne_of_none hws2 ht
            have s3 := same_upd0 ht (.tup [.int (p : Int), .int (q : Int)])
            have pl := hp2.length
            have b1 : (both (l.take i) f).length ≤ 64 := by
              rw [both_len, List.length_take]
              exact Nat.le_trans (Nat.mul_le_mul (Nat.le_trans (Nat.min_le_right _ _) hl) hf) (by decide)
            have b2 : ((f.take j).map fun b => (p, b)).length ≤ 8 := by rw [List.length_map, List.length_take]; omega
            rw [List.length_append] at pl
            refine ⟨ws2, s3 _ _ hws2, small1000 (by omega), by omega, fun b o e => ?_, ws2 ++ [.ref t], upd_same, ?_⟩
            · rw [upd_ne (ne_of_none e hD)]; exact s3 _ _ (s2 _ _ e)
            · have e3 : (f.take (j + 1)).map (fun b => (p, b)) = (f.take j).map (fun b => (p, b)) ++ [(p, q)] := by
                rw [List.take_add_one, e2]
                simp
              rw [e3, ← List.append_assoc]
              refine PrsAt.app ((hp2.keep fun a xs e => s3 _ _ e).keep (tk _ _ _ (s3 _ _ hws2))) (.cons ?_ .nil)
              exact tk _ _ _ (s3 _ _ hws2) _ _ upd_same
      · have : j = f.length := by omega
        subst this
        refine .inl ⟨by have := stop_l (SqL.of (K := K) hB) H2 s2; rw [nts_len] at this; exact this, hlt, s2, ws2, hws2, ?_⟩
        rw [List.take_length] at hp2
        rw [tk1]
        exact hp2
  · have : i = l.length := by omega
    subst this
    refine .inl ⟨by have := stop_l (SqL.of (K := K) hA) H sm; rw [nts_len] at this; exact this, fin H ws sm hws ?_⟩
    rw [List.take_length] at hp
    exact hp
section
variable {X : Cx} {w : World} {l tg : Expr} {tl : TE}
theorem pi_listK (hK : X.K = K) (h : PE X l tl) : PI X tg l (iList K tl) := by subst hK; exact pi_list h
theorem op_in_seqK (hK : X.K = K) : OpR X (compareOp .In) (rIn K false) := by subst hK; exact op_in_seq
theorem cr_sortedSetK (hw : X.w = w) (hc : X.calm = true) : CallR X (.builtin "sorted") (rSortedSet w) := by subst hw; exact cr_sortedSet hc
theorem pe_siK {elt tg iter : Expr} {ifs : List Expr} {scope : Scope} {own : List (Str × Nat)} {pos : Pos} {wi : TI} {g : TG} {tt : TT} {te : TE} (hw : X.w = w) (hc : X.calm = true) (nd : X.N.Nodup) (hi : PI X tg iter wi) (ok : BlkOk X.N X.env.scope scope own)
    (hg : ∀ (s : Shared) (H : Hp) (C : Addr) (cl : List (Str × Addr)) (fp : List Addr), PG (X.blk s H scope (compEnvC scope cl C X.env) fp) tg g) (ht : ∀ (s : Shared) (H : Hp) (C : Addr) (cl : List (Str × Addr)) (fp : List Addr), PTs (X.blk s H scope (compEnvC scope cl C X.env) fp) ifs tt)
    (he : ∀ (s : Shared) (H : Hp) (C : Addr) (cl : List (Str × Addr)) (fp : List Addr), PE (X.blk s H scope (compEnvC scope cl C X.env) fp) elt te) (fold : ∀ x, foldedSetIterable iter X.env x = pure x := by intro _; rfl) :
    PE X (.SetComp elt [⟨tg, iter, ifs, 0⟩] scope pos) (tSi w wi g tt te (own.map (·.2))) := by subst hw; exact pe_si hc nd hi ok hg ht he fold
end
mutual
theorem wrI_len : ∀ i : It, (wrI i).length = nC i
  | .call x => by simp [wrI, nC]
  | .may b => by simp only [wrI, nC, wrB_len b]
  | .loop b => by simp only [wrI, nC, wrB_len b]
  | .one bs => by simp only [wrI, nC, wrBs_len bs]
theorem wrB_len : ∀ b : List It, (wrB b).length = nCB b
  | [] => by simp [wrB, nCB]
  | i :: r => by simp only [wrB, nCB, List.length_append, wrI_len i, wrB_len r]
theorem wrBs_len : ∀ bs : List (List It), (wrBs bs).length = nCBs bs
  | [] => by simp [wrBs, nCBs]
  | b :: r => by simp only [wrBs, nCBs, List.length_append, wrB_len b, wrBs_len r]
end
theorem planB_app : ∀ (l m : List It) (a : Pl) (n : Nat), planB (l ++ m) a n = planB m (planB l a n) n
  | [], m, a, n => by simp only [List.nil_append, planB]
  | i :: r, m, a, n => by simp only [List.cons_append, planB, planB_app r m]
theorem planB_take {l : List It} {j : Nat} {i : It} (h : l[j]? = some i) (a : Pl) (n : Nat) : planB (l.take (j + 1)) a n = (planB (l.take j) a n).seq (planI i (n + (planB (l.take j) a n).nm.length)) := by
  rw [List.take_add_one, h, planB_app]
  simp only [Option.toList_some, planB]
theorem planA_app : ∀ (l m : List (List It)) (a : Pl) (n : Nat), planA (l ++ m) a n = planA m (planA l a n) n
  | [], m, a, n => by simp only [List.nil_append, planA]
  | i :: r, m, a, n => by simp only [List.cons_append, planA, planA_app r m]
theorem planA_take {l : List (List It)} {j : Nat} {b : List It} (h : l[j]? = some b) (a : Pl) (n : Nat) : planA (l.take (j + 1)) a n = (planA (l.take j) a n).alt (planB b .e0 (n + (planA (l.take j) a n).nm.length)) := by
  rw [List.take_add_one, h, planA_app]
  simp only [Option.toList_some, planA]
theorem dBs_take : ∀ (l : List (List It)) (k : Nat), dBs (l.take k) ≤ dBs l
  | [], k => by simp
  | b :: r, 0 => by simp [dBs]
  | b :: r, k + 1 => by
    have := dBs_take r k
    simp only [List.take_succ_cons, dBs]
    omega
theorem nCBs_take : ∀ (l : List (List It)) (k : Nat), nCBs (l.take k) ≤ nCBs l
  | [], k => by simp
  | b :: r, 0 => by simp [nCBs]
  | b :: r, k + 1 => by
    have := nCBs_take r k
    simp only [List.take_succ_cons, nCBs]
    omega
theorem planB_few {l : List It} {n D : Nat} (d : dB l ≤ D) (hD : D ≤ 6) (c : nCB l ≤ 8) : (planB l .e0 n).Few :=
  (planB_sz l .e0 n D e0_sz d).few hD (by rw [planB_nm, List.length_append, wrB_len]; simp only [Pl.e0, List.length_nil]; omega)
theorem planI_few {i : It} {n D : Nat} (d : dI i + 1 ≤ D) (hD : D ≤ 6) (c : nC i ≤ 8) : (planI i n).Few :=
  ((planI_sz i n).mono d).few hD (by rw [planI_nm, wrI_len]; omega)
theorem planO_few {bs : List (List It)} {n D : Nat} (d : dBs bs ≤ D) (hD : D ≤ 6) (c : nCBs bs ≤ 8) : (planO bs n).Few :=
  (planO_sz bs n D d).few hD (by rw [planO_nm, wrBs_len]; omega)
/-- an item that is no call is its bodies' plan, and more -/
theorem planI_bodies : ∀ (i : It) (n : Nat), (∀ x, i ≠ .call x) → planI i n = match i with | .may _ => (planO (bodies i) n).opt | .loop _ => (planO (bodies i) n).turn | _ => planO (bodies i) n
  | .call x, n, h => absurd rfl (h x)
  | .may b, n, _ => by simp only [planI, bodies, planO, planA]
  | .loop b, n, _ => by simp only [planI, bodies, planO, planA]
  | .one bs, n, _ => by simp only [planI, bodies]
end FA

set_option Elab.async false
set_option linter.all false
set_option maxRecDepth 100000
set_option maxHeartbeats 4000000
/-! What repr needs of data, put together from parts. -/
namespace FA
open PySem PySem.Spec PyProof.Rows L2
/-- d can be shown, is at most k deep and of a bulk of at most b -/
structure Fits (d : PyData) (k b : Nat) : Prop where
  sh : d.showable = true
  lv : d.leavesShort 13 = true
  dp : d.depth ≤ k
  bk : d.bulk ≤ b
structure FitsAll (ds : List PyData) (k b : Nat) : Prop where
  sh : PyData.showableAll ds = true
  lv : PyData.leavesShortAll 13 ds = true
  dp : PyData.depthAll ds ≤ k
  bk : PyData.bulkAll ds ≤ b
theorem Fits.str {x : Str} (h : okName x) : Fits (.str x) 0 8 := ⟨rfl, by simp only [PyData.leavesShort]; exact h.short, by simp [PyData.depth], by simp only [PyData.bulk]; exact h.2.1⟩
theorem Fits.non : Fits .none 0 0 := ⟨rfl, rfl, by simp [PyData.depth], by simp [PyData.bulk]⟩
theorem Fits.bool (b : Bool) : Fits (.bool b) 0 0 := ⟨rfl, rfl, by simp [PyData.depth], by simp [PyData.bulk]⟩
theorem int_fits_ok : ∀ n : Fin 1000, (PyData.int ((n : Nat) : Int)).leavesShort 13 = true ∧ (PyData.int ((n : Nat) : Int)).showable = true := by decide +kernel
theorem Fits.int {n : Nat} (h : n < 1000) : Fits (.int (n : Nat)) 0 0 := by
  obtain ⟨h1, h2⟩ := int_fits_ok ⟨n, h⟩
  exact ⟨h2, h1, by simp [PyData.depth], by simp [PyData.bulk]⟩
theorem Fits.list {ds : List PyData} {k b : Nat} (h : FitsAll ds k b) : Fits (.list ds) (k + 1) b := ⟨by simp only [PyData.showable]; exact h.sh, by simp only [PyData.leavesShort]; exact h.lv, by have := h.dp; simp only [PyData.depth]; omega, by simp only [PyData.bulk]; exact h.bk⟩
theorem Fits.tup {ds : List PyData} {k b : Nat} (h : FitsAll ds k b) : Fits (.tuple ds) (k + 1) b := ⟨by simp only [PyData.showable]; exact h.sh, by simp only [PyData.leavesShort]; exact h.lv, by have := h.dp; simp only [PyData.depth]; omega, by simp only [PyData.bulk]; exact h.bk⟩
theorem FitsAll.nil {k b : Nat} : FitsAll [] k b := ⟨rfl, rfl, by simp [PyData.depthAll], by simp [PyData.bulkAll]⟩
theorem FitsAll.cons {d : PyData} {ds : List PyData} {k b c : Nat} (h : Fits d k b) (t : FitsAll ds k c) : FitsAll (d :: ds) k (b + 1 + c) := ⟨by simp only [PyData.showableAll, h.sh, t.sh, Bool.and_self], by simp only [PyData.leavesShortAll, h.lv, t.lv, Bool.and_self], by have := h.dp; have := t.dp; simp only [PyData.depthAll]; omega, by have := h.bk; have := t.bk; simp only [PyData.bulkAll]; omega⟩
theorem Fits.mono {d : PyData} {k b k' b' : Nat} (h : Fits d k b) (hk : k ≤ k') (hb : b ≤ b') : Fits d k' b' := ⟨h.sh, h.lv, by have := h.dp; omega, by have := h.bk; omega⟩
theorem FitsAll.mono {ds : List PyData} {k b k' b' : Nat} (h : FitsAll ds k b) (hk : k ≤ k') (hb : b ≤ b') : FitsAll ds k' b' := ⟨h.sh, h.lv, by have := h.dp; omega, by have := h.bk; omega⟩
/-- all alike -/
theorem FitsAll.map {α : Type} {f : α → PyData} {k b : Nat} : ∀ {l : List α}, (∀ a ∈ l, Fits (f a) k b) → FitsAll (l.map f) k ((b + 1) * l.length)
  | [], _ => .nil
  | a :: r, h => by
    have h1 := h a (by simp)
    have h2 := FitsAll.map (l := r) fun x hx => h x (List.mem_cons_of_mem _ hx)
    rw [List.map_cons]
    exact (FitsAll.cons h1 h2).mono (Nat.le_refl _) (by rw [List.length_cons, Nat.mul_succ]; omega)
theorem FitsAll.strs {ls : List Str} (h : ∀ x ∈ ls, okName x) : FitsAll (ls.map PyData.str) 0 (9 * ls.length) := FitsAll.map (b := 8) fun x hx => .str (h x hx)
theorem Fits.len {d : PyData} {k b : Nat} (h : Fits d k b) (hb : b ≤ 1000000) : d.shown.length ≤ sizeLine := by
  refine PyData.shown_fits_bulk (B := 13) (by decide) (by decide) h.lv ?_
  have h1 := h.bk
  have e : (2 : Nat) ^ 20 = 1048576 := by decide
  omega
end FA

set_option Elab.async false
set_option linter.all false
set_option maxRecDepth 100000
/-! Places of a word up to which bodies can match it. -/
namespace FA
open PySem
/-- from place s to place p the word is v -/
def Sub (u : List Str) (s p : Nat) (v : List Str) : Prop := s ≤ p ∧ p ≤ u.length ∧ (u.drop s).take (p - s) = v
theorem Sub.len {u v : List Str} {s p : Nat} (h : Sub u s p v) : v.length = p - s := by
  obtain ⟨h1, h2, h3⟩ := h
  rw [← h3, List.length_take, List.length_drop]
  omega
theorem sub_nil {u : List Str} {s p : Nat} : Sub u s p [] ↔ s = p ∧ p ≤ u.length := by
  constructor
  · intro h
    have := h.len
    simp at this
    exact ⟨by have := h.1; omega, h.2.1⟩
  · rintro ⟨rfl, h⟩
    exact ⟨Nat.le_refl _, h, by rw [Nat.sub_self, List.take_zero]⟩
theorem sub_one {u : List Str} {s p : Nat} {x : Str} : Sub u s p [x] ↔ p = s + 1 ∧ u[s]? = some x := by
  constructor
  · intro h
    have hl := h.len
    obtain ⟨h1, h2, h3⟩ := h
    simp at hl
    have e : p = s + 1 := by omega
    subst e
    refine ⟨rfl, ?_⟩
    have : ((u.drop s).take (s + 1 - s))[0]? = some x := by rw [h3]; rfl
    rw [List.getElem?_take, if_pos (by omega), List.getElem?_drop] at this
    simpa using this
  · rintro ⟨rfl, h⟩
    have hs : s < u.length := by
      by_cases z : s < u.length
      · exact z
      · rw [List.getElem?_eq_none (by omega)] at h; cases h
    refine ⟨by omega, hs, ?_⟩
    rw [Nat.add_sub_cancel_left, List.take_one, List.head?_drop, h]
    rfl
theorem sub_app {u v1 v2 : List Str} {s p : Nat} : Sub u s p (v1 ++ v2) ↔ ∃ m, Sub u s m v1 ∧ Sub u m p v2 := by
  constructor
  · intro h
    have hl := h.len
    obtain ⟨h1, h2, h3⟩ := h
    rw [List.length_append] at hl
    refine ⟨s + v1.length, ⟨by omega, by omega, ?_⟩, by omega, h2, ?_⟩
    · have : ((u.drop s).take (p - s)).take v1.length = v1 := by rw [h3, List.take_left]
      rw [List.take_take, Nat.min_eq_left (by omega)] at this
      rw [Nat.add_sub_cancel_left]
      exact this
    · have : ((u.drop s).take (p - s)).drop v1.length = v2 := by rw [h3, List.drop_left]
      rw [List.drop_take, List.drop_drop] at this
      rw [← this]
      congr 1
      · omega
  · rintro ⟨m, h, k⟩
    obtain ⟨h1, h2, h3⟩ := h
    obtain ⟨k1, k2, k3⟩ := k
    refine ⟨by omega, k2, ?_⟩
    rw [← h3, ← k3]
    have e1 : p - s = (m - s) + (p - m) := by omega
    have e2 : u.drop m = (u.drop s).drop (m - s) := by rw [List.drop_drop]; congr 1; omega
    rw [e1, List.take_add, e2]
/-- the places up to which a body can match from a place on -/
def EnB (l : List It) (u : List Str) (s p : Nat) : Prop := ∃ v, Sub u s p v ∧ WB l v
def EnI (i : It) (u : List Str) (s p : Nat) : Prop := ∃ v, Sub u s p v ∧ WI i v
theorem EnB.le {l : List It} {u : List Str} {s p : Nat} (h : EnB l u s p) : s ≤ p ∧ p ≤ u.length := let ⟨_, h, _⟩ := h; ⟨h.1, h.2.1⟩
theorem EnI.le {i : It} {u : List Str} {s p : Nat} (h : EnI i u s p) : s ≤ p ∧ p ≤ u.length := let ⟨_, h, _⟩ := h; ⟨h.1, h.2.1⟩
theorem enB_nil {u : List Str} {s p : Nat} : EnB [] u s p ↔ s = p ∧ p ≤ u.length := by
  constructor
  · rintro ⟨v, h, w⟩
    simp only [WB] at w
    subst w
    exact sub_nil.mp h
  · intro h
    exact ⟨[], sub_nil.mpr h, by simp only [WB]⟩
theorem enB_take {l : List It} {k : Nat} {i : It} (e : l[k]? = some i) {u : List Str} {s p : Nat} : EnB (l.take (k + 1)) u s p ↔ ∃ m, EnB (l.take k) u s m ∧ EnI i u m p := by
  constructor
  · rintro ⟨v, h, w⟩
    obtain ⟨v1, v2, rfl, w1, w2⟩ := (WB_snoc e).mp w
    obtain ⟨m, h1, h2⟩ := sub_app.mp h
    exact ⟨m, ⟨v1, h1, w1⟩, v2, h2, w2⟩
  · rintro ⟨m, ⟨v1, h1, w1⟩, v2, h2, w2⟩
    exact ⟨v1 ++ v2, sub_app.mpr ⟨m, h1, h2⟩, (WB_snoc e).mpr ⟨v1, v2, rfl, w1, w2⟩⟩
theorem enI_call {x : Str} {u : List Str} {s p : Nat} : EnI (.call x) u s p ↔ p = s + 1 ∧ u[s]? = some x := by
  constructor
  · rintro ⟨v, h, w⟩
    simp only [WI] at w
    subst w
    exact sub_one.mp h
  · intro h
    exact ⟨[x], sub_one.mpr h, by simp only [WI]⟩
theorem enI_may {b : List It} {u : List Str} {s p : Nat} : EnI (.may b) u s p ↔ (s = p ∧ p ≤ u.length) ∨ EnB b u s p := by
  constructor
  · rintro ⟨v, h, w⟩
    simp only [WI] at w
    rcases w with rfl | w
    · exact .inl (sub_nil.mp h)
    · exact .inr ⟨v, h, w⟩
  · rintro (h | ⟨v, h, w⟩)
    · exact ⟨[], sub_nil.mpr h, by simp [WI]⟩
    · exact ⟨v, h, by simp only [WI]; exact .inr w⟩
theorem enI_one {bs : List (List It)} {u : List Str} {s p : Nat} : EnI (.one bs) u s p ↔ ∃ b ∈ bs, EnB b u s p := by
  constructor
  · rintro ⟨v, h, w⟩
    simp only [WI] at w
    obtain ⟨b, m, w⟩ := WBs_iff.mp w
    exact ⟨b, m, v, h, w⟩
  · rintro ⟨b, m, v, h, w⟩
    exact ⟨v, h, by simp only [WI]; exact WBs_iff.mpr ⟨b, m, w⟩⟩
/-- going on with a body again and again -/
inductive Again (b : List It) (u : List Str) (s : Nat) : Nat → Prop where
  | here : s ≤ u.length → Again b u s s
  | on {m p : Nat} : Again b u s m → EnB b u m p → Again b u s p
theorem enI_loop {b : List It} {u : List Str} {s p : Nat} : EnI (.loop b) u s p ↔ Again b u s p := by
  constructor
  · rintro ⟨v, h, w⟩
    simp only [WI] at w
    induction w generalizing p with
    | nil =>
      obtain ⟨rfl, hp⟩ := sub_nil.mp h
      exact .here hp
    | snoc _ hv _ ih =>
      obtain ⟨m, h1, h2⟩ := sub_app.mp h
      exact .on (ih h1) ⟨_, h2, hv⟩
  · intro h
    induction h with
    | here hs => exact ⟨[], sub_nil.mpr ⟨rfl, hs⟩, by simp only [WI]; exact .nil⟩
    | on _ h2 ih =>
      obtain ⟨v1, k1, w1⟩ := ih
      obtain ⟨v2, k2, w2⟩ := h2
      simp only [WI] at w1 ⊢
      by_cases e : v2 = []
      · subst e
        obtain ⟨rfl, _⟩ := sub_nil.mp k2
        exact ⟨v1, k1, w1⟩
      · exact ⟨v1 ++ v2, sub_app.mpr ⟨_, k1, k2⟩, .snoc w1 w2 e⟩
/-- the whole word, from its first place to its last -/
theorem enB_whole {l : List It} {u : List Str} : EnB l u 0 u.length ↔ WB l u := by
  constructor
  · rintro ⟨v, ⟨_, _, h⟩, w⟩
    rw [List.drop_zero, Nat.sub_zero, List.take_length] at h
    rw [h]
    exact w
  · intro w
    exact ⟨u, ⟨Nat.zero_le _, Nat.le_refl _, by rw [List.drop_zero, Nat.sub_zero, List.take_length]⟩, w⟩
/-- what a body matches from some places on -/
def Ends (l : List It) (u : List Str) (S : Nat → Prop) (p : Nat) : Prop := ∃ s, S s ∧ EnB l u s p
/-- places that are closed under a body are all that can be reached by it again and again -/
theorem again_closed {b : List It} {u : List Str} {S H : List Nat} (h1 : ∀ s ∈ S, s ∈ H) (h2 : ∀ p ∈ H, ∃ s ∈ S, Again b u s p) (h3 : ∀ p ∈ H, ∀ m, EnB b u p m → m ∈ H) : ∀ p, p ∈ H ↔ ∃ s ∈ S, Again b u s p := fun p => by
  constructor
  · exact h2 p
  · rintro ⟨s, hs, h⟩
    induction h with
    | here _ => exact h1 s hs
    | on _ hb ih => exact h3 _ ih _ hb
/-- one turn of the law's loop: the places found anew are put to those that there were -/
theorem again_turn {b : List It} {u : List Str} {S H M N : List Nat} (h2 : ∀ p ∈ H, ∃ s ∈ S, Again b u s p) (hM : ∀ p ∈ M, p ∈ H) (hN : ∀ p, p ∈ N ↔ (∃ m ∈ M, EnB b u m p) ∧ p ∉ H) : ∀ p ∈ H ++ N, ∃ s ∈ S, Again b u s p := fun p hp => by
  rcases List.mem_append.mp hp with h | h
  · exact h2 p h
  · obtain ⟨⟨m, hm, hb⟩, _⟩ := (hN p).mp h
    obtain ⟨s, hs, ha⟩ := h2 m (hM m hm)
    exact ⟨s, hs, .on ha hb⟩
/-- what was closed but for the last ones stays so, the new ones being the last -/
theorem closed_turn {b : List It} {u : List Str} {H M N : List Nat} (h3 : ∀ p ∈ H, p ∉ M → ∀ m, EnB b u p m → m ∈ H) (hN : ∀ p, p ∈ N ↔ (∃ m ∈ M, EnB b u m p) ∧ p ∉ H) : ∀ p ∈ H ++ N, p ∉ N → ∀ m, EnB b u p m → m ∈ H ++ N := fun p hp hn m hb => by
  rcases List.mem_append.mp hp with h | h
  · by_cases hm : p ∈ M
    · by_cases z : m ∈ H
      · exact List.mem_append_left _ z
      · exact List.mem_append_right _ ((hN m).mpr ⟨⟨p, hm, hb⟩, z⟩)
    · exact List.mem_append_left _ (h3 p h hm m hb)
  · exact absurd h hn
/-- the matched places of a row of items, item by item -/
theorem ends_take {l : List It} {k : Nat} {i : It} (e : l[k]? = some i) {u : List Str} {S M N : List Nat} (hM : ∀ p, p ∈ M ↔ ∃ s ∈ S, EnB (l.take k) u s p) (hN : ∀ p, p ∈ N ↔ ∃ m ∈ M, EnI i u m p) : ∀ p, p ∈ N ↔ ∃ s ∈ S, EnB (l.take (k + 1)) u s p := fun p => by
  rw [hN]
  constructor
  · rintro ⟨m, hm, h⟩
    obtain ⟨s, hs, h'⟩ := (hM m).mp hm
    exact ⟨s, hs, (enB_take e).mpr ⟨m, h', h⟩⟩
  · rintro ⟨s, hs, h⟩
    obtain ⟨m, h1, h2⟩ := (enB_take e).mp h
    exact ⟨m, (hM m).mpr ⟨s, hs, h1⟩, h2⟩
/-- ascending places of a word of at most 60 names are at most 61 -/
theorem asc_few {n : Nat} : ∀ {l : List Nat} {lo : Nat}, l.Pairwise (· < ·) → (∀ p ∈ l, lo ≤ p ∧ p < n) → l.length ≤ n - lo
  | [], _, _, _ => Nat.zero_le _
  | x :: r, lo, h, k => by
    obtain ⟨h1, h2⟩ := List.pairwise_cons.mp h
    have kx := k x (by simp)
    have ih := asc_few (lo := x + 1) h2 fun p hp => ⟨h1 p hp, (k p (List.mem_cons_of_mem _ hp)).2⟩
    simp only [List.length_cons]
    omega
end FA

set_option Elab.async false
set_option linter.all false
set_option maxRecDepth 100000
set_option maxHeartbeats 4000000
/-! Sets of small numbers while a comprehension makes them; sorted of them. -/
namespace FA
open PySem PySem.Spec PyProof.Rows L2
theorem nodup_len : ∀ {l m : List Nat}, l.Nodup → (∀ x ∈ l, x ∈ m) → l.length ≤ m.length
  | [], _, _, _ => Nat.zero_le _
  | x :: r, m, nd, h => by
    obtain ⟨nx, nr⟩ := List.nodup_cons.mp nd
    have hx := h x (by simp)
    have ih := nodup_len (l := r) (m := m.erase x) nr fun y hy => (List.mem_erase_of_ne (by rintro rfl; exact nx hy)).mpr (h y (List.mem_cons_of_mem _ hy))
    rw [List.length_erase_of_mem hx] at ih
    have := List.length_pos_of_mem hx
    simp only [List.length_cons]
    omega
variable {w : World} {K : PySem.W.Frag}
/-- D is the set of the numbers that C tells, all of them less than 60 -/
def Mk (w : World) (H : Hp) (D : Addr) (C : Nat → Prop) : Prop := ∃ (S : Int → Bool) (n : Nat) (ks : List Nat), H D = some (SetO w D S n) ∧ ks.Nodup ∧ ks.length = n ∧ (∀ k : Int, S k = true ↔ ∃ q ∈ ks, k = (q : Int)) ∧ (∀ q, q ∈ ks ↔ C q) ∧ ∀ q ∈ ks, q < 60
theorem Mk.new {H : Hp} {D : Addr} : Mk w (upd H D (SetO w D (fun _ => false) 0)) D (fun _ => False) :=
  ⟨_, _, [], upd_same, List.nodup_nil, rfl, fun k => by simp, fun q => by simp, fun q h => by cases h⟩
theorem Mk.iff {H : Hp} {D : Addr} {C C' : Nat → Prop} (h : Mk w H D C) (e : ∀ q, C q ↔ C' q) : Mk w H D C' :=
  let ⟨S, n, ks, h1, h2, h3, h4, h5, h6⟩ := h
  ⟨S, n, ks, h1, h2, h3, h4, fun q => (h5 q).trans (e q), h6⟩
theorem Mk.few {ks : List Nat} (nd : ks.Nodup) (h : ∀ q ∈ ks, q < 60) : ks.length ≤ 60 := by
  have := nodup_len nd (m := List.range 60) fun q hq => List.mem_range.mpr (h q hq)
  rw [List.length_range] at this
  exact this
theorem mk_add {H : Hp} {D : Addr} {C : Nat → Prop} {S : Int → Bool} {n : Nat} {ks : List Nat} {q0 : Nat} (nd : ks.Nodup) (hl : ks.length = n) (h4 : ∀ k : Int, S k = true ↔ ∃ q ∈ ks, k = (q : Int)) (h5 : ∀ q, q ∈ ks ↔ C q) (h6 : ∀ q ∈ ks, q < 60) (hq : q0 < 60) :
    Mk w (upd H D (SetO w D (fun j => S j || decide (j = (q0 : Int))) (if S (q0 : Int) = true then n else n + 1))) D (fun q => C q ∨ q = q0) := by
  by_cases hs : S (q0 : Int) = true
  · obtain ⟨q1, m1, e1⟩ := (h4 _).mp hs
    have e2 : q0 = q1 := by omega
    subst e2
    refine ⟨_, _, ks, upd_same, nd, by rw [if_pos hs]; exact hl, fun k => ?_, fun q => ?_, h6⟩
    · rw [Bool.or_eq_true, decide_eq_true_eq, h4]
      exact ⟨fun h => h.elim id fun e => ⟨q0, m1, e⟩, .inl⟩
    · rw [h5]
      exact ⟨.inl, fun h => h.elim id fun e => by rw [e]; exact (h5 _).mp m1⟩
  · have nq : q0 ∉ ks := fun z => hs ((h4 _).mpr ⟨q0, z, rfl⟩)
    refine ⟨_, _, q0 :: ks, upd_same, List.nodup_cons.mpr ⟨nq, nd⟩, by rw [if_neg hs, List.length_cons, hl], fun k => ?_, fun q => ?_, fun q h => ?_⟩
    · rw [Bool.or_eq_true, decide_eq_true_eq, h4]
      constructor
      · rintro (⟨q, m, e⟩ | e)
        · exact ⟨q, List.mem_cons_of_mem _ m, e⟩
        · exact ⟨q0, by simp, e⟩
      · rintro ⟨q, m, e⟩
        rcases List.mem_cons.mp m with rfl | m
        · exact .inr e
        · exact .inl ⟨q, m, e⟩
    · rw [List.mem_cons, h5]
      exact ⟨fun h => h.elim .inr .inl, fun h => h.elim .inr .inl⟩
    · rcases List.mem_cons.mp h with rfl | h
      · exact hq
      · exact h6 q h
/-- a loop that puts numbers into the set D -/
theorem siL {J : L2.It} {n : Nat} {g : TG} {tt : TT} {te : TE} {τ : L2.St} {vs : List Nat} {over : Hp → Prop} {H1 H0 : Hp} {D : Addr} {C0 : Nat → Prop} (hD : H1 D = none) (s0 : Same H1 H0) (h0 : Mk w H0 D C0) (Y : Nat → V → Prop) (val : Nat → Option Nat)
    (go : ∀ i H, Same H1 H → i < n → J.go i H) (stop : ∀ H, Same H1 H → J.stop n H) (yld : ∀ i H x H', Same H1 H → i < n → J.yld i H x H' → H' = H ∧ Y i x) (small : ∀ i q, i < n → val i = some q → q < 60)
    (step : ∀ i x H (body : Bool → L2.St → Hp → Prop), i < n → Y i x → Same H1 H → (∀ σ2, (val i = none → body false σ2 H) ∧ ∀ q : Nat, val i = some q → (∀ Q : VK, Q (.int (q : Int)) H → te σ2 H Q) → body true σ2 H) → g x τ H fun σ2 H2 => wipe σ2 vs = wipe τ vs ∧ tt σ2 H2 fun b H3 => body b σ2 H3)
    (fin : ∀ H, Same H1 H → Mk w H D (fun q => C0 q ∨ ∃ j, j < n ∧ val j = some q) → over H) :
    ∃ W : Nat → Nat → Hp → Prop, (∃ m, W 0 m H0) ∧ Loops J g tt τ vs over (fun b σ2 H3 N => if b = true then adding w D te σ2 H3 N else N H3) W := by
  refine ⟨fun i m H => i ≤ n ∧ m = n - i ∧ Same H1 H ∧ Mk w H D (fun q => C0 q ∨ ∃ j, j < i ∧ val j = some q), ⟨_, Nat.zero_le _, rfl, s0, h0.iff fun q => ⟨.inl, fun h => h.elim id fun ⟨j, z, _⟩ => absurd z (by omega)⟩⟩, ?_⟩
  rintro i m H ⟨hi, rfl, sm, mk⟩
  by_cases hlt : i < n
  · refine .inr ⟨go i H sm hlt, fun H' => i + 1 ≤ n ∧ Same H1 H' ∧ Mk w H' D (fun q => C0 q ∨ ∃ j, j < i + 1 ∧ val j = some q), fun H' h => ⟨n - (i + 1), by omega, h.1, rfl, h.2⟩, fun x H' y => ?_⟩
    obtain ⟨rfl, hY⟩ := yld i H x H' sm hlt y
    refine step i x H' (fun b σ2 H3 => if b = true then adding w D te σ2 H3 (fun H' => i + 1 ≤ n ∧ Same H1 H' ∧ Mk w H' D (fun q => C0 q ∨ ∃ j, j < i + 1 ∧ val j = some q)) else (i + 1 ≤ n ∧ Same H1 H3 ∧ Mk w H3 D (fun q => C0 q ∨ ∃ j, j < i + 1 ∧ val j = some q))) hlt hY sm fun σ2 => ⟨fun hv => ?_, fun q hv he => ?_⟩
    · rw [if_neg (by decide)]
      refine ⟨hlt, sm, mk.iff fun q => ⟨fun h => h.imp id fun ⟨j, z, e⟩ => ⟨j, by omega, e⟩, fun h => h.imp id fun ⟨j, z, e⟩ => ⟨j, ?_, e⟩⟩⟩
      by_cases hj : j = i
      · subst hj; rw [hv] at e; cases e
      · omega
    · rw [if_pos rfl]
      obtain ⟨S, c, ks, k1, k2, k3, k4, k5, k6⟩ := mk
      have fw := Mk.few k2 k6
      have sb : c + 1 < scanBound := Nat.lt_of_lt_of_le (by omega : c + 1 < 1002) (by decide)
      refine he _ ⟨_, S, c, rfl, k1, sb, hlt, fun b o e => ?_, (mk_add k2 k3 k4 k5 k6 (small i q hlt hv)).iff fun q' => ?_⟩
      · rw [upd_ne (ne_of_none e hD)]; exact sm _ _ e
      · constructor
        · rintro ((h | ⟨j, z, e⟩) | rfl)
          · exact .inl h
          · exact .inr ⟨j, by omega, e⟩
          · exact .inr ⟨i, by omega, hv⟩
        · rintro (h | ⟨j, z, e⟩)
          · exact .inl (.inl h)
          · by_cases hj : j = i
            · subst hj; rw [hv] at e; cases e; exact .inr rfl
            · exact .inl (.inr ⟨j, by omega, e⟩)
  · have : i = n := by omega
    subst this
    exact .inl ⟨stop H sm, fin H sm mk⟩
theorem sorted_mk {H : Hp} {D : Addr} {C : Nat → Prop} {Q : VK} (h : Mk w H D C) (q : ∀ qs p, qs.length ≤ 60 → (∀ k, k ∈ qs ↔ C k) → H p = none → Q (.ref p) (upd H p (.lst (nts qs)))) : rSortedSet w [.ref D] H Q := by
  obtain ⟨S, n, ks, h1, h2, h3, h4, h5, h6⟩ := h
  have fw := Mk.few h2 h6
  refine ⟨D, S, n, rfl, h1, by omega, fun ns p pw hm hl hp => ?_⟩
  have hn : ∀ k ∈ ns, ∃ t : Nat, t ∈ ks ∧ k = (t : Int) := fun k hk => by
    obtain ⟨t, m, e⟩ := (h4 k).mp ((hm k).mp hk)
    exact ⟨t, m, e⟩
  have e : ns.map V.int = nts (ns.map Int.toNat) := by
    unfold nts
    rw [List.map_map]
    refine List.map_congr_left fun k hk => ?_
    obtain ⟨t, m, e⟩ := hn k hk
    rw [e]
    rfl
  rw [e]
  refine q _ p (by rw [List.length_map]; omega) (fun k => ?_) hp
  rw [← h5, List.mem_map]
  constructor
  · rintro ⟨a, ha, rfl⟩
    obtain ⟨t, m, e⟩ := hn a ha
    rw [e]
    exact m
  · intro hk
    exact ⟨(k : Int), (hm _).mpr ((h4 _).mpr ⟨k, hk, rfl⟩), rfl⟩
/-- a list comprehension whose element changes nothing that was there: G tells the j-th item, by the tuples that stand -/
theorem lcS2 {J : L2.It} {n : Nat} {g : TG} {te : TE} {vs : List Nat} {σ : L2.St} {H1 : Hp} {D : Addr} {Qd : Hp → Prop} (hD : H1 D = none) (hn : n < sizeLine) (Y : Nat → V → Prop) (G : Nat → V → Hp → Prop)
    (go : ∀ i H, Same H1 H → i < n → J.go i H) (stop : ∀ H, Same H1 H → J.stop n H) (yld : ∀ i H x H', Same H1 H → i < n → J.yld i H x H' → H' = H ∧ Y i x)
    (mono : ∀ j v A B, (∀ a o, a ≠ D → A a = some o → B a = some o) → G j v A → G j v B)
    (step : ∀ i x H (R : VK), i < n → Y i x → Same H1 H → (∃ ys, H D = some (.lst ys)) → (∀ y H', Same H H' → G i y H' → R y H') → g x (wipe σ vs) H fun σ2 H2 => wipe σ2 vs = wipe σ vs ∧ te σ2 H2 R)
    (fin : ∀ H ys, Same H1 H → H D = some (.lst ys) → ys.length = n → (∀ j y, ys[j]? = some y → G j y H) → Qd H) :
    ∃ W : Nat → Nat → Hp → Prop, (∃ m, W 0 m (upd H1 D (.lst []))) ∧ ∀ i m H, W i m H →
      (J.stop i H ∧ Qd H) ∨ (J.go i H ∧ ∃ Nx : Hp → Prop, (∀ H', Nx H' → ∃ m', m' < m ∧ W (i + 1) m' H') ∧ ∀ x H', J.yld i H x H' → g x (wipe σ vs) H' fun σ2 H2 => wipe σ2 vs = wipe σ vs ∧ tYes σ2 H2 fun b H3 =>
        if b = true then te σ2 H3 fun y H4 => ∃ acc, H4 D = some (.lst acc) ∧ acc.length < sizeLine ∧ Nx (upd H4 D (.lst (acc ++ [y]))) else Nx H3) := by
  refine ⟨fun i m H => m = n - i ∧ i ≤ n ∧ Same H1 H ∧ ∃ ys, H D = some (.lst ys) ∧ ys.length = i ∧ ∀ j y, ys[j]? = some y → G j y H, ⟨n, by simp, Nat.zero_le _, fun b o e => ?_, [], upd_same, rfl, by simp⟩, ?_⟩
  · rw [upd_ne (ne_of_none e hD)]; exact e
  · rintro i m H ⟨rfl, hi, sm, ys, hy, hl, hG⟩
    by_cases hlt : i < n
    · refine .inr ⟨go i H sm hlt, fun H' => i + 1 ≤ n ∧ Same H1 H' ∧ ∃ ys, H' D = some (.lst ys) ∧ ys.length = i + 1 ∧ ∀ j y, ys[j]? = some y → G j y H', fun H' h => ⟨n - (i + 1), by omega, rfl, h⟩, fun x H' y => ?_⟩
      obtain ⟨rfl, hY⟩ := yld i H x H' sm hlt y
      have st := step i x H' (fun y H4 => ∃ acc, H4 D = some (.lst acc) ∧ acc.length < sizeLine ∧ (i + 1 ≤ n ∧ Same H1 (upd H4 D (.lst (acc ++ [y]))) ∧ ∃ ys, (upd H4 D (.lst (acc ++ [y]))) D = some (.lst ys) ∧ ys.length = i + 1 ∧ ∀ j y', ys[j]? = some y' → G j y' (upd H4 D (.lst (acc ++ [y]))))) hlt hY sm ⟨_, hy⟩ fun v H4 s4 g4 => ?_
      · exact st
      · have tk : ∀ (o : HO) (A : Hp), ∀ a o', a ≠ D → A a = some o' → (upd A D o) a = some o' := fun o A a o' n e => by rw [upd_ne n]; exact e
        refine ⟨ys, s4 _ _ hy, by omega, hlt, fun b o e => ?_, ys ++ [v], upd_same, by simp [hl], fun j y' hj => ?_⟩
        · rw [upd_ne (ne_of_none e hD)]; exact s4 _ _ (sm _ _ e)
        · by_cases hj2 : j < ys.length
          · rw [List.getElem?_append_left hj2] at hj
            exact mono j y' _ _ (tk _ _) (mono j y' _ _ (fun a o _ e => s4 _ _ e) (hG j y' hj))
          · rw [List.getElem?_append_right (by omega)] at hj
            have e0 : j - ys.length = 0 := by
              rcases Nat.eq_zero_or_pos (j - ys.length) with z | z
              · exact z
              · rw [List.getElem?_eq_none (by simp; omega)] at hj; cases hj
            rw [e0] at hj
            cases hj
            have : j = i := by omega
            subst this
            exact mono _ _ _ _ (tk _ _) g4
    · have : i = n := by omega
      subst this
      exact .inl ⟨stop H sm, fin H ys sm hy hl hG⟩
/-- two loops that put numbers into the set D -/
theorem si2S {J : L2.It} {n : Nat} {wi1 : TI} {g g1 : TG} {tt tt1 : TT} {te : TE} {σ : L2.St} {vs vs1 : List Nat} {H1 : Hp} {D : Addr} {Qd : Hp → Prop} (hD : H1 D = none) (Y : Nat → V → Prop) (C : Nat → Nat → Prop)
    (go : ∀ i H, Same H1 H → i < n → J.go i H) (stop : ∀ H, Same H1 H → J.stop n H) (yld : ∀ i H x H', Same H1 H → i < n → J.yld i H x H' → H' = H ∧ Y i x)
    (step : ∀ i x H C0 (N : Hp → Prop), i < n → Y i x → Same H1 H → Mk w H D C0 → (∀ H', Same H1 H' → Mk w H' D (fun q => C0 q ∨ C i q) → N H') → g x (wipe σ vs) H fun σ2 H2 => wipe σ2 vs = wipe (wipe σ vs) vs ∧ tt σ2 H2 fun b H3 => if b = true then wi1 σ2 H3 fun J1 H4 => ∃ W1 : Nat → Nat → Hp → Prop, (∃ m, W1 0 m H4) ∧
      Loops J1 g1 tt1 (wipe σ2 vs1) vs1 N (fun b σ3 H5 N1 => if b = true then adding w D te σ3 H5 N1 else N1 H5) W1 else N H3)
    (fin : ∀ H, Same H1 H → Mk w H D (fun q => ∃ j, j < n ∧ C j q) → Qd H) :
    ∃ W : Nat → Nat → Hp → Prop, (∃ m, W 0 m (upd H1 D (SetO w D (fun _ => false) 0))) ∧
      Loops J g tt (wipe σ vs) vs Qd (fun b σ2 H3 N => if b = true then wi1 σ2 H3 fun J1 H4 => ∃ W1 : Nat → Nat → Hp → Prop, (∃ m, W1 0 m H4) ∧
        Loops J1 g1 tt1 (wipe σ2 vs1) vs1 N (fun b σ3 H5 N1 => if b = true then adding w D te σ3 H5 N1 else N1 H5) W1 else N H3) W := by
  refine ⟨fun i m H => i ≤ n ∧ m = n - i ∧ Same H1 H ∧ Mk w H D (fun q => ∃ j, j < i ∧ C j q), ⟨_, Nat.zero_le _, rfl, fun b o e => by rw [upd_ne (ne_of_none e hD)]; exact e, Mk.new.iff fun q => ⟨fun h => h.elim, fun ⟨j, z, _⟩ => absurd z (by omega)⟩⟩, ?_⟩
  rintro i m H ⟨hi, rfl, sm, mk⟩
  by_cases hlt : i < n
  · refine .inr ⟨go i H sm hlt, fun H' => i + 1 ≤ n ∧ Same H1 H' ∧ Mk w H' D (fun q => ∃ j, j < i + 1 ∧ C j q), fun H' h => ⟨n - (i + 1), by omega, h.1, rfl, h.2⟩, fun x H' y => ?_⟩
    obtain ⟨rfl, hY⟩ := yld i H x H' sm hlt y
    refine step i x H' _ _ hlt hY sm mk fun H2 s2 mk2 => ⟨hlt, s2, mk2.iff fun q => ?_⟩
    constructor
    · rintro (⟨j, z, h⟩ | h)
      · exact ⟨j, by omega, h⟩
      · exact ⟨i, by omega, h⟩
    · rintro ⟨j, z, h⟩
      by_cases hj : j = i
      · subst hj; exact .inr h
      · exact .inl ⟨j, by omega, h⟩
  · have : i = n := by omega
    subst this
    exact .inl ⟨stop H sm, fin H sm mk⟩
theorem inV_nts (q : Nat) (l : List Nat) : inV (.int (q : Int)) (nts l) = decide (q ∈ l) := by
  induction l with
  | nil => rfl
  | cons x r ih =>
    have e : inV (.int (q : Int)) (nts (x :: r)) = (((x : Int) == (q : Int)) || inV (.int (q : Int)) (nts r)) := rfl
    rw [e, ih]
    by_cases h : x = q
    · subst h; simp
    · have h1 : ((x : Int) == (q : Int)) = false := by
        simp only [beq_eq_false_iff_ne, ne_eq]
        omega
      rw [h1, Bool.false_or]
      refine decide_eq_decide.mpr ⟨fun h => List.mem_cons_of_mem _ h, fun h' => ?_⟩
      rcases List.mem_cons.mp h' with e | e
      · exact absurd e.symm h
      · exact e
theorem nts_flat (l : List Nat) : (nts l).all flatV = true := by
  induction l with
  | nil => rfl
  | cons x r ih => exact ih
theorem prs_of {H : Hp} : ∀ {ys : List V} {l : List (Nat × Nat)}, ys.length = l.length → (∀ (j : Nat) y, ys[j]? = some y → ∃ t q, y = .ref t ∧ l[j]? = some q ∧ H t = some (.tup [.int (q.1 : Int), .int (q.2 : Int)])) → PrsAt H ys l
  | [], [], _, _ => .nil
  | y :: ys, q :: l, hl, h => by
    obtain ⟨t, q', rfl, e, ht⟩ := h 0 y rfl
    cases e
    exact .cons ht (prs_of (by simpa using hl) fun j y hj => h (j + 1) y hj)
/-! ### the net of a plan -/
/-- a place's next ones -/
def nxt (a : Pl) (s q : Nat) : Prop := (s = 0 ∧ q ∈ a.fs) ∨ (s, q) ∈ a.ps
def nmz (a : Pl) (q : Nat) : Option Str := if q = 0 then none else a.nm[q - 1]?
def ends (a : Pl) : List Nat := if a.em = true then 0 :: a.ls else a.ls
def NetAt (H : Hp) (t : Addr) (a : Pl) : Prop := ∃ (n x e : Addr) (ws : List V), H t = some (.tup [.ref n, .ref x, .ref e]) ∧ H n = some (.lst (.non :: a.nm.map V.str)) ∧ H x = some (.lst ws) ∧ ws.length = a.nm.length + 1 ∧
  (∀ (s : Nat) v, ws[s]? = some v → ∃ b qs, v = .ref b ∧ H b = some (.lst (nts qs)) ∧ qs.length ≤ 60 ∧ ∀ q, q ∈ qs ↔ nxt a s q) ∧ H e = some (.lst (nts (ends a)))
theorem NetAt.keep {H H' : Hp} (s : Same H H') {t : Addr} {a : Pl} (h : NetAt H t a) : NetAt H' t a :=
  let ⟨n, x, e, ws, h1, h2, h3, h4, h5, h6⟩ := h
  ⟨n, x, e, ws, s _ _ h1, s _ _ h2, s _ _ h3, h4, fun j v hj => let ⟨b, qs, k1, k2, k3⟩ := h5 j v hj; ⟨b, qs, k1, s _ _ k2, k3⟩, s _ _ h6⟩
/-- the places behind a word -/
def Beh (a : Pl) (u : List Str) (q : Nat) : Prop := (u = [] ∧ q = 0) ∨ At (nmz a) a u q
theorem nxt_in {a : Pl} (h : a.In 1) {s q : Nat} (n : nxt a s q) : 1 ≤ q ∧ q < 1 + a.nm.length := by
  rcases n with ⟨_, n⟩ | n
  · exact h.fs _ n
  · exact (h.ps _ _ n).2
theorem beh_le {a : Pl} (h : a.In 1) {u : List Str} {q : Nat} (b : Beh a u q) : q ≤ a.nm.length := by
  rcases b with ⟨_, rfl⟩ | b
  · omega
  · have := b.inn h; omega
theorem beh_snoc {a : Pl} (h : a.In 1) {u : List Str} {x : Str} {q : Nat} : Beh a (u ++ [x]) q ↔ ∃ s, Beh a u s ∧ nxt a s q ∧ nmz a q = some x := by
  constructor
  · rintro (⟨z, _⟩ | b)
    · simp at z
    · generalize e : u ++ [x] = v at b
      cases b with
      | @first _ x' h1 h2 =>
        have : u = [] ∧ x = x' := by
          cases u with
          | nil => simp at e; exact ⟨rfl, e⟩
          | cons y r => simp at e
        obtain ⟨rfl, rfl⟩ := this
        exact ⟨0, .inl ⟨rfl, rfl⟩, .inl ⟨rfl, h1⟩, h2⟩
      | @next u' p _ x' h1 h2 h3 =>
        obtain ⟨rfl, e2⟩ := List.append_inj' e rfl
        cases e2
        exact ⟨p, .inr h1, .inr h2, h3⟩
  · rintro ⟨s, b, n, e⟩
    rcases b with ⟨rfl, rfl⟩ | b
    · rcases n with ⟨_, n⟩ | n
      · exact .inr (.first n e)
      · have := (h.ps _ _ n).1; omega
    · rcases n with ⟨rfl, n⟩ | n
      · have := b.inn h; omega
      · exact .inr (.next b n e)
theorem beh_lg {a : Pl} (h : a.In 1) {u : List Str} : (∃ q, Beh a u q ∧ q ∈ ends a) ↔ Lg (nmz a) a u := by
  constructor
  · rintro ⟨q, b, e⟩
    rcases b with ⟨rfl, rfl⟩ | b
    · unfold ends at e
      split at e
      · next z => exact .inl ⟨rfl, z⟩
      · have := h.ls _ e; omega
    · have hq := b.inn h
      unfold ends at e
      split at e
      · rcases List.mem_cons.mp e with rfl | e
        · omega
        · exact .inr ⟨q, e, b⟩
      · exact .inr ⟨q, e, b⟩
  · rintro (⟨rfl, z⟩ | ⟨q, e, b⟩)
    · exact ⟨0, .inl ⟨rfl, rfl⟩, by unfold ends; rw [if_pos z]; simp⟩
    · refine ⟨q, .inr b, ?_⟩
      unfold ends
      split
      · exact List.mem_cons_of_mem _ e
      · exact e
/-- a body's plan from 1 on tells its words -/
theorem plan_words {l : List It} {u : List Str} : Lg (nmz (planB l .e0 1)) (planB l .e0 1) u ↔ WB l u := by
  have hn : (planB l .e0 1).nm = wrB l := by rw [planB_nm]; rfl
  have pl : Pla (nmz (planB l .e0 1)) 1 (Pl.e0.nm ++ wrB l) := fun k hk => by
    unfold nmz
    rw [if_neg (by omega), hn]
    show (wrB l)[1 + k - 1]? = (wrB l)[k]?
    rw [Nat.add_sub_cancel_left]
  rw [planB_lg l .e0 1 e0_in pl]
  exact ⟨fun ⟨u', v, e, h1, h2⟩ => by rw [e0_lg] at h1; subst h1; rw [e]; exact h2, fun h => ⟨[], u, rfl, e0_lg.mpr rfl, h⟩⟩
end FA

set_option Elab.async false
set_option linter.all false
set_option maxRecDepth 100000
/-! Starts of bodies: by places, and by nets. -/
namespace FA
open PySem
/-! ### each item and each body has a word -/
mutual
theorem wi_ex {ns : List Str} : ∀ i : It, okI ns i → ∃ w, WI i w
  | .call x, _ => ⟨[x], by simp only [WI]⟩
  | .may b, _ => ⟨[], by simp only [WI]; exact .inl trivial⟩
  | .loop b, _ => ⟨[], by simp only [WI]; exact .nil⟩
  | .one bs, h => by
    simp only [okI] at h
    obtain ⟨w, hw⟩ := wbs_ex bs h.2.2.2 (by intro e; rw [e] at h; simp at h)
    exact ⟨w, by simp only [WI]; exact hw⟩
theorem wb_ex {ns : List Str} : ∀ l : List It, okB ns l → ∃ w, WB l w
  | [], _ => ⟨[], by simp only [WB]⟩
  | i :: r, h => by
    simp only [okB] at h
    obtain ⟨u, hu⟩ := wi_ex i h.1
    obtain ⟨v, hv⟩ := wb_ex r h.2
    exact ⟨u ++ v, by simp only [WB]; exact ⟨u, v, rfl, hu, hv⟩⟩
theorem wbs_ex {ns : List Str} : ∀ bs : List (List It), okBs ns bs → bs ≠ [] → ∃ w, WBs bs w
  | [], _, h => absurd rfl h
  | b :: r, h, _ => by
    simp only [okBs] at h
    obtain ⟨w, hw⟩ := wb_ex b h.1
    exact ⟨w, by simp only [WBs]; exact .inl hw⟩
end
/-- the starts -/
def SB (l : List It) (v : List Str) : Prop := ∃ w, WB l (v ++ w)
def SI (i : It) (v : List Str) : Prop := ∃ w, WI i (v ++ w)
def SBs (bs : List (List It)) (v : List Str) : Prop := ∃ w, WBs bs (v ++ w)
/-! ### the places that are seen -/
mutual
def SnI : It → List Str → Nat → Nat → Prop
  | .call _ => fun _ _ _ => False
  | .may b => fun u s p => SnB b u s p
  | .loop b => fun u s p => ∃ m, Again b u s m ∧ SnB b u m p
  | .one bs => fun u s p => SnBs bs u s p
def SnB : List It → List Str → Nat → Nat → Prop
  | [] => fun _ _ _ => False
  | i :: r => fun u s p => (SnI i u s p ∨ EnI i u s p) ∨ ∃ m, EnI i u s m ∧ SnB r u m p
def SnBs : List (List It) → List Str → Nat → Nat → Prop
  | [] => fun _ _ _ => False
  | b :: r => fun u s p => SnB b u s p ∨ SnBs r u s p
end
theorem snBs_iff {u : List Str} {s p : Nat} : ∀ {bs : List (List It)}, SnBs bs u s p ↔ ∃ b ∈ bs, SnB b u s p
  | [] => by simp [SnBs]
  | b :: r => by simp [SnBs, snBs_iff (bs := r)]
theorem enB_cons {i : It} {r : List It} {u : List Str} {s p : Nat} : EnB (i :: r) u s p ↔ ∃ m, EnI i u s m ∧ EnB r u m p := by
  constructor
  · rintro ⟨v, h, w⟩
    simp only [WB] at w
    obtain ⟨v1, v2, rfl, w1, w2⟩ := w
    obtain ⟨m, h1, h2⟩ := sub_app.mp h
    exact ⟨m, ⟨v1, h1, w1⟩, v2, h2, w2⟩
  · rintro ⟨m, ⟨v1, h1, w1⟩, v2, h2, w2⟩
    exact ⟨v1 ++ v2, sub_app.mpr ⟨m, h1, h2⟩, by simp only [WB]; exact ⟨v1, v2, rfl, w1, w2⟩⟩
theorem snB_le {u : List Str} : ∀ {l : List It} {s p : Nat}, SnB l u s p → True := fun _ => trivial
mutual
theorem snI_le {u : List Str} : ∀ (i : It) (s p : Nat), SnI i u s p → s ≤ u.length
  | .call _, s, p, h => by simp only [SnI] at h
  | .may b, s, p, h => by simp only [SnI] at h; exact snB_le' b s p h
  | .loop b, s, p, h => by
    simp only [SnI] at h
    obtain ⟨m, h1, h2⟩ := h
    have := (enI_loop.mpr h1).le
    omega
  | .one bs, s, p, h => by simp only [SnI] at h; exact snBs_le bs s p h
theorem snB_le' {u : List Str} : ∀ (l : List It) (s p : Nat), SnB l u s p → s ≤ u.length
  | [], s, p, h => by simp only [SnB] at h
  | i :: r, s, p, h => by
    simp only [SnB] at h
    rcases h with (h | h) | ⟨m, h, _⟩
    · exact snI_le i s p h
    · have := h.le; omega
    · have := h.le; omega
theorem snBs_le {u : List Str} : ∀ (bs : List (List It)) (s p : Nat), SnBs bs u s p → s ≤ u.length
  | [], s, p, h => by simp only [SnBs] at h
  | b :: r, s, p, h => by
    simp only [SnBs] at h
    rcases h with h | h
    · exact snB_le' b s p h
    · exact snBs_le r s p h
end
theorem snB_take {u : List Str} : ∀ {l : List It} {k : Nat} {i : It}, l[k]? = some i → ∀ {s p : Nat}, SnB (l.take (k + 1)) u s p ↔ SnB (l.take k) u s p ∨ ∃ m, EnB (l.take k) u s m ∧ (SnI i u m p ∨ EnI i u m p)
  | [], k, i, e, s, p => by simp at e
  | j :: r, 0, i, e, s, p => by
    simp at e
    subst e
    simp only [Nat.zero_add, List.take_succ_cons, List.take_zero, SnB, and_false, exists_false, or_false, false_or]
    constructor
    · intro h
      refine ⟨s, enB_nil.mpr ⟨rfl, ?_⟩, h⟩
      rcases h with h | h
      · exact snI_le _ _ _ h
      · have := h.le; omega
    · rintro ⟨m, h1, h2⟩
      rw [(enB_nil.mp h1).1]
      exact h2
  | j :: r, k + 1, i, e, s, p => by
    have ih := fun {s p : Nat} => snB_take (u := u) (l := r) (k := k) (i := i) (by simpa using e) (s := s) (p := p)
    simp only [List.take_succ_cons, SnB]
    constructor
    · rintro (h | ⟨m, h1, h2⟩)
      · exact .inl (.inl h)
      · rcases ih.mp h2 with h | ⟨m', h3, h4⟩
        · exact .inl (.inr ⟨m, h1, h⟩)
        · exact .inr ⟨m', enB_cons.mpr ⟨m, h1, h3⟩, h4⟩
    · rintro ((h | ⟨m, h1, h2⟩) | ⟨m', h3, h4⟩)
      · exact .inl h
      · exact .inr ⟨m, h1, ih.mpr (.inl h2)⟩
      · obtain ⟨m, h1, h2⟩ := enB_cons.mp h3
        exact .inr ⟨m, h1, ih.mpr (.inr ⟨m', h2, h4⟩)⟩
/-! ### what is seen is a start -/
mutual
theorem snI_start {ns u : List Str} : ∀ (i : It) (s p : Nat), okI ns i → SnI i u s p → ∃ v, Sub u s p v ∧ SI i v
  | .call _, s, p, _, h => by simp only [SnI] at h
  | .may b, s, p, ok, h => by
    simp only [SnI] at h
    simp only [okI] at ok
    obtain ⟨v, h1, w, h2⟩ := snB_start b s p ok.2 h
    exact ⟨v, h1, w, by simp only [WI]; exact .inr h2⟩
  | .loop b, s, p, ok, h => by
    simp only [SnI] at h
    simp only [okI] at ok
    obtain ⟨m, h1, h2⟩ := h
    obtain ⟨v1, k1, w1⟩ := enI_loop.mpr h1
    obtain ⟨v2, k2, w, w2⟩ := snB_start b m p ok.2 h2
    simp only [WI] at w1
    refine ⟨v1 ++ v2, sub_app.mpr ⟨m, k1, k2⟩, w, ?_⟩
    simp only [WI]
    by_cases z : v2 ++ w = []
    · rw [List.append_assoc, z, List.append_nil]
      exact w1
    · rw [List.append_assoc]
      exact .snoc w1 w2 z
  | .one bs, s, p, ok, h => by
    simp only [SnI] at h
    simp only [okI] at ok
    obtain ⟨v, h1, w, h2⟩ := snBs_start bs s p ok.2.2.2 h
    exact ⟨v, h1, w, by simp only [WI]; exact h2⟩
theorem snB_start {ns u : List Str} : ∀ (l : List It) (s p : Nat), okB ns l → SnB l u s p → ∃ v, Sub u s p v ∧ SB l v
  | [], s, p, _, h => by simp only [SnB] at h
  | i :: r, s, p, ok, h => by
    simp only [SnB] at h
    simp only [okB] at ok
    obtain ⟨wr, hwr⟩ := wb_ex r ok.2
    rcases h with (h | ⟨v, h1, h2⟩) | ⟨m, ⟨v1, k1, w1⟩, h2⟩
    · obtain ⟨v, h1, w, h2⟩ := snI_start i s p ok.1 h
      exact ⟨v, h1, w ++ wr, by simp only [WB]; exact ⟨v ++ w, wr, by rw [List.append_assoc], h2, hwr⟩⟩
    · exact ⟨v, h1, wr, by simp only [WB]; exact ⟨v, wr, rfl, h2, hwr⟩⟩
    · obtain ⟨v2, k2, w, w2⟩ := snB_start r m p ok.2 h2
      exact ⟨v1 ++ v2, sub_app.mpr ⟨m, k1, k2⟩, w, by simp only [WB]; exact ⟨v1, v2 ++ w, by rw [List.append_assoc], w1, w2⟩⟩
theorem snBs_start {ns u : List Str} : ∀ (bs : List (List It)) (s p : Nat), okBs ns bs → SnBs bs u s p → ∃ v, Sub u s p v ∧ SBs bs v
  | [], s, p, _, h => by simp only [SnBs] at h
  | b :: r, s, p, ok, h => by
    simp only [SnBs] at h
    simp only [okBs] at ok
    rcases h with h | h
    · obtain ⟨v, h1, w, h2⟩ := snB_start b s p ok.1 h
      exact ⟨v, h1, w, by simp only [WBs]; exact .inl h2⟩
    · obtain ⟨v, h1, w, h2⟩ := snBs_start r s p ok.2 h
      exact ⟨v, h1, w, by simp only [WBs]; exact .inr h2⟩
end
/-! ### a start is seen -/
/-- a beginning of turns of L: some turns, and a start of one more -/
theorem star_start {L : List Str → Prop} {z : List Str} (h : Star L z) : ∀ v w, z = v ++ w → ∃ u v', v = u ++ v' ∧ Star L u ∧ (v' = [] ∨ ∃ w', L (v' ++ w')) := by
  induction h with
  | nil =>
    intro v w e
    obtain ⟨rfl, rfl⟩ := List.append_eq_nil_iff.mp e.symm
    exact ⟨[], [], rfl, .nil, .inl rfl⟩
  | @snoc u1 u2 h1 h2 hne ih =>
    intro v w e
    rcases List.append_eq_append_iff.mp e with ⟨a', e1, e2⟩ | ⟨c', e1, e2⟩
    · exact ⟨u1, a', e1, h1, .inr ⟨w, by rw [← e2]; exact h2⟩⟩
    · obtain ⟨u, v', k1, k2, k3⟩ := ih v c' e1
      exact ⟨u, v', k1, k2, k3⟩
mutual
theorem startI {u : List Str} : ∀ (i : It) (s p : Nat) (v : List Str), SI i v → v ≠ [] → Sub u s p v → SnI i u s p ∨ EnI i u s p
  | .call x, s, p, v, h, hv, hs => by
    obtain ⟨w, h⟩ := h
    simp only [WI] at h
    refine .inr (enI_call.mpr (sub_one.mp ?_))
    cases v with
    | nil => exact absurd rfl hv
    | cons y r =>
      rw [List.cons_append, List.cons.injEq] at h
      obtain ⟨h1, h2⟩ := h
      obtain ⟨h3, _⟩ := List.append_eq_nil_iff.mp h2
      rw [h1, h3] at hs
      exact hs
  | .may b, s, p, v, h, hv, hs => by
    obtain ⟨w, h⟩ := h
    simp only [WI] at h
    rcases h with h | h
    · exact absurd (List.append_eq_nil_iff.mp h).1 hv
    · exact .inl (by simp only [SnI]; exact startB b s p v ⟨w, h⟩ hv hs)
  | .loop b, s, p, v, h, hv, hs => by
    obtain ⟨w, h⟩ := h
    simp only [WI] at h
    obtain ⟨u1, v', e, h1, h2⟩ := star_start h v w rfl
    subst e
    obtain ⟨m, k1, k2⟩ := sub_app.mp hs
    have em : EnI (.loop b) u s m := ⟨u1, k1, by simp only [WI]; exact h1⟩
    by_cases z : v' = []
    · subst z
      obtain ⟨rfl, _⟩ := sub_nil.mp k2
      exact .inr em
    · refine .inl ?_
      simp only [SnI]
      refine ⟨m, enI_loop.mp em, startB b m p v' ?_ z k2⟩
      rcases h2 with h2 | h2
      · exact absurd h2 z
      · exact h2
  | .one bs, s, p, v, h, hv, hs => by
    obtain ⟨w, h⟩ := h
    simp only [WI] at h
    exact .inl (by simp only [SnI]; exact startBs bs s p v ⟨w, h⟩ hv hs)
theorem startB {u : List Str} : ∀ (l : List It) (s p : Nat) (v : List Str), SB l v → v ≠ [] → Sub u s p v → SnB l u s p
  | [], s, p, v, h, hv, hs => by
    obtain ⟨w, h⟩ := h
    simp only [WB] at h
    exact absurd (List.append_eq_nil_iff.mp h).1 hv
  | i :: r, s, p, v, h, hv, hs => by
    obtain ⟨w, h⟩ := h
    simp only [WB] at h
    obtain ⟨u1, u2, e, h1, h2⟩ := h
    simp only [SnB]
    rcases List.append_eq_append_iff.mp e with ⟨a', e1, e2⟩ | ⟨c', e1, e2⟩
    · exact .inl (startI i s p v ⟨a', by rw [← e1]; exact h1⟩ hv hs)
    · subst e1
      obtain ⟨m, k1, k2⟩ := sub_app.mp hs
      by_cases z : c' = []
      · subst z
        obtain ⟨rfl, _⟩ := sub_nil.mp k2
        exact .inl (.inr ⟨u1, k1, h1⟩)
      · exact .inr ⟨m, ⟨u1, k1, h1⟩, startB r m p c' ⟨w, by rw [← e2]; exact h2⟩ z k2⟩
theorem startBs {u : List Str} : ∀ (bs : List (List It)) (s p : Nat) (v : List Str), SBs bs v → v ≠ [] → Sub u s p v → SnBs bs u s p
  | [], s, p, v, h, hv, hs => by
    obtain ⟨w, h⟩ := h
    simp only [WBs] at h
  | b :: r, s, p, v, h, hv, hs => by
    obtain ⟨w, h⟩ := h
    simp only [WBs] at h
    simp only [SnBs]
    rcases h with h | h
    · exact .inl (startB b s p v ⟨w, h⟩ hv hs)
    · exact .inr (startBs r s p v ⟨w, h⟩ hv hs)
end
theorem sub_all {u : List Str} : Sub u 0 u.length u := ⟨Nat.zero_le _, Nat.le_refl _, by rw [List.drop_zero, Nat.sub_zero, List.take_length]⟩
/-- a word's end is seen just if the word is a start -/
theorem seen_start {ns : List Str} {l : List It} {u : List Str} (ok : okB ns l) : (u.length = 0 ∨ SnB l u 0 u.length) ∨ EnB l u 0 u.length ↔ SB l u := by
  constructor
  · rintro ((h | h) | h)
    · have : u = [] := List.eq_nil_of_length_eq_zero h
      subst this
      obtain ⟨w, hw⟩ := wb_ex l ok
      exact ⟨w, hw⟩
    · obtain ⟨v, h1, h2⟩ := snB_start l 0 u.length ok h
      have : v = u := by
        obtain ⟨_, _, e⟩ := h1
        rw [List.drop_zero, Nat.sub_zero, List.take_length] at e
        exact e.symm
      rw [← this]
      exact h2
    · exact ⟨[], by rw [List.append_nil]; exact enB_whole.mp h⟩
  · intro h
    by_cases z : u = []
    · exact .inl (.inl (by rw [z]; rfl))
    · exact .inl (.inr (startB l 0 u.length u h z sub_all))
/-! ### starts by nets -/
variable {nm : Nat → Option Str}
def Ext (nm : Nat → Option Str) (a : Pl) : Prop := ∀ w q, At nm a w q → ∃ v, Lg nm a (w ++ v)
theorem ext_e0 : Ext nm .e0 := fun w q h => by
  cases h with
  | first h1 _ => cases h1
  | next _ h2 _ => cases h2
theorem ext_no : Ext nm .no := fun w q h => by
  cases h with
  | first h1 _ => cases h1
  | next _ h2 _ => cases h2
theorem ext_seq {a b : Pl} {n m : Nat} (ha : a.In n) (hb : b.In m) (hm : m = n + a.nm.length) (ea : Ext nm a) (eb : Ext nm b) (ne : ∃ w, Lg nm b w) : Ext nm (a.seq b) := fun w q h => by
  rcases seq_at3 ha hb hm h with ⟨_, h⟩ | ⟨_, u, v, rfl, h1, h2⟩
  · obtain ⟨v, hv⟩ := ea w q h
    obtain ⟨wb, hwb⟩ := ne
    exact ⟨v ++ wb, (seq_lg ha hb hm).mpr ⟨w ++ v, wb, by rw [List.append_assoc], hv, hwb⟩⟩
  · obtain ⟨v', hv⟩ := eb v q h2
    exact ⟨v', (seq_lg ha hb hm).mpr ⟨u, v ++ v', by rw [List.append_assoc], h1, hv⟩⟩
theorem ext_alt {a b : Pl} {n m : Nat} (ha : a.In n) (hb : b.In m) (hm : m = n + a.nm.length) (ea : Ext nm a) (eb : Ext nm b) : Ext nm (a.alt b) := fun w q h => by
  rcases alt_at3 ha hb hm h with ⟨_, h⟩ | ⟨_, h⟩
  · obtain ⟨v, hv⟩ := ea w q h
    exact ⟨v, (alt_lg ha hb hm).mpr (.inl hv)⟩
  · obtain ⟨v, hv⟩ := eb w q h
    exact ⟨v, (alt_lg ha hb hm).mpr (.inr hv)⟩
theorem ext_opt {a : Pl} (ea : Ext nm a) : Ext nm a.opt := fun w q h => by
  obtain ⟨v, hv⟩ := ea w q (At.mono (a := a.opt) (b := a) (fun _ h => h) (fun _ _ h => h) h)
  exact ⟨v, opt_lg.mpr (.inr hv)⟩
theorem ext_turn {a : Pl} (ea : Ext nm a) : Ext nm a.turn := fun w q h => by
  obtain ⟨u, v, rfl, h1, h2⟩ := turn_at2 h
  obtain ⟨v', hv⟩ := ea v q h2
  refine ⟨v', turn_lg.mpr ?_⟩
  rw [List.append_assoc]
  exact .snoc h1 hv (by simp [h2.ne])
mutual
theorem planI_ext {ns : List Str} : ∀ (i : It) (n : Nat), okI ns i → Pla nm n (wrI i) → Ext nm (planI i n)
  | .call x, n, _, h => fun w q hat => by
    have hx : nm n = some x := by have := h 0 (by simp [wrI]); simpa [wrI] using this
    simp only [planI] at hat
    cases hat with
    | first h1 h2 =>
      refine ⟨[], ?_⟩
      simp only [List.mem_singleton] at h1
      subst h1
      rw [hx] at h2
      cases h2
      exact .inr ⟨q, by simp [planI], .first (by simp [planI]) hx⟩
    | next h1 h2 h3 => cases h2
  | .may b, n, ok, h => by
    simp only [wrI] at h
    simp only [okI] at ok
    simp only [planI]
    exact ext_opt (planB_ext b .e0 n e0_in ok.2 (by exact h) ext_e0)
  | .loop b, n, ok, h => by
    simp only [wrI] at h
    simp only [okI] at ok
    simp only [planI]
    exact ext_turn (planB_ext b .e0 n e0_in ok.2 (by exact h) ext_e0)
  | .one bs, n, ok, h => by
    simp only [wrI] at h
    simp only [okI] at ok
    simp only [planI]
    exact planO_ext bs n ok.2.2.2 h
theorem planB_ext {ns : List Str} : ∀ (l : List It) (a : Pl) (n : Nat), a.In n → okB ns l → Pla nm n (a.nm ++ wrB l) → Ext nm a → Ext nm (planB l a n)
  | [], a, n, _, _, _, ea => by simp only [planB]; exact ea
  | i :: r, a, n, hi, ok, h, ea => by
    simp only [wrB] at h
    simp only [okB] at ok
    have ii := planI_in i (n + a.nm.length)
    have h1 : Pla nm (n + a.nm.length) (wrI i) := (Pla.right h).left
    have k := planI_lg i (n + a.nm.length) h1
    simp only [planB]
    obtain ⟨w, hw⟩ := wi_ex i ok.1
    exact planB_ext r _ n (seq_in hi ii rfl) ok.2 (by simp only [Pl.seq, planI_nm i, List.append_assoc]; exact h) (ext_seq hi ii rfl ea (planI_ext i _ ok.1 h1) ⟨w, (k w).mpr hw⟩)
theorem planO_ext {ns : List Str} : ∀ (bs : List (List It)) (n : Nat), okBs ns bs → Pla nm n (wrBs bs) → Ext nm (planO bs n)
  | [], n, _, _ => by simp only [planO]; exact ext_no
  | b :: r, n, ok, h => by
    simp only [wrBs] at h
    simp only [okBs] at ok
    simp only [planO]
    exact planA_ext r _ n (planB_in b .e0 n e0_in) ok.2 (by rw [planB_nm b]; exact h) (planB_ext b .e0 n e0_in ok.1 (by exact h.left) ext_e0)
theorem planA_ext {ns : List Str} : ∀ (bs : List (List It)) (a : Pl) (n : Nat), a.In n → okBs ns bs → Pla nm n (a.nm ++ wrBs bs) → Ext nm a → Ext nm (planA bs a n)
  | [], a, n, _, _, _, ea => by simp only [planA]; exact ea
  | b :: r, a, n, hi, ok, h, ea => by
    simp only [wrBs] at h
    simp only [okBs] at ok
    have h1 : Pla nm (n + a.nm.length) (wrB b) := (Pla.right h).left
    have ii := planB_in b .e0 (n + a.nm.length) e0_in
    simp only [planA]
    exact planA_ext r _ n (alt_in hi ii rfl) ok.2 (by simp only [Pl.alt, planB_nm b, Pl.e0, List.nil_append, List.append_assoc]; exact h) (ext_alt hi ii rfl ea (planB_ext b .e0 _ e0_in ok.1 (by exact h1) ext_e0))
end
/-- the net of a body has a place behind a word just if it is a start -/
theorem plan_starts {ns : List Str} {l : List It} {u : List Str} (ok : okB ns l) : (∃ q, Beh (planB l .e0 1) u q) ↔ SB l u := by
  have inn : (planB l .e0 1).In 1 := planB_in l .e0 1 e0_in
  have hn : (planB l .e0 1).nm = wrB l := by rw [planB_nm]; rfl
  have pl : Pla (nmz (planB l .e0 1)) 1 (Pl.e0.nm ++ wrB l) := fun k hk => by
    unfold nmz
    rw [if_neg (by omega), hn]
    show (wrB l)[1 + k - 1]? = (wrB l)[k]?
    rw [Nat.add_sub_cancel_left]
  have ex : Ext (nmz (planB l .e0 1)) (planB l .e0 1) := planB_ext l .e0 1 e0_in ok pl ext_e0
  constructor
  · rintro ⟨q, ⟨rfl, _⟩ | h⟩
    · obtain ⟨w, hw⟩ := wb_ex l ok
      exact ⟨w, hw⟩
    · obtain ⟨v, hv⟩ := ex u q h
      exact ⟨v, plan_words.mp hv⟩
  · rintro ⟨w, hw⟩
    have key : ∀ (w : List Str), (∃ q, Beh (planB l .e0 1) (u ++ w.reverse) q) → ∃ q, Beh (planB l .e0 1) u q := fun w => by
      induction w with
      | nil => intro h; simpa using h
      | cons x r ih =>
        rintro ⟨q, h⟩
        rw [List.reverse_cons, ← List.append_assoc] at h
        obtain ⟨s, hs, _⟩ := (beh_snoc inn).mp h
        exact ih ⟨s, hs⟩
    have lg := (beh_lg inn).mpr (plan_words.mpr hw)
    obtain ⟨q, hq, _⟩ := lg
    exact key w.reverse ⟨q, by rw [List.reverse_reverse]; exact hq⟩
/-- what begins a start is one -/
theorem SB.pre {l : List It} {u v : List Str} (h : SB l (u ++ v)) : SB l u := let ⟨w, hw⟩ := h; ⟨v ++ w, by rw [← List.append_assoc]; exact hw⟩
theorem SB.word {l : List It} {u : List Str} (h : WB l u) : SB l u := ⟨[], by rw [List.append_nil]; exact h⟩
end FA

set_option Elab.async false
set_option linter.all false
set_option maxRecDepth 100000
set_option maxHeartbeats 4000000
/-! A list comprehension with a test, whose items are small numbers. -/
namespace FA
open PySem PySem.Spec PyProof.Rows L2
def pre (val : Nat → Option Nat) (i : Nat) : List Nat := (List.range i).filterMap val
theorem pre_succ (val : Nat → Option Nat) (i : Nat) : pre val (i + 1) = pre val i ++ (val i).toList := by
  unfold pre
  rw [List.range_succ, List.filterMap_append]
  cases h : val i <;> simp [h]
theorem pre_len (val : Nat → Option Nat) (i : Nat) : (pre val i).length ≤ i := by
  have := List.length_filterMap_le val (List.range i)
  rw [List.length_range] at this
  exact this
theorem pre_mem {val : Nat → Option Nat} {i q : Nat} : q ∈ pre val i ↔ ∃ j, j < i ∧ val j = some q := by
  unfold pre
  rw [List.mem_filterMap]
  exact ⟨fun ⟨j, h, e⟩ => ⟨j, List.mem_range.mp h, e⟩, fun ⟨j, h, e⟩ => ⟨j, List.mem_range.mpr h, e⟩⟩
theorem lcF {J : L2.It} {n : Nat} {g : TG} {tt : TT} {te : TE} {vs : List Nat} {σ : L2.St} {H1 : Hp} {D : Addr} {Qd : Hp → Prop} (hD : H1 D = none) (hn : n < 1000) (Y : Nat → V → Prop) (val : Nat → Option Nat)
    (go : ∀ i H, Same H1 H → i < n → J.go i H) (stop : ∀ H, Same H1 H → J.stop n H) (yld : ∀ i H x H', Same H1 H → i < n → J.yld i H x H' → H' = H ∧ Y i x)
    (step : ∀ i x H (body : Bool → L2.St → Hp → Prop), i < n → Y i x → Same H1 H → (∀ σ2 H2, Same H H2 → (val i = none → body false σ2 H2) ∧ ∀ q : Nat, val i = some q → (∀ Q : VK, Q (.int (q : Int)) H2 → te σ2 H2 Q) → body true σ2 H2) → g x (wipe σ vs) H fun σ2 H2 => wipe σ2 vs = wipe σ vs ∧ tt σ2 H2 fun b H3 => body b σ2 H3)
    (fin : ∀ H, Same H1 H → H D = some (.lst (nts (pre val n))) → Qd H) :
    ∃ W : Nat → Nat → Hp → Prop, (∃ m, W 0 m (upd H1 D (.lst []))) ∧ ∀ i m H, W i m H →
      (J.stop i H ∧ Qd H) ∨ (J.go i H ∧ ∃ Nx : Hp → Prop, (∀ H', Nx H' → ∃ m', m' < m ∧ W (i + 1) m' H') ∧ ∀ x H', J.yld i H x H' → g x (wipe σ vs) H' fun σ2 H2 => wipe σ2 vs = wipe σ vs ∧ tt σ2 H2 fun b H3 =>
        if b = true then te σ2 H3 fun y H4 => ∃ acc, H4 D = some (.lst acc) ∧ acc.length < sizeLine ∧ Nx (upd H4 D (.lst (acc ++ [y]))) else Nx H3) := by
  refine ⟨fun i m H => i ≤ n ∧ m = n - i ∧ Same H1 H ∧ H D = some (.lst (nts (pre val i))), ⟨_, Nat.zero_le _, rfl, fun b o e => by rw [upd_ne (ne_of_none e hD)]; exact e, upd_same⟩, ?_⟩
  rintro i m H ⟨hi, rfl, sm, hd⟩
  by_cases hlt : i < n
  · refine .inr ⟨go i H sm hlt, fun H' => i + 1 ≤ n ∧ Same H1 H' ∧ H' D = some (.lst (nts (pre val (i + 1)))), fun H' h => ⟨n - (i + 1), by omega, h.1, rfl, h.2⟩, fun x H' y => ?_⟩
    obtain ⟨rfl, hY⟩ := yld i H x H' sm hlt y
    refine step i x H' (fun b σ2 H3 => if b = true then te σ2 H3 fun y H4 => ∃ acc, H4 D = some (.lst acc) ∧ acc.length < sizeLine ∧ (i + 1 ≤ n ∧ Same H1 (upd H4 D (.lst (acc ++ [y]))) ∧ (upd H4 D (.lst (acc ++ [y]))) D = some (.lst (nts (pre val (i + 1))))) else (i + 1 ≤ n ∧ Same H1 H3 ∧ H3 D = some (.lst (nts (pre val (i + 1)))))) hlt hY sm fun σ2 H2 s2 => ⟨fun hv => ?_, fun q hv he => ?_⟩
    · rw [if_neg (by decide)]
      refine ⟨hlt, sm.trans s2, ?_⟩
      rw [pre_succ, hv]
      simp only [Option.toList_none, List.append_nil]
      exact s2 _ _ hd
    · rw [if_pos rfl]
      have pl := pre_len val i
      refine he _ ⟨_, s2 _ _ hd, small1000 (by rw [nts_len]; omega), hlt, fun b o e => ?_, ?_⟩
      · rw [upd_ne (ne_of_none e hD)]; exact s2 _ _ (sm _ _ e)
      · rw [upd_same, pre_succ, hv, nts_app]
        rfl
  · have : i = n := by omega
    subst this
    exact .inl ⟨stop H sm, fin H sm hd⟩
section
variable {X : Cx} {K : PySem.W.Frag}
theorem op_notIn_seqK (hK : X.K = K) : OpR X (compareOp .NotIn) (rIn K true) := by subst hK; exact op_notIn_seq
end
theorem eqv_one (ls : List Str) (x : Str) : PyData.eqv (.list (ls.map PyData.str)) (.list [.str x]) = decide (ls = [x]) := by
  match ls with
  | [] => simp [PyData.eqv, PyData.eqvAll]
  | [a] =>
    simp only [List.map_cons, List.map_nil, PyData.eqv, PyData.eqvAll]
    by_cases h : a = x
    · simp [h]
    · simp [h]
  | a :: b :: r => simp [PyData.eqv, PyData.eqvAll]
theorem cut_one {xs : List V} {k : Nat} (h : k ≤ xs.length) : cutV xs (some (k : Int)) (some ((k : Int) + 1)) = (xs.drop k).take 1 := by
  have e : ((k : Int) + 1) = ((k + 1 : Nat) : Int) := rfl
  rw [e]
  unfold cutV
  rw [HT.sIx_nat, HT.sIx_nat, Nat.min_eq_left h]
  by_cases z : k + 1 ≤ xs.length
  · rw [Nat.min_eq_left z, Nat.add_sub_cancel_left]
  · have z2 : k = xs.length := by omega
    subst z2
    rw [List.drop_length, List.take_nil, List.take_nil]
theorem take_one_is {u : List Str} {k : Nat} {x : Str} : (u.drop k).take 1 = [x] ↔ u[k]? = some x := by
  rw [List.take_one, List.head?_drop]
  cases u[k]? <;> simp
theorem pre_asc {val : Nat → Option Nat} : ∀ {n : Nat}, (∀ i j a b, i < j → j < n → val i = some a → val j = some b → a < b) → (pre val n).Pairwise (· < ·)
  | 0, _ => by simp [pre]
  | n + 1, h => by
    rw [pre_succ]
    refine List.pairwise_append.mpr ⟨pre_asc fun i j a b hij hj ha hb => h i j a b hij (by omega) ha hb, ?_, fun a ha b hb => ?_⟩
    · cases val n <;> simp
    · obtain ⟨i, hi, hv⟩ := pre_mem.mp ha
      cases hv2 : val n with
      | none => rw [hv2] at hb; simp at hb
      | some q =>
        rw [hv2] at hb
        simp at hb
        subst hb
        exact h i n a _ hi (by omega) hv hv2
end FA

set_option Elab.async false
set_option linter.all false
set_option maxRecDepth 100000
set_option maxHeartbeats 4000000
/-! sum of lists. -/
namespace FA
open PySem PySem.Spec PyProof.Rows L2
variable {P : Program} {w : World} {A : Around} {E : Value → Shared → Prop} {s : Shared}
def cat (con : Nat → List Value) (i : Nat) : List Value := (List.range i).flatMap con
theorem cat_succ (con : Nat → List Value) (i : Nat) : cat con (i + 1) = cat con i ++ con i := by
  unfold cat
  rw [List.range_succ, List.flatMap_append]
  simp
theorem sum_lists_loop {I : Addr} {fp wr : List Addr} {G : Array GenState → Array GenState → Prop} {n : Nat} {Pv : Nat → Value → Prop} {St : Nat → Shared → Prop} {R : Result → Shared → Prop} (W : WalksS P w A.in1 I fp wr G n Pv St)
    (S : Addr) (hSf : S ∉ fp) (hlt : ∀ b ∈ fp, b < S) (h0 : Heap) (con : Nat → List Value) (cap : ∀ i, i ≤ n → (cat con i).length ≤ sizeLine)
    (hval : ∀ i v, Pv i v → ∃ b c, v = .ref b ∧ IsL h0 b (con i).toArray c ∧ b ∉ wr ∧ b ≠ S) : ∀ (k i : Nat) (s : Shared) (Rr : Addr) (c cR : Nat), n - i = k → i ≤ n → St i s → (∀ b o, b ∉ wr → b ≠ S → h0.get? b = some o → s.heap.get? b = some o) →
      s.heap.get? S = some { cls := .type "list", data := .seq #[.ref Rr] c } → IsL s.heap Rr (cat con i).toArray cR → Rr ∉ wr → Rr ≠ S →
      (∀ s' R' c', Moved (S :: wr) G s s' → ((R' = Rr ∧ i = n) ∨ S < R') → IsL s'.heap R' (cat con n).toArray c' → R (.ok (.ret (.ref R'))) s') →
      codeAny (model P w) A (.builtin "sum.loop" ⟨[.ref I, .ref S, rawInt 2, rawInt 0], []⟩) R s := by
  have out : S ∉ wr := fun h => hSf (W.sub _ h)
  have more : ∀ b ∈ wr, b ∈ S :: wr := fun b hb => List.mem_cons_of_mem _ hb
  intro k
  induction k with
  | zero =>
    intro i s Rr c cR hk' hi hst h0s hS hL hRw hRS hR
    have hin : i = n := by omega
    subst hin
    refine codeAny_builtin F.entry_sum_loop ?_
    rw [Around.under_plainId F.plain_sum_loop _]
    unfold Builtin.«sum.loop»
    dsimp only [rawInt, seqItems?]
    refine wpAny_bind (wpAny_bind (wpAny_load hS ?_))
    refine wpAny_pure ?_
    dsimp only [Option.getD]
    show wpAny (model P w) A.in1 (((pyNext (.ref I)).tryCatch _) >>= _) _ _ s
    refine wpAny_bind (wpAny_tryCatch (W.done s _ _ hst fun s' hm => ?_))
    exact wpAny_pure (hR s' Rr cR (hm.mono more) (.inl ⟨rfl, rfl⟩) (hm.heap Rr _ hRw hL))
  | succ k ih =>
    intro i s Rr c cR hk' hi hst h0s hS hL hRw hRS hR
    have hi' : i < n := by omega
    have cp := cap (i + 1) hi'
    rw [cat_succ, List.length_append] at cp
    refine codeAny_builtin F.entry_sum_loop ?_
    rw [Around.under_plainId F.plain_sum_loop _]
    unfold Builtin.«sum.loop»
    dsimp only [rawInt, seqItems?]
    refine wpAny_bind (wpAny_bind (wpAny_load hS ?_))
    refine wpAny_pure ?_
    dsimp only [Option.getD]
    show wpAny (model P w) A.in1 (((pyNext (.ref I)).tryCatch _) >>= _) _ _ s
    refine wpAny_bind (wpAny_tryCatch (W.item i s _ _ hi' hst fun v s' hP hst' hm => ?_))
    obtain ⟨b, cb, rfl, hb, hbw, hbS⟩ := hval i v hP
    have hL' : IsL s'.heap Rr (cat con i).toArray cR := hm.heap Rr _ hRw hL
    have hb' : IsL s'.heap b (con i).toArray cb := hm.heap b _ hbw (h0s b _ hbw hbS hb)
    have hS' := hm.heap S _ out hS
    have hSlt : S < s'.heap.objs.size := Heap.lt_size hS'
    show wpAny (model P w) A.in1 (((holding [Value.ref b] (binaryOp .Add (.ref Rr) (.ref b))).attempt) >>= _) _ _ s'
    refine wpAny_bind (wpAny_attempt (wpAny_holding (_root_.PySem.P.add_list hL' hb' ?_ (by simp only [List.size_toArray]; omega))))
    have hNS : s'.heap.objs.size ≠ S := Nat.ne_of_gt hSlt
    have hNw : s'.heap.objs.size ∉ wr := fun hh => by
      exact absurd (Nat.lt_trans (hlt _ (W.sub _ hh)) hSlt) (Nat.lt_irrefl _)
    have ea : (cat con i).toArray ++ (con i).toArray = (cat con (i + 1)).toArray := by rw [cat_succ]; simp
    rw [ea]
    have hS1 : (s'.heap.push { cls := .type "list", data := .seq (cat con (i + 1)).toArray }).get? S = some { cls := .type "list", data := .seq #[.ref Rr] c } := Heap.get?_push_of_some _ hS'
    have hN1 := IsL.new s'.heap (cat con (i + 1)).toArray
    have k1 : ∀ (x : Addr) (o : Obj), s'.heap.get? x = some o → (s'.heap.push { cls := .type "list", data := .seq (cat con (i + 1)).toArray }).get? x = some o := fun x o e => Heap.get?_push_of_some _ e
    generalize s'.heap.push { cls := .type "list", data := .seq (cat con (i + 1)).toArray } = h1 at hS1 hN1 k1 ⊢
    generalize hN : s'.heap.objs.size = N at hN1 hNS hNw ⊢
    show wpAny (model P w) A.in1 (updateSeq S (fun _ => #[Value.ref N]) >>= _) _ _ _
    refine wpAny_bind (wpAny_updateSeq hS1 rfl ?_)
    refine wpAny_bind (wpAny_letGo ?_)
    have hS2 : (h1.update S (Obj.mapSeq fun _ => #[Value.ref N])).get? S = some { cls := .type "list", data := .seq #[.ref N] c } := Heap.get?_update_self _ hS1 rfl
    have hN2 : IsL (h1.update S (Obj.mapSeq fun _ => #[Value.ref N])) N (cat con (i + 1)).toArray 0 := IsL.update_other hN1 hNS.symm _
    have k2 : ∀ (x : Addr) (o : Obj), x ≠ S → s'.heap.get? x = some o → (h1.update S (Obj.mapSeq fun _ => #[Value.ref N])).get? x = some o := fun x o n e => by rw [Heap.get?_update_ne _ _ _ _ n]; exact k1 x o e
    generalize h1.update S (Obj.mapSeq fun _ => #[Value.ref N]) = h2 at hS2 hN2 k2 ⊢
    refine wpAny_bind (wpAny_updateSeq hS2 rfl ?_)
    have hS3 : (h2.update S (Obj.mapSeq fun _ => #[Value.ref N])).get? S = some { cls := .type "list", data := .seq #[.ref N] c } := Heap.get?_update_self _ hS2 rfl
    have hN3 : IsL (h2.update S (Obj.mapSeq fun _ => #[Value.ref N])) N (cat con (i + 1)).toArray 0 := IsL.update_other hN2 hNS.symm _
    have k3 : ∀ (x : Addr) (o : Obj), x ≠ S → s'.heap.get? x = some o → (h2.update S (Obj.mapSeq fun _ => #[Value.ref N])).get? x = some o := fun x o n e => by rw [Heap.get?_update_ne _ _ _ _ n]; exact k2 x o n e
    generalize h2.update S (Obj.mapSeq fun _ => #[Value.ref N]) = h3 at hS3 hN3 k3 ⊢
    refine wpAny_pure ⟨plainId_quiet F.plain_sum_loop _, ih (i + 1) _ N c 0 (by omega) hi' (W.frame _ s' _ _ hst' (Nat.le_refl _) fun x hx o e => k3 x o (fun z => hSf (by rw [← z]; exact hx)) e) (fun x o n1 n2 e => k3 x o n2 (hm.heap x o n1 (h0s x o n1 n2 e))) hS3 hN3 hNw hNS fun s3 R' c' hm3 hR' hL3 => ?_⟩
    refine hR s3 R' c' (Moved.trans W.gtrans ((hm.mono more).then_heap (Nat.le_refl _) fun x o hx e => k3 x o (fun z => hx (by rw [z]; exact List.mem_cons_self)) e) hm3) ?_ hL3
    rcases hR' with ⟨rfl, _⟩ | hR'
    · exact .inr (by rw [← hN]; exact hSlt)
    · exact .inr hR'
theorem args_sum_2 (a b : Value) : argsOk "sum" ⟨[a, b], []⟩ := by
  first
    | rfl
    | (unfold argsOk; rfl)
theorem call_sum_lists {l t : Addr} {items : Array Value} {con : Nat → List Value} {ct : Nat} {Q : Value → Shared → Prop} (hh : A.handled = none) (hl : s.heap.IsList l items) (ht : IsL s.heap t #[] ct) (cap : ∀ i, i ≤ items.size → (cat con i).length ≤ sizeLine)
    (hval : ∀ (i : Nat) (v : Value), items[i]? = some v → ∃ b c, v = .ref b ∧ IsL s.heap b (con i).toArray c)
    (h : ∀ (h' : Heap) (tk : Nat) (r c' : Nat), (∀ b o, s.heap.get? b = some o → h'.get? b = some o) → ((r = t ∧ 0 = items.size) ∨ s.heap.objs.size ≤ r) → IsL h' r (cat con items.size).toArray c' → Q (.ref r) { s with heap := h', toks := tk }) : wpAny (model P w) A (call (.builtin "sum") [.ref l, .ref t]) Q E s := by
  refine wpAny_call (codeAny_call_builtin F.plain_sum F.entry_sum ?_)
  rw [show checkBuiltinCall "sum" ⟨[.ref l, .ref t], []⟩ = pure () from rfl]
  refine wpAny_pure ?_
  unfold Builtin.«sum»
  generalize hPI : pyIter = PI
  wp_walk
  subst hPI
  refine wpAny_pyIter_list hl ?_
  have ht1 : IsL (s.heap.push { cls := .type "list_iterator", data := .fields #[.ref l, .int 0 0] }) t #[] ct := IsL.push ht _
  have hT : Shared.TypeIs { s with heap := s.heap.push { cls := .type "list_iterator", data := .fields #[.ref l, .int 0 0] } } (.ref t) "list" := ⟨_, ht1, rfl⟩
  dsimp only []
  refine wpAny_bind (wpAny_pure ?_)
  dsimp only []
  simp only [List.forIn_cons, List.forIn_nil, bind_assoc, pure_bind]
  refine wpAny_bind (wpAny_isInstance hT F.sub_list_str ?_)
  simp only [Bool.false_eq_true, if_false, pure_bind]
  refine wpAny_bind (wpAny_bind (wpAny_isInstance hT F.sub_list_bytes ?_))
  simp only [Bool.false_eq_true, if_false, pure_bind]
  refine wpAny_bind (wpAny_isInstance hT F.sub_list_bytearray ?_)
  simp only [Bool.false_eq_true, if_false, pure_bind]
  refine wpAny_pure (wpAny_bind (wpAny_newList ?_))
  have k1 : ∀ (b : Addr) (o : Obj), s.heap.get? b = some o → (s.heap.push { cls := .type "list_iterator", data := .fields #[.ref l, .int 0 0] }).get? b = some o := fun b o e => Heap.get?_push_of_some _ e
  have hlS : l < s.heap.objs.size := by
    obtain ⟨ol, hol, _⟩ := hl
    exact Heap.lt_size hol
  have htS : t < s.heap.objs.size := Heap.lt_size ht
  have sz : (s.heap.push { cls := .type "list_iterator", data := .fields #[.ref l, .int 0 0] }).objs.size = s.heap.objs.size + 1 := Heap.size_push _ _
  have hI : (s.heap.push { cls := .type "list_iterator", data := .fields #[.ref l, .int 0 0] }).get? s.heap.objs.size = some { cls := .type "list_iterator", data := .fields #[.ref l, .int 0 0] } := Heap.get?_push_size _ rfl
  have hl1 := hl.push { cls := .type "list_iterator", data := .fields #[.ref l, .int 0 0] }
  generalize s.heap.push { cls := .type "list_iterator", data := .fields #[.ref l, .int 0 0] } = h1 at ht1 hT k1 sz hI hl1 ⊢
  have hS : (h1.push { cls := .type "list", data := .seq [Value.ref t].toArray }).get? h1.objs.size = some { cls := .type "list", data := .seq #[.ref t] 0 } := Heap.get?_push_size _ rfl
  have k2 : ∀ (b : Addr) (o : Obj), h1.get? b = some o → (h1.push { cls := .type "list", data := .seq [Value.ref t].toArray }).get? b = some o := fun b o e => Heap.get?_push_of_some _ e
  have hl2 := hl1.push { cls := .type "list", data := .seq [Value.ref t].toArray }
  generalize hS1 : h1.objs.size = S at hS ⊢
  have eS : S = s.heap.objs.size + 1 := by rw [← hS1, sz]
  have hh3 : A.in1.handled = none := by simp [hh]
  have hneI : l ≠ s.heap.objs.size := Nat.ne_of_lt hlS
  have hSf : S ∉ [s.heap.objs.size, l] := by
    simp only [List.mem_cons, List.mem_singleton, List.not_mem_nil, or_false, not_or]
    exact ⟨by rw [eS]; exact Nat.succ_ne_self _, by rw [eS]; exact (Nat.ne_of_lt (Nat.lt_succ_of_lt hlS)).symm⟩
  generalize h1.push { cls := .type "list", data := .seq [Value.ref t].toArray } = h2 at hS k2 hl2 ⊢
  refine wpAny_pure ⟨plainId_quiet F.plain_sum_loop _, ?_⟩
  refine sum_lists_loop ((Walks.list hh3 _ l hneI items).toS) S hSf ?_ s.heap con cap ?_ (items.size - 0) 0 _ t 0 ct (by omega) (Nat.zero_le _) ⟨⟨_, k2 _ _ hI, rfl, rfl⟩, hl2⟩ (fun b o _ _ e => k2 _ _ (k1 _ _ e)) hS (by exact k2 _ _ ht1) ?_ ?_ ?_
  · intro b hb
    rcases List.mem_cons.mp hb with rfl | hb
    · rw [eS]; exact Nat.lt_succ_self _
    · rw [List.mem_singleton.mp hb, eS]; exact Nat.lt_succ_of_lt hlS
  · intro i v hv
    obtain ⟨b, c, rfl, hb⟩ := hval i v hv
    have : b < s.heap.objs.size := Heap.lt_size hb
    refine ⟨b, c, rfl, hb, fun z => ?_, fun z => ?_⟩
    · rw [List.mem_singleton.mp z] at this; exact absurd this (Nat.lt_irrefl _)
    · rw [z, eS] at this; exact absurd (Nat.lt_of_succ_lt this) (Nat.lt_irrefl _)
  · intro z
    rw [List.mem_singleton.mp z] at htS
    exact absurd htS (Nat.lt_irrefl _)
  · intro z
    rw [z, eS] at htS
    exact absurd (Nat.lt_of_succ_lt htS) (Nat.lt_irrefl _)
  · intro s' R' c' hm hR' hL
    obtain ⟨h', g2, d', tk', os'⟩ := s'
    have eg : g2 = s.gens := hm.gens
    have ed : d' = s.drawn := hm.drawn
    have eo : os' = s.os := hm.os
    subst eg; subst ed; subst eo
    refine h h' tk' R' c' (fun b o e => ?_) ?_ hL
    · have hb0 : b < s.heap.objs.size := Heap.lt_size e
      refine hm.heap b o ?_ (k2 _ _ (k1 _ _ e))
      simp only [List.mem_cons, List.mem_singleton, List.not_mem_nil, or_false, not_or]
      exact ⟨by rw [eS]; exact Nat.ne_of_lt (Nat.lt_succ_of_lt hb0), Nat.ne_of_lt hb0⟩
    · rcases hR' with ⟨rfl, z⟩ | hR'
      · exact .inl ⟨rfl, z⟩
      · exact .inr (Nat.le_of_lt (Nat.lt_trans (by rw [eS]; exact Nat.lt_succ_self _) hR'))
theorem paired_back {α β : Type} {F : α → β → Prop} : ∀ {l : List α} {m : List β} {i : Nat} {v : β}, PySem.Paired F l m → m[i]? = some v → ∃ x, l[i]? = some x ∧ F x v
  | _, _, 0, _, .cons a _, h => by cases h; exact ⟨_, rfl, a⟩
  | _, _, i + 1, _, .cons _ t, h => paired_back (i := i) t h
theorem flat_take_le {α : Type} : ∀ (ls : List (List α)) (i : Nat), (ls.take i).flatten.length ≤ ls.flatten.length
  | [], i => by simp
  | x :: r, 0 => by simp
  | x :: r, i + 1 => by
    have := flat_take_le r i
    simp only [List.take_succ_cons, List.flatten_cons, List.length_append]
    omega
section
variable {X : Cx}
/-- sum(list of lists, []) -/
def rSumLs : List V → Hp → VK → Prop := fun xs H Q => ∃ (p t : Addr) (ws : List V) (ls : List (List V)), xs = [V.ref p, V.ref t] ∧ H p = some (.lst ws) ∧ H t = some (.lst []) ∧ ws ≠ [] ∧ ws.length = ls.length ∧ (∀ (j : Nat) v, ws[j]? = some v → ∃ b zs, v = .ref b ∧ ls[j]? = some zs ∧ H b = some (.lst zs)) ∧ ls.flatten.length ≤ sizeLine ∧
  ∀ r, H r = none → Q (.ref r) (upd H r (.lst ls.flatten))
theorem cr_sumLs (hc : X.calm = true) : CallR X (.builtin "sum") rSumLs := by
  intro pins s σ H xs us Q I r h
  obtain ⟨p, t, ws, ls, rfl, hp, ht, hne, hwl, hls, hcap, q⟩ := h
  obtain ⟨u1, u2, rfl, e1, e2⟩ : ∃ u1 u2, us = [u1, u2] ∧ RelV (.ref p) u1 ∧ RelV (.ref t) u2 := by
    cases r with
    | cons a r => cases r with
      | cons b r => cases r; exact ⟨_, _, rfl, a, b⟩
  have hu1 : u1 = .ref p := e1
  have hu2 : u2 = .ref t := e2
  subst hu1 hu2
  obtain ⟨_, its, n, rv, ho⟩ := I.hok p _ hp
  obtain ⟨_, its2, n2, rv2, ho2⟩ := I.hok t _ ht
  cases rv2
  have ex : ∀ j : Nat, ∃ con : List Value, ∀ (b : Addr) (zs : List V), ws[j]? = some (V.ref b) → H b = some (.lst zs) → ∃ c, Vals zs con ∧ s.heap.get? b = some { cls := .type "list", data := .seq con.toArray c } := fun j => by
    cases hj : ws[j]? with
    | none => exact ⟨[], fun b zs e => by cases e⟩
    | some v =>
      obtain ⟨b, zs, rfl, _, hb⟩ := hls j v hj
      obtain ⟨_, its3, n3, rv3, ho3⟩ := I.hok b _ hb
      refine ⟨its3, fun b' zs' e e' => ?_⟩
      cases e
      rw [hb] at e'
      cases e'
      exact ⟨n3, rv3, ho3⟩
  obtain ⟨con, hcon⟩ : ∃ con : Nat → List Value, ∀ (j : Nat) (b : Addr) (zs : List V), ws[j]? = some (V.ref b) → H b = some (.lst zs) → ∃ c, Vals zs (con j) ∧ s.heap.get? b = some { cls := .type "list", data := .seq (con j).toArray c } := ⟨fun j => Classical.choose (ex j), fun j => Classical.choose_spec (ex j)⟩
  have hlen : its.length = ws.length := (Vals.length rv).symm
  have key : ∀ i, i ≤ ws.length → Vals (ls.take i).flatten (cat con i) := fun i => by
    induction i with
    | zero => intro _; exact .nil
    | succ i ih =>
      intro hi
      have hj : ws[i]? = some ws[i] := List.getElem?_eq_getElem (by omega)
      obtain ⟨b, zs, e, e3, hb⟩ := hls i _ hj
      rw [e] at hj
      obtain ⟨c, v3, _⟩ := hcon i b zs hj hb
      rw [cat_succ, List.take_add_one, e3, List.flatten_append]
      refine Vals.append (ih (by omega)) ?_
      simpa using v3
  have cap : ∀ i, i ≤ its.toArray.size → (cat con i).length ≤ sizeLine := fun i hi => by
    have hi' : i ≤ ws.length := by simpa [hlen] using hi
    rw [← Vals.length (key i hi')]
    exact Nat.le_trans (flat_take_le ls i) hcap
  refine call_sum_lists (P := X.prog) (w := X.w) (items := its.toArray) (con := con) (I.ok.hd hc) ⟨_, ho, rfl, n, rfl⟩ ho2 cap (fun i v hv => ?_) fun h' tk r c' hk hr hL => ?_
  · have hv' : its[i]? = some v := by simpa using hv
    obtain ⟨x, hx, rx⟩ := paired_back rv hv'
    obtain ⟨b, zs, rfl, e3, hb⟩ := hls i x hx
    obtain ⟨c, _, hg⟩ := hcon i b zs hx hb
    exact ⟨b, c, rx, hg⟩
  · have hr' : s.heap.objs.size ≤ r := by
      rcases hr with ⟨_, z⟩ | hr
      · have : ws.length = 0 := by rw [← hlen]; simpa using z.symm
        exact absurd (List.eq_nil_of_length_eq_zero this) hne
      · exact hr
    have e : its.toArray.size = ws.length := by simp [hlen]
    rw [e] at hL
    have kv := key ws.length (Nat.le_refl _)
    rw [List.take_of_length_le (by omega)] at kv
    exact ⟨.ref _, upd H r (.lst ls.flatten), I.laid (t' := tk) hk hr' ⟨hcap, _, _, kv, hL⟩, rfl, q r (I.hok.fresh hr')⟩
end
end FA

set_option Elab.async false
set_option linter.all false
set_option maxRecDepth 100000
set_option maxHeartbeats 4000000
/-! Lists of small numbers: sorted(set(..)), sorted(..), == of them. -/
namespace FA
open PySem PySem.Spec PyProof.Rows L2
variable {w : World} {K : PySem.W.Frag}
theorem nts_ints (l : List Nat) : nts l = (l.map fun (q : Nat) => (q : Int)).map V.int := by
  unfold nts
  rw [List.map_map]
  rfl
theorem nts_flat_all (ls : List (List Nat)) : (ls.map nts).flatten = nts ls.flatten := by
  induction ls with
  | nil => rfl
  | cons x r ih => rw [List.map_cons, List.flatten_cons, List.flatten_cons, nts_app, ih]
theorem nat_back {ns : List Int} {C : Nat → Prop} (h : ∀ k : Int, k ∈ ns ↔ ∃ q : Nat, C q ∧ k = (q : Int)) : ns.map V.int = nts (ns.map Int.toNat) ∧ ∀ q, q ∈ ns.map Int.toNat ↔ C q := by
  constructor
  · unfold nts
    rw [List.map_map]
    refine List.map_congr_left fun k hk => ?_
    obtain ⟨q, _, rfl⟩ := (h k).mp hk
    rfl
  · intro q
    rw [List.mem_map]
    constructor
    · rintro ⟨k, hk, rfl⟩
      obtain ⟨q, hq, rfl⟩ := (h k).mp hk
      exact hq
    · intro hq
      exact ⟨(q : Int), (h _).mpr ⟨q, hq, rfl⟩, rfl⟩
theorem toNat_asc {ns : List Int} (h : ns.Pairwise (· < ·)) (nn : ∀ k ∈ ns, 0 ≤ k) : (ns.map Int.toNat).Pairwise (· < ·) := by
  rw [List.pairwise_map]
  refine List.Pairwise.imp_of_mem (fun {a b} ha hb hab => ?_) h
  have := nn a ha
  have := nn b hb
  omega
theorem ints_few : ∀ {ks : List Int} {n : Nat}, ks.Nodup → (∀ k ∈ ks, 0 ≤ k ∧ k < (n : Int)) → ks.length ≤ n := fun {ks n} nd h => by
  have h1 : (ks.map Int.toNat).Nodup := by
    rw [List.Nodup, List.pairwise_map]
    refine List.Pairwise.imp_of_mem (fun {a b} ha hb hab => ?_) nd
    have := h a ha
    have := h b hb
    omega
  have h2 := nodup_len h1 (m := List.range n) fun q hq => by
    obtain ⟨k, hk, rfl⟩ := List.mem_map.mp hq
    have := h k hk
    rw [List.mem_range]
    omega
  rw [List.length_map, List.length_range] at h2
  exact h2
/-- sorted(set(l)) -/
theorem sort_setN {H : Hp} {p : Addr} {l : List Nat} {Q : VK} (hp : H p = some (.lst (nts l))) (hl : l.length ≤ 1000) (small : ∀ q ∈ l, q < 63)
    (q : ∀ a b o qs, H a = none → (upd H a o) b = none → qs.Pairwise (· < ·) → (∀ k, k ∈ qs ↔ k ∈ l) → Q (.ref b) (upd (upd H a o) b (.lst (nts qs)))) :
    rSetIs K w [.ref p] H (fun v H1 => rSortedSet w [v] H1 Q) := by
  refine ⟨p, _, rfl, by rw [nts_ints] at hp; exact SqL.of hp, by rw [List.length_map]; exact hl, fun a n ks ha nd mem len => ?_⟩
  have mem' : ∀ k : Int, k ∈ l.map (fun (q : Nat) => (q : Int)) ↔ ∃ q : Nat, q ∈ l ∧ k = (q : Int) := fun k => by
    rw [List.mem_map]
    exact ⟨fun ⟨q, h, e⟩ => ⟨q, h, e.symm⟩, fun ⟨q, h, e⟩ => ⟨q, h, e.symm⟩⟩
  have n64 : n ≤ 63 := by
    rw [← len]
    refine ints_few nd fun k hk => ?_
    obtain ⟨q0, h0, rfl⟩ := (mem' k).mp ((mem k).mp hk)
    have := small q0 h0
    omega
  refine ⟨a, _, n, rfl, upd_same, by omega, fun ns b pw hm hlen hb => ?_⟩
  have hm' : ∀ k : Int, k ∈ ns ↔ ∃ q : Nat, q ∈ l ∧ k = (q : Int) := fun k => by
    rw [hm, decide_eq_true_eq]
    exact mem' k
  obtain ⟨e1, e2⟩ := nat_back hm'
  rw [e1]
  exact q a b _ _ ha hb (toNat_asc pw fun k hk => by obtain ⟨q0, _, rfl⟩ := (hm' k).mp hk; omega) e2
/-- sorted(l), the numbers of l different -/
theorem sorted_nts {H : Hp} {p : Addr} {l : List Nat} {Q : VK} (hp : H p = some (.lst (nts l))) (hl : l.length < 64) (nd : l.Nodup)
    (q : ∀ b qs, H b = none → qs.Pairwise (· < ·) → (∀ k, k ∈ qs ↔ k ∈ l) → qs.length = l.length → Q (.ref b) (upd H b (.lst (nts qs)))) : rSorted K [.ref p] H Q := by
  refine ⟨p, _, rfl, by rw [nts_ints] at hp; exact SqL.of hp, by rw [List.length_map]; exact hl, fun ns b pm pw hb => ?_⟩
  have mem' : ∀ k : Int, k ∈ ns ↔ ∃ q : Nat, q ∈ l ∧ k = (q : Int) := fun k => by
    rw [pm.mem_iff, List.mem_map]
    exact ⟨fun ⟨q, h, e⟩ => ⟨q, h, e.symm⟩, fun ⟨q, h, e⟩ => ⟨q, h, e.symm⟩⟩
  obtain ⟨e1, e2⟩ := nat_back mem'
  have ndi : (l.map fun (q : Nat) => (q : Int)).Nodup := by
    rw [List.Nodup, List.pairwise_map]
    exact nd.imp fun h e => h (by omega)
  have ndn : ns.Nodup := pm.nodup_iff.mpr ndi
  have pl : ns.Pairwise (· < ·) := by
    refine List.Pairwise.imp₂ (fun {a b} h1 h2 => ?_) pw ndn
    omega
  rw [e1]
  refine q b _ hb (toNat_asc pl fun k hk => by obtain ⟨q0, _, rfl⟩ := (mem' k).mp hk; omega) e2 ?_
  rw [List.length_map, pm.length_eq, List.length_map]
theorem dp_nts {H : Hp} : ∀ ls : List Nat, DpAll K H (nts ls) (ls.map fun (q : Nat) => PyData.int (q : Int))
  | [] => .nil
  | x :: r => .cons (.int x) (dp_nts r)
theorem nts_shaped (ls : List Nat) : SeqAt.shaped (.list (ls.map fun (q : Nat) => PyData.int (q : Int))) = true := by
  refine dt_shaped ?_ ?_
  · induction ls with
    | nil => rfl
    | cons x r ih =>
      simp only [List.map_cons, PyData.canLayAll0, PyData.canLay0, Bool.true_and]
      exact ih
  · have : PyData.depthAll (ls.map fun (q : Nat) => PyData.int (q : Int)) = 0 := by
      induction ls with
      | nil => rfl
      | cons x r ih => simp only [List.map_cons, PyData.depthAll, PyData.depth, ih]; rfl
    rw [this]; omega
theorem nIBs_takeS : ∀ {l : List (List It)} {i : Nat} {b : List It}, l[i]? = some b → nIBs (l.take (i + 1)) = nIBs (l.take i) + nIB b
  | x :: r, 0, b, h => by cases h; simp [nIBs]
  | x :: r, i + 1, b, h => by
    have := nIBs_takeS (l := r) (i := i) (b := b) (by simpa using h)
    simp only [List.take_succ_cons, nIBs, this]
    omega
theorem nIBs_take : ∀ (l : List (List It)) (k : Nat), nIBs (l.take k) ≤ nIBs l
  | [], k => by simp
  | b :: r, 0 => by simp [nIBs]
  | b :: r, k + 1 => by
    have := nIBs_take r k
    simp only [List.take_succ_cons, nIBs]
    omega
end FA

set_option Elab.async false
set_option linter.all false
set_option maxRecDepth 100000
set_option maxHeartbeats 4000000
/-! Products in the heap. -/
namespace FA
open PySem PySem.Spec PyProof.Rows L2
inductive AtAt (H : Hp) : V → Atm → Prop
  | n (x : Str) : AtAt H (.str x) (.n x)
  | t {a : Addr} {xs : List Str} : H a = some (.tup (xs.map V.str)) → AtAt H (.ref a) (.t xs)
inductive AtsAt (H : Hp) : List V → Prd → Prop
  | nil : AtsAt H [] []
  | cons {v : V} {a : Atm} {vs : List V} {p : Prd} : AtAt H v a → AtsAt H vs p → AtsAt H (v :: vs) (a :: p)
def PdAt (H : Hp) (b : Addr) (p : Prd) : Prop := ∃ vs, H b = some (.lst vs) ∧ AtsAt H vs p
inductive PdsAt (H : Hp) : List V → List Prd → Prop
  | nil : PdsAt H [] []
  | cons {b : Addr} {p : Prd} {vs : List V} {ps : List Prd} : PdAt H b p → PdsAt H vs ps → PdsAt H (.ref b :: vs) (p :: ps)
section
variable {H H' : Hp}
theorem AtAt.keep (k : Kp H H') {v : V} {a : Atm} (h : AtAt H v a) : AtAt H' v a := by
  cases h with
  | n x => exact .n x
  | t h => exact .t (k.t _ _ h)
theorem AtAt.two {v : V} {a : Atm} (h : AtAt H v a) : (∃ x, v = .str x ∧ a = .n x) ∨ ∃ t xs, v = .ref t ∧ a = .t xs ∧ H t = some (.tup (xs.map V.str)) := by
  cases h with
  | n x => exact .inl ⟨x, rfl, rfl⟩
  | t h => exact .inr ⟨_, _, rfl, rfl, h⟩
theorem AtsAt.keep (k : Kp H H') : ∀ {vs : List V} {p : Prd}, AtsAt H vs p → AtsAt H' vs p
  | _, _, .nil => .nil
  | _, _, .cons h t => .cons (h.keep k) (t.keep k)
theorem PdAt.keep (k : Kp H H') {b : Addr} {p : Prd} (h : PdAt H b p) : PdAt H' b p := let ⟨vs, h1, h2⟩ := h; ⟨vs, k.l _ _ h1, h2.keep k⟩
theorem PdsAt.keep (k : Kp H H') : ∀ {vs : List V} {ps : List Prd}, PdsAt H vs ps → PdsAt H' vs ps
  | _, _, .nil => .nil
  | _, _, .cons h t => .cons (h.keep k) (t.keep k)
theorem AtsAt.length : ∀ {vs : List V} {p : Prd}, AtsAt H vs p → vs.length = p.length
  | _, _, .nil => rfl
  | _, _, .cons _ t => congrArg (· + 1) t.length
theorem PdsAt.length : ∀ {vs : List V} {ps : List Prd}, PdsAt H vs ps → vs.length = ps.length
  | _, _, .nil => rfl
  | _, _, .cons _ t => congrArg (· + 1) t.length
theorem AtsAt.get : ∀ {vs : List V} {p : Prd} {i : Nat} {v : V}, AtsAt H vs p → vs[i]? = some v → ∃ a, p[i]? = some a ∧ AtAt H v a
  | _, _, _, _, .nil, e => by simp at e
  | _, _, 0, _, .cons h _, e => by simp at e; subst e; exact ⟨_, rfl, h⟩
  | _, _, i + 1, _, .cons _ t, e => by
    obtain ⟨a, h1, h2⟩ := AtsAt.get (i := i) t (by simpa using e)
    exact ⟨a, by simpa using h1, h2⟩
theorem AtsAt.at : ∀ {vs : List V} {p : Prd} {i : Nat} {a : Atm}, AtsAt H vs p → p[i]? = some a → ∃ v, vs[i]? = some v ∧ AtAt H v a
  | _, _, _, _, .nil, e => by simp at e
  | _, _, 0, _, .cons h _, e => by simp at e; subst e; exact ⟨_, rfl, h⟩
  | _, _, i + 1, _, .cons _ t, e => by
    obtain ⟨a, h1, h2⟩ := AtsAt.at (i := i) t (by simpa using e)
    exact ⟨a, by simpa using h1, h2⟩
theorem PdsAt.get : ∀ {vs : List V} {ps : List Prd} {i : Nat} {v : V}, PdsAt H vs ps → vs[i]? = some v → ∃ b p, v = .ref b ∧ ps[i]? = some p ∧ PdAt H b p
  | _, _, _, _, .nil, e => by simp at e
  | _, _, 0, _, .cons h _, e => by simp at e; subst e; exact ⟨_, _, rfl, rfl, h⟩
  | _, _, i + 1, _, .cons _ t, e => by
    obtain ⟨b, p, h1, h2, h3⟩ := PdsAt.get (i := i) t (by simpa using e)
    exact ⟨b, p, h1, by simpa using h2, h3⟩
theorem AtsAt.app : ∀ {vs ws : List V} {p q : Prd}, AtsAt H vs p → AtsAt H ws q → AtsAt H (vs ++ ws) (p ++ q)
  | _, _, _, _, .nil, k => k
  | _, _, _, _, .cons h t, k => .cons h (t.app k)
theorem PdsAt.app : ∀ {vs ws : List V} {p q : List Prd}, PdsAt H vs p → PdsAt H ws q → PdsAt H (vs ++ ws) (p ++ q)
  | _, _, _, _, .nil, k => k
  | _, _, _, _, .cons h t, k => .cons h (t.app k)
theorem AtsAt.take (n : Nat) : ∀ {vs : List V} {p : Prd}, AtsAt H vs p → AtsAt H (vs.take n) (p.take n) := by
  induction n with
  | zero => intro vs p _; simp; exact .nil
  | succ n ih =>
    intro vs p h
    cases h with
    | nil => simp; exact .nil
    | cons h t => simp only [List.take_succ_cons]; exact .cons h (ih t)
theorem AtsAt.drop (n : Nat) : ∀ {vs : List V} {p : Prd}, AtsAt H vs p → AtsAt H (vs.drop n) (p.drop n) := by
  induction n with
  | zero => intro vs p h; simpa using h
  | succ n ih =>
    intro vs p h
    cases h with
    | nil => simp; exact .nil
    | cons h t => simp only [List.drop_succ_cons]; exact ih t
theorem AtsAt.rev : ∀ {vs : List V} {p : Prd}, AtsAt H vs p → AtsAt H vs.reverse p.reverse
  | _, _, .nil => .nil
  | _, _, .cons h t => by
    rw [List.reverse_cons, List.reverse_cons]
    exact t.rev.app (.cons h .nil)
theorem AtsAt.snoc_inv : ∀ {vs : List V} {p : Prd} {a : Atm}, AtsAt H vs (p ++ [a]) → ∃ ws v, vs = ws ++ [v] ∧ AtsAt H ws p ∧ AtAt H v a
  | _, [], _, .cons h .nil => ⟨[], _, rfl, .nil, h⟩
  | _, b :: p, a, .cons h t => by
    obtain ⟨ws, v, rfl, h1, h2⟩ := AtsAt.snoc_inv (p := p) t
    exact ⟨_ :: ws, v, rfl, .cons h h1, h2⟩
theorem AtsAt.names (xs : List Str) : AtsAt H (xs.map V.str) (xs.map Atm.n) := by
  induction xs with
  | nil => exact .nil
  | cons x r ih => exact .cons (.n x) ih
end
theorem kp_fr_same {H H1 H2 : Hp} (s : Same H1 H2) : Kp (fr H H1) (fr H H2) :=
  ⟨fun a xs e => let ⟨h1, h2⟩ := fr_some.mp e; fr_some.mpr ⟨h1, s _ _ h2⟩, fun a xs e => let ⟨h1, h2⟩ := fr_some.mp e; fr_some.mpr ⟨h1, s _ _ h2⟩⟩
/-- what is new behind a later heap is new behind an earlier one -/
theorem kp_fr_back {H H1 H2 : Hp} (s : Same H H1) : Kp (fr H1 H2) (fr H H2) :=
  ⟨fun a xs e => let ⟨h1, h2⟩ := fr_some.mp e; fr_some.mpr ⟨none_back (W := []) (Sm.of_same s) (fun _ z => by cases z) h1, h2⟩, fun a xs e => let ⟨h1, h2⟩ := fr_some.mp e; fr_some.mpr ⟨none_back (W := []) (Sm.of_same s) (fun _ z => by cases z) h1, h2⟩⟩
/-! ### products as Python's data -/
def dA : Atm → PyData
  | .n x => .str x
  | .t xs => .tuple (xs.map PyData.str)
def dPd (p : Prd) : PyData := .list (p.map dA)
def dPds (ps : List Prd) : PyData := .list (ps.map dPd)
section
variable {K : PySem.W.Frag} {H : Hp}
theorem AtAt.dp {v : V} {a : Atm} (h : AtAt H v a) : Dp K H v (dA a) := by
  cases h with
  | n x => exact .str x
  | t h => exact .tup (SqT.of h) (dp_strs _)
theorem eqv_atm (a : Atm) (y : Str) : PyData.eqv (dA a) (.str y) = decide (a = .n y) := by
  cases a with
  | n x =>
    by_cases h : x = y
    · simp [dA, PyData.eqv, h]
    · simp [dA, PyData.eqv, h]
  | t xs => simp [dA, PyData.eqv]
theorem atm_shaped {a : Atm} (h : ∀ x ∈ a.nms, okName x) : SeqAt.shaped (dA a) = true := by
  cases a with
  | n x =>
    have := strs_shaped (ls := [x]) h
    unfold SeqAt.shaped at this ⊢
    simp only [List.map_cons, List.map_nil, PyData.canLay0, PyData.canLayAll0, PyData.depth, PyData.depthAll, Bool.and_true, Bool.and_eq_true, dA] at this ⊢
    exact ⟨this.1, by decide⟩
  | t xs =>
    have := strs_shaped (ls := xs) h
    unfold SeqAt.shaped at this ⊢
    simp only [PyData.canLay0, PyData.depth, dA] at this ⊢
    exact this
end
section
variable {X : Cx}
theorem pe_joinK {K : PySem.W.Frag} {o e : Expr} {to te : TE} {apos pos : Pos} (hK : X.K = K) (ho : PE X o to) (he : PE X e te) (hs : starEach [e] X.env = [(false, eval e X.env)] := by rfl) (hbase : attributeBase o "join" X.env (eval o X.env) = eval o X.env := by rfl) (hline : (apos.endLine == pos.line) = true := by rfl) :
    PE X (.Call (.Attribute o "join" apos) [e] [] pos) (tM1 (fun x xs H Q => ∃ a p, ∃ ys : List Str, x = .str a ∧ xs = [.ref p] ∧ (SqL K H p (ys.map V.str) ∨ SqT K H p (ys.map V.str)) ∧
      (ys.map (·.length)).sum + ys.length * a.length ≤ 16777216 ∧ Q (.str (Txt.join a ys)) H) to te) := by
  subst hK
  exact pe_join ho he hs hbase hline
/-- a walk over a list or over a tuple -/
def iSeq (K : PySem.W.Frag) (tl : TE) : TI := fun σ H R => iList K tl σ H R ∨ iTup K tl σ H R
theorem pi_seq {tg l : Expr} {tl : TE} (h : PE X l tl) : PI X tg l (iSeq X.K tl) := ⟨fun pins s σ H R I q => by
  rcases q with q | q
  · exact (pi_list h).run pins s σ H R I q
  · exact (pi_tup h).run pins s σ H R I q⟩
end
theorem inV_strs (x : Str) (l : List Str) : inV (.str x) (l.map V.str) = decide (x ∈ l) := by
  induction l with
  | nil => rfl
  | cons y r ih =>
    have e : inV (.str x) ((y :: r).map V.str) = (decide (y = x) || inV (.str x) (r.map V.str)) := by
      show (eqV (.str y) (.str x) || _) = _
      rfl
    rw [e, ih]
    by_cases h : y = x
    · subst h; simp
    · have h2 : x ≠ y := fun z => h z.symm
      simp [h, h2]
theorem strs_flat (l : List Str) : (l.map V.str).all flatV = true := by
  induction l with
  | nil => rfl
  | cons x r ih => exact ih
/-! ### texts are short -/
theorem str_len_app (a b : Str) : (a ++ b).length = a.length + b.length := by
  show (a.cps ++ b.cps).size = _
  rw [Array.size_append]
  rfl
theorem join_len (s : Str) : ∀ l : List Str, (Txt.join s l).length ≤ (l.map (·.length)).sum + l.length * s.length := fun l => by
  rw [TL.join_eq]
  induction l with
  | nil => exact Nat.zero_le _
  | cons x r ih =>
    cases r with
    | nil => simp only [Str.join, List.map_cons, List.map_nil, List.sum_cons, List.sum_nil]; omega
    | cons y r =>
      have e : Str.join s (x :: y :: r) = x ++ s ++ Str.join s (y :: r) := rfl
      rw [e, str_len_app, str_len_app, List.map_cons, List.sum_cons, List.length_cons, Nat.succ_mul]
      omega
theorem idleR_snoc (a : Atm) : ∀ (p kept : List Atm), idleR kept (p ++ [a]) = putI a (popI a (idleR kept p))
  | [], kept => rfl
  | b :: r, kept => by
    show idleR (putI b (popI b kept)) (r ++ [a]) = _
    rw [idleR_snoc a r]
    rfl
theorem popI_t (xs : List Str) (c : Atm) (k : List Atm) : popI (.t xs) (c :: k) = if isW c (.t xs) = true then popI (.t xs) k else c :: k := by
  simp only [popI]
  rw [List.dropWhile_cons]
theorem idleR_all {Pp : Atm → Prop} : ∀ (p kept : List Atm), (∀ a ∈ p, Pp a) → (∀ a ∈ kept, Pp a) → ∀ a ∈ idleR kept p, Pp a
  | [], kept, _, h => by simpa [idleR] using h
  | a :: r, kept, hp, h => by
    have hk1 : ∀ b ∈ popI a kept, Pp b := fun b hb => by
      cases a with
      | n x => exact h b hb
      | t xs => exact h b ((List.dropWhile_sublist _).subset hb)
    have hm1 : ∀ b ∈ putI a (popI a kept), Pp b := fun b hb => by
      have ha := hp a (by simp)
      generalize popI a kept = k at hk1 hb
      unfold putI at hb
      split at hb
      · split at hb
        · exact hk1 b hb
        · rcases List.mem_cons.mp hb with rfl | hb
          · exact ha
          · exact hk1 b hb
      · rcases List.mem_cons.mp hb with rfl | hb
        · exact ha
        · exact hk1 b hb
    exact idleR_all r _ (fun b hb => hp b (List.mem_cons_of_mem _ hb)) hm1
theorem idle_all {Pp : Atm → Prop} {p : Prd} (h : ∀ a ∈ p, Pp a) : ∀ a ∈ idle p, Pp a := fun a ha => idleR_all p [] h (by simp) a (List.mem_reverse.mp ha)
theorem idle_le (p : Prd) : (idle p).length ≤ p.length := by
  have key : ∀ (p kept : List Atm), (idleR kept p).length ≤ kept.length + p.length := fun p => by
    induction p with
    | nil => intro kept; simp [idleR]
    | cons a r ih =>
      intro kept
      have h1 : (popI a kept).length ≤ kept.length := by
        cases a with
        | n x => exact Nat.le_refl _
        | t xs => exact (List.dropWhile_sublist _).length_le
      have h2 : ∀ k : List Atm, (putI a k).length ≤ k.length + 1 := fun k => by
        unfold putI
        split
        · split
          · simp only [List.length_cons]; omega
          · simp only [List.length_cons]; omega
        · simp only [List.length_cons]; omega
      have h3 := h2 (popI a kept)
      have h4 := ih (putI a (popI a kept))
      simp only [idleR, List.length_cons]
      omega
  have := key p []
  unfold idle
  rw [List.length_reverse]
  simpa using this
theorem sum_len {l : List Str} {m : Nat} (h : ∀ x ∈ l, x.length ≤ m) : (l.map (·.length)).sum ≤ m * l.length := by
  induction l with
  | nil => simp
  | cons x r ih =>
    have := ih fun y hy => h y (List.mem_cons_of_mem _ hy)
    have := h x (by simp)
    rw [List.map_cons, List.sum_cons, List.length_cons, Nat.mul_succ]
    omega
theorem okName.le {x : Str} (h : okName x) : x.length ≤ 8 := h.2.1
theorem atom_len {ns : List Str} (hn : ∀ x ∈ ns, okName x) {a : Atm} (h : okAtm ns a) : (atomText a).length ≤ 60 := by
  cases a with
  | n x =>
    have := (hn x (h.1 x (by simp [Atm.nms]))).le
    show x.length ≤ 60
    omega
  | t xs =>
    have h1 := join_len " " xs
    have h2 := sum_len (l := xs) (m := 8) fun x hx => (hn x (h.1 x hx)).le
    have h3 : xs.length ≤ 5 := h.2.1
    have e : (" " : Str).length = 1 := rfl
    have e1 : ("{" : Str).length = 1 := rfl
    have e2 : ("}" : Str).length = 1 := rfl
    rw [e, Nat.mul_one] at h1
    show (("{" : Str) ++ Txt.join " " xs ++ ("}" : Str)).length ≤ 60
    rw [str_len_app, str_len_app, e1, e2]
    omega
end FA

set_option Elab.async false
set_option linter.all false
set_option maxRecDepth 100000
set_option maxHeartbeats 4000000
/-! Two loops in a list comprehension, in general. -/
namespace FA
open PySem PySem.Spec PyProof.Rows L2
/-- all but D is kept -/
def But (D : Addr) (A B : Hp) : Prop := ∀ a o, a ≠ D → A a = some o → B a = some o
theorem But.of_same {D : Addr} {A B : Hp} (s : Same A B) : But D A B := fun a o _ e => s _ _ e
theorem But.upd {D : Addr} {A : Hp} {o : HO} : But D A (upd A D o) := fun a u n e => by rw [upd_ne n]; exact e
theorem lc2G {K : PySem.W.Frag} {te : TE} {i1 i2 : Nat} {σ : L2.St} {H1 : Hp} {A D : Addr} {vs : List V} {wi1 : TI} {Qd : Hp → Prop} (hA : SqL K H1 A vs) (hD : H1 D = none) (ne : i1 ≠ i2) (h1 : i1 < σ.length) (h2 : i2 < σ.length)
    (Wk : Nat → List V → Hp → Prop) (Acc : Nat → List V → Hp → Prop) (AccIn : Nat → List V → Nat → List V → Hp → Prop) (G : Nat → List V → Nat → V → Hp → Prop)
    (walk : ∀ (i : Nat) (x : V) (σ' : L2.St) (H : Hp) (R : L2.It → Hp → Prop), vs[i]? = some x → Same H1 H → (∃ acc, H D = some (.lst acc)) → σ' = (wipe σ [i1, i2]).set i1 (some x) → (∀ B ws H4, Same H H4 → H4 B = some (.lst ws) → B ≠ D → Wk i ws H4 → R (Itl K B) H4) → wi1 σ' H R)
    (el : ∀ (i : Nat) (x : V) (ws : List V) (j : Nat) (y : V) (σ' : L2.St) (H : Hp) (R : VK), vs[i]? = some x → ws[j]? = some y → Same H1 H → (∃ acc, H D = some (.lst acc)) → Wk i ws H → σ'[i1]? = some (some x) → σ'[i2]? = some (some y) → (∀ v H', Same H H' → G i ws j v H' → R v H') → te σ' H R)
    (wmono : ∀ i ws A B, But D A B → Wk i ws A → Wk i ws B) (amono : ∀ i acc A B, But D A B → Acc i acc A → Acc i acc B) (imono : ∀ i ws j acc A B, But D A B → AccIn i ws j acc A → AccIn i ws j acc B) (gmono : ∀ i ws j v A B, But D A B → G i ws j v A → G i ws j v B)
    (a0 : ∀ H, Acc 0 [] H) (start : ∀ i x ws acc H, vs[i]? = some x → Wk i ws H → Acc i acc H → AccIn i ws 0 acc H) (step : ∀ i ws j y v acc H, ws[j]? = some y → AccIn i ws j acc H → G i ws j v H → AccIn i ws (j + 1) (acc ++ [v]) H)
    (stop : ∀ i ws acc H, i < vs.length → Wk i ws H → AccIn i ws ws.length acc H → Acc (i + 1) acc H) (cap : ∀ i ws j acc H, i < vs.length → Wk i ws H → j < ws.length → AccIn i ws j acc H → acc.length < sizeLine)
    (fin : ∀ H ws, Same H1 H → H D = some (.lst ws) → Acc vs.length ws H → Qd H) :
    ∃ W : Nat → Nat → Hp → Prop, (∃ m, W 0 m (upd H1 D (.lst []))) ∧ ∀ i m H, W i m H → ((Itl K A).stop i H ∧ Qd H) ∨ ((Itl K A).go i H ∧ ∃ Nx : Hp → Prop, (∀ H', Nx H' → ∃ m', m' < m ∧ W (i + 1) m' H') ∧ ∀ x H', (Itl K A).yld i H x H' → gName i1 x (wipe σ [i1, i2]) H' fun σ2 H2 => wipe σ2 [i1, i2] = wipe σ [i1, i2] ∧ tYes σ2 H2 fun b H3 => if b = true then wi1 σ2 H3 fun J1 H4 => ∃ W1 : Nat → Nat → Hp → Prop, (∃ m, W1 0 m H4) ∧ ∀ j k H, W1 j k H → (J1.stop j H ∧ Nx H) ∨ (J1.go j H ∧ ∃ Nx1 : Hp → Prop, (∀ H', Nx1 H' → ∃ k', k' < k ∧ W1 (j + 1) k' H') ∧ ∀ x H', J1.yld j H x H' → gName i2 x (wipe σ2 [i2]) H' fun σ3 H5 => wipe σ3 [i2] = wipe σ2 [i2] ∧ tYes σ3 H5 fun b H6 => if b = true then te σ3 H6 fun y H7 => ∃ acc, H7 D = some (.lst acc) ∧ acc.length < sizeLine ∧ Nx1 (upd H7 D (.lst (acc ++ [y]))) else Nx1 H6) else Nx H3) := by
  have lw : (wipe σ [i1, i2]).length = σ.length := by rw [wipe_length]
  refine ⟨fun i m H => i ≤ vs.length ∧ m = vs.length - i ∧ Same H1 H ∧ ∃ ws, H D = some (.lst ws) ∧ Acc i ws H, ⟨_, Nat.zero_le _, rfl, fun b o e => by rw [upd_ne (ne_of_none e hD)]; exact e, [], upd_same, a0 _⟩, ?_⟩
  rintro i m H ⟨hi, rfl, sm, acc0, hws, hp⟩
  by_cases hlt : i < vs.length
  · refine .inr ⟨go_l hA i H sm hlt, fun H' => i + 1 ≤ vs.length ∧ Same H1 H' ∧ ∃ ws, H' D = some (.lst ws) ∧ Acc (i + 1) ws H', fun H' h => ⟨vs.length - (i + 1), by omega, h.1, rfl, h.2⟩, fun x H' y => ?_⟩
    obtain ⟨rfl, hx⟩ := yld_l hA i H x H' sm hlt y
    refine ⟨?_, ?_⟩
    · show ((((((σ.set i2 none).set i1 none)).set i1 (some x)).set i2 none)).set i1 none = (σ.set i2 none).set i1 none
      rw [List.set_set, List.set_comm _ _ ne, List.set_set, List.set_set]
    · refine yesT ?_
      rw [if_pos rfl]
      refine walk i x _ _ _ hx sm ⟨_, hws⟩ rfl fun B ws H4 s4 hB nBD wk => ?_
      refine ⟨fun j k H => j ≤ ws.length ∧ k = ws.length - j ∧ Same H1 H ∧ H B = some (.lst ws) ∧ Wk i ws H ∧ ∃ acc, H D = some (.lst acc) ∧ AccIn i ws j acc H, ⟨_, Nat.zero_le _, rfl, sm.trans s4, hB, wk, acc0, s4 _ _ hws, start i x ws acc0 H4 hx wk (amono _ _ _ _ (But.of_same s4) hp)⟩, ?_⟩
      rintro j k H2 ⟨hj, rfl, s2, hB2, wk2, acc, hacc, hin⟩
      by_cases hjl : j < ws.length
      · refine .inr ⟨go_l (SqL.of hB2) j H2 (Same.refl _) hjl, fun H' => j + 1 ≤ ws.length ∧ Same H1 H' ∧ H' B = some (.lst ws) ∧ Wk i ws H' ∧ ∃ acc, H' D = some (.lst acc) ∧ AccIn i ws (j + 1) acc H', fun H' h => ⟨ws.length - (j + 1), by omega, h.1, rfl, h.2⟩, fun y H' yy => ?_⟩
        obtain ⟨rfl, hy⟩ := yld_l (SqL.of hB2) j H2 y H' (Same.refl _) hjl yy
        refine ⟨?_, ?_⟩
        · show ((((wipe σ [i1, i2]).set i1 (some x)).set i2 none).set i2 (some y)).set i2 none = ((wipe σ [i1, i2]).set i1 (some x)).set i2 none
          rw [List.set_set, List.set_set]
        · refine yesT ?_
          rw [if_pos rfl]
          refine el i x ws j y _ _ _ hx hy s2 ⟨_, hacc⟩ wk2 ?_ ?_ fun v H5 s5 g5 => ?_
          · show ((((wipe σ [i1, i2]).set i1 (some x)).set i2 none).set i2 (some y))[i1]? = _
            rw [List.set_set, List.getElem?_set_ne (Ne.symm ne), List.getElem?_set_self (by rw [lw]; exact h1)]
          · show ((((wipe σ [i1, i2]).set i1 (some x)).set i2 none).set i2 (some y))[i2]? = _
            rw [List.set_set, List.getElem?_set_self (by rw [List.length_set, lw]; exact h2)]
          · have hacc5 := s5 _ _ hacc
            have b5 : But D H' (upd H5 D (.lst (acc ++ [v]))) := fun a o n e => by rw [upd_ne n]; exact s5 _ _ e
            have b6 : But D H5 (upd H5 D (.lst (acc ++ [v]))) := But.upd
            refine ⟨acc, hacc5, cap i ws j acc _ hlt wk2 hjl hin, by omega, fun b o e => ?_, by rw [upd_ne nBD]; exact s5 _ _ hB2, wmono _ _ _ _ b5 wk2, acc ++ [v], upd_same, ?_⟩
            · rw [upd_ne (ne_of_none e hD)]; exact s5 _ _ (s2 _ _ e)
            · exact step i ws j y v acc _ hy (imono _ _ _ _ _ _ b5 hin) (gmono _ _ _ _ _ _ b6 g5)
      · have : j = ws.length := by omega
        subst this
        exact .inl ⟨stop_l (SqL.of hB2) H2 (Same.refl _), hlt, s2, acc, hacc, stop i ws acc H2 hlt wk2 hin⟩
  · have : i = vs.length := by omega
    subst this
    exact .inl ⟨stop_l hA H sm, fin H acc0 sm hws hp⟩
section
variable {D : Addr} {H A B : Hp}
theorem kp_woBut (s : But D A B) : Kp (wo [D] (fr H A)) (wo [D] (fr H B)) := by
  have key : ∀ b o, wo [D] (fr H A) b = some o → wo [D] (fr H B) b = some o := fun b o e => by
    obtain ⟨h1, h2⟩ := wo_some.mp e
    obtain ⟨h3, h4⟩ := fr_some.mp h2
    exact wo_some.mpr ⟨h1, fr_some.mpr ⟨h3, s _ _ (by simpa using h1) h4⟩⟩
  exact ⟨fun _ _ e => key _ _ e, fun _ _ e => key _ _ e⟩
theorem kp_woIn (hD : A D = none) (s : Same A B) : Kp (fr H A) (wo [D] (fr H B)) := by
  have key : ∀ b o, fr H A b = some o → wo [D] (fr H B) b = some o := fun b o e => by
    obtain ⟨h1, h2⟩ := fr_some.mp e
    exact wo_some.mpr ⟨by simpa using ne_of_none h2 hD, fr_some.mpr ⟨h1, s _ _ h2⟩⟩
  exact ⟨fun _ _ e => key _ _ e, fun _ _ e => key _ _ e⟩
theorem kp_woNew {u : HO} (hD : A D = some u) (s : Same H A) : Kp (fr A B) (wo [D] (fr H B)) := by
  have key : ∀ b o, fr A B b = some o → wo [D] (fr H B) b = some o := fun b o e => by
    obtain ⟨h1, h2⟩ := fr_some.mp e
    refine wo_some.mpr ⟨?_, fr_some.mpr ⟨none_back (W := []) (Sm.of_same s) (fun _ z => by cases z) h1, h2⟩⟩
    simp only [List.mem_singleton]
    rintro rfl
    rw [hD] at h1
    cases h1
  exact ⟨fun _ _ e => key _ _ e, fun _ _ e => key _ _ e⟩
theorem kp_woOut : Kp (wo [D] (fr H A)) (fr H A) := ⟨fun _ _ e => (wo_some.mp e).2, fun _ _ e => (wo_some.mp e).2⟩
end
theorem rawBs_take {bs : List (List It)} {i : Nat} {b : List It} (h : bs[i]? = some b) : rawBs (bs.take (i + 1)) = rawBs (bs.take i) ++ rawB b [[]] := by
  have app : ∀ a c : List (List It), rawBs (a ++ c) = rawBs a ++ rawBs c := fun a c => by
    induction a with
    | nil => simp [rawBs]
    | cons x r ih => simp only [List.cons_append, rawBs, ih, List.append_assoc]
  rw [List.take_add_one, h, app]
  simp [rawBs]
theorem rawB_take {l : List It} {i : Nat} {it : It} (h : l[i]? = some it) (acc : List Prd) : rawB (l.take (i + 1)) acc = cross (rawB (l.take i) acc) (rawI it) := by
  have app : ∀ (a c : List It) (acc : List Prd), rawB (a ++ c) acc = rawB c (rawB a acc) := fun a => by
    induction a with
    | nil => intro c acc; simp [rawB]
    | cons x r ih => intro c acc; simp only [List.cons_append, rawB, ih]
  rw [List.take_add_one, h, app]
  simp [rawB]
theorem rawI_bodies : ∀ i : It, (∀ x, i ≠ .call x) → (∀ b, i ≠ .loop b) → rawI i = rawBs (bodies i)
  | .call x, h, _ => absurd rfl (h x)
  | .loop b, _, h => absurd rfl (h b)
  | .may b, _, _ => by simp [rawI, bodies, rawBs]
  | .one bs, _, _ => by simp [rawI, bodies]
theorem rawBs_pre (bs : List (List It)) (k : Nat) : (rawBs (bs.take k)).length ≤ (rawBs bs).length := by
  have app : ∀ a c : List (List It), rawBs (a ++ c) = rawBs a ++ rawBs c := fun a c => by
    induction a with
    | nil => simp [rawBs]
    | cons x r ih => simp only [List.cons_append, rawBs, ih, List.append_assoc]
  have := congrArg (fun z => (rawBs z).length) (List.take_append_drop k bs)
  simp only [app, List.length_append] at this
  omega
theorem PdsAt.at {H : Hp} : ∀ {vs : List V} {ps : List Prd} {i : Nat} {p : Prd}, PdsAt H vs ps → ps[i]? = some p → ∃ b, vs[i]? = some (.ref b) ∧ PdAt H b p
  | _, _, _, _, .nil, e => by simp at e
  | _, _, 0, _, .cons h _, e => by simp at e; subst e; exact ⟨_, rfl, h⟩
  | _, _, i + 1, _, .cons _ t, e => by
    obtain ⟨b, h1, h2⟩ := PdsAt.at (i := i) t (by simpa using e)
    exact ⟨b, by simpa using h1, h2⟩
theorem cross_take {a b : List Prd} {i : Nat} {p : Prd} (h : a[i]? = some p) : cross (a.take (i + 1)) b = cross (a.take i) b ++ b.map fun q => p ++ q := by
  unfold cross
  rw [List.take_add_one, h, List.flatMap_append]
  simp
end FA

set_option Elab.async false
set_option linter.all false
set_option maxRecDepth 100000
set_option maxHeartbeats 4000000
/-! Dicts from texts to lists; a list comprehension with a test, in general; heaps with new lists only. -/
namespace FA
open PySem PySem.Spec PyProof.Rows L2
section
variable {X : Cx}
/-- a statement over a dict that is walked: it is locked, or it is already -/
theorem ps_lock2 {st : Stmt} {t : TS} (h : PS X st t) : PS X st (fun D σ H => tLock t D σ H ∨ t D σ H) := ⟨fun pins s σ H D I hq => by
  rcases hq with hq | hq
  · exact (ps_lock h).run pins s σ H D I hq
  · exact h.run pins s σ H D I hq⟩
end
theorem Kp.trans {A B C : Hp} (h : Kp A B) (k : Kp B C) : Kp A C := ⟨fun _ _ e => k.l _ _ (h.l _ _ e), fun _ _ e => k.t _ _ (h.t _ _ e)⟩
/-- what is told of a heap by lists that are new and by all tuples -/
def frl (H H' : Hp) : Hp := fun b => match H' b with
  | some (.tup xs) => some (.tup xs)
  | o => match H b with
    | none => o
    | some _ => none
section
variable {H H1 H2 : Hp}
theorem frl_t {b : Addr} {xs : List V} : frl H H1 b = some (.tup xs) ↔ H1 b = some (.tup xs) := by
  unfold frl
  cases e : H1 b with
  | none => cases H b <;> simp
  | some o =>
    cases o with
    | tup ys => simp
    | _ => cases H b <;> simp
theorem frl_l {b : Addr} {xs : List V} : frl H H1 b = some (.lst xs) ↔ H b = none ∧ H1 b = some (.lst xs) := by
  unfold frl
  cases e : H1 b with
  | none => cases H b <;> simp
  | some o =>
    cases o with
    | tup ys => simp
    | _ => cases H b <;> simp
theorem kp_frl_same (s : Same H1 H2) : Kp (frl H H1) (frl H H2) :=
  ⟨fun _ _ e => frl_l.mpr ⟨(frl_l.mp e).1, s _ _ (frl_l.mp e).2⟩, fun _ _ e => frl_t.mpr (s _ _ (frl_t.mp e))⟩
theorem kp_frl_back (s : Same H H1) : Kp (frl H1 H2) (frl H H2) :=
  ⟨fun b _ e => frl_l.mpr ⟨none_back (W := []) (Sm.of_same s) (fun _ z => by cases z) (frl_l.mp e).1, (frl_l.mp e).2⟩, fun _ _ e => frl_t.mpr (frl_t.mp e)⟩
theorem kp_frl : Kp (frl H H1) H1 := ⟨fun _ _ e => (frl_l.mp e).2, fun _ _ e => frl_t.mp e⟩
theorem kp_frl_of : Kp (fr H H1) (frl H H1) := ⟨fun _ _ e => frl_l.mpr (fr_some.mp e), fun _ _ e => frl_t.mpr (fr_some.mp e).2⟩
/-- all but some addresses are kept -/
theorem kp_frl_wo {W : List Addr} (h : ∀ b o, b ∉ W → H1 b = some o → H2 b = some o) : Kp (wo W (frl H H1)) (wo W (frl H H2)) :=
  ⟨fun b _ e => wo_some.mpr ⟨(wo_some.mp e).1, frl_l.mpr ⟨(frl_l.mp (wo_some.mp e).2).1, h _ _ (wo_some.mp e).1 (frl_l.mp (wo_some.mp e).2).2⟩⟩,
   fun b _ e => wo_some.mpr ⟨(wo_some.mp e).1, frl_t.mpr (h _ _ (wo_some.mp e).1 (frl_t.mp (wo_some.mp e).2))⟩⟩
theorem kp_frl_new (h : ∀ b o, H b = none → H1 b = some o → H2 b = some o) (ht : ∀ b xs, H1 b = some (.tup xs) → H2 b = some (.tup xs)) : Kp (frl H H1) (frl H H2) :=
  ⟨fun _ _ e => frl_l.mpr ⟨(frl_l.mp e).1, h _ _ (frl_l.mp e).1 (frl_l.mp e).2⟩, fun _ _ e => frl_t.mpr (ht _ _ (frl_t.mp e))⟩
theorem kp_frl_upd {d : Addr} {u o : HO} (hd : H d = some u) (h1 : ∀ xs, H1 d ≠ some (.tup xs)) : Kp (frl H H1) (frl H (upd H1 d o)) :=
  kp_frl_new (fun b o' e e1 => by rw [upd_ne (by rintro rfl; rw [hd] at e; cases e)]; exact e1) (fun b xs e => by rw [upd_ne (by rintro rfl; exact h1 xs e)]; exact e)
theorem kp_frl_dk {d : Addr} {kvs : List (Key × V)} {o : HO} (h1 : H1 d = some (.dK kvs)) : Kp (frl H H1) (frl H (upd H1 d o)) :=
  ⟨fun b xs e => frl_l.mpr ⟨(frl_l.mp e).1, by rw [upd_ne (by rintro rfl; have := (frl_l.mp e).2; rw [h1] at this; cases this)]; exact (frl_l.mp e).2⟩,
   fun b xs e => frl_t.mpr (by rw [upd_ne (by rintro rfl; have := frl_t.mp e; rw [h1] at this; cases this)]; exact frl_t.mp e)⟩
theorem kp_wo_any {W : List Addr} {A : Hp} : Kp (wo W A) A := ⟨fun _ _ e => (wo_some.mp e).2, fun _ _ e => (wo_some.mp e).2⟩
/-- fewer addresses are left out, those that hold neither list nor tuple -/
theorem kp_wo_in {W : List Addr} {A : Hp} (h : ∀ a ∈ W, ∀ xs, A a ≠ some (.lst xs) ∧ A a ≠ some (.tup xs)) : Kp A (wo W A) :=
  ⟨fun b xs e => wo_some.mpr ⟨fun hb => (h b hb xs).1 e, e⟩, fun b xs e => wo_some.mpr ⟨fun hb => (h b hb xs).2 e, e⟩⟩
end
theorem AtAt.keepT {H H' : Hp} (k : ∀ a xs, H a = some (.tup xs) → H' a = some (.tup xs)) {v : V} {a : Atm} (h : AtAt H v a) : AtAt H' v a := by
  cases h with
  | n x => exact .n x
  | t h => exact .t (k _ _ h)
theorem AtsAt.keepT {H H' : Hp} (k : ∀ a xs, H a = some (.tup xs) → H' a = some (.tup xs)) : ∀ {vs : List V} {p : Prd}, AtsAt H vs p → AtsAt H' vs p
  | _, _, .nil => .nil
  | _, _, .cons h t => .cons (h.keepT k) (t.keepT k)
/-! ### a dict from texts to lists -/
def txD (ks : List Str) (f : Str → Addr) : List (Key × V) := ks.map fun y => (.inr y, .ref (f y))
def setA (f : Str → Addr) (x : Str) (c : Addr) : Str → Addr := fun y => if y = x then c else f y
theorem txD_keys (ks : List Str) (f : Str → Addr) : (txD ks f).map (·.1) = ks.map Sum.inr := by
  unfold txD
  rw [List.map_map]
  rfl
theorem txD_len (ks : List Str) (f : Str → Addr) : (txD ks f).length = ks.length := by unfold txD; rw [List.length_map]
theorem txD_in {x : Str} (f : Str → Addr) : ∀ {ks : List Str}, x ∈ ks → valV (txD ks f) (.inr x) = some (.ref (f x))
  | [], h => by cases h
  | y :: r, h => by
    by_cases e : y = x
    · subst e
      simp [txD, valV]
    · have e2 : ¬ (Sum.inr y : Key) = Sum.inr x := fun z => e (Sum.inr.inj z)
      have ih := txD_in f (ks := r) ((List.mem_cons.mp h).resolve_left fun z => e z.symm)
      unfold valV at ih ⊢
      unfold txD at ih ⊢
      rw [List.map_cons, List.find?_cons_of_neg (by simpa using e2)]
      exact ih
theorem txD_out {x : Str} (f : Str → Addr) {ks : List Str} (h : x ∉ ks) : valV (txD ks f) (.inr x) = none :=
  valV_out fun q hq e => by
    obtain ⟨y, hy, rfl⟩ := List.mem_map.mp hq
    exact h (Sum.inr.inj e ▸ hy)
theorem txD_put {x : Str} {c : Addr} (f : Str → Addr) {ks : List Str} : putK (txD ks f) (.inr x) (.ref c) = txD (if x ∈ ks then ks else ks ++ [x]) (setA f x c) := by
  by_cases h : x ∈ ks
  · rw [if_pos h]
    have hk : (txD ks f).any (fun kv => decide (kv.fst = Sum.inr x)) = true := List.any_eq_true.mpr ⟨(Sum.inr x, V.ref (f x)), List.mem_map.mpr ⟨x, h, rfl⟩, decide_eq_true rfl⟩
    unfold putK
    rw [if_pos hk]
    unfold txD
    rw [List.map_map]
    refine List.map_congr_left fun y _ => ?_
    show (if (Sum.inr y : Key) = Sum.inr x then ((Sum.inr y : Key), V.ref c) else ((Sum.inr y : Key), V.ref (f y))) = ((Sum.inr y : Key), V.ref (setA f x c y))
    by_cases e : y = x
    · subst e
      simp [setA]
    · rw [if_neg fun z => e (Sum.inr.inj z)]
      simp [setA, e]
  · rw [if_neg h, putK_new _ (txD_out f h)]
    unfold txD
    rw [List.map_append]
    congr 1
    · refine List.map_congr_left fun y hy => ?_
      have : y ≠ x := by rintro rfl; exact h hy
      simp [setA, this]
    · simp [setA]
theorem putK_snoc {kvs : List (Key × V)} {k : Key} {v v' : V} (h : ∀ q ∈ kvs, q.1 ≠ k) : putK (kvs ++ [(k, v)]) k v' = kvs ++ [(k, v')] := by
  have hk : (kvs ++ [(k, v)]).any (fun kv => decide (kv.fst = k)) = true := List.any_eq_true.mpr ⟨(k, v), by simp, decide_eq_true rfl⟩
  unfold putK
  rw [if_pos hk, List.map_append]
  congr 1
  · conv => rhs; rw [← List.map_id kvs]
    refine List.map_congr_left fun q hq => ?_
    rw [if_neg (h q hq)]
    rfl
  · simp
/-! ### a list comprehension with a test -/
theorem lcT {J : L2.It} {n : Nat} {g : TG} {tt : TT} {te : TE} {vs : List Nat} {σ : L2.St} {H1 : Hp} {D : Addr} {Qd : Hp → Prop} (hD : H1 D = none) (hn : n < sizeLine) (Y : Nat → V → Prop) (val : Nat → Option V)
    (go : ∀ i H, Same H1 H → i < n → J.go i H) (stop : ∀ H, Same H1 H → J.stop n H) (yld : ∀ i H x H', Same H1 H → i < n → J.yld i H x H' → H' = H ∧ Y i x)
    (step : ∀ i x H (body : Bool → L2.St → Hp → Prop), i < n → Y i x → Same H1 H → (∀ σ2 H2, Same H H2 → (val i = none → body false σ2 H2) ∧ ∀ q : V, val i = some q → (∀ Q : VK, Q q H2 → te σ2 H2 Q) → body true σ2 H2) → g x (wipe σ vs) H fun σ2 H2 => wipe σ2 vs = wipe σ vs ∧ tt σ2 H2 fun b H3 => body b σ2 H3)
    (fin : ∀ H, Same H1 H → H D = some (.lst ((List.range n).filterMap val)) → Qd H) :
    ∃ W : Nat → Nat → Hp → Prop, (∃ m, W 0 m (upd H1 D (.lst []))) ∧ ∀ i m H, W i m H →
      (J.stop i H ∧ Qd H) ∨ (J.go i H ∧ ∃ Nx : Hp → Prop, (∀ H', Nx H' → ∃ m', m' < m ∧ W (i + 1) m' H') ∧ ∀ x H', J.yld i H x H' → g x (wipe σ vs) H' fun σ2 H2 => wipe σ2 vs = wipe σ vs ∧ tt σ2 H2 fun b H3 =>
        if b = true then te σ2 H3 fun y H4 => ∃ acc, H4 D = some (.lst acc) ∧ acc.length < sizeLine ∧ Nx (upd H4 D (.lst (acc ++ [y]))) else Nx H3) := by
  have succ : ∀ i, (List.range (i + 1)).filterMap val = (List.range i).filterMap val ++ (val i).toList := fun i => by
    rw [List.range_succ, List.filterMap_append]
    cases h : val i <;> simp [h]
  refine ⟨fun i m H => i ≤ n ∧ m = n - i ∧ Same H1 H ∧ H D = some (.lst ((List.range i).filterMap val)), ⟨_, Nat.zero_le _, rfl, fun b o e => by rw [upd_ne (ne_of_none e hD)]; exact e, upd_same⟩, ?_⟩
  rintro i m H ⟨hi, rfl, sm, hd⟩
  by_cases hlt : i < n
  · refine .inr ⟨go i H sm hlt, fun H' => i + 1 ≤ n ∧ Same H1 H' ∧ H' D = some (.lst ((List.range (i + 1)).filterMap val)), fun H' h => ⟨n - (i + 1), by omega, h.1, rfl, h.2⟩, fun x H' y => ?_⟩
    obtain ⟨rfl, hY⟩ := yld i H x H' sm hlt y
    refine step i x H' (fun b σ2 H3 => if b = true then te σ2 H3 fun y H4 => ∃ acc, H4 D = some (.lst acc) ∧ acc.length < sizeLine ∧ (i + 1 ≤ n ∧ Same H1 (upd H4 D (.lst (acc ++ [y]))) ∧ (upd H4 D (.lst (acc ++ [y]))) D = some (.lst ((List.range (i + 1)).filterMap val))) else (i + 1 ≤ n ∧ Same H1 H3 ∧ H3 D = some (.lst ((List.range (i + 1)).filterMap val)))) hlt hY sm fun σ2 H2 s2 => ⟨fun hv => ?_, fun q hv he => ?_⟩
    · rw [if_neg (by decide)]
      refine ⟨hlt, sm.trans s2, ?_⟩
      rw [succ, hv]
      simp only [Option.toList_none, List.append_nil]
      exact s2 _ _ hd
    · rw [if_pos rfl]
      have pl := List.length_filterMap_le val (List.range i)
      rw [List.length_range] at pl
      refine he _ ⟨_, s2 _ _ hd, by omega, hlt, fun b o e => ?_, ?_⟩
      · rw [upd_ne (ne_of_none e hD)]; exact s2 _ _ (sm _ _ e)
      · rw [upd_same, succ, hv]
        rfl
  · have : i = n := by omega
    subst this
    exact .inl ⟨stop H sm, fin H sm hd⟩
/-- a list comprehension with a test, by the items -/
def valT {α : Type} (l : List α) (c : α → Bool) (f : α → V) (i : Nat) : Option V := (l[i]?).bind fun x => if c x = true then some (f x) else none
theorem range_fm {α : Type} (l : List α) (c : α → Bool) (f : α → V) : (List.range l.length).filterMap (valT l c f) = (l.filter c).map f := by
  induction l with
  | nil => rfl
  | cons a r ih =>
    rw [List.length_cons, List.range_succ_eq_map, List.filterMap_cons, List.filterMap_map]
    have e : (valT (a :: r) c f ∘ Nat.succ) = valT r c f := by
      funext i
      simp [Function.comp, valT]
    rw [e, ih]
    by_cases h : c a
    · simp [h, valT]
    · simp [h, valT]
/-! ### the last product with a text -/
theorem byText_snoc (ss : List Prd) (s : Prd) (x : Str) : byText (ss ++ [s]) x = if prdText s = x then s else byText ss x := by
  unfold byText
  rw [List.reverse_append, List.reverse_singleton, List.singleton_append, List.find?_cons]
  by_cases h : prdText s = x
  · simp [h]
  · simp [h]
theorem nd_take {ys : List Str} {i : Nat} {x : Str} (nd : ys.Nodup) (h : ys[i]? = some x) : x ∉ ys.take i := by
  obtain ⟨hi, e⟩ := List.getElem?_eq_some_iff.mp h
  have hd : ys.drop i = x :: ys.drop (i + 1) := by rw [← e]; exact List.drop_eq_getElem_cons hi
  rw [← List.take_append_drop i ys, hd] at nd
  exact fun hx => (List.nodup_append.mp nd).2.2 x hx x (by simp) rfl
/-! ### what a normal form holds -/
theorem normal_sub {raw : List Prd} {q : Prd} (h : q ∈ normal raw) : ∃ p ∈ raw, q = idle p := by
  unfold normal at h
  obtain ⟨x, hx, rfl⟩ := List.mem_map.mp h
  have hx2 := ((asc_tells _).mem x).mp (List.mem_filter.mp hx).1
  obtain ⟨s, hs, hx3⟩ := List.mem_map.mp hx2
  have : byText (raw.map idle) x ∈ raw.map idle := by
    unfold byText
    cases e : (raw.map idle).reverse.find? (fun p => decide (prdText p = x)) with
    | none =>
      have := List.find?_eq_none.mp e s (List.mem_reverse.mpr hs)
      simp [hx3] at this
    | some p => exact List.mem_reverse.mp (List.mem_of_find?_eq_some e)
  obtain ⟨p, hp, e⟩ := List.mem_map.mp this
  exact ⟨p, hp, e.symm⟩
theorem normal_len (raw : List Prd) : (normal raw).length ≤ raw.length := by
  unfold normal
  rw [List.length_map]
  refine Nat.le_trans (List.length_filter_le _ _) (Nat.le_trans (asc_len _) ?_)
  rw [List.length_map, List.length_map]
  exact Nat.le_refl _
end FA

set_option Elab.async false
set_option linter.all false
set_option maxRecDepth 100000
set_option maxHeartbeats 4000000
/-! Products and programs as data that repr can show. -/
namespace FA
open PySem PySem.Spec PyProof.Rows L2
theorem Fits.dict {α : Type} {f : α → Str} {g : α → PyData} {k b : Nat} {l : List α} (h : ∀ a ∈ l, okName (f a) ∧ Fits (g a) k b) : Fits (.dict (l.map fun a => (PyData.str (f a), g a))) (k + 2) ((b + 12) * l.length) := by
  have h1 : ∀ l : List α, (∀ a ∈ l, okName (f a) ∧ Fits (g a) k b) → PyData.showableKv (l.map fun a => (PyData.str (f a), g a)) = true := fun l => by
    induction l with
    | nil => intro _; rfl
    | cons q r ih =>
      intro h
      have h2 := (h q (by simp)).2.sh
      have h3 := ih fun u hu => h u (List.mem_cons_of_mem _ hu)
      simp only [List.map_cons, PyData.showableKv, PyData.showable, h2, h3, Bool.and_self]
  have h2 : ∀ l : List α, (∀ a ∈ l, okName (f a) ∧ Fits (g a) k b) → PyData.leavesShortKv 13 (l.map fun a => (PyData.str (f a), g a)) = true := fun l => by
    induction l with
    | nil => intro _; rfl
    | cons q r ih =>
      intro h
      have h2 := (h q (by simp)).2.lv
      have h4 := (h q (by simp)).1.short
      have h3 := ih fun u hu => h u (List.mem_cons_of_mem _ hu)
      simp only [List.map_cons, PyData.leavesShortKv, PyData.leavesShort, h2, h3, h4, Bool.and_self]
  have h3 : ∀ l : List α, (∀ a ∈ l, okName (f a) ∧ Fits (g a) k b) → PyData.depthKv (l.map fun a => (PyData.str (f a), g a)) ≤ k + 1 := fun l => by
    induction l with
    | nil => intro _; simp [PyData.depthKv]
    | cons q r ih =>
      intro h
      have h2 := (h q (by simp)).2.dp
      have h3 := ih fun u hu => h u (List.mem_cons_of_mem _ hu)
      simp only [List.map_cons, PyData.depthKv, PyData.depth]
      omega
  have h4 : ∀ l : List α, (∀ a ∈ l, okName (f a) ∧ Fits (g a) k b) → PyData.bulkKv (l.map fun a => (PyData.str (f a), g a)) ≤ (b + 12) * l.length := fun l => by
    induction l with
    | nil => intro _; simp [PyData.bulkKv]
    | cons q r ih =>
      intro h
      have h2 := (h q (by simp)).2.bk
      have h5 : (f q).cps.size ≤ 8 := (h q (by simp)).1.2.1
      have h3 := ih fun u hu => h u (List.mem_cons_of_mem _ hu)
      simp only [List.map_cons, PyData.bulkKv, PyData.bulk, List.length_cons, Nat.mul_succ]
      omega
  refine ⟨?_, ?_, ?_, ?_⟩
  · simp only [PyData.showable]; exact h1 l h
  · simp only [PyData.leavesShort]; exact h2 l h
  · have := h3 l h
    simp only [PyData.depth]
    omega
  · simp only [PyData.bulk]; exact h4 l h
theorem atm_fits {a : Atm} (h : (∀ x ∈ a.nms, okName x) ∧ a.nms.length ≤ 5) : Fits (dA a) 1 45 := by
  cases a with
  | n x => exact (Fits.str (h.1 x (by simp [Atm.nms]))).mono (by omega) (by omega)
  | t xs =>
    have h2 : xs.length ≤ 5 := h.2
    exact (Fits.tup (FitsAll.strs (ls := xs) h.1)).mono (by omega) (by omega)
theorem prd_fits {p : Prd} (h : ∀ a ∈ p, (∀ x ∈ a.nms, okName x) ∧ a.nms.length ≤ 5) (hl : p.length ≤ 5) : Fits (dPd p) 2 230 :=
  (Fits.list (FitsAll.map (f := dA) (k := 1) (b := 45) (l := p) fun a ha => atm_fits (h a ha))).mono (by omega) (by have : (45 + 1) * p.length ≤ 46 * 5 := Nat.mul_le_mul_left _ hl; omega)
section
variable {K : PySem.W.Frag} {H : Hp}
theorem AtAt.dd {v : V} {a : Atm} (h : AtAt H v a) : Dd K H v (dA a) := by
  cases h with
  | n x => exact .str x
  | t h => exact .tup h (dd_strs _)
theorem AtsAt.dd : ∀ {vs : List V} {p : Prd}, AtsAt H vs p → DdAll K H vs (p.map dA)
  | _, _, .nil => .nil
  | _, _, .cons h t => .cons h.dd t.dd
theorem PdsAt.dd : ∀ {vs : List V} {ps : List Prd}, PdsAt H vs ps → DdAll K H vs (ps.map dPd)
  | _, _, .nil => .nil
  | _, _, .cons ⟨_, h1, h2⟩ t => .cons (.lst h1 h2.dd) t.dd
end
/-- over a dict's keys, the dict locked -/
theorem for_keys {d : Addr} {od : Obj} {kvs : List (Key × V)} {g : TG} {tb : TS} {D : L2.Ends} {σ : L2.St} {H : Hp} (Pv : Nat → L2.St → Hp → Prop) (h0 : Pv 0 σ H) (hl : ∀ i σ H, Pv i σ H → H d = some (.frz od (.dK kvs)))
    (hs : ∀ i k v σ H, kvs[i]? = some (k, v) → Pv i σ H → g (kV k) σ H fun σ2 H2 => tb { D with nx := Pv (i + 1), ct := Pv (i + 1), bk := D.nx } σ2 H2) (hd : ∀ σ H, Pv kvs.length σ H → D.nx σ H) :
    ∃ W : Nat → Nat → L2.St → Hp → Prop, (∃ m, W 0 m σ H) ∧ ∀ i m σ H, W i m σ H →
      ((Itk d od kvs).stop i H ∧ D.nx σ H) ∨ ((Itk d od kvs).go i H ∧ ∃ N : L2.St → Hp → Prop, (∀ σ' H', N σ' H' → ∃ m', m' < m ∧ W (i + 1) m' σ' H') ∧ ∀ x H', (Itk d od kvs).yld i H x H' → g x σ H' fun σ2 H2 => tb { D with nx := N, ct := N, bk := D.nx } σ2 H2) := by
  refine ⟨fun i m σ H => m = kvs.length - i ∧ i ≤ kvs.length ∧ Pv i σ H, ⟨kvs.length, by simp, Nat.zero_le _, h0⟩, ?_⟩
  rintro i m σ H ⟨rfl, hi, p⟩
  have q := hl i σ H p
  by_cases hlt : i < kvs.length
  · refine .inr ⟨⟨q, hlt⟩, Pv (i + 1), fun σ' H' p' => ⟨kvs.length - (i + 1), by omega, rfl, hlt, p'⟩, fun x H' y => ?_⟩
    obtain ⟨e, k, v, e2, e3⟩ := y
    subst e
    subst e3
    exact hs i k v σ _ e2 p
  · have e : i = kvs.length := by omega
    subst e
    exact .inl ⟨⟨q, Nat.le_refl _⟩, hd σ H p⟩
/-! ### x in t, t a tuple of data -/
section
variable {X : Cx}
theorem op_inTD (room : X.A.units + 65 < cLine) : OpR X (compareOp .In) (fun x y H Q => ∃ (e : PyData) (es : List PyData), Dp X.K H x e ∧ Dp X.K H y (.tuple es) ∧ SeqAt.shaped e = true ∧ SeqAt.shaped (.list es) = true ∧ Q (.bl (es.any fun z => PyData.eqv z e)) H) := by
  intro pn sh sl Hx a b va vb Qx In ra rb hyp
  obtain ⟨e, es, he, hes, s1, s2, kk⟩ := hyp
  obtain ⟨_, g1⟩ := Dp.reads In e a va he ra
  obtain ⟨_, g2⟩ := Dp.reads In (.tuple es) b vb hes rb
  refine SeqAt.in_tuple_reads g2 g1 (SeqAt.canLay_of_shaped s2) (SeqAt.canLay_of_shaped s1) (room_in_shaped s1 room) ?_
  exact ⟨.bl _, Hx, In, rfl, kk⟩
end
/-! ### lists that grow -/
/-- a list behind H0, shorter than n -/
def Ls1 (H0 H : Hp) (n : Nat) (c : Addr) : Prop := H0 c = none ∧ ∃ vs, H c = some (.lst vs) ∧ vs.length < n
/-- a list behind H0, shorter than n, of texts and such lists, but not of itself -/
def Ls2 (H0 H : Hp) (n : Nat) (b : Addr) : Prop := H0 b = none ∧ ∃ ws, H b = some (.lst ws) ∧ ws.length < n ∧ V.ref b ∉ ws ∧ ∀ v ∈ ws, (∃ x, v = .str x) ∨ ∃ c, v = .ref c ∧ Ls1 H0 H n c
section
variable {H0 H : Hp} {n m : Nat} {c b : Addr} {vs : List V} {x : Str}
theorem Ls1.mono (h : Ls1 H0 H n b) (e : n ≤ m) : Ls1 H0 H m b := let ⟨h1, vs, h2, h3⟩ := h; ⟨h1, vs, h2, Nat.lt_of_lt_of_le h3 e⟩
theorem Ls2.mono (h : Ls2 H0 H n b) (e : n ≤ m) : Ls2 H0 H m b := let ⟨h1, ws, h2, h3, h4, h5⟩ := h; ⟨h1, ws, h2, Nat.lt_of_lt_of_le h3 e, h4, fun v hv => (h5 v hv).imp id fun ⟨c, e1, e2⟩ => ⟨c, e1, e2.mono e⟩⟩
theorem Ls1.keep {H' : Hp} (k : ∀ c vs, H c = some (.lst vs) → H' c = some (.lst vs)) (h : Ls1 H0 H n b) : Ls1 H0 H' n b := let ⟨h1, vs, h2, h3⟩ := h; ⟨h1, vs, k _ _ h2, h3⟩
theorem Ls2.keep {H' : Hp} (k : ∀ c vs, H c = some (.lst vs) → H' c = some (.lst vs)) (h : Ls2 H0 H n b) : Ls2 H0 H' n b := let ⟨h1, ws, h2, h3, h4, h5⟩ := h; ⟨h1, ws, k _ _ h2, h3, h4, fun v hv => (h5 v hv).imp id fun ⟨c, e1, e2⟩ => ⟨c, e1, e2.keep k⟩⟩
theorem Ls1.app (hc : H c = some (.lst vs)) (h : Ls1 H0 H n b) : Ls1 H0 (upd H c (.lst (vs ++ [.str x]))) (n + 1) b := by
  obtain ⟨h1, us, h2, h3⟩ := h
  by_cases e : b = c
  · subst e
    rw [hc] at h2
    cases h2
    exact ⟨h1, _, upd_same, by rw [List.length_append, List.length_singleton]; omega⟩
  · exact ⟨h1, us, by rw [upd_ne e]; exact h2, by omega⟩
theorem Ls2.app (hc : H c = some (.lst vs)) (h : Ls2 H0 H n b) : Ls2 H0 (upd H c (.lst (vs ++ [.str x]))) (n + 1) b := by
  obtain ⟨h1, us, h2, h3, h4, h5⟩ := h
  have h6 : ∀ v ∈ us, (∃ x, v = .str x) ∨ ∃ c', v = .ref c' ∧ Ls1 H0 (upd H c (.lst (vs ++ [.str x]))) (n + 1) c' := fun v hv => (h5 v hv).imp id fun ⟨c', e1, e2⟩ => ⟨c', e1, e2.app hc⟩
  by_cases e : b = c
  · subst e
    rw [hc] at h2
    cases h2
    refine ⟨h1, _, upd_same, by rw [List.length_append, List.length_singleton]; omega, fun z => ?_, fun v hv => ?_⟩
    · rcases List.mem_append.mp z with z | z
      · exact h4 z
      · simp at z
    · rcases List.mem_append.mp hv with z | z
      · exact h6 v z
      · exact .inl ⟨x, List.mem_singleton.mp z⟩
  · exact ⟨h1, us, by rw [upd_ne e]; exact h2, by omega, h4, h6⟩
end
theorem tx_filter {ys : List Str} (c : Str → Bool) (h : sortedS ys = true) : sortedS (ys.filter c) = true := pw_sorted ((sorted_pw h).sublist List.filter_sublist)
end FA

set_option Elab.async false
set_option linter.all false
set_option maxRecDepth 100000
set_option maxHeartbeats 2000000
/-! The words of products: what is left of a body's words when calls are left out. -/
namespace FA
open PySem PySem.Spec PyProof.Rows L2
/-- the words of an atom, of a product -/
def LA : Atm → List Str → Prop
  | .n x => fun u => u = [] ∨ u = [x]
  | .t xs => fun u => ∀ y ∈ u, y ∈ xs
def LP : Prd → List Str → Prop
  | [] => fun u => u = []
  | a :: p => fun u => ∃ v w, u = v ++ w ∧ LA a v ∧ LP p w
def LPs (ps : List Prd) (u : List Str) : Prop := ∃ p ∈ ps, LP p u
theorem LA.nil (a : Atm) : LA a [] := by
  cases a with
  | n x => exact .inl rfl
  | t xs => exact fun y h => by cases h
theorem LP.nil : ∀ p : Prd, LP p []
  | [] => rfl
  | a :: p => ⟨[], [], rfl, LA.nil a, LP.nil p⟩
theorem sub1 {x : Str} {v : List Str} (s : v.Sublist [x]) : v = [] ∨ v = [x] := by
  cases s with
  | cons _ h => exact .inl (List.sublist_nil.mp h)
  | cons_cons _ h => exact .inr (by rw [List.sublist_nil.mp h])
theorem LA.sub {a : Atm} {u v : List Str} (h : LA a u) (s : v.Sublist u) : LA a v := by
  cases a with
  | n x =>
    rcases h with rfl | rfl
    · exact .inl (List.sublist_nil.mp s)
    · rcases sub1 s with h | h
      · exact .inl h
      · exact .inr h
  | t xs => exact fun y hy => h y (s.subset hy)
theorem LP.sub : ∀ {p : Prd} {u v : List Str}, LP p u → v.Sublist u → LP p v
  | [], u, v, h, s => by
    have h : u = [] := h
    subst h
    exact List.sublist_nil.mp s
  | a :: p, u, v, h, s => by
    obtain ⟨x, y, rfl, h1, h2⟩ := h
    obtain ⟨v1, v2, e, s1, s2⟩ := List.sublist_append_iff.mp s
    exact ⟨v1, v2, e, h1.sub s1, LP.sub h2 s2⟩
theorem LP_app : ∀ {p q : Prd} {u : List Str}, LP (p ++ q) u ↔ ∃ v w, u = v ++ w ∧ LP p v ∧ LP q w
  | [], q, u => by
    simp only [List.nil_append]
    exact ⟨fun h => ⟨[], u, rfl, rfl, h⟩, fun ⟨v, w, e, h1, h2⟩ => by have h1 : v = [] := h1; subst h1; rw [e]; exact h2⟩
  | a :: p, q, u => by
    constructor
    · rintro ⟨v, w, rfl, h1, h2⟩
      obtain ⟨v2, w2, rfl, h3, h4⟩ := LP_app.mp h2
      exact ⟨v ++ v2, w2, by rw [List.append_assoc], ⟨v, v2, rfl, h1, h3⟩, h4⟩
    · rintro ⟨v, w, rfl, ⟨v2, w2, rfl, h1, h2⟩, h3⟩
      exact ⟨v2, w2 ++ w, by rw [List.append_assoc], h1, LP_app.mpr ⟨w2, w, rfl, h2, h3⟩⟩
theorem LPs_cross {a b : List Prd} {u : List Str} : LPs (cross a b) u ↔ ∃ v w, u = v ++ w ∧ LPs a v ∧ LPs b w := by
  constructor
  · rintro ⟨p, hp, h⟩
    obtain ⟨x, hx, y, hy, rfl⟩ := mem_cross.mp hp
    obtain ⟨v, w, e, h1, h2⟩ := LP_app.mp h
    exact ⟨v, w, e, ⟨x, hx, h1⟩, ⟨y, hy, h2⟩⟩
  · rintro ⟨v, w, e, ⟨x, hx, h1⟩, ⟨y, hy, h2⟩⟩
    exact ⟨x ++ y, mem_cross.mpr ⟨x, hx, y, hy, rfl⟩, LP_app.mpr ⟨v, w, e, h1, h2⟩⟩
/-! ### parts: words with calls left out -/
def PtI (i : It) (u : List Str) : Prop := ∃ w, WI i w ∧ u.Sublist w
def Pt (l : List It) (u : List Str) : Prop := ∃ w, WB l w ∧ u.Sublist w
theorem Pt_cons {i : It} {r : List It} {u : List Str} : Pt (i :: r) u ↔ ∃ v w, u = v ++ w ∧ PtI i v ∧ Pt r w := by
  constructor
  · rintro ⟨z, hz, s⟩
    simp only [WB] at hz
    obtain ⟨x, y, rfl, h1, h2⟩ := hz
    obtain ⟨v, w, e, s1, s2⟩ := List.sublist_append_iff.mp s
    exact ⟨v, w, e, ⟨x, h1, s1⟩, ⟨y, h2, s2⟩⟩
  · rintro ⟨v, w, rfl, ⟨x, h1, s1⟩, ⟨y, h2, s2⟩⟩
    exact ⟨x ++ y, by simp only [WB]; exact ⟨x, y, rfl, h1, h2⟩, s1.append s2⟩
mutual
theorem WI_ex {ns : List Str} : ∀ i : It, okI ns i → ∃ w, WI i w
  | .call x, _ => ⟨[x], by simp only [WI]⟩
  | .may b, _ => ⟨[], by simp [WI]⟩
  | .loop b, _ => ⟨[], by simp only [WI]; exact .nil⟩
  | .one bs, h => by
    simp only [okI] at h
    obtain ⟨b, hb, w, hw⟩ := WBs_ex bs h.2.2.2 (by omega)
    exact ⟨w, by simp only [WI]; exact WBs_iff.mpr ⟨b, hb, hw⟩⟩
theorem WB_ex {ns : List Str} : ∀ l : List It, okB ns l → ∃ w, WB l w
  | [], _ => ⟨[], by simp only [WB]⟩
  | i :: r, h => by
    simp only [okB] at h
    obtain ⟨u, hu⟩ := WI_ex i h.1
    obtain ⟨v, hv⟩ := WB_ex r h.2
    exact ⟨u ++ v, by simp only [WB]; exact ⟨u, v, rfl, hu, hv⟩⟩
theorem WBs_ex {ns : List Str} : ∀ bs : List (List It), okBs ns bs → 0 < bs.length → ∃ b ∈ bs, ∃ w, WB b w
  | [], _, h => by simp at h
  | b :: r, h, _ => by
    simp only [okBs] at h
    obtain ⟨w, hw⟩ := WB_ex b h.1
    exact ⟨b, by simp, w, hw⟩
end
theorem star_all {L : List Str → Prop} {S : List Str} (h : ∀ w, L w → ∀ x ∈ w, x ∈ S) {w : List Str} (s : Star L w) : ∀ x ∈ w, x ∈ S := by
  induction s with
  | nil => intro x hx; cases hx
  | snoc _ hl _ ih =>
    intro x hx
    rcases List.mem_append.mp hx with hx | hx
    · exact ih x hx
    · exact h _ hl x hx
mutual
theorem WI_nm : ∀ (i : It) (w : List Str), WI i w → ∀ x ∈ w, x ∈ nmI i
  | .call y, w, h, x, hx => by
    simp only [WI] at h
    subst h
    simpa [nmI] using hx
  | .may b, w, h, x, hx => by
    simp only [WI] at h
    simp only [nmI]
    rcases h with rfl | h
    · cases hx
    · exact WB_nm b w h x hx
  | .loop b, w, h, x, hx => by
    simp only [WI] at h
    simp only [nmI]
    exact star_all (fun w hw => WB_nm b w hw) h x hx
  | .one bs, w, h, x, hx => by
    simp only [WI] at h
    simp only [nmI]
    exact WBs_nm bs w h x hx
theorem WB_nm : ∀ (l : List It) (w : List Str), WB l w → ∀ x ∈ w, x ∈ nmB l
  | [], w, h, x, hx => by
    simp only [WB] at h
    subst h
    cases hx
  | i :: r, w, h, x, hx => by
    simp only [WB] at h
    obtain ⟨u, v, rfl, h1, h2⟩ := h
    simp only [nmB, List.mem_append]
    rcases List.mem_append.mp hx with hx | hx
    · exact .inl (WI_nm i u h1 x hx)
    · exact .inr (WB_nm r v h2 x hx)
theorem WBs_nm : ∀ (bs : List (List It)) (w : List Str), WBs bs w → ∀ x ∈ w, x ∈ nmBs bs
  | [], w, h, x, hx => by simp [WBs] at h
  | b :: r, w, h, x, hx => by
    simp only [WBs] at h
    simp only [nmBs, List.mem_append]
    rcases h with h | h
    · exact .inl (WB_nm b w h x hx)
    · exact .inr (WBs_nm r w h x hx)
end
mutual
/-- each name of a body stands in one of its words -/
theorem WI_has {ns : List Str} : ∀ i : It, okI ns i → ∀ x ∈ nmI i, ∃ w, WI i w ∧ x ∈ w
  | .call y, _, x, hx => ⟨[y], by simp only [WI], by simpa [nmI] using hx⟩
  | .may b, h, x, hx => by
    simp only [okI] at h
    obtain ⟨w, h1, h2⟩ := WB_has b h.2 x (by simpa [nmI] using hx)
    exact ⟨w, by simp only [WI]; exact .inr h1, h2⟩
  | .loop b, h, x, hx => by
    simp only [okI] at h
    obtain ⟨w, h1, h2⟩ := WB_has b h.2 x (by simpa [nmI] using hx)
    refine ⟨[] ++ w, ?_, by simpa using h2⟩
    simp only [WI]
    exact .snoc .nil h1 (List.ne_nil_of_mem h2)
  | .one bs, h, x, hx => by
    simp only [okI] at h
    obtain ⟨w, h1, h2⟩ := WBs_has bs h.2.2.2 x (by simpa [nmI] using hx)
    exact ⟨w, by simp only [WI]; exact h1, h2⟩
theorem WB_has {ns : List Str} : ∀ l : List It, okB ns l → ∀ x ∈ nmB l, ∃ w, WB l w ∧ x ∈ w
  | [], _, x, hx => by simp [nmB] at hx
  | i :: r, h, x, hx => by
    simp only [okB] at h
    simp only [nmB, List.mem_append] at hx
    rcases hx with hx | hx
    · obtain ⟨w, h1, h2⟩ := WI_has i h.1 x hx
      obtain ⟨v, hv⟩ := WB_ex r h.2
      exact ⟨w ++ v, by simp only [WB]; exact ⟨w, v, rfl, h1, hv⟩, List.mem_append_left _ h2⟩
    · obtain ⟨w, h1, h2⟩ := WB_has r h.2 x hx
      obtain ⟨v, hv⟩ := WI_ex i h.1
      exact ⟨v ++ w, by simp only [WB]; exact ⟨v, w, rfl, hv, h1⟩, List.mem_append_right _ h2⟩
theorem WBs_has {ns : List Str} : ∀ bs : List (List It), okBs ns bs → ∀ x ∈ nmBs bs, ∃ w, WBs bs w ∧ x ∈ w
  | [], _, x, hx => by simp [nmBs] at hx
  | b :: r, h, x, hx => by
    simp only [okBs] at h
    simp only [nmBs, List.mem_append] at hx
    rcases hx with hx | hx
    · obtain ⟨w, h1, h2⟩ := WB_has b h.1 x hx
      exact ⟨w, by simp only [WBs]; exact .inl h1, h2⟩
    · obtain ⟨w, h1, h2⟩ := WBs_has r h.2 x hx
      exact ⟨w, by simp only [WBs]; exact .inr h1, h2⟩
end
theorem star_sub {L : List Str → Prop} {S : List Str} (h : ∀ x ∈ S, ∃ w, L w ∧ x ∈ w) : ∀ (u : List Str), (∀ y ∈ u, y ∈ S) → ∃ w, Star L w ∧ u.Sublist w := by
  have key : ∀ (n : Nat) (u : List Str), u.length = n → (∀ y ∈ u, y ∈ S) → ∃ w, Star L w ∧ u.Sublist w := fun n => by
    induction n with
    | zero => intro u hu _; exact ⟨[], .nil, by rw [List.eq_nil_of_length_eq_zero hu]; exact .slnil⟩
    | succ n ih =>
      intro u hu hs
      rcases List.eq_nil_or_concat u with rfl | ⟨v, x, e⟩
      · simp at hu
      · rw [List.concat_eq_append] at e
        subst e
        obtain ⟨w, h1, h2⟩ := ih v (by simpa using hu) fun y hy => hs y (List.mem_append_left _ hy)
        obtain ⟨z, h3, h4⟩ := h x (hs x (by simp))
        exact ⟨w ++ z, .snoc h1 h3 (List.ne_nil_of_mem h4), h2.append (List.singleton_sublist.mpr h4)⟩
  exact fun u hs => key _ u rfl hs
mutual
/-- the products of an item tell its parts -/
theorem rawI_pt {ns : List Str} : ∀ i : It, okI ns i → ∀ u, LPs (rawI i) u ↔ PtI i u
  | .call x, _, u => by
    simp only [LPs, rawI, List.mem_singleton, PtI, WI]
    constructor
    · rintro ⟨p, rfl, v, w, e, h1, h2⟩
      have h2 : w = [] := h2
      subst h2
      rw [List.append_nil] at e
      subst e
      refine ⟨[x], rfl, ?_⟩
      rcases h1 with rfl | rfl
      · exact List.nil_sublist _
      · exact List.Sublist.refl _
    · rintro ⟨w, rfl, s⟩
      refine ⟨_, rfl, u, [], by simp, ?_, rfl⟩
      rcases sub1 s with h | h
      · exact .inl h
      · exact .inr h
  | .may b, h, u => by
    simp only [okI] at h
    simp only [rawI]
    rw [rawB_pt b h.2 [[]] u]
    constructor
    · rintro ⟨v, w, rfl, ⟨p, hp, h1⟩, z, h2, s⟩
      rw [List.mem_singleton.mp hp] at h1
      have h1 : v = [] := h1
      subst h1
      exact ⟨z, by simp only [WI]; exact .inr h2, s⟩
    · rintro ⟨w, hw, s⟩
      simp only [WI] at hw
      rcases hw with rfl | hw
      · obtain ⟨z, hz⟩ := WB_ex b h.2
        exact ⟨[], [], by rw [List.sublist_nil.mp s]; rfl, ⟨[], by simp, rfl⟩, z, hz, List.nil_sublist _⟩
      · exact ⟨[], u, rfl, ⟨[], by simp, rfl⟩, w, hw, s⟩
  | .loop b, h, u => by
    simp only [okI] at h
    simp only [LPs, rawI, List.mem_singleton, PtI, WI]
    have tl := asc_tells (nmB b)
    constructor
    · rintro ⟨p, rfl, v, w, e, h1, h2⟩
      have h2 : w = [] := h2
      subst h2
      rw [List.append_nil] at e
      subst e
      exact star_sub (WB_has b h.2) u fun y hy => (tl.mem y).mp (h1 y hy)
    · rintro ⟨w, hw, s⟩
      exact ⟨_, rfl, u, [], by simp, fun y hy => (tl.mem y).mpr (star_all (fun w hw => WB_nm b w hw) hw y (s.subset hy)), rfl⟩
  | .one bs, h, u => by
    simp only [okI] at h
    simp only [rawI]
    rw [rawBs_pt bs h.2.2.2 u]
    simp only [PtI, WI]
    constructor
    · rintro ⟨b, hb, w, hw, s⟩
      exact ⟨w, WBs_iff.mpr ⟨b, hb, hw⟩, s⟩
    · rintro ⟨w, hw, s⟩
      obtain ⟨b, hb, hw⟩ := WBs_iff.mp hw
      exact ⟨b, hb, w, hw, s⟩
theorem rawB_pt {ns : List Str} : ∀ l : List It, okB ns l → ∀ (acc : List Prd) (u : List Str), LPs (rawB l acc) u ↔ ∃ v w, u = v ++ w ∧ LPs acc v ∧ Pt l w
  | [], _, acc, u => by
    simp only [rawB]
    constructor
    · intro h
      exact ⟨u, [], by simp, h, [], by simp only [WB], .slnil⟩
    · rintro ⟨v, w, rfl, h, z, hz, s⟩
      simp only [WB] at hz
      subst hz
      rw [List.sublist_nil.mp s, List.append_nil]
      exact h
  | i :: r, h, acc, u => by
    simp only [okB] at h
    simp only [rawB]
    rw [rawB_pt r h.2]
    constructor
    · rintro ⟨v, w, rfl, h1, h2⟩
      obtain ⟨v1, v2, rfl, h3, h4⟩ := LPs_cross.mp h1
      exact ⟨v1, v2 ++ w, by rw [List.append_assoc], h3, Pt_cons.mpr ⟨v2, w, rfl, (rawI_pt i h.1 v2).mp h4, h2⟩⟩
    · rintro ⟨v, w, rfl, h1, h2⟩
      obtain ⟨v2, w2, rfl, h3, h4⟩ := Pt_cons.mp h2
      exact ⟨v ++ v2, w2, by rw [List.append_assoc], LPs_cross.mpr ⟨v, v2, rfl, h1, (rawI_pt i h.1 v2).mpr h3⟩, h4⟩
theorem rawBs_pt {ns : List Str} : ∀ bs : List (List It), okBs ns bs → ∀ u, LPs (rawBs bs) u ↔ ∃ b ∈ bs, Pt b u
  | [], _, u => by simp [LPs, rawBs]
  | b :: r, h, u => by
    simp only [okBs] at h
    have h1 := rawB_pt b h.1 [[]] u
    have h2 := rawBs_pt r h.2 u
    have h3 : LPs (rawB b [[]]) u ↔ Pt b u := by
      rw [h1]
      constructor
      · rintro ⟨v, w, rfl, ⟨p, hp, h⟩, k⟩
        rw [List.mem_singleton.mp hp] at h
        have h : v = [] := h
        subst h
        exact k
      · intro k
        exact ⟨[], u, rfl, ⟨[], by simp, rfl⟩, k⟩
    constructor
    · rintro ⟨p, hp, h⟩
      simp only [rawBs] at hp
      rcases List.mem_append.mp hp with hp | hp
      · exact ⟨b, by simp, h3.mp ⟨p, hp, h⟩⟩
      · obtain ⟨c, hc, k⟩ := h2.mp ⟨p, hp, h⟩
        exact ⟨c, List.mem_cons_of_mem _ hc, k⟩
    · rintro ⟨c, hc, k⟩
      simp only [rawBs]
      rcases List.mem_cons.mp hc with rfl | hc
      · obtain ⟨p, hp, h⟩ := h3.mpr k
        exact ⟨p, List.mem_append_left _ hp, h⟩
      · obtain ⟨p, hp, h⟩ := h2.mpr ⟨c, hc, k⟩
        exact ⟨p, List.mem_append_right _ hp, h⟩
end
/-! ### words in products -/
def pw (u : List Str) : Prd := u.map Atm.n
theorem dropW_sub {c : Str → Bool} {u : List Str} : ∀ {v w : List Str}, u = v ++ w → (∀ y ∈ v, c y = true) → (u.dropWhile c).Sublist w
  | [], w, e, _ => by
    subst e
    exact List.dropWhile_sublist _
  | y :: v, w, e, h => by
    subst e
    rw [List.cons_append, List.dropWhile_cons_of_pos (h y (by simp))]
    exact dropW_sub (u := v ++ w) rfl fun z hz => h z (List.mem_cons_of_mem _ hz)
theorem takeW_all {c : Str → Bool} : ∀ (u : List Str) (y : Str), y ∈ u.takeWhile c → c y = true
  | [], y, h => by simp at h
  | x :: u, y, h => by
    by_cases e : c x = true
    · rw [List.takeWhile_cons_of_pos e] at h
      rcases List.mem_cons.mp h with rfl | h
      · exact e
      · exact takeW_all u y h
    · rw [List.takeWhile_cons_of_neg e] at h
      cases h
theorem pw_drop (ys : List Str) : ∀ u : List Str, (pw u).dropWhile (fun a => isW a (.t ys)) = pw (u.dropWhile fun y => decide (y ∈ ys))
  | [] => rfl
  | y :: u => by
    have e : isW (.n y) (.t ys) = decide (y ∈ ys) := by simp [isW, Atm.nms]
    unfold pw
    rw [List.map_cons, List.dropWhile_cons, List.dropWhile_cons, e]
    by_cases h : decide (y ∈ ys) = true
    · rw [if_pos h, if_pos h]
      exact pw_drop ys u
    · rw [if_neg h, if_neg h]
      rfl
/-- the greedy walk of a word through a product -/
theorem within_pw : ∀ (q : Prd) (u : List Str), within (pw u) q = true ↔ LP q u
  | [], u => by
    simp only [within, eat, LP]
    cases u with
    | nil => simp [pw]
    | cons y u => simp [pw]
  | .n y :: q, u => by
    have ih := within_pw q
    unfold within at ih ⊢
    cases u with
    | nil =>
      simp only [pw, List.map_nil, eat]
      have := ih []
      simp only [pw, List.map_nil] at this
      rw [this]
      exact ⟨fun _ => LP.nil _, fun _ => LP.nil _⟩
    | cons x u =>
      simp only [pw, List.map_cons, eat, isW]
      by_cases e : x = y
      · subst e
        simp only [decide_true, if_true]
        have := ih u
        unfold pw at this
        rw [this]
        constructor
        · intro h
          exact ⟨[x], u, rfl, .inr rfl, h⟩
        · rintro ⟨v, w, e, h1, h2⟩
          rcases h1 with rfl | rfl
          · rw [List.nil_append] at e
            subst e
            exact h2.sub (List.sublist_cons_self _ _)
          · cases e
            exact h2
      · have : ¬ (Atm.n x = Atm.n y) := fun z => e (by cases z; rfl)
        simp only [this, decide_false, Bool.false_eq_true, if_false]
        have := ih (x :: u)
        unfold pw at this
        rw [List.map_cons] at this
        rw [this]
        constructor
        · intro h
          exact ⟨[], x :: u, rfl, .inl rfl, h⟩
        · rintro ⟨v, w, e2, h1, h2⟩
          rcases h1 with rfl | rfl
          · rw [List.nil_append] at e2
            rw [e2]
            exact h2
          · cases e2
            exact absurd rfl e
  | .t ys :: q, u => by
    have ih := within_pw q
    unfold within at ih ⊢
    simp only [eat]
    rw [pw_drop, ih]
    constructor
    · intro h
      refine ⟨u.takeWhile fun y => decide (y ∈ ys), _, (List.takeWhile_append_dropWhile).symm, fun y hy => ?_, h⟩
      simpa using takeW_all u y hy
    · rintro ⟨v, w, e, h1, h2⟩
      exact h2.sub (dropW_sub e fun y hy => by simpa using h1 y hy)
theorem prdIn_pw {ps : List Prd} {u : List Str} : prdIn ps (pw u) = true ↔ LPs ps u := by
  unfold prdIn LPs
  rw [List.any_eq_true]
  exact ⟨fun ⟨p, hp, h⟩ => ⟨p, hp, (within_pw p u).mp h⟩, fun ⟨p, hp, h⟩ => ⟨p, hp, (within_pw p u).mpr h⟩⟩
/-! ### products within others: soundness -/
theorem isW_la {a o : Atm} (h : isW a o = true) {u : List Str} (k : LA a u) : LA o u := by
  cases o with
  | n y =>
    simp only [isW, decide_eq_true_eq] at h
    rw [← h]
    exact k
  | t ys =>
    simp only [isW, List.all_eq_true, decide_eq_true_eq] at h
    intro y hy
    cases a with
    | n x =>
      rcases k with rfl | rfl
      · cases hy
      · rw [List.mem_singleton.mp hy]
        exact h x (by simp [Atm.nms])
    | t xs => exact h y (k y hy)
theorem eat_lp : ∀ (q p : Prd) {u : List Str}, LP p u → ∃ v w, u = v ++ w ∧ LP q v ∧ LP (eat p q) w
  | [], p, u, h => ⟨[], u, rfl, rfl, h⟩
  | .n y :: q, p, u, h => by
    cases p with
    | nil =>
      have h' : u = [] := h
      subst h'
      exact ⟨[], [], rfl, LP.nil _, LP.nil _⟩
    | cons a r =>
      simp only [eat]
      by_cases c : isW a (.n y) = true
      · rw [if_pos c]
        obtain ⟨v, w, rfl, h1, h2⟩ := h
        obtain ⟨v2, w2, rfl, h3, h4⟩ := eat_lp q r h2
        exact ⟨v ++ v2, w2, by rw [List.append_assoc], ⟨v, v2, rfl, isW_la c h1, h3⟩, h4⟩
      · rw [if_neg c]
        obtain ⟨v2, w2, rfl, h3, h4⟩ := eat_lp q (a :: r) h
        exact ⟨v2, w2, rfl, ⟨[], v2, rfl, LA.nil _, h3⟩, h4⟩
  | .t ys :: q, p, u, h => by
    simp only [eat]
    have key : ∀ (p : Prd) (u : List Str), LP p u → ∃ v w, u = v ++ w ∧ LA (.t ys) v ∧ LP (p.dropWhile fun a => isW a (.t ys)) w := fun p => by
      induction p with
      | nil => intro u h; exact ⟨[], u, rfl, LA.nil _, h⟩
      | cons a r ih =>
        intro u h
        by_cases c : isW a (.t ys) = true
        · rw [List.dropWhile_cons, if_pos c]
          obtain ⟨v, w, rfl, h1, h2⟩ := h
          obtain ⟨v2, w2, rfl, h3, h4⟩ := ih w h2
          have h5 := isW_la c h1
          exact ⟨v ++ v2, w2, by rw [List.append_assoc], fun y hy => (List.mem_append.mp hy).elim (h5 y) (h3 y), h4⟩
        · rw [List.dropWhile_cons, if_neg c]
          exact ⟨[], u, rfl, LA.nil _, h⟩
    obtain ⟨v, w, rfl, h1, h2⟩ := key p u h
    obtain ⟨v2, w2, rfl, h3, h4⟩ := eat_lp q _ h2
    exact ⟨v ++ v2, w2, by rw [List.append_assoc], ⟨v, v2, rfl, h1, h3⟩, h4⟩
theorem within_lp {p q : Prd} (h : within p q = true) {u : List Str} (k : LP p u) : LP q u := by
  obtain ⟨v, w, rfl, h1, h2⟩ := eat_lp q p k
  unfold within at h
  have e : eat p q = [] := List.isEmpty_iff.mp h
  rw [e] at h2
  have h2 : w = [] := h2
  rw [h2, List.append_nil]
  exact h1
end FA

set_option Elab.async false
set_option linter.all false
set_option maxRecDepth 100000
set_option maxHeartbeats 2000000
/-! Idle atoms; one product within another as an order. -/
namespace FA
open PySem PySem.Spec PyProof.Rows L2
theorem LP_one {a : Atm} {u : List Str} : LP [a] u ↔ LA a u := by
  constructor
  · rintro ⟨v, w, rfl, h1, h2⟩
    have h2 : w = [] := h2
    rw [h2, List.append_nil]
    exact h1
  · intro h
    exact ⟨u, [], by simp, h, rfl⟩
theorem LP_congr {p p' q q' : Prd} (h : ∀ u, LP p u ↔ LP p' u) (k : ∀ u, LP q u ↔ LP q' u) {u : List Str} : LP (p ++ q) u ↔ LP (p' ++ q') u := by
  rw [LP_app, LP_app]
  constructor
  · rintro ⟨v, w, e, h1, h2⟩
    exact ⟨v, w, e, (h v).mp h1, (k w).mp h2⟩
  · rintro ⟨v, w, e, h1, h2⟩
    exact ⟨v, w, e, (h v).mpr h1, (k w).mpr h2⟩
/-- an atom ahead of a tuple that holds it tells nothing -/
theorem LP_ahead {a : Atm} {ys : List Str} (h : isW a (.t ys) = true) (u : List Str) : LP [a, .t ys] u ↔ LP [.t ys] u := by
  constructor
  · rintro ⟨v, w, rfl, h1, h2⟩
    rw [LP_one] at h2 ⊢
    have h3 := isW_la h h1
    exact fun y hy => (List.mem_append.mp hy).elim (h3 y) (h2 y)
  · intro k
    exact ⟨[], u, rfl, LA.nil _, k⟩
theorem LP_behind {a : Atm} {ys : List Str} (h : isW a (.t ys) = true) (u : List Str) : LP [.t ys, a] u ↔ LP [.t ys] u := by
  constructor
  · rintro ⟨v, w, rfl, h1, h2⟩
    rw [LP_one] at h2 ⊢
    have h3 := isW_la h h2
    exact fun y hy => (List.mem_append.mp hy).elim (h1 y) (h3 y)
  · intro k
    rw [LP_one] at k
    exact ⟨u, [], by simp, k, LP.nil _⟩
theorem LP_pop (ys : List Str) : ∀ (kept : List Atm) (u : List Str), LP ((kept.dropWhile fun b => isW b (.t ys)).reverse ++ [.t ys]) u ↔ LP (kept.reverse ++ [.t ys]) u
  | [], u => by simp
  | b :: r, u => by
    by_cases c : isW b (.t ys) = true
    · rw [List.dropWhile_cons, if_pos c, LP_pop ys r u, List.reverse_cons, List.append_assoc]
      exact (LP_congr (fun _ => Iff.rfl) (fun v => LP_ahead c v)).symm
    · rw [List.dropWhile_cons, if_neg c]
theorem LP_put {a : Atm} {k : List Atm} {u : List Str} : LP ((putI a k).reverse) u ↔ LP (k.reverse ++ [a]) u := by
  unfold putI
  split
  · rename_i ys k'
    split
    · rename_i c
      rw [List.reverse_cons, List.append_assoc]
      exact (LP_congr (fun _ => Iff.rfl) (fun v => LP_behind c v)).symm
    · rw [List.reverse_cons]
  · rw [List.reverse_cons]
theorem idleR_lp : ∀ (p kept : List Atm) (u : List Str), LP ((idleR kept p).reverse) u ↔ LP (kept.reverse ++ p) u
  | [], kept, u => by simp [idleR]
  | a :: r, kept, u => by
    simp only [idleR]
    rw [idleR_lp r]
    have e : kept.reverse ++ a :: r = (kept.reverse ++ [a]) ++ r := by simp
    rw [e]
    refine LP_congr (fun v => ?_) (fun _ => Iff.rfl)
    rw [LP_put]
    cases a with
    | n x => exact Iff.rfl
    | t ys => exact LP_pop ys kept v
theorem idle_lp (p : Prd) (u : List Str) : LP (idle p) u ↔ LP p u := by
  unfold idle
  rw [idleR_lp]
  simp
/-! ### one product within another -/
inductive Emb : Prd → Prd → Prop
  | nil {q : Prd} : Emb [] q
  | skip {p q : Prd} {b : Atm} : Emb p q → Emb p (b :: q)
  | name {p q : Prd} {y : Str} : Emb p q → Emb (.n y :: p) (.n y :: q)
  | tup {p q : Prd} {a : Atm} {ys : List Str} : isW a (.t ys) = true → Emb p (.t ys :: q) → Emb (a :: p) (.t ys :: q)
theorem emb_eat : ∀ (q p : Prd), eat p q = [] → Emb p q
  | [], p, h => by
    simp only [eat] at h
    rw [h]
    exact .nil
  | .n y :: q, p, h => by
    simp only [eat] at h
    cases p with
    | nil => exact .nil
    | cons a r =>
      by_cases c : isW a (.n y) = true
      · have e : a = .n y := by simpa [isW] using c
        simp only [c, if_true] at h
        rw [e]
        exact .name (emb_eat q r h)
      · rw [Bool.not_eq_true] at c
        simp only [c, Bool.false_eq_true, if_false] at h
        exact .skip (emb_eat q _ h)
  | .t ys :: q, p, h => by
    simp only [eat] at h
    have key : ∀ p : Prd, eat (p.dropWhile fun a => isW a (.t ys)) q = [] → Emb p (.t ys :: q) := fun p => by
      induction p with
      | nil => intro _; exact .nil
      | cons a r ih =>
        intro h
        by_cases c : isW a (.t ys) = true
        · rw [List.dropWhile_cons, if_pos c] at h
          exact .tup c (ih h)
        · rw [List.dropWhile_cons, if_neg c] at h
          exact .skip (emb_eat q _ h)
    exact key p h
theorem emb_of {p q : Prd} (h : within p q = true) : Emb p q := emb_eat q p (List.isEmpty_iff.mp h)
theorem Emb.tail {a : Atm} {p q : Prd} (h : Emb (a :: p) q) : Emb p q := by
  generalize e : a :: p = r at h
  induction h with
  | nil => cases e
  | skip _ ih => exact .skip (ih e)
  | name h _ => cases e; exact .skip h
  | tup _ h _ => cases e; exact h
theorem isW_trans {a b c : Atm} (h : isW a b = true) (k : isW b c = true) : isW a c = true := by
  cases c with
  | n z =>
    simp only [isW, decide_eq_true_eq] at k
    subst k
    exact h
  | t zs =>
    simp only [isW, List.all_eq_true, decide_eq_true_eq] at k ⊢
    intro x hx
    cases b with
    | n y =>
      simp only [isW, decide_eq_true_eq] at h
      subst h
      exact k x hx
    | t ys =>
      simp only [isW, List.all_eq_true, decide_eq_true_eq] at h
      exact k x (h x hx)
theorem Emb.empty {p : Prd} (h : Emb p []) : p = [] := by cases h; rfl
theorem Emb.trans {q r : Prd} (k : Emb q r) : ∀ {p : Prd}, Emb p q → Emb p r := by
  induction k with
  | nil => intro p h; rw [h.empty]; exact .nil
  | skip _ ih => intro p h; exact .skip (ih h)
  | name _ ih =>
    intro p h
    cases h with
    | nil => exact .nil
    | skip h => exact .skip (ih h)
    | name h => exact .name (ih h)
  | @tup q1 r1 a ys c k ih =>
    intro p h
    generalize e : a :: q1 = s at h
    induction h with
    | nil => exact .nil
    | skip h _ => cases e; exact ih h
    | name h _ => cases e; exact .tup c (ih h)
    | tup c2 h ih2 => cases e; exact .tup (isW_trans c2 c) (ih2 rfl)
theorem Emb.trans' {p q r : Prd} (h : Emb p q) (k : Emb q r) : Emb p r := k.trans h
/-- no atom stands beside a tuple that holds it -/
def NoIdle : Prd → Prop
  | [] => True
  | [_] => True
  | a :: b :: r => (∀ ys, b = .t ys → isW a b = false) ∧ (∀ xs, a = .t xs → isW b a = false) ∧ NoIdle (b :: r)
theorem NoIdle.tail {a : Atm} {r : Prd} (h : NoIdle (a :: r)) : NoIdle r := by
  cases r with
  | nil => trivial
  | cons b r => exact h.2.2
theorem no_shift : ∀ {q : Prd} {b : Atm}, NoIdle (b :: q) → ¬ Emb (b :: q) q
  | [], b, _, h => by cases h
  | c :: q, b, n, h => by
    cases h with
    | skip h => exact no_shift n.tail h.tail
    | name h => exact no_shift n.tail h
    | tup e h =>
      have := n.1 _ rfl
      rw [e] at this
      cases this
/-- a tuple's names ascend -/
def AscA : Atm → Prop
  | .n _ => True
  | .t ys => Tells ys ys
theorem isW_anti {a b : Atm} (ha : AscA a) (hb : AscA b) (h : isW a b = true) (k : isW b a = true) : a = b := by
  cases a with
  | n x =>
    simp only [isW, decide_eq_true_eq] at k
    exact k.symm
  | t xs =>
    cases b with
    | n y => simp [isW] at h
    | t ys =>
      simp only [isW, Atm.nms, List.all_eq_true, decide_eq_true_eq] at h k
      have : xs = ys := Tells.one ha hb fun x => ⟨h x, k x⟩
      rw [this]
theorem emb_anti : ∀ {p q : Prd}, NoIdle p → NoIdle q → (∀ a ∈ p, AscA a) → (∀ a ∈ q, AscA a) → Emb p q → Emb q p → p = q
  | [], q, _, _, _, _, _, k => by rw [k.empty]
  | a :: p, [], _, _, _, _, h, _ => by cases h
  | a :: p, b :: q, np, nq, ap, aq, h, k => by
    have h2 : ∀ {p' q' : Prd} {c d : Atm}, NoIdle (c :: p') → NoIdle (d :: q') → Emb (d :: q') (c :: p') → ¬ Emb (c :: p') q' := fun n1 n2 k2 h3 => no_shift n2 (h3.trans k2)
    have ap' : ∀ c ∈ p, AscA c := fun c hc => ap c (List.mem_cons_of_mem _ hc)
    have aq' : ∀ c ∈ q, AscA c := fun c hc => aq c (List.mem_cons_of_mem _ hc)
    -- behind a tuple nothing is taken by it
    have off : ∀ {r s : Prd} {ys : List Str}, NoIdle (.t ys :: r) → Emb r (.t ys :: s) → Emb r s := fun {r s ys} n h => by
      cases h with
      | nil => exact .nil
      | skip h => exact h
      | tup e h =>
        have := n.2.1 _ rfl
        rw [e] at this
        cases this
    cases h with
    | skip h => exact absurd h (h2 np nq k)
    | name h =>
      cases k with
      | skip k => exact absurd k (h2 nq np (.name h))
      | name k => rw [emb_anti np.tail nq.tail ap' aq' h k]
    | @tup _ _ _ ys e h =>
      cases k with
      | skip k => exact absurd k (h2 nq np (.tup e h))
      | @tup _ _ _ xs e2 k =>
        have eab := isW_anti (ap _ (by simp)) (aq _ (by simp)) e e2
        cases eab
        rw [emb_anti np.tail nq.tail ap' aq' (off np h) (off nq k)]
/-! ### without idle atoms -/
def Adj (a b : Atm) : Prop := (∀ ys, b = .t ys → isW a b = false) ∧ (∀ xs, a = .t xs → isW b a = false)
theorem noIdle_iff : ∀ {l : Prd}, NoIdle l ↔ ∀ i a b, l[i]? = some a → l[i + 1]? = some b → Adj a b
  | [] => by simp [NoIdle]
  | [c] => by simp [NoIdle]
  | c :: d :: r => by
    have ih := noIdle_iff (l := d :: r)
    simp only [NoIdle]
    constructor
    · rintro ⟨h1, h2, h3⟩ i a b ha hb
      cases i with
      | zero =>
        simp at ha hb
        subst ha
        subst hb
        exact ⟨h1, h2⟩
      | succ i => exact ih.mp h3 i a b (by simpa using ha) (by simpa using hb)
    · intro h
      obtain ⟨h1, h2⟩ := h 0 c d (by simp) (by simp)
      exact ⟨h1, h2, ih.mpr fun i a b ha hb => h (i + 1) a b (by simpa using ha) (by simpa using hb)⟩
theorem noIdle_rev {l : Prd} (h : NoIdle l) : NoIdle l.reverse := by
  rw [noIdle_iff] at h ⊢
  intro i a b ha hb
  have hi : i + 1 < l.length := by
    have := (List.getElem?_eq_some_iff.mp hb).1
    rwa [List.length_reverse] at this
  rw [List.getElem?_reverse (by omega)] at ha
  rw [List.getElem?_reverse hi] at hb
  have e : l.length - 1 - i = (l.length - 1 - (i + 1)) + 1 := by omega
  rw [e] at ha
  obtain ⟨h1, h2⟩ := h _ b a hb ha
  exact ⟨h2, h1⟩
theorem noIdle_drop {c : Atm → Bool} : ∀ {l : Prd}, NoIdle l → NoIdle (l.dropWhile c)
  | [], h => h
  | a :: r, h => by
    rw [List.dropWhile_cons]
    split
    · exact noIdle_drop h.tail
    · exact h
theorem idleR_no : ∀ (p kept : List Atm), NoIdle kept → NoIdle (idleR kept p)
  | [], kept, h => by simpa [idleR] using h
  | a :: r, kept, h => by
    simp only [idleR]
    refine idleR_no r _ ?_
    have hp : NoIdle (popI a kept) := by
      cases a with
      | n x => exact h
      | t ys => exact noIdle_drop h
    have hs : ∀ b r', popI a kept = b :: r' → ∀ ys, a = .t ys → isW b a = false := by
      intro b r' e ys ea
      subst ea
      have e : kept.dropWhile (fun b => isW b (.t ys)) = b :: r' := e
      have key : ∀ l : List Atm, l.dropWhile (fun b => isW b (.t ys)) = b :: r' → isW b (.t ys) = false := fun l => by
        induction l with
        | nil => intro z; cases z
        | cons c l ih =>
          intro z
          rw [List.dropWhile_cons] at z
          split at z
          · exact ih z
          · rename_i hc
            cases z
            simpa using hc
      exact key kept e
    generalize popI a kept = k at hp hs
    unfold putI
    split
    · rename_i ys k'
      split
      · exact hp
      · rename_i hc
        exact ⟨fun _ e => by simpa using hc, fun xs e => hs _ _ rfl xs e, hp⟩
    · rename_i hk
      cases k with
      | nil => trivial
      | cons b k' =>
        refine ⟨fun ys e => ?_, fun xs e => hs _ _ rfl xs e, hp⟩
        subst e
        exact absurd rfl (hk ys k')
theorem idle_no (p : Prd) : NoIdle (idle p) := noIdle_rev (idleR_no p [] trivial)
theorem Emb.refl : ∀ p : Prd, Emb p p
  | [] => .nil
  | .n y :: p => .name (Emb.refl p)
  | .t ys :: p => .tup (by simp [isW, Atm.nms]) (.skip (Emb.refl p))
/-! ### a normal form has the same words -/
theorem byText_in {ss : List Prd} {s : Prd} (h : s ∈ ss) : byText ss (prdText s) ∈ ss ∧ prdText (byText ss (prdText s)) = prdText s := by
  unfold byText
  cases e : ss.reverse.find? (fun p => decide (prdText p = prdText s)) with
  | none =>
    have := List.find?_eq_none.mp e s (List.mem_reverse.mpr h)
    simp at this
  | some p => exact ⟨List.mem_reverse.mp (List.mem_of_find?_eq_some e), by simpa using List.find?_some e⟩
theorem normal_lp {raw : List Prd} (asc1 : ∀ p ∈ raw, ∀ a ∈ p, AscA a) (inj : ∀ p ∈ raw, ∀ q ∈ raw, prdText (idle p) = prdText (idle q) → idle p = idle q) (u : List Str) : LPs (normal raw) u ↔ LPs raw u := by
  classical
  constructor
  · rintro ⟨q, hq, h⟩
    obtain ⟨p, hp, rfl⟩ := normal_sub hq
    exact ⟨p, hp, (idle_lp p u).mp h⟩
  · rintro ⟨p, hp, h⟩
    obtain ⟨ss, hss⟩ : ∃ ss, ss = raw.map idle := ⟨_, rfl⟩
    obtain ⟨ts, hts⟩ : ∃ ts, ts = asc (ss.map prdText) := ⟨_, rfl⟩
    have tl := asc_tells (ss.map prdText)
    rw [← hts] at tl
    have ssP : ∀ s ∈ ss, ∃ p ∈ raw, s = idle p := fun s hs => by
      rw [hss] at hs
      obtain ⟨p, hp, rfl⟩ := List.mem_map.mp hs
      exact ⟨p, hp, rfl⟩
    have ssA : ∀ s ∈ ss, NoIdle s ∧ ∀ a ∈ s, AscA a := fun s hs => by
      obtain ⟨p, hp, rfl⟩ := ssP s hs
      exact ⟨idle_no p, idle_all (asc1 p hp)⟩
    have ssI : ∀ s ∈ ss, ∀ t ∈ ss, prdText s = prdText t → s = t := fun s hs t ht e => by
      obtain ⟨p, hp, rfl⟩ := ssP s hs
      obtain ⟨q, hq, rfl⟩ := ssP t ht
      exact inj p hp q hq e
    have inS : ∀ x ∈ ts, byText ss x ∈ ss ∧ prdText (byText ss x) = x := fun x hx => by
      obtain ⟨s, hs, rfl⟩ := List.mem_map.mp ((tl.mem x).mp hx)
      exact byText_in hs
    -- going up ends
    have up : ∀ (n : Nat) (x : Str), x ∈ ts → (ts.filter fun z => decide (Emb (byText ss x) (byText ss z))).length ≤ n → LP (byText ss x) u → ∃ y ∈ ts, (ts.any fun z => !decide (z = y) && within (byText ss y) (byText ss z)) = false ∧ LP (byText ss y) u := fun n => by
      induction n with
      | zero =>
        intro x hx hn _
        have : x ∈ ts.filter fun z => decide (Emb (byText ss x) (byText ss z)) := List.mem_filter.mpr ⟨hx, decide_eq_true (Emb.refl _)⟩
        have := List.length_pos_of_mem this
        omega
      | succ n ih =>
        intro x hx hn hu
        cases hc : ts.any fun z => !decide (z = x) && within (byText ss x) (byText ss z) with
        | false => exact ⟨x, hx, hc, hu⟩
        | true =>
          obtain ⟨y, hy, hz⟩ := List.any_eq_true.mp hc
          rw [Bool.and_eq_true] at hz
          obtain ⟨h1, h2⟩ := hz
          have hne : y ≠ x := by simpa using h1
          have e := emb_of h2
          refine ih y hy ?_ (within_lp h2 hu)
          have sub : (ts.filter fun z => decide (Emb (byText ss y) (byText ss z))).length < (ts.filter fun z => decide (Emb (byText ss x) (byText ss z))).length := by
            have hx1 : x ∈ ts.filter fun z => decide (Emb (byText ss x) (byText ss z)) := List.mem_filter.mpr ⟨hx, decide_eq_true (Emb.refl _)⟩
            have hx2 : x ∉ ts.filter fun z => decide (Emb (byText ss y) (byText ss z)) := fun h => by
              have h3 := of_decide_eq_true (List.mem_filter.mp h).2
              obtain ⟨a1, a2⟩ := ssA _ (inS x hx).1
              obtain ⟨b1, b2⟩ := ssA _ (inS y hy).1
              have := emb_anti a1 b1 a2 b2 e h3
              exact hne (by rw [← (inS x hx).2, ← (inS y hy).2, this])
            have nd : (x :: ts.filter fun z => decide (Emb (byText ss y) (byText ss z))).Nodup := List.nodup_cons.mpr ⟨hx2, tl.nd.filter _⟩
            have := nd_le nd (b := ts.filter fun z => decide (Emb (byText ss x) (byText ss z))) fun z hz => by
              rcases List.mem_cons.mp hz with rfl | hz
              · exact hx1
              · obtain ⟨h3, h4⟩ := List.mem_filter.mp hz
                exact List.mem_filter.mpr ⟨h3, decide_eq_true (e.trans' (of_decide_eq_true h4))⟩
            rw [List.length_cons] at this
            omega
          omega
    have hs : idle p ∈ ss := by rw [hss]; exact List.mem_map.mpr ⟨p, hp, rfl⟩
    have hx : prdText (idle p) ∈ ts := (tl.mem _).mpr (List.mem_map.mpr ⟨_, hs, rfl⟩)
    have eb : byText ss (prdText (idle p)) = idle p := ssI _ (byText_in hs).1 _ hs (byText_in hs).2
    obtain ⟨y, hy, h1, h2⟩ := up _ _ hx (Nat.le_refl _) (by rw [eb]; exact (idle_lp p u).mpr h)
    refine ⟨byText ss y, ?_, h2⟩
    unfold normal
    simp only [← hss, ← hts]
    exact List.mem_map.mpr ⟨y, List.mem_filter.mpr ⟨hy, by rw [h1]; rfl⟩, rfl⟩
end FA

set_option Elab.async false
set_option linter.all false
set_option maxRecDepth 100000
set_option maxHeartbeats 2000000
/-! Products with the same text are the same. -/
namespace FA
open PySem PySem.Spec PyProof.Rows L2
def Ends' (c : Nat → Bool) (R : List Nat) : Prop := R = [] ∨ ∃ x r, R = x :: r ∧ c x = false
theorem cut_same {c : Nat → Bool} : ∀ {u v R S : List Nat}, (∀ x ∈ u, c x = true) → (∀ x ∈ v, c x = true) → Ends' c R → Ends' c S → u ++ R = v ++ S → u = v ∧ R = S
  | [], [], R, S, _, _, _, _, e => ⟨rfl, e⟩
  | [], y :: v, R, S, _, hv, hR, _, e => by
    rcases hR with rfl | ⟨x, r, rfl, hx⟩
    · cases e
    · simp only [List.nil_append, List.cons_append] at e
      cases e
      rw [hv _ (by simp)] at hx
      cases hx
  | y :: u, [], R, S, hu, _, _, hS, e => by
    rcases hS with rfl | ⟨x, r, rfl, hx⟩
    · cases e
    · simp only [List.nil_append, List.cons_append] at e
      cases e
      rw [hu _ (by simp)] at hx
      cases hx
  | x :: u, y :: v, R, S, hu, hv, hR, hS, e => by
    simp only [List.cons_append] at e
    injection e with e1 e2
    obtain ⟨h1, h2⟩ := cut_same (fun z hz => hu z (List.mem_cons_of_mem _ hz)) (fun z hz => hv z (List.mem_cons_of_mem _ hz)) hR hS e2
    exact ⟨by rw [e1, h1], h2⟩
def isLet (x : Nat) : Bool := decide (97 ≤ x ∧ x ≤ 122)
theorem okName.lets {x : Str} (h : okName x) : (∀ c ∈ TL.tl x, isLet c = true) ∧ TL.tl x ≠ [] := by
  refine ⟨fun c hc => decide_eq_true (h.2.2 c hc), fun e => ?_⟩
  have h1 := h.1
  have e2 : x.cps.toList = [] := e
  have : x.cps.size = 0 := by rw [← Array.length_toList, e2]; rfl
  have h3 : x.length = x.cps.size := rfl
  omega
def rst (l : List (List Nat)) : List Nat := match l with
  | [] => []
  | y :: r => 32 :: TL.joinL [32] (y :: r)
theorem join_rst (x : List Nat) (l : List (List Nat)) : TL.joinL [32] (x :: l) = x ++ rst l := by
  cases l with
  | nil => simp [TL.joinL, rst]
  | cons y r => rfl
theorem rst_ends (l : List (List Nat)) {c : Nat → Bool} (h : c 32 = false) : Ends' c (rst l) := by
  cases l with
  | nil => exact .inl rfl
  | cons y r => exact .inr ⟨32, _, rfl, h⟩
theorem rst_inj {α : Type} {f : α → List Nat} {p q : List α} (ih : TL.joinL [32] (p.map f) = TL.joinL [32] (q.map f) → p = q) (e : rst (p.map f) = rst (q.map f)) : p = q := by
  cases p with
  | nil =>
    cases q with
    | nil => rfl
    | cons b q => simp [rst] at e
  | cons a p =>
    cases q with
    | nil => simp [rst] at e
    | cons b q =>
      refine ih ?_
      simp only [List.map_cons, rst] at e ⊢
      injection e
theorem tl_inj {x y : Str} (h : TL.tl x = TL.tl y) : x = y := TL.ext_tl h
theorem words_inj : ∀ {xs ys : List Str}, (∀ x ∈ xs, okName x) → (∀ y ∈ ys, okName y) → TL.joinL [32] (xs.map TL.tl) = TL.joinL [32] (ys.map TL.tl) → xs = ys
  | [], [], _, _, _ => rfl
  | [], y :: ys, _, hy, e => by
    rw [List.map_cons, join_rst] at e
    have := (hy y (by simp)).lets.2
    have e' : ([] : List Nat) = TL.tl y ++ rst (ys.map TL.tl) := e
    exact absurd (List.append_eq_nil_iff.mp e'.symm).1 this
  | x :: xs, [], hx, _, e => by
    rw [List.map_cons, join_rst] at e
    have := (hx x (by simp)).lets.2
    have e' : TL.tl x ++ rst (xs.map TL.tl) = ([] : List Nat) := e
    exact absurd (List.append_eq_nil_iff.mp e').1 this
  | x :: xs, y :: ys, hx, hy, e => by
    rw [List.map_cons, List.map_cons, join_rst, join_rst] at e
    obtain ⟨h1, h2⟩ := cut_same (hx x (by simp)).lets.1 (hy y (by simp)).lets.1 (rst_ends _ (by decide)) (rst_ends _ (by decide)) e
    rw [tl_inj h1, rst_inj (words_inj (fun z hz => hx z (List.mem_cons_of_mem _ hz)) (fun z hz => hy z (List.mem_cons_of_mem _ hz))) h2]
def aT : Atm → List Nat
  | .n x => TL.tl x
  | .t xs => 123 :: (TL.joinL [32] (xs.map TL.tl) ++ [125])
theorem tl_sp : TL.tl (" " : Str) = [32] := by decide +kernel
theorem tl_atom (a : Atm) : TL.tl (atomText a) = aT a := by
  cases a with
  | n x => rfl
  | t xs =>
    show TL.tl (("{" : Str) ++ Txt.join " " xs ++ ("}" : Str)) = _
    rw [TL.tl_append, TL.tl_append, TL.join_eq, TL.tl_join, tl_sp]
    have e1 : TL.tl ("{" : Str) = [123] := by decide +kernel
    have e2 : TL.tl ("}" : Str) = [125] := by decide +kernel
    rw [e1, e2]
    rfl
def okA (a : Atm) : Prop := ∀ x ∈ a.nms, okName x
theorem join_off : ∀ {xs : List Str}, (∀ x ∈ xs, okName x) → ∀ c ∈ TL.joinL [32] (xs.map TL.tl), decide (c ≠ 125) = true
  | [], _, c, hc => by cases hc
  | x :: xs, h, c, hc => by
    rw [List.map_cons, join_rst] at hc
    rcases List.mem_append.mp hc with hc | hc
    · have := (h x (by simp)).lets.1 c hc
      simp only [isLet, decide_eq_true_eq] at this
      refine decide_eq_true ?_
      omega
    · cases xs with
      | nil => cases hc
      | cons y ys =>
        rcases List.mem_cons.mp hc with rfl | hc
        · decide
        · exact join_off (fun z hz => h z (List.mem_cons_of_mem _ hz)) c hc
theorem aT_head {a : Atm} (h : okA a) : ∃ c r, aT a = c :: r ∧ c ≠ 46 ∧ (isLet c = true ∨ c = 123) := by
  cases a with
  | n x =>
    obtain ⟨h1, h2⟩ := (h x (by simp [Atm.nms])).lets
    show ∃ c r, TL.tl x = c :: r ∧ _
    cases e : TL.tl x with
    | nil => exact absurd e h2
    | cons c r =>
      have := h1 c (by rw [e]; simp)
      refine ⟨c, r, rfl, ?_, .inl this⟩
      simp only [isLet, decide_eq_true_eq] at this
      omega
  | t xs => exact ⟨123, _, rfl, by decide, .inr rfl⟩
theorem atoms_inj : ∀ {p q : Prd}, (∀ a ∈ p, okA a) → (∀ a ∈ q, okA a) → TL.joinL [32] (p.map aT) = TL.joinL [32] (q.map aT) → p = q
  | [], [], _, _, _ => rfl
  | [], b :: q, _, hq, e => by
    rw [List.map_cons, join_rst] at e
    obtain ⟨c, r, e1, _⟩ := aT_head (hq b (by simp))
    rw [e1] at e
    cases e
  | a :: p, [], hp, _, e => by
    rw [List.map_cons, join_rst] at e
    obtain ⟨c, r, e1, _⟩ := aT_head (hp a (by simp))
    rw [e1] at e
    cases e
  | a :: p, b :: q, hp, hq, e => by
    rw [List.map_cons, List.map_cons, join_rst, join_rst] at e
    have hp' : ∀ c ∈ p, okA c := fun c hc => hp c (List.mem_cons_of_mem _ hc)
    have hq' : ∀ c ∈ q, okA c := fun c hc => hq c (List.mem_cons_of_mem _ hc)
    have ha := hp a (by simp)
    have hb := hq b (by simp)
    cases a with
    | n x =>
      cases b with
      | n y =>
        obtain ⟨h1, h2⟩ := cut_same (ha x (by simp [Atm.nms])).lets.1 (hb y (by simp [Atm.nms])).lets.1 (rst_ends _ (by decide)) (rst_ends _ (by decide)) e
        rw [tl_inj h1, rst_inj (atoms_inj hp' hq') h2]
      | t ys =>
        obtain ⟨h1, h2⟩ := (ha x (by simp [Atm.nms])).lets
        have e : TL.tl x ++ rst (p.map aT) = 123 :: (TL.joinL [32] (ys.map TL.tl) ++ [125]) ++ rst (q.map aT) := e
        cases e1 : TL.tl x with
        | nil => exact absurd e1 h2
        | cons c r =>
          have := h1 c (by rw [e1]; simp)
          rw [e1] at e
          simp only [List.cons_append] at e
          injection e with e2 _
          subst e2
          simp [isLet] at this
    | t xs =>
      cases b with
      | n y =>
        obtain ⟨h1, h2⟩ := (hb y (by simp [Atm.nms])).lets
        have e : 123 :: (TL.joinL [32] (xs.map TL.tl) ++ [125]) ++ rst (p.map aT) = TL.tl y ++ rst (q.map aT) := e
        cases e1 : TL.tl y with
        | nil => exact absurd e1 h2
        | cons c r =>
          have := h1 c (by rw [e1]; simp)
          rw [e1] at e
          simp only [List.cons_append] at e
          injection e with e2 _
          subst e2
          simp [isLet] at this
      | t ys =>
        have e : 123 :: (TL.joinL [32] (xs.map TL.tl) ++ [125]) ++ rst (p.map aT) = 123 :: (TL.joinL [32] (ys.map TL.tl) ++ [125]) ++ rst (q.map aT) := e
        simp only [List.cons_append, List.append_assoc, List.nil_append] at e
        injection e with _ e2
        obtain ⟨h1, h2⟩ := cut_same (c := fun c => decide (c ≠ 125)) (join_off ha) (join_off hb) (.inr ⟨125, _, rfl, by decide⟩) (.inr ⟨125, _, rfl, by decide⟩) e2
        injection h2 with _ h3
        have e4 : xs = ys := words_inj ha hb h1
        rw [e4, rst_inj (atoms_inj hp' hq') h3]
theorem prdText_inj {p q : Prd} (hp : ∀ a ∈ p, okA a) (hq : ∀ a ∈ q, okA a) (e : prdText p = prdText q) : p = q := by
  have key : ∀ r : Prd, r ≠ [] → TL.tl (prdText r) = TL.joinL [32] (r.map aT) := fun r hr => by
    unfold prdText
    have : r.isEmpty = false := by cases r with | nil => exact absurd rfl hr | cons _ _ => rfl
    rw [this, if_neg (by decide), TL.join_eq, TL.tl_join, tl_sp, List.map_map]
    congr 1
    exact List.map_congr_left fun a _ => tl_atom a
  have dot : TL.tl (prdText []) = [46] := by decide +kernel
  have off : ∀ r : Prd, (∀ a ∈ r, okA a) → r ≠ [] → TL.tl (prdText r) ≠ [46] := fun r h hr z => by
    rw [key r hr] at z
    cases r with
    | nil => exact hr rfl
    | cons a r =>
      rw [List.map_cons, join_rst] at z
      obtain ⟨c, s, e1, e2, _⟩ := aT_head (h a (by simp))
      rw [e1] at z
      simp only [List.cons_append] at z
      injection z with z1 _
      exact e2 z1
  have e' := congrArg TL.tl e
  by_cases h1 : p = []
  · subst h1
    by_cases h2 : q = []
    · exact h2.symm
    · rw [dot] at e'
      exact absurd e'.symm (off q hq h2)
  · by_cases h2 : q = []
    · subst h2
      rw [dot] at e'
      exact absurd e' (off p hp h1)
    · rw [key p h1, key q h2] at e'
      exact atoms_inj hp hq e'
/-! ### the products of a body tell its parts -/
theorem asc_self (l : List Str) : Tells (asc l) (asc l) := ⟨(asc_tells l).nd, (asc_tells l).so, fun _ => Iff.rfl⟩
theorem cross_asc {a b : List Prd} (ha : ∀ p ∈ a, ∀ c ∈ p, AscA c) (hb : ∀ p ∈ b, ∀ c ∈ p, AscA c) : ∀ p ∈ cross a b, ∀ c ∈ p, AscA c := fun p hp c hc => by
  obtain ⟨x, hx, y, hy, rfl⟩ := mem_cross.mp hp
  exact (List.mem_append.mp hc).elim (ha x hx c) (hb y hy c)
mutual
theorem rawI_asc : ∀ i : It, ∀ p ∈ rawI i, ∀ a ∈ p, AscA a
  | .call x, p, hp, a, ha => by
    simp only [rawI, List.mem_singleton] at hp
    subst hp
    rw [List.mem_singleton.mp ha]
    trivial
  | .may b, p, hp, a, ha => by
    simp only [rawI] at hp
    exact rawB_asc b [[]] (fun p hp a ha => by rw [List.mem_singleton.mp hp] at ha; cases ha) p hp a ha
  | .loop b, p, hp, a, ha => by
    simp only [rawI, List.mem_singleton] at hp
    subst hp
    rw [List.mem_singleton.mp ha]
    exact asc_self _
  | .one bs, p, hp, a, ha => by
    simp only [rawI] at hp
    exact rawBs_asc bs p hp a ha
theorem rawB_asc : ∀ (l : List It) (acc : List Prd), (∀ p ∈ acc, ∀ a ∈ p, AscA a) → ∀ p ∈ rawB l acc, ∀ a ∈ p, AscA a
  | [], acc, h, p, hp, a, ha => by
    simp only [rawB] at hp
    exact h p hp a ha
  | i :: r, acc, h, p, hp, a, ha => by
    simp only [rawB] at hp
    exact rawB_asc r _ (cross_asc h (rawI_asc i)) p hp a ha
theorem rawBs_asc : ∀ bs : List (List It), ∀ p ∈ rawBs bs, ∀ a ∈ p, AscA a
  | [], p, hp, a, ha => by simp [rawBs] at hp
  | b :: r, p, hp, a, ha => by
    simp only [rawBs] at hp
    rcases List.mem_append.mp hp with hp | hp
    · exact rawB_asc b [[]] (fun p hp a ha => by rw [List.mem_singleton.mp hp] at ha; cases ha) p hp a ha
    · exact rawBs_asc r p hp a ha
end
theorem empty_asc : ∀ p ∈ ([[]] : List Prd), ∀ a ∈ p, AscA a := fun p hp a ha => by
  rw [List.mem_singleton.mp hp] at ha
  cases ha
/-- the words of the normal form of a body's products are its parts -/
theorem NP_pt {ns : List Str} (hn : ∀ x ∈ ns, okName x) {l : List It} (ok : okB ns l) (c5 : nCB l ≤ 5) (u : List Str) : LPs (NP l) u ↔ Pt l u := by
  have okp : ∀ p ∈ rawB l [[]], ∀ a ∈ idle p, okA a := fun p hp => idle_all fun a ha => by
    have h := rawB_ok l [[]] 0 ok c5 (fun p hp => by rw [List.mem_singleton.mp hp]; exact .nil) p hp
    exact fun x hx => hn x ((h.2 a ha).1 x hx)
  unfold NP
  rw [normal_lp (rawB_asc l [[]] empty_asc) (fun p hp q hq e => prdText_inj (okp p hp) (okp q hq) e) u, rawB_pt l ok]
  constructor
  · rintro ⟨v, w, rfl, ⟨p, hp, h⟩, k⟩
    rw [List.mem_singleton.mp hp] at h
    have h : v = [] := h
    subst h
    exact k
  · intro k
    exact ⟨[], u, rfl, ⟨[], by simp, rfl⟩, k⟩
/-- a word of names is a part exactly if a product has it -/
theorem prdIn_pt {ns : List Str} (hn : ∀ x ∈ ns, okName x) {l : List It} (ok : okB ns l) (c5 : nCB l ≤ 5) (u : List Str) : prdIn (NP l) (pw u) = true ↔ Pt l u := prdIn_pw.trans (NP_pt hn ok c5 u)
end FA

set_option Elab.async false
set_option linter.all false
set_option maxRecDepth 100000
set_option maxHeartbeats 2000000
/-! Long words: a product is within others exactly if a long word of it is a word of one of them. -/
namespace FA
open PySem PySem.Spec PyProof.Rows L2
def lgA (t : Nat) : Atm → List Str
  | .n x => [x]
  | .t xs => (List.replicate t xs).flatten
def long (t : Nat) (p : Prd) : List Str := p.flatMap (lgA t)
theorem long_cons (t : Nat) (a : Atm) (p : Prd) : long t (a :: p) = lgA t a ++ long t p := by simp [long]
theorem rep_sub (xs : List Str) {s t : Nat} (h : s ≤ t) : ((List.replicate s xs).flatten).Sublist ((List.replicate t xs).flatten) := by
  obtain ⟨d, rfl⟩ := Nat.exists_eq_add_of_le h
  rw [Nat.add_comm, ← List.replicate_append_replicate, List.flatten_append]
  exact List.sublist_append_right _ _
theorem lgA_sub (a : Atm) {s t : Nat} (h : s ≤ t) : (lgA s a).Sublist (lgA t a) := by
  cases a with
  | n x => exact List.Sublist.refl _
  | t xs => exact rep_sub xs h
theorem long_sub {s t : Nat} (h : s ≤ t) : ∀ p : Prd, (long s p).Sublist (long t p)
  | [] => List.Sublist.refl _
  | a :: p => by
    rw [long_cons, long_cons]
    exact (lgA_sub a h).append (long_sub h p)
theorem lgA_la (t : Nat) (a : Atm) : LA a (lgA t a) := by
  cases a with
  | n x => exact .inr rfl
  | t xs =>
    intro y hy
    obtain ⟨l, hl, h⟩ := List.mem_flatten.mp hy
    rw [(List.mem_replicate.mp hl).2] at h
    exact h
theorem long_lp (t : Nat) : ∀ p : Prd, LP p (long t p)
  | [] => rfl
  | a :: p => ⟨_, _, long_cons t a p, lgA_la t a, long_lp t p⟩
def full (a : Atm) : Prop := a.nms ≠ []
/-- a name takes away one turn at most -/
theorem rep_cut (xs : List Str) (t : Nat) {y : Str} {w : List Str} (e : (List.replicate (t + 1) xs).flatten = y :: w) : ((List.replicate t xs).flatten).Sublist w := by
  rw [List.replicate_succ, List.flatten_cons] at e
  cases xs with
  | nil =>
    have : (List.replicate t ([] : List Str)).flatten = [] := by simp
    rw [this]
    exact List.nil_sublist _
  | cons x r =>
    simp only [List.cons_append] at e
    injection e with _ e2
    rw [← e2]
    exact List.sublist_append_right _ _
theorem long_tuple (ys : List Str) (t : Nat) {r : Prd} : ∀ (p : Prd), LP (.t ys :: r) (long (t + 1) p) → LP r (long t (p.dropWhile fun a => isW a (.t ys)))
  | [], _ => LP.nil _
  | a :: p, h => by
    obtain ⟨v, w, e, h1, h2⟩ := h
    rw [long_cons] at e
    by_cases c : isW a (.t ys) = true
    · rw [List.dropWhile_cons, if_pos c]
      refine long_tuple ys t p ?_
      -- what is left behind the atom's own part
      have hs : ∃ v' w', long (t + 1) p = v' ++ w' ∧ LA (.t ys) v' ∧ LP r w' := by
        rcases List.append_eq_append_iff.mp e with ⟨z, e1, e2⟩ | ⟨z, e1, e2⟩
        · refine ⟨z, w, e2, fun y hy => h1 y (by rw [e1]; exact List.mem_append_right _ hy), h2⟩
        · refine ⟨[], _, rfl, LA.nil _, h2.sub ?_⟩
          rw [e2]
          exact List.sublist_append_right _ _
      obtain ⟨v', w', e3, h3, h4⟩ := hs
      exact ⟨v', w', e3, h3, h4⟩
    · rw [List.dropWhile_cons, if_neg c]
      refine h2.sub ?_
      rw [long_cons]
      -- v ends within the atom's first turn
      cases a with
      | n x =>
        have e : x :: long (t + 1) p = v ++ w := e
        cases v with
        | nil =>
          rw [List.nil_append] at e
          rw [← e]
          exact (List.Sublist.refl [x]).append (long_sub (Nat.le_succ t) p)
        | cons y v =>
          simp only [List.cons_append] at e
          injection e with e1 e2
          exact absurd (by simpa [isW, Atm.nms, e1] using h1 y (by simp)) c
      | t xs =>
        have hx : ∃ x ∈ xs, x ∉ ys := by
          simp only [isW, Atm.nms, List.all_eq_true, decide_eq_true_eq] at c
          exact Classical.byContradiction fun z => c fun x hx => Classical.byContradiction fun k => z ⟨x, hx, k⟩
        have e : (List.replicate (t + 1) xs).flatten ++ long (t + 1) p = v ++ w := e
        rw [List.replicate_succ, List.flatten_cons, List.append_assoc] at e
        rcases List.append_eq_append_iff.mp e with ⟨z, e1, e2⟩ | ⟨z, e1, e2⟩
        · obtain ⟨x, h3, h4⟩ := hx
          exact absurd (h1 x (by rw [e1]; exact List.mem_append_left _ h3)) h4
        · rw [e2]
          have := (List.Sublist.refl ((List.replicate t xs).flatten)).append (long_sub (Nat.le_succ t) p)
          exact this.trans (List.sublist_append_right _ _)
theorem within_long : ∀ (r p : Prd) (t : Nat), (∀ a ∈ p, full a) → r.length < t → LP r (long t p) → within p r = true
  | [], p, t, fa, ht, h => by
    have h : long t p = [] := h
    cases p with
    | nil => rfl
    | cons a p =>
      rw [long_cons] at h
      have h1 := (List.append_eq_nil_iff.mp h).1
      have fa := fa a (by simp)
      cases a with
      | n x => cases h1
      | t xs =>
        obtain ⟨s, rfl⟩ : ∃ s, t = s + 1 := ⟨t - 1, by simp at ht; omega⟩
        have h1 : (List.replicate (s + 1) xs).flatten = [] := h1
        rw [List.replicate_succ, List.flatten_cons] at h1
        exact absurd (List.append_eq_nil_iff.mp h1).1 fa
  | .n y :: r, p, t, fa, ht, h => by
    obtain ⟨s, rfl⟩ : ∃ s, t = s + 1 := ⟨t - 1, by simp at ht; omega⟩
    have hs : r.length < s := by simp at ht; omega
    unfold within
    cases p with
    | nil =>
      have : within [] r = true := within_long r [] s (fun a ha => by cases ha) hs (LP.nil _)
      simpa [eat, within] using this
    | cons a p =>
      have fp : ∀ c ∈ p, full c := fun c hc => fa c (List.mem_cons_of_mem _ hc)
      obtain ⟨v, w, e, h1, h2⟩ := h
      simp only [eat]
      by_cases c : isW a (.n y) = true
      · have ea : a = .n y := by simpa [isW] using c
        subst ea
        simp only [c, if_true]
        refine within_long r p (s + 1) fp (by omega) ?_
        rw [long_cons] at e
        have e : y :: long (s + 1) p = v ++ w := e
        rcases h1 with rfl | rfl
        · rw [List.nil_append] at e
          rw [← e] at h2
          exact h2.sub (List.sublist_cons_self _ _)
        · simp only [List.cons_append, List.nil_append] at e
          injection e with _ e2
          rw [e2]
          exact h2
      · rw [Bool.not_eq_true] at c
        simp only [c, Bool.false_eq_true, if_false]
        refine within_long r (a :: p) s fa hs ?_
        rcases h1 with rfl | rfl
        · rw [List.nil_append] at e
          rw [← e] at h2
          exact h2.sub (long_sub (Nat.le_succ s) _)
        · refine h2.sub ?_
          rw [long_cons] at e ⊢
          cases a with
          | n x =>
            have e : x :: long (s + 1) p = y :: w := e
            injection e with e1 _
            subst e1
            simp [isW] at c
          | t xs =>
            have e : (List.replicate (s + 1) xs).flatten ++ long (s + 1) p = y :: w := e
            have hx : xs ≠ [] := fa (.t xs) (by simp)
            obtain ⟨x, xr, rfl⟩ : ∃ x xr, xs = x :: xr := by
              cases xs with
              | nil => exact absurd rfl hx
              | cons x xr => exact ⟨x, xr, rfl⟩
            rw [List.replicate_succ, List.flatten_cons] at e
            simp only [List.cons_append] at e
            injection e with _ e2
            rw [← e2, List.append_assoc]
            exact ((List.Sublist.refl _).append (long_sub (Nat.le_succ s) p)).trans (List.sublist_append_right _ _)
  | .t ys :: r, p, t, fa, ht, h => by
    obtain ⟨s, rfl⟩ : ∃ s, t = s + 1 := ⟨t - 1, by simp at ht; omega⟩
    unfold within
    simp only [eat]
    exact within_long r _ s (fun c hc => fa c ((List.dropWhile_sublist _).subset hc)) (by simp at ht; omega) (long_tuple ys s p h)
/-- a product is within another one exactly if it has only words of it -/
theorem within_iff {p r : Prd} (fa : ∀ a ∈ p, full a) : within p r = true ↔ ∀ u, LP p u → LP r u :=
  ⟨fun h u k => within_lp h k, fun h => within_long r p (r.length + 1) fa (Nat.lt_succ_self _) (h _ (long_lp _ p))⟩
theorem prdIn_long {ps : List Prd} {p : Prd} (fa : ∀ a ∈ p, full a) {t : Nat} (ht : ∀ r ∈ ps, r.length < t) : prdIn ps p = true ↔ LPs ps (long t p) := by
  unfold prdIn LPs
  rw [List.any_eq_true]
  exact ⟨fun ⟨r, hr, h⟩ => ⟨r, hr, within_lp h (long_lp t p)⟩, fun ⟨r, hr, h⟩ => ⟨r, hr, within_long r p t fa (ht r hr) h⟩⟩
end FA

set_option Elab.async false
set_option linter.all false
set_option maxRecDepth 100000
set_option maxHeartbeats 2000000
/-! Names that can be doubled. -/
namespace FA
open PySem PySem.Spec PyProof.Rows L2
theorem bound_ex : ∀ ps : List Prd, ∃ t, ∀ r ∈ ps, r.length < t
  | [] => ⟨0, fun r h => by cases h⟩
  | p :: ps => by
    obtain ⟨t, h⟩ := bound_ex ps
    refine ⟨t + p.length + 1, fun r hr => ?_⟩
    rcases List.mem_cons.mp hr with rfl | hr
    · omega
    · have := h r hr
      omega
/-- where a word's name stands in a product: at a tuple, which takes it twice too, or at a name -/
theorem LP_spot {x : Str} : ∀ (p : Prd) (v w : List Str), LP p (v ++ x :: w) → LP p (v ++ x :: x :: w) ∨ ∃ k, p[k]? = some (.n x) ∧ LP (p.take k) v ∧ LP (p.drop (k + 1)) w
  | [], v, w, h => by
    have h : v ++ x :: w = [] := h
    simp at h
  | a :: p, v, w, h => by
    obtain ⟨u, z, e, h1, h2⟩ := h
    rcases List.append_eq_append_iff.mp e with ⟨c, e1, e2⟩ | ⟨c, e1, e2⟩
    · -- the atom's own part reaches beyond v
      cases c with
      | nil =>
        rw [List.append_nil] at e1
        rw [List.nil_append] at e2
        subst e1
        rw [← e2] at h2
        rcases LP_spot p [] w h2 with k | ⟨k, k1, k2, k3⟩
        · exact .inl ⟨u, _, rfl, h1, k⟩
        · refine .inr ⟨k + 1, by simpa using k1, ?_, by simpa using k3⟩
          rw [List.take_succ_cons]
          exact ⟨u, [], by simp, h1, LP.nil _⟩
      | cons y c =>
        simp only [List.cons_append] at e2
        injection e2 with e3 e4
        subst e3
        subst e4
        rw [e1] at h1
        cases a with
        | n q =>
          rcases h1 with h | h
          · simp at h
          · have hv : v = [] := by
              cases v with
              | nil => rfl
              | cons _ _ => simp at h
            subst hv
            simp only [List.nil_append, List.cons.injEq] at h
            obtain ⟨rfl, rfl⟩ := h
            exact .inr ⟨0, by simp, by simpa using LP.nil [], by simpa using h2⟩
        | t ys =>
          refine .inl ⟨v ++ x :: x :: c, z, by simp, fun y hy => ?_, h2⟩
          have hx := h1 x (by simp)
          rcases List.mem_append.mp hy with hy | hy
          · exact h1 y (List.mem_append_left _ hy)
          · rcases List.mem_cons.mp hy with rfl | hy
            · exact hx
            · exact h1 y (List.mem_append_right _ hy)
    · -- the atom's part ends within v
      subst e1
      rw [e2] at h2
      rcases LP_spot p c w h2 with k | ⟨k, k1, k2, k3⟩
      · exact .inl ⟨u, _, by rw [List.append_assoc], h1, k⟩
      · refine .inr ⟨k + 1, by simpa using k1, ?_, by simpa using k3⟩
        rw [List.take_succ_cons]
        exact ⟨u, c, rfl, h1, k2⟩
/-- a name can stand once, but not twice, somewhere: by the words -/
theorem sing_iff {ps : List Prd} (fa : ∀ p ∈ ps, ∀ a ∈ p, full a) (x : Str) : Sing ps x ↔ ¬ ∀ v w, LPs ps (v ++ x :: w) → LPs ps (v ++ x :: x :: w) := by
  constructor
  · rintro ⟨p, hp, k, hk, hf⟩ rep
    obtain ⟨t, ht⟩ := bound_ex ps
    obtain ⟨hkl, hke⟩ := List.getElem?_eq_some_iff.mp hk
    have hd : p.drop k = .n x :: p.drop (k + 1) := by rw [← hke]; exact List.drop_eq_getElem_cons hkl
    have ep : p = p.take k ++ .n x :: p.drop (k + 1) := by rw [← hd, List.take_append_drop]
    have h1 : LPs ps (long t (p.take k) ++ x :: long t (p.drop (k + 1))) := by
      have h0 : LP (p.take k ++ .n x :: p.drop (k + 1)) (long t (p.take k) ++ x :: long t (p.drop (k + 1))) := LP_app.mpr ⟨_, _, rfl, long_lp t _, [x], _, rfl, .inr rfl, long_lp t _⟩
      rw [← ep] at h0
      exact ⟨p, hp, h0⟩
    have h2 := rep _ _ h1
    have h3 : prdIn ps (p.take k ++ [.n x] ++ p.drop k) = true := by
      rw [prdIn_long (t := t) (fun a ha => ?_) ht]
      · rw [hd]
        have e : long t (p.take k ++ [.n x] ++ .n x :: p.drop (k + 1)) = long t (p.take k) ++ x :: x :: long t (p.drop (k + 1)) := by simp [long, lgA]
        rw [e]
        exact h2
      · rcases List.mem_append.mp ha with ha | ha
        · rcases List.mem_append.mp ha with ha | ha
          · exact fa p hp a (List.mem_of_mem_take ha)
          · rw [List.mem_singleton.mp ha]
            exact fun z => by cases z
        · exact fa p hp a (List.mem_of_mem_drop ha)
    rw [h3] at hf
    cases hf
  · intro h
    refine Classical.byContradiction fun ns => h fun v w hv => ?_
    obtain ⟨p, hp, hl⟩ := hv
    rcases LP_spot p v w hl with k | ⟨k, k1, k2, k3⟩
    · exact ⟨p, hp, k⟩
    · have hin : prdIn ps (p.take k ++ [.n x] ++ p.drop k) = true := by
        cases e : prdIn ps (p.take k ++ [.n x] ++ p.drop k) with
        | true => rfl
        | false => exact absurd ⟨p, hp, k, k1, e⟩ ns
      obtain ⟨q, hq, hw⟩ := List.any_eq_true.mp hin
      refine ⟨q, hq, within_lp hw ?_⟩
      obtain ⟨hkl, hke⟩ := List.getElem?_eq_some_iff.mp k1
      have hd : p.drop k = .n x :: p.drop (k + 1) := by rw [← hke]; exact List.drop_eq_getElem_cons hkl
      rw [hd, List.append_assoc]
      exact LP_app.mpr ⟨v, x :: x :: w, rfl, k2, [x], x :: w, rfl, .inr rfl, [x], w, rfl, .inr rfl, k3⟩
theorem raw_full {ns : List Str} {m : Nat} {p : Prd} (h : okPrd ns m p) : ∀ a ∈ p, full a := fun a ha e => by
  have := (h.2 a ha).2.2
  rw [e] at this
  simp at this
/-- a callee that can't be doubled: by the parts of the body -/
theorem sing_pt {ns : List Str} (hn : ∀ x ∈ ns, okName x) {l : List It} (ok : okB ns l) (c5 : nCB l ≤ 5) (x : Str) : Sing (NP l) x ↔ ¬ ∀ v w, Pt l (v ++ x :: w) → Pt l (v ++ x :: x :: w) := by
  have okp : ∀ p ∈ rawB l [[]], okPrd ns (0 + nCB l) p := rawB_ok l [[]] 0 ok c5 (fun p hp => by rw [List.mem_singleton.mp hp]; exact .nil)
  rw [sing_iff (fun p hp => ?_) x]
  · simp only [NP_pt hn ok c5]
  · unfold NP at hp
    obtain ⟨q, hq, rfl⟩ := normal_sub hp
    exact idle_all (raw_full (okp q hq))
end FA

set_option Elab.async false
set_option linter.all false
set_option maxRecDepth 100000
set_option maxHeartbeats 2000000
/-! From which places of a word to which others a part of a body leads. -/
namespace FA
open PySem PySem.Spec PyProof.Rows L2
/-- v stands in u from the place s to the place p -/
def Btw (u : List Str) (s p : Nat) (v : List Str) : Prop := s ≤ p ∧ p ≤ u.length ∧ u.drop s = v ++ u.drop p
theorem Btw.len {u v : List Str} {s p : Nat} (h : Btw u s p v) : v.length = p - s := by
  have := congrArg List.length h.2.2
  simp only [List.length_append, List.length_drop] at this
  have := h.1
  have := h.2.1
  omega
theorem Btw.app {u v w : List Str} {s p q : Nat} (h : Btw u s p v) (k : Btw u p q w) : Btw u s q (v ++ w) :=
  ⟨Nat.le_trans h.1 k.1, k.2.1, by rw [h.2.2, k.2.2, List.append_assoc]⟩
theorem Btw.split {u v w : List Str} {s q : Nat} (h : Btw u s q (v ++ w)) : ∃ p, Btw u s p v ∧ Btw u p q w := by
  have hl := h.len
  rw [List.length_append] at hl
  have h1 := h.1
  have h2 := h.2.1
  have h3 := h.2.2
  have hd : u.drop (s + v.length) = w ++ u.drop q := by
    rw [← List.drop_drop, h3, List.append_assoc, List.drop_left]
  exact ⟨s + v.length, ⟨by omega, by omega, by rw [h3, hd, List.append_assoc]⟩, by omega, h2, hd⟩
theorem Btw.nil {u : List Str} {s p : Nat} : Btw u s p [] ↔ p = s ∧ s ≤ u.length := by
  constructor
  · intro h
    have := h.len
    have h1 := h.1
    have h2 := h.2.1
    simp only [List.length_nil] at this
    omega
  · rintro ⟨rfl, h⟩
    exact ⟨Nat.le_refl _, h, rfl⟩
theorem Btw.one {u : List Str} {s p : Nat} {x : Str} : Btw u s p [x] ↔ p = s + 1 ∧ u[s]? = some x := by
  constructor
  · intro h
    have hl := h.len
    have h1 := h.1
    have h2 := h.2.1
    have h3 := h.2.2
    simp only [List.length_singleton] at hl
    refine ⟨by omega, ?_⟩
    have : (u.drop s)[0]? = some x := by rw [h3]; rfl
    rwa [List.getElem?_drop] at this
  · rintro ⟨rfl, h⟩
    obtain ⟨hl, e⟩ := List.getElem?_eq_some_iff.mp h
    refine ⟨by omega, by omega, ?_⟩
    rw [List.drop_eq_getElem_cons hl, e]
    rfl
def EpB (l : List It) (u : List Str) (s p : Nat) : Prop := ∃ v, Btw u s p v ∧ Pt l v
def EpI (i : It) (u : List Str) (s p : Nat) : Prop := ∃ v, Btw u s p v ∧ PtI i v
section
variable {u : List Str} {s p : Nat}
theorem epB_nil : EpB [] u s p ↔ p = s ∧ s ≤ u.length := by
  constructor
  · rintro ⟨v, h, w, hw, sb⟩
    simp only [WB] at hw
    subst hw
    rw [List.sublist_nil.mp sb] at h
    exact Btw.nil.mp h
  · intro h
    exact ⟨[], Btw.nil.mpr h, [], by simp only [WB], .slnil⟩
theorem epB_cons {i : It} {r : List It} : EpB (i :: r) u s p ↔ ∃ q, EpI i u s q ∧ EpB r u q p := by
  constructor
  · rintro ⟨v, h, k⟩
    obtain ⟨a, b, rfl, k1, k2⟩ := Pt_cons.mp k
    obtain ⟨q, h1, h2⟩ := h.split
    exact ⟨q, ⟨a, h1, k1⟩, b, h2, k2⟩
  · rintro ⟨q, ⟨a, h1, k1⟩, b, h2, k2⟩
    exact ⟨a ++ b, h1.app h2, Pt_cons.mpr ⟨a, b, rfl, k1, k2⟩⟩
theorem epB_snoc {l : List It} {k : Nat} {i : It} (h : l[k]? = some i) : EpB (l.take (k + 1)) u s p ↔ ∃ q, EpB (l.take k) u s q ∧ EpI i u q p := by
  have app : ∀ (a : List It) {s p : Nat}, EpB (a ++ [i]) u s p ↔ ∃ q, EpB a u s q ∧ EpI i u q p := fun a => by
    induction a with
    | nil =>
      intro s p
      rw [List.nil_append, epB_cons]
      constructor
      · rintro ⟨q, h1, h2⟩
        obtain ⟨e, h3⟩ := epB_nil.mp h2
        subst e
        obtain ⟨v, hv, _⟩ := id h1
        have h4 := hv.1
        exact ⟨s, epB_nil.mpr ⟨rfl, by omega⟩, h1⟩
      · rintro ⟨q, h1, h2⟩
        obtain ⟨e, h3⟩ := epB_nil.mp h1
        subst e
        obtain ⟨v, hv, _⟩ := id h2
        exact ⟨p, h2, epB_nil.mpr ⟨rfl, hv.2.1⟩⟩
    | cons b a ih =>
      intro s p
      rw [List.cons_append, epB_cons]
      constructor
      · rintro ⟨q, h1, h2⟩
        obtain ⟨t, h3, h4⟩ := ih.mp h2
        exact ⟨t, epB_cons.mpr ⟨q, h1, h3⟩, h4⟩
      · rintro ⟨t, h1, h2⟩
        obtain ⟨q, h3, h4⟩ := epB_cons.mp h1
        exact ⟨q, h3, ih.mpr ⟨t, h4, h2⟩⟩
  rw [List.take_add_one, h]
  exact app _
theorem epI_call {x : Str} : EpI (.call x) u s p ↔ (p = s ∧ s ≤ u.length) ∨ (p = s + 1 ∧ u[s]? = some x) := by
  constructor
  · rintro ⟨v, h, w, hw, sb⟩
    simp only [WI] at hw
    subst hw
    rcases sub1 sb with rfl | rfl
    · exact .inl (Btw.nil.mp h)
    · exact .inr (Btw.one.mp h)
  · rintro (h | h)
    · exact ⟨[], Btw.nil.mpr h, [x], by simp only [WI], List.nil_sublist _⟩
    · exact ⟨[x], Btw.one.mpr h, [x], by simp only [WI], List.Sublist.refl _⟩
theorem epI_may {b : List It} : EpI (.may b) u s p ↔ (p = s ∧ s ≤ u.length) ∨ EpB b u s p := by
  constructor
  · rintro ⟨v, h, w, hw, sb⟩
    simp only [WI] at hw
    rcases hw with rfl | hw
    · rw [List.sublist_nil.mp sb] at h
      exact .inl (Btw.nil.mp h)
    · exact .inr ⟨v, h, w, hw, sb⟩
  · rintro (h | ⟨v, h, w, hw, sb⟩)
    · exact ⟨[], Btw.nil.mpr h, [], by simp [WI], .slnil⟩
    · exact ⟨v, h, w, by simp only [WI]; exact .inr hw, sb⟩
theorem epI_one {ns : List Str} {bs : List (List It)} (ok : okI ns (.one bs)) : EpI (.one bs) u s p ↔ (p = s ∧ s ≤ u.length) ∨ ∃ b ∈ bs, EpB b u s p := by
  constructor
  · rintro ⟨v, h, w, hw, sb⟩
    simp only [WI] at hw
    obtain ⟨b, hb, hw⟩ := WBs_iff.mp hw
    exact .inr ⟨b, hb, v, h, w, hw, sb⟩
  · rintro (h | ⟨b, hb, v, h, w, hw, sb⟩)
    · obtain ⟨w, hw⟩ := WI_ex _ ok
      exact ⟨[], Btw.nil.mpr h, w, hw, List.nil_sublist _⟩
    · exact ⟨v, h, w, by simp only [WI]; exact WBs_iff.mpr ⟨b, hb, hw⟩, sb⟩
/-- some turns of a body -/
inductive Turns (b : List It) (u : List Str) : Nat → Nat → Prop
  | stay {s : Nat} : s ≤ u.length → Turns b u s s
  | more {s q p : Nat} : Turns b u s q → EpB b u q p → Turns b u s p
theorem epI_loop {ns : List Str} {b : List It} (ok : okI ns (.loop b)) : EpI (.loop b) u s p ↔ Turns b u s p := by
  simp only [okI] at ok
  constructor
  · rintro ⟨v, h, w, hw, sb⟩
    simp only [WI] at hw
    have hv : ∀ y ∈ v, y ∈ nmB b := fun y hy => star_all (fun w hw => WB_nm b w hw) hw y (sb.subset hy)
    clear hw sb w
    have key : ∀ (n : Nat) (v : List Str) (p : Nat), v.length = n → Btw u s p v → (∀ y ∈ v, y ∈ nmB b) → Turns b u s p := fun n => by
      induction n with
      | zero =>
        intro v p hn h _
        rw [List.eq_nil_of_length_eq_zero hn] at h
        obtain ⟨rfl, h2⟩ := Btw.nil.mp h
        exact .stay h2
      | succ n ih =>
        intro v p hn h hv
        rcases List.eq_nil_or_concat v with rfl | ⟨v', y, e⟩
        · simp at hn
        · rw [List.concat_eq_append] at e
          subst e
          obtain ⟨q, h1, h2⟩ := h.split
          refine .more (ih v' q (by simpa using hn) h1 fun z hz => hv z (List.mem_append_left _ hz)) ⟨[y], h2, ?_⟩
          obtain ⟨w, h3, h4⟩ := WB_has b ok.2 y (hv y (by simp))
          exact ⟨w, h3, List.singleton_sublist.mpr h4⟩
    exact key _ v p rfl h hv
  · intro t
    induction t with
    | stay h => exact ⟨[], Btw.nil.mpr ⟨rfl, h⟩, [], by simp only [WI]; exact .nil, .slnil⟩
    | more _ k ih =>
      obtain ⟨v, h1, w, hw, sb⟩ := ih
      obtain ⟨v2, h2, w2, hw2, sb2⟩ := k
      simp only [WI] at hw
      refine ⟨v ++ v2, h1.app h2, ?_⟩
      by_cases e : w2 = []
      · subst e
        rw [List.sublist_nil.mp sb2, List.append_nil]
        exact ⟨w, by simp only [WI]; exact hw, sb⟩
      · exact ⟨w ++ w2, by simp only [WI]; exact .snoc hw hw2 e, sb.append sb2⟩
theorem epB_whole {l : List It} : EpB l u 0 u.length ↔ Pt l u := by
  constructor
  · rintro ⟨v, h, k⟩
    have := h.2.2
    rw [List.drop_zero, List.drop_length, List.append_nil] at this
    rw [this]
    exact k
  · intro k
    exact ⟨u, ⟨Nat.zero_le _, Nat.le_refl _, by simp⟩, k⟩
end
/-! ### the names of products -/
theorem LP_single {x : Str} : ∀ {p : Prd}, LP p [x] ↔ ∃ a ∈ p, x ∈ a.nms
  | [] => by
    constructor
    · intro h
      have h : [x] = [] := h
      cases h
    · rintro ⟨a, ha, _⟩
      cases ha
  | a :: p => by
    have ih := LP_single (x := x) (p := p)
    constructor
    · rintro ⟨v, w, e, h1, h2⟩
      cases v with
      | nil =>
        rw [List.nil_append] at e
        subst e
        obtain ⟨b, hb, hx⟩ := ih.mp h2
        exact ⟨b, List.mem_cons_of_mem _ hb, hx⟩
      | cons y v =>
        simp only [List.cons_append] at e
        injection e with e1 e2
        subst e1
        have : v = [] := (List.append_eq_nil_iff.mp e2.symm).1
        subst this
        refine ⟨a, by simp, ?_⟩
        cases a with
        | n z =>
          rcases h1 with h | h
          · cases h
          · cases h
            simp [Atm.nms]
        | t ys => exact h1 x (by simp)
    · rintro ⟨b, hb, hx⟩
      rcases List.mem_cons.mp hb with rfl | hb
      · refine ⟨[x], [], rfl, ?_, LP.nil p⟩
        cases b with
        | n z =>
          have : x = z := by simpa [Atm.nms] using hx
          rw [this]
          exact .inr rfl
        | t ys => exact fun y hy => by rw [List.mem_singleton.mp hy]; exact hx
      · exact ⟨[], [x], rfl, LA.nil a, ih.mpr ⟨b, hb, hx⟩⟩
theorem Pt_single {ns : List Str} {l : List It} (ok : okB ns l) {x : Str} : Pt l [x] ↔ x ∈ nmB l := by
  constructor
  · rintro ⟨w, hw, s⟩
    exact WB_nm l w hw x (s.subset (by simp))
  · intro h
    obtain ⟨w, h1, h2⟩ := WB_has l ok x h
    exact ⟨w, h1, List.singleton_sublist.mpr h2⟩
/-- the names in a body's products are those of the body -/
theorem raw_nms {ns : List Str} {l : List It} (ok : okB ns l) {x : Str} : (∃ p ∈ rawB l [[]], ∃ a ∈ p, x ∈ a.nms) ↔ x ∈ nmB l := by
  rw [← Pt_single ok]
  have h := rawB_pt l ok [[]] [x]
  constructor
  · rintro ⟨p, hp, ha⟩
    obtain ⟨v, w, e, ⟨q, hq, h1⟩, h2⟩ := h.mp ⟨p, hp, LP_single.mpr ha⟩
    rw [List.mem_singleton.mp hq] at h1
    have h1 : v = [] := h1
    subst h1
    rw [List.nil_append] at e
    rw [e]
    exact h2
  · intro k
    obtain ⟨p, hp, h1⟩ := h.mpr ⟨[], [x], rfl, ⟨[], by simp, rfl⟩, k⟩
    exact ⟨p, hp, LP_single.mp h1⟩
/-- what a law finds that doubles a name in the raw products and asks long words: the same as for the normal form -/
theorem sing_raw {ns : List Str} (hn : ∀ x ∈ ns, okName x) {l : List It} (ok : okB ns l) (c5 : nCB l ≤ 5) {t : Nat} (ht : 5 < t) (x : Str) :
    Sing (NP l) x ↔ ∃ p ∈ rawB l [[]], ∃ k, p[k]? = some (.n x) ∧ ¬ Pt l (long t (p.take k ++ [.n x] ++ p.drop k)) := by
  have okp : ∀ p ∈ rawB l [[]], okPrd ns (0 + nCB l) p := rawB_ok l [[]] 0 ok c5 (fun p hp => by rw [List.mem_singleton.mp hp]; exact .nil)
  have raw : ∀ u, LPs (rawB l [[]]) u ↔ Pt l u := fun u => by
    rw [rawB_pt l ok]
    constructor
    · rintro ⟨v, w, rfl, ⟨p, hp, h⟩, k⟩
      rw [List.mem_singleton.mp hp] at h
      have h : v = [] := h
      subst h
      exact k
    · intro k
      exact ⟨[], u, rfl, ⟨[], by simp, rfl⟩, k⟩
  have s1 := sing_iff (ps := rawB l [[]]) (fun p hp => raw_full (okp p hp)) x
  rw [sing_pt hn ok c5 x]
  simp only [raw] at s1
  rw [← s1]
  unfold Sing
  constructor
  · rintro ⟨p, hp, k, hk, hf⟩
    refine ⟨p, hp, k, hk, fun h => ?_⟩
    rw [(prdIn_long (ps := rawB l [[]]) (t := t) (fun a ha => ?_) (fun r hr => by have := (okp r hr).1; omega)).mpr ((raw _).mpr h)] at hf
    · cases hf
    · rcases List.mem_append.mp ha with ha | ha
      · rcases List.mem_append.mp ha with ha | ha
        · exact raw_full (okp p hp) a (List.mem_of_mem_take ha)
        · rw [List.mem_singleton.mp ha]
          exact fun z => by cases z
      · exact raw_full (okp p hp) a (List.mem_of_mem_drop ha)
  · rintro ⟨p, hp, k, hk, hf⟩
    refine ⟨p, hp, k, hk, ?_⟩
    cases e : prdIn (rawB l [[]]) (p.take k ++ [.n x] ++ p.drop k) with
    | false => rfl
    | true =>
      obtain ⟨q, hq, hw⟩ := List.any_eq_true.mp e
      exact absurd ((raw _).mp ⟨q, hq, within_lp hw (long_lp t _)⟩) hf
end FA

set_option Elab.async false
set_option linter.all false
set_option maxRecDepth 100000
set_option maxHeartbeats 4000000
/-! What the fourth drawing wants: a text of one sign, repeated. -/
namespace FA
open PySem PySem.Spec PyProof.Rows L2
def eight : List Str := ["a", "b", "c", "d", "e", "f", "g", "h"]
def five : List Str := ["loop", "maybe", "one", "call", "return"]
/-- a text, n times -/
def repS (z : Str) (n : Nat) : Str := if n = 1 then z else ⟨(List.replicate n z.cps).foldl (· ++ ·) #[]⟩
section
variable {X : Cx}
theorem op_mul_let : OpR X (binaryOp .Mult) (fun x y H Q => ∃ (z : Str) (n : Nat), x = .str z ∧ y = .int (n : Int) ∧ z ∈ eight ∧ (n = 1 ∨ n = 2 ∨ n = 8) ∧ Q (.str (repS z n)) H) := by
  intro pins s σ H x y v u Q I rx ry h
  obtain ⟨z, n, rfl, rfl, hz, hn, q⟩ := h
  obtain ⟨t, rfl⟩ := rx
  obtain ⟨t', rfl⟩ := ry
  have hs := sizeLine_eq
  simp only [eight, List.mem_cons, List.not_mem_nil, or_false] at hz
  rcases hn with rfl | rfl | rfl
  · rcases hz with rfl | rfl | rfl | rfl | rfl | rfl | rfl | rfl
    all_goals
      refine PySem.P.mul_str (by decide) (fun _ h => ?_) (fun _ h => ?_) ?_
      · exact absurd h (by decide)
      · exact absurd h (by decide)
      · rw [if_neg (by decide), if_pos (by decide)]
        exact ⟨.str (repS _ 1), H, I, ⟨_, rfl⟩, q⟩
  · rcases hz with rfl | rfl | rfl | rfl | rfl | rfl | rfl | rfl
    all_goals
      refine PySem.P.mul_str (by decide) (fun _ _ => by decide +kernel) (fun _ _ => by decide +kernel) ?_
      rw [if_neg (by decide), if_neg (by decide)]
      exact ⟨by decide +kernel, .str (repS _ 2), H, I.tok _, ⟨_, by first | rfl | decide +kernel⟩, q⟩
  · rcases hz with rfl | rfl | rfl | rfl | rfl | rfl | rfl | rfl
    all_goals
      refine PySem.P.mul_str (by decide) (fun _ _ => by decide +kernel) (fun _ _ => by decide +kernel) ?_
      rw [if_neg (by decide), if_neg (by decide)]
      exact ⟨by decide +kernel, .str (repS _ 8), H, I.tok _, ⟨_, by first | rfl | decide +kernel⟩, q⟩
end
/-- the letter, or the word, that a name was made of -/
def src (z : Str) : Str := if z ∈ five then z else ⟨#[z.cps.getD 0 0]⟩
theorem src_eight : ∀ z ∈ eight, ∀ n ∈ [1, 2, 8], src (repS z n) = z ∧ (1 ≤ (repS z n).cps.size ∧ (repS z n).cps.size ≤ 8 ∧ ∀ c ∈ (repS z n).cps.toList, 97 ≤ c ∧ c ≤ 122) ∧ repS z n ≠ "main" := by decide +kernel
theorem src_five : ∀ z ∈ five, src z = z ∧ (1 ≤ z.cps.size ∧ z.cps.size ≤ 8 ∧ ∀ c ∈ z.cps.toList, 97 ≤ c ∧ c ≤ 122) ∧ z ≠ "main" := by decide +kernel
theorem eight_len : ∀ z ∈ eight, z.length = 1 := by decide +kernel
theorem five_len : ∀ z ∈ five, z.length ≠ 1 := by decide +kernel
theorem thirteen_nd : (eight ++ five).Nodup := by decide +kernel
theorem eight_split : (("abcdefgh" : Str).cps.toList.map fun c => V.str ⟨#[c]⟩) = eight.map V.str := by
  have : (("abcdefgh" : Str).cps.toList.map fun c => (⟨#[c]⟩ : Str)) = eight := by decide +kernel
  rw [← this, List.map_map]
  rfl
theorem main_ok : okName "main" := ⟨by decide +kernel, by decide +kernel, by decide +kernel⟩
end FA

set_option Elab.async false
set_option linter.all false
set_option maxRecDepth 100000
set_option maxHeartbeats 4000000
/-! Places of a word, with calls left out or not; sorted(set(..)) of more numbers. -/
namespace FA
open PySem PySem.Spec PyProof.Rows L2
def EnX (lax : Bool) (l : List It) (u : List Str) (s p : Nat) : Prop := if lax = true then EpB l u s p else EnB l u s p
def EiX (lax : Bool) (i : It) (u : List Str) (s p : Nat) : Prop := if lax = true then EpI i u s p else EnI i u s p
/-- some steps -/
inductive Steps (R : Nat → Nat → Prop) (n : Nat) (s : Nat) : Nat → Prop
  | stay : s ≤ n → Steps R n s s
  | more {q p : Nat} : Steps R n s q → R q p → Steps R n s p
section
variable {lax : Bool} {u : List Str} {s p : Nat}
theorem enX_le {l : List It} (h : EnX lax l u s p) : s ≤ p ∧ p ≤ u.length := by
  cases lax with
  | true =>
    obtain ⟨v, hv, _⟩ : EpB l u s p := by simpa [EnX] using h
    exact ⟨hv.1, hv.2.1⟩
  | false => exact EnB.le (by simpa [EnX] using h)
theorem eiX_le {i : It} (h : EiX lax i u s p) : s ≤ p ∧ p ≤ u.length := by
  cases lax with
  | true =>
    obtain ⟨v, hv, _⟩ : EpI i u s p := by simpa [EiX] using h
    exact ⟨hv.1, hv.2.1⟩
  | false => exact EnI.le (by simpa [EiX] using h)
theorem enX_nil : EnX lax [] u s p ↔ p = s ∧ s ≤ u.length := by
  cases lax with
  | true => simp only [EnX, if_true]; exact epB_nil
  | false =>
    simp only [EnX, Bool.false_eq_true, if_false]
    rw [enB_nil]
    constructor
    · rintro ⟨rfl, h⟩; exact ⟨rfl, h⟩
    · rintro ⟨rfl, h⟩; exact ⟨rfl, h⟩
theorem enX_snoc {l : List It} {k : Nat} {i : It} (h : l[k]? = some i) : EnX lax (l.take (k + 1)) u s p ↔ ∃ q, EnX lax (l.take k) u s q ∧ EiX lax i u q p := by
  cases lax with
  | true => simp only [EnX, EiX, if_true]; exact epB_snoc h
  | false => simp only [EnX, EiX, Bool.false_eq_true, if_false]; exact enB_take h
theorem eiX_call {x : Str} : EiX lax (.call x) u s p ↔ (lax = true ∧ p = s ∧ s ≤ u.length) ∨ (p = s + 1 ∧ u[s]? = some x) := by
  cases lax with
  | true => simp only [EiX, if_true, true_and]; exact epI_call
  | false => simp only [EiX, Bool.false_eq_true, if_false, false_and, false_or]; exact enI_call
theorem eiX_may {b : List It} : EiX lax (.may b) u s p ↔ (p = s ∧ s ≤ u.length) ∨ EnX lax b u s p := by
  cases lax with
  | true => simp only [EiX, EnX, if_true]; exact epI_may
  | false =>
    simp only [EiX, EnX, Bool.false_eq_true, if_false]
    rw [enI_may]
    constructor
    · rintro (⟨rfl, h⟩ | h)
      · exact .inl ⟨rfl, h⟩
      · exact .inr h
    · rintro (⟨rfl, h⟩ | h)
      · exact .inl ⟨rfl, h⟩
      · exact .inr h
theorem eiX_one {ns : List Str} {bs : List (List It)} (ok : okI ns (.one bs)) : EiX lax (.one bs) u s p ↔ (lax = true ∧ p = s ∧ s ≤ u.length) ∨ ∃ b ∈ bs, EnX lax b u s p := by
  cases lax with
  | true => simp only [EiX, EnX, if_true, true_and]; exact epI_one ok
  | false => simp only [EiX, EnX, Bool.false_eq_true, if_false, false_and, false_or]; exact enI_one
theorem eiX_loop {ns : List Str} {b : List It} (ok : okI ns (.loop b)) : EiX lax (.loop b) u s p ↔ Steps (EnX lax b u) u.length s p := by
  cases lax with
  | true =>
    simp only [EiX, if_true]
    rw [epI_loop ok]
    constructor
    · intro h
      induction h with
      | stay h => exact .stay h
      | more _ k ih => exact .more ih (by simpa [EnX] using k)
    · intro h
      induction h with
      | stay h => exact .stay h
      | more _ k ih => exact .more ih (by simpa [EnX] using k)
  | false =>
    simp only [EiX, Bool.false_eq_true, if_false]
    rw [enI_loop]
    constructor
    · intro h
      induction h with
      | here h => exact .stay h
      | on _ k ih => exact .more ih (by simpa [EnX] using k)
    · intro h
      induction h with
      | stay h => exact .here h
      | more _ k ih => exact .on ih (by simpa [EnX] using k)
end
/-- numbers closed under steps are all that steps lead to -/
theorem steps_closed {R : Nat → Nat → Prop} {n : Nat} {S H : List Nat} (h1 : ∀ s ∈ S, s ∈ H) (h2 : ∀ p ∈ H, ∃ s ∈ S, Steps R n s p) (h3 : ∀ p ∈ H, ∀ m, R p m → m ∈ H) : ∀ p, p ∈ H ↔ ∃ s ∈ S, Steps R n s p := fun p => by
  constructor
  · exact h2 p
  · rintro ⟨s, hs, h⟩
    induction h with
    | stay _ => exact h1 s hs
    | more _ hb ih => exact h3 _ ih _ hb
theorem few61 {u : List Str} (hu : u.length ≤ 60) {ps : List Nat} (pw : ps.Pairwise (· < ·)) (hle : ∀ p ∈ ps, p ≤ u.length) : ps.length ≤ 61 := by
  have := asc_few (lo := 0) (n := 61) pw fun p hp => ⟨Nat.zero_le _, by have := hle p hp; omega⟩
  omega
theorem eqv_nts : ∀ a b : List Nat, PyData.eqvAll (a.map fun (q : Nat) => PyData.int (q : Int)) (b.map fun (q : Nat) => PyData.int (q : Int)) = decide (a = b)
  | [], [] => by simp [PyData.eqvAll]
  | [], _ :: _ => by simp [PyData.eqvAll]
  | _ :: _, [] => by simp [PyData.eqvAll]
  | x :: a, y :: b => by
    have ih := eqv_nts a b
    simp only [List.map_cons, PyData.eqvAll, PyData.eqv, ih]
    by_cases h : x = y
    · subst h; simp
    · have : ¬ ((x : Int) = (y : Int)) := by omega
      simp [h, this]
theorem eqv_ntsL (a b : List Nat) : PyData.eqv (.list (a.map fun (q : Nat) => PyData.int (q : Int))) (.list (b.map fun (q : Nat) => PyData.int (q : Int))) = decide (a = b) := by
  simp only [PyData.eqv]
  exact eqv_nts a b
theorem asc_same {a b : List Nat} (ha : a.Pairwise (· < ·)) (hb : b.Pairwise (· < ·)) (h : ∀ x, x ∈ a ↔ x ∈ b) : a = b := by
  have na : a.Nodup := ha.imp fun h => by omega
  have nb : b.Nodup := hb.imp fun h => by omega
  exact List.Perm.eq_of_pairwise (fun x y _ _ h k => by omega) ha hb ((List.perm_ext_iff_of_nodup na nb).mpr h)
theorem asc_more {a b : List Nat} (ha : a.Pairwise (· < ·)) (hb : b.Pairwise (· < ·)) (h : ∀ x ∈ a, x ∈ b) (ne : b ≠ a) : a.length < b.length := by
  have na : a.Nodup := ha.imp fun h => by omega
  have nb : b.Nodup := hb.imp fun h => by omega
  by_cases hx : ∃ x ∈ b, x ∉ a
  · obtain ⟨x, h1, h2⟩ := hx
    have := nodup_len (l := x :: a) (m := b) (List.nodup_cons.mpr ⟨h2, na⟩) fun y hy => by
      rcases List.mem_cons.mp hy with rfl | hy
      · exact h1
      · exact h y hy
    rw [List.length_cons] at this
    omega
  · refine absurd (asc_same hb ha fun x => ⟨fun hx1 => ?_, h x⟩) ne
    by_cases z : x ∈ a
    · exact z
    · exact absurd ⟨x, hx1, z⟩ hx
section
variable {X : Cx} {K : PySem.W.Frag} {w : World}
def rSetIs4 (K : PySem.W.Frag) (w : World) : List V → Hp → VK → Prop := fun xs H Q => ∃ (p : Addr) (ns : List Int), xs = [V.ref p] ∧ SqL K H p (ns.map V.int) ∧ ns.length ≤ 4000 ∧ ∀ q n ks, H q = none → List.Nodup ks → (∀ k, k ∈ ks ↔ k ∈ ns) → ks.length = n → Q (.ref q) (upd H q (SetO w q (fun k => decide (k ∈ ns)) n))
theorem cr_setIs4 (hc : X.calm = true) : CallR X (.type "set") (rSetIs4 X.K X.w) := by
  intro pins s σ H xs us Q I r h
  obtain ⟨p, ns, rfl, hs, hn, q⟩ := h
  rw [Vals.ref1 r]
  obtain ⟨its, rv, ⟨o, n, ho, h1, h2, h3⟩, hz⟩ := I.list hs
  have ia : IntsAre its ns := intsAre_of rv
  have sc : ns.length + 1 < scanBound := by
    have : (4002 : Nat) < scanBound := by decide
    omega
  refine call_set_ints (P := X.prog) (w := X.w) ns (I.ok.hd hc) (items := its.toArray) ⟨o, ho, h1, n, h3⟩ (by simpa using ia) sc fun h' tk hT hk => ?_
  obtain ⟨m, _, R⟩ := hT
  obtain ⟨ks, nd, mem, len⟩ := setR_count R
  exact ⟨.ref _, upd H s.heap.objs.size (SetO X.w s.heap.objs.size (fun k => decide (k ∈ ns)) m), I.laid (t' := tk) hk (Nat.le_refl _) (setO_new R), rfl, q _ m ks (I.hok.fresh (Nat.le_refl _)) nd (fun k => by rw [← mem, decide_eq_true_eq]) len⟩
theorem sort_set4 {H : Hp} {p : Addr} {l : List Nat} {Q : VK} (hp : H p = some (.lst (nts l))) (hl : l.length ≤ 4000) (small : ∀ q ∈ l, q < 63)
    (q : ∀ b H' qs, Same H H' → H b = none → H' b = some (.lst (nts qs)) → qs.Pairwise (· < ·) → (∀ k, k ∈ qs ↔ k ∈ l) → Q (.ref b) H') :
    rSetIs4 K w [.ref p] H (fun v H1 => rSortedSet w [v] H1 Q) := by
  refine ⟨p, _, rfl, by rw [nts_ints] at hp; exact SqL.of hp, by rw [List.length_map]; exact hl, fun a n ks ha nd mem len => ?_⟩
  have mem' : ∀ k : Int, k ∈ l.map (fun (q : Nat) => (q : Int)) ↔ ∃ q : Nat, q ∈ l ∧ k = (q : Int) := fun k => by
    rw [List.mem_map]
    exact ⟨fun ⟨q, h, e⟩ => ⟨q, h, e.symm⟩, fun ⟨q, h, e⟩ => ⟨q, h, e.symm⟩⟩
  have n64 : n ≤ 63 := by
    rw [← len]
    refine ints_few nd fun k hk => ?_
    obtain ⟨q0, h0, rfl⟩ := (mem' k).mp ((mem k).mp hk)
    have := small q0 h0
    omega
  refine ⟨a, _, n, rfl, upd_same, by omega, fun ns b pw hm hlen hb => ?_⟩
  have hm' : ∀ k : Int, k ∈ ns ↔ ∃ q : Nat, q ∈ l ∧ k = (q : Int) := fun k => by
    rw [hm, decide_eq_true_eq]
    exact mem' k
  obtain ⟨e1, e2⟩ := nat_back hm'
  rw [e1]
  have sa : Same H (upd H a (SetO w a (fun k => decide (k ∈ l.map (fun (q : Nat) => (q : Int)))) n)) := fun b o e => by rw [upd_ne (ne_of_none e ha)]; exact e
  have sb : Same (upd H a (SetO w a (fun k => decide (k ∈ l.map (fun (q : Nat) => (q : Int)))) n)) (upd (upd H a (SetO w a (fun k => decide (k ∈ l.map (fun (q : Nat) => (q : Int)))) n)) b (.lst (nts (ns.map Int.toNat)))) := fun c o e => by rw [upd_ne (ne_of_none e hb)]; exact e
  have hbH : H b = none := by
    cases z : H b with
    | none => rfl
    | some o => rw [sa _ _ z] at hb; cases hb
  exact q b _ _ (fun c o e => sb _ _ (sa _ _ e)) hbH upd_same (toNat_asc pw fun k hk => by obtain ⟨q0, _, rfl⟩ := (hm' k).mp hk; omega) e2
end
end FA

set_option Elab.async false
set_option linter.all false
set_option maxRecDepth 100000
set_option maxHeartbeats 4000000
/-! set(xs) of many texts of which few are different. -/
namespace FA
open PySem PySem.Spec PyProof.Rows L2
section
variable {X : Cx}
theorem ixr_or {r1 r2 : R2} (h1 : IxR X r1) (h2 : IxR X r2) : IxR X (fun x y H Q => r1 x y H Q ∨ r2 x y H Q) := fun value slice pins s σ H x y v u Q I rx ry h hs => h.elim (fun h => h1 value slice pins s σ H x y v u Q I rx ry h hs) fun h => h2 value slice pins s σ H x y v u Q I rx ry h hs
def rSetTxN (K : PySem.W.Frag) (P : Program) (w : World) : List V → Hp → VK → Prop := fun xs H Q => ∃ (p : Addr) (ns ms : List Str), xs = [V.ref p] ∧ SqL K H p (ns.map V.str) ∧ (∀ x ∈ ns, x ∈ ms) ∧ ms.length ≤ 1000 ∧ ∀ q, H q = none → Q (.ref q) (upd H q (TxO P w q (met [] ns)))
theorem cr_setTxN (hc : X.calm = true) : CallR X (.type "set") (rSetTxN X.K X.prog X.w) := by
  intro pins s σ H xs us Q I r h
  obtain ⟨p, ns, ms, rfl, hs, hsub, hn, q⟩ := h
  rw [Vals.ref1 r]
  obtain ⟨its, rv, ⟨o, n, ho, h1, h2, h3⟩, hz⟩ := I.list hs
  have sa : StrsAre its ns := strs_of_vals rv
  refine call_set_texts ns (I.ok.hd hc) (items := its.toArray) ⟨o, ho, h1, n, h3⟩ (by simpa using sa) (fun i => ?_) fun h' tk hT hk => ?_
  · have h1 := nd_le (met_nd (ns.take i) [] List.nodup_nil) (b := ms) fun x hx => by
      rcases (met_mem (ns.take i) [] x).mp hx with h | h
      · cases h
      · exact hsub x (List.mem_of_mem_take h)
    have h2 := small_scan hn
    omega
  · exact ⟨.ref _, upd H s.heap.objs.size (TxO X.prog X.w s.heap.objs.size (met [] ns)), I.laid (t' := tk) hk (Nat.le_refl _) (txO_new hT), rfl, q _ (I.hok.fresh (Nat.le_refl _))⟩
end
/-- sorted(set(xs)), texts -/
theorem sort_setT {K : PySem.W.Frag} {P : Program} {w : World} {H : Hp} {p : Addr} {l ms : List Str} {Q : VK} (hp : H p = some (.lst (l.map V.str))) (hsub : ∀ x ∈ l, x ∈ ms) (hm : ms.length < 64)
    (q : ∀ b H' ys, Same H H' → H b = none → H' b = some (.lst (ys.map V.str)) → Tells ys l → Q (.ref b) H') :
    rSetTxN K P w [.ref p] H (fun v H1 => rSortedTx P w [v] H1 Q) := by
  refine ⟨p, l, ms, rfl, SqL.of hp, hsub, by omega, fun a ha => ?_⟩
  have ml := nd_le (met_nd l [] List.nodup_nil) (b := ms) fun x hx => by
    rcases (met_mem l [] x).mp hx with h | h
    · cases h
    · exact hsub x h
  refine ⟨a, _, rfl, upd_same, by omega, fun ys b pm so hb => ?_⟩
  have sa : Same H (upd H a (TxO P w a (met [] l))) := fun b o e => by rw [upd_ne (ne_of_none e ha)]; exact e
  have hbH : H b = none := by
    cases z : H b with
    | none => rfl
    | some o => rw [sa _ _ z] at hb; cases hb
  exact q b _ ys (fun c o e => by rw [upd_ne (ne_of_none (sa _ _ e) hb)]; exact sa _ _ e) hbH upd_same (tells_met pm so)
/-! ### how many names a product has -/
def nsum (p : Prd) : Nat := (p.map fun a => a.nms.length).sum
theorem nsum_app (p q : Prd) : nsum (p ++ q) = nsum p + nsum q := by simp [nsum]
theorem nms_asc (l : List Str) : (Atm.t (asc l)).nms.length ≤ l.length := asc_len l
mutual
theorem rawI_sum : ∀ i : It, ∀ p ∈ rawI i, nsum p ≤ nC i
  | .call x, p, hp => by simp only [rawI, List.mem_singleton] at hp; subst hp; simp [nsum, Atm.nms, nC]
  | .may b, p, hp => by
    simp only [rawI] at hp
    have := rawB_sum b [[]] 0 (fun q hq => by rw [List.mem_singleton.mp hq]; simp [nsum]) p hp
    simp only [nC]; omega
  | .loop b, p, hp => by
    simp only [rawI, List.mem_singleton] at hp
    subst hp
    have h1 := nms_asc (nmB b)
    rw [nmB_len] at h1
    simp only [nsum, List.map_cons, List.map_nil, List.sum_cons, List.sum_nil, nC]
    omega
  | .one bs, p, hp => by
    simp only [rawI] at hp
    simp only [nC]
    exact rawBs_sum bs p hp
theorem rawB_sum : ∀ (l : List It) (acc : List Prd) (m : Nat), (∀ p ∈ acc, nsum p ≤ m) → ∀ p ∈ rawB l acc, nsum p ≤ m + nCB l
  | [], acc, m, h, p, hp => by simp only [rawB] at hp; simp only [nCB]; exact h p hp
  | i :: r, acc, m, h, p, hp => by
    simp only [rawB] at hp
    have := rawB_sum r (cross acc (rawI i)) (m + nC i) (fun q hq => by
      obtain ⟨x, hx, y, hy, rfl⟩ := mem_cross.mp hq
      rw [nsum_app]
      have := h x hx
      have := rawI_sum i y hy
      omega) p hp
    simp only [nCB]; omega
theorem rawBs_sum : ∀ (bs : List (List It)), ∀ p ∈ rawBs bs, nsum p ≤ nCBs bs
  | [], p, hp => by simp [rawBs] at hp
  | b :: r, p, hp => by
    simp only [rawBs, List.mem_append] at hp
    simp only [nCBs]
    rcases hp with hp | hp
    · have := rawB_sum b [[]] 0 (fun q hq => by rw [List.mem_singleton.mp hq]; simp [nsum]) p hp
      omega
    · have := rawBs_sum r p hp
      omega
end
theorem lgA_sum (t : Nat) (ht : 1 ≤ t) (a : Atm) : (lgA t a).length ≤ t * a.nms.length := by
  cases a with
  | n x => simpa [lgA, Atm.nms] using ht
  | t xs =>
    show ((List.replicate t xs).flatten).length ≤ t * xs.length
    rw [List.length_flatten, List.map_replicate, List.sum_replicate_nat]
    exact Nat.le_refl _
theorem long_sum (t : Nat) (ht : 1 ≤ t) : ∀ p : Prd, (long t p).length ≤ t * nsum p
  | [] => by simp [long]
  | a :: p => by
    rw [long_cons, List.length_append]
    have h1 := lgA_sum t ht a
    have h2 := long_sum t ht p
    have : nsum (a :: p) = a.nms.length + nsum p := by simp [nsum]
    rw [this, Nat.mul_add]
    omega
theorem mem_long1 {x : Str} : ∀ {p : Prd}, x ∈ long 1 p ↔ ∃ a ∈ p, x ∈ a.nms
  | [] => by simp [long]
  | a :: p => by
    have ih := mem_long1 (x := x) (p := p)
    rw [long_cons, List.mem_append, ih]
    have h1 : x ∈ lgA 1 a ↔ x ∈ a.nms := by
      cases a with
      | n y => simp [lgA, Atm.nms]
      | t ys =>
        show x ∈ (List.replicate 1 ys).flatten ↔ x ∈ ys
        simp
    rw [h1]
    simp
theorem mem_longs {x : Str} {ps : List Prd} : x ∈ (ps.map (long 1)).flatten ↔ ∃ p ∈ ps, ∃ a ∈ p, x ∈ a.nms := by
  rw [List.mem_flatten]
  constructor
  · rintro ⟨l, hl, hx⟩
    obtain ⟨p, hp, rfl⟩ := List.mem_map.mp hl
    exact ⟨p, hp, mem_long1.mp hx⟩
  · rintro ⟨p, hp, h⟩
    exact ⟨_, List.mem_map.mpr ⟨p, hp, rfl⟩, mem_long1.mpr h⟩
end FA

set_option Elab.async false
set_option linter.all false
set_option maxRecDepth 100000
set_option maxHeartbeats 4000000
/-! sorted(d.items()), the keys texts, the values lists. -/
namespace FA
open PySem PySem.Spec PyProof.Rows L2
/-- a row of a dict: a text and an address -/
abbrev entS (e : Str × Addr) : L2.Key × V := (Sum.inr e.1, V.ref e.2)
/-- how many of the texts come ahead of one -/
def rho (ks : List Str) (y : Str) : Int := ((ks.countP fun z => decide (z.cps.toList < y.cps.toList) : Nat) : Int)
theorem countP_imp {α : Type} {P Q : α → Bool} (h : ∀ x, P x = true → Q x = true) : ∀ l : List α, l.countP P ≤ l.countP Q
  | [] => by simp
  | a :: t => by
    have ih := countP_imp h t
    simp only [List.countP_cons]
    cases hp : P a with
    | true => rw [h a hp]; simp; omega
    | false => simp; omega
theorem countP_less {α : Type} {P Q : α → Bool} (h : ∀ x, P x = true → Q x = true) : ∀ {l : List α} {y : α}, y ∈ l → Q y = true → P y = false → l.countP P < l.countP Q
  | x :: r, y, hy, q, n => by
    simp only [List.countP_cons]
    rcases List.mem_cons.mp hy with rfl | hy
    · have := countP_imp h r
      rw [q, n]; simp; omega
    · have := countP_less h hy q n
      cases hp : P x with
      | true => rw [h x hp]; simp; omega
      | false => simp; omega
theorem rho_lt {ks : List Str} {y z : Str} (hy : y ∈ ks) : decide (y.cps.toList < z.cps.toList) = decide (rho ks y < rho ks z) := by
  unfold rho
  by_cases h : y.cps.toList < z.cps.toList
  · rw [decide_eq_true h]
    have := countP_less (l := ks) (y := y) (P := fun w => decide (w.cps.toList < y.cps.toList)) (Q := fun w => decide (w.cps.toList < z.cps.toList)) (fun w hw => decide_eq_true (List.lt_trans (of_decide_eq_true hw) h)) hy (decide_eq_true h) (decide_eq_false (List.lt_irrefl _))
    exact (decide_eq_true (by omega)).symm
  · rw [decide_eq_false h]
    have h2 : z.cps.toList ≤ y.cps.toList := List.not_lt.mp h
    have := countP_imp (P := fun w : Str => decide (w.cps.toList < z.cps.toList)) (Q := fun w : Str => decide (w.cps.toList < y.cps.toList)) (fun w hw => decide_eq_true (by
      have h1 := of_decide_eq_true hw
      refine Classical.byContradiction fun n => ?_
      exact (List.not_lt.mpr (List.le_trans h2 (List.not_lt.mp n))) h1)) ks
    exact (decide_eq_false (by omega)).symm
theorem rho_le {ks : List Str} {y z : Str} (hz : z ∈ ks) (h : rho ks y ≤ rho ks z) : leS y z := by
  unfold leS
  refine List.not_lt.mp fun hlt => ?_
  have := rho_lt (ks := ks) (z := y) hz
  rw [decide_eq_true hlt] at this
  have := of_decide_eq_true this.symm
  omega
section
variable {prog : Program} {w : World} {A : Around} {E : Value → Shared → Prop} {s : Shared}
def txVal : Option Value → Str
  | some (.str x _) => x
  | _ => ⟨#[]⟩
/-- the text of a pair, read off the heap -/
def pairTx (h : Heap) (v : Value) : Str := txVal (DT.seqAt0 h (DT.refOf (some v)))
/-- v is the pair of a text y and the object m -/
def PairS (h : Heap) (v : Value) (y : Str) (m : Addr) : Prop := ∃ (a : Addr) (t : Tok), v = .ref a ∧ IsTup h a #[.str y t, .ref m]
theorem PairS.tx {h : Heap} {v : Value} {y : Str} {m : Addr} (x : PairS h v y m) : pairTx h v = y := by
  obtain ⟨a, t, rfl, h1⟩ := x
  show txVal (DT.seqAt0 h a) = y
  rw [DT.seqAt0_of h1]
  all_goals rfl
theorem eqBool_self {k : Addr} {Q : Bool → Shared → Prop} (h : Q true s) : wpAny (model prog w) A (eqBool (.ref k) (.ref k)) Q E s := by
  unfold eqBool
  refine wpAny_holding ?_
  have e : ((Value.ref k) == (Value.ref k)) = true := by simp
  rw [if_pos e]
  exact wpAny_bind (wpAny_rule (wpAny_pure h))
theorem firsts_str {h : Heap} {M : Str → Addr} : ∀ vs : List Value, (∀ v ∈ vs, ∃ y, PairS h v y (M y)) → ∃ fs : List Value, PySem.W.KatTups h vs fs ∧ fs.length = vs.length ∧ ∀ f ∈ fs, ∃ (y : Str) (t : Tok), f = Value.str y t
  | [], _ => ⟨[], PySem.W.KatTups.nil, rfl, fun f hf => by simp at hf⟩
  | v :: vs, x => by
    obtain ⟨fs, k, hl, hi⟩ := firsts_str vs fun u hu => x u (List.mem_cons_of_mem _ hu)
    obtain ⟨y, a, t, rfl, ⟨o, ho, hc, n, hd⟩⟩ := x v (List.mem_cons_self ..)
    refine ⟨.str y t :: fs, PySem.W.KatTups.cons ho hc hd rfl k, by rw [List.length_cons, List.length_cons, hl], fun f hf => ?_⟩
    rcases List.mem_cons.mp hf with rfl | hf
    · exact ⟨y, t, rfl⟩
    · exact hi f hf
theorem kind_str {vs : List Value} {ρ : Str → Int} {M : Str → Addr} (h2 : 2 ≤ vs.length) (x : ∀ v ∈ vs, ∃ y, PairS s.heap v y (M y))
    (hρ : ∀ v ∈ vs, ∀ u ∈ vs, decide ((pairTx s.heap v).cps.toList < (pairTx s.heap u).cps.toList) = decide (ρ (pairTx s.heap v) < ρ (pairTx s.heap u))) (Q : SortKind → Shared → Prop)
    (h : ∀ κ, TS.Cmp prog w A s κ (pairsOf vs) (fun v => ρ (pairTx s.heap v)) → Q κ s) : wpAny (model prog w) A (keyKind' vs.toArray) Q E s := by
  obtain ⟨fs, k, hl, hi⟩ := firsts_str vs x
  refine PySem.W.kat_kind (T := Value.type "str") k (by omega) (fun f hf => ?_) rfl (h _ ?_)
  · obtain ⟨y, t, rfl⟩ := hi f hf
    exact .now
  · have hb : (Value.type "str" != Value.type "tuple") = true := by first | rfl | decide | simp
    rw [hb]
    intro p q hp hq Q' E' hQ
    rw [pairsOf_toList] at hp hq
    have mp := (mem_zip_self hp).2
    have mq := (mem_zip_self hq).2
    obtain ⟨y, py⟩ := x _ mp
    obtain ⟨z, pz⟩ := x _ mq
    have hr := hρ _ mp _ mq
    have hQ' : Q' (decide (y.cps.toList < z.cps.toList)) s := by
      rw [py.tx, pz.tx] at hr
      rw [hr]
      have hQ2 : Q' (decide (ρ (pairTx s.heap p.1) < ρ (pairTx s.heap q.1))) s := hQ
      rw [py.tx, pz.tx] at hQ2
      exact hQ2
    obtain ⟨a, t, e1, ⟨o, ho, hc, n, hd⟩⟩ := py
    obtain ⟨a', t', e2, ⟨o', ho', hc', n', hd'⟩⟩ := pz
    rw [e1, e2]
    refine PySem.W.kat_lt ho hd ho' hd' ?_
    show PySem.W.KatLex prog w A true false Q' [(Value.str y t, Value.str z t'), (Value.ref (M y), Value.ref (M z))] 0 s
    by_cases e : y = z
    · have irr : decide (y.cps.toList < z.cps.toList) = false := by
        rw [e]
        first | exact decide_eq_false (List.lt_irrefl _) | simp
      rw [irr] at hQ'
      refine PySem.W.kat_cons (wpAny_eqBool_str ?_)
      refine PySem.W.kat_go (fun _ => ?_) (fun e0 => absurd e (of_decide_eq_false e0))
      refine PySem.W.kat_yes (PySem.W.kat_cons ?_)
      rw [e]
      exact eqBool_self (PySem.W.kat_yes (PySem.W.kat_nil hQ'))
    · refine PySem.W.kat_cons (wpAny_eqBool_str ?_)
      refine PySem.W.kat_go (fun e0 => absurd (of_decide_eq_true e0) e) (fun _ => ?_)
      refine PySem.W.kat_no ?_
      show wpAny _ _ (oneLt' true _ _) _ _ _
      exact oneLt_str hQ'
end
theorem ent_at {P : Program} {w : World} : ∀ {ks : List (Str × Addr)} {vs : List (L2.Key × Value)} {es : List DictEntry}, KV (ks.map entS) vs → Pairs (mixKind P w) es vs →
    es.length = ks.length ∧ ∀ (j : Nat) (en : DictEntry), es[j]? = some en → ∃ (e : Str × Addr) (t : Tok), ks[j]? = some e ∧ en.key = .str e.1 t ∧ en.val = .ref e.2
  | [], _, _, .nil, .nil => ⟨rfl, fun j en h => by simp at h⟩
  | k :: ks, q :: vs, e :: es, .cons r rt, .cons hk hv ht => by
    obtain ⟨i1, i2⟩ := ent_at rt ht
    refine ⟨by simp [i1], fun j en h => ?_⟩
    cases j with
    | zero =>
      simp only [List.getElem?_cons_zero, Option.some.injEq] at h
      subst h
      have hk' : keyIs q.1 e.key = true := hk
      rw [← r.1] at hk'
      rcases keyIs_shape hk' with ⟨i, t, h1, _⟩ | ⟨x, t, h1, h2⟩
      · cases h1
      · cases h1
        have h3 : L2.RelV (.ref k.2) q.2 := r.2
        have h4 : q.2 = .ref k.2 := h3
        exact ⟨k, t, rfl, h2, by rw [hv, h4]⟩
    | succ j => simpa using i2 j en (by simpa using h)
theorem map_of : ∀ ks : List (Str × Addr), (ks.map (·.1)).Nodup → ∃ M : Str → Addr, ∀ e ∈ ks, M e.1 = e.2
  | [], _ => ⟨fun _ => 0, fun e he => by cases he⟩
  | k :: r, nd => by
    rw [List.map_cons, List.nodup_cons] at nd
    obtain ⟨M, hM⟩ := map_of r nd.2
    refine ⟨fun y => if y = k.1 then k.2 else M y, fun e he => ?_⟩
    rcases List.mem_cons.mp he with rfl | he
    · simp
    · have ne : ¬ e.1 = k.1 := fun z => nd.1 (by rw [← z]; exact List.mem_map.mpr ⟨e, he, rfl⟩)
      simp only [ne, if_false]
      exact hM e he
section
variable {X : Cx}
theorem mt_itemsK : MtR X "dict.items" (fun x xs H Q => ∃ (a : Addr) (kvs : List (L2.Key × V)), x = .ref a ∧ xs = [] ∧ H a = some (.dK kvs) ∧ ∀ p, H p = none → Q (.ref p) (upd H p (DX.itemsO p a))) := by
  intro pins s σ H x xs v us Q I rx rxs h
  obtain ⟨a, kvs, rfl, rfl, ha, q⟩ := h
  cases rx
  cases rxs
  obtain ⟨hz, hd, vs, kv, o, es, ep, ho, hx, hdat, hk, hp, hn⟩ := dk_rd I.hok (.inl ha)
  refine DT.callItems (es := es) (ep := ep) hd ⟨o, ho, hx, hdat⟩ ?_
  have hf : H s.heap.objs.size = none := I.hok.fresh (Nat.le_refl _)
  exact ⟨.ref s.heap.objs.size, upd H s.heap.objs.size (DX.itemsO s.heap.objs.size a), I.laid (t' := s.toks) (fun b u e => Heap.get?_push_of_some _ e) (Nat.le_refl _) (DX.itemsO_ok (Heap.get?_push_size _ rfl)), rfl, q _ hf⟩
def rSortItK : List V → Hp → VK → Prop := fun vs H Q => ∃ (p a : Addr) (ks : List (Str × Addr)), vs = [.ref p] ∧ H p = some (DX.itemsO p a) ∧ H a = some (.dK (ks.map entS)) ∧ (ks.map (·.1)).Nodup ∧ ks.length < 64 ∧
  ∀ (H' : Hp) (l : Addr) (ps : List (Addr × Str × Addr)), (∀ b o, H b = some o → H' b = some o) → H l = none → (ps.map (·.2)).Perm ks → (ps.map (·.2.1)).Pairwise leS → H' l = some (.lst (ps.map fun z => V.ref z.1)) → (∀ z ∈ ps, H' z.1 = some (.tup [.str z.2.1, .ref z.2.2])) → Q (.ref l) H'
theorem cr_sortedItemsK (hc : X.calm = true) (hu : X.A.units + 64 < cLine) : CallR X (.builtin "sorted") rSortItK := by
  intro pins s σ H xs us Q I r h
  obtain ⟨p, a, ks, rfl, hp, ha, hnd, h64, q⟩ := h
  obtain rfl := Vals.ref1 r
  have view : s.heap.IsItemsView p a := (show ObjOk X.prog X.w H s.heap p (DX.itemsO p a) from I.hok p _ hp).1
  obtain ⟨hz, hd, vs, kv, o, es, ep, ho, hx, hdat, hkk, hpp, hn⟩ := dk_rd I.hok (.inl ha)
  obtain ⟨l2, ent⟩ := ent_at kv hpp
  rw [Array.length_toList] at l2
  have hh : X.A.handled = none := I.ok.hd hc
  obtain ⟨M, hM⟩ := map_of ks hnd
  have hesz : es.size ≤ sizeLine := by rw [sizeLine_eq]; omega
  refine DT.sortedI (es := es) (ep := ep) hh view ⟨o, ho, hx, hdat⟩ hesz fun h' tk as hk hlt hl hG => ?_
  have lak : as.length = ks.length := by omega
  have nd : as.Nodup := List.Pairwise.imp (fun h => Nat.ne_of_lt h) hG.rise
  -- the pairs that were made
  have pr : ∀ (j : Nat) (b : Addr), as[j]? = some b → ∃ (e : Str × Addr) (t : Tok), ks[j]? = some e ∧ h'.get? b = some { cls := .type "tuple", data := .seq #[Value.str e.1 t, Value.ref e.2] } := by
    intro j b hj
    obtain ⟨en, he, hg⟩ := hG.pairs j b hj
    obtain ⟨e, t, e1, e2, e3⟩ := ent j en (by rw [Array.getElem?_toList]; exact he)
    exact ⟨e, t, e1, by rw [hg, e2, e3]⟩
  -- the heap of the sort
  have hob : (h'.push { cls := .type "list", data := .seq (as.map Value.ref).toArray }).get? h'.objs.size = some (seqObj "list" (as.map Value.ref).toArray 0) := Heap.get?_push_size _ rfl
  have kb : ∀ b o, s.heap.get? b = some o → (h'.push { cls := .type "list", data := .seq (as.map Value.ref).toArray }).get? b = some o := fun b o e => Heap.get?_push_of_some _ (hk b o e)
  have ne0 : ∀ b o, h'.get? b = some o → b ≠ h'.objs.size := fun b o e => Nat.ne_of_lt (Heap.lt_size e)
  generalize hh2 : h'.push { cls := .type "list", data := .seq (as.map Value.ref).toArray } = h2 at hob kb ⊢
  have ka : ∀ b o, h'.get? b = some o → h2.get? b = some o := fun b o e => by rw [← hh2]; exact Heap.get?_push_of_some _ e
  have pin : ∀ (j : Nat) (b : Addr), as[j]? = some b → ∃ e : Str × Addr, ks[j]? = some e ∧ PairS (TS.midHeap h2 h'.objs.size (as.map Value.ref)) (.ref b) e.1 (M e.1) := by
    intro j b hj
    obtain ⟨e, t, he, hg⟩ := pr j b hj
    refine ⟨e, he, ?_⟩
    rw [hM e (List.mem_of_getElem? he)]
    exact ⟨b, t, rfl, ⟨_, TS.midHeap_old (ne0 _ _ hg) (ka _ _ hg), rfl, 0, rfl⟩⟩
  have tx : ∀ (j : Nat) (b : Addr) (e : Str × Addr), as[j]? = some b → ks[j]? = some e → pairTx (TS.midHeap h2 h'.objs.size (as.map Value.ref)) (.ref b) = e.1 := by
    intro j b e hj he
    obtain ⟨e', he', hp'⟩ := pin j b hj
    have ee : e' = e := Option.some.inj (he'.symm.trans he)
    rw [← ee]
    exact hp'.tx
  have at_ : ∀ v ∈ as.map Value.ref, ∃ (j : Nat) (b : Addr) (e : Str × Addr), v = .ref b ∧ as[j]? = some b ∧ ks[j]? = some e := by
    intro v hv'
    obtain ⟨b, hb, rfl⟩ := List.mem_map.mp hv'
    obtain ⟨j, hj⟩ := List.mem_iff_getElem?.mp hb
    obtain ⟨e, _, he, _⟩ := pr j b hj
    exact ⟨j, b, e, rfl, hj, he⟩
  refine wpAny_call_entry PyProof.Rows.slot_list_sort ⟨_, hob, rfl⟩ PyProof.Rows.entry_list_sort
    (SK.plain_sort (s := { s with heap := h2, toks := tk }) (r := fun v => rho (ks.map (·.1)) (pairTx (TS.midHeap h2 h'.objs.size (as.map Value.ref)) v)) hob (by rw [List.length_map]; omega) (fun h2' Qk hQk => ?_) fun ps out o1 o2 o3 => ⟨.none, rfl, ?_⟩) (PyProof.Rows.args_list_sort _)
  · refine kind_str (s := { s with heap := TS.midHeap h2 h'.objs.size (as.map Value.ref), toks := tk }) (ρ := rho (ks.map (·.1))) (M := M) h2' (fun v hv' => ?_) (fun v hv' u hu' => ?_) Qk hQk
    · obtain ⟨j, b, e, rfl, hj, he⟩ := at_ v hv'
      obtain ⟨e', _, hp'⟩ := pin j b hj
      exact ⟨e'.1, hp'⟩
    · obtain ⟨j, b, e, rfl, hj, he⟩ := at_ v hv'
      obtain ⟨j2, b2, e2, rfl, hj2, he2⟩ := at_ u hu'
      show decide ((pairTx (TS.midHeap h2 h'.objs.size (as.map Value.ref)) (.ref b)).cps.toList < (pairTx (TS.midHeap h2 h'.objs.size (as.map Value.ref)) (.ref b2)).cps.toList) = decide (rho (ks.map (·.1)) (pairTx (TS.midHeap h2 h'.objs.size (as.map Value.ref)) (.ref b)) < rho (ks.map (·.1)) (pairTx (TS.midHeap h2 h'.objs.size (as.map Value.ref)) (.ref b2)))
      rw [tx j b e hj he, tx j2 b2 e2 hj2 he2]
      exact rho_lt (List.mem_map.mpr ⟨e, List.mem_of_getElem? he, rfl⟩)
  · show EP X pins σ Q (.ref h'.objs.size) { s with heap := sortedHeap h2 h'.objs.size (as.map Value.ref) out, toks := tk }
    obtain ⟨zs, pz, ez⟩ := perm_lift (fun z : Addr × Str × Addr => (Value.ref z.1, Value.ref z.1)) o2 (as.zip ks) (DX.zip_self Value.ref as ks lak)
    have idx : ∀ z ∈ zs, ∃ j : Nat, as[j]? = some z.1 ∧ ks[j]? = some z.2 := by
      intro z' hz'
      obtain ⟨j, hj⟩ := List.mem_iff_getElem?.mp (pz.mem_iff.mp hz')
      exact ⟨j, List.getElem?_zip_eq_some.mp hj⟩
    have hout : out.toList = zs.map fun z => Value.ref z.1 := by
      rw [o1, ← ez, List.map_map]
      all_goals rfl
    have hperm : (zs.map (·.2)).Perm ks := by
      have e := pz.map (·.2)
      have m2 : (as.zip ks).map (·.2) = ks := List.map_snd_zip (by rw [lak]; exact Nat.le_refl _)
      rw [m2] at e
      exact e
    have hsort : (zs.map (·.2.1)).Pairwise leS := by
      rw [← ez, List.pairwise_map] at o3
      rw [List.pairwise_map]
      refine List.Pairwise.imp_of_mem (fun {x y} hx hy h => ?_) o3
      obtain ⟨j, j1, j2⟩ := idx x hx
      obtain ⟨i, i1, i2⟩ := idx y hy
      have h' : rho (ks.map (·.1)) (pairTx (TS.midHeap h2 h'.objs.size (as.map Value.ref)) (.ref x.1)) ≤ rho (ks.map (·.1)) (pairTx (TS.midHeap h2 h'.objs.size (as.map Value.ref)) (.ref y.1)) := h
      rw [tx j _ _ j1 j2, tx i _ _ i1 i2] at h'
      exact rho_le (List.mem_map.mpr ⟨y.2, List.mem_of_getElem? i2, rfl⟩) h'
    -- behind the sort
    have kF : ∀ b o, b ≠ h'.objs.size → h2.get? b = some o → (sortedHeap h2 h'.objs.size (as.map Value.ref) out).get? b = some o := fun b o hb e => (PyProof.Rows.sortedHeap_old hb (Heap.lt_size e)).trans e
    have kS : ∀ b o, s.heap.get? b = some o → (sortedHeap h2 h'.objs.size (as.map Value.ref) out).get? b = some o := fun b o e => kF b o (ne0 _ _ (hk b o e)) (kb b o e)
    obtain ⟨eF, heF⟩ := PyProof.Rows.sortedHeap_at (vs := as.map Value.ref) (out := out) hob
    have I1 : L2.Inv X pins σ H { s with heap := sortedHeap h2 h'.objs.size (as.map Value.ref) out, toks := tk } := I.kept (t' := tk) kS
    have hn0 : H h'.objs.size = none := I.hok.fresh (Nat.le_of_lt hlt)
    have hlen : (zs.map fun z => V.ref z.1).length ≤ sizeLine := by
      have e := hperm.length_eq
      rw [List.length_map] at e
      rw [List.length_map, sizeLine_eq]
      omega
    have rv : Vals (zs.map fun z => V.ref z.1) out.toList := by
      rw [hout]
      exact vals_maps (fun z : Addr × Str × Addr => V.ref z.1) (fun z => Value.ref z.1) zs fun _ _ => rfl
    have I2 : L2.Inv X pins σ (upd H h'.objs.size (.lst (zs.map fun z => V.ref z.1))) { s with heap := sortedHeap h2 h'.objs.size (as.map Value.ref) out, toks := tk } :=
      I1.take (h' := sortedHeap h2 h'.objs.size (as.map Value.ref) out) (t' := tk) (fun b ob _ e => e) (I.fpOk (Nat.le_of_lt hlt) hn0) ⟨hlen, out.toList, eF, rv, heF⟩
    obtain ⟨H2, I3, g, qt⟩ := DX.takeT (P := fun b vs => ∃ (j : Nat) (e : Str × Addr), as[j]? = some b ∧ ks[j]? = some e ∧ vs = [.str e.1, .ref e.2]) I as _ I2 nd fun b hb => by
      obtain ⟨j, hj⟩ := List.mem_iff_getElem?.mp hb
      obtain ⟨e, t, he, hg⟩ := pr j b hj
      have hbl : s.heap.objs.size ≤ b := Nat.le_of_lt (hG.above b hb)
      refine ⟨hbl, ?_, [.str e.1, .ref e.2], ⟨j, e, hj, he, rfl⟩, fun H3 => ⟨(by rw [sizeLine_eq]; show 2 ≤ 16777216; omega), [Value.str e.1 t, Value.ref e.2], .cons ⟨t, rfl⟩ (.cons rfl .nil), ⟨_, kF _ _ (ne0 _ _ hg) (ka _ _ hg), rfl, 0, rfl⟩⟩⟩
      rw [upd_ne (ne0 _ _ hg)]
      exact I.hok.fresh hbl
    have gr : ∀ b o, H b = some o → H2 b = some o := fun b o e => g b o (by rw [upd_ne (ne_of_none e hn0)]; exact e)
    refine ⟨.ref h'.objs.size, H2, I3, rfl, q H2 h'.objs.size zs gr hn0 hperm hsort (g _ _ upd_same) fun z' hz' => ?_⟩
    obtain ⟨i, i1, i2⟩ := idx z' hz'
    obtain ⟨vs, ⟨j, e, j1, j2, ev⟩, hH⟩ := qt z'.1 (List.mem_of_getElem? i1)
    have eij : i = j := (List.getElem?_inj (List.getElem?_eq_some_iff.mp i1).1 nd).mp (i1.trans j1.symm)
    subst eij
    have ee : e = z'.2 := Option.some.inj (j2.symm.trans i2)
    rw [ev, ee] at hH
    exact hH
end
end FA

set_option Elab.async false
set_option linter.all false
set_option maxRecDepth 100000
set_option maxHeartbeats 4000000
/-! set(xs) of a tuple of texts; a loop over zip of two lists, the second one shorter. -/
namespace FA
open PySem PySem.Spec PyProof.Rows L2 PySem.Froz
section
variable {P : Program} {w : World} {A : Around} {E : Value → Shared → Prop} {s : Shared} {a : Addr}
set_option maxRecDepth 100000 in
set_option maxHeartbeats 3200000 in
theorem call_set_textsT {l : Addr} {items : Array Value} (ns : List Str) {Q : Value → Shared → Prop} (hh : A.handled = none) (hl : s.heap.IsTuple l items) (hit : StrsAre items.toList ns) (hb : ∀ i, (met [] (ns.take i)).length + 1 < scanBound)
    (h : ∀ (h' : Heap) (tk : Nat), TSet P w h' s.heap.objs.size (met [] ns) → (∀ b o, s.heap.get? b = some o → h'.get? b = some o) → Q (.ref s.heap.objs.size) { s with heap := h', toks := tk }) : wpAny (model P w) A (call (.type "set") [.ref l]) Q E s := by
  have hisz : items.size = ns.length := by
    have q := StrsAre.length hit
    rw [Array.length_toList] at q
    exact q
  obtain ⟨c, tl, hmro⟩ := F.called_set.mro
  have hmade := F.called_set.made
  have hsub := F.called_set.sub
  refine wpAny_call (codeAny_of_tree ?_)
  show wpAny _ _ (callAny (.type "set") _) _ _ _
  refine wpAny_pure ⟨Code.quiet_builtin _ (by decide +kernel), codeAny_builtin F.entry_type_call ?_⟩
  rw [Around.under_plain (weight_type_call_type "set" [.ref l] []) rfl]
  have h1 := F.called_set.notType
  have h2 := F.called_set.canCreate
  have hct := F.typeCall_set_1 (.ref l)
  repeat (any_goals (first | assumption | wp_step))
  refine codeAny_mono (code_set_led1 (.ref l) (E := E) (Q₁ := fun obj s₁ => obj = .ref s.heap.objs.size ∧ s₁ = { s with heap := s.heap.push (emptyTx w) }) ⟨rfl, rfl⟩) fun r s₁ hr => ?_
  cases r with
  | error e => exact hr
  | ok fl =>
    cases fl with
    | ret obj =>
      obtain ⟨rfl, rfl⟩ := hr
      have hS : (s.heap.push (emptyTx w)).get? s.heap.objs.size = some (emptyTx w) := Heap.get?_push_size _ rfl
      have hT : Shared.TypeIs { s with heap := s.heap.push (emptyTx w) } (.ref s.heap.objs.size) "set" := ⟨_, hS, rfl⟩
      have hli := F.called_set.init.lookup
      have hbi := F.called_set.init.bind (.ref s.heap.objs.size)
      repeat (any_goals (first | assumption | wp_step))
      refine codeAny_mono (codeAny_call_builtin (R := wants (fun r s₂ => r = .none ∧ ∃ h' tk, s₂ = { s with heap := h', toks := tk } ∧ TSet P w h' s.heap.objs.size (met [] ns) ∧ (∀ b o, s.heap.get? b = some o → h'.get? b = some o)) E)
        F.called_set.init.plain F.entry_set_init (check_set_init_1 hT ?_)) fun r₂ s₂ hr₂ => ?_
      · obtain ⟨ol, hol, hcl, nl, hdl⟩ := hl
        obtain ⟨ocls, odict, odata, oslots⟩ := ol
        simp only at hcl hdl
        subst hcl; subst hdl
        have hol' : (s.heap.push (emptyTx w)).get? l = some { cls := .type "tuple", dict := odict, data := .seq items nl, slots := oslots } := Heap.get?_push_of_some _ hol
        have hsls := F.sub_tuple_set
        have hslf := F.sub_tuple_frozenset
        have hne : (Value.type "tuple" == Value.type "dict") = false := by decide
        have hl1 : (s.heap.push (emptyTx w)).IsTuple l items := ⟨_, hol', rfl, nl, rfl⟩
        unfold Builtin.«set.__init__» noKeywords Builtin.Frozenset.updateFrom
        generalize hPI : pyIter = PI
        wp_walk
        subst hPI
        refine wpAny_pyIter_tuple hl1 ?_
        refine wpAny_bind (wpAny_runValue ?_)
        have hlS : l < s.heap.objs.size := Heap.lt_size hol
        have hh3 : A.in1.in1.in1.handled = none := by simp [hh]
        have hneI : l ≠ (s.heap.push (emptyTx w)).objs.size := by
          rw [Heap.size_push]
          exact Nat.ne_of_lt (Nat.lt_succ_of_lt hlS)
        have hSf : s.heap.objs.size ∉ [(s.heap.push (emptyTx w)).objs.size, l] := by
          rw [Heap.size_push]
          simp only [List.mem_cons, List.mem_singleton, List.not_mem_nil, or_false, not_or]
          exact ⟨Nat.ne_of_lt (Nat.lt_succ_self _), Nat.ne_of_gt hlS⟩
        have hval : ∀ (i : Nat) (v : Value), items[i]? = some v → ∃ k t, ns[i]? = some k ∧ v = .str k t := fun i v hv => by
          obtain ⟨y, t, e1, e2⟩ := StrsAre.item hit i v (by rw [Array.getElem?_toList]; exact hv)
          exact ⟨y, t, e2, e1⟩
        refine set_update_texts ((Walks.tuple hh3 _ l hneI items).toS) s.heap.objs.size hSf ns hisz hb hval (items.size - 0) 0 _ (by omega) (Nat.zero_le _) ⟨⟨_, Heap.get?_push_size _ rfl, rfl, rfl⟩, (hl1.push _)⟩ ?hS0 ?hR
        case hS0 =>
          exact ts_new (Heap.get?_push_of_some _ hS)
        case hR =>
          intro s' hm hS'
          obtain ⟨h', g2, d', tk', os'⟩ := s'
          have eg : g2 = s.gens := hm.gens
          have ed : d' = s.drawn := hm.drawn
          have eo : os' = s.os := hm.os
          subst eg; subst ed; subst eo
          show wpAny _ _ _ _ _ _
          refine wpAny_pure ?_
          show wpAny _ _ (ret Value.none) _ _ _
          refine wpAny_pure ⟨rfl, h', tk', rfl, hS', fun b o e => ?_⟩
          have hb0 : b < s.heap.objs.size := Heap.lt_size e
          refine hm.heap b o ?_ (Heap.get?_push_of_some _ (Heap.get?_push_of_some _ e))
          simp only [List.mem_cons, List.mem_singleton, List.not_mem_nil, or_false, not_or]
          refine ⟨Nat.ne_of_lt hb0, ?_⟩
          rw [Heap.size_push]
          exact Nat.ne_of_lt (Nat.lt_succ_of_lt hb0)
      · cases r₂ with
        | error e => exact hr₂
        | ok fl₂ =>
          cases fl₂ with
          | ret r =>
            obtain ⟨rfl, h', tk, rfl, hS', hk'⟩ := hr₂
            repeat (any_goals (first | assumption | wp_step))
            exact h _ _ hS' hk'
          | _ => exact hr₂.elim
    | _ => exact hr.elim
end
section
variable {X : Cx}
/-- set(xs), xs a tuple of texts -/
def rSetTxT (K : PySem.W.Frag) (P : Program) (w : World) : List V → Hp → VK → Prop := fun xs H Q => ∃ (p : Addr) (ns : List Str), xs = [V.ref p] ∧ SqT K H p (ns.map V.str) ∧ ns.length ≤ 1000 ∧ ∀ q, H q = none → Q (.ref q) (upd H q (TxO P w q (met [] ns)))
theorem cr_setTxT (hc : X.calm = true) : CallR X (.type "set") (rSetTxT X.K X.prog X.w) := by
  intro pins s σ H xs us Q I r h
  obtain ⟨p, ns, rfl, hs, hn, q⟩ := h
  rw [Vals.ref1 r]
  obtain ⟨its, rv, ht, hz⟩ := I.tuple hs
  have sa : StrsAre its ns := strs_of_vals rv
  refine call_set_textsT ns (I.ok.hd hc) (items := its.toArray) ht (by simpa using sa) (fun i => by
    have h1 := met_len (ns.take i) []
    have h2 := small_scan hn
    rw [List.length_take, List.length_nil] at h1
    omega) fun h' tk hT hk => ?_
  exact ⟨.ref _, upd H s.heap.objs.size (TxO X.prog X.w s.heap.objs.size (met [] ns)), I.laid (t' := tk) hk (Nat.le_refl _) (txO_new hT), rfl, q _ (I.hok.fresh (Nat.le_refl _))⟩
theorem call_list_ofK {K : PySem.W.Frag} (hK : X.K = K) : CallR X (.type "list") (fun xs H Q => ∃ p ys, xs = [.ref p] ∧ (SqL K H p ys ∨ SqT K H p ys) ∧ ∀ l, H l = none → Q (.ref l) (upd H l (.lst ys))) := by subst hK; exact call_list_of
end
/-- sorted(set(xs)), a tuple of texts -/
theorem sort_setTT {K : PySem.W.Frag} {P : Program} {w : World} {H : Hp} {p : Addr} {l : List Str} {Q : VK} (hp : H p = some (.tup (l.map V.str))) (hm : l.length < 64)
    (q : ∀ b H' ys, Same H H' → H b = none → H' b = some (.lst (ys.map V.str)) → Tells ys l → Q (.ref b) H') :
    rSetTxT K P w [.ref p] H (fun v H1 => rSortedTx P w [v] H1 Q) := by
  refine ⟨p, l, rfl, SqT.of hp, by omega, fun a ha => ?_⟩
  have ml := met_len l []
  rw [List.length_nil] at ml
  refine ⟨a, _, rfl, upd_same, by omega, fun ys b pm so hb => ?_⟩
  have sa : Same H (upd H a (TxO P w a (met [] l))) := fun b o e => by rw [upd_ne (ne_of_none e ha)]; exact e
  have hbH : H b = none := by
    cases z : H b with
    | none => rfl
    | some o => rw [sa _ _ z] at hb; cases hb
  exact q b _ ys (fun c o e => by rw [upd_ne (ne_of_none (sa _ _ e) hb)]; exact sa _ _ e) hbH upd_same (tells_met pm so)
/-- a loop over zip of two lists, the second one no longer than the first -/
theorem for_zipU {K : PySem.W.Frag} {a b : Addr} {xs ys : List V} {g : TG} {tb : TS} {D : L2.Ends} {σ : L2.St} {H : Hp} (hl : ys.length ≤ xs.length) (Pv : Nat → L2.St → Hp → Prop) (h0 : Pv 0 σ H) (hq : ∀ i σ H, Pv i σ H → SqL K H a xs ∧ SqL K H b ys)
    (hs : ∀ (i : Nat) (x y : V) (T : Addr) (σ : L2.St) (H : Hp), xs[i]? = some x → ys[i]? = some y → Pv i σ H → H T = none → g (.ref T) σ (upd H T (.tup [x, y])) fun σ2 H2 => tb { D with nx := Pv (i + 1), ct := Pv (i + 1), bk := D.nx } σ2 H2) (hd : ∀ σ H, Pv ys.length σ H → D.nx σ H) :
    ∃ W : Nat → Nat → L2.St → Hp → Prop, (∃ m, W 0 m σ H) ∧ ∀ i m σ H, W i m σ H →
      ((Itz K a b).stop i H ∧ D.nx σ H) ∨ ((Itz K a b).go i H ∧ ∃ N : L2.St → Hp → Prop, (∀ σ' H', N σ' H' → ∃ m', m' < m ∧ W (i + 1) m' σ' H') ∧ ∀ v H', (Itz K a b).yld i H v H' → g v σ H' fun σ2 H2 => tb { D with nx := N, ct := N, bk := D.nx } σ2 H2) := by
  refine ⟨fun i m σ H => m = ys.length - i ∧ i ≤ ys.length ∧ Pv i σ H, ⟨ys.length, rfl, Nat.zero_le _, h0⟩, ?_⟩
  rintro i m σ H ⟨rfl, hi, p⟩
  obtain ⟨qx, qy⟩ := hq i σ H p
  by_cases hlt : i < ys.length
  · have hlt2 : i < xs.length := by omega
    have hx : xs[i]? = some xs[i] := List.getElem?_eq_getElem hlt2
    have hy : ys[i]? = some ys[i] := List.getElem?_eq_getElem hlt
    refine .inr ⟨⟨xs, ys, _, _, qx, qy, hx, hy⟩, Pv (i + 1), fun σ' H' p' => ⟨ys.length - (i + 1), by omega, rfl, hlt, p'⟩, fun v H' y => ?_⟩
    obtain ⟨T, x', y', rfl, hT, rfl, f1, f2⟩ := y
    exact hs i x' y' T σ H (f1 xs qx) (f2 ys qy) p hT
  · have e : i = ys.length := by omega
    subst e
    exact .inl ⟨⟨xs, ys, qx, qy, Or.inr (Nat.le_refl _)⟩, hd σ H p⟩
end FA

set_option Elab.async false
set_option linter.all false
set_option maxRecDepth 100000
set_option maxHeartbeats 1000000
/-! Words of a product by rows: which beginnings of a word the atoms can use up. -/
namespace FA
open PySem PySem.Spec PyProof.Rows L2
theorem LP_snoc {q : Prd} {a : Atm} {u : List Str} : LP (q ++ [a]) u ↔ ∃ v w, u = v ++ w ∧ LP q v ∧ LA a w := by
  rw [LP_app]
  constructor
  · rintro ⟨v, w, e, h1, h2⟩
    exact ⟨v, w, e, h1, LP_one.mp h2⟩
  · rintro ⟨v, w, e, h1, h2⟩
    exact ⟨v, w, e, h1, LP_one.mpr h2⟩
theorem LP_step_n {q : Prd} {x y : Str} {v : List Str} : LP (q ++ [.n x]) (v ++ [y]) ↔ LP q (v ++ [y]) ∨ (LP q v ∧ y = x) := by
  rw [LP_snoc]
  constructor
  · rintro ⟨a, b, e, h1, h2⟩
    rcases h2 with rfl | rfl
    · rw [List.append_nil] at e
      exact .inl (e ▸ h1)
    · obtain ⟨e1, e2⟩ := List.append_inj' e rfl
      cases e2
      exact .inr ⟨e1 ▸ h1, rfl⟩
  · rintro (h | ⟨h, rfl⟩)
    · exact ⟨v ++ [y], [], by simp, h, .inl rfl⟩
    · exact ⟨v, [y], rfl, h, .inr rfl⟩
theorem LP_step_t {q : Prd} {xs : List Str} {y : Str} {v : List Str} : LP (q ++ [.t xs]) (v ++ [y]) ↔ LP q (v ++ [y]) ∨ (LP (q ++ [.t xs]) v ∧ y ∈ xs) := by
  rw [LP_snoc, LP_snoc]
  constructor
  · rintro ⟨a, b, e, h1, h2⟩
    have h2 : ∀ z ∈ b, z ∈ xs := h2
    rcases List.eq_nil_or_concat b with rfl | ⟨b', z, rfl⟩
    · rw [List.append_nil] at e
      exact .inl (e ▸ h1)
    · rw [List.concat_eq_append] at e h2
      rw [← List.append_assoc] at e
      obtain ⟨e1, e2⟩ := List.append_inj' e rfl
      cases e2
      exact .inr ⟨⟨a, b', e1, h1, fun z hz => h2 z (List.mem_append_left _ hz)⟩, h2 y (by simp)⟩
  · rintro (h | ⟨⟨a, b, rfl, h1, h2⟩, hy⟩)
    · exact ⟨v ++ [y], [], by simp, h, fun z hz => by cases hz⟩
    · have h2 : ∀ z ∈ b, z ∈ xs := h2
      refine ⟨a, b ++ [y], by rw [List.append_assoc], h1, fun z hz => ?_⟩
      rcases List.mem_append.mp hz with h | h
      · exact h2 z h
      · rw [List.mem_singleton.mp h]; exact hy
theorem take_snoc {u : List Str} {j : Nat} {y : Str} (h : u[j]? = some y) : u.take (j + 1) = u.take j ++ [y] := by
  rw [List.take_add_one, h]
  rfl
/-- a list of bools -/
def bls (f : Nat → Bool) (n : Nat) : List V := (List.range n).map fun j => V.bl (f j)
theorem bls_len (f : Nat → Bool) (n : Nat) : (bls f n).length = n := by simp [bls]
theorem bls_get {f : Nat → Bool} {n j : Nat} (h : j < n) : (bls f n)[j]? = some (.bl (f j)) := by simp [bls, h]
theorem bls_congr {f g : Nat → Bool} {n : Nat} (h : ∀ j, j < n → f j = g j) : bls f n = bls g n := by
  apply List.map_congr_left
  intro j hj
  rw [h j (List.mem_range.mp hj)]
theorem bls_set {f : Nat → Bool} {n k : Nat} {b : Bool} : (bls f n).set k (.bl b) = bls (fun j => if j = k then b else f j) n := by
  apply List.ext_getElem?
  intro j
  rw [List.getElem?_set]
  by_cases hj : j < n
  · rw [bls_get hj, bls_get hj]
    by_cases e : k = j
    · subst e
      simp [bls_len, hj]
    · rw [if_neg e, if_neg (fun z => e z.symm)]
  · rw [List.getElem?_eq_none (by rw [bls_len]; omega)]
    by_cases e : k = j
    · subst e
      simp [bls_len, hj]
    · rw [if_neg e, List.getElem?_eq_none (by rw [bls_len]; omega)]
/-- which beginnings of a word are words of the product -/
noncomputable def sw (p : Prd) (u : List Str) (j : Nat) : Bool := open Classical in decide (LP p (u.take j))
theorem sw_iff {p : Prd} {u : List Str} {j : Nat} : sw p u j = true ↔ LP p (u.take j) := by
  unfold sw
  exact @decide_eq_true_iff _ (Classical.propDecidable _)
theorem sw_zero (p : Prd) (u : List Str) : sw p u 0 = true := sw_iff.mpr (by rw [List.take_zero]; exact LP.nil p)
theorem bool_eq {a b : Bool} (h : a = true ↔ b = true) : a = b := by cases a <;> cases b <;> simp_all
theorem sw_start (u : List Str) : V.bl true :: List.replicate u.length (V.bl false) = bls (sw [] u) (u.length + 1) := by
  apply List.ext_getElem?
  intro j
  cases j with
  | zero => rw [bls_get (by omega), sw_zero]; rfl
  | succ j =>
    rw [List.getElem?_cons_succ]
    by_cases hj : j < u.length
    · rw [bls_get (by omega), List.getElem?_replicate, if_pos hj]
      congr 2
      refine bool_eq ⟨fun z => (by cases z), fun z => ?_⟩
      have z : u.take (j + 1) = [] := sw_iff.mp z
      have := congrArg List.length z
      rw [List.length_take, List.length_nil] at this
      omega
    · rw [List.getElem?_eq_none (by rw [List.length_replicate]; omega), List.getElem?_eq_none (by rw [bls_len]; omega)]
theorem sw_n {q : Prd} {x y : Str} {u : List Str} {j : Nat} (h : u[j]? = some y) : sw (q ++ [.n x]) u (j + 1) = (sw q u (j + 1) || (sw q u j && decide (y = x))) := by
  apply bool_eq
  rw [Bool.or_eq_true, Bool.and_eq_true, decide_eq_true_iff, sw_iff, sw_iff, sw_iff, take_snoc h]
  exact LP_step_n
theorem sw_t {q : Prd} {xs : List Str} {y : Str} {u : List Str} {j : Nat} (h : u[j]? = some y) : sw (q ++ [.t xs]) u (j + 1) = (sw q u (j + 1) || (sw (q ++ [.t xs]) u j && decide (y ∈ xs))) := by
  apply bool_eq
  rw [Bool.or_eq_true, Bool.and_eq_true, decide_eq_true_iff, sw_iff, sw_iff, sw_iff, take_snoc h]
  exact LP_step_t
/-- the row while it is made: up to k the new one -/
noncomputable def swm (q : Prd) (a : Atm) (u : List Str) (k j : Nat) : Bool := if j ≤ k then sw (q ++ [a]) u j else sw q u j
theorem swm_zero (q : Prd) (a : Atm) (u : List Str) (n : Nat) : bls (sw q u) n = bls (swm q a u 0) n := bls_congr fun j _ => by
  unfold swm
  by_cases h : j ≤ 0
  · have : j = 0 := by omega
    subst this
    rw [if_pos h, sw_zero, sw_zero]
  · rw [if_neg h]
theorem swm_next (q : Prd) (a : Atm) (u : List Str) (k n : Nat) : (bls (swm q a u k) n).set (k + 1) (.bl (sw (q ++ [a]) u (k + 1))) = bls (swm q a u (k + 1)) n := by
  rw [bls_set]
  refine bls_congr fun j _ => ?_
  unfold swm
  by_cases e : j = k + 1
  · subst e
    rw [if_pos rfl, if_pos (Nat.le_refl _)]
  · rw [if_neg e]
    by_cases h : j ≤ k
    · rw [if_pos h, if_pos (by omega)]
    · rw [if_neg h, if_neg (by omega)]
theorem swm_last (q : Prd) (a : Atm) (u : List Str) : bls (swm q a u u.length) (u.length + 1) = bls (sw (q ++ [a]) u) (u.length + 1) := bls_congr fun j hj => by
  unfold swm
  rw [if_pos (by omega)]
end FA

set_option Elab.async false
set_option linter.all false
set_option maxRecDepth 100000
set_option maxHeartbeats 1000000
/-! Products as data that are compared. -/
namespace FA
open PySem PySem.Spec PyProof.Rows L2
theorem canAll_map {α : Type} {f : α → PyData} : ∀ {l : List α}, (∀ a ∈ l, (f a).canLay0 = true) → PyData.canLayAll0 (l.map f) = true
  | [], _ => rfl
  | a :: r, h => by
    simp only [List.map_cons, PyData.canLayAll0, h a (by simp), Bool.true_and]
    exact canAll_map fun b hb => h b (List.mem_cons_of_mem _ hb)
theorem depthAll_map {α : Type} {f : α → PyData} {k : Nat} : ∀ {l : List α}, (∀ a ∈ l, (f a).depth ≤ k) → PyData.depthAll (l.map f) ≤ k
  | [], _ => by simp [PyData.depthAll]
  | a :: r, h => by
    have h1 := h a (by simp)
    have h2 := depthAll_map (f := f) (k := k) (l := r) fun b hb => h b (List.mem_cons_of_mem _ hb)
    simp only [List.map_cons, PyData.depthAll]
    omega
theorem dA_lay {a : Atm} (h : ∀ x ∈ a.nms, okName x) : (dA a).canLay0 = true ∧ (dA a).depth ≤ 1 := by
  cases a with
  | n x => exact ⟨by simp only [dA, PyData.canLay0]; exact (h x (by simp [Atm.nms])).strOk, by simp [dA, PyData.depth]⟩
  | t xs =>
    refine ⟨?_, ?_⟩
    · simp only [dA, PyData.canLay0]
      exact canAll_map fun x hx => by simp only [PyData.canLay0]; exact (h x hx).strOk
    · simp only [dA, PyData.depth]
      have := depthAll_map (f := PyData.str) (k := 0) (l := xs) fun x hx => by simp [PyData.depth]
      omega
theorem dPd_lay {p : Prd} (h : ∀ a ∈ p, ∀ x ∈ a.nms, okName x) : (dPd p).canLay0 = true ∧ (dPd p).depth ≤ 2 := by
  refine ⟨?_, ?_⟩
  · simp only [dPd, PyData.canLay0]
    exact canAll_map fun a ha => (dA_lay (h a ha)).1
  · simp only [dPd, PyData.depth]
    have := depthAll_map (f := dA) (k := 1) (l := p) fun a ha => (dA_lay (h a ha)).2
    omega
theorem prds_shaped {ps : List Prd} (h : ∀ p ∈ ps, ∀ a ∈ p, ∀ x ∈ a.nms, okName x) : SeqAt.shaped (dPds ps) = true := by
  refine dt_shaped (canAll_map fun p hp => (dPd_lay (h p hp)).1) ?_
  have := depthAll_map (f := dPd) (k := 2) (l := ps) fun p hp => (dPd_lay (h p hp)).2
  omega
theorem eqv_none (ds : List PyData) : PyData.eqv (.list ds) (.list []) = ds.isEmpty := by
  cases ds with
  | nil => simp [PyData.eqv, PyData.eqvAll]
  | cons d r => simp [PyData.eqv, PyData.eqvAll]
theorem AtsAt.dp' {K : PySem.W.Frag} {H : Hp} : ∀ {vs : List V} {p : Prd}, AtsAt H vs p → DpAll K H vs (p.map dA)
  | _, _, .nil => .nil
  | _, _, .cons h t => .cons h.dp t.dp'
theorem PdsAt.dp' {K : PySem.W.Frag} {H : Hp} : ∀ {vs : List V} {ps : List Prd}, PdsAt H vs ps → DpAll K H vs (ps.map dPd)
  | _, _, .nil => .nil
  | _, _, .cons ⟨_, h1, h2⟩ t => .cons (.lst (SqL.of h1) h2.dp') t.dp'
/-- some products, as they lie in a list -/
theorem PdsAt.snoc {H : Hp} {b : Addr} {p : Prd} (hp : PdAt H b p) : ∀ {vs : List V} {ps : List Prd}, PdsAt H vs ps → PdsAt H (vs ++ [.ref b]) (ps ++ [p])
  | _, _, .nil => .cons hp .nil
  | _, _, .cons h t => .cons h (t.snoc hp)
end FA

set_option Elab.async false
set_option linter.all false
set_option maxRecDepth 100000
set_option maxHeartbeats 1000000
/-! Normal forms as they are judged; texts that can be compared. -/
namespace FA
open PySem PySem.Spec PyProof.Rows L2
theorem joinL_all {N : Nat} : ∀ {l : List (List Nat)}, 32 < N → (∀ x ∈ l, ∀ c ∈ x, c < N) → ∀ c ∈ TL.joinL [32] l, c < N
  | [], _, _, c, hc => by cases hc
  | x :: l, hN, h, c, hc => by
    rw [join_rst] at hc
    rcases List.mem_append.mp hc with hc | hc
    · exact h x (by simp) c hc
    · cases l with
      | nil => cases hc
      | cons y ys =>
        rcases List.mem_cons.mp hc with rfl | hc
        · exact hN
        · exact joinL_all hN (fun z hz => h z (List.mem_cons_of_mem _ hz)) c hc
theorem name_small {x : Str} (h : okName x) : ∀ c ∈ TL.tl x, c < 1114112 := fun c hc => by
  have := h.lets.1 c hc
  simp only [isLet, decide_eq_true_eq] at this
  omega
theorem aT_small {a : Atm} (h : ∀ x ∈ a.nms, okName x) : ∀ c ∈ aT a, c < 1114112 := by
  cases a with
  | n x => exact name_small (h x (by simp [Atm.nms]))
  | t xs =>
    intro c hc
    rcases List.mem_cons.mp hc with rfl | hc
    · decide
    · rcases List.mem_append.mp hc with hc | hc
      · refine joinL_all (by decide) (fun z hz => ?_) c hc
        obtain ⟨y, hy, rfl⟩ := List.mem_map.mp hz
        exact name_small (h y hy)
      · rw [List.mem_singleton.mp hc]
        decide
theorem strOk_of {x : Str} (h : ∀ c ∈ TL.tl x, c < 1114112) : PyData.strOk x = true := by
  unfold PyData.strOk
  rw [Array.all_eq_true']
  intro c hc
  have := h c (by simpa [TL.tl] using hc)
  exact decide_eq_true (by omega)
theorem atom_strOk {a : Atm} (h : ∀ x ∈ a.nms, okName x) : PyData.strOk (atomText a) = true := strOk_of fun c hc => by
  rw [tl_atom] at hc
  exact aT_small h c hc
theorem prd_strOk {p : Prd} (h : ∀ a ∈ p, ∀ x ∈ a.nms, okName x) : PyData.strOk (prdText p) = true := by
  cases p with
  | nil => decide +kernel
  | cons a r =>
    refine strOk_of fun c hc => ?_
    have e : TL.tl (prdText (a :: r)) = TL.joinL [32] ((a :: r).map aT) := by
      show TL.tl (Txt.join " " ((a :: r).map atomText)) = _
      rw [TL.join_eq, TL.tl_join, tl_sp, List.map_map]
      congr 1
      exact List.map_congr_left fun b _ => tl_atom b
    rw [e] at hc
    refine joinL_all (by decide) (fun z hz => ?_) c hc
    obtain ⟨y, hy, rfl⟩ := List.mem_map.mp hz
    exact aT_small (h y hy)
theorem strs_lay {ls : List Str} (h : ∀ x ∈ ls, PyData.strOk x = true) : SeqAt.shaped (.list (ls.map PyData.str)) = true := by
  refine dt_shaped (canAll_map fun x hx => by simp only [PyData.canLay0]; exact h x hx) ?_
  have := depthAll_map (f := PyData.str) (k := 0) (l := ls) fun x hx => by simp [PyData.depth]
  omega
theorem other_ne {l : List Str} (nd : l.Nodup) {i : Nat} {x y : Str} (hx : l[i]? = some x) (hy : y ∈ l.take i ++ l.drop (i + 1)) : y ≠ x := by
  rintro rfl
  have hi : i < l.length := (List.getElem?_eq_some_iff.mp hx).1
  have e : l = l.take i ++ y :: l.drop (i + 1) := by
    conv => lhs; rw [← List.take_append_drop i l]
    rw [List.drop_eq_getElem_cons hi, (List.getElem?_eq_some_iff.mp hx).2]
  rw [e] at nd
  exact (List.nodup_cons.mp (List.perm_middle.nodup nd)).1 hy
structure NF (ps : List Prd) : Prop where
  tx : Tells (ps.map prdText) (ps.map prdText)
  no : ∀ p ∈ ps, NoIdle p
  ap : ∀ i p, ps[i]? = some p → prdIn (ps.take i ++ ps.drop (i + 1)) p = false
theorem normal_nf (raw : List Prd) : NF (normal raw) := by
  obtain ⟨ss, hss⟩ : ∃ ss, ss = raw.map idle := ⟨_, rfl⟩
  obtain ⟨ts, hts⟩ : ∃ ts, ts = asc (ss.map prdText) := ⟨_, rfl⟩
  have tl := asc_tells (ss.map prdText)
  rw [← hts] at tl
  have inS : ∀ x ∈ ts, byText ss x ∈ ss ∧ prdText (byText ss x) = x := fun x hx => by
    obtain ⟨s, hs, rfl⟩ := List.mem_map.mp ((tl.mem x).mp hx)
    exact byText_in hs
  obtain ⟨c, hc⟩ : ∃ c : Str → Bool, c = fun x => !(ts.any fun y => !decide (y = x) && within (byText ss x) (byText ss y)) := ⟨_, rfl⟩
  have e : normal raw = (ts.filter c).map (byText ss) := by
    unfold normal
    rw [hc, hts, hss]
  have et : (normal raw).map prdText = ts.filter c := by
    rw [e, List.map_map]
    conv => rhs; rw [← List.map_id (ts.filter c)]
    apply List.map_congr_left
    intro x hx
    exact (inS x (List.mem_filter.mp hx).1).2
  have nd := tl.nd.filter c
  refine ⟨?_, ?_, ?_⟩
  · rw [et]
    exact ⟨nd, tx_filter c tl.so, fun _ => Iff.rfl⟩
  · intro p hp
    obtain ⟨q, _, rfl⟩ := normal_sub hp
    exact idle_no q
  · intro i p hi
    rw [e] at hi ⊢
    rw [List.getElem?_map] at hi
    cases hx : (ts.filter c)[i]? with
    | none => rw [hx] at hi; cases hi
    | some x =>
      rw [hx] at hi
      cases hi
      cases h : prdIn (((ts.filter c).map (byText ss)).take i ++ ((ts.filter c).map (byText ss)).drop (i + 1)) (byText ss x) with
      | false => rfl
      | true =>
        exfalso
        obtain ⟨q, hq, hw⟩ := List.any_eq_true.mp h
        rw [← List.map_take, ← List.map_drop, ← List.map_append] at hq
        obtain ⟨y, hy, rfl⟩ := List.mem_map.mp hq
        have yx := other_ne nd hx hy
        have hyt : y ∈ ts := by
          rcases List.mem_append.mp hy with h | h
          · exact (List.mem_filter.mp (List.mem_of_mem_take h)).1
          · exact (List.mem_filter.mp (List.mem_of_mem_drop h)).1
        have cx := (List.mem_filter.mp (List.mem_of_getElem? hx)).2
        rw [hc] at cx
        have : (ts.any fun y => !decide (y = x) && within (byText ss x) (byText ss y)) = true := List.any_eq_true.mpr ⟨y, hyt, by rw [hw, decide_eq_false yx]; rfl⟩
        simp only [this] at cx
        cases cx
theorem NP_full {ns : List Str} {l : List It} (ok : okB ns l) (c5 : nCB l ≤ 5) : ∀ p ∈ NP l, ∀ a ∈ p, AscA a ∧ full a := fun p hp a ha => by
  obtain ⟨q, hq, rfl⟩ := normal_sub hp
  have okp := (rawB_ok l [[]] 0 ok c5 (fun p hp => by rw [List.mem_singleton.mp hp]; exact .nil) q hq)
  exact ⟨idle_all (rawB_asc l [[]] empty_asc q hq) a ha, idleR_all (Pp := fun c => full c) q [] (raw_full okp) (fun _ z => by cases z) a (List.mem_reverse.mp ha)⟩
/-- two neighbours: neither is idle beside the other -/
theorem NoIdle.at {p : Prd} (h : NoIdle p) {i : Nat} {a b : Atm} (ha : p[i]? = some a) (hb : p[i + 1]? = some b) : Adj a b := noIdle_iff.mp h i a b ha hb
end FA

set_option Elab.async false
set_option linter.all false
set_option maxRecDepth 100000
set_option maxHeartbeats 1000000
/-! Normal forms: how many names; raw products are within them. -/
namespace FA
open PySem PySem.Spec PyProof.Rows L2
theorem nsum_cons (a : Atm) (p : Prd) : nsum (a :: p) = a.nms.length + nsum p := by simp [nsum]
theorem nsum_rev (p : Prd) : nsum p.reverse = nsum p := by
  induction p with
  | nil => rfl
  | cons a r ih =>
    rw [List.reverse_cons, nsum_app, ih, nsum_cons, nsum_cons]
    simp [nsum]
    omega
theorem nsum_drop (c : Atm → Bool) : ∀ p : Prd, nsum (p.dropWhile c) ≤ nsum p
  | [] => Nat.le_refl _
  | a :: r => by
    rw [List.dropWhile_cons]
    split
    · have := nsum_drop c r
      rw [nsum_cons]
      omega
    · exact Nat.le_refl _
theorem nsum_pop (a : Atm) (k : Prd) : nsum (popI a k) ≤ nsum k := by
  cases a with
  | n x => exact Nat.le_refl _
  | t xs => exact nsum_drop _ k
theorem nsum_put (a : Atm) (k : Prd) : nsum (putI a k) ≤ a.nms.length + nsum k := by
  unfold putI
  split
  · split
    · omega
    · rw [nsum_cons]; omega
  · rw [nsum_cons]; omega
theorem nsum_idleR : ∀ (p kept : Prd), nsum (idleR kept p) ≤ nsum kept + nsum p
  | [], kept => by simp [idleR]
  | a :: r, kept => by
    have h1 := nsum_idleR r (putI a (popI a kept))
    have h2 := nsum_put a (popI a kept)
    have h3 := nsum_pop a kept
    rw [nsum_cons]
    simp only [idleR]
    omega
theorem nsum_idle (p : Prd) : nsum (idle p) ≤ nsum p := by
  have := nsum_idleR p []
  have e : nsum ([] : Prd) = 0 := rfl
  unfold idle
  rw [nsum_rev]
  omega
theorem NP_nsum {l : List It} (c5 : nCB l ≤ 5) : ∀ q ∈ NP l, nsum q ≤ 5 := fun q hq => by
  obtain ⟨p, hp, rfl⟩ := normal_sub hq
  have h1 := rawB_sum l [[]] 0 (fun q hq => by rw [List.mem_singleton.mp hq]; simp [nsum]) p hp
  have h2 := nsum_idle p
  omega
theorem raw_in {ns : List Str} (hn : ∀ x ∈ ns, okName x) {l : List It} (ok : okB ns l) (c5 : nCB l ≤ 5) (len : ∀ r ∈ NP l, r.length ≤ 5) : ∀ p ∈ rawB l [[]], prdIn (NP l) p = true := fun p hp => by
  have okp := rawB_ok l [[]] 0 ok c5 (fun p hp => by rw [List.mem_singleton.mp hp]; exact .nil) p hp
  rw [prdIn_long (raw_full okp) (t := 6) fun r hr => by have := len r hr; omega, NP_pt hn ok c5]
  obtain ⟨v, w, e, h1, h2⟩ := (rawB_pt l ok [[]] (long 6 p)).mp ⟨p, hp, long_lp 6 p⟩
  obtain ⟨q, hq, h1⟩ := h1
  rw [List.mem_singleton.mp hq] at h1
  have h1 : v = [] := h1
  rw [h1, List.nil_append] at e
  rw [e]
  exact h2
end FA

set_option Elab.async false
set_option linter.all false
set_option maxRecDepth 100000
set_option maxHeartbeats 8000000
namespace K09
open PySem PySem.Spec PyProof.Rows L2 FA
variable {P : Program} {w : World} {K : PySem.W.Frag} {mg : Str → Option Value} {base : Heap}
def spAtomWithin : Sp := fun vs H Q _ => ∃ (v o : V) (a b : Atm), vs = [v, o] ∧ AtAt H v a ∧ AtAt H o b ∧ (∀ x ∈ a.nms, FA.okName x) ∧ (∀ x ∈ b.nms, FA.okName x) ∧ a.nms.length ≤ 5 ∧ ∀ H', Same H H' → Q (.bl (isW a b)) H'
theorem okAtomWithin (T : Txt K mg) : FnOk P w K mg base CX0 1 T.aIsAtomWithin T.fIsAtomWithin ["atom", "other"] spAtomWithin := by
  refine T.FIsAtomWithin.ok scIsAtomWithin (fun vs H Q E h => ?_) (fun cdv A outer s H vs Q E hr h => ?_)
  · obtain ⟨v, o, a, b, rfl, _⟩ := h
    rfl
  obtain ⟨v, o, a, b, rfl, ha, hb, na, nb, la, q⟩ := h
  have hu := hu_of hr
  refine ⟨_, (pss_cons (ps_if (pt_val (pe_callB call_isi (by rfl) T.n_isinstance (by decide +kernel) (pa_cons (pv 1) (pa_cons (pe_bltn (v := .ty "str") (by rfl) T.n_str (by decide +kernel) rfl) pa_nil))))
        (pss_one (ps_ret (pe_cmpR (op_eqD hr.units) (pv 0) (pv 1) (nomark _)))) pss_nil)
      (pss_cons (ps_set (i := 2) scIsAtomWithin.nd rfl (by first | exact Or.inl rfl | exact Or.inr rfl) (pe_ifExp (pt_val (pe_callB call_isi (by rfl) T.n_isinstance (by decide +kernel) (pa_cons (pv 0) (pa_cons (pe_bltn (v := .ty "str") (by rfl) T.n_str (by decide +kernel) rfl) pa_nil)))) (pe_lst (pa_cons (pv 0) pa_nil)) (pv 0)))
      (pss_one (ps_ret (pe_callB (cr_all rfl) (by rfl) T.n_all (by decide +kernel) (pa_cons (pe_lc (own := [("name", 3)]) (g := gName 3) (tt := tYes) rfl scIsAtomWithin.nd (pi_seq (pv 2)) (blkOk_by (N := ["atom", "other", "names", "name"]) (sc := defScope sIsAtomWithin) (by decide +kernel)) (fun _ _ _ _ _ => (pg_name (i := 3) scIsAtomWithin.nd rfl (by first | exact Or.inl rfl | exact Or.inr rfl))) (fun _ _ _ _ _ => pts_nil) (fun _ _ _ _ _ => (pe_cmpR (op_in_seqK (K := K) rfl) (pv 3) (pv 1) (by rfl)))) pa_nil)))))), ?_⟩
  cases hb with
  | n y =>
    refine ⟨_, rfl, _, _, _, _, true, rfl, .ty _, ty_str y, kit_ty (by decide +kernel), _, rfl, iteT ?_⟩
    refine ⟨_, rfl, _, rfl, dA a, .str y, ha.dp, .str y, atm_shaped na, atm_shaped (a := .n y) nb, ?_⟩
    rw [eqv_atm]
    exact q H (Same.refl _)
  | @t ob ys hob =>
    refine ⟨_, rfl, _, _, _, _, false, rfl, .ty _, ty_tup hob, kit_ty (by decide +kernel), _, rfl, iteF ?_⟩
    have all_of : ∀ (xs : List Str) (ws : List V), ws.length = xs.length → (∀ (j : Nat) (y : V), ws[j]? = some y → ∃ x, xs[j]? = some x ∧ y = .bl (decide (x ∈ ys))) → ∃ bs : List Bool, ws = bs.map V.bl ∧ bs.all id = xs.all fun x => decide (x ∈ ys) := fun xs ws hl hg => by
      refine ⟨xs.map fun x => decide (x ∈ ys), ?_, by rw [List.all_map]; rfl⟩
      rw [List.map_map]
      exact ext_map hl hg
    cases ha with
    | n x =>
      refine ⟨_, rfl, _, _, _, _, true, rfl, .ty _, ty_str x, kit_ty (by decide +kernel), _, rfl, iteT ?_⟩
      refine ⟨_, rfl, Nat.le_of_lt (small1000 (by simp)), fun p hp => ?_⟩
      have s1 := same_upd0 hp (.lst [V.str x])
      have e1 : (upd H p (.lst [V.str x])) p = some (.lst (([x] : List Str).map V.str)) := upd_same
      generalize upd H p (.lst [V.str x]) = H1 at s1 e1 ⊢
      refine .inl ⟨_, rfl, p, rfl, ⟨_, SqL.of e1⟩, fun D hD => lcS (n := 1) hD (small1000 (by decide)) _ (fun j v _ => ∃ x', ([x] : List Str)[j]? = some x' ∧ v = .bl (decide (x' ∈ ys))) (go_l (SqL.of e1)) (stop_l (SqL.of e1)) (yld_l (SqL.of e1)) (fun _ _ _ _ _ h => h) ?_ ?_⟩
      · intro j y H2 R hj hy s2 kk
        obtain ⟨x', e2, rfl⟩ := str_get hy
        refine ⟨rfl, _, rfl, _, rfl, ob, _, rfl, .inr (SqT.of (s2 _ _ (s1 _ _ hob))), rfl, strs_flat _, ?_⟩
        refine kk _ _ (Same.refl _) ⟨x', e2, ?_⟩
        show V.bl (inV (.str x') (ys.map V.str)) = _
        rw [inV_strs]
      · intro H2 ws s2 hws hwl hg
        obtain ⟨bs, rfl, eb⟩ := all_of [x] ws hwl hg
        refine ⟨D, bs, rfl, SqL.of hws, ?_⟩
        rw [eb]
        exact q H2 (s1.trans s2)
    | @t oa xs hoa =>
      refine ⟨_, rfl, _, _, _, _, false, rfl, .ty _, ty_tup hoa, kit_ty (by decide +kernel), _, rfl, iteF ?_⟩
      have la' : xs.length ≤ 5 := la
      refine ⟨_, rfl, .inr ⟨_, rfl, oa, rfl, ⟨_, SqT.of hoa⟩, fun D hD => lcS (n := (xs.map V.str).length) hD (small1000 (by rw [List.length_map]; omega)) _ (fun j v _ => ∃ x', xs[j]? = some x' ∧ v = .bl (decide (x' ∈ ys))) (go_t (SqT.of hoa)) (stop_t (SqT.of hoa)) (yld_t (SqT.of hoa)) (fun _ _ _ _ _ h => h) ?_ ?_⟩⟩
      · intro j y H2 R hj hy s2 kk
        obtain ⟨x', e2, rfl⟩ := str_get hy
        refine ⟨rfl, _, rfl, _, rfl, ob, _, rfl, .inr (SqT.of (s2 _ _ hob)), rfl, strs_flat _, ?_⟩
        refine kk _ _ (Same.refl _) ⟨x', e2, ?_⟩
        show V.bl (inV (.str x') (ys.map V.str)) = _
        rw [inV_strs]
      · intro H2 ws s2 hws hwl hg
        rw [List.length_map] at hwl
        obtain ⟨bs, rfl, eb⟩ := all_of xs ws hwl hg
        refine ⟨D, bs, rfl, SqL.of hws, ?_⟩
        rw [eb]
        exact q H2 s2
/-- all names of a product are names -/
def nmPrd (p : Prd) : Prop := ∀ a ∈ p, (∀ x ∈ a.nms, FA.okName x) ∧ a.nms.length ≤ 5
def spPrdWithin : Sp := fun vs H Q _ => ∃ (b o : Addr) (p q : Prd), vs = [.ref b, .ref o] ∧ PdAt H b p ∧ PdAt H o q ∧ nmPrd p ∧ nmPrd q ∧ p.length ≤ 100 ∧ q.length ≤ 100 ∧ ∀ H', Same H H' → Q (.bl (within p q)) H'
theorem eat_nil : ∀ q : Prd, eat [] q = []
  | [] => rfl
  | .n y :: q => by simp only [eat]; exact eat_nil q
  | .t ys :: q => by simp only [eat, List.dropWhile_nil]; exact eat_nil q
theorem okPrdWithin (T : Txt K mg) : FnOk P w K mg base CX0 2 T.aIsProductWithin T.fIsProductWithin ["product", "other"] spPrdWithin := by
  have GIsAtomWithin : FnOk P w K mg base CX0 1 T.aIsAtomWithin T.fIsAtomWithin ["atom", "other"] spAtomWithin := okAtomWithin T
  refine T.FIsProductWithin.ok scIsProductWithin (fun vs H Q E h => ?_) (fun cdv A outer s H vs Q E hr h => ?_)
  · obtain ⟨b, o, p, q, rfl, _⟩ := h
    rfl
  obtain ⟨b, o, p, q, rfl, ⟨vp, hb, hp⟩, ⟨vq, ho, hq⟩, np, nq, lp, lq, qq⟩ := h
  have hu := hu_of hr
  refine ⟨_, (pss_cons (ps_set (i := 2) scIsProductWithin.nd rfl (by first | exact Or.inl rfl | exact Or.inr rfl) pe_int)
      (pss_cons (ps_for PassesOwn.never rfl (pi_list (pv 1)) (pg_name (i := 3) scIsProductWithin.nd rfl (by first | exact Or.inl rfl | exact Or.inr rfl))
        (pss_cons (ps_set (i := 4) scIsProductWithin.nd rfl (by first | exact Or.inl rfl | exact Or.inr rfl) (pe_ifExp (pt_val (pe_callB call_isi (by rfl) T.n_isinstance (by decide +kernel) (pa_cons (pv 3) (pa_cons (pe_bltn (v := .ty "str") (by rfl) T.n_str (by decide +kernel) rfl) pa_nil)))) pe_int (pe_callB call_len_seq (by rfl) T.n_len PySem.boot_len (pa_cons (pv 0) pa_nil))))
        (pss_one (ps_while PassesOwn.never (PW.pt (pw_and (pt_cmpR op_lt (pv 2) (pe_callB call_len_seq (by rfl) T.n_len PySem.boot_len (pa_cons (pv 0) pa_nil)) (nomark _)) (pw_and (pt_cmpR op_gt (pv 4) pe_int (nomark _)) (pw_and1 (pt_val (pe_call GIsAtomWithin (hr.mono (by omega)) rfl T.gIsAtomWithin T.FIsAtomWithin.kp T.bIsAtomWithin .nil pass0 (pa_cons (pe_ix ix_list (pv 0) (pv 2) (fun _ _ => rfl)) (pa_cons (pv 3) pa_nil))))))))
          (pss_cons (ps_set (i := 2) scIsProductWithin.nd rfl (by first | exact Or.inl rfl | exact Or.inr rfl) (pe_op op_add (pv 2) pe_int))
          (pss_one (ps_set (i := 4) scIsProductWithin.nd rfl (by first | exact Or.inl rfl | exact Or.inr rfl) (pe_op op_sub (pv 4) pe_int))))))))
      (pss_one (ps_ret (pe_cmpR op_eq (pv 2) (pe_callB call_len_seq (by rfl) T.n_len PySem.boot_len (pa_cons (pv 0) pa_nil)) (nomark _)))))), ?_⟩
  have pl := hp.length
  have ql := hq.length
  refine ⟨_, rfl, o, rfl, ⟨_, SqL.of ho⟩, for_list (K := K) (a := o) (xs := vq) (fun i σ H' => ∃ (tk : Nat) (v3 v4 : Option V), σ = [some (.ref b), some (.ref o), some (.int (tk : Int)), v3, v4] ∧ Same H H' ∧ tk ≤ p.length ∧ eat (p.drop tk) (q.drop i) = eat p q) ⟨0, none, none, rfl, Same.refl _, Nat.zero_le _, rfl⟩ ?_ ?_ ?_⟩
  · rintro i σ H' _ ⟨_, _, _, _, sm, _⟩
    exact SqL.of (sm _ _ ho)
  · rintro i y σ H1 hi ⟨tk, v3, v4, rfl, s1, htk, he⟩
    obtain ⟨am, e1, e2⟩ := hq.get hi
    have hdrop : q.drop i = am :: q.drop (i + 1) := by
      have lt : i < q.length := by
        by_cases z : i < q.length
        · exact z
        · rw [List.getElem?_eq_none (by omega)] at e1; cases e1
      rw [List.drop_eq_getElem_cons lt]
      congr 1
      rw [List.getElem?_eq_getElem lt] at e1
      exact Option.some.inj e1
    have na := nq am (List.mem_of_getElem? e1)
    have e2' := e2.keep (Kp.of s1)
    -- how many may be taken away
    obtain ⟨Rem, mo0, r0, rstep, rfin, hmo⟩ : ∃ (Rem : Nat → Nat → Prop) (mo0 : Nat), Rem tk mo0 ∧ (∀ t2 mo a, p[t2]? = some a → Rem t2 mo → 0 < mo → isW a am = true → Rem (t2 + 1) (mo - 1)) ∧ (∀ t2 mo, Rem t2 mo → (t2 = p.length ∨ mo = 0 ∨ ∃ a, p[t2]? = some a ∧ isW a am = false) → eat (p.drop t2) (q.drop (i + 1)) = eat p q) ∧ ((∃ y', am = .n y' ∧ mo0 = 1) ∨ ∃ ys, am = .t ys ∧ mo0 = p.length) := by
      rw [hdrop] at he
      have dr : ∀ t2 a, p[t2]? = some a → p.drop t2 = a :: p.drop (t2 + 1) := fun t2 a ea => by
        have lt : t2 < p.length := by
          by_cases z : t2 < p.length
          · exact z
          · rw [List.getElem?_eq_none (by omega)] at ea; cases ea
        rw [List.drop_eq_getElem_cons lt]
        congr 1
        rw [List.getElem?_eq_getElem lt] at ea
        exact Option.some.inj ea
      cases am with
      | n y' =>
        simp only [eat] at he
        refine ⟨fun t2 mo => (mo = 1 ∧ t2 = tk) ∨ (mo = 0 ∧ t2 = tk + 1 ∧ ∃ a, p[tk]? = some a ∧ isW a (.n y') = true), 1, .inl ⟨rfl, rfl⟩, ?_, ?_, .inl ⟨_, rfl, rfl⟩⟩
        · rintro t2 mo a ea (⟨rfl, rfl⟩ | ⟨rfl, _⟩) hpos hw
          · exact .inr ⟨rfl, rfl, a, ea, hw⟩
          · omega
        · rintro t2 mo (⟨rfl, rfl⟩ | ⟨rfl, rfl, a, ea, hw⟩) h
          · rcases h with h | h | ⟨a, ea, hw⟩
            · rw [h, List.drop_length] at he ⊢
              exact he
            · omega
            · rw [dr _ a ea] at he ⊢
              simp only [hw, Bool.false_eq_true, if_false] at he
              exact he
          · rw [dr _ a ea] at he
            simp only [hw, if_true] at he
            exact he
      | t ys =>
        simp only [eat] at he
        refine ⟨fun t2 mo => p.length - t2 ≤ mo ∧ (p.drop tk).dropWhile (fun a => isW a (.t ys)) = (p.drop t2).dropWhile (fun a => isW a (.t ys)), p.length, ⟨by omega, rfl⟩, ?_, ?_, .inr ⟨_, rfl, rfl⟩⟩
        · rintro t2 mo a ea ⟨h1, h2⟩ hpos hw
          refine ⟨by omega, ?_⟩
          rw [h2, dr t2 a ea, List.dropWhile_cons, if_pos hw]
        · rintro t2 mo ⟨h1, h2⟩ h
          rw [← he, h2]
          have stay : (p.drop t2).dropWhile (fun a => isW a (.t ys)) = p.drop t2 := by
            by_cases z : t2 < p.length
            · have ea : p[t2]? = some p[t2] := List.getElem?_eq_getElem z
              rcases h with h | h | ⟨a, ea', hw⟩
              · omega
              · omega
              · rw [dr t2 a ea', List.dropWhile_cons, if_neg (by rw [hw]; decide)]
            · rw [List.drop_eq_nil_of_le (by omega)]
              rfl
          rw [stay]
    clear he hdrop
    rcases e2'.two with ⟨x, rfl, ea⟩ | ⟨ta, xs, rfl, ea, hta⟩
    refine ⟨_, rfl, _, _, _, _, true, rfl, .ty _, ty_str x, kit_ty (by decide +kernel), _, rfl, iteT ?_⟩
    have e5 : mo0 = 1 := by
      rcases hmo with ⟨_, _, h⟩ | ⟨_, h, _⟩
      · exact h
      · rw [ea] at h; cases h
    subst e5
    rotate_left
    refine ⟨_, rfl, _, _, _, _, false, rfl, .ty _, ty_tup hta, kit_ty (by decide +kernel), _, rfl, iteF ?_⟩
    have e5 : mo0 = p.length := by
      rcases hmo with ⟨_, h, _⟩ | ⟨_, _, h⟩
      · rw [ea] at h; cases h
      · exact h
    refine ⟨_, rfl, b, _, rfl, .inl (SqL.of (s1 _ _ hb)), ?_⟩
    rw [pl]
    subst e5
    rotate_left
    all_goals
      clear hmo
      refine ⟨fun m σ H' => ∃ (t2 mo : Nat), Rem t2 mo ∧ σ = [some (.ref b), some (.ref o), some (.int (t2 : Int)), some _, some (.int (mo : Int))] ∧ m = p.length - t2 ∧ Same H H' ∧ t2 ≤ p.length, ⟨_, tk, _, r0, rfl, rfl, s1, htk⟩, ?_⟩
      rintro m σ H2 ⟨t2, mo, hrem, rfl, rfl, s2, ht2⟩
      refine ⟨_, rfl, _, rfl, b, _, rfl, .inl (SqL.of (s2 _ _ hb)), _, _, rfl, rfl, _, rfl, ite2 (fun c => ?_) (fun c => ?_)⟩
      · have c1 : t2 < p.length := by
          have := of_decide_eq_true c
          omega
        refine ⟨_, rfl, _, _, rfl, rfl, _, rfl, ite2 (fun c2 => ?_) (fun c2 => ?_)⟩
        · have c3 : 0 < mo := by
            have := of_decide_eq_true c2
            omega
          obtain ⟨v, hv1, hv2⟩ := hp.at (i := t2) (List.getElem?_eq_getElem c1)
          have nt := np p[t2] (List.getElem_mem c1)
          refine ⟨_, rfl, _, rfl, b, _, _, _, rfl, rfl, SqL.of (s2 _ _ hb), atI_nat hv1, _, rfl, v, _, p[t2], am, rfl, hv2.keep (Kp.of s2), e2.keep (Kp.of s2), nt.1, na.1, nt.2, fun H3 s3 => ?_⟩
          refine ⟨_, rfl, ?_⟩
          cases hw : isW p[t2] am with
          | true =>
            refine ite2 (fun _ => ?_) (fun z => absurd rfl z)
            refine ⟨_, fun σ' H' h => h, ?_⟩
            obtain ⟨k, rfl⟩ : ∃ k, mo = k + 1 := ⟨mo - 1, by omega⟩
            have em : ((k + 1 : Nat) : Int) - 1 = (k : Int) := by omega
            refine ⟨_, rfl, _, _, rfl, rfl, _, rfl, _, _, rfl, rfl, ?_⟩
            exact ⟨p.length - (t2 + 1), by omega, t2 + 1, k, rstep t2 (k + 1) _ (List.getElem?_eq_getElem c1) hrem c3 hw, congrArg (fun z => [some (V.ref b), some (V.ref o), some (V.int ((t2 + 1 : Nat) : Int)), some _, some (V.int z)]) em, rfl, s2.trans s3, by omega⟩
          | false =>
            refine ite2 (fun z => by cases z) (fun _ => ?_)
            exact ⟨t2, _, _, rfl, s2.trans s3, ht2, rfin t2 mo hrem (.inr (.inr ⟨_, List.getElem?_eq_getElem c1, hw⟩))⟩
        · have c3 : mo = 0 := by
            have : ¬ ((mo : Int) > 0) := fun z => c2 (decide_eq_true z)
            omega
          exact ⟨t2, _, _, rfl, s2, ht2, rfin t2 mo hrem (.inr (.inl c3))⟩
      · have c1 : t2 = p.length := by
          have : ¬ ((t2 : Int) < (vp.length : Int)) := fun z => c (decide_eq_true z)
          omega
        exact ⟨t2, _, _, rfl, s2, ht2, rfin t2 mo hrem (.inl c1)⟩
  · rintro σ H1 ⟨tk, v3, v4, rfl, s1, htk, he⟩
    refine ⟨_, rfl, _, rfl, b, _, rfl, .inl (SqL.of (s1 _ _ hb)), rfl, ?_⟩
    rw [ql, List.drop_length] at he
    simp only [eat] at he
    have : decide (V.int (tk : Int) = V.int (vp.length : Int)) = within p q := by
      unfold within
      rw [← he, pl]
      by_cases z : tk = p.length
      · subst z
        simp
      · have h1 : ¬ V.int (tk : Int) = V.int (p.length : Int) := fun h => z (by injection h with h; omega)
        rw [decide_eq_false h1]
        have h2 : p.drop tk ≠ [] := fun h => z (by have := List.drop_eq_nil_iff.mp h; omega)
        cases e : p.drop tk with
        | nil => exact absurd e h2
        | cons _ _ => rfl
    rw [this]
    exact qq H1 s1
/-- all products at some places -/
def spPrdIn : Sp := fun vs H Q _ => ∃ (b o : Addr) (vp : List V) (ps : List Prd) (p : Prd), vs = [.ref b, .ref o] ∧ H b = some (.lst vp) ∧ PdsAt H vp ps ∧ PdAt H o p ∧ (∀ q ∈ ps, nmPrd q ∧ q.length ≤ 100) ∧ nmPrd p ∧ p.length ≤ 100 ∧ ps.length ≤ 5000 ∧ ∀ H', Same H H' → Q (.bl (prdIn ps p)) H'
theorem okPrdIn (T : Txt K mg) : FnOk P w K mg base CX0 3 T.aIsProductIn T.fIsProductIn ["products", "product"] spPrdIn := by
  have GIsProductWithin : FnOk P w K mg base CX0 2 T.aIsProductWithin T.fIsProductWithin ["product", "other"] spPrdWithin := okPrdWithin T
  refine T.FIsProductIn.ok scIsProductIn (fun vs H Q E h => ?_) (fun cdv A outer s H vs Q E hr h => ?_)
  · obtain ⟨b, o, vp, ps, p, rfl, _⟩ := h
    rfl
  obtain ⟨b, o, vp, ps, p, rfl, hb, hps, hp, nps, np, lp, lps, q⟩ := h
  have hu := hu_of hr
  refine ⟨_, (pss_one (ps_ret (pe_callB (cr_any rfl) (by rfl) T.n_any (by decide +kernel) (pa_cons (pe_lc (own := [("other", 2)]) (g := gName 2) (tt := tYes) rfl scIsProductIn.nd (pi_list (pv 0)) (blkOk_by (N := ["products", "product", "other"]) (sc := defScope sIsProductIn) (by decide +kernel)) (fun _ _ _ _ _ => (pg_name (i := 2) scIsProductIn.nd rfl (by first | exact Or.inl rfl | exact Or.inr rfl))) (fun _ _ _ _ _ => pts_nil) (fun _ _ _ _ _ => (pe_call GIsProductWithin (hr.mono (by omega)) rfl T.gIsProductWithin T.FIsProductWithin.kp T.bIsProductWithin .nil pass0 (pa_cons (pv 1) (pa_cons (pv 2) pa_nil))))) pa_nil)))), ?_⟩
  have pl := hps.length
  have cap : vp.length < sizeLine := by rw [sizeLine_eq]; omega
  refine ⟨_, rfl, b, rfl, ⟨_, SqL.of hb⟩, fun D hD => lcS (n := vp.length) hD cap _ (fun j v _ => ∃ q, ps[j]? = some q ∧ v = .bl (within p q)) (go_l (SqL.of hb)) (stop_l (SqL.of hb)) (yld_l (SqL.of hb)) (fun _ _ _ _ _ h => h) ?_ ?_⟩
  · intro j y H2 R hj hy s2 kk
    obtain ⟨bq, q', rfl, e1, e2⟩ := hps.get hy
    have nq := nps q' (List.mem_of_getElem? e1)
    exact ⟨rfl, _, rfl, _, rfl, o, bq, p, q', rfl, hp.keep (Kp.of s2), e2.keep (Kp.of s2), np, nq.1, lp, nq.2, fun H3 s3 => kk _ H3 s3 ⟨q', e1, rfl⟩⟩
  · intro H2 ws s2 hws hwl hg
    have ew : ws = (ps.map fun q => within p q).map V.bl := by
      rw [List.map_map]
      exact ext_map (by omega) hg
    rw [ew] at hws
    refine ⟨D, _, rfl, SqL.of hws, ?_⟩
    rw [List.any_map]
    exact q H2 s2
end K09


set_option Elab.async false
set_option linter.all false
set_option maxRecDepth 100000
set_option maxHeartbeats 8000000
namespace K09
open PySem PySem.Spec PyProof.Rows L2 FA
variable {P : Program} {w : World} {K : PySem.W.Frag} {mg : Str → Option Value} {base : Heap}
theorem nm_len {a : Atm} (h : (∀ x ∈ a.nms, FA.okName x) ∧ a.nms.length ≤ 5) : (atomText a).length ≤ 60 := by
  cases a with
  | n x =>
    have := (h.1 x (by simp [Atm.nms])).le
    show x.length ≤ 60
    omega
  | t xs =>
    have h1 := join_len " " xs
    have h2 := sum_len (l := xs) (m := 8) fun x hx => (h.1 x hx).le
    have h3 : xs.length ≤ 5 := h.2
    have e : (" " : Str).length = 1 := rfl
    have e1 : ("{" : Str).length = 1 := rfl
    have e2 : ("}" : Str).length = 1 := rfl
    rw [e, Nat.mul_one] at h1
    show (("{" : Str) ++ Txt.join " " xs ++ ("}" : Str)).length ≤ 60
    rw [str_len_app, str_len_app, e1, e2]
    omega
def spPrdText : Sp := fun vs H Q _ => ∃ (b : Addr) (p : Prd), vs = [.ref b] ∧ PdAt H b p ∧ nmPrd p ∧ p.length ≤ 100 ∧ ∀ H', Same H H' → Q (.str (prdText p)) H'
theorem okPrdText (T : Txt K mg) : FnOk P w K mg base CX0 1 T.aProductText T.fProductText ["product"] spPrdText := by
  refine T.FProductText.ok scProductText (fun vs H Q E h => ?_) (fun cdv A outer s H vs Q E hr h => ?_)
  · obtain ⟨b, p, rfl, _⟩ := h
    rfl
  obtain ⟨b, p, rfl, ⟨vp, hb, hp⟩, np, lp, q⟩ := h
  have hu := hu_of hr
  refine ⟨_, (pss_cons (ps_setLc (i := 1) (own := [("atom", 2)]) (g := gName 2) (tt := tYes) rfl scProductText.nd rfl rfl (sw_true rfl rfl rfl (by decide +kernel)) (pi_list (pv 0)) (blkOk_by (N := ["product", "atoms", "atom"]) (sc := defScope sProductText) (by decide +kernel)) (fun _ _ _ _ _ => (pg_name (i := 2) scProductText.nd rfl (by first | exact Or.inl rfl | exact Or.inr rfl))) (fun _ _ _ _ _ => pts_nil) (fun _ _ _ _ _ => (pe_ifExp (pt_val (pe_callB (call_isiK1 (K := K) rfl) (by rfl) T.n_isinstance (by decide +kernel) (pa_cons (pv 2) (pa_cons (pe_bltn (v := .ty "str") (by rfl) T.n_str (by decide +kernel) rfl) pa_nil)))) (pv 2) (pe_op op_add_str (pe_op op_add_str pe_str (pe_joinK (K := K) rfl pe_str (pv 2))) pe_str))))
      (pss_one (ps_ret (pe_ifExp (pt_truth (pv 1) (by intro _; rfl)) (pe_join pe_str (pv 1)) pe_str)))), ?_⟩
  have pl := hp.length
  have e1 : (" " : Str).length = 1 := rfl
  refine ⟨_, rfl, b, rfl, ⟨_, SqL.of hb⟩, fun D hD => lcS (n := vp.length) hD (small1000 (by omega)) _ (fun j v _ => ∃ a, p[j]? = some a ∧ v = .str (atomText a)) (go_l (SqL.of hb)) (stop_l (SqL.of hb)) (yld_l (SqL.of hb)) (fun _ _ _ _ _ h => h) ?_ ?_⟩
  · intro j y H2 R hj hy s2 kk
    obtain ⟨a, ea, ha⟩ := hp.get hy
    have na := np a (List.mem_of_getElem? ea)
    have kk' := kk (.str (atomText a)) H2 (Same.refl _) ⟨a, ea, rfl⟩
    rcases (ha.keep (Kp.of s2)).two with ⟨x, rfl, rfl⟩ | ⟨t, xs, rfl, rfl, ht⟩
    · exact ⟨rfl, _, rfl, _, _, _, _, true, rfl, .ty _, ty_str x, kit_ty (by decide +kernel), _, rfl, iteT ⟨_, rfl, kk'⟩⟩
    · have h1 := join_len " " xs
      have h2 := sum_len (l := xs) (m := 8) fun x hx => (na.1 x hx).le
      have h3 : xs.length ≤ 5 := na.2
      have e2 : ("{" : Str).length = 1 := rfl
      have e3 : ("}" : Str).length = 1 := rfl
      rw [e1, Nat.mul_one] at h1
      have hs := sizeLine_eq
      refine ⟨rfl, _, rfl, _, _, _, _, false, rfl, .ty _, ty_tup ht, kit_ty (by decide +kernel), _, rfl, iteF ?_⟩
      refine ⟨⟨_, rfl⟩, _, rfl, _, t, xs, rfl, rfl, .inr (SqT.of ht), by rw [e1]; omega, _, _, rfl, rfl, by rw [e2]; omega, _, _, rfl, rfl, ?_, kk'⟩
      rw [str_len_app, e2, e3]
      omega
  · intro H2 ws s2 hws hwl hg
    have ew : ws = (p.map atomText).map V.str := by
      rw [List.map_map]
      exact ext_map (by omega) hg
    rw [ew] at hws
    refine ⟨_, rfl, !((p.map atomText).map V.str).isEmpty, .inl ⟨_, SqL.of hws, rfl⟩, ?_⟩
    have qq := q H2 s2
    unfold prdText at qq
    cases p with
    | nil => exact iteF qq
    | cons a r =>
      refine iteT ?_
      refine ⟨⟨_, rfl⟩, _, rfl, _, D, _, rfl, rfl, .inl (SqL.of hws), ?_, qq⟩
      have h2 := sum_len (l := (a :: r).map atomText) (m := 60) fun x hx => by
        obtain ⟨a', ha', rfl⟩ := List.mem_map.mp hx
        exact nm_len (np a' ha')
      rw [List.length_map] at h2 ⊢
      rw [e1]
      omega
def spIdle : Sp := fun vs H Q _ => ∃ (b : Addr) (p : Prd), vs = [.ref b] ∧ PdAt H b p ∧ nmPrd p ∧ p.length ≤ 100 ∧ ∀ r H' vs, Same H H' → H r = none → H' r = some (.lst vs) → AtsAt H vs (idle p) → Q (.ref r) H'
theorem okIdle (T : Txt K mg) : FnOk P w K mg base CX0 2 T.aWithoutIdleAtoms T.fWithoutIdleAtoms ["product"] spIdle := by
  have GIsAtomWithin : FnOk P w K mg base CX0 1 T.aIsAtomWithin T.fIsAtomWithin ["atom", "other"] spAtomWithin := okAtomWithin T
  refine T.FWithoutIdleAtoms.ok scWithoutIdleAtoms (fun vs H Q E h => ?_) (fun cdv A outer s H vs Q E hr h => ?_)
  · obtain ⟨b, p, rfl, _⟩ := h
    rfl
  obtain ⟨b, p, rfl, ⟨vp, hb, hp⟩, np, lp, q⟩ := h
  have hu := hu_of hr
  refine ⟨_, (pss_cons (ps_set (i := 1) scWithoutIdleAtoms.nd rfl (by first | exact Or.inl rfl | exact Or.inr rfl) (pe_lst pa_nil))
      (pss_cons (ps_for PassesOwn.never rfl (pi_list (pv 0)) (pg_name (i := 2) scWithoutIdleAtoms.nd rfl (by first | exact Or.inl rfl | exact Or.inr rfl))
        (pss_cons (ps_while PassesOwn.never (PW.pt (pw_and (pt_truth (pv 1) (by intro _; rfl)) (pw_and (pt_val (pe_callB call_isi (by rfl) T.n_isinstance (by decide +kernel) (pa_cons (pv 2) (pa_cons (pe_bltn (v := .ty "tuple") (by rfl) T.n_tuple (by decide +kernel) rfl) pa_nil)))) (pw_and1 (pt_val (pe_call GIsAtomWithin (hr.mono (by omega)) rfl T.gIsAtomWithin T.FIsAtomWithin.kp T.bIsAtomWithin .nil pass0 (pa_cons (pe_ix ix_list (pv 1) (pe_un un_neg pe_int) (fun _ _ => rfl)) (pa_cons (pv 2) pa_nil))))))))
          (pss_one (ps_expr (pe_bm0 PySem.F.plainAttrs_list PySem.F.slot_list_pop PySem.F.type_list_pop mt_pop (pv 1)))))
        (pss_one (ps_if (PW.pt (pw_or (pt_not (pt_truth (pv 1) (by intro _; rfl))) (pw_or (pt_val (pe_callB call_isi (by rfl) T.n_isinstance (by decide +kernel) (pa_cons (pe_ix ix_list (pv 1) (pe_un un_neg pe_int) (fun _ _ => rfl)) (pa_cons (pe_bltn (v := .ty "str") (by rfl) T.n_str (by decide +kernel) rfl) pa_nil)))) (pw_or1 (pt_not (pt_val (pe_call GIsAtomWithin (hr.mono (by omega)) rfl T.gIsAtomWithin T.FIsAtomWithin.kp T.bIsAtomWithin .nil pass0 (pa_cons (pv 2) (pa_cons (pe_ix ix_list (pv 1) (pe_un un_neg pe_int) (fun _ _ => rfl)) pa_nil)))))))))
          (pss_one (ps_expr (pe_bm PySem.F.plainAttrs_list PySem.F.slot_list_append PySem.F.type_list_append mt_append (pv 1) (pa_cons (pv 2) pa_nil)))) pss_nil))))
      (pss_one (ps_ret (pv 1))))), ?_⟩
  have pl := hp.length
  refine ⟨Nat.zero_le _, fun f hf => ?_⟩
  have hbf : b ≠ f := ne_of_none hb hf
  have put : ∀ (G : Hp) (o : HO), Same H G → Same H (upd G f o) := fun G o sG c e z => by
    rw [upd_ne (ne_of_none z hf)]
    exact sG _ _ z
  refine ⟨_, rfl, b, rfl, ⟨_, SqL.of (same_upd0 hf (.lst []) _ _ hb)⟩, for_list (K := K) (a := b) (xs := vp) (fun i σ H' => ∃ (v2 : Option V) (ks : List V), σ = [some (.ref b), some (.ref f), v2] ∧ Same H H' ∧ H' f = some (.lst ks) ∧ AtsAt H ks (idleR [] (p.take i)).reverse) ⟨none, [], rfl, same_upd0 hf _, upd_same, .nil⟩ ?_ ?_ ?_⟩
  · rintro i σ H' _ ⟨_, _, _, sm, _⟩
    exact SqL.of (sm _ _ hb)
  · rintro i y σ H1 hi ⟨v2, ks, rfl, s1, hf1, hks⟩
    obtain ⟨a, e1, e2⟩ := hp.get hi
    have na := np a (List.mem_of_getElem? e1)
    have enx : idleR [] (p.take (i + 1)) = putI a (popI a (idleR [] (p.take i))) := by
      rw [List.take_add_one, e1]
      exact idleR_snoc a _ _
    have okk : ∀ c ∈ idleR [] (p.take i), (∀ x ∈ c.nms, FA.okName x) ∧ c.nms.length ≤ 5 := idleR_all _ _ (fun c hc => np c (List.mem_of_mem_take hc)) (by simp)
    obtain ⟨k0, hk0⟩ : ∃ k0, k0 = idleR [] (p.take i) := ⟨_, rfl⟩
    rw [← hk0] at hks enx okk
    refine ⟨fun m σ H' => ∃ (ks : List V) (k : List Atm), σ = [some (.ref b), some (.ref f), some y] ∧ m = k.length ∧ Same H H' ∧ H' f = some (.lst ks) ∧ AtsAt H ks k.reverse ∧ popI a k = popI a k0 ∧ ∀ c ∈ k, (∀ x ∈ c.nms, FA.okName x) ∧ c.nms.length ≤ 5, ⟨_, ks, k0, rfl, rfl, s1, hf1, hks, rfl, okk⟩, ?_⟩
    rintro m σ H2 ⟨ks, k, rfl, rfl, s2, hf2, hks2, hpop, hok⟩
    -- the turn's end: the atom is put behind those that stay
    have done : ∀ (H9 : Hp) (ks : List V) (k : List Atm), k = popI a k0 → Same H H9 → H9 f = some (.lst ks) → AtsAt H ks k.reverse → (∀ c ∈ k, (∀ x ∈ c.nms, FA.okName x) ∧ c.nms.length ≤ 5) →
        (putI a k = a :: k → ks.length < sizeLine ∧ ∃ (v2 : Option V) (ks' : List V), [some (.ref b), some (.ref f), some y] = [some (.ref b), some (.ref f), v2] ∧ Same H (upd H9 f (.lst (ks ++ [y]))) ∧ (upd H9 f (.lst (ks ++ [y]))) f = some (.lst ks') ∧ AtsAt H ks' (idleR [] (p.take (i + 1))).reverse) ∧
        (putI a k = k → ∀ H10, Same H9 H10 → ∃ (v2 : Option V) (ks' : List V), [some (.ref b), some (.ref f), some y] = [some (.ref b), some (.ref f), v2] ∧ Same H H10 ∧ H10 f = some (.lst ks') ∧ AtsAt H ks' (idleR [] (p.take (i + 1))).reverse) := by
      intro H9 ks k hk s9 hf9 hks9 hok9
      refine ⟨fun hput => ⟨?_, _, ks ++ [y], rfl, put _ _ s9, upd_same, ?_⟩, fun hput H10 s10 => ⟨_, ks, rfl, s9.trans s10, s10 _ _ hf9, ?_⟩⟩
      · have h1 := hks9.length
        have h2 := (idleR_all (Pp := fun _ => True) (p.take i) [] (fun _ _ => trivial) (fun _ _ => trivial))
        have h3 := idle_le (p.take i)
        unfold idle at h3
        rw [List.length_reverse, List.length_take] at h3
        have h4 : k.length ≤ k0.length := by
          rw [hk]
          cases a with
          | n x => exact Nat.le_refl _
          | t xs => exact (List.dropWhile_sublist _).length_le
        rw [List.length_reverse] at h1
        rw [hk0] at h4
        exact small1000 (by omega)
      · rw [enx, ← hk, hput, List.reverse_cons]
        exact hks9.app (.cons e2 .nil)
      · rw [enx, ← hk, hput]
        exact hks9
    cases k with
    | nil =>
      have pe : popI a [] = [] := by cases a <;> rfl
      rw [pe] at hpop
      obtain rfl : ks = [] := by cases hks2; rfl
      obtain ⟨d1, _⟩ := done H2 [] [] hpop s2 hf2 hks2 hok
      obtain ⟨d2, d3⟩ := d1 rfl
      refine ⟨_, rfl, false, .inl ⟨[], SqL.of hf2, rfl⟩, ?_⟩
      refine iteF ?_
      refine ⟨_, rfl, false, .inl ⟨[], SqL.of hf2, rfl⟩, ?_⟩
      refine iteT ?_
      exact ⟨_, rfl, .inl ⟨rfl, _, SqL.of hf2⟩, _, rfl, f, _, y, rfl, rfl, hf2, d2, d3⟩
    | cons c k' =>
      rw [List.reverse_cons] at hks2
      obtain ⟨ks', vc, rfl, hk1, hk2⟩ := hks2.snoc_inv
      have hks2 : AtsAt H (ks' ++ [vc]) (c :: k').reverse := by rw [List.reverse_cons]; exact hks2
      have nc := hok c (by simp)
      have ne : (!(ks' ++ [vc]).isEmpty) = true := by cases ks' <;> rfl
      refine ⟨_, rfl, true, .inl ⟨_, SqL.of hf2, ne.symm⟩, ?_⟩
      refine iteT ?_
      rcases e2.two with ⟨x, rfl, ea⟩ | ⟨ta, xs, rfl, ea, hta⟩
      refine ⟨_, rfl, _, _, _, _, false, rfl, .ty _, ty_str x, kit_ty (by decide +kernel), _, rfl, iteF ?_⟩
      have hpk : c :: k' = popI a k0 := by rw [← hpop, ea]; rfl
      obtain ⟨H9, s9, e9⟩ : ∃ H9, Same H2 H9 ∧ H9 = H2 := ⟨_, Same.refl _, rfl⟩
      rw [← e9]
      clear e9
      rotate_left
      refine ⟨_, rfl, _, _, _, _, true, rfl, .ty _, ty_tup (s2 _ _ hta), kit_ty (by decide +kernel), _, rfl, iteT ?_⟩
      refine ⟨_, rfl, _, rfl, f, _, _, _, rfl, rfl, SqL.of hf2, atI_last _ _, _, rfl, vc, _, c, a, rfl, hk2.keep (Kp.of s2), e2.keep (Kp.of s2), nc.1, na.1, nc.2, fun H9 s9 => ?_⟩
      refine ⟨_, rfl, ?_⟩
      refine ite2 (fun hw => ?_) (fun hw => ?_)
      have hf9 := s9 _ _ hf2
      refine ⟨_, fun σ' H' h => h, ?_⟩
      refine ⟨_, rfl, .inl ⟨rfl, _, SqL.of hf9⟩, f, _, vc, rfl, rfl, hf9, by simp, ?_⟩
      refine ⟨k'.length, by simp, ks', k', rfl, rfl, put _ _ (s2.trans s9), by rw [upd_same, List.dropLast_concat], hk1, ?_, fun c hc => hok c (List.mem_cons_of_mem _ hc)⟩
      · rw [← hpop, ea, popI_t, if_pos (by rw [← ea]; exact hw)]
      have hpk : c :: k' = popI a k0 := by
        rw [← hpop, ea, popI_t, if_neg (by rw [← ea]; exact hw)]
      clear hw
      rotate_left
      all_goals
        have s09 := s2.trans s9
        have hf9 := s9 _ _ hf2
        obtain ⟨d1, d2⟩ := done H9 _ _ hpk s09 hf9 hks2 hok
        refine ⟨_, rfl, true, .inl ⟨_, SqL.of hf9, ne.symm⟩, ?_⟩
        refine iteF ?_
        rcases hk2.two with ⟨z, ez, ec⟩ | ⟨tc, ys, ez, ec, htc⟩
        · obtain ⟨d3, d4⟩ := d1 (by rw [ec]; rfl)
          subst ez
          refine ⟨_, rfl, _, rfl, f, _, _, _, rfl, rfl, SqL.of hf9, atI_last _ _, ?_⟩
          refine ⟨_, _, _, _, true, rfl, .ty _, ty_str z, kit_ty (by decide +kernel), _, rfl, iteT ?_⟩
          exact ⟨_, rfl, .inl ⟨rfl, _, SqL.of hf9⟩, _, rfl, f, _, _, rfl, rfl, hf9, d3, d4⟩
        · subst ez
          refine ⟨_, rfl, _, rfl, f, _, _, _, rfl, rfl, SqL.of hf9, atI_last _ _, ?_⟩
          have hk9 := hk2.keep (Kp.of s09)
          have e9 := e2.keep (Kp.of s09)
          refine ⟨_, _, _, _, false, rfl, .ty _, ty_tup (s09 _ _ htc), kit_ty (by decide +kernel), _, rfl, iteF ?_⟩
          refine ⟨_, rfl, _, rfl, _, rfl, f, _, _, _, rfl, rfl, SqL.of hf9, atI_last _ _, _, _, a, c, rfl, e9, hk9, na.1, nc.1, na.2, fun H10 s10 => ?_⟩
          refine ⟨_, rfl, ?_⟩
          cases hw : isW a c with
          | true =>
            refine iteF ?_
            exact d2 (by rw [ec] at hw ⊢; simp only [putI, hw, if_true]) H10 s10
          | false =>
            refine iteT ?_
            have hf10 := s10 _ _ hf9
            obtain ⟨d3, _⟩ := done H10 _ _ hpk (s09.trans s10) hf10 hks2 hok
            obtain ⟨d4, d5⟩ := d3 (by rw [ec] at hw ⊢; simp only [putI, hw, Bool.false_eq_true, if_false])
            exact ⟨_, rfl, .inl ⟨rfl, _, SqL.of hf10⟩, _, rfl, f, _, _, rfl, rfl, hf10, d4, d5⟩
  · rintro σ H1 ⟨v2, ks, rfl, s1, hf1, hks⟩
    rw [pl, List.take_length] at hks
    exact ⟨_, rfl, q f H1 ks s1 hf hf1 hks⟩
end K09


set_option Elab.async false
set_option linter.all false
set_option maxRecDepth 100000
set_option maxHeartbeats 8000000
namespace K09
open PySem PySem.Spec PyProof.Rows L2 FA
variable {P : Program} {w : World} {K : PySem.W.Frag} {mg : Str → Option Value} {base : Heap}
theorem nmIdle {p : Prd} (h : nmPrd p) : nmPrd (idle p) := fun a ha => idleR_all (Pp := fun c => (∀ x ∈ c.nms, FA.okName x) ∧ c.nms.length ≤ 5) p [] h (fun _ z => by cases z) a (List.mem_reverse.mp ha)
theorem byText_mem {ss : List Prd} {x : Str} (h : ∃ p ∈ ss, prdText p = x) : byText ss x ∈ ss ∧ prdText (byText ss x) = x := by
  unfold byText
  cases e : ss.reverse.find? (fun p => decide (prdText p = x)) with
  | none =>
    obtain ⟨p, hp, rfl⟩ := h
    have := List.find?_eq_none.mp e p (List.mem_reverse.mpr hp)
    simp at this
  | some p => exact ⟨List.mem_reverse.mp (List.mem_of_find?_eq_some e), by simpa using List.find?_some e⟩
theorem PdsAt.all {H : Hp} : ∀ {vs : List V} {ps : List Prd}, PdsAt H vs ps → True := fun _ => trivial
theorem pdsMap {H : Hp} {f : Str → Addr} {g : Str → Prd} : ∀ (ks : List Str), (∀ x ∈ ks, PdAt H (f x) (g x)) → PdsAt H (ks.map fun x => V.ref (f x)) (ks.map g)
  | [], _ => .nil
  | x :: r, h => .cons (h x (by simp)) (pdsMap r fun y hy => h y (List.mem_cons_of_mem _ hy))
def spNorm : Sp := fun vs H Q _ => ∃ (b : Addr) (vp : List V) (ps : List Prd), vs = [.ref b] ∧ H b = some (.lst vp) ∧ PdsAt H vp ps ∧ (∀ q ∈ ps, nmPrd q ∧ q.length ≤ 100) ∧ ps.length ≤ 5000 ∧ (∀ ts : List Str, ts.Nodup → (∀ x ∈ ts, ∃ p ∈ ps, x = prdText (idle p)) → ts.length < 64) ∧ ∀ r H' ws, Same H H' → H r = none → H' r = some (.lst ws) → PdsAt (frl H H') ws (normal ps) → Q (.ref r) H'
theorem okNorm (T : Txt K mg) : FnOk P w K mg base CX0 4 T.aNormalForm T.fNormalForm ["products"] spNorm := by
  have GWithoutIdleAtoms : FnOk P w K mg base CX0 2 T.aWithoutIdleAtoms T.fWithoutIdleAtoms ["product"] spIdle := okIdle T
  have GProductText : FnOk P w K mg base CX0 1 T.aProductText T.fProductText ["product"] spPrdText := okPrdText T
  have GIsProductIn : FnOk P w K mg base CX0 3 T.aIsProductIn T.fIsProductIn ["products", "product"] spPrdIn := okPrdIn T
  refine T.FNormalForm.ok scNormalForm (fun vs H Q E h => ?_) (fun cdv A outer s H vs Q E hr h => ?_)
  · obtain ⟨b, vp, ps, rfl, _⟩ := h
    rfl
  obtain ⟨b, vp, ps, rfl, hb, hps, nps, lps, few, q⟩ := h
  have hu := hu_of hr
  refine ⟨_, (pss_cons (ps_set (i := 1) scNormalForm.nd rfl (by first | exact Or.inl rfl | exact Or.inr rfl) pe_dnewK)
      (pss_cons (ps_for PassesOwn.never rfl (pi_list (pv 0)) (pg_name (i := 2) scNormalForm.nd rfl (by first | exact Or.inl rfl | exact Or.inr rfl))
        (pss_cons (ps_set (i := 5) scNormalForm.nd rfl (by first | exact Or.inl rfl | exact Or.inr rfl) (pe_call GWithoutIdleAtoms (hr.mono (by omega)) rfl T.gWithoutIdleAtoms T.FWithoutIdleAtoms.kp T.bWithoutIdleAtoms .nil pass0 (pa_cons (pv 2) pa_nil)))
        (pss_one (ps_dput hu (pv 1) (pe_call GProductText (hr.mono (by omega)) rfl T.gProductText T.FProductText.kp T.bProductText .nil pass0 (pa_cons (pv 5) pa_nil)) (pv 5) rfl))))
      (pss_cons (ps_set (i := 3) scNormalForm.nd rfl (by first | exact Or.inl rfl | exact Or.inr rfl) (pe_lst pa_nil))
      (pss_cons (ps_for PassesOwn.never rfl (pi_list (pe_callB (call_sortedD rfl) (by rfl) T.n_sorted (by decide +kernel) (pa_cons (pv 1) pa_nil))) (pg_name (i := 4) scNormalForm.nd rfl (by first | exact Or.inl rfl | exact Or.inr rfl))
        (pss_cons (ps_lock2 (ps_setLc (i := 6) (own := [("other", 7)]) (g := gName 7) rfl scNormalForm.nd rfl rfl (sw_true rfl rfl rfl (by decide +kernel)) (pi_keys (pv 1)) (blkOk_by (N := ["products", "by_text", "product", "found", "text", "shorter", "others", "other"]) (sc := defScope sNormalForm) (by decide +kernel)) (fun _ _ _ _ _ => (pg_name (i := 7) scNormalForm.nd rfl (by first | exact Or.inl rfl | exact Or.inr rfl))) (fun _ _ _ _ _ => (pts_one (pt_cmpR op_ne (pv 7) (pv 4) (nomark _)))) (fun _ _ _ _ _ => (pe_dget hu (pv 1) (pv 7) (fun _ _ => rfl)))))
        (pss_one (ps_if (pt_not (pt_val (pe_call GIsProductIn (hr.mono (by omega)) rfl T.gIsProductIn T.FIsProductIn.kp T.bIsProductIn .nil pass0 (pa_cons (pv 6) (pa_cons (pe_dget hu (pv 1) (pv 4) (fun _ _ => rfl)) pa_nil)))))
          (pss_one (ps_expr (pe_bm PySem.F.plainAttrs_list PySem.F.slot_list_append PySem.F.type_list_append mt_append (pv 3) (pa_cons (pe_dget hu (pv 1) (pv 4) (fun _ _ => rfl)) pa_nil)))) pss_nil))))
      (pss_one (ps_ret (pv 3))))))), ?_⟩
  have pl := hps.length
  obtain ⟨ss, hss⟩ : ∃ ss, ss = ps.map idle := ⟨_, rfl⟩
  have sub : ∀ i, ∀ p ∈ ss.take i, nmPrd p ∧ p.length ≤ 100 := fun i p hp => by
    have := List.mem_of_mem_take hp
    rw [hss] at this
    obtain ⟨p0, hp0, rfl⟩ := List.mem_map.mp this
    have n0 := nps p0 hp0
    exact ⟨nmIdle n0.1, Nat.le_trans (idle_le p0) n0.2⟩
  have fewK : ∀ (ks : List Str) i, ks.Nodup → (∀ x ∈ ks, ∃ p ∈ ss.take i, prdText p = x) → ks.length < 64 := fun ks i nd hk => few ks nd fun x hx => by
    obtain ⟨p, hp, rfl⟩ := hk x hx
    have := List.mem_of_mem_take hp
    rw [hss] at this
    obtain ⟨p0, hp0, rfl⟩ := List.mem_map.mp this
    exact ⟨p0, hp0, rfl⟩
  intro d hd
  have hbd : b ≠ d := ne_of_none hb hd
  have s1 := same_upd0 hd (.dK [])
  refine ⟨_, rfl, b, rfl, ⟨_, SqL.of (s1 _ _ hb)⟩, for_list (K := K) (a := b) (xs := vp) (fun i σ H' => ∃ (v2 v5 : Option V) (ks : List Str) (f : Str → Addr), σ = [some (.ref b), some (.ref d), v2, none, none, v5, none, none] ∧ Same H H' ∧ H' d = some (.dK (txD ks f)) ∧ ks.Nodup ∧ (∀ x, x ∈ ks ↔ ∃ p ∈ ss.take i, prdText p = x) ∧ ∀ x ∈ ks, PdAt (frl H H') (f x) (byText (ss.take i) x)) ⟨none, none, [], fun _ => 0, rfl, s1, upd_same, List.nodup_nil, fun x => by simp, fun x hx => by cases hx⟩ ?_ ?_ ?_⟩
  · rintro i σ H' _ ⟨_, _, _, _, _, sm, _⟩
    exact SqL.of (sm _ _ hb)
  · rintro i y σ H1 hi ⟨v2, v5, ks, f, rfl, sm, hd1, nd, hk, hat⟩
    obtain ⟨bp, p, rfl, e1, e2⟩ := hps.get hi
    have np := nps p (List.mem_of_getElem? e1)
    have es : ss[i]? = some (idle p) := by rw [hss, List.getElem?_map, e1]; rfl
    refine ⟨_, rfl, bp, p, rfl, e2.keep (Kp.of sm), np.1, np.2, fun r H2 vr s2 hrn hr2 har => ?_⟩
    have hprd : PdAt H2 r (idle p) := ⟨vr, hr2, har.keep (Kp.of s2)⟩
    refine ⟨_, rfl, _, rfl, _, rfl, r, idle p, rfl, hprd, nmIdle np.1, Nat.le_trans (idle_le p) np.2, fun H3 s3 => ?_⟩
    have hd3 : H3 d = some (.dK (txD ks f)) := s3 _ _ (s2 _ _ hd1)
    have sm3 := sm.trans (s2.trans s3)
    have lk := fewK ks i nd fun x hx => (hk x).mp hx
    refine ⟨d, _, rfl, DPut.k (k := .inr (prdText (idle p))) hd3 (small1000 (by rw [txD_len]; omega)), ?_⟩
    have put : Same H (upd H3 d (.dK (putK (txD ks f) (.inr (prdText (idle p))) (.ref r)))) := fun c e z => by
      rw [upd_ne (ne_of_none z hd)]
      exact sm3 _ _ z
    have kd : Kp (frl H H3) (frl H (upd H3 d (.dK (putK (txD ks f) (.inr (prdText (idle p))) (.ref r))))) := by
      refine ⟨fun c xs e => ?_, fun c xs e => ?_⟩
      · obtain ⟨e3, e4⟩ := frl_l.mp e
        exact frl_l.mpr ⟨e3, by rw [upd_ne (by rintro rfl; rw [hd3] at e4; cases e4)]; exact e4⟩
      · have e4 := frl_t.mp e
        exact frl_t.mpr (by rw [upd_ne (by rintro rfl; rw [hd3] at e4; cases e4)]; exact e4)
    have hrH : H r = none := none_back (W := []) (Sm.of_same sm) (fun _ z => by cases z) hrn
    have new : PdAt (frl H H3) r (idle p) := ⟨vr, frl_l.mpr ⟨hrH, s3 _ _ hr2⟩, har.keepT fun c xs e => frl_t.mpr (s3 _ _ (s2 _ _ e))⟩
    have est : ss.take (i + 1) = ss.take i ++ [idle p] := by rw [List.take_add_one, es]; rfl
    refine ⟨_, _, _, setA f (prdText (idle p)) r, rfl, put, by rw [upd_same, txD_put], ?_, fun x => ?_, fun x hx => ?_⟩
    · split
      · exact nd
      · rename_i hx
        exact List.nodup_append.mpr ⟨nd, by simp, fun a ha c hc => by rw [List.mem_singleton.mp hc]; rintro rfl; exact hx ha⟩
    · rw [est]
      have hkx := hk (prdText (idle p))
      constructor
      · intro hx
        by_cases e : x = prdText (idle p)
        · exact ⟨idle p, by simp, e.symm⟩
        · have hx' : x ∈ ks := by
            split at hx
            · exact hx
            · simpa [e] using hx
          obtain ⟨p', h1, h2⟩ := (hk x).mp hx'
          exact ⟨p', by simp [h1], h2⟩
      · rintro ⟨p', h1, h2⟩
        rcases List.mem_append.mp h1 with h1 | h1
        · have := (hk x).mpr ⟨p', h1, h2⟩
          split
          · exact this
          · exact List.mem_append_left _ this
        · rw [List.mem_singleton.mp h1] at h2
          subst h2
          split
          · assumption
          · simp
    · rw [est, byText_snoc]
      by_cases e : prdText (idle p) = x
      · rw [if_pos e]
        unfold setA
        rw [if_pos e.symm]
        exact new.keep kd
      · rw [if_neg e]
        unfold setA
        rw [if_neg fun z => e z.symm]
        have hx' : x ∈ ks := by
          split at hx
          · exact hx
          · rcases List.mem_append.mp hx with h | h
            · exact h
            · exact absurd (List.mem_singleton.mp h).symm e
        exact ((hat x hx').keep (kp_frl_same (s2.trans s3))).keep kd
  · rintro σ H1 ⟨v2, v5, ks, f, rfl, s1, hd1, nd, hk, hat⟩
    have lk := fewK ks vp.length nd fun x hx => (hk x).mp hx
    have lss : ss.length = vp.length := by rw [hss, List.length_map]; omega
    rw [← lss, List.take_length] at hk hat
    have okt : ∀ x ∈ ks, nmPrd (byText ss x) ∧ (byText ss x).length ≤ 100 := fun x hx => by
      obtain ⟨h1, _⟩ := byText_mem ((hk x).mp hx)
      exact sub ss.length _ (by rw [List.take_length]; exact h1)
    refine ⟨Nat.zero_le _, fun fd hfd => ?_⟩
    have dfd : d ≠ fd := ne_of_none hd1 hfd
    have s2 := same_upd0 hfd (.lst [])
    have hd2 := s2 _ _ hd1
    refine ⟨_, rfl, d, txD ks f, ks, rfl, .inl hd2, txD_keys ks f, lk, fun ys p5 hperm hsrt hp5 => ?_⟩
    have et : Tells ys (ss.map prdText) := ⟨hperm.symm.nodup nd, hsrt, fun x => by rw [hperm.mem_iff, hk, List.mem_map]⟩
    have ly : ys.length = ks.length := hperm.length_eq
    obtain ⟨kp, hkp⟩ : ∃ kp : Str → Bool, kp = fun x => !(ys.any fun y => !decide (y = x) && within (byText ss x) (byText ss y)) := ⟨_, rfl⟩
    have enorm : normal ps = (ys.filter kp).map (byText ss) := by
      unfold normal
      simp only [← hss]
      rw [asc_of et, hkp]
    have fdH : H fd = none := none_back (W := []) (Sm.of_same s1) (fun _ z => by cases z) hfd
    have p5fd : p5 ≠ fd := by rintro rfl; rw [upd_same] at hp5; cases hp5
    have p5d : p5 ≠ d := by rintro rfl; rw [hd2] at hp5; cases hp5
    have s3 := same_upd0 hp5 (.lst (ys.map V.str))
    have s03 := s1.trans (s2.trans s3)
    have ini : ∀ x ∈ ks, PdAt (wo [fd] (frl H (upd (upd H1 fd (.lst [])) p5 (.lst (ys.map V.str))))) (f x) (byText ss x) := fun x hx => by
      refine (hat x hx).keep ⟨fun c xs e => ?_, fun c xs e => ?_⟩
      · obtain ⟨e3, e4⟩ := frl_l.mp e
        exact wo_some.mpr ⟨by simpa using ne_of_none e4 hfd, frl_l.mpr ⟨e3, s3 _ _ (s2 _ _ e4)⟩⟩
      · have e4 := frl_t.mp e
        exact wo_some.mpr ⟨by simpa using ne_of_none e4 hfd, frl_t.mpr (s3 _ _ (s2 _ _ e4))⟩
    refine ⟨p5, rfl, ⟨_, SqL.of upd_same⟩, for_list (K := K) (a := p5) (xs := ys.map V.str) (fun i σ H' => ∃ (v4 v6 : Option V) (fw : List V), σ = [some (.ref b), some (.ref d), v2, some (.ref fd), v4, v5, v6, none] ∧ Same H H' ∧ H' d = some (.dK (txD ks f)) ∧ H' p5 = some (.lst (ys.map V.str)) ∧ H' fd = some (.lst fw) ∧ (∀ x ∈ ks, PdAt (wo [fd] (frl H H')) (f x) (byText ss x)) ∧ PdsAt (wo [fd] (frl H H')) fw (((ys.take i).filter kp).map (byText ss))) ⟨none, none, [], rfl, s03, s3 _ _ hd2, upd_same, s3 _ _ upd_same, ini, .nil⟩ ?_ ?_ ?_⟩
    · rintro i σ H' _ ⟨_, _, _, _, _, _, h5, _⟩
      exact SqL.of h5
    · rintro i y σ H3 hi ⟨v4, v6, fw, rfl, sm, hd3, h53, hf3, hat3, hfw⟩
      obtain ⟨x, hx, rfl⟩ : ∃ x, ys[i]? = some x ∧ y = .str x := by
        rw [List.getElem?_map] at hi
        cases e : ys[i]? with
        | none => rw [e] at hi; cases hi
        | some x => rw [e] at hi; cases hi; exact ⟨x, rfl, rfl⟩
      have hxk : x ∈ ks := hperm.mem_iff.mp (List.mem_of_getElem? hx)
      refine .inl ⟨d, .dK (txD ks f), hd3, trivial, fun od => ?_⟩
      have hd4 : (upd H3 d (.frz od (.dK (txD ks f)))) d = some (.frz od (.dK (txD ks f))) := upd_same
      have of4 : ∀ c, c ≠ d → (upd H3 d (.frz od (.dK (txD ks f)))) c = H3 c := fun c hc => upd_ne hc
      generalize upd H3 d (.frz od (.dK (txD ks f))) = H4 at hd4 of4 ⊢
      refine ⟨_, rfl, d, od, rfl, .inl ⟨txD ks f, hd4, ?_⟩⟩
      refine fun D hD => lcT (n := (txD ks f).length) hD (small1000 (by rw [txD_len]; omega)) (fun j v => ∃ y, ks[j]? = some y ∧ v = .str y) (valT ks (fun y => !decide (y = x)) fun y => V.ref (f y)) (go_k hd4) (stop_k hd4) (fun j Hx v Hy sx hj yy => ?_) ?_ ?_
      · obtain ⟨rfl, k, v', e1, rfl⟩ := yld_k j Hx v Hy sx hj yy
        refine ⟨rfl, ?_⟩
        unfold txD at e1
        rw [List.getElem?_map] at e1
        cases e : ks[j]? with
        | none => rw [e] at e1; cases e1
        | some y => rw [e] at e1; cases e1; exact ⟨y, rfl, rfl⟩
      · rintro j v Hx body hj ⟨y, hy, rfl⟩ sx kk
        have hyk : y ∈ ks := List.mem_of_getElem? hy
        unfold valT at kk
        rw [hy] at kk
        refine ⟨rfl, _, rfl, _, rfl, rfl, ?_⟩
        obtain ⟨k1, k2⟩ := kk (List.set (wipe ([some (V.ref b), some (V.ref d), v2, some (V.ref fd), v4, v5, v6, none].set 4 (some (V.str x))) (List.map (fun x => x.snd) [(Str.ofString "other", 7)])) 7 (some (V.str y))) Hx (Same.refl _)
        have ex : decide ((V.str y : V) = V.str x) = decide (y = x) := by
          by_cases c : y = x
          · subst c; simp
          · rw [decide_eq_false c, decide_eq_false fun z => c (V.str.inj z)]
        rw [ex]
        by_cases c : y = x
        · have := k1 (by simp [c])
          rw [decide_eq_true c]
          exact ⟨_, rfl, this⟩
        · have := k2 (.ref (f y)) (by simp [c]) fun Q hQ => ⟨_, rfl, _, rfl, d, _, rfl, .inl ⟨txD ks f, .inr y, .inr ⟨od, sx _ _ hd4⟩, rfl, (txD_in f hyk).symm⟩, hQ⟩
          rw [decide_eq_false c]
          exact ⟨_, rfl, this⟩
      · intro Hx sx hDx
        have hdx := sx _ _ hd4
        rw [txD_len, range_fm ks (fun y => !decide (y = x)) (fun y => V.ref (f y))] at hDx
        refine ⟨hdx, ?_⟩
        have hDd : D ≠ d := by rintro rfl; rw [hd4] at hD; cases hD
        have of5 : ∀ c, c ≠ d → (upd Hx d (.dK (txD ks f))) c = Hx c := fun c hc => upd_ne hc
        have hd5 : (upd Hx d (.dK (txD ks f))) d = some (.dK (txD ks f)) := upd_same
        generalize upd Hx d (.dK (txD ks f)) = H5 at of5 hd5 ⊢
        have s35 : Same H3 H5 := fun c o e => by
          by_cases h : c = d
          · subst h; rw [hd3] at e; cases e; exact hd5
          · rw [of5 c h]; exact sx _ _ (by rw [of4 c h]; exact e)
        have hD5 : H5 D = some (.lst ((ks.filter fun y => !decide (y = x)).map fun y => V.ref (f y))) := by rw [of5 D hDd]; exact hDx
        have hat5 : ∀ y ∈ ks, PdAt H5 (f y) (byText ss y) := fun y hy => ((hat3 y hy).keep kp_wo_any).keep (kp_frl.trans (Kp.of s35))
        have hoth := pdsMap (ks.filter fun y => !decide (y = x)) fun y hy => hat5 y (List.mem_filter.mp hy).1
        refine ⟨_, rfl, _, rfl, _, rfl, d, _, rfl, .inl ⟨txD ks f, .inr x, .inl hd5, rfl, (txD_in f hxk).symm⟩, D, f x, _, _, byText ss x, rfl, hD5, hoth, hat5 x hxk, fun p hp => ?_, (okt x hxk).1, (okt x hxk).2, ?_, fun H6 s6 => ?_⟩
        · obtain ⟨y, hy, rfl⟩ := List.mem_map.mp hp
          exact okt y (List.mem_filter.mp hy).1
        · rw [List.length_map]
          have := List.length_filter_le (fun y => !decide (y = x)) ks
          omega
        have ekp : kp x = !prdIn ((ks.filter fun y => !decide (y = x)).map (byText ss)) (byText ss x) := by
          rw [hkp]
          show (!(ys.any fun y => !decide (y = x) && within (byText ss x) (byText ss y))) = !prdIn ((ks.filter fun y => !decide (y = x)).map (byText ss)) (byText ss x)
          congr 1
          unfold prdIn
          rw [List.any_map, Bool.eq_iff_iff, List.any_eq_true, List.any_eq_true]
          constructor
          · rintro ⟨y, hy, h⟩
            rw [Bool.and_eq_true] at h
            exact ⟨y, List.mem_filter.mpr ⟨hperm.mem_iff.mp hy, h.1⟩, h.2⟩
          · rintro ⟨y, hy, h⟩
            obtain ⟨h1, h2⟩ := List.mem_filter.mp hy
            exact ⟨y, hperm.mem_iff.mpr h1, by rw [Bool.and_eq_true]; exact ⟨h2, h⟩⟩
        have s36 := s35.trans s6
        have etk : (ys.take (i + 1)).filter kp = (ys.take i).filter kp ++ (if kp x then [x] else []) := by
          rw [List.take_add_one, hx, List.filter_append]
          simp [List.filter_cons]
        have lfw := hfw.length
        rw [List.length_map] at lfw
        have lfl := List.length_filter_le kp (ys.take i)
        rw [List.length_take] at lfl
        refine ⟨_, rfl, ?_⟩
        have hd6 := s6 _ _ hd5
        have h56 : H6 p5 = some (.lst (ys.map V.str)) := s36 _ _ h53
        have hf6 : H6 fd = some (.lst fw) := s36 _ _ hf3
        have kp6 : Kp (wo [fd] (frl H H3)) (wo [fd] (frl H H6)) := kp_frl_wo fun c o _ e => s36 _ _ e
        have hfw6 := hfw.keep kp6
        cases hpi : prdIn ((ks.filter fun y => !decide (y = x)).map (byText ss)) (byText ss x) with
        | true =>
          have hk6 : kp x = false := by rw [ekp, hpi]; rfl
          rw [hk6, if_neg (by decide), List.append_nil] at etk
          refine iteF ?_
          exact ⟨_, _, fw, rfl, sm.trans s36, hd6, h56, hf6, fun y hy => (hat3 y hy).keep kp6, by rw [etk]; exact hfw6⟩
        | false =>
          have hk6 : kp x = true := by rw [ekp, hpi]; rfl
          rw [hk6, if_pos rfl] at etk
          refine iteT ?_
          have kp7 : Kp (wo [fd] (frl H H6)) (wo [fd] (frl H (upd H6 fd (.lst (fw ++ [.ref (f x)]))))) := kp_frl_wo fun c o hc e => by rw [upd_ne (by simpa using hc)]; exact e
          have e7 : ∀ c, c ≠ fd → (upd H6 fd (.lst (fw ++ [.ref (f x)]))) c = H6 c := fun c hc => upd_ne hc
          refine ⟨_, rfl, .inl ⟨rfl, _, SqL.of hf6⟩, _, rfl, _, rfl, d, _, rfl, .inl ⟨txD ks f, .inr x, .inl hd6, rfl, (txD_in f hxk).symm⟩, fd, fw, _, rfl, rfl, hf6, small1000 (by omega), ?_⟩
          refine ⟨_, _, fw ++ [.ref (f x)], rfl, fun c o e => ?_, by rw [e7 d dfd]; exact hd6, by rw [e7 p5 p5fd]; exact h56, upd_same, fun y hy => ((hat3 y hy).keep kp6).keep kp7, ?_⟩
          · rw [e7 c (ne_of_none e fdH)]
            exact s36 _ _ (sm _ _ e)
          · rw [etk, List.map_append]
            exact (hfw6.keep kp7).app (.cons (((hat3 x hxk).keep kp6).keep kp7) .nil)
    · rintro σ H3 ⟨v4, v6, fw, rfl, sm, hd3, h53, hf3, hat3, hfw⟩
      rw [List.length_map, List.take_length, ← enorm] at hfw
      exact ⟨_, rfl, q fd H3 fw sm fdH hf3 (hfw.keep kp_wo_any)⟩
end K09


set_option Elab.async false
set_option linter.all false
set_option maxRecDepth 100000
set_option maxHeartbeats 4000000
namespace K09
open PySem PySem.Spec PyProof.Rows L2 FA
variable {P : Program} {w : World} {K : PySem.W.Frag} {mg : Str → Option Value} {base : Heap}
/-- a source of draws at a: at most n numbers were mixed -/
def WellAt (H : Hp) (a : Addr) (n : Nat) : Prop := ∃ x y z : Int, H a = some (.lst [.int x, .int y, .int z]) ∧ y.natAbs < 2 ^ 200 ∧ 0 ≤ z ∧ z ≤ n
theorem WellAt.mono {H : Hp} {a : Addr} {n m : Nat} (h : WellAt H a n) (hm : n ≤ m) : WellAt H a m := by
  obtain ⟨x, y, z, h1, h2, h3, h4⟩ := h
  exact ⟨x, y, z, h1, h2, h3, by omega⟩
theorem WellAt.keep {H H' : Hp} {a : Addr} {n : Nat} (h : WellAt H a n) (k : ∀ o, H a = some o → H' a = some o) : WellAt H' a n := by
  obtain ⟨x, y, z, h1, h⟩ := h
  exact ⟨x, y, z, k _ h1, h⟩
theorem WellAt.some {H : Hp} {a : Addr} {n : Nat} (h : WellAt H a n) : ∃ o, H a = some o := by
  obtain ⟨x, y, z, h1, _⟩ := h
  exact ⟨_, h1⟩
theorem e39 : ((10 : Int) ^ Int.toNat 39) = 1000000000000000000000000000000000000000 := by decide
theorem e41 : ((10 : Int) ^ Int.toNat 41) = 100000000000000000000000000000000000000000 := by decide
theorem e38 : ((10 : Int) ^ Int.toNat 38) = 100000000000000000000000000000000000000 := by decide
def spPick : Sp := fun vs H Q _ => ∃ (a : Addr) (m : Int) (n : Nat), vs = [.ref a, .int m] ∧ 1 ≤ m ∧ m < 1000000 ∧ WellAt H a n ∧ n < 2 ^ 100 ∧
  ∀ r H', 0 ≤ r → r < m → Sm [a] H H' → WellAt H' a (n + 1) → Q (.int r) H'
theorem abs_small {i : Int} {n : Nat} (h : i.natAbs < 2 ^ n) (hn : n ≤ 1000000) : i.natAbs < 2 ^ 1000000 := Nat.lt_of_lt_of_le h (Nat.pow_le_pow_right (by decide) hn)
theorem okPick (T : Txt K mg) : FnOk P w K mg base CX0 1 T.aLPick T.fLPick ["pouch", "size"] spPick := by
  refine T.FLPick.ok scLPick (fun vs H Q E h => ?_) (fun cdv A outer s H vs Q E hr h => ?_)
  · obtain ⟨a, m, n, rfl, _⟩ := h
    rfl
  obtain ⟨a, m, n, rfl, h1, h2, ⟨x, y, z, hw, hy, hz0, hz⟩, hn, q⟩ := h
  have hu := hu_of hr
  refine ⟨_, (pss_cons (ps_if (pt_cmpR op_gt (pe_ix ix_list (pv 0) pe_int (fun _ _ => rfl)) pe_int (nomark _))
        (pss_cons (ps_set (i := 3) scLPick.nd rfl (by first | exact Or.inl rfl | exact Or.inr rfl) (pe_op op_mod (pe_ix ix_list (pv 0) pe_int (fun _ _ => rfl)) (pv 1)))
        (pss_cons (ps_asg (pe_op op_fdivW (pe_ix ix_list (pv 0) pe_int (fun _ _ => rfl)) (pv 1)) (pg_sub (pv 0) pe_int set_list))
        (pss_one (ps_ret (pv 3))))) pss_nil)
      (pss_cons (ps_asg (pe_op op_add (pe_ix ix_list (pv 0) pe_int (fun _ _ => rfl)) pe_int) (pg_sub (pv 0) pe_int set_list))
      (pss_cons (ps_set (i := 2) scLPick.nd rfl (by first | exact Or.inl rfl | exact Or.inr rfl) (pe_op op_mod (pe_op op_powW (pe_op op_add (pe_ix ix_list (pv 0) pe_int (fun _ _ => rfl)) (pe_op op_mul pe_int (pe_ix ix_list (pv 0) pe_int (fun _ _ => rfl)))) pe_int) (pe_op op_add (pe_op op_pow pe_int pe_int) pe_int)))
      (pss_cons (ps_set (i := 2) scLPick.nd rfl (by first | exact Or.inl rfl | exact Or.inr rfl) (pe_op op_mod (pe_op op_powW (pe_op op_add (pv 2) (pe_op op_mul pe_int (pe_ix ix_list (pv 0) pe_int (fun _ _ => rfl)))) pe_int) (pe_op op_add (pe_op op_pow pe_int pe_int) pe_int)))
      (pss_one (ps_ret (pe_op op_mod (pe_op op_fdivW (pv 2) pe_int) (pv 1)))))))), ?_⟩
  have hm : m.natAbs < 2 ^ 20 := by omega
  refine ⟨_, rfl, _, _, _, _, rfl, rfl, SqL.of hw, at_of (j := 0) rfl rfl, _, _, rfl, rfl, _, rfl, ite2 (fun c => ?_) (fun c => ?_)⟩
  · have c := of_decide_eq_true c
    refine ⟨_, rfl, _, _, _, _, rfl, rfl, SqL.of hw, at_of (j := 0) rfl rfl, _, rfl, _, _, rfl, rfl, (by show (0 : Int) < m; omega), ?_⟩
    refine ⟨_, rfl, _, _, _, _, rfl, rfl, SqL.of hw, at_of (j := 0) rfl rfl, _, rfl, _, _, rfl, rfl, wide_div (by omega) hm (by decide) (by decide), ?_⟩
    refine ⟨_, rfl, a, _, 0, 0, rfl, rfl, hw, rfl, ?_⟩
    refine ⟨_, rfl, q _ _ (Int.emod_nonneg _ (by omega)) (Int.emod_lt_of_pos _ (by omega)) (Sm.at (by simp)) ⟨_, y, z, upd_same, hy, hz0, by omega⟩⟩
  · refine ⟨_, rfl, _, _, _, _, rfl, rfl, SqL.of hw, at_of (j := 2) rfl rfl, _, _, rfl, rfl, ?_⟩
    refine ⟨_, rfl, a, _, 2, 2, rfl, rfl, hw, rfl, ?_⟩
    obtain ⟨H2, eH⟩ : ∃ H2, H2 = upd H a (.lst ([V.int x, V.int y, V.int z].set 2 (.int (z + 1)))) := ⟨_, rfl⟩
    have hw2 : H2 a = some (.lst [.int x, .int y, .int (z + 1)]) := by rw [eH]; exact upd_same
    have s2 : Sm [a] H H2 := by rw [eH]; exact Sm.at (by simp)
    rw [← eH]
    have hb : (y + 32452867 * (z + 1)).natAbs < 2 ^ 201 := by omega
    refine ⟨_, rfl, _, _, _, _, rfl, rfl, SqL.of hw2, at_of (j := 1) rfl rfl, _, rfl, _, _, _, _, rfl, rfl, SqL.of hw2, at_of (j := 2) rfl rfl, _, _, rfl, rfl, .inl ⟨by decide, by decide⟩, _, _, rfl, rfl, _, _, rfl, rfl, ⟨by decide, by decide, abs_small hb (by decide)⟩, ?_⟩
    refine ⟨_, _, rfl, rfl, ⟨by decide, by decide, by decide⟩, _, _, rfl, rfl, _, _, rfl, rfl, (by show (0 : Int) < _; rw [e41]; decide), ?_⟩
    have m0 := Int.emod_nonneg ((y + 32452867 * (z + 1)) ^ Int.toNat 3) (b := (10 : Int) ^ Int.toNat 41 + 109) (by rw [e41]; decide)
    have m1 := Int.emod_lt_of_pos ((y + 32452867 * (z + 1)) ^ Int.toNat 3) (b := (10 : Int) ^ Int.toNat 41 + 109) (by rw [e41]; decide)
    have hb2 : ∀ u : Int, 0 ≤ u → u < (10 : Int) ^ Int.toNat 41 + 109 → (u + 15485917 * (z + 1)).natAbs < 2 ^ 201 := fun u h0 h1 => by
      rw [e41] at h1
      omega
    refine ⟨_, rfl, _, rfl, _, _, _, _, rfl, rfl, SqL.of hw2, at_of (j := 2) rfl rfl, _, _, rfl, rfl, .inl ⟨by decide, by decide⟩, _, _, rfl, rfl, _, _, rfl, rfl, ⟨by decide, by decide, abs_small (hb2 _ m0 m1) (by decide)⟩, ?_⟩
    refine ⟨_, _, rfl, rfl, ⟨by decide, by decide, by decide⟩, _, _, rfl, rfl, _, _, rfl, rfl, (by show (0 : Int) < _; rw [e38]; decide), ?_⟩
    refine ⟨_, rfl, _, _, rfl, rfl, ⟨by decide, by decide⟩, _, rfl, _, _, rfl, rfl, (by show (0 : Int) < m; omega), ?_⟩
    exact q _ _ (Int.emod_nonneg _ (by omega)) (Int.emod_lt_of_pos _ (by omega)) s2 ⟨x, y, z + 1, hw2, hy, by omega, by omega⟩
end K09


set_option Elab.async false
set_option linter.all false
set_option maxRecDepth 100000
set_option maxHeartbeats 1000000
namespace K09
open PySem PySem.Spec PyProof.Rows L2 FA
variable {P : Program} {w : World} {K : PySem.W.Frag} {mg : Str → Option Value} {base : Heap}
def spPouch : Sp := fun vs H Q _ => ∃ (s : Addr) (ns : List Int) (k : Nat), vs = [.ref s, .int (k : Int)] ∧ SqL K H s (ns.map V.int) ∧ k ≤ 100 ∧ ∀ a H', Same H H' → H a = none → WellAt H' a 0 → Q (.ref a) H'
theorem okPouch (T : Txt K mg) : FnOk P w K mg base CX0 1 T.aLPouch T.fLPouch ["script", "index"] (spPouch (K := K)) := by
  refine T.FLPouch.ok scLPouch (fun vs H Q E h => ?_) (fun cdv A outer s H vs Q E hr h => ?_)
  · obtain ⟨s, ns, k, rfl, _⟩ := h
    rfl
  obtain ⟨a, ns, k, rfl, hs, hk, q⟩ := h
  have hu := hu_of hr
  refine ⟨_, (pss_cons (ps_set (i := 2) scLPouch.nd rfl (by first | exact Or.inl rfl | exact Or.inr rfl) (pe_op op_add pe_int (pe_op op_mul pe_int (pv 1))))
      (pss_cons (ps_for PassesOwn.never rfl (pi_list (pv 0)) (pg_name (i := 3) scLPouch.nd rfl (by first | exact Or.inl rfl | exact Or.inr rfl))
        (pss_one (ps_set (i := 2) scLPouch.nd rfl (by first | exact Or.inl rfl | exact Or.inr rfl) (pe_op op_mod (pe_op op_add (pe_op op_mul (pv 2) pe_int) (pe_op op_mod (pv 3) (pe_op op_add (pe_op op_pow pe_int pe_int) pe_int))) (pe_op op_add (pe_op op_pow pe_int pe_int) pe_int)))))
      (pss_cons (ps_set (i := 3) scLPouch.nd rfl (by first | exact Or.inl rfl | exact Or.inr rfl) (pe_ifExp (pt_cmpR op_lt (pv 1) (pe_callB call_len_seq (by rfl) T.n_len PySem.boot_len (pa_cons (pv 0) pa_nil)) (nomark _)) (pe_callB call_abs (by rfl) T.n_abs (by decide +kernel) (pa_cons (pe_ix ix_list (pv 0) (pv 1) (fun _ _ => rfl)) pa_nil)) pe_int))
      (pss_one (ps_ret (pe_lst (pa_cons (pe_callB (call_max2 rfl) (by rfl) T.n_max (by decide +kernel) (pa_cons pe_int (pa_cons (pe_op op_sub (pv 3) (pe_op op_pow pe_int pe_int)) pa_nil))) (pa_cons (pv 2) (pa_cons pe_int pa_nil))))))))), ?_⟩
  refine ⟨_, rfl, _, _, rfl, rfl, .inl ⟨by decide, by decide⟩, _, _, rfl, rfl, ?_⟩
  refine ⟨_, rfl, a, rfl, ⟨_, hs⟩, for_list (K := K) (a := a) (xs := ns.map V.int) (fun i σ H' => ∃ (y : Int) (v3 : Option V), σ = [some (.ref a), some (.int (k : Int)), some (.int y), v3] ∧ H' = H ∧ y.natAbs < 2 ^ 200) ⟨_, none, rfl, rfl, by omega⟩ ?_ ?_ ?_⟩
  · rintro i σ H' _ ⟨_, _, _, rfl, _⟩
    exact hs
  · rintro i x σ H' hi ⟨y, v3, rfl, rfl, hy⟩
    obtain ⟨cell, rfl⟩ : ∃ cell, x = .int cell := by
      rw [List.getElem?_map] at hi
      cases hc : ns[i]? with
      | none => rw [hc] at hi; cases hi
      | some c => rw [hc] at hi; cases hi; exact ⟨c, rfl⟩
    refine ⟨_, rfl, _, _, rfl, rfl, .inr ⟨by decide, by decide⟩, _, rfl, _, _, rfl, rfl, ⟨by decide, by decide, by decide⟩, _, _, rfl, rfl, _, _, rfl, rfl, (by show (0 : Int) < _; rw [e41]; decide), _, _, rfl, rfl, ?_⟩
    refine ⟨_, _, rfl, rfl, ⟨by decide, by decide, by decide⟩, _, _, rfl, rfl, _, _, rfl, rfl, (by show (0 : Int) < _; rw [e39]; decide), ?_⟩
    refine ⟨_, _, rfl, rfl, ?_⟩
    rw [e39]
    obtain ⟨z, hz⟩ : ∃ z, z = y * 7368787 + cell % ((10 : Int) ^ Int.toNat 41 + 37) := ⟨_, rfl⟩
    rw [← hz]
    have h1 := Int.emod_nonneg z (b := 1000000000000000000000000000000000000000 + 3) (by decide)
    have h2 := Int.emod_lt_of_pos z (b := 1000000000000000000000000000000000000000 + 3) (by decide)
    omega
  · rintro σ H' ⟨y, v3, rfl, rfl, hy⟩
    have rest : ∀ (u : Int) (R : VK), (∀ a' H2, Same H' H2 → H' a' = none → WellAt H2 a' 0 → R (.ref a') H2) → ∀ p, H' p = none → R (.ref p) (upd H' p (.lst [.int u, .int y, .int 0])) := fun u R q p hp => q p _ (same_upd hp _) hp ⟨_, _, _, upd_same, hy, Int.le_refl _, Int.le_refl _⟩
    refine ⟨_, rfl, _, rfl, a, _, rfl, .inl hs, _, _, rfl, rfl, _, rfl, ite2 (fun c => ?_) (fun c => ?_)⟩
    · have c := of_decide_eq_true c
      rw [List.length_map] at c
      have hlt : k < ns.length := by omega
      refine ⟨_, rfl, _, rfl, _, _, _, _, rfl, rfl, hs, atI_nat (j := k) (v := .int ns[k]) (by rw [List.getElem?_map, List.getElem?_eq_getElem hlt]; rfl), _, rfl, ?_⟩
      refine ⟨_, rfl, _, _, rfl, rfl, ⟨by decide, by decide, by decide⟩, _, _, rfl, rfl, _, _, rfl, ?_⟩
      refine ⟨_, rfl, Nat.le_of_lt (small1000 (by simp)), fun p hp => rest _ Q q p hp⟩
    · refine ⟨_, rfl, _, _, rfl, rfl, ⟨by decide, by decide, by decide⟩, _, _, rfl, rfl, _, _, rfl, ?_⟩
      refine ⟨_, rfl, Nat.le_of_lt (small1000 (by simp)), fun p hp => rest _ Q q p hp⟩
end K09


set_option Elab.async false
set_option linter.all false
set_option maxRecDepth 100000
set_option maxHeartbeats 1000000
namespace K09
open PySem PySem.Spec PyProof.Rows L2 FA
variable {P : Program} {w : World} {K : PySem.W.Frag} {mg : Str → Option Value} {base : Heap}
theorem lgA_len {a : Atm} {t : Nat} (h : a.nms.length ≤ 5) (ht : t ≤ 16) : (lgA t a).length ≤ 80 := by
  cases a with
  | n x => simp [lgA]
  | t xs =>
    have h : xs.length ≤ 5 := h
    show ((List.replicate t xs).flatten).length ≤ 80
    rw [List.length_flatten, List.map_replicate, List.sum_replicate_nat]
    exact Nat.le_trans (Nat.mul_le_mul ht h) (by decide)
theorem long_len {t : Nat} (ht : t ≤ 16) : ∀ {p : Prd}, (∀ a ∈ p, a.nms.length ≤ 5) → (long t p).length ≤ 80 * p.length
  | [], _ => by simp [long]
  | a :: p, h => by
    rw [long_cons, List.length_append]
    have h1 := lgA_len (h a (by simp)) ht
    have h2 := long_len ht (p := p) fun b hb => h b (List.mem_cons_of_mem _ hb)
    simp only [List.length_cons]
    omega
theorem long_app (t : Nat) (p q : Prd) : long t (p ++ q) = long t p ++ long t q := by simp [long]
def spLongest : Sp := fun vs H Q _ => ∃ (b : Addr) (p : Prd) (t : Nat), vs = [.ref b, .int (t : Int)] ∧ PdAt H b p ∧ (∀ a ∈ p, a.nms.length ≤ 5) ∧ p.length ≤ 20 ∧ t ≤ 16 ∧ ∀ r H', Same H H' → H r = none → H' r = some (.lst ((long t p).map V.str)) → Q (.ref r) H'
theorem okLongest (T : Txt K mg) : FnOk P w K mg base CX0 1 T.aLLongest T.fLLongest ["product", "times"] spLongest := by
  refine T.FLLongest.ok scLLongest (fun vs H Q E h => ?_) (fun cdv A outer s H vs Q E hr h => ?_)
  · obtain ⟨b, p, t, rfl, _⟩ := h
    rfl
  obtain ⟨b, p, t, rfl, ⟨vs, hb, hp⟩, ha, hl, ht, q⟩ := h
  have hu := hu_of hr
  refine ⟨_, (pss_cons (ps_set (i := 2) scLLongest.nd rfl (by first | exact Or.inl rfl | exact Or.inr rfl) (pe_lst pa_nil))
      (pss_cons (ps_for PassesOwn.never rfl (pi_list (pv 0)) (pg_name (i := 3) scLLongest.nd rfl (by first | exact Or.inl rfl | exact Or.inr rfl))
        (pss_one (ps_set (i := 2) scLLongest.nd rfl (by first | exact Or.inl rfl | exact Or.inr rfl) (pe_op op_cat (pv 2) (pe_ifExp (pt_val (pe_callB call_isi (by rfl) T.n_isinstance (by decide +kernel) (pa_cons (pv 3) (pa_cons (pe_bltn (v := .ty "str") (by rfl) T.n_str (by decide +kernel) rfl) pa_nil)))) (pe_lst (pa_cons (pv 3) pa_nil)) (pe_op op_rep (pe_callTy call_list_of (by rfl) T.n_list (by decide +kernel) (pa_cons (pv 3) pa_nil)) (pv 1)))))))
      (pss_one (ps_ret (pv 2))))), ?_⟩
  have pl := hp.length
  refine ⟨Nat.zero_le _, fun f hf => ?_⟩
  refine ⟨_, rfl, b, rfl, ⟨_, SqL.of (same_upd0 hf (.lst []) _ _ hb)⟩, for_list (K := K) (a := b) (xs := vs) (fun i σ H' => ∃ (f : Addr) (v3 : Option V), σ = [some (.ref b), some (.int (t : Int)), some (.ref f), v3] ∧ Same H H' ∧ H f = none ∧ H' f = some (.lst ((long t (p.take i)).map V.str))) ⟨f, none, rfl, same_upd0 hf _, hf, upd_same⟩ ?_ ?_ ?_⟩
  · rintro i σ H' _ ⟨_, _, _, sm, _⟩
    exact SqL.of (sm _ _ hb)
  · rintro i y σ H1 hi ⟨f, v3, rfl, sm, fn, hf1⟩
    obtain ⟨a, e1, e2⟩ := hp.get hi
    have na := ha a (List.mem_of_getElem? e1)
    have ll := long_len ht (p := p.take i) fun b hb => ha b (List.mem_of_mem_take hb)
    have lt : (p.take i).length ≤ 20 := by rw [List.length_take]; omega
    have la := lgA_len na ht
    have est : long t (p.take (i + 1)) = long t (p.take i) ++ lgA t a := by
      rw [List.take_add_one, e1, long_app]
      simp [long]
    have fin : ∀ (H2 : Hp) (c : Addr), Same H1 H2 → H2 c = some (.lst ((lgA t a).map V.str)) → ((long t (p.take i)).map V.str).length + ((lgA t a).map V.str).length ≤ sizeLine ∧ ∀ r, H2 r = none → ∃ (f' : Addr) (v3 : Option V), [some (V.ref b), some (V.int (t : Int)), some (V.ref r), some y] = [some (.ref b), some (.int (t : Int)), some (.ref f'), v3] ∧ Same H (upd H2 r (.lst ((long t (p.take i)).map V.str ++ (lgA t a).map V.str))) ∧ H f' = none ∧ (upd H2 r (.lst ((long t (p.take i)).map V.str ++ (lgA t a).map V.str))) f' = some (.lst ((long t (p.take (i + 1))).map V.str)) := fun H2 c s2 hc => by
      refine ⟨?_, fun r hr => ⟨r, _, rfl, (sm.trans s2).trans (same_upd0 hr _), none_back (W := []) (Sm.of_same (sm.trans s2)) (fun _ z => by cases z) hr, by rw [upd_same, est, List.map_append]⟩⟩
      rw [List.length_map, List.length_map, sizeLine_eq]
      omega
    rcases (e2.keep (Kp.of sm)).two with ⟨x, rfl, ea⟩ | ⟨ta, xs, rfl, ea, hta⟩
    · refine ⟨_, rfl, _, rfl, _, _, _, _, true, rfl, .ty _, ty_str x, kit_ty (by decide +kernel), _, rfl, iteT ?_⟩
      refine ⟨_, rfl, Nat.le_of_lt (small1000 (by simp)), fun c hc => ?_⟩
      have s2 := same_upd0 hc (.lst [V.str x])
      obtain ⟨f1, f2⟩ := fin _ c s2 (by rw [upd_same, ea]; rfl)
      rw [ea] at f1 f2
      exact ⟨f, c, _, _, rfl, rfl, s2 _ _ hf1, upd_same, f1, fun r hr => f2 r hr⟩
    · refine ⟨_, rfl, _, rfl, _, _, _, _, false, rfl, .ty _, ty_tup hta, kit_ty (by decide +kernel), _, rfl, iteF ?_⟩
      refine ⟨_, rfl, ta, _, rfl, .inr (SqT.of hta), fun c hc => ?_⟩
      have s2 := same_upd0 hc (.lst (xs.map V.str))
      have hc2 : (upd H1 c (.lst (xs.map V.str))) c = some (.lst (xs.map V.str)) := upd_same
      generalize upd H1 c (.lst (xs.map V.str)) = H2 at s2 hc2 ⊢
      have e5 : (List.replicate ((t : Int)).toNat (xs.map V.str)).flatten = (lgA t a).map V.str := by
        rw [ea, Int.toNat_natCast]
        show _ = ((List.replicate t xs).flatten).map V.str
        rw [List.map_flatten, List.map_replicate]
      have l5 : xs.length ≤ 5 := by rw [ea] at na; exact na
      refine ⟨_, rfl, c, (t : Int), _, rfl, rfl, hc2, by omega, by omega, ?_, fun r2 hr2 => ?_⟩
      · rw [List.length_map, Int.toNat_natCast]
        exact Nat.le_trans (Nat.mul_le_mul l5 ht) (by rw [sizeLine_eq]; decide)
      rw [e5]
      have s3 := same_upd0 hr2 (.lst ((lgA t a).map V.str))
      obtain ⟨f1, f2⟩ := fin _ r2 (s2.trans s3) upd_same
      exact ⟨f, r2, _, _, rfl, rfl, (s2.trans s3) _ _ hf1, upd_same, f1, fun r hr => f2 r hr⟩
  · rintro σ H1 ⟨f, v3, rfl, sm, fn, hf1⟩
    rw [pl, List.take_length] at hf1
    exact ⟨_, rfl, q f H1 sm fn hf1⟩
end K09


set_option Elab.async false
set_option linter.all false
set_option maxRecDepth 100000
set_option maxHeartbeats 1000000
namespace K09
open PySem PySem.Spec PyProof.Rows L2 FA
variable {P : Program} {w : World} {K : PySem.W.Frag} {mg : Str → Option Value} {base : Heap}
theorem seq_inv {s t : TS} {D : L2.Ends} {σ : L2.St} {H : Hp} (I : L2.St → Hp → Prop) (h1 : ∀ N : L2.St → Hp → Prop, (∀ σ' H', I σ' H' → N σ' H') → s { D with nx := N } σ H) (h2 : ∀ σ' H', I σ' H' → t D σ' H') : tSeq s t D σ H := h1 _ h2
theorem str_at {u : List Str} {k : Nat} {v : V} (h : (u.map V.str)[k]? = some v) : ∃ y, u[k]? = some y ∧ v = .str y := by
  rw [List.getElem?_map] at h
  cases hc : u[k]? with
  | none => rw [hc] at h; cases h
  | some c => rw [hc] at h; cases h; exact ⟨c, rfl, rfl⟩
def spLInProduct : Sp := fun vs H Q _ => ∃ (b t : Addr) (p : Prd) (u : List Str), vs = [.ref b, .ref t] ∧ PdAt H b p ∧ H t = some (.lst (u.map V.str)) ∧ u.length ≤ 2000 ∧ ∀ H' c, Same H H' → (c = true ↔ LP p u) → Q (.bl c) H'
theorem okLInProduct (T : Txt K mg) : FnOk P w K mg base CX0 1 T.aLInProduct T.fLInProduct ["product", "word"] spLInProduct := by
  refine T.FLInProduct.ok scLInProduct (fun vs H Q E h => ?_) (fun cdv A outer s H vs Q E hr h => ?_)
  · obtain ⟨b, t, p, u, rfl, _⟩ := h
    rfl
  obtain ⟨b, t, p, u, rfl, ⟨vs, hb, hp⟩, ht, hul, q⟩ := h
  have hu := hu_of hr
  refine ⟨_, (pss_cons (ps_set (i := 2) scLInProduct.nd rfl (by first | exact Or.inl rfl | exact Or.inr rfl) (pe_op op_cat (pe_lst (pa_cons pe_bl pa_nil)) (pe_op op_rep (pe_lst (pa_cons pe_bl pa_nil)) (pe_callB call_len_seq (by rfl) T.n_len PySem.boot_len (pa_cons (pv 1) pa_nil)))))
      (pss_cons (ps_for PassesOwn.never rfl (pi_list (pv 0)) (pg_name (i := 3) scLInProduct.nd rfl (by first | exact Or.inl rfl | exact Or.inr rfl))
        (pss_cons (ps_set (i := 4) scLInProduct.nd rfl (by first | exact Or.inl rfl | exact Or.inr rfl) (pe_callTy call_list_of (by rfl) T.n_list (by decide +kernel) (pa_cons (pv 2) pa_nil)))
        (pss_cons (ps_for PassesOwn.never rfl (pi_enum (by rfl) T.n_enumerate (pa_cons (pv 1) pa_nil)) (pg_tup rfl (pgs_cons (pg_name (i := 5) scLInProduct.nd rfl (by first | exact Or.inl rfl | exact Or.inr rfl)) (pgs_cons (pg_name (i := 6) scLInProduct.nd rfl (by first | exact Or.inl rfl | exact Or.inr rfl)) pgs_nil)))
          (pss_one (ps_if (pt_val (pe_callB call_isi (by rfl) T.n_isinstance (by decide +kernel) (pa_cons (pv 3) (pa_cons (pe_bltn (v := .ty "str") (by rfl) T.n_str (by decide +kernel) rfl) pa_nil))))
            (pss_one (ps_asg (pe_or (pe_ix ix_list (pv 4) (pe_op op_add (pv 5) pe_int) (fun _ _ => rfl)) (pe_one (pe_and (pe_ix ix_list (pv 2) (pv 5) (fun _ _ => rfl)) (pe_one (pe_cmpR op_eq (pv 6) (pv 3) (nomark _)))))) (pg_sub (pv 4) (pe_op op_add (pv 5) pe_int) set_list))) (pss_one (ps_asg (pe_or (pe_ix ix_list (pv 4) (pe_op op_add (pv 5) pe_int) (fun _ _ => rfl)) (pe_one (pe_and (pe_ix ix_list (pv 4) (pv 5) (fun _ _ => rfl)) (pe_one (pe_cmpR op_in_seq (pv 6) (pv 3) (by rfl)))))) (pg_sub (pv 4) (pe_op op_add (pv 5) pe_int) set_list))))))
        (pss_one (ps_set (i := 2) scLInProduct.nd rfl (by first | exact Or.inl rfl | exact Or.inr rfl) (pv 4))))))
      (pss_one (ps_ret (pe_ix ix_list (pv 2) (pe_un un_neg pe_int) (fun _ _ => rfl)))))), ?_⟩
  have hs := sizeLine_eq
  have pl := hp.length
  refine ⟨Nat.le_of_lt (small1000 (by simp)), fun p1 h1 => ?_⟩
  have t1 := same_upd0 h1 (.lst [V.bl true])
  have g1 : (upd H p1 (.lst [V.bl true])) p1 = some (.lst [V.bl true]) := upd_same
  generalize upd H p1 (.lst [V.bl true]) = H1 at t1 g1 ⊢
  refine ⟨Nat.le_of_lt (small1000 (by simp)), fun p2 h2 => ?_⟩
  have t2 := same_upd0 h2 (.lst [V.bl false])
  have g2 : (upd H1 p2 (.lst [V.bl false])) p2 = some (.lst [V.bl false]) := upd_same
  generalize upd H1 p2 (.lst [V.bl false]) = H2 at t2 g2 ⊢
  refine ⟨_, rfl, t, _, rfl, .inl (SqL.of (t2 _ _ (t1 _ _ ht))), p2, _, _, rfl, rfl, g2, by rw [List.length_map]; omega, by rw [List.length_map]; omega, by rw [List.length_map, List.length_singleton, hs]; omega, fun p3 h3 => ?_⟩
  have e3 : (List.replicate (((u.map V.str).length : Int)).toNat [V.bl false]).flatten = List.replicate u.length (V.bl false) := by
    rw [Int.toNat_natCast, List.length_map]
    simp
  rw [e3]
  have t3 := same_upd0 h3 (.lst (List.replicate u.length (V.bl false)))
  have g3 : (upd H2 p3 (.lst (List.replicate u.length (V.bl false)))) p3 = some (.lst (List.replicate u.length (V.bl false))) := upd_same
  generalize upd H2 p3 (.lst (List.replicate u.length (V.bl false))) = H3 at t3 g3 ⊢
  refine ⟨p1, p3, _, _, rfl, rfl, t3 _ _ (t2 _ _ g1), g3, by rw [List.length_replicate, List.length_singleton, hs]; omega, fun p4 h4 => ?_⟩
  have e4 : [V.bl true] ++ List.replicate u.length (V.bl false) = bls (sw [] u) (u.length + 1) := sw_start u
  rw [e4]
  have t4 := same_upd0 h4 (.lst (bls (sw [] u) (u.length + 1)))
  have g4 : (upd H3 p4 (.lst (bls (sw [] u) (u.length + 1)))) p4 = some (.lst (bls (sw [] u) (u.length + 1))) := upd_same
  generalize upd H3 p4 (.lst (bls (sw [] u) (u.length + 1))) = H4 at t4 g4 ⊢
  have s4 : Same H H4 := t1.trans (t2.trans (t3.trans t4))
  refine ⟨_, rfl, b, rfl, ⟨_, SqL.of (s4 _ _ hb)⟩, for_list (K := K) (a := b) (xs := vs) (fun i σ H' => ∃ (sp : Addr) (v3 v4 v5 v6 : Option V), σ = [some (.ref b), some (.ref t), some (.ref sp), v3, v4, v5, v6] ∧ Same H H' ∧ H' sp = some (.lst (bls (sw (p.take i) u) (u.length + 1)))) ⟨p4, none, none, none, none, rfl, s4, g4⟩ ?_ ?_ ?_⟩
  · rintro i σ H' _ ⟨_, _, _, _, _, _, sm, _⟩
    exact SqL.of (sm _ _ hb)
  · rintro i y σ H5 hi ⟨sp, v3, v4, v5, v6, rfl, s5, hsp⟩
    obtain ⟨at0, e1, e2⟩ := hp.get hi
    have etake : p.take (i + 1) = p.take i ++ [at0] := by rw [List.take_add_one, e1]; rfl
    have e5 := e2.keep (Kp.of s5)
    refine ⟨_, rfl, sp, _, rfl, .inl (SqL.of hsp), fun la hla => ?_⟩
    have t6 := same_upd0 hla (.lst (bls (sw (p.take i) u) (u.length + 1)))
    have g6 : (upd H5 la (.lst (bls (sw (p.take i) u) (u.length + 1)))) la = some (.lst (bls (sw (p.take i) u) (u.length + 1))) := upd_same
    generalize upd H5 la (.lst (bls (sw (p.take i) u) (u.length + 1))) = H6 at t6 g6 ⊢
    rw [swm_zero (p.take i) at0] at g6
    have s6 := s5.trans t6
    have lan : H la = none := s5.free hla
    have spla : sp ≠ la := ne_of_none hsp hla
    refine ⟨_, rfl, t, _, rfl, SqL.of (s6 _ _ ht), ?_⟩
    refine for_enum (K := K) (a := t) (xs := u.map V.str) (fun k σ H' => ∃ (v5 v6 : Option V), σ = [some (.ref b), some (.ref t), some (.ref sp), some y, some (.ref la), v5, v6] ∧ Same H H' ∧ H' sp = some (.lst (bls (sw (p.take i) u) (u.length + 1))) ∧ H' la = some (.lst (bls (swm (p.take i) at0 u k) (u.length + 1)))) ⟨v5, v6, rfl, s6, t6 _ _ hsp, g6⟩ ?_ ?_ ?_
    · rintro k σ H' _ ⟨_, _, _, sm, _⟩
      exact SqL.of (sm _ _ ht)
    · rintro k v σ H7 tt hv ⟨v5, v6, rfl, s7, sp7, la7⟩ htt
      obtain ⟨nm, en, rfl⟩ := str_at hv
      have hk : k < u.length := (List.getElem?_eq_some_iff.mp en).1
      have t8 := same_upd0 htt (.tup [V.int (k : Nat), V.str nm])
      have e8 : (upd H7 tt (.tup [V.int (k : Nat), V.str nm])) tt = some (.tup [V.int (k : Nat), V.str nm]) := upd_same
      generalize upd H7 tt (.tup [V.int (k : Nat), V.str nm]) = H8 at t8 e8 ⊢
      have s8 := s7.trans t8
      have sp8 := t8 _ _ sp7
      have la8 := t8 _ _ la7
      have at1 : ∀ {f : Nat → Bool}, atI (bls f (u.length + 1)) ((k : Int) + 1) = some (.bl (f (k + 1))) := fun {f} => at_of (j := k + 1) (by omega) (bls_get (by omega))
      have at0' : ∀ {f : Nat → Bool}, atI (bls f (u.length + 1)) ((k : Nat) : Int) = some (.bl (f k)) := fun {f} => atI_nat (bls_get (by omega))
      have hix : ∀ {f : Nat → Bool}, ixN (bls f (u.length + 1)).length ((k : Int) + 1) = some (k + 1) := fun {f} => by rw [bls_len]; unfold ixN; rw [if_pos (by omega), if_pos (by omega)]; congr 1
      have fin : ∀ c, c = sw (p.take i ++ [at0]) u (k + 1) → ∃ (v5' v6' : Option V), [some (V.ref b), some (V.ref t), some (V.ref sp), some y, some (V.ref la), some (V.int (k : Nat)), some (V.str nm)] = [some (.ref b), some (.ref t), some (.ref sp), some y, some (.ref la), v5', v6'] ∧ Same H (upd H8 la (.lst ((bls (swm (p.take i) at0 u k) (u.length + 1)).set (k + 1) (.bl c)))) ∧ (upd H8 la (.lst ((bls (swm (p.take i) at0 u k) (u.length + 1)).set (k + 1) (.bl c)))) sp = some (.lst (bls (sw (p.take i) u) (u.length + 1))) ∧ (upd H8 la (.lst ((bls (swm (p.take i) at0 u k) (u.length + 1)).set (k + 1) (.bl c)))) la = some (.lst (bls (swm (p.take i) at0 u (k + 1)) (u.length + 1))) := fun c hc => ⟨_, _, rfl, fun x o e => by
          rw [upd_ne (ne_of_none e lan)]
          exact s8 _ _ e, by rw [upd_ne spla]; exact sp8, by rw [upd_same, hc, swm_next]⟩
      have lat : swm (p.take i) at0 u k (k + 1) = sw (p.take i) u (k + 1) := by
        unfold swm
        rw [if_neg (by omega)]
      have lat0 : swm (p.take i) at0 u k k = sw (p.take i ++ [at0]) u k := by
        unfold swm
        rw [if_pos (Nat.le_refl _)]
      refine ⟨tt, _, rfl, SqT.of e8, rfl, _, _, rfl, _, _, rfl, rfl, ?_⟩
      rcases (e5.keep (Kp.of (t6.trans (Same.refl _)))).two with ⟨x, rfl, ea⟩ | ⟨ta, xs, rfl, ea, hta⟩
      · subst ea
        refine ⟨_, rfl, _, _, _, _, true, rfl, .ty _, ty_str x, kit_ty (by decide +kernel), _, rfl, iteT ?_⟩
        have hst := sw_n (q := p.take i) (x := x) en
        refine ⟨_, rfl, _, rfl, _, _, rfl, rfl, la, _, _, _, rfl, rfl, SqL.of la8, at1, _, rfl, ?_⟩
        rw [lat]
        by_cases c1 : sw (p.take i) u (k + 1) = true
        · rw [if_pos c1]
          refine ⟨_, rfl, _, rfl, _, _, rfl, rfl, la, _, _, _, rfl, rfl, la8, hix, fin true ?_⟩
          rw [hst, c1]
          rfl
        · rw [if_neg c1]
          have c1 : sw (p.take i) u (k + 1) = false := by simpa using c1
          refine ⟨_, rfl, _, rfl, sp, _, _, _, rfl, rfl, SqL.of sp8, at0', _, rfl, ?_⟩
          by_cases c2 : sw (p.take i) u k = true
          · rw [if_pos c2]
            refine ⟨_, rfl, _, rfl, rfl, _, rfl, _, rfl, _, _, rfl, rfl, la, _, _, _, rfl, rfl, la8, hix, fin _ ?_⟩
            rw [hst, c1, c2, Bool.false_or, Bool.true_and]
            exact decide_eq_decide.mpr ⟨V.str.inj, congrArg _⟩
          · rw [if_neg c2]
            have c2 : sw (p.take i) u k = false := by simpa using c2
            refine ⟨_, rfl, _, rfl, _, _, rfl, rfl, la, _, _, _, rfl, rfl, la8, hix, fin false ?_⟩
            rw [hst, c1, c2]
            rfl
      · subst ea
        have hta8 := s8 _ _ (show H ta = some _ from by
          cases e2 with
          | t h => exact h)
        refine ⟨_, rfl, _, _, _, _, false, rfl, .ty _, ty_tup hta8, kit_ty (by decide +kernel), _, rfl, iteF ?_⟩
        have hst := sw_t (q := p.take i) (xs := xs) en
        refine ⟨_, rfl, _, rfl, _, _, rfl, rfl, la, _, _, _, rfl, rfl, SqL.of la8, at1, _, rfl, ?_⟩
        rw [lat]
        by_cases c1 : sw (p.take i) u (k + 1) = true
        · rw [if_pos c1]
          refine ⟨_, rfl, _, rfl, _, _, rfl, rfl, la, _, _, _, rfl, rfl, la8, hix, fin true ?_⟩
          rw [hst, c1]
          rfl
        · rw [if_neg c1]
          have c1 : sw (p.take i) u (k + 1) = false := by simpa using c1
          refine ⟨_, rfl, _, rfl, la, _, _, _, rfl, rfl, SqL.of la8, at0', _, rfl, ?_⟩
          rw [lat0]
          by_cases c2 : sw (p.take i ++ [.t xs]) u k = true
          · rw [if_pos c2]
            refine ⟨_, rfl, _, rfl, ta, _, rfl, .inr (SqT.of hta8), rfl, by simp [flatV], _, rfl, _, rfl, _, _, rfl, rfl, la, _, _, _, rfl, rfl, la8, hix, fin _ ?_⟩
            rw [hst, c1, c2, Bool.false_or, Bool.true_and, inV_strs]
            rfl
          · rw [if_neg c2]
            have c2 : sw (p.take i ++ [.t xs]) u k = false := by simpa using c2
            refine ⟨_, rfl, _, rfl, _, _, rfl, rfl, la, _, _, _, rfl, rfl, la8, hix, fin false ?_⟩
            rw [hst, c1, c2]
            rfl
    · rintro σ H7 ⟨v5, v6, rfl, s7, sp7, la7⟩
      refine ⟨_, rfl, la, _, _, _, _, rfl, s7, ?_⟩
      rw [la7, List.length_map, swm_last, etake]
  · rintro σ H5 ⟨sp, v3, v4, v5, v6, rfl, s5, hsp⟩
    rw [pl, List.take_length] at hsp
    have hix : ixN (bls (sw p u) (u.length + 1)).length (-1) = some u.length := by
      rw [bls_len]
      unfold ixN
      rw [if_neg (by omega), if_pos (by omega)]
      congr 1
      omega
    have hat : atI (bls (sw p u) (u.length + 1)) (-1) = some (.bl (sw p u u.length)) := by
      unfold atI
      rw [hix]
      exact bls_get (by omega)
    refine ⟨_, rfl, _, rfl, sp, _, _, _, rfl, rfl, SqL.of hsp, hat, q H5 _ s5 ?_⟩
    rw [sw_iff, List.take_length]
end K09


set_option Elab.async false
set_option linter.all false
set_option maxRecDepth 100000
set_option maxHeartbeats 1000000
namespace K09
open PySem PySem.Spec PyProof.Rows L2 FA
variable {P : Program} {w : World} {K : PySem.W.Frag} {mg : Str → Option Value} {base : Heap}
def okAt (a : Atm) : Prop := (∀ x ∈ a.nms, FA.okName x) ∧ a.nms.length ≤ 5 ∧ AscA a ∧ full a
def okPd (p : Prd) : Prop := p.length ≤ 12 ∧ ∀ a ∈ p, okAt a
def okPs (ps : List Prd) : Prop := ps.length ≤ 12 ∧ ∀ p ∈ ps, okPd p
theorem all_true {ws : List V} (h : ∀ (j : Nat) (y : V), ws[j]? = some y → y = .bl true) : ∃ bs : List Bool, ws = bs.map V.bl ∧ bs.all id = true := by
  refine ⟨List.replicate ws.length true, ?_, by simp⟩
  apply List.ext_getElem?
  intro j
  by_cases hj : j < ws.length
  · obtain ⟨y, hy⟩ : ∃ y, ws[j]? = some y := ⟨_, List.getElem?_eq_getElem hj⟩
    rw [hy, h j y hy]
    simp [hj]
  · rw [List.getElem?_eq_none (by omega), List.getElem?_eq_none (by simp; omega)]
def spIsAtom : Sp := fun vs H Q _ => ∃ (v : V) (a : Atm), vs = [v] ∧ AtAt H v a ∧ okAt a ∧ ∀ H', Same H H' → Q (.bl true) H'
theorem okIsAtom (T : Txt K mg) : FnOk P w K mg base CX0 2 T.aIsAtom T.fIsAtom ["value"] spIsAtom := by
  have GIsName : FnOk P w K mg base CX0 1 T.aIsName T.fIsName ["value"] spIsName := okIsName T
  refine T.FIsAtom.ok scIsAtom (fun vs H Q E h => ?_) (fun cdv A outer s H vs Q E hr h => ?_)
  · obtain ⟨v, a, rfl, _⟩ := h
    rfl
  obtain ⟨v, a, rfl, ha, ⟨n1, n2, oa, of⟩, q⟩ := h
  have hu := hu_of hr
  refine ⟨_, (pss_cons (ps_if (pt_not (pt_val (pe_callB call_isi (by rfl) T.n_isinstance (by decide +kernel) (pa_cons (pv 0) (pa_cons (pe_bltn (v := .ty "tuple") (by rfl) T.n_tuple (by decide +kernel) rfl) pa_nil)))))
        (pss_one (ps_ret (pe_call GIsName (hr.mono (by omega)) rfl T.gIsName T.FIsName.kp T.bIsName .nil pass0 (pa_cons (pv 0) pa_nil)))) pss_nil)
      (pss_cons (ps_if (PW.pt (pw_or (pt_not (pt_chain op_le op_le pe_int (pe_callB call_len_seq (by rfl) T.n_len PySem.boot_len (pa_cons (pv 0) pa_nil)) (pe_glob (v := .int 5) rfl T.c_MOST_NAMES_IN_TUPLE ⟨_, rfl⟩))) (pw_or1 (pt_not (pt_val (pe_callB (cr_all rfl) (by rfl) T.n_all (by decide +kernel) (pa_cons (pe_lc (own := [("name", 1)]) (g := gName 1) (tt := tYes) rfl scIsAtom.nd (pi_tup (pv 0)) (blkOk_by (N := ["value", "name"]) (sc := defScope sIsAtom) (by decide +kernel)) (fun _ _ _ _ _ => (pg_name (i := 1) scIsAtom.nd rfl (by first | exact Or.inl rfl | exact Or.inr rfl))) (fun _ _ _ _ _ => pts_nil) (fun _ _ _ _ _ => (pe_call GIsName (hr.mono (by omega)) rfl T.gIsName T.FIsName.kp T.bIsName .nil pass0 (pa_cons (pv 1) pa_nil)))) pa_nil)))))))
        (pss_one (ps_ret pe_bl)) pss_nil)
      (pss_one (ps_ret (pe_cmpR (op_eqD hr.units) (pe_callTy call_list_of (by rfl) T.n_list (by decide +kernel) (pa_cons (pv 0) pa_nil)) (pe_callB (cr_sortedTx rfl) (by rfl) T.n_sorted (by decide +kernel) (pa_cons (pe_callTy (cr_setTxT rfl) (by rfl) T.n_set (by decide +kernel) (pa_cons (pv 0) pa_nil)) pa_nil)) (nomark _)))))), ?_⟩
  rcases ha.two with ⟨x, rfl, rfl⟩ | ⟨t, xs, rfl, rfl, ht⟩
  · exact ⟨_, rfl, _, _, _, _, false, rfl, .ty _, ty_str x, kit_ty (by decide +kernel), _, rfl, iteT ⟨_, rfl, x, rfl, n1 x (by simp [Atm.nms]), q⟩⟩
  · have h5 : xs.length ≤ 5 := n2
    have h1 : 1 ≤ xs.length := by
      cases xs with
      | nil => exact absurd rfl of
      | cons _ _ => simp
    refine ⟨_, rfl, _, _, _, _, true, rfl, .ty _, ty_tup ht, kit_ty (by decide +kernel), _, rfl, iteF ?_⟩
    refine ⟨_, rfl, t, _, rfl, .inr (SqT.of ht), _, _, rfl, rfl, _, rfl, ?_⟩
    refine ite2 (fun c => ?_) (fun c => absurd (decide_eq_true (by rw [List.length_map]; omega)) c)
    refine ⟨_, _, rfl, rfl, _, rfl, ?_⟩
    refine ite2 (fun c => absurd (c.symm.trans (congrArg not (decide_eq_true (by rw [List.length_map]; omega)))) (by decide)) (fun c => ?_)
    refine ⟨_, rfl, t, rfl, ⟨_, SqT.of ht⟩, fun D hD => lcS (n := (xs.map V.str).length) hD (small1000 (by rw [List.length_map]; omega)) _ (fun j v _ => v = .bl true) (go_t (SqT.of ht)) (stop_t (SqT.of ht)) (yld_t (SqT.of ht)) (fun _ _ _ _ _ h => h) ?_ ?_⟩
    · intro j y H2 R hj hy s2 kk
      obtain ⟨x', e2, rfl⟩ := str_at hy
      exact ⟨rfl, _, rfl, x', rfl, n1 x' (List.mem_of_getElem? e2), fun H3 s3 => kk _ _ s3 rfl⟩
    · intro H2 ws s2 hws hwl hg
      obtain ⟨bs, rfl, eb⟩ := all_true hg
      refine ⟨D, bs, rfl, SqL.of hws, _, rfl, ?_⟩
      rw [eb]
      refine iteF ?_
      have ht2 := s2 _ _ ht
      refine ⟨_, rfl, t, _, rfl, .inr (SqT.of ht2), fun c1 hc1 => ?_⟩
      have t3 := same_upd0 hc1 (.lst (xs.map V.str))
      have g3 : (upd H2 c1 (.lst (xs.map V.str))) c1 = some (.lst (xs.map V.str)) := upd_same
      generalize upd H2 c1 (.lst (xs.map V.str)) = H3 at t3 g3 ⊢
      refine ⟨_, rfl, ?_⟩
      dsimp only [tNil]
      refine sort_setTT (K := K) (P := P) (w := w) (l := xs) (t3 _ _ ht2) (by omega) fun c H4 ys s4 hcn hc4 tl => ?_
      have ex : ys = xs := tl.one oa fun _ => Iff.rfl
      subst ex
      refine ⟨.list (ys.map PyData.str), .list (ys.map PyData.str), .lst (SqL.of (s4 _ _ g3)) (dp_strs ys), .lst (SqL.of hc4) (dp_strs ys), strs_shaped n1, strs_shaped n1, ?_⟩
      have e9 : PyData.eqv (.list (ys.map PyData.str)) (.list (ys.map PyData.str)) = true := SeqAt.eqv_refl _ (by
        simp only [PyData.canLay0]
        exact canAll_map fun x hx => by simp only [PyData.canLay0]; exact (n1 x hx).strOk)
      rw [e9]
      exact q _ (s2.trans (t3.trans s4))
def spIsProduct : Sp := fun vs H Q _ => ∃ (b : Addr) (p : Prd), vs = [.ref b] ∧ PdAt H b p ∧ okPd p ∧ ∀ H', Same H H' → Q (.bl true) H'
theorem okIsProduct (T : Txt K mg) : FnOk P w K mg base CX0 3 T.aIsProduct T.fIsProduct ["value"] spIsProduct := by
  have GIsAtom : FnOk P w K mg base CX0 2 T.aIsAtom T.fIsAtom ["value"] spIsAtom := okIsAtom T
  refine T.FIsProduct.ok scIsProduct (fun vs H Q E h => ?_) (fun cdv A outer s H vs Q E hr h => ?_)
  · obtain ⟨b, p, rfl, _⟩ := h
    rfl
  obtain ⟨b, p, rfl, ⟨vs, hb, hp⟩, ⟨p12, ho⟩, q⟩ := h
  have hu := hu_of hr
  refine ⟨_, (pss_one (ps_ret (pe_and (pe_callB call_isi (by rfl) T.n_isinstance (by decide +kernel) (pa_cons (pv 0) (pa_cons (pe_bltn (v := .ty "list") (by rfl) T.n_list (by decide +kernel) rfl) pa_nil))) (pe_and (pe_cmpR op_le (pe_callB call_len_seq (by rfl) T.n_len PySem.boot_len (pa_cons (pv 0) pa_nil)) (pe_glob (v := .int 12) rfl T.c_MOST_ATOMS ⟨_, rfl⟩) (nomark _)) (pe_one (pe_callB (cr_all rfl) (by rfl) T.n_all (by decide +kernel) (pa_cons (pe_lc (own := [("atom", 1)]) (g := gName 1) (tt := tYes) rfl scIsProduct.nd (pi_list (pv 0)) (blkOk_by (N := ["value", "atom"]) (sc := defScope sIsProduct) (by decide +kernel)) (fun _ _ _ _ _ => (pg_name (i := 1) scIsProduct.nd rfl (by first | exact Or.inl rfl | exact Or.inr rfl))) (fun _ _ _ _ _ => pts_nil) (fun _ _ _ _ _ => (pe_call GIsAtom (hr.mono (by omega)) rfl T.gIsAtom T.FIsAtom.kp T.bIsAtom .nil pass0 (pa_cons (pv 1) pa_nil)))) pa_nil))))))), ?_⟩
  have pl := hp.length
  refine ⟨_, rfl, _, _, _, _, true, rfl, .ty _, ty_lst hb, kit_ty (by decide +kernel), _, rfl, iteT ?_⟩
  refine ⟨_, rfl, b, _, rfl, .inl (SqL.of hb), _, _, rfl, rfl, _, rfl, ite2 (fun _ => ?_) (fun c => absurd (decide_eq_true (by omega)) c)⟩
  refine ⟨_, rfl, b, rfl, ⟨_, SqL.of hb⟩, fun D hD => lcS (n := vs.length) hD (small1000 (by omega)) _ (fun j v _ => v = .bl true) (go_l (SqL.of hb)) (stop_l (SqL.of hb)) (yld_l (SqL.of hb)) (fun _ _ _ _ _ h => h) ?_ ?_⟩
  · intro j y H2 R hj hy s2 kk
    obtain ⟨a, ea, ha⟩ := hp.get hy
    exact ⟨rfl, _, rfl, y, a, rfl, ha.keep (Kp.of s2), ho a (List.mem_of_getElem? ea), fun H3 s3 => kk _ _ s3 rfl⟩
  · intro H2 ws s2 hws hwl hg
    obtain ⟨bs, rfl, eb⟩ := all_true hg
    refine ⟨D, bs, rfl, SqL.of hws, ?_⟩
    rw [eb]
    exact q _ s2
def spCheckProducts : Sp := fun vs H Q _ => ∃ (f : Addr) (vp : List V) (ps : List Prd), vs = [.ref f] ∧ H f = some (.lst vp) ∧ PdsAt H vp ps ∧ okPs ps ∧ ∀ H', Same H H' → Q .non H'
theorem okCheckProducts (T : Txt K mg) : FnOk P w K mg base CX0 4 T.aCheckProducts T.fCheckProducts ["products"] spCheckProducts := by
  have GIsProduct : FnOk P w K mg base CX0 3 T.aIsProduct T.fIsProduct ["value"] spIsProduct := okIsProduct T
  refine T.FCheckProducts.ok scCheckProducts (fun vs H Q E h => ?_) (fun cdv A outer s H vs Q E hr h => ?_)
  · obtain ⟨f, vp, ps, rfl, _⟩ := h
    rfl
  obtain ⟨f, vp, ps, rfl, hf, hp, ⟨p12, ho⟩, q⟩ := h
  have hu := hu_of hr
  refine ⟨_, (pss_cons (ps_if (PW.pt (pw_or (pt_not (pt_val (pe_callB call_isi (by rfl) T.n_isinstance (by decide +kernel) (pa_cons (pv 0) (pa_cons (pe_bltn (v := .ty "list") (by rfl) T.n_list (by decide +kernel) rfl) pa_nil))))) (pw_or1 (pt_cmpR op_gt (pe_callB call_len_seq (by rfl) T.n_len PySem.boot_len (pa_cons (pv 0) pa_nil)) (pe_glob (v := .int 12) rfl T.c_MOST_PRODUCTS ⟨_, rfl⟩) (nomark _)))))
        (pss_one ps_never) pss_nil)
      (pss_one (ps_if (pt_not (pt_val (pe_callB (cr_all rfl) (by rfl) T.n_all (by decide +kernel) (pa_cons (pe_lc (own := [("product", 1)]) (g := gName 1) (tt := tYes) rfl scCheckProducts.nd (pi_list (pv 0)) (blkOk_by (N := ["products", "product"]) (sc := defScope sCheckProducts) (by decide +kernel)) (fun _ _ _ _ _ => (pg_name (i := 1) scCheckProducts.nd rfl (by first | exact Or.inl rfl | exact Or.inr rfl))) (fun _ _ _ _ _ => pts_nil) (fun _ _ _ _ _ => (pe_call GIsProduct (hr.mono (by omega)) rfl T.gIsProduct T.FIsProduct.kp T.bIsProduct .nil pass0 (pa_cons (pv 1) pa_nil)))) pa_nil))))
        (pss_one ps_never) pss_nil))), ?_⟩
  have pl := hp.length
  refine ⟨_, rfl, _, _, _, _, true, rfl, .ty _, ty_lst hf, kit_ty (by decide +kernel), _, rfl, iteF ?_⟩
  refine ⟨_, rfl, f, _, rfl, .inl (SqL.of hf), _, _, rfl, rfl, _, rfl, ite2 (fun c => absurd (of_decide_eq_true c) (by omega)) (fun _ => ?_)⟩
  refine ⟨_, rfl, f, rfl, ⟨_, SqL.of hf⟩, fun D hD => lcS (n := vp.length) hD (small1000 (by omega)) _ (fun j v _ => v = .bl true) (go_l (SqL.of hf)) (stop_l (SqL.of hf)) (yld_l (SqL.of hf)) (fun _ _ _ _ _ h => h) ?_ ?_⟩
  · intro j y H2 R hj hy s2 kk
    obtain ⟨b, p, rfl, ep, e2⟩ := hp.get hy
    exact ⟨rfl, _, rfl, b, p, rfl, e2.keep (Kp.of s2), ho p (List.mem_of_getElem? ep), fun H3 s3 => kk _ _ s3 rfl⟩
  · intro H2 ws s2 hws hwl hg
    obtain ⟨bs, rfl, eb⟩ := all_true hg
    refine ⟨D, bs, rfl, SqL.of hws, _, rfl, ?_⟩
    rw [eb]
    exact iteF (q _ s2)
def spCheckWordN : Sp := fun vs H Q _ => ∃ (t : Addr) (u : List Str), vs = [.ref t] ∧ H t = some (.lst (u.map V.str)) ∧ (∀ x ∈ u, FA.okName x) ∧ u.length ≤ 100 ∧ ∀ H', Same H H' → Q .non H'
theorem okCheckWordN (T : Txt K mg) : FnOk P w K mg base CX0 2 T.aCheckWordOfNames T.fCheckWordOfNames ["word"] spCheckWordN := by
  have GIsName : FnOk P w K mg base CX0 1 T.aIsName T.fIsName ["value"] spIsName := okIsName T
  refine T.FCheckWordOfNames.ok scCheckWordOfNames (fun vs H Q E h => ?_) (fun cdv A outer s H vs Q E hr h => ?_)
  · obtain ⟨t, u, rfl, _⟩ := h
    rfl
  obtain ⟨t, u, rfl, ht, hn, hl, q⟩ := h
  have hu := hu_of hr
  refine ⟨_, (pss_one (ps_if (PW.pt (pw_or (pt_not (pt_val (pe_callB call_isi (by rfl) T.n_isinstance (by decide +kernel) (pa_cons (pv 0) (pa_cons (pe_bltn (v := .ty "list") (by rfl) T.n_list (by decide +kernel) rfl) pa_nil))))) (pw_or1 (pt_not (pt_val (pe_callB (cr_all rfl) (by rfl) T.n_all (by decide +kernel) (pa_cons (pe_lc (own := [("name", 1)]) (g := gName 1) (tt := tYes) rfl scCheckWordOfNames.nd (pi_list (pv 0)) (blkOk_by (N := ["word", "name"]) (sc := defScope sCheckWordOfNames) (by decide +kernel)) (fun _ _ _ _ _ => (pg_name (i := 1) scCheckWordOfNames.nd rfl (by first | exact Or.inl rfl | exact Or.inr rfl))) (fun _ _ _ _ _ => pts_nil) (fun _ _ _ _ _ => (pe_call GIsName (hr.mono (by omega)) rfl T.gIsName T.FIsName.kp T.bIsName .nil pass0 (pa_cons (pv 1) pa_nil)))) pa_nil)))))))
        (pss_one ps_never) pss_nil)), ?_⟩
  refine ⟨_, rfl, _, _, _, _, true, rfl, .ty _, ty_lst ht, kit_ty (by decide +kernel), _, rfl, iteF ?_⟩
  refine ⟨_, rfl, t, rfl, ⟨_, SqL.of ht⟩, fun D hD => lcS (n := (u.map V.str).length) hD (small1000 (by rw [List.length_map]; omega)) _ (fun j v _ => v = .bl true) (go_l (SqL.of ht)) (stop_l (SqL.of ht)) (yld_l (SqL.of ht)) (fun _ _ _ _ _ h => h) ?_ ?_⟩
  · intro j y H2 R hj hy s2 kk
    obtain ⟨x', e2, rfl⟩ := str_at hy
    exact ⟨rfl, _, rfl, x', rfl, hn x' (List.mem_of_getElem? e2), fun H3 s3 => kk _ _ s3 rfl⟩
  · intro H2 ws s2 hws hwl hg
    obtain ⟨bs, rfl, eb⟩ := all_true hg
    refine ⟨D, bs, rfl, SqL.of hws, _, rfl, ?_⟩
    rw [eb]
    exact iteF (q _ s2)
end K09


set_option Elab.async false
set_option linter.all false
set_option maxRecDepth 100000
set_option maxHeartbeats 1000000
namespace K09
open PySem PySem.Spec PyProof.Rows L2 FA
variable {P : Program} {w : World} {K : PySem.W.Frag} {mg : Str → Option Value} {base : Heap}
theorem okPs.nm {ps : List Prd} (h : okPs ps) : ∀ q ∈ ps, nmPrd q ∧ q.length ≤ 100 := fun q hq => ⟨fun a ha => ⟨((h.2 q hq).2 a ha).1, ((h.2 q hq).2 a ha).2.1⟩, by have := (h.2 q hq).1; omega⟩
theorem pw_nm {u : List Str} (h : ∀ x ∈ u, FA.okName x) : nmPrd (pw u) := fun a ha => by
  obtain ⟨x, hx, rfl⟩ := List.mem_map.mp ha
  exact ⟨fun y hy => by rw [List.mem_singleton.mp hy]; exact h x hx, by simp [Atm.nms]⟩
def spWordIn : Sp := fun vs H Q _ => ∃ (f t : Addr) (vp : List V) (ps : List Prd) (u : List Str), vs = [.ref f, .ref t] ∧ H f = some (.lst vp) ∧ PdsAt H vp ps ∧ okPs ps ∧ H t = some (.lst (u.map V.str)) ∧ (∀ x ∈ u, FA.okName x) ∧ u.length ≤ 100 ∧ ∀ H', Same H H' → Q (.bl (prdIn ps (pw u))) H'
theorem okWordIn (T : Txt K mg) : FnOk P w K mg base CX0 5 T.aWordIn T.fWordIn ["products", "word"] spWordIn := by
  have GCheckProducts : FnOk P w K mg base CX0 4 T.aCheckProducts T.fCheckProducts ["products"] spCheckProducts := okCheckProducts T
  have GCheckWordOfNames : FnOk P w K mg base CX0 2 T.aCheckWordOfNames T.fCheckWordOfNames ["word"] spCheckWordN := okCheckWordN T
  have GIsProductIn : FnOk P w K mg base CX0 3 T.aIsProductIn T.fIsProductIn ["products", "product"] spPrdIn := okPrdIn T
  refine T.FWordIn.ok scWordIn (fun vs H Q E h => ?_) (fun cdv A outer s H vs Q E hr h => ?_)
  · obtain ⟨f, t, vp, ps, u, rfl, _⟩ := h
    rfl
  obtain ⟨f, t, vp, ps, u, rfl, hf, hp, ho, ht, hn, hl, q⟩ := h
  have hu := hu_of hr
  refine ⟨_, (pss_cons (ps_expr (pe_call GCheckProducts (hr.mono (by omega)) rfl T.gCheckProducts T.FCheckProducts.kp T.bCheckProducts .nil pass0 (pa_cons (pv 0) pa_nil)))
      (pss_cons (ps_expr (pe_call GCheckWordOfNames (hr.mono (by omega)) rfl T.gCheckWordOfNames T.FCheckWordOfNames.kp T.bCheckWordOfNames .nil pass0 (pa_cons (pv 1) pa_nil)))
      (pss_one (ps_ret (pe_call GIsProductIn (hr.mono (by omega)) rfl T.gIsProductIn T.FIsProductIn.kp T.bIsProductIn .nil pass0 (pa_cons (pv 0) (pa_cons (pv 1) pa_nil))))))), ?_⟩
  refine ⟨_, rfl, f, vp, ps, rfl, hf, hp, ho, fun H1 s1 => ?_⟩
  refine ⟨_, rfl, t, u, rfl, s1 _ _ ht, hn, hl, fun H2 s2 => ?_⟩
  have s12 := s1.trans s2
  have p12 := ho.1
  exact ⟨_, rfl, _, rfl, f, t, vp, ps, pw u, rfl, s12 _ _ hf, hp.keep (Kp.of s12), ⟨_, s12 _ _ ht, AtsAt.names u⟩, ho.nm, pw_nm hn, by simp only [pw, List.length_map]; omega, by omega, fun H3 s3 => q H3 (s12.trans s3)⟩
def spIncludes : Sp := fun vs H Q _ => ∃ (f g : Addr) (vp vq : List V) (ps qs : List Prd), vs = [.ref f, .ref g] ∧ H f = some (.lst vp) ∧ PdsAt H vp ps ∧ okPs ps ∧ H g = some (.lst vq) ∧ PdsAt H vq qs ∧ okPs qs ∧ ∀ H', Same H H' → Q (.bl (qs.all (prdIn ps))) H'
theorem okIncludes (T : Txt K mg) : FnOk P w K mg base CX0 5 T.aIncludes T.fIncludes ["products", "other"] spIncludes := by
  have GCheckProducts : FnOk P w K mg base CX0 4 T.aCheckProducts T.fCheckProducts ["products"] spCheckProducts := okCheckProducts T
  have GIsProductIn : FnOk P w K mg base CX0 3 T.aIsProductIn T.fIsProductIn ["products", "product"] spPrdIn := okPrdIn T
  refine T.FIncludes.ok scIncludes (fun vs H Q E h => ?_) (fun cdv A outer s H vs Q E hr h => ?_)
  · obtain ⟨f, g, vp, vq, ps, qs, rfl, _⟩ := h
    rfl
  obtain ⟨f, g, vp, vq, ps, qs, rfl, hf, hp, ho, hg, hq, ho2, q⟩ := h
  have hu := hu_of hr
  refine ⟨_, (pss_cons (ps_expr (pe_call GCheckProducts (hr.mono (by omega)) rfl T.gCheckProducts T.FCheckProducts.kp T.bCheckProducts .nil pass0 (pa_cons (pv 0) pa_nil)))
      (pss_cons (ps_expr (pe_call GCheckProducts (hr.mono (by omega)) rfl T.gCheckProducts T.FCheckProducts.kp T.bCheckProducts .nil pass0 (pa_cons (pv 1) pa_nil)))
      (pss_one (ps_ret (pe_callB (cr_all rfl) (by rfl) T.n_all (by decide +kernel) (pa_cons (pe_lc (own := [("product", 2)]) (g := gName 2) (tt := tYes) rfl scIncludes.nd (pi_list (pv 1)) (blkOk_by (N := ["products", "other", "product"]) (sc := defScope sIncludes) (by decide +kernel)) (fun _ _ _ _ _ => (pg_name (i := 2) scIncludes.nd rfl (by first | exact Or.inl rfl | exact Or.inr rfl))) (fun _ _ _ _ _ => pts_nil) (fun _ _ _ _ _ => (pe_call GIsProductIn (hr.mono (by omega)) rfl T.gIsProductIn T.FIsProductIn.kp T.bIsProductIn .nil pass0 (pa_cons (pv 0) (pa_cons (pv 2) pa_nil))))) pa_nil)))))), ?_⟩
  refine ⟨_, rfl, f, vp, ps, rfl, hf, hp, ho, fun H1 s1 => ?_⟩
  refine ⟨_, rfl, g, vq, qs, rfl, s1 _ _ hg, hq.keep (Kp.of s1), ho2, fun H2 s2 => ?_⟩
  have s12 := s1.trans s2
  have p12 := ho.1
  have q12 := ho2.1
  have ql := hq.length
  have hg2 := s12 _ _ hg
  refine ⟨_, rfl, g, rfl, ⟨_, SqL.of hg2⟩, fun D hD => lcS (n := vq.length) hD (small1000 (by omega)) _ (fun j v _ => ∃ q0, qs[j]? = some q0 ∧ v = .bl (prdIn ps q0)) (go_l (SqL.of hg2)) (stop_l (SqL.of hg2)) (yld_l (SqL.of hg2)) (fun _ _ _ _ _ h => h) ?_ ?_⟩
  · intro j y H3 R hj hy s3 kk
    obtain ⟨b, q0, rfl, eq0, e2⟩ := (hq.keep (Kp.of s12)).get hy
    have s13 := s12.trans s3
    obtain ⟨n1, n2⟩ := ho2.nm q0 (List.mem_of_getElem? eq0)
    exact ⟨rfl, _, rfl, _, rfl, f, b, vp, ps, q0, rfl, s13 _ _ hf, hp.keep (Kp.of s13), e2.keep (Kp.of s3), ho.nm, n1, n2, by omega, fun H4 s4 => kk _ _ s4 ⟨q0, eq0, rfl⟩⟩
  · intro H3 ws s3 hws hwl hgg
    have ew : ws = (qs.map (prdIn ps)).map V.bl := by
      rw [List.map_map]
      exact ext_map (by omega) hgg
    rw [ew] at hws
    refine ⟨D, qs.map (prdIn ps), rfl, SqL.of hws, ?_⟩
    have e : (qs.map (prdIn ps)).all id = qs.all (prdIn ps) := by rw [List.all_map]; rfl
    rw [e]
    exact q _ (s12.trans s3)
def spReduced : Sp := fun vs H Q _ => ∃ (f : Addr) (vp : List V) (ps : List Prd), vs = [.ref f] ∧ H f = some (.lst vp) ∧ PdsAt H vp ps ∧ okPs ps ∧ ∀ r H' ws, Same H H' → H r = none → H' r = some (.lst ws) → PdsAt (frl H H') ws (normal ps) → Q (.ref r) H'
theorem okReduced (T : Txt K mg) : FnOk P w K mg base CX0 5 T.aReduced T.fReduced ["products"] spReduced := by
  have GCheckProducts : FnOk P w K mg base CX0 4 T.aCheckProducts T.fCheckProducts ["products"] spCheckProducts := okCheckProducts T
  have GNormalForm : FnOk P w K mg base CX0 4 T.aNormalForm T.fNormalForm ["products"] spNorm := okNorm T
  refine T.FReduced.ok scReduced (fun vs H Q E h => ?_) (fun cdv A outer s H vs Q E hr h => ?_)
  · obtain ⟨f, vp, ps, rfl, _⟩ := h
    rfl
  obtain ⟨f, vp, ps, rfl, hf, hp, ho, q⟩ := h
  have hu := hu_of hr
  refine ⟨_, (pss_cons (ps_expr (pe_call GCheckProducts (hr.mono (by omega)) rfl T.gCheckProducts T.FCheckProducts.kp T.bCheckProducts .nil pass0 (pa_cons (pv 0) pa_nil)))
      (pss_one (ps_ret (pe_call GNormalForm (hr.mono (by omega)) rfl T.gNormalForm T.FNormalForm.kp T.bNormalForm .nil pass0 (pa_cons (pv 0) pa_nil))))), ?_⟩
  refine ⟨_, rfl, f, vp, ps, rfl, hf, hp, ho, fun H1 s1 => ?_⟩
  have p12 := ho.1
  refine ⟨_, rfl, f, vp, ps, rfl, s1 _ _ hf, hp.keep (Kp.of s1), ho.nm, by omega, fun ts nd ht => ?_, fun r H2 ws s2 hrn hr2 hp2 => ?_⟩
  · have := nd_le nd (b := ps.map fun p => prdText (idle p)) fun x hx => by
      obtain ⟨p, hp, e⟩ := ht x hx
      exact List.mem_map.mpr ⟨p, hp, e.symm⟩
    rw [List.length_map] at this
    omega
  · exact q r H2 ws (s1.trans s2) (s1.free hrn) hr2 (hp2.keep (kp_frl_back s1))
end K09


set_option Elab.async false
set_option linter.all false
set_option maxRecDepth 100000
set_option maxHeartbeats 1000000
namespace K09
open PySem PySem.Spec PyProof.Rows L2 FA
variable {P : Program} {w : World} {K : PySem.W.Frag} {mg : Str → Option Value} {base : Heap}
/-- the names that are drawn from -/
structure Nm (ns : List Str) : Prop where
  nd : ns.Nodup
  l1 : 1 ≤ ns.length
  l8 : ns.length ≤ 8
  ok : ∀ x ∈ ns, FA.okName x
theorem Nm.at {ns : List Str} (h : Nm ns) {r : Int} (r0 : 0 ≤ r) (r1 : r < ((ns.map V.str).length : Int)) : ∃ y, y ∈ ns ∧ atI (ns.map V.str) r = some (.str y) := by
  rw [List.length_map] at r1
  have hlt : r.toNat < ns.length := by omega
  have hat := atI_nat (xs := ns.map V.str) (j := r.toNat) (v := .str ns[r.toNat]) (by rw [List.getElem?_map, List.getElem?_eq_getElem hlt]; rfl)
  rw [Int.toNat_of_nonneg r0] at hat
  exact ⟨_, List.getElem_mem _, hat⟩
/-- tuples stay where only the pouch changes -/
theorem tup_keep {a : Addr} {H H' : Hp} {n : Nat} (sm : Sm [a] H H') (hw : WellAt H a n) : ∀ t xs, H t = some (.tup xs) → H' t = some (.tup xs) := fun t xs h => sm t _ (by
  obtain ⟨x, y, z, e, _⟩ := hw
  simp only [List.mem_singleton]
  rintro rfl
  rw [e] at h
  cases h) h
theorem ok_n {x : Str} (h : FA.okName x) : okAt (.n x) := ⟨fun y hy => by rw [List.mem_singleton.mp hy]; exact h, by simp [Atm.nms], trivial, by simp [full, Atm.nms]⟩
theorem ok_t {ys : List Str} (h1 : ys.Nodup) (h2 : sortedS ys = true) (h3 : ∀ x ∈ ys, FA.okName x) (h4 : ys.length ≤ 5) (h5 : ys ≠ []) : okAt (.t ys) := ⟨h3, h4, ⟨h1, h2, fun _ => Iff.rfl⟩, h5⟩
theorem ok_one {x : Str} (h : FA.okName x) : okAt (.t [x]) := ok_t (by simp) rfl (fun y hy => by rw [List.mem_singleton.mp hy]; exact h) (by simp) (by simp)
def spLProduct : Sp := fun vs H Q _ => ∃ (a nl : Addr) (ns : List Str) (most n : Nat), vs = [.ref a, .ref nl, .int (most : Int)] ∧ H nl = some (.lst (ns.map V.str)) ∧ nl ≠ a ∧ Nm ns ∧ most ≤ 12 ∧ WellAt H a n ∧ n + 1000 ≤ 2 ^ 80 ∧
  ∀ r H' vs p, Sm [a] H H' → WellAt H' a (n + 1000) → H r = none → H' r = some (.lst vs) → AtsAt H' vs p → p.length ≤ most → (∀ c ∈ p, okAt c) → Q (.ref r) H'
theorem okLProduct (T : Txt K mg) : FnOk P w K mg base CX0 2 T.aLProduct T.fLProduct ["pouch", "names", "most"] spLProduct := by
  have GLPick : FnOk P w K mg base CX0 1 T.aLPick T.fLPick ["pouch", "size"] spPick := okPick T
  refine T.FLProduct.ok scLProduct (fun vs H Q E h => ?_) (fun cdv A outer s H vs Q E hr h => ?_)
  · obtain ⟨a, nl, ns, most, n, rfl, _⟩ := h
    rfl
  obtain ⟨a, nl, ns, most, n, rfl, hnl, nla, hN, m12, hw, hn, q⟩ := h
  have hu := hu_of hr
  refine ⟨_, (pss_cons (ps_set (i := 3) scLProduct.nd rfl (by first | exact Or.inl rfl | exact Or.inr rfl) (pe_lst pa_nil))
      (pss_cons (ps_for PassesOwn.never rfl (pi_range1 (by rfl) T.n_range (pa_cons (pe_call GLPick (hr.mono (by omega)) rfl T.gLPick T.FLPick.kp T.bLPick .nil pass0 (pa_cons (pv 0) (pa_cons (pe_op op_add (pv 2) pe_int) pa_nil))) pa_nil)) (pg_name (i := 4) scLProduct.nd rfl (by first | exact Or.inl rfl | exact Or.inr rfl))
        (pss_one (ps_if (pt_cmpR op_eq (pe_call GLPick (hr.mono (by omega)) rfl T.gLPick T.FLPick.kp T.bLPick .nil pass0 (pa_cons (pv 0) (pa_cons pe_int pa_nil))) pe_int (nomark _))
          (pss_one (ps_expr (pe_bm PySem.F.plainAttrs_list PySem.F.slot_list_append PySem.F.type_list_append mt_append (pv 3) (pa_cons (pe_ix ix_list (pv 1) (pe_call GLPick (hr.mono (by omega)) rfl T.gLPick T.FLPick.kp T.bLPick .nil pass0 (pa_cons (pv 0) (pa_cons (pe_callB call_len_seq (by rfl) T.n_len PySem.boot_len (pa_cons (pv 1) pa_nil)) pa_nil))) (fun _ _ => rfl)) pa_nil)))) (pss_cons (ps_set (i := 5) scLProduct.nd rfl (by first | exact Or.inl rfl | exact Or.inr rfl) (pe_slice sl_list (pe_lc (own := [("name", 6)]) (g := gName 6) rfl scLProduct.nd (pi_list (pv 1)) (blkOk_by (N := ["pouch", "names", "most", "found", "turn", "some", "name"]) (sc := defScope sLProduct) (by decide +kernel)) (fun _ _ _ _ _ => (pg_name (i := 6) scLProduct.nd rfl (by first | exact Or.inl rfl | exact Or.inr rfl))) (fun _ _ _ _ _ => (pts_one (pt_cmpR op_eq (pe_call GLPick (hr.mono (by omega)) rfl T.gLPick T.FLPick.kp T.bLPick .nil pass0 (pa_cons (pv 0) (pa_cons pe_int pa_nil))) pe_int (nomark _)))) (fun _ _ _ _ _ => (pv 6))) po_none (po_some pe_int)))
          (pss_one (ps_expr (pe_bm PySem.F.plainAttrs_list PySem.F.slot_list_append PySem.F.type_list_append mt_append (pv 3) (pa_cons (pe_ifExp (pt_cmpR (op_neD hr.units) (pv 5) (pe_lst pa_nil) (nomark _)) (pe_callTy call_tuple_of (by rfl) T.n_tuple (by decide +kernel) (pa_cons (pe_callB cr_sortedS (by rfl) T.n_sorted (by decide +kernel) (pa_cons (pv 5) pa_nil)) pa_nil)) (pe_tup (pa_cons (pe_ix ix_list (pv 1) pe_int (fun _ _ => rfl)) pa_nil))) pa_nil))))))))
      (pss_one (ps_ret (pv 3))))), ?_⟩
  have hs := sizeLine_eq
  obtain ⟨ow, how⟩ := hw.some
  have nsl := hN.l8
  have nsl1 := hN.l1
  have ml : ((ns.map V.str).length : Int) ≤ 8 := by rw [List.length_map]; omega
  have ml1 : 1 ≤ ((ns.map V.str).length : Int) := by rw [List.length_map]; omega
  refine ⟨Nat.zero_le _, fun f hf => ?_⟩
  have hfa : f ≠ a := (ne_of_none how hf).symm
  have s1 := same_upd0 hf (.lst [])
  have e1 : (upd H f (.lst [])) f = some (.lst []) := upd_same
  generalize upd H f (.lst []) = H1 at s1 e1 ⊢
  refine ⟨_, rfl, _, rfl, _, _, rfl, rfl, a, _, n, rfl, by omega, by omega, hw.keep fun o e => s1 _ _ e, by omega, fun k0 H2 k00 k01 s2 hw2 => ?_⟩
  refine ⟨_, rfl, by omega, by omega, ?_⟩
  have sm2 : Sm [a] H H2 := (Sm.of_same s1).trans s2
  refine for_range (lo := 0) (n := k0.toNat) (fun k σ H' => ∃ (v4 v5 : Option V) (vs : List V) (p : Prd), σ = [some (.ref a), some (.ref nl), some (.int (most : Int)), some (.ref f), v4, v5, none] ∧ Sm [a] H H' ∧ WellAt H' a (n + 1 + k * 10) ∧ H' f = some (.lst vs) ∧ AtsAt H' vs p ∧ p.length ≤ k ∧ ∀ c ∈ p, okAt c) ⟨none, none, [], [], rfl, sm2, hw2.mono (by omega), s2 _ _ (by simpa using hfa) e1, .nil, by simp, fun _ z => by cases z⟩ ?_ ?_
  · rintro k σ H3 hk ⟨v4, v5, vs, p, rfl, sm3, hw3, hf3, hat3, pl, ok3⟩
    have vl := hat3.length
    have knl := sm3 _ _ (by simpa using nla) hnl
    -- an atom is put at the end
    have fin : ∀ (H' : Hp) (v4 v5 : Option V) (v : V) (c : Atm), Sm [a] H3 H' → WellAt H' a (n + 1 + k * 10 + 10) → AtAt H' v c → okAt c → ∃ (v4' v5' : Option V) (vs' : List V) (p' : Prd), [some (V.ref a), some (V.ref nl), some (V.int (most : Int)), some (V.ref f), v4, v5, none] = [some (.ref a), some (.ref nl), some (.int (most : Int)), some (.ref f), v4', v5', none] ∧ Sm [a] H (upd H' f (.lst (vs ++ [v]))) ∧ WellAt (upd H' f (.lst (vs ++ [v]))) a (n + 1 + (k + 1) * 10) ∧ (upd H' f (.lst (vs ++ [v]))) f = some (.lst vs') ∧ AtsAt (upd H' f (.lst (vs ++ [v]))) vs' p' ∧ p'.length ≤ k + 1 ∧ ∀ c ∈ p', okAt c := fun H' v4 v5 v c sm' hw' hc okc => by
      have hf' := sm' _ _ (by simpa using hfa) hf3
      have ktup : ∀ t xs, H' t = some (.tup xs) → (upd H' f (.lst (vs ++ [v]))) t = some (.tup xs) := fun t xs h => by
        rw [upd_ne (by rintro rfl; rw [hf'] at h; cases h)]
        exact h
      refine ⟨_, _, _, p ++ [c], rfl, fun b o hb e => ?_, (hw'.keep fun o e => by rw [upd_ne hfa.symm]; exact e).mono (by omega), upd_same, ?_, by rw [List.length_append, List.length_singleton]; omega, fun d hd => ?_⟩
      · rw [upd_ne (ne_of_none e hf)]
        exact sm' _ _ hb (sm3 _ _ hb e)
      · have h1 : AtsAt H' (vs ++ [v]) (p ++ [c]) := (hat3.keepT (tup_keep sm' hw3)).app (.cons hc .nil)
        exact h1.keepT ktup
      · rcases List.mem_append.mp hd with h | h
        · exact ok3 d h
        · rw [List.mem_singleton.mp h]; exact okc
    refine ⟨_, rfl, a, 2, _, rfl, by omega, by omega, hw3, by omega, fun b0 H4 b00 b01 s4 hw4 => ⟨rfl, _, rfl, ite2 (fun _ => ?_) (fun _ => ?_)⟩⟩
    · have f4 := s4 _ _ (by simpa using hfa) hf3
      have n4 := s4 _ _ (by simpa using nla) knl
      refine ⟨_, rfl, .inl ⟨rfl, _, SqL.of f4⟩, _, rfl, _, rfl, _, rfl, nl, _, rfl, .inl (SqL.of n4), a, _, _, rfl, by omega, by omega, hw4, by omega, fun r H5 r0 r1 s5 hw5 => ?_⟩
      obtain ⟨y, hy, hat⟩ := hN.at r0 r1
      refine ⟨_, _, _, _, rfl, rfl, SqL.of (s5 _ _ (by simpa using nla) n4), hat, f, _, .str y, rfl, rfl, s5 _ _ (by simpa using hfa) f4, by rw [hs]; omega, ?_⟩
      exact fin H5 _ _ (.str y) (.n y) (s4.trans s5) (hw5.mono (by omega)) (.n y) (ok_n (hN.ok y hy))
    · have n4 := s4 _ _ (by simpa using nla) knl
      refine ⟨_, rfl, nl, rfl, ⟨_, SqL.of n4⟩, fun D hD => ?_⟩
      have Da : D ≠ a := (ne_of_none hw4.some.choose_spec hD).symm
      refine lc_list (K := K) (a := nl) (xs := ns.map V.str) (fun i H' => ∃ u : List Str, Sm [a] H4 H' ∧ WellAt H' a (n + 1 + k * 10 + 1 + i) ∧ H' D = some (.lst (u.map V.str)) ∧ u.Sublist (ns.take i)) ?_ ?_ ?_ ?_
      · exact ⟨[], Sm.of_same (same_upd0 hD _), (hw4.keep fun o e => same_upd0 hD _ _ _ e).mono (by omega), upd_same, by simp⟩
      · rintro i H' _ ⟨_, sm, _⟩
        exact SqL.of (sm _ _ (by simpa using nla) n4)
      · rintro i v H5 hi ⟨u, s5, hw5, h5, hsub⟩
        obtain ⟨y, ey, rfl⟩ := str_at hi
        have il : i < ns.length := (List.getElem?_eq_some_iff.mp ey).1
        have ul := hsub.length_le
        rw [List.length_take] at ul
        refine ⟨rfl, ?_⟩
        refine ⟨_, rfl, a, 2, _, rfl, by omega, by omega, hw5, by omega, fun b1 H6 b10 b11 s6 hw6 => ⟨rfl, _, rfl, ite2 (fun _ => ?_) (fun _ => ?_)⟩⟩
        · refine ⟨_, rfl, _, s6 _ _ (by simpa using Da) h5, by rw [List.length_map, hs]; omega, u ++ [y], fun c o hc e => ?_, (hw6.keep fun o e => by rw [upd_ne Da.symm]; exact e).mono (by omega), by rw [upd_same, List.map_append]; rfl, ?_⟩
          · rw [upd_ne (ne_of_none e hD)]
            exact s6 _ _ hc (s5 _ _ hc e)
          · rw [List.take_add_one, ey]
            exact hsub.append (List.Sublist.refl _)
        · refine ⟨u, s5.trans s6, hw6.mono (by omega), s6 _ _ (by simpa using Da) h5, ?_⟩
          rw [List.take_add_one]
          exact hsub.trans (List.sublist_append_left _ _)
      rintro H5 ⟨u, s5, hw5, h5, hsub⟩
      rw [List.length_map] at hw5 hsub
      rw [List.take_length] at hsub
      refine ⟨_, rfl, D, _, rfl, SqL.of h5, fun g hg => ?_⟩
      rw [show (5 : Int) = ((5 : Nat) : Int) from rfl, cut_to', ← List.map_take]
      have t6 := same_upd0 hg (.lst ((u.take 5).map V.str))
      have g6 : (upd H5 g (.lst ((u.take 5).map V.str))) g = some (.lst ((u.take 5).map V.str)) := upd_same
      generalize upd H5 g (.lst ((u.take 5).map V.str)) = H6 at t6 g6 ⊢
      have usub : (u.take 5).Sublist ns := (List.take_sublist 5 u).trans hsub
      have u5 : (u.take 5).length ≤ 5 := by rw [List.length_take]; omega
      generalize u.take 5 = u5l at g6 usub u5 ⊢
      have unm : ∀ x ∈ u5l, FA.okName x := fun x hx => hN.ok x (usub.subset hx)
      have s36 : Sm [a] H3 H6 := (s4.trans s5).trans (Sm.of_same t6)
      have hw6 := hw5.keep fun o e => t6 _ _ e
      have f6 := s36 _ _ (by simpa using hfa) hf3
      refine ⟨_, rfl, .inl ⟨rfl, _, SqL.of f6⟩, _, rfl, Nat.zero_le _, fun z hz => ?_⟩
      have t7 := same_upd0 hz (.lst [])
      have g7 : (upd H6 z (.lst [])) z = some (.lst []) := upd_same
      generalize upd H6 z (.lst []) = H7 at t7 g7 ⊢
      have g67 := t7 _ _ g6
      refine ⟨.list (u5l.map PyData.str), .list [], .lst (SqL.of g67) (dp_strs _), .lst (SqL.of g7) .nil, strs_shaped unm, rfl, _, rfl, ?_⟩
      rw [eqv_none]
      have hw7 := hw6.keep fun o e => t7 _ _ e
      have s37 := s36.trans (Sm.of_same t7)
      cases hu5 : u5l with
      | nil =>
        have n7 := s37 _ _ (by simpa using nla) knl
        obtain ⟨y, ey⟩ : ∃ y, ns[0]? = some y := ⟨_, List.getElem?_eq_getElem (by omega : 0 < ns.length)⟩
        refine iteF ?_
        refine ⟨_, rfl, _, _, _, _, rfl, rfl, SqL.of n7, at_of (j := 0) (v := .str y) rfl (by rw [List.getElem?_map, ey]; rfl), Nat.le_of_lt (small1000 (by simp)), fun tp htp => ?_⟩
        have t8 := same_upd0 htp (.tup [V.str y])
        have g8 : (upd H7 tp (.tup [V.str y])) tp = some (.tup (([y] : List Str).map V.str)) := upd_same
        generalize upd H7 tp (.tup [V.str y]) = H8 at t8 g8 ⊢
        refine ⟨f, _, .ref tp, rfl, rfl, t8 _ _ (t7 _ _ f6), by rw [hs]; omega, ?_⟩
        exact fin H8 _ _ (.ref tp) (.t [y]) (s37.trans (Sm.of_same t8)) ((hw7.keep fun o e => t8 _ _ e).mono (by omega)) (.t g8) (ok_one (hN.ok y (List.mem_of_getElem? ey)))
      | cons x0 r0 =>
        refine iteT ?_
        refine ⟨_, rfl, g, _, rfl, SqL.of g67, by omega, fun ys c pm so hc => ?_⟩
        have t8 := same_upd0 hc (.lst (ys.map V.str))
        have g8 : (upd H7 c (.lst (ys.map V.str))) c = some (.lst (ys.map V.str)) := upd_same
        generalize upd H7 c (.lst (ys.map V.str)) = H8 at t8 g8 ⊢
        refine ⟨c, _, rfl, .inl ⟨SqL.of g8, fun tp htp => ?_⟩⟩
        have t9 := same_upd0 htp (.tup (ys.map V.str))
        have g9 : (upd H8 tp (.tup (ys.map V.str))) tp = some (.tup (ys.map V.str)) := upd_same
        generalize upd H8 tp (.tup (ys.map V.str)) = H9 at t9 g9 ⊢
        have t79 := t8.trans t9
        refine ⟨f, _, .ref tp, rfl, rfl, t79 _ _ (t7 _ _ f6), by rw [hs]; omega, ?_⟩
        refine fin H9 _ _ (.ref tp) (.t ys) (s37.trans (Sm.of_same t79)) ((hw7.keep fun o e => t79 _ _ e).mono (by omega)) (.t g9) (ok_t (pm.symm.nodup (usub.nodup hN.nd)) so (fun x hx => unm x (pm.mem_iff.mp hx)) (by rw [pm.length_eq]; exact u5) ?_)
        intro e
        have := pm.length_eq
        rw [e, hu5] at this
        cases this
  · rintro σ H3 ⟨v4, v5, vs, p, rfl, sm3, hw3, hf3, hat3, pl, ok3⟩
    exact ⟨_, rfl, q f H3 vs p sm3 (hw3.mono (by omega)) hf hf3 hat3 (by omega) ok3⟩
end K09


set_option Elab.async false
set_option linter.all false
set_option maxRecDepth 100000
set_option maxHeartbeats 1000000
namespace K09
open PySem PySem.Spec PyProof.Rows L2 FA
variable {P : Program} {w : World} {K : PySem.W.Frag} {mg : Str → Option Value} {base : Heap}
theorem Nm.first {ns : List Str} (h : Nm ns) : ∃ y, y ∈ ns ∧ atI (ns.map V.str) 0 = some (.str y) := h.at (by decide) (by have := h.l1; rw [List.length_map]; omega)
theorem Nm.last {ns : List Str} (h : Nm ns) : ∃ y, y ∈ ns ∧ atI (ns.map V.str) (-1) = some (.str y) := by
  have l1 := h.l1
  have hix : ixN (ns.map V.str).length (-1) = some (ns.length - 1) := by
    rw [List.length_map]
    unfold ixN
    rw [if_neg (by omega), if_pos (by omega)]
    congr 1
    omega
  have hlt : ns.length - 1 < ns.length := by omega
  refine ⟨ns[ns.length - 1], List.getElem_mem _, ?_⟩
  unfold atI
  rw [hix]
  show (ns.map V.str)[ns.length - 1]? = _
  rw [List.getElem?_map, List.getElem?_eq_getElem hlt]
  rfl
def spLBent : Sp := fun vs H Q _ => ∃ (a nl b : Addr) (ns : List Str) (p : Prd) (most n : Nat), vs = [.ref a, .ref nl, .ref b, .int (most : Int)] ∧ H nl = some (.lst (ns.map V.str)) ∧ nl ≠ a ∧ Nm ns ∧ PdAt (wo [a] H) b p ∧ p.length ≤ most ∧ (∀ c ∈ p, okAt c) ∧ most ≤ 12 ∧ WellAt H a n ∧ n + 10 ≤ 2 ^ 80 ∧
  ∀ r H' vs p, Sm [a] H H' → WellAt H' a (n + 10) → H r = none → H' r = some (.lst vs) → AtsAt H' vs p → p.length ≤ most → (∀ c ∈ p, okAt c) → Q (.ref r) H'
theorem okLBent (T : Txt K mg) : FnOk P w K mg base CX0 2 T.aLBent T.fLBent ["pouch", "names", "whole", "most"] spLBent := by
  have GLPick : FnOk P w K mg base CX0 1 T.aLPick T.fLPick ["pouch", "size"] spPick := okPick T
  refine T.FLBent.ok scLBent (fun vs H Q E h => ?_) (fun cdv A outer s H vs Q E hr h => ?_)
  · obtain ⟨a, nl, b, ns, p, most, n, rfl, _⟩ := h
    rfl
  obtain ⟨a, nl, b, ns, p, most, n, rfl, hnl, nla, hN, ⟨vs, hb0, hat0⟩, plm, hok, m12, hw, hn, q⟩ := h
  have hu := hu_of hr
  refine ⟨_, (pss_cons (ps_par (i := 6) (j := 7) (by rfl) scLBent.nd rfl rfl (by decide) rfl rfl (pa_cons (pe_call GLPick (hr.mono (by omega)) rfl T.gLPick T.FLPick.kp T.bLPick .nil pass0 (pa_cons (pv 0) (pa_cons (pe_op op_add (pe_callB call_len_seq (by rfl) T.n_len PySem.boot_len (pa_cons (pv 2) pa_nil)) pe_int) pa_nil))) (pa_cons (pe_call GLPick (hr.mono (by omega)) rfl T.gLPick T.FLPick.kp T.bLPick .nil pass0 (pa_cons (pv 0) (pa_cons pe_int pa_nil))) pa_nil)) (by rfl))
      (pss_cons (ps_set (i := 4) scLBent.nd rfl (by first | exact Or.inl rfl | exact Or.inr rfl) (pe_ix ix_list (pe_op op_cat (pe_lst (pa_cons (pe_ix ix_list (pv 1) (pe_un un_neg pe_int) (fun _ _ => rfl)) (pa_cons (pe_tup (pa_cons (pe_ix ix_list (pv 1) pe_int (fun _ _ => rfl)) pa_nil)) pa_nil))) (pv 2)) (pe_call GLPick (hr.mono (by omega)) rfl T.gLPick T.FLPick.kp T.bLPick .nil pass0 (pa_cons (pv 0) (pa_cons (pe_op op_add pe_int (pe_callB call_len_seq (by rfl) T.n_len PySem.boot_len (pa_cons (pv 2) pa_nil))) pa_nil))) (fun _ _ => rfl)))
      (pss_cons (ps_if (PW.pt (pw_or (pt_cmpR op_eq (pv 7) pe_int (nomark _)) (pw_or1 (pt_cmpR op_eq (pv 6) (pe_callB call_len_seq (by rfl) T.n_len PySem.boot_len (pa_cons (pv 2) pa_nil)) (nomark _)))))
        (pss_one (ps_ret (pe_slice sl_list (pe_op op_cat (pe_op op_cat (pe_slice sl_list (pv 2) po_none (po_some (pv 6))) (pe_lst (pa_cons (pv 4) pa_nil))) (pe_slice sl_list (pv 2) (po_some (pv 6)) po_none)) po_none (po_some (pv 3))))) pss_nil)
      (pss_cons (ps_if (pt_cmpR op_eq (pv 7) pe_int (nomark _))
        (pss_one (ps_ret (pe_op op_cat (pe_slice sl_list (pv 2) po_none (po_some (pv 6))) (pe_slice sl_list (pv 2) (po_some (pe_op op_add (pv 6) pe_int)) po_none)))) pss_nil)
      (pss_cons (ps_if (pt_cmpR op_eq (pv 7) pe_int (nomark _))
        (pss_one (ps_ret (pe_slice sl_list (pe_op op_cat (pe_slice sl_list (pv 2) po_none (po_some (pe_op op_add (pv 6) pe_int))) (pe_slice sl_list (pv 2) (po_some (pv 6)) po_none)) po_none (po_some (pv 3))))) pss_nil)
      (pss_cons (ps_if (pt_cmpR op_eq (pv 7) pe_int (nomark _))
        (pss_one (ps_ret (pe_op op_cat (pe_op op_cat (pe_slice sl_list (pv 2) po_none (po_some (pv 6))) (pe_lst (pa_cons (pv 4) pa_nil))) (pe_slice sl_list (pv 2) (po_some (pe_op op_add (pv 6) pe_int)) po_none)))) pss_nil)
      (pss_cons (ps_set (i := 5) scLBent.nd rfl (by first | exact Or.inl rfl | exact Or.inr rfl) (pe_ifExp (pt_val (pe_callB call_isi (by rfl) T.n_isinstance (by decide +kernel) (pa_cons (pe_ix ix_list (pv 2) (pv 6) (fun _ _ => rfl)) (pa_cons (pe_bltn (v := .ty "tuple") (by rfl) T.n_tuple (by decide +kernel) rfl) pa_nil)))) (pe_ix ix_list (pv 2) (pv 6) (fun _ _ => rfl)) (pe_tup (pa_cons (pe_ix ix_list (pv 2) (pv 6) (fun _ _ => rfl)) pa_nil))))
      (pss_one (ps_ret (pe_op op_cat (pe_op op_cat (pe_slice sl_list (pv 2) po_none (po_some (pv 6))) (pe_lst (pa_cons (pe_callTy call_tuple_of (by rfl) T.n_tuple (by decide +kernel) (pa_cons (pe_slice sl_list (pe_callB (cr_sortedTx rfl) (by rfl) T.n_sorted (by decide +kernel) (pa_cons (pe_callTy (cr_setTxT rfl) (by rfl) T.n_set (by decide +kernel) (pa_cons (pe_op op_catT (pv 5) (pe_tup (pa_cons (pe_ix ix_list (pv 1) (pe_un un_neg pe_int) (fun _ _ => rfl)) pa_nil))) pa_nil)) pa_nil)) po_none (po_some pe_int)) pa_nil)) pa_nil))) (pe_slice sl_list (pv 2) (po_some (pe_op op_add (pv 6) pe_int)) po_none))))))))))), ?_⟩
  have hs := sizeLine_eq
  obtain ⟨ow, how⟩ := hw.some
  have nsl := hN.l8
  obtain ⟨hba, hb⟩ := wo_some.mp hb0
  have hat0 := hat0.keep kp_off
  have vl := hat0.length
  refine ⟨_, rfl, _, rfl, b, _, rfl, .inl (SqL.of hb), _, _, rfl, rfl, a, _, n, rfl, by omega, by omega, hw, by omega, fun sp H1 r0 r1 s1 hw1 => ?_⟩
  refine ⟨_, rfl, a, 5, n + 1, rfl, by omega, by omega, hw1, by omega, fun way H2 w0 w1 s2 hw2 => ?_⟩
  obtain ⟨k, rfl⟩ : ∃ k : Nat, sp = (k : Int) := ⟨sp.toNat, by omega⟩
  have sm2 := s1.trans s2
  have n2 := sm2 _ _ (by simpa using nla) hnl
  have b2 := sm2 _ _ hba hb
  obtain ⟨yl, hyl, hatl⟩ := hN.last
  obtain ⟨yf, hyf, hatf⟩ := hN.first
  refine ⟨_, _, rfl, ?_⟩
  refine ⟨_, rfl, _, rfl, _, _, _, _, rfl, rfl, SqL.of n2, hatl, _, rfl, _, _, _, _, rfl, rfl, SqL.of n2, hatf, Nat.le_of_lt (small1000 (by simp)), fun T1 hT1 => ?_⟩
  have t3 := same_upd0 hT1 (.tup [V.str yf])
  have g3 : (upd H2 T1 (.tup [V.str yf])) T1 = some (.tup (([yf] : List Str).map V.str)) := upd_same
  generalize upd H2 T1 (.tup [V.str yf]) = H3 at t3 g3 ⊢
  refine ⟨Nat.le_of_lt (small1000 (by simp)), fun L1 hL1 => ?_⟩
  have t4 := same_upd0 hL1 (.lst [V.str yl, V.ref T1])
  have g4 : (upd H3 L1 (.lst [V.str yl, V.ref T1])) L1 = some (.lst [V.str yl, V.ref T1]) := upd_same
  generalize upd H3 L1 (.lst [V.str yl, V.ref T1]) = H4 at t4 g4 ⊢
  refine ⟨_, rfl, L1, b, _, _, rfl, rfl, g4, t4 _ _ (t3 _ _ b2), by simp only [List.length_cons, List.length_nil, hs]; omega, fun L2' hL2 => ?_⟩
  have t5 := same_upd0 hL2 (.lst ([V.str yl, V.ref T1] ++ vs))
  have g5 : (upd H4 L2' (.lst ([V.str yl, V.ref T1] ++ vs))) L2' = some (.lst ([V.str yl, V.ref T1] ++ vs)) := upd_same
  generalize upd H4 L2' (.lst ([V.str yl, V.ref T1] ++ vs)) = H5 at t5 g5 ⊢
  have s25 : Same H2 H5 := t3.trans (t4.trans t5)
  have hw5 := hw2.keep fun o e => s25 _ _ e
  have b5 := s25 _ _ b2
  have l2a : L2' ≠ a := (ne_of_none (t4 _ _ (t3 _ _ hw2.some.choose_spec)) hL2).symm
  refine ⟨_, rfl, _, rfl, b, _, rfl, .inl (SqL.of b5), _, _, rfl, rfl, a, _, n + 2, rfl, by omega, by omega, hw5, by omega, fun r H6 q0 q1 s6 hw6 => ?_⟩
  have sm6 : Sm [a] H H6 := (sm2.trans (Sm.of_same s25)).trans s6
  have hb6 := sm6 _ _ hba hb
  have ha := hat0.keepT (tup_keep sm6 hw)
  have hT6 : H6 T1 = some (.tup (([yf] : List Str).map V.str)) := tup_keep s6 hw5 _ _ (t5 _ _ (t4 _ _ g3))
  have hall : AtsAt H6 ([V.str yl, V.ref T1] ++ vs) ([.n yl, .t [yf]] ++ p) := .cons (.n yl) (.cons (.t hT6) ha)
  obtain ⟨v, hv⟩ : ∃ v, ([V.str yl, V.ref T1] ++ vs)[r.toNat]? = some v := ⟨_, List.getElem?_eq_getElem (by simp only [List.length_append, List.length_cons, List.length_nil]; omega)⟩
  obtain ⟨c, ec, hc⟩ := hall.get hv
  have okc : okAt c := by
    rcases List.mem_append.mp (List.mem_of_getElem? ec) with h | h
    · simp only [List.mem_cons, List.not_mem_nil, or_false] at h
      rcases h with rfl | rfl
      · exact ok_n (hN.ok _ hyl)
      · exact ok_one (hN.ok _ hyf)
    · exact hok c h
  have hatr := atI_nat (xs := [V.str yl, V.ref T1] ++ vs) (j := r.toNat) hv
  rw [Int.toNat_of_nonneg q0] at hatr
  refine ⟨_, _, _, _, rfl, rfl, SqL.of (s6 _ _ (by simpa using l2a) g5), hatr, ?_⟩
  have hw6 : WellAt H6 a (n + 3) := hw6
  -- a way's end
  have fin : ∀ (H7 : Hp) (f : Addr) (vs' : List V) (p' : Prd), Same H6 H7 → H7 f = none → AtsAt H6 vs' p' → p'.length ≤ most → (∀ c ∈ p', okAt c) → Q (.ref f) (upd H7 f (.lst vs')) := fun H7 f vs' p' s7 hf h1 h2 h3 => by
    have hfn : H f = none := none_back sm6 (fun x hx => by rw [List.mem_singleton.mp hx]; exact hw6.some) (s7.free hf)
    have t8 := same_upd0 hf (.lst vs')
    have s68 := s7.trans t8
    exact q f _ vs' p' (sm6.trans (Sm.of_same s68)) ((hw6.keep fun o e => s68 _ _ e).mono (by omega)) hfn upd_same (h1.keep (Kp.of s68)) h2 h3
  have n6 := sm6 _ _ (by simpa using nla) hnl
  refine ⟨_, rfl, rfl, _, rfl, ite2 (fun _ => iteT ?_) (fun _ => ?_)⟩
  · skip
    refine ⟨_, rfl, _, rfl, _, rfl, b, vs, rfl, SqL.of hb6, fun qa1 hqa1 => ?_⟩
    rw [cut_to']
    have tqa1 := same_upd0 hqa1 (.lst (vs.take k))
    have gqa1 : (upd H6 qa1 (.lst (vs.take k))) qa1 = some (.lst (vs.take k)) := upd_same
    generalize upd H6 qa1 (.lst (vs.take k)) = Ka1 at tqa1 gqa1 ⊢
    refine ⟨_, rfl, Nat.le_of_lt (small1000 (by simp)), fun qa2 hqa2 => ?_⟩
    have tqa2 := same_upd0 hqa2 (.lst [v])
    have gqa2 : (upd Ka1 qa2 (.lst [v])) qa2 = some (.lst [v]) := upd_same
    generalize upd Ka1 qa2 (.lst [v]) = Ka2 at tqa2 gqa2 ⊢
    refine ⟨qa1, qa2, _, _, rfl, rfl, (tqa2 _ _ gqa1), ((Same.refl _) _ _ gqa2), by simp only [List.length_append, List.length_take, List.length_drop, List.length_singleton, hs]; omega, fun qa3 hqa3 => ?_⟩
    have tqa3 := same_upd0 hqa3 (.lst (vs.take k ++ [v]))
    have gqa3 : (upd Ka2 qa3 (.lst (vs.take k ++ [v]))) qa3 = some (.lst (vs.take k ++ [v])) := upd_same
    generalize upd Ka2 qa3 (.lst (vs.take k ++ [v])) = Ka3 at tqa3 gqa3 ⊢
    refine ⟨_, rfl, _, rfl, _, rfl, b, vs, rfl, SqL.of ((((tqa1.trans tqa2).trans tqa3)) _ _ hb6), fun qa4 hqa4 => ?_⟩
    rw [cut_from (by omega)]
    have tqa4 := same_upd0 hqa4 (.lst (vs.drop k))
    have gqa4 : (upd Ka3 qa4 (.lst (vs.drop k))) qa4 = some (.lst (vs.drop k)) := upd_same
    generalize upd Ka3 qa4 (.lst (vs.drop k)) = Ka4 at tqa4 gqa4 ⊢
    refine ⟨qa3, qa4, _, _, rfl, rfl, (tqa4 _ _ gqa3), ((Same.refl _) _ _ gqa4), by simp only [List.length_append, List.length_take, List.length_drop, List.length_singleton, hs]; omega, fun qa5 hqa5 => ?_⟩
    have tqa5 := same_upd0 hqa5 (.lst (vs.take k ++ [v] ++ vs.drop k))
    have gqa5 : (upd Ka4 qa5 (.lst (vs.take k ++ [v] ++ vs.drop k))) qa5 = some (.lst (vs.take k ++ [v] ++ vs.drop k)) := upd_same
    generalize upd Ka4 qa5 (.lst (vs.take k ++ [v] ++ vs.drop k)) = Ka5 at tqa5 gqa5 ⊢
    refine ⟨_, rfl, _, rfl, qa5, _, rfl, SqL.of gqa5, fun qz hqz => ?_⟩
    rw [cut_to']
    exact fin _ qz ((vs.take k ++ [v] ++ vs.drop k).take most) ((p.take k ++ [c] ++ p.drop k).take most) (((((tqa1.trans tqa2).trans tqa3).trans tqa4).trans tqa5)) hqz ((((ha.take k).app (.cons hc .nil)).app (ha.drop k)).take most) (by rw [List.length_take]; omega) (fun z hz => by
            have hz := List.mem_of_mem_take hz
            rcases List.mem_append.mp hz with h | h
            · rcases List.mem_append.mp h with h | h
              · exact hok z (List.mem_of_mem_take h)
              · rw [List.mem_singleton.mp h]; exact okc
            · exact hok z (List.mem_of_mem_drop h))
  refine ⟨_, rfl, _, rfl, b, _, rfl, .inl (SqL.of hb6), rfl, _, rfl, ite2 (fun _ => ?_) (fun hne => ?_)⟩
  · skip
    refine ⟨_, rfl, _, rfl, _, rfl, b, vs, rfl, SqL.of hb6, fun qa1 hqa1 => ?_⟩
    rw [cut_to']
    have tqa1 := same_upd0 hqa1 (.lst (vs.take k))
    have gqa1 : (upd H6 qa1 (.lst (vs.take k))) qa1 = some (.lst (vs.take k)) := upd_same
    generalize upd H6 qa1 (.lst (vs.take k)) = Ka1 at tqa1 gqa1 ⊢
    refine ⟨_, rfl, Nat.le_of_lt (small1000 (by simp)), fun qa2 hqa2 => ?_⟩
    have tqa2 := same_upd0 hqa2 (.lst [v])
    have gqa2 : (upd Ka1 qa2 (.lst [v])) qa2 = some (.lst [v]) := upd_same
    generalize upd Ka1 qa2 (.lst [v]) = Ka2 at tqa2 gqa2 ⊢
    refine ⟨qa1, qa2, _, _, rfl, rfl, (tqa2 _ _ gqa1), ((Same.refl _) _ _ gqa2), by simp only [List.length_append, List.length_take, List.length_drop, List.length_singleton, hs]; omega, fun qa3 hqa3 => ?_⟩
    have tqa3 := same_upd0 hqa3 (.lst (vs.take k ++ [v]))
    have gqa3 : (upd Ka2 qa3 (.lst (vs.take k ++ [v]))) qa3 = some (.lst (vs.take k ++ [v])) := upd_same
    generalize upd Ka2 qa3 (.lst (vs.take k ++ [v])) = Ka3 at tqa3 gqa3 ⊢
    refine ⟨_, rfl, _, rfl, _, rfl, b, vs, rfl, SqL.of ((((tqa1.trans tqa2).trans tqa3)) _ _ hb6), fun qa4 hqa4 => ?_⟩
    rw [cut_from (by omega)]
    have tqa4 := same_upd0 hqa4 (.lst (vs.drop k))
    have gqa4 : (upd Ka3 qa4 (.lst (vs.drop k))) qa4 = some (.lst (vs.drop k)) := upd_same
    generalize upd Ka3 qa4 (.lst (vs.drop k)) = Ka4 at tqa4 gqa4 ⊢
    refine ⟨qa3, qa4, _, _, rfl, rfl, (tqa4 _ _ gqa3), ((Same.refl _) _ _ gqa4), by simp only [List.length_append, List.length_take, List.length_drop, List.length_singleton, hs]; omega, fun qa5 hqa5 => ?_⟩
    have tqa5 := same_upd0 hqa5 (.lst (vs.take k ++ [v] ++ vs.drop k))
    have gqa5 : (upd Ka4 qa5 (.lst (vs.take k ++ [v] ++ vs.drop k))) qa5 = some (.lst (vs.take k ++ [v] ++ vs.drop k)) := upd_same
    generalize upd Ka4 qa5 (.lst (vs.take k ++ [v] ++ vs.drop k)) = Ka5 at tqa5 gqa5 ⊢
    refine ⟨_, rfl, _, rfl, qa5, _, rfl, SqL.of gqa5, fun qz hqz => ?_⟩
    rw [cut_to']
    exact fin _ qz ((vs.take k ++ [v] ++ vs.drop k).take most) ((p.take k ++ [c] ++ p.drop k).take most) (((((tqa1.trans tqa2).trans tqa3).trans tqa4).trans tqa5)) hqz ((((ha.take k).app (.cons hc .nil)).app (ha.drop k)).take most) (by rw [List.length_take]; omega) (fun z hz => by
            have hz := List.mem_of_mem_take hz
            rcases List.mem_append.mp hz with h | h
            · rcases List.mem_append.mp h with h | h
              · exact hok z (List.mem_of_mem_take h)
              · rw [List.mem_singleton.mp h]; exact okc
            · exact hok z (List.mem_of_mem_drop h))
  have hkl : k < vs.length := by
    have : ¬ ((k : Int) = ((vs.length : Nat) : Int)) := fun z => hne (decide_eq_true (congrArg V.int z))
    omega
  refine ⟨_, rfl, rfl, _, rfl, ite2 (fun _ => ?_) (fun _ => ?_)⟩
  · skip
    refine ⟨_, rfl, _, rfl, _, rfl, b, vs, rfl, SqL.of hb6, fun qb1 hqb1 => ?_⟩
    rw [cut_to']
    have tqb1 := same_upd0 hqb1 (.lst (vs.take k))
    have gqb1 : (upd H6 qb1 (.lst (vs.take k))) qb1 = some (.lst (vs.take k)) := upd_same
    generalize upd H6 qb1 (.lst (vs.take k)) = Kb1 at tqb1 gqb1 ⊢
    refine ⟨_, rfl, _, rfl, _, _, rfl, rfl, _, rfl, b, vs, rfl, SqL.of ((tqb1) _ _ hb6), fun qb2 hqb2 => ?_⟩
    rw [show ((k : Int) + 1) = ((k + 1 : Nat) : Int) from rfl, cut_from (by omega)]
    have tqb2 := same_upd0 hqb2 (.lst (vs.drop (k + 1)))
    have gqb2 : (upd Kb1 qb2 (.lst (vs.drop (k + 1)))) qb2 = some (.lst (vs.drop (k + 1))) := upd_same
    generalize upd Kb1 qb2 (.lst (vs.drop (k + 1))) = Kb2 at tqb2 gqb2 ⊢
    refine ⟨qb1, qb2, _, _, rfl, rfl, (tqb2 _ _ gqb1), ((Same.refl _) _ _ gqb2), by simp only [List.length_append, List.length_take, List.length_drop, List.length_singleton, hs]; omega, fun qz hqz => ?_⟩
    exact fin _ qz (vs.take k ++ vs.drop (k + 1)) (p.take k ++ p.drop (k + 1)) ((tqb1.trans tqb2)) hqz ((ha.take k).app (ha.drop (k + 1))) (by rw [List.length_append, List.length_take, List.length_drop]; omega) (fun z hz => (List.mem_append.mp hz).elim (fun h => hok z (List.mem_of_mem_take h)) fun h => hok z (List.mem_of_mem_drop h))
  refine ⟨_, rfl, rfl, _, rfl, ite2 (fun _ => ?_) (fun _ => ?_)⟩
  · skip
    refine ⟨_, rfl, _, rfl, _, _, rfl, rfl, _, rfl, b, vs, rfl, SqL.of hb6, fun qc1 hqc1 => ?_⟩
    rw [show ((k : Int) + 1) = ((k + 1 : Nat) : Int) from rfl, cut_to']
    have tqc1 := same_upd0 hqc1 (.lst (vs.take (k + 1)))
    have gqc1 : (upd H6 qc1 (.lst (vs.take (k + 1)))) qc1 = some (.lst (vs.take (k + 1))) := upd_same
    generalize upd H6 qc1 (.lst (vs.take (k + 1))) = Kc1 at tqc1 gqc1 ⊢
    refine ⟨_, rfl, _, rfl, _, rfl, b, vs, rfl, SqL.of ((tqc1) _ _ hb6), fun qc2 hqc2 => ?_⟩
    rw [cut_from (by omega)]
    have tqc2 := same_upd0 hqc2 (.lst (vs.drop k))
    have gqc2 : (upd Kc1 qc2 (.lst (vs.drop k))) qc2 = some (.lst (vs.drop k)) := upd_same
    generalize upd Kc1 qc2 (.lst (vs.drop k)) = Kc2 at tqc2 gqc2 ⊢
    refine ⟨qc1, qc2, _, _, rfl, rfl, (tqc2 _ _ gqc1), ((Same.refl _) _ _ gqc2), by simp only [List.length_append, List.length_take, List.length_drop, List.length_singleton, hs]; omega, fun qc3 hqc3 => ?_⟩
    have tqc3 := same_upd0 hqc3 (.lst (vs.take (k + 1) ++ vs.drop k))
    have gqc3 : (upd Kc2 qc3 (.lst (vs.take (k + 1) ++ vs.drop k))) qc3 = some (.lst (vs.take (k + 1) ++ vs.drop k)) := upd_same
    generalize upd Kc2 qc3 (.lst (vs.take (k + 1) ++ vs.drop k)) = Kc3 at tqc3 gqc3 ⊢
    refine ⟨_, rfl, _, rfl, qc3, _, rfl, SqL.of gqc3, fun qz hqz => ?_⟩
    rw [cut_to']
    exact fin _ qz ((vs.take (k + 1) ++ vs.drop k).take most) ((p.take (k + 1) ++ p.drop k).take most) (((tqc1.trans tqc2).trans tqc3)) hqz (((ha.take (k + 1)).app (ha.drop k)).take most) (by rw [List.length_take]; omega) (fun z hz => (List.mem_append.mp (List.mem_of_mem_take hz)).elim (fun h => hok z (List.mem_of_mem_take h)) fun h => hok z (List.mem_of_mem_drop h))
  refine ⟨_, rfl, rfl, _, rfl, ite2 (fun _ => ?_) (fun _ => ?_)⟩
  · skip
    refine ⟨_, rfl, _, rfl, _, rfl, b, vs, rfl, SqL.of hb6, fun qd1 hqd1 => ?_⟩
    rw [cut_to']
    have tqd1 := same_upd0 hqd1 (.lst (vs.take k))
    have gqd1 : (upd H6 qd1 (.lst (vs.take k))) qd1 = some (.lst (vs.take k)) := upd_same
    generalize upd H6 qd1 (.lst (vs.take k)) = Kd1 at tqd1 gqd1 ⊢
    refine ⟨_, rfl, Nat.le_of_lt (small1000 (by simp)), fun qd2 hqd2 => ?_⟩
    have tqd2 := same_upd0 hqd2 (.lst [v])
    have gqd2 : (upd Kd1 qd2 (.lst [v])) qd2 = some (.lst [v]) := upd_same
    generalize upd Kd1 qd2 (.lst [v]) = Kd2 at tqd2 gqd2 ⊢
    refine ⟨qd1, qd2, _, _, rfl, rfl, (tqd2 _ _ gqd1), ((Same.refl _) _ _ gqd2), by simp only [List.length_append, List.length_take, List.length_drop, List.length_singleton, hs]; omega, fun qd3 hqd3 => ?_⟩
    have tqd3 := same_upd0 hqd3 (.lst (vs.take k ++ [v]))
    have gqd3 : (upd Kd2 qd3 (.lst (vs.take k ++ [v]))) qd3 = some (.lst (vs.take k ++ [v])) := upd_same
    generalize upd Kd2 qd3 (.lst (vs.take k ++ [v])) = Kd3 at tqd3 gqd3 ⊢
    refine ⟨_, rfl, _, rfl, _, _, rfl, rfl, _, rfl, b, vs, rfl, SqL.of ((((tqd1.trans tqd2).trans tqd3)) _ _ hb6), fun qd4 hqd4 => ?_⟩
    rw [show ((k : Int) + 1) = ((k + 1 : Nat) : Int) from rfl, cut_from (by omega)]
    have tqd4 := same_upd0 hqd4 (.lst (vs.drop (k + 1)))
    have gqd4 : (upd Kd3 qd4 (.lst (vs.drop (k + 1)))) qd4 = some (.lst (vs.drop (k + 1))) := upd_same
    generalize upd Kd3 qd4 (.lst (vs.drop (k + 1))) = Kd4 at tqd4 gqd4 ⊢
    refine ⟨qd3, qd4, _, _, rfl, rfl, (tqd4 _ _ gqd3), ((Same.refl _) _ _ gqd4), by simp only [List.length_append, List.length_take, List.length_drop, List.length_singleton, hs]; omega, fun qz hqz => ?_⟩
    exact fin _ qz (vs.take k ++ [v] ++ vs.drop (k + 1)) (p.take k ++ [c] ++ p.drop (k + 1)) ((((tqd1.trans tqd2).trans tqd3).trans tqd4)) hqz (((ha.take k).app (.cons hc .nil)).app (ha.drop (k + 1))) (by simp only [List.length_append, List.length_take, List.length_drop, List.length_singleton]; omega) (fun z hz => by
            rcases List.mem_append.mp hz with h | h
            · rcases List.mem_append.mp h with h | h
              · exact hok z (List.mem_of_mem_take h)
              · rw [List.mem_singleton.mp h]; exact okc
            · exact hok z (List.mem_of_mem_drop h))
  obtain ⟨v0, hv0⟩ : ∃ v0, vs[k]? = some v0 := ⟨_, List.getElem?_eq_getElem hkl⟩
  obtain ⟨c0, ec0, hc0⟩ := ha.get hv0
  have okc0 := hok c0 (List.mem_of_getElem? ec0)
  have hatk : atI vs (k : Int) = some v0 := atI_nat hv0
  dsimp only [tNext, L2.Ends.nx]
  refine seq_inv (fun σ' H7 => ∃ (o : Addr) (xs : List Str), σ' = [some (.ref a), some (.ref nl), some (.ref b), some (.int (most : Int)), some v, some (.ref o), some (.int (k : Int)), some (.int way)] ∧ Same H6 H7 ∧ H7 o = some (.tup (xs.map V.str)) ∧ okAt (.t xs)) (fun Nn hNn => ?_) ?_
  · rcases hc0.two with ⟨x, rfl, rfl⟩ | ⟨t, xs, rfl, rfl, ht⟩
    · refine ⟨_, rfl, _, rfl, _, _, _, _, rfl, rfl, SqL.of hb6, hatk, _, _, _, _, false, rfl, .ty _, ty_str x, kit_ty (by decide +kernel), _, rfl, iteF ?_⟩
      refine ⟨_, rfl, _, rfl, _, _, _, _, rfl, rfl, SqL.of hb6, hatk, Nat.le_of_lt (small1000 (by simp)), fun o ho => ?_⟩
      exact hNn _ _ ⟨o, [x], rfl, same_upd0 ho _, upd_same, ok_one (okc0.1 x (by simp [Atm.nms]))⟩
    · refine ⟨_, rfl, _, rfl, _, _, _, _, rfl, rfl, SqL.of hb6, hatk, _, _, _, _, true, rfl, .ty _, ty_tup ht, kit_ty (by decide +kernel), _, rfl, iteT ?_⟩
      exact ⟨_, rfl, _, rfl, _, _, _, _, rfl, rfl, SqL.of hb6, hatk, hNn _ _ ⟨t, xs, rfl, Same.refl _, ht, okc0⟩⟩
  rintro σ' H7 ⟨o, xs, rfl, s7, ho, okx⟩
  refine ⟨_, rfl, _, rfl, _, rfl, b, vs, rfl, SqL.of (s7 _ _ hb6), fun q1 hq1 => ?_⟩
  rw [cut_to']
  have tq1 := same_upd0 hq1 (.lst (vs.take k))
  have gq1 : (upd H7 q1 (.lst (vs.take k))) q1 = some (.lst (vs.take k)) := upd_same
  generalize upd H7 q1 (.lst (vs.take k)) = K1 at tq1 gq1 ⊢
  have n7 := tq1 _ _ (s7 _ _ n6)
  refine ⟨_, rfl, _, rfl, _, rfl, _, _, _, _, rfl, rfl, SqL.of n7, hatl, Nat.le_of_lt (small1000 (by simp)), fun q2 hq2 => ?_⟩
  have tq2 := same_upd0 hq2 (.tup [V.str yl])
  have gq2 : (upd K1 q2 (.tup [V.str yl])) q2 = some (.tup [V.str yl]) := upd_same
  generalize upd K1 q2 (.tup [V.str yl]) = K2 at tq2 gq2 ⊢
  have ho2 := tq2 _ _ (tq1 _ _ ho)
  have x5 : xs.length ≤ 5 := okx.2.1
  have xne : xs ≠ [] := okx.2.2.2
  refine ⟨o, q2, _, _, rfl, rfl, SqT.of ho2, SqT.of gq2, fun z => xne (List.map_eq_nil_iff.mp z), by simp only [List.length_map, List.length_singleton, hs]; omega, (fun z => by cases z), fun _ q3 hq3 => ?_⟩
  have tq3 := same_upd0 hq3 (.tup (xs.map V.str ++ [V.str yl]))
  have gq3 : (upd K2 q3 (.tup (xs.map V.str ++ [V.str yl]))) q3 = some (.tup ((xs ++ [yl]).map V.str)) := by rw [upd_same, List.map_append]; rfl
  generalize upd K2 q3 (.tup (xs.map V.str ++ [V.str yl])) = K3 at tq3 gq3 ⊢
  dsimp only [tNil]
  refine sort_setTT (K := K) (P := P) (w := w) (l := xs ++ [yl]) gq3 (by rw [List.length_append, List.length_singleton]; omega) fun q4 K4 ys sq4 hq4n hq4 tl => ?_
  refine ⟨_, rfl, q4, _, rfl, SqL.of hq4, fun q5 hq5 => ?_⟩
  rw [show (5 : Int) = ((5 : Nat) : Int) from rfl, cut_to', ← List.map_take]
  have tq5 := same_upd0 hq5 (.lst ((ys.take 5).map V.str))
  have gq5 : (upd K4 q5 (.lst ((ys.take 5).map V.str))) q5 = some (.lst ((ys.take 5).map V.str)) := upd_same
  generalize upd K4 q5 (.lst ((ys.take 5).map V.str)) = K5 at tq5 gq5 ⊢
  refine ⟨q5, _, rfl, .inl ⟨SqL.of gq5, fun q6 hq6 => ?_⟩⟩
  have tq6 := same_upd0 hq6 (.tup ((ys.take 5).map V.str))
  have gq6 : (upd K5 q6 (.tup ((ys.take 5).map V.str))) q6 = some (.tup ((ys.take 5).map V.str)) := upd_same
  generalize upd K5 q6 (.tup ((ys.take 5).map V.str)) = K6 at tq6 gq6 ⊢
  refine ⟨Nat.le_of_lt (small1000 (by simp)), fun q7 hq7 => ?_⟩
  have tq7 := same_upd0 hq7 (.lst [V.ref q6])
  have gq7 : (upd K6 q7 (.lst [V.ref q6])) q7 = some (.lst [V.ref q6]) := upd_same
  generalize upd K6 q7 (.lst [V.ref q6]) = K7 at tq7 gq7 ⊢
  have s17 := tq2.trans (tq3.trans (sq4.trans (tq5.trans (tq6.trans tq7))))
  refine ⟨q1, q7, _, _, rfl, rfl, s17 _ _ gq1, gq7, by simp only [List.length_take, List.length_singleton, hs]; omega, fun q8 hq8 => ?_⟩
  have tq8 := same_upd0 hq8 (.lst (vs.take k ++ [V.ref q6]))
  have gq8 : (upd K7 q8 (.lst (vs.take k ++ [V.ref q6]))) q8 = some (.lst (vs.take k ++ [V.ref q6])) := upd_same
  generalize upd K7 q8 (.lst (vs.take k ++ [V.ref q6])) = K8 at tq8 gq8 ⊢
  have s68 := s7.trans (tq1.trans (s17.trans tq8))
  refine ⟨_, rfl, _, rfl, _, _, rfl, rfl, _, rfl, b, vs, rfl, SqL.of (s68 _ _ hb6), fun q9 hq9 => ?_⟩
  rw [show ((k : Int) + 1) = ((k + 1 : Nat) : Int) from rfl, cut_from (by omega)]
  have tq9 := same_upd0 hq9 (.lst (vs.drop (k + 1)))
  have gq9 : (upd K8 q9 (.lst (vs.drop (k + 1)))) q9 = some (.lst (vs.drop (k + 1))) := upd_same
  generalize upd K8 q9 (.lst (vs.drop (k + 1))) = K9 at tq9 gq9 ⊢
  refine ⟨q8, q9, _, _, rfl, rfl, tq9 _ _ gq8, gq9, by simp only [List.length_append, List.length_take, List.length_drop, List.length_singleton, hs]; omega, fun f hf => ?_⟩
  have s69 := s68.trans tq9
  have hfn : H f = none := none_back sm6 (fun x hx => by rw [List.mem_singleton.mp hx]; exact hw6.some) (s69.free hf)
  have t10 := same_upd0 hf (.lst (vs.take k ++ [V.ref q6] ++ vs.drop (k + 1)))
  have s610 := s69.trans t10
  have gq6' := t10 _ _ (tq9 _ _ (tq8 _ _ (tq7 _ _ gq6)))
  refine q f _ _ (p.take k ++ [.t (ys.take 5)] ++ p.drop (k + 1)) (sm6.trans (Sm.of_same s610)) ((hw6.keep fun o e => s610 _ _ e).mono (by omega)) hfn upd_same ((((ha.keep (Kp.of s610)).take k).app (.cons (.t gq6') .nil)).app ((ha.keep (Kp.of s610)).drop (k + 1))) (by simp only [List.length_append, List.length_take, List.length_drop, List.length_singleton]; omega) (fun z hz => ?_)
  rcases List.mem_append.mp hz with h | h
  · rcases List.mem_append.mp h with h | h
    · exact hok z (List.mem_of_mem_take h)
    · rw [List.mem_singleton.mp h]
      have hsub : (ys.take 5).Sublist ys := List.take_sublist 5 ys
      refine ok_t (hsub.nodup tl.nd) (pw_sorted ((sorted_pw tl.so).sublist hsub)) (fun x hx => ?_) (by rw [List.length_take]; omega) (fun e => ?_)
      · rcases List.mem_append.mp ((tl.mem x).mp (hsub.subset hx)) with h | h
        · exact okx.1 x h
        · rw [List.mem_singleton.mp h]; exact hN.ok _ hyl
      · have : yl ∈ ys := (tl.mem yl).mpr (by simp)
        cases ys with
        | nil => cases this
        | cons _ _ => simp at e
  · exact hok z (List.mem_of_mem_drop h)
end K09


set_option Elab.async false
set_option linter.all false
set_option maxRecDepth 100000
set_option maxHeartbeats 1000000
namespace K09
open PySem PySem.Spec PyProof.Rows L2 FA
variable {P : Program} {w : World} {K : PySem.W.Frag} {mg : Str → Option Value} {base : Heap}
theorem okPs.data {ps : List Prd} (h : ∀ p ∈ ps, okPd p) : SeqAt.shaped (dPds ps) = true := prds_shaped fun p hp a ha => ((h p hp).2 a ha).1
theorem kp_less {a f : Addr} {H : Hp} : Kp (wo [a, f] H) (wo [a] H) := by
  have key : ∀ b u, wo [a, f] H b = some u → wo [a] H b = some u := fun b u e => by
    obtain ⟨h1, h2⟩ := wo_some.mp e
    exact wo_some.mpr ⟨by simp at h1 ⊢; exact h1.1, h2⟩
  exact ⟨fun b xs e => key _ _ e, fun b xs e => key _ _ e⟩
theorem kp_two {a f : Addr} {H H' : Hp} (s : ∀ b o, b ∉ [a, f] → H b = some o → H' b = some o) : Kp (wo [a, f] H) (wo [a, f] H') := by
  have key : ∀ b u, wo [a, f] H b = some u → wo [a, f] H' b = some u := fun b u e => by
    obtain ⟨h1, h2⟩ := wo_some.mp e
    exact wo_some.mpr ⟨h1, s _ _ h1 h2⟩
  exact ⟨fun b xs e => key _ _ e, fun b xs e => key _ _ e⟩
/-- a product that was made stands beside the pouch and the list -/
theorem pd_two {a f r : Addr} {H : Hp} {n : Nat} {vs vp : List V} {p : Prd} (hw : WellAt H a n) (hf : H f = some (.lst vp)) (ra : r ≠ a) (rf : r ≠ f) (hr : H r = some (.lst vs)) (hp : AtsAt H vs p) : PdAt (wo [a, f] H) r p := by
  obtain ⟨x, y, z, ha, _⟩ := hw
  refine ⟨vs, wo_some.mpr ⟨by simp [ra, rf], hr⟩, hp.keepT fun t xs h => wo_some.mpr ⟨?_, h⟩⟩
  simp only [List.mem_cons, List.not_mem_nil, or_false, not_or]
  constructor
  · rintro rfl
    rw [ha] at h
    cases h
  · rintro rfl
    rw [hf] at h
    cases h
def spLProducts : Sp := fun vs H Q _ => ∃ (a nl : Addr) (ns : List Str) (many most n : Nat), vs = [.ref a, .ref nl, .int (many : Int), .int (most : Int)] ∧ H nl = some (.lst (ns.map V.str)) ∧ nl ≠ a ∧ Nm ns ∧ many ≤ 12 ∧ 3 ≤ many ∧ most ≤ 12 ∧ WellAt H a n ∧ n + 20000 ≤ 2 ^ 80 ∧
  ∀ r H' vp ps, Sm [a] H H' → WellAt H' a (n + 20000) → H r = none → H' r = some (.lst vp) → PdsAt (wo [a] H') vp ps → ps.length ≤ many → (∀ p ∈ ps, okPd p ∧ p.length ≤ most) → Q (.ref r) H'
theorem okLProducts (T : Txt K mg) : FnOk P w K mg base CX0 3 T.aLProducts T.fLProducts ["pouch", "names", "many", "most"] spLProducts := by
  have GLPick : FnOk P w K mg base CX0 1 T.aLPick T.fLPick ["pouch", "size"] spPick := okPick T
  have GLBent : FnOk P w K mg base CX0 2 T.aLBent T.fLBent ["pouch", "names", "whole", "most"] spLBent := okLBent T
  have GLProduct : FnOk P w K mg base CX0 2 T.aLProduct T.fLProduct ["pouch", "names", "most"] spLProduct := okLProduct T
  refine T.FLProducts.ok scLProducts (fun vs H Q E h => ?_) (fun cdv A outer s H vs Q E hr h => ?_)
  · obtain ⟨a, nl, ns, many, most, n, rfl, _⟩ := h
    rfl
  obtain ⟨a, nl, ns, many, most, n, rfl, hnl, nla, hN, m12, m3, m12', hw, hn, q⟩ := h
  have hu := hu_of hr
  refine ⟨_, (pss_cons (ps_set (i := 4) scLProducts.nd rfl (by first | exact Or.inl rfl | exact Or.inr rfl) (pe_lst pa_nil))
      (pss_cons (ps_for PassesOwn.never rfl (pi_range1 (by rfl) T.n_range (pa_cons (pe_ix ix_list (pe_lst (pa_cons (pe_call GLPick (hr.mono (by omega)) rfl T.gLPick T.FLPick.kp T.bLPick .nil pass0 (pa_cons (pv 0) (pa_cons pe_int pa_nil))) (pa_cons (pe_call GLPick (hr.mono (by omega)) rfl T.gLPick T.FLPick.kp T.bLPick .nil pass0 (pa_cons (pv 0) (pa_cons (pe_op op_add (pv 2) pe_int) pa_nil))) pa_nil))) (pe_call GLPick (hr.mono (by omega)) rfl T.gLPick T.FLPick.kp T.bLPick .nil pass0 (pa_cons (pv 0) (pa_cons pe_int pa_nil))) (fun _ _ => rfl)) pa_nil)) (pg_name (i := 5) scLProducts.nd rfl (by first | exact Or.inl rfl | exact Or.inr rfl))
        (pss_one (ps_if (PW.pt (pw_and (pt_cmpR (op_neD hr.units) (pv 4) (pe_lst pa_nil) (nomark _)) (pw_and1 (pt_cmpR op_gt (pe_call GLPick (hr.mono (by omega)) rfl T.gLPick T.FLPick.kp T.bLPick .nil pass0 (pa_cons (pv 0) (pa_cons pe_int pa_nil))) pe_int (nomark _)))))
          (pss_one (ps_expr (pe_bm PySem.F.plainAttrs_list PySem.F.slot_list_append PySem.F.type_list_append mt_append (pv 4) (pa_cons (pe_call GLBent (hr.mono (by omega)) rfl T.gLBent T.FLBent.kp T.bLBent .nil pass0 (pa_cons (pv 0) (pa_cons (pv 1) (pa_cons (pe_ix ix_list (pv 4) (pe_call GLPick (hr.mono (by omega)) rfl T.gLPick T.FLPick.kp T.bLPick .nil pass0 (pa_cons (pv 0) (pa_cons (pe_callB call_len_seq (by rfl) T.n_len PySem.boot_len (pa_cons (pv 4) pa_nil)) pa_nil))) (fun _ _ => rfl)) (pa_cons (pv 3) pa_nil))))) pa_nil)))) (pss_one (ps_expr (pe_bm PySem.F.plainAttrs_list PySem.F.slot_list_append PySem.F.type_list_append mt_append (pv 4) (pa_cons (pe_call GLProduct (hr.mono (by omega)) rfl T.gLProduct T.FLProduct.kp T.bLProduct .nil pass0 (pa_cons (pv 0) (pa_cons (pv 1) (pa_cons (pv 3) pa_nil)))) pa_nil)))))))
      (pss_one (ps_ret (pv 4))))), ?_⟩
  have hs := sizeLine_eq
  obtain ⟨ow, how⟩ := hw.some
  refine ⟨Nat.zero_le _, fun f hf => ?_⟩
  have hfa : f ≠ a := (ne_of_none how hf).symm
  have s1 := same_upd0 hf (.lst [])
  have e1 : (upd H f (.lst [])) f = some (.lst []) := upd_same
  generalize upd H f (.lst []) = H1 at s1 e1 ⊢
  refine ⟨_, rfl, a, 4, n, rfl, by omega, by omega, hw.keep fun o e => s1 _ _ e, by omega, fun x1 H2 x10 x11 s2 hw2 => ?_⟩
  refine ⟨_, rfl, _, rfl, _, _, rfl, rfl, a, _, n + 1, rfl, by omega, by omega, hw2, by omega, fun x2 H3 x20 x21 s3 hw3 => ?_⟩
  refine ⟨Nat.le_of_lt (small1000 (by simp)), fun L1 hL1 => ?_⟩
  have t4 := same_upd0 hL1 (.lst [V.int x1, V.int x2])
  have g4 : (upd H3 L1 (.lst [V.int x1, V.int x2])) L1 = some (.lst [V.int x1, V.int x2]) := upd_same
  generalize upd H3 L1 (.lst [V.int x1, V.int x2]) = H4 at t4 g4 ⊢
  have l1a : L1 ≠ a := (ne_of_none hw3.some.choose_spec hL1).symm
  refine ⟨_, rfl, a, 2, n + 2, rfl, by omega, by omega, hw3.keep fun o e => t4 _ _ e, by omega, fun y0 H5 y00 y01 s5 hw5 => ?_⟩
  obtain ⟨kk, hkk, kk0, kkm⟩ : ∃ kk : Int, ([V.int x1, V.int x2] : List V)[y0.toNat]? = some (.int kk) ∧ 0 ≤ kk ∧ kk ≤ many := by
    rcases (by omega : y0.toNat = 0 ∨ y0.toNat = 1) with z | z <;> rw [z]
    · exact ⟨x1, rfl, x10, by omega⟩
    · exact ⟨x2, rfl, x20, by omega⟩
  have hat := atI_nat (xs := [V.int x1, V.int x2]) (j := y0.toNat) hkk
  rw [Int.toNat_of_nonneg y00] at hat
  refine ⟨_, _, _, _, rfl, rfl, SqL.of (s5 _ _ (by simpa using l1a) g4), hat, kk, rfl, by omega, by omega, ?_⟩
  have sm5 : Sm [a] H H5 := (((Sm.of_same s1).trans s2).trans s3).trans ((Sm.of_same t4).trans s5)
  have f5 : H5 f = some (.lst []) := s5 _ _ (by simpa using hfa) (t4 _ _ (s3 _ _ (by simpa using hfa) (s2 _ _ (by simpa using hfa) e1)))
  refine for_range (lo := 0) (n := kk.toNat) (fun k σ H' => ∃ (v5 : Option V) (vp : List V) (ps : List Prd), σ = [some (.ref a), some (.ref nl), some (.int (many : Int)), some (.int (most : Int)), some (.ref f), v5] ∧ Sm [a] H H' ∧ WellAt H' a (n + 3 + k * 1010) ∧ H' f = some (.lst vp) ∧ PdsAt (wo [a, f] H') vp ps ∧ ps.length ≤ k ∧ ∀ p ∈ ps, okPd p ∧ p.length ≤ most) ⟨none, [], [], rfl, sm5, hw5.mono (by omega), f5, .nil, by simp, fun _ z => by cases z⟩ ?_ ?_
  · rintro k σ H6 hk ⟨v5, vp, ps, rfl, sm6, hw6, f6, hp6, pl, ok6⟩
    have vl := hp6.length
    have n6 := sm6 _ _ (by simpa using nla) hnl
    have fin : ∀ (H' : Hp) (v5 : Option V) (r : Addr) (vs : List V) (p : Prd), Sm [a] H6 H' → WellAt H' a (n + 3 + k * 1010 + 1010) → H6 r = none → H' r = some (.lst vs) → AtsAt H' vs p → okPd p → p.length ≤ most → ∃ (v5' : Option V) (vp' : List V) (ps' : List Prd), [some (V.ref a), some (V.ref nl), some (V.int (many : Int)), some (V.int (most : Int)), some (V.ref f), v5] = [some (.ref a), some (.ref nl), some (.int (many : Int)), some (.int (most : Int)), some (.ref f), v5'] ∧ Sm [a] H (upd H' f (.lst (vp ++ [V.ref r]))) ∧ WellAt (upd H' f (.lst (vp ++ [V.ref r]))) a (n + 3 + (k + 1) * 1010) ∧ (upd H' f (.lst (vp ++ [V.ref r]))) f = some (.lst vp') ∧ PdsAt (wo [a, f] (upd H' f (.lst (vp ++ [V.ref r])))) vp' ps' ∧ ps'.length ≤ k + 1 ∧ ∀ p ∈ ps', okPd p ∧ p.length ≤ most := fun H' v5 r vs p sm' hw' hrn hr hat hok hle => by
      have hf' := sm' _ _ (by simpa using hfa) f6
      have rf : r ≠ f := (ne_of_none f6 hrn).symm
      have ra : r ≠ a := (ne_of_none hw6.some.choose_spec hrn).symm
      have hpd := pd_two hw' hf' ra rf hr hat
      refine ⟨_, _, ps ++ [p], rfl, fun b o hb e => ?_, (hw'.keep fun o e => by rw [upd_ne hfa.symm]; exact e).mono (by omega), upd_same, ?_, by rw [List.length_append, List.length_singleton]; omega, fun d hd => ?_⟩
      · rw [upd_ne (ne_of_none e hf)]
        exact sm' _ _ hb (sm6 _ _ hb e)
      · have h1 : PdsAt (wo [a, f] H') (vp ++ [.ref r]) (ps ++ [p]) := PdsAt.snoc hpd (hp6.keep (kp_two fun b o hb e => sm' b o (by simp at hb ⊢; exact hb.1) e))
        exact h1.keep (kp_two fun b o hb e => by rw [upd_ne (by rintro rfl; simp at hb)]; exact e)
      · rcases List.mem_append.mp hd with h | h
        · exact ok6 d h
        · rw [List.mem_singleton.mp h]; exact ⟨hok, hle⟩
    refine ⟨_, rfl, Nat.zero_le _, fun z hz => ?_⟩
    have t7 := same_upd0 hz (.lst [])
    have g7 : (upd H6 z (.lst [])) z = some (.lst []) := upd_same
    generalize upd H6 z (.lst []) = H7 at t7 g7 ⊢
    have f7 := t7 _ _ f6
    have n7 := t7 _ _ n6
    have hw7 := hw6.keep fun o e => t7 _ _ e
    have hp7 : PdsAt H7 vp ps := (hp6.keep kp_off).keep (Kp.of t7)
    have s67 : Sm [a] H6 H7 := Sm.of_same t7
    refine ⟨dPds ps, .list [], .lst (SqL.of f7) hp7.dp', .lst (SqL.of g7) .nil, okPs.data fun p hp => (ok6 p hp).1, rfl, _, rfl, ?_⟩
    unfold dPds
    rw [eqv_none, List.isEmpty_map]
    cases hps : ps with
    | nil =>
      refine iteF (iteF ?_)
      refine ⟨_, rfl, .inl ⟨rfl, _, SqL.of f7⟩, _, rfl, _, rfl, _, rfl, a, nl, ns, most, _, rfl, n7, nla, hN, m12', hw7, by omega, fun r H10 vs p' s10 hw10 hrn hr10 hat10 hle hok => ?_⟩
      refine ⟨f, _, .ref r, rfl, rfl, s10 _ _ (by simpa using hfa) f7, by rw [hs]; omega, ?_⟩
      exact fin H10 _ r vs p' (s67.trans s10) (hw10.mono (by omega)) (none_back s67 (fun x hx => by rw [List.mem_singleton.mp hx]; exact hw7.some) hrn) hr10 hat10 ⟨by omega, hok⟩ hle
    | cons p0 pr =>
      have pl1 : 1 ≤ vp.length := by rw [vl, hps]; simp
      refine iteT ?_
      refine ⟨_, rfl, a, 3, _, rfl, by omega, by omega, hw7, by omega, fun g H8 g0 g1 s8 hw8 => ⟨_, _, rfl, rfl, _, rfl, ite2 (fun _ => ?_) (fun _ => ?_)⟩⟩
      · have f8 := s8 _ _ (by simpa using hfa) f7
        have n8 := s8 _ _ (by simpa using nla) n7
        refine ⟨_, rfl, .inl ⟨rfl, _, SqL.of f8⟩, _, rfl, _, rfl, _, rfl, _, rfl, _, rfl, f, _, rfl, .inl (SqL.of f8), a, _, _, rfl, by omega, by omega, hw8, by omega, fun r0 H9 r00 r01 s9 hw9 => ?_⟩
        have f9 := s9 _ _ (by simpa using hfa) f8
        have hlt : r0.toNat < vp.length := by omega
        obtain ⟨v, hv⟩ : ∃ v, vp[r0.toNat]? = some v := ⟨_, List.getElem?_eq_getElem hlt⟩
        have s69 : Sm [a] H6 H9 := (s67.trans s8).trans s9
        have hp9 : PdsAt (wo [a] H9) vp ps := (hp6.keep kp_less).keep (Kp.of s69.same)
        obtain ⟨b, p, rfl, ep, hpd⟩ := hp9.get hv
        have okp := ok6 p (List.mem_of_getElem? ep)
        have hat := atI_nat (xs := vp) (j := r0.toNat) hv
        rw [Int.toNat_of_nonneg r00] at hat
        refine ⟨_, _, _, _, rfl, rfl, SqL.of f9, hat, _, rfl, a, nl, b, ns, p, most, _, rfl, s9 _ _ (by simpa using nla) n8, nla, hN, hpd, okp.2, okp.1.2, m12', hw9, by omega, fun r H10 vs p' s10 hw10 hrn hr10 hat10 hle hok => ?_⟩
        refine ⟨f, _, .ref r, rfl, rfl, s10 _ _ (by simpa using hfa) f9, by rw [hs]; omega, ?_⟩
        exact fin H10 _ r vs p' (s69.trans s10) (hw10.mono (by omega)) (none_back s69 (fun x hx => by rw [List.mem_singleton.mp hx]; exact hw9.some) hrn) hr10 hat10 ⟨by omega, hok⟩ hle
      · have f8 := s8 _ _ (by simpa using hfa) f7
        have n8 := s8 _ _ (by simpa using nla) n7
        have s68 := s67.trans s8
        refine ⟨_, rfl, .inl ⟨rfl, _, SqL.of f8⟩, _, rfl, _, rfl, _, rfl, a, nl, ns, most, _, rfl, n8, nla, hN, m12', hw8, by omega, fun r H10 vs p' s10 hw10 hrn hr10 hat10 hle hok => ?_⟩
        refine ⟨f, _, .ref r, rfl, rfl, s10 _ _ (by simpa using hfa) f8, by rw [hs]; omega, ?_⟩
        exact fin H10 _ r vs p' (s68.trans s10) (hw10.mono (by omega)) (none_back s68 (fun x hx => by rw [List.mem_singleton.mp hx]; exact hw8.some) hrn) hr10 hat10 ⟨by omega, hok⟩ hle
  · rintro σ H6 ⟨v5, vp, ps, rfl, sm6, hw6, f6, hp6, pl, ok6⟩
    exact ⟨_, rfl, q f H6 vp ps sm6 (hw6.mono (by omega)) hf f6 (hp6.keep kp_less) (by omega) ok6⟩
end K09


set_option Elab.async false
set_option linter.all false
set_option maxRecDepth 100000
set_option maxHeartbeats 1000000
namespace K09
open PySem PySem.Spec PyProof.Rows L2 FA
variable {P : Program} {w : World} {K : PySem.W.Frag} {mg : Str → Option Value} {base : Heap}
def spLAllIn : Sp := fun vs H Q _ => ∃ (b pb : Addr) (p : Prd) (vp : List V) (ps : List Prd), vs = [.ref b, .ref pb] ∧ PdAt H b p ∧ H pb = some (.lst vp) ∧ PdsAt H vp ps ∧ (∀ a ∈ p, a.nms.length ≤ 5 ∧ full a) ∧ p.length ≤ 12 ∧ (∀ q ∈ ps, q.length ≤ 12 ∧ ∀ a ∈ q, ∀ x ∈ a.nms, FA.okName x) ∧ ps.length ≤ 40 ∧ ∀ H' c, Same H H' → (c = true ↔ prdIn ps p = true) → Q (.bl c) H'
theorem okLAllIn (T : Txt K mg) : FnOk P w K mg base CX0 2 T.aLAllIn T.fLAllIn ["product", "products"] spLAllIn := by
  have GLLongest : FnOk P w K mg base CX0 1 T.aLLongest T.fLLongest ["product", "times"] spLongest := okLongest T
  have GLInProduct : FnOk P w K mg base CX0 1 T.aLInProduct T.fLInProduct ["product", "word"] spLInProduct := okLInProduct T
  refine T.FLAllIn.ok scLAllIn (fun vs H Q E h => ?_) (fun cdv A outer s H vs Q E hr h => ?_)
  · obtain ⟨b, pb, p, vp, ps, rfl, _⟩ := h
    rfl
  obtain ⟨b, pb, p, vp, ps, rfl, hp, hpb, hps, hpa, pl5, hpn, psl, q⟩ := h
  have hu := hu_of hr
  refine ⟨_, (pss_cons (ps_set (i := 2) scLAllIn.nd rfl (by first | exact Or.inl rfl | exact Or.inr rfl) (pe_call GLLongest (hr.mono (by omega)) rfl T.gLLongest T.FLLongest.kp T.bLLongest .nil pass0 (pa_cons (pv 0) (pa_cons (pe_op op_add pe_int (pe_callB (cr_max rfl) (by rfl) T.n_max (by decide +kernel) (pa_cons (pe_op op_cat (pe_lst (pa_cons pe_int pa_nil)) (pe_lc (own := [("other", 3)]) (g := gName 3) (tt := tYes) rfl scLAllIn.nd (pi_list (pv 1)) (blkOk_by (N := ["product", "products", "word", "other"]) (sc := defScope sLAllIn) (by decide +kernel)) (fun _ _ _ _ _ => (pg_name (i := 3) scLAllIn.nd rfl (by first | exact Or.inl rfl | exact Or.inr rfl))) (fun _ _ _ _ _ => pts_nil) (fun _ _ _ _ _ => (pe_callB (call_len_seqK (K := K) rfl) (by rfl) T.n_len PySem.boot_len (pa_cons (pv 3) pa_nil))))) pa_nil))) pa_nil))))
      (pss_one (ps_ret (pe_cmpR (op_neD hr.units) (pe_lc (own := [("other", 3)]) (g := gName 3) rfl scLAllIn.nd (pi_list (pv 1)) (blkOk_by (N := ["product", "products", "word", "other"]) (sc := defScope sLAllIn) (by decide +kernel)) (fun _ _ _ _ _ => (pg_name (i := 3) scLAllIn.nd rfl (by first | exact Or.inl rfl | exact Or.inr rfl))) (fun _ _ _ _ _ => (pts_one (pt_val (pe_call GLInProduct (hr.mono (by omega)) rfl T.gLInProduct T.FLInProduct.kp T.bLInProduct .nil pass0 (pa_cons (pv 3) (pa_cons (pv 2) pa_nil)))))) (fun _ _ _ _ _ => (pv 3))) (pe_lst pa_nil) (nomark _))))), ?_⟩
  have hs := sizeLine_eq
  have vl := hps.length
  refine ⟨_, rfl, Nat.le_of_lt (small1000 (by simp)), fun p1 h1 => ?_⟩
  have t1 := same_upd0 h1 (.lst [V.int 0])
  have g1 : (upd H p1 (.lst [V.int 0])) p1 = some (.lst [V.int 0]) := upd_same
  generalize upd H p1 (.lst [V.int 0]) = H1 at t1 g1 ⊢
  have hpb1 := t1 _ _ hpb
  have hps1 := hps.keep (Kp.of t1)
  refine ⟨_, rfl, pb, rfl, ⟨_, SqL.of hpb1⟩, fun D hD => ?_⟩
  refine lc_list (K := K) (a := pb) (xs := vp) (fun i H' => Same H1 H' ∧ H' D = some (.lst ((ps.take i).map fun q => V.int (q.length : Nat)))) ?_ ?_ ?_ ?_
  · exact ⟨same_upd0 hD _, by rw [upd_same]; rfl⟩
  · rintro i H2 _ ⟨s2, _⟩
    exact SqL.of (s2 _ _ hpb1)
  · rintro i v H2 hi ⟨s2, h2⟩
    obtain ⟨qb, qq, rfl, e1, vq, e2, e3⟩ := hps1.get hi
    have il : i < ps.length := (List.getElem?_eq_some_iff.mp e1).1
    refine ⟨rfl, yesT (iteT ?_)⟩
    refine ⟨_, rfl, qb, _, rfl, .inl (SqL.of (s2 _ _ e2)), _, h2, by rw [List.length_map, List.length_take, hs]; omega, ?_, ?_⟩
    · intro c o e
      rw [upd_ne (ne_of_none e hD)]
      exact s2 _ _ e
    · rw [upd_same, List.take_add_one, e1, List.map_append, e3.length]
      rfl
  rintro H2 ⟨s2, h2⟩
  rw [vl, List.take_length] at h2
  refine ⟨p1, D, _, _, rfl, rfl, s2 _ _ g1, h2, by rw [List.length_map, List.length_singleton, hs]; omega, fun p3 h3 => ?_⟩
  have e3 : [V.int 0] ++ ps.map (fun q => V.int (q.length : Nat)) = (0 :: ps.map fun q => ((q.length : Nat) : Int)).map V.int := by simp
  rw [e3]
  have t3 := same_upd0 h3 (.lst ((0 :: ps.map fun q => ((q.length : Nat) : Int)).map V.int))
  have g3 : (upd H2 p3 (.lst ((0 :: ps.map fun q => ((q.length : Nat) : Int)).map V.int))) p3 = some (.lst ((0 :: ps.map fun q => ((q.length : Nat) : Int)).map V.int)) := upd_same
  generalize upd H2 p3 (.lst ((0 :: ps.map fun q => ((q.length : Nat) : Int)).map V.int)) = H3 at t3 g3 ⊢
  refine ⟨p3, _, rfl, SqL.of g3, by simp, fun m hm hle => ?_⟩
  obtain ⟨k, rfl, k5⟩ : ∃ k : Nat, m = (k : Int) ∧ k ≤ 12 := by
    rcases List.mem_cons.mp hm with rfl | h
    · exact ⟨0, rfl, by omega⟩
    · obtain ⟨r, hr, rfl⟩ := List.mem_map.mp h
      exact ⟨r.length, rfl, (hpn r hr).1⟩
  have hkle : ∀ r ∈ ps, r.length ≤ k := fun r hr => by
    have := hle _ (List.mem_cons_of_mem _ (List.mem_map.mpr ⟨r, hr, rfl⟩))
    omega
  have s3 : Same H H3 := t1.trans (s2.trans t3)
  refine ⟨_, _, rfl, rfl, ?_⟩
  refine ⟨b, p, 2 + k, congrArg (fun z => [V.ref b, V.int z]) (by omega : (2 : Int) + (k : Int) = ((2 + k : Nat) : Int)), hp.keep (Kp.of s3), fun a ha => (hpa a ha).1, by omega, by omega, fun r H4 s4 hrn hr4 => ?_⟩
  have hlong := prdIn_long (ps := ps) (p := p) (fun a ha => (hpa a ha).2) (t := 2 + k) fun r hr => by have := hkle r hr; omega
  have hll := long_len (t := 2 + k) (by omega) (p := p) fun a ha => (hpa a ha).1
  generalize long (2 + k) p = u at hlong hll hr4
  have s34 := s3.trans s4
  have hpb4 := s34 _ _ hpb
  have hps4 := hps.keep (Kp.of s34)
  refine ⟨_, rfl, pb, rfl, ⟨_, SqL.of hpb4⟩, fun D2 hD2 => ?_⟩
  refine lc_list (K := K) (a := pb) (xs := vp) (fun i H' => ∃ (acc : List V) (qs : List Prd), Same H4 H' ∧ H' D2 = some (.lst acc) ∧ PdsAt H4 acc qs ∧ acc.length ≤ i ∧ (∀ q ∈ qs, q ∈ ps) ∧ (qs = [] ↔ ∀ q ∈ ps.take i, ¬ LP q u)) ?_ ?_ ?_ ?_
  · exact ⟨[], [], same_upd0 hD2 _, upd_same, .nil, by simp, fun _ z => (by cases z), by simp⟩
  · rintro i H5 _ ⟨_, _, s5, _⟩
    exact SqL.of (s5 _ _ hpb4)
  · rintro i v H5 hi ⟨acc, qs, s5, h5, hacc, al, hsub, hem⟩
    obtain ⟨qb, qq, rfl, e1, e2⟩ := hps4.get hi
    have qm : qq ∈ ps := List.mem_of_getElem? e1
    have il : i < ps.length := (List.getElem?_eq_some_iff.mp e1).1
    refine ⟨rfl, ?_⟩
    refine ⟨_, rfl, _, rfl, qb, r, qq, u, rfl, e2.keep (Kp.of s5), s5 _ _ hr4, by omega, fun H6 c s6 hc => ?_⟩
    have s56 := s5.trans s6
    refine ⟨_, rfl, ?_⟩
    cases c with
    | true =>
      have hl := hc.mp rfl
      refine iteT ⟨_, rfl, acc, s6 _ _ h5, by rw [hs]; omega, acc ++ [.ref qb], qs ++ [qq], fun c o e => ?_, upd_same, hacc.snoc e2, by rw [List.length_append, List.length_singleton]; omega, fun z hz => ?_, ?_⟩
      · rw [upd_ne (ne_of_none e hD2)]
        exact s56 _ _ e
      · rcases List.mem_append.mp hz with h | h
        · exact hsub z h
        · rw [List.mem_singleton.mp h]; exact qm
      · rw [List.take_add_one, e1]
        constructor
        · intro z
          simp at z
        · intro z
          exact absurd hl (z qq (by simp))
    | false =>
      have hl : ¬ LP qq u := fun z => by cases hc.mpr z
      refine iteF ⟨acc, qs, s56, s6 _ _ h5, hacc, by omega, hsub, hem.trans ?_⟩
      rw [List.take_add_one, e1]
      constructor
      · intro z q hq
        rcases List.mem_append.mp hq with h | h
        · exact z q h
        · have h : q = qq := by simpa using h
          rw [h]; exact hl
      · exact fun z q hq => z q (List.mem_append_left _ hq)
  rintro H5 ⟨acc, qs, s5, h5, hacc, al, hsub, hem⟩
  rw [vl, List.take_length] at hem
  refine ⟨Nat.zero_le _, fun p6 h6 => ?_⟩
  have t6 := same_upd0 h6 (.lst [])
  have s6 := s5.trans t6
  refine ⟨dPds qs, .list [], .lst (SqL.of (t6 _ _ h5)) (hacc.keep (Kp.of s6)).dp', .lst (SqL.of upd_same) .nil, prds_shaped fun p hp => (hpn p (hsub p hp)).2, rfl, q _ _ (s34.trans s6) ?_⟩
  unfold dPds
  rw [eqv_none, List.isEmpty_map, hlong]
  cases qs with
  | nil =>
    have := hem.mp rfl
    constructor
    · intro z; cases z
    · rintro ⟨x, hx, h⟩
      exact absurd h (this x hx)
  | cons z r =>
    refine ⟨fun _ => ?_, fun _ => rfl⟩
    apply Classical.byContradiction
    intro hno
    have := hem.mpr fun x hx h => hno ⟨x, hx, h⟩
    cases this
end K09


set_option Elab.async false
set_option linter.all false
set_option maxRecDepth 100000
set_option maxHeartbeats 1000000
namespace K09
open PySem PySem.Spec PyProof.Rows L2 FA
variable {P : Program} {w : World} {K : PySem.W.Frag} {mg : Str → Option Value} {base : Heap}
def spLText : Sp := fun vs H Q _ => ∃ (b : Addr) (p : Prd), vs = [.ref b] ∧ PdAt H b p ∧ nmPrd p ∧ p.length ≤ 100 ∧ ∀ H', Same H H' → Q (.str (prdText p)) H'
theorem okLText (T : Txt K mg) : FnOk P w K mg base CX0 1 T.aLText T.fLText ["product"] spLText := by
  refine T.FLText.ok scLText (fun vs H Q E h => ?_) (fun cdv A outer s H vs Q E hr h => ?_)
  · obtain ⟨b, p, rfl, _⟩ := h
    rfl
  obtain ⟨b, p, rfl, ⟨vp, hb, hp⟩, np, lp, q⟩ := h
  have hu := hu_of hr
  refine ⟨_, (pss_cons (ps_setLc (i := 1) (own := [("atom", 2)]) (g := gName 2) (tt := tYes) rfl scLText.nd rfl rfl (sw_true rfl rfl rfl (by decide +kernel)) (pi_list (pv 0)) (blkOk_by (N := ["product", "words", "atom"]) (sc := defScope sLText) (by decide +kernel)) (fun _ _ _ _ _ => (pg_name (i := 2) scLText.nd rfl (by first | exact Or.inl rfl | exact Or.inr rfl))) (fun _ _ _ _ _ => pts_nil) (fun _ _ _ _ _ => (pe_ifExp (pt_val (pe_callB (call_isiK1 (K := K) rfl) (by rfl) T.n_isinstance (by decide +kernel) (pa_cons (pv 2) (pa_cons (pe_bltn (v := .ty "str") (by rfl) T.n_str (by decide +kernel) rfl) pa_nil)))) (pv 2) (pe_op op_add_str (pe_op op_add_str pe_str (pe_joinK (K := K) rfl pe_str (pv 2))) pe_str))))
      (pss_one (ps_ret (pe_ifExp (pt_cmpR (op_neD hr.units) (pv 1) (pe_lst pa_nil) (nomark _)) (pe_join pe_str (pv 1)) pe_str)))), ?_⟩
  have pl := hp.length
  have e1 : (" " : Str).length = 1 := rfl
  refine ⟨_, rfl, b, rfl, ⟨_, SqL.of hb⟩, fun D hD => lcS (n := vp.length) hD (small1000 (by omega)) _ (fun j v _ => ∃ a, p[j]? = some a ∧ v = .str (atomText a)) (go_l (SqL.of hb)) (stop_l (SqL.of hb)) (yld_l (SqL.of hb)) (fun _ _ _ _ _ h => h) ?_ ?_⟩
  · intro j y H2 R hj hy s2 kk
    obtain ⟨a, ea, ha⟩ := hp.get hy
    have na := np a (List.mem_of_getElem? ea)
    have kk' := kk (.str (atomText a)) H2 (Same.refl _) ⟨a, ea, rfl⟩
    rcases (ha.keep (Kp.of s2)).two with ⟨x, rfl, rfl⟩ | ⟨t, xs, rfl, rfl, ht⟩
    · exact ⟨rfl, _, rfl, _, _, _, _, true, rfl, .ty _, ty_str x, kit_ty (by decide +kernel), _, rfl, iteT ⟨_, rfl, kk'⟩⟩
    · have h1 := join_len " " xs
      have h2 := sum_len (l := xs) (m := 8) fun x hx => (na.1 x hx).le
      have h3 : xs.length ≤ 5 := na.2
      have e2 : ("{" : Str).length = 1 := rfl
      have e3 : ("}" : Str).length = 1 := rfl
      rw [e1, Nat.mul_one] at h1
      have hs := sizeLine_eq
      refine ⟨rfl, _, rfl, _, _, _, _, false, rfl, .ty _, ty_tup ht, kit_ty (by decide +kernel), _, rfl, iteF ?_⟩
      refine ⟨⟨_, rfl⟩, _, rfl, _, t, xs, rfl, rfl, .inr (SqT.of ht), by rw [e1]; omega, _, _, rfl, rfl, by rw [e2]; omega, _, _, rfl, rfl, ?_, kk'⟩
      rw [str_len_app, e2, e3]
      omega
  · intro H2 ws s2 hws hwl hg
    have ew : ws = (p.map atomText).map V.str := by
      rw [List.map_map]
      exact ext_map (by omega) hg
    rw [ew] at hws
    refine ⟨_, rfl, Nat.zero_le _, fun z hz => ?_⟩
    have t3 := same_upd0 hz (.lst [])
    have g3 : (upd H2 z (.lst [])) z = some (.lst []) := upd_same
    generalize upd H2 z (.lst []) = H3 at t3 g3 ⊢
    have hws3 := t3 _ _ hws
    refine ⟨.list ((p.map atomText).map PyData.str), .list [], .lst (SqL.of hws3) (dp_strs _), .lst (SqL.of g3) .nil, strs_lay fun x hx => ?_, rfl, _, rfl, ?_⟩
    · obtain ⟨a, ha, rfl⟩ := List.mem_map.mp hx
      exact atom_strOk (np a ha).1
    rw [eqv_none]
    have qq := q H3 (s2.trans t3)
    unfold prdText at qq
    cases p with
    | nil => exact iteF qq
    | cons a r =>
      refine iteT ?_
      refine ⟨⟨_, rfl⟩, _, rfl, _, D, _, rfl, rfl, .inl (SqL.of hws3), ?_, qq⟩
      have h2 := sum_len (l := (a :: r).map atomText) (m := 60) fun x hx => by
        obtain ⟨a', ha', rfl⟩ := List.mem_map.mp hx
        exact nm_len (np a' ha')
      rw [List.length_map] at h2 ⊢
      have hs := sizeLine_eq
      rw [e1]
      omega
def okNF (ps : List Prd) : Prop := (∀ p ∈ ps, nmPrd p ∧ p.length ≤ 12 ∧ ∀ a ∈ p, AscA a ∧ full a) ∧ ps.length ≤ 32
theorem kit_s {K : PySem.W.Frag} : PySem.W.kitAny K (.type "str") [.type "str", .type "tuple"] = some true := kitAny_cons (b := true) (kit_ty (by decide +kernel)) (fun z => by cases z) (fun _ => rfl)
theorem kit_t {K : PySem.W.Frag} : PySem.W.kitAny K (.type "tuple") [.type "str", .type "tuple"] = some true := kitAny_cons (b := false) (kit_ty (by decide +kernel)) (fun _ => kitAny_cons (b := true) (kit_ty (by decide +kernel)) (fun z => by cases z) (fun _ => rfl)) (fun z => by cases z)
def spLIsPlain : Sp := fun vs H Q _ => ∃ (f : Addr) (vp : List V) (ps : List Prd), vs = [.ref f] ∧ H f = some (.lst vp) ∧ PdsAt H vp ps ∧ okNF ps ∧ ∀ H', Same H H' → Q (.bl true) H'
theorem okLIsPlain (T : Txt K mg) : FnOk P w K mg base CX0 1 T.aLIsPlain T.fLIsPlain ["found"] spLIsPlain := by
  refine T.FLIsPlain.ok scLIsPlain (fun vs H Q E h => ?_) (fun cdv A outer s H vs Q E hr h => ?_)
  · obtain ⟨f, vp, ps, rfl, _⟩ := h
    rfl
  obtain ⟨f, vp, ps, rfl, hf, hp, ⟨hok, h32⟩, q⟩ := h
  have hu := hu_of hr
  refine ⟨_, (pss_cons (ps_if (PW.pt (pw_or (pt_not (pt_val (pe_callB call_isi (by rfl) T.n_isinstance (by decide +kernel) (pa_cons (pv 0) (pa_cons (pe_bltn (v := .ty "list") (by rfl) T.n_list (by decide +kernel) rfl) pa_nil))))) (pw_or1 (pt_cmpR (op_neD hr.units) (pe_lc (own := [("one", 3)]) (g := gName 3) rfl scLIsPlain.nd (pi_list (pv 0)) (blkOk_by (N := ["found", "product", "atom", "one"]) (sc := defScope sLIsPlain) (by decide +kernel)) (fun _ _ _ _ _ => (pg_name (i := 3) scLIsPlain.nd rfl (by first | exact Or.inl rfl | exact Or.inr rfl))) (fun _ _ _ _ _ => (pts_one (pt_not (pt_val (pe_callB (call_isiK1 (K := K) rfl) (by rfl) T.n_isinstance (by decide +kernel) (pa_cons (pv 3) (pa_cons (pe_bltn (v := .ty "list") (by rfl) T.n_list (by decide +kernel) rfl) pa_nil))))))) (fun _ _ _ _ _ => (pv 3))) (pe_lst pa_nil) (nomark _)))))
        (pss_one (ps_ret pe_bl)) pss_nil)
      (pss_cons (ps_for PassesOwn.never rfl (pi_list (pv 0)) (pg_name (i := 1) scLIsPlain.nd rfl (by first | exact Or.inl rfl | exact Or.inr rfl))
        (pss_one (ps_for PassesOwn.never rfl (pi_list (pv 1)) (pg_name (i := 2) scLIsPlain.nd rfl (by first | exact Or.inl rfl | exact Or.inr rfl))
          (pss_cons (ps_if (PW.pt (pw_or (pt_not (pt_val (pe_callB call_isiT (by rfl) T.n_isinstance (by decide +kernel) (pa_cons (pv 2) (pa_cons (pe_tup (pa_cons (pe_bltn (v := .ty "str") (by rfl) T.n_str (by decide +kernel) rfl) (pa_cons (pe_bltn (v := .ty "tuple") (by rfl) T.n_tuple (by decide +kernel) rfl) pa_nil))) pa_nil))))) (pw_or1 (PW.pt (pw_and (pt_val (pe_callB call_isi (by rfl) T.n_isinstance (by decide +kernel) (pa_cons (pv 2) (pa_cons (pe_bltn (v := .ty "tuple") (by rfl) T.n_tuple (by decide +kernel) rfl) pa_nil)))) (pw_and1 (pt_cmpR (op_neD hr.units) (pe_callTy call_list_of (by rfl) T.n_list (by decide +kernel) (pa_cons (pv 2) pa_nil)) (pe_callB (cr_sortedTx rfl) (by rfl) T.n_sorted (by decide +kernel) (pa_cons (pe_callTy (cr_setTxT rfl) (by rfl) T.n_set (by decide +kernel) (pa_cons (pv 2) pa_nil)) pa_nil)) (nomark _))))))))
            (pss_one (ps_ret pe_bl)) pss_nil)
          (pss_one (ps_if (pt_cmpR (op_eqD hr.units) (pv 2) (pe_tup pa_nil) (nomark _))
            (pss_one (ps_ret pe_bl)) pss_nil))))))
      (pss_one (ps_ret pe_bl)))), ?_⟩
  have hs := sizeLine_eq
  have pl := hp.length
  refine ⟨_, rfl, _, _, _, _, true, rfl, .ty _, ty_lst hf, kit_ty (by decide +kernel), _, rfl, iteF ?_⟩
  refine ⟨_, rfl, f, rfl, ⟨_, SqL.of hf⟩, fun D hD => ?_⟩
  refine lc_list (K := K) (a := f) (xs := vp) (fun i H' => Same H H' ∧ H' D = some (.lst [])) ?_ ?_ ?_ ?_
  · exact ⟨same_upd0 hD _, upd_same⟩
  · rintro i H2 _ ⟨s2, _⟩
    exact SqL.of (s2 _ _ hf)
  · rintro i v H2 hi ⟨s2, h2⟩
    obtain ⟨b, p, rfl, _, _, e2, _⟩ := hp.get hi
    refine ⟨rfl, ?_⟩
    refine ⟨_, rfl, _, _, _, _, true, rfl, .ty _, ty_lst (s2 _ _ e2), kit_ty (by decide +kernel), _, rfl, iteF ⟨s2, h2⟩⟩
  rintro H2 ⟨s2, h2⟩
  refine ⟨Nat.zero_le _, fun z hz => ?_⟩
  have t3 := same_upd0 hz (.lst [])
  have g3 : (upd H2 z (.lst [])) z = some (.lst []) := upd_same
  generalize upd H2 z (.lst []) = H3 at t3 g3 ⊢
  have s3 := s2.trans t3
  refine ⟨.list [], .list [], .lst (SqL.of (t3 _ _ h2)) .nil, .lst (SqL.of g3) .nil, rfl, rfl, _, rfl, ?_⟩
  rw [eqv_none]
  refine iteF ?_
  refine ⟨_, rfl, f, rfl, ⟨_, SqL.of (s3 _ _ hf)⟩, for_list (K := K) (a := f) (xs := vp) (fun i σ H' => ∃ (v1 v2 : Option V), σ = [some (.ref f), v1, v2, none] ∧ Same H H') ⟨none, none, rfl, s3⟩ ?_ ?_ ?_⟩
  · rintro i σ H' _ ⟨_, _, _, sm⟩
    exact SqL.of (sm _ _ hf)
  · rintro i y σ H4 hi ⟨v1, v2, rfl, s4⟩
    obtain ⟨b, p, rfl, e1, vb, e2, e3⟩ := hp.get hi
    obtain ⟨np, p5, ho⟩ := hok p (List.mem_of_getElem? e1)
    refine ⟨_, rfl, b, rfl, ⟨_, SqL.of (s4 _ _ e2)⟩, for_list (K := K) (a := b) (xs := vb) (fun j σ H' => ∃ (v2 : Option V), σ = [some (.ref f), some (.ref b), v2, none] ∧ Same H H') ⟨v2, rfl, s4⟩ ?_ ?_ ?_⟩
    · rintro j σ H' _ ⟨_, _, sm⟩
      exact SqL.of (sm _ _ e2)
    · rintro j y σ H5 hj ⟨v2, rfl, s5⟩
      obtain ⟨a, ea, ha⟩ := e3.get hj
      have ham := List.mem_of_getElem? ea
      obtain ⟨n1, n2⟩ := np a ham
      obtain ⟨oa, of⟩ := ho a ham
      have fin : ∀ (H' : Hp), Same H H' → ∃ (v2 : Option V), [some (V.ref f), some (V.ref b), some y, none] = [some (.ref f), some (.ref b), v2, none] ∧ Same H H' := fun H' s' => ⟨_, rfl, s'⟩
      refine ⟨_, rfl, Nat.le_of_lt (small1000 (by simp)), fun tp htp => ?_⟩
      have t6 := same_upd0 htp (.tup [V.ty "str", V.ty "tuple"])
      have g6 : (upd H5 tp (.tup [V.ty "str", V.ty "tuple"])) tp = some (.tup [V.ty "str", V.ty "tuple"]) := upd_same
      generalize upd H5 tp (.tup [V.ty "str", V.ty "tuple"]) = H6 at t6 g6 ⊢
      have s6 := s5.trans t6
      rcases (ha.keep (Kp.of s6)).two with ⟨x, rfl, rfl⟩ | ⟨t, xs, rfl, rfl, ht⟩
      · refine ⟨_, _, _, _, _, true, rfl, g6, .cons (.ty _) (.cons (.ty _) .nil), ty_str x, kit_s, _, rfl, iteF ?_⟩
        refine ⟨_, rfl, _, _, _, _, false, rfl, .ty _, ty_str x, kit_ty (by decide +kernel), _, rfl, iteF (iteF ?_)⟩
        refine ⟨_, rfl, Nat.zero_le _, fun w hw => ?_⟩
        have t7 := same_upd0 hw (.tup [])
        refine ⟨.str x, .tuple [], .str x, .tup (SqT.of upd_same) .nil, ?_, rfl, _, rfl, ?_⟩
        · exact atm_shaped (a := .n x) n1
        · have e0 : PyData.eqv (.str x) (.tuple []) = false := by simp [PyData.eqv]
          rw [e0]
          exact iteF (fin _ (s6.trans t7))
      · have ht5 := of
        refine ⟨_, _, _, _, _, true, rfl, g6, .cons (.ty _) (.cons (.ty _) .nil), ty_tup ht, kit_t, _, rfl, iteF ?_⟩
        refine ⟨_, rfl, _, _, _, _, true, rfl, .ty _, ty_tup ht, kit_ty (by decide +kernel), _, rfl, iteT ?_⟩
        refine ⟨_, rfl, t, _, rfl, .inr (SqT.of ht), fun c1 hc1 => ?_⟩
        have t7 := same_upd0 hc1 (.lst (xs.map V.str))
        have g7 : (upd H6 c1 (.lst (xs.map V.str))) c1 = some (.lst (xs.map V.str)) := upd_same
        generalize upd H6 c1 (.lst (xs.map V.str)) = H7 at t7 g7 ⊢
        refine ⟨_, rfl, ?_⟩
        dsimp only [tNil]
        refine sort_setTT (K := K) (P := P) (w := w) (l := xs) (t7 _ _ ht) (by have h5 : xs.length ≤ 5 := n2; omega) fun c H8 ys s8 hcn hc8 tl => ?_
        have ex : ys = xs := tl.one oa fun _ => Iff.rfl
        subst ex
        refine ⟨.list (ys.map PyData.str), .list (ys.map PyData.str), .lst (SqL.of (s8 _ _ g7)) (dp_strs ys), .lst (SqL.of hc8) (dp_strs ys), strs_shaped n1, strs_shaped n1, _, rfl, ?_⟩
        have e9 : PyData.eqv (.list (ys.map PyData.str)) (.list (ys.map PyData.str)) = true := SeqAt.eqv_refl _ (by
          simp only [PyData.canLay0]
          exact canAll_map fun x hx => by simp only [PyData.canLay0]; exact (n1 x hx).strOk)
        rw [e9]
        refine iteF ?_
        have s88 := s6.trans (t7.trans s8)
        refine ⟨_, rfl, Nat.zero_le _, fun w hw => ?_⟩
        have t9 := same_upd0 hw (.tup [])
        have ht9 := t9 _ _ (s8 _ _ (t7 _ _ ht))
        refine ⟨.tuple (ys.map PyData.str), .tuple [], .tup (SqT.of ht9) (dp_strs ys), .tup (SqT.of upd_same) .nil, atm_shaped (a := .t ys) n1, rfl, _, rfl, ?_⟩
        have e0 : PyData.eqv (.tuple (ys.map PyData.str)) (.tuple []) = false := by
          cases ys with
          | nil => exact absurd rfl of
          | cons y r => simp [PyData.eqv, PyData.eqvAll]
        rw [e0]
        exact iteF (fin _ (s88.trans t9))
    · rintro σ H5 ⟨v2, rfl, s5⟩
      exact ⟨_, _, rfl, s5⟩
  · rintro σ H4 ⟨v1, v2, rfl, s4⟩
    exact q H4 s4
end K09


set_option Elab.async false
set_option linter.all false
set_option maxRecDepth 100000
set_option maxHeartbeats 1000000
namespace K09
open PySem PySem.Spec PyProof.Rows L2 FA
theorem PdsAt.take {H : Hp} (n : Nat) : ∀ {vs : List V} {p : List Prd}, PdsAt H vs p → PdsAt H (vs.take n) (p.take n) := by
  induction n with
  | zero => intro vs p h; exact .nil
  | succ n ih =>
    intro vs p h
    cases h with
    | nil => exact .nil
    | cons a t => exact .cons a (ih t)
theorem PdsAt.drop {H : Hp} (n : Nat) : ∀ {vs : List V} {p : List Prd}, PdsAt H vs p → PdsAt H (vs.drop n) (p.drop n) := by
  induction n with
  | zero => intro vs p h; exact h
  | succ n ih =>
    intro vs p h
    cases h with
    | nil => exact .nil
    | cons a t => exact ih t
variable {P : Program} {w : World} {K : PySem.W.Frag} {mg : Str → Option Value} {base : Heap}
theorem strs_eqv {ls : List Str} (h : ∀ x ∈ ls, PyData.strOk x = true) : PyData.eqv (.list (ls.map PyData.str)) (.list (ls.map PyData.str)) = true := SeqAt.eqv_refl _ (by
  simp only [PyData.canLay0]
  exact canAll_map fun x hx => by simp only [PyData.canLay0]; exact h x hx)
theorem cut_more (xs : List V) (k : Nat) (h : k ≤ xs.length) : cutV xs (some ((k : Int))) none = xs.drop k := cut_from h
/-- the names of an atom that another one lacks -/
theorem idle_names {a : Atm} {ys : List Str} (h : isW a (.t ys) = false) : a.nms.filter (fun y => !decide (y ∈ ys)) ≠ [] := fun e => by
  have : isW a (.t ys) = true := by
    simp only [isW, List.all_eq_true, decide_eq_true_iff]
    intro x hx
    apply Classical.byContradiction
    intro hno
    have : x ∈ a.nms.filter (fun y => !decide (y ∈ ys)) := List.mem_filter.mpr ⟨hx, by simp [hno]⟩
    rw [e] at this
    cases this
  rw [h] at this
  cases this
def spLIsNormal : Sp := fun vs H Q _ => ∃ (f : Addr) (vp : List V) (ps : List Prd), vs = [.ref f] ∧ H f = some (.lst vp) ∧ PdsAt H vp ps ∧ okNF ps ∧ NF ps ∧ ∀ H', Same H H' → Q (.bl true) H'
theorem okLIsNormal (T : Txt K mg) : FnOk P w K mg base CX0 3 T.aLIsNormal T.fLIsNormal ["found"] spLIsNormal := by
  have GLIsPlain : FnOk P w K mg base CX0 1 T.aLIsPlain T.fLIsPlain ["found"] spLIsPlain := okLIsPlain T
  have GLText : FnOk P w K mg base CX0 1 T.aLText T.fLText ["product"] spLText := okLText T
  have GLAllIn : FnOk P w K mg base CX0 2 T.aLAllIn T.fLAllIn ["product", "products"] spLAllIn := okLAllIn T
  refine T.FLIsNormal.ok scLIsNormal (fun vs H Q E h => ?_) (fun cdv A outer s H vs Q E hr h => ?_)
  · obtain ⟨f, vp, ps, rfl, _⟩ := h
    rfl
  obtain ⟨f, vp, ps, rfl, hf, hp, hok, nf, q⟩ := h
  have hu := hu_of hr
  refine ⟨_, (pss_cons (ps_if (pt_not (pt_val (pe_call GLIsPlain (hr.mono (by omega)) rfl T.gLIsPlain T.FLIsPlain.kp T.bLIsPlain .nil pass0 (pa_cons (pv 0) pa_nil))))
        (pss_one (ps_ret pe_bl)) pss_nil)
      (pss_cons (ps_setLc (i := 1) (own := [("product", 3)]) (g := gName 3) (tt := tYes) rfl scLIsNormal.nd rfl rfl (sw_true rfl rfl rfl (by decide +kernel)) (pi_list (pv 0)) (blkOk_by (N := ["found", "texts", "at", "product", "one", "two", "names", "atom", "name"]) (sc := defScope sLIsNormal) (by decide +kernel)) (fun _ _ _ _ _ => (pg_name (i := 3) scLIsNormal.nd rfl (by first | exact Or.inl rfl | exact Or.inr rfl))) (fun _ _ _ _ _ => pts_nil) (fun _ _ _ _ _ => (pe_call GLText (hr.mono (by omega)) rfl T.gLText T.FLText.kp T.bLText .nil pass0 (pa_cons (pv 3) pa_nil))))
      (pss_cons (ps_if (pt_cmpR (op_neD hr.units) (pv 1) (pe_callB (cr_sortedTx rfl) (by rfl) T.n_sorted (by decide +kernel) (pa_cons (pe_callTy (cr_setTxN rfl) (by rfl) T.n_set (by decide +kernel) (pa_cons (pv 1) pa_nil)) pa_nil)) (nomark _))
        (pss_one (ps_ret pe_bl)) pss_nil)
      (pss_cons (ps_for PassesOwn.never rfl (pi_enum (by rfl) T.n_enumerate (pa_cons (pv 0) pa_nil)) (pg_tup rfl (pgs_cons (pg_name (i := 2) scLIsNormal.nd rfl (by first | exact Or.inl rfl | exact Or.inr rfl)) (pgs_cons (pg_name (i := 3) scLIsNormal.nd rfl (by first | exact Or.inl rfl | exact Or.inr rfl)) pgs_nil)))
        (pss_cons (ps_for PassesOwn.never rfl (pi_zip (by rfl) T.n_zip (pa_cons (pv 3) (pa_cons (pe_slice sl_list (pv 3) (po_some pe_int) po_none) pa_nil))) (pg_tup rfl (pgs_cons (pg_name (i := 4) scLIsNormal.nd rfl (by first | exact Or.inl rfl | exact Or.inr rfl)) (pgs_cons (pg_name (i := 5) scLIsNormal.nd rfl (by first | exact Or.inl rfl | exact Or.inr rfl)) pgs_nil)))
          (pss_cons (ps_setLc (i := 6) (own := [("atom", 7)]) (g := gName 7) (tt := tYes) rfl scLIsNormal.nd rfl rfl (sw_true rfl rfl rfl (by decide +kernel)) (pi_tup (pe_tup (pa_cons (pv 4) (pa_cons (pv 5) pa_nil)))) (blkOk_by (N := ["found", "texts", "at", "product", "one", "two", "names", "atom", "name"]) (sc := defScope sLIsNormal) (by decide +kernel)) (fun _ _ _ _ _ => (pg_name (i := 7) scLIsNormal.nd rfl (by first | exact Or.inl rfl | exact Or.inr rfl))) (fun _ _ _ _ _ => pts_nil) (fun _ _ _ _ _ => (pe_ifExp (pt_val (pe_callB (call_isiK1 (K := K) rfl) (by rfl) T.n_isinstance (by decide +kernel) (pa_cons (pv 7) (pa_cons (pe_bltn (v := .ty "str") (by rfl) T.n_str (by decide +kernel) rfl) pa_nil)))) (pe_lst (pa_cons (pv 7) pa_nil)) (pe_callTy (call_list_ofK (K := K) rfl) (by rfl) T.n_list (by decide +kernel) (pa_cons (pv 7) pa_nil)))))
          (pss_cons (ps_if (PW.pt (pw_and (pt_val (pe_callB call_isi (by rfl) T.n_isinstance (by decide +kernel) (pa_cons (pv 5) (pa_cons (pe_bltn (v := .ty "tuple") (by rfl) T.n_tuple (by decide +kernel) rfl) pa_nil)))) (pw_and1 (pt_cmpR (op_eqD hr.units) (pe_lc (own := [("name", 8)]) (g := gName 8) rfl scLIsNormal.nd (pi_list (pe_ix ix_list (pv 6) pe_int (fun _ _ => rfl))) (blkOk_by (N := ["found", "texts", "at", "product", "one", "two", "names", "atom", "name"]) (sc := defScope sLIsNormal) (by decide +kernel)) (fun _ _ _ _ _ => (pg_name (i := 8) scLIsNormal.nd rfl (by first | exact Or.inl rfl | exact Or.inr rfl))) (fun _ _ _ _ _ => (pts_one (pt_cmpR (op_notIn_seqK (K := K) rfl) (pv 8) (pv 5) (by rfl)))) (fun _ _ _ _ _ => (pv 8))) (pe_lst pa_nil) (nomark _)))))
            (pss_one (ps_ret pe_bl)) pss_nil)
          (pss_one (ps_if (PW.pt (pw_and (pt_val (pe_callB call_isi (by rfl) T.n_isinstance (by decide +kernel) (pa_cons (pv 4) (pa_cons (pe_bltn (v := .ty "tuple") (by rfl) T.n_tuple (by decide +kernel) rfl) pa_nil)))) (pw_and1 (pt_cmpR (op_eqD hr.units) (pe_lc (own := [("name", 8)]) (g := gName 8) rfl scLIsNormal.nd (pi_list (pe_ix ix_list (pv 6) pe_int (fun _ _ => rfl))) (blkOk_by (N := ["found", "texts", "at", "product", "one", "two", "names", "atom", "name"]) (sc := defScope sLIsNormal) (by decide +kernel)) (fun _ _ _ _ _ => (pg_name (i := 8) scLIsNormal.nd rfl (by first | exact Or.inl rfl | exact Or.inr rfl))) (fun _ _ _ _ _ => (pts_one (pt_cmpR (op_notIn_seqK (K := K) rfl) (pv 8) (pv 4) (by rfl)))) (fun _ _ _ _ _ => (pv 8))) (pe_lst pa_nil) (nomark _)))))
            (pss_one (ps_ret pe_bl)) pss_nil)))))
        (pss_one (ps_if (pt_val (pe_call GLAllIn (hr.mono (by omega)) rfl T.gLAllIn T.FLAllIn.kp T.bLAllIn .nil pass0 (pa_cons (pv 3) (pa_cons (pe_op op_cat (pe_slice sl_list (pv 0) po_none (po_some (pv 2))) (pe_slice sl_list (pv 0) (po_some (pe_op op_add (pv 2) pe_int)) po_none)) pa_nil))))
          (pss_one (ps_ret pe_bl)) pss_nil))))
      (pss_one (ps_ret pe_bl)))))), ?_⟩
  have hs := sizeLine_eq
  have pl := hp.length
  obtain ⟨hok', h32⟩ := id hok
  have sok : ∀ x ∈ ps.map prdText, PyData.strOk x = true := fun x hx => by
    obtain ⟨p, hp, rfl⟩ := List.mem_map.mp hx
    exact prd_strOk fun a ha => ((hok' p hp).1 a ha).1
  refine ⟨_, rfl, f, vp, ps, rfl, hf, hp, hok, fun H1 s1 => ?_⟩
  refine ⟨_, rfl, iteF ?_⟩
  have hf1 := s1 _ _ hf
  have hp1 := hp.keep (Kp.of s1)
  refine ⟨_, rfl, f, rfl, ⟨_, SqL.of hf1⟩, fun D hD => ?_⟩
  refine lc_list (K := K) (a := f) (xs := vp) (fun i H' => Same H1 H' ∧ H' D = some (.lst (((ps.take i).map prdText).map V.str))) ?_ ?_ ?_ ?_
  · exact ⟨same_upd0 hD _, by rw [upd_same]; rfl⟩
  · rintro i H2 _ ⟨s2, _⟩
    exact SqL.of (s2 _ _ hf1)
  · rintro i v H2 hi ⟨s2, h2⟩
    obtain ⟨qb, qq, rfl, e1, e2⟩ := hp1.get hi
    obtain ⟨n1, n5, _⟩ := hok' qq (List.mem_of_getElem? e1)
    have il : i < ps.length := (List.getElem?_eq_some_iff.mp e1).1
    refine ⟨rfl, yesT (iteT ?_)⟩
    refine ⟨_, rfl, qb, qq, rfl, e2.keep (Kp.of s2), n1, by omega, fun H3 s3 => ?_⟩
    have s23 := s2.trans s3
    refine ⟨_, s3 _ _ h2, by rw [List.length_map, List.length_map, List.length_take, hs]; omega, fun c o e => ?_, ?_⟩
    · rw [upd_ne (ne_of_none e hD)]
      exact s23 _ _ e
    · rw [upd_same, List.take_add_one, e1, List.map_append, List.map_append]
      rfl
  rintro H2 ⟨s2, h2⟩
  rw [pl, List.take_length] at h2
  refine ⟨_, rfl, _, rfl, ?_⟩
  dsimp only [tNil]
  refine sort_setT (K := K) (P := P) (w := w) (l := ps.map prdText) (ms := ps.map prdText) h2 (fun _ h => h) (by rw [List.length_map]; omega) fun c H4 ys s24 hcn g4 tl => ?_
  have etx : ys = ps.map prdText := tl.one nf.tx fun _ => Iff.rfl
  subst etx
  refine ⟨_, _, .lst (SqL.of (s24 _ _ h2)) (dp_strs _), .lst (SqL.of g4) (dp_strs _), strs_lay sok, strs_lay sok, _, rfl, ?_⟩
  rw [strs_eqv sok]
  refine iteF ?_
  have s4 := s1.trans (s2.trans s24)
  refine ⟨_, rfl, f, _, rfl, SqL.of (s4 _ _ hf), ?_⟩
  refine for_enum (K := K) (a := f) (xs := vp) (fun i σ H' => ∃ (v2 v3 v4 v5 v6 : Option V), σ = [some (.ref f), some (.ref D), v2, v3, v4, v5, v6, none, none] ∧ Same H H') ⟨none, none, none, none, none, rfl, s4⟩ ?_ ?_ ?_
  · rintro i σ H' _ ⟨_, _, _, _, _, _, sm⟩
    exact SqL.of (sm _ _ hf)
  · rintro i y σ H5 tt hi ⟨v2, v3, v4, v5, v6, rfl, s5⟩ htt
    obtain ⟨b, p, rfl, e1, vb, e2, e3⟩ := hp.get hi
    obtain ⟨np, p5, ho⟩ := hok' p (List.mem_of_getElem? e1)
    have noi := nf.no p (List.mem_of_getElem? e1)
    have iv : i < vp.length := (List.getElem?_eq_some_iff.mp hi).1
    have t6 := same_upd0 htt (.tup [V.int (i : Nat), V.ref b])
    have e6 : (upd H5 tt (.tup [V.int (i : Nat), V.ref b])) tt = some (.tup [V.int (i : Nat), V.ref b]) := upd_same
    generalize upd H5 tt (.tup [V.int (i : Nat), V.ref b]) = H6 at t6 e6 ⊢
    have s6 := s5.trans t6
    have vl := e3.length
    refine ⟨tt, _, rfl, SqT.of e6, rfl, _, _, rfl, _, _, rfl, rfl, ?_⟩
    have h6 := s6 _ _ e2
    refine seq_inv (fun σ' H7 => ∃ (v4 v5 v6 : Option V), σ' = [some (.ref f), some (.ref D), some (.int (i : Nat)), some (.ref b), v4, v5, v6, none, none] ∧ Same H H7) (fun Nn hNn => ?_) ?_
    · refine ⟨_, rfl, _, rfl, _, rfl, b, vb, rfl, SqL.of h6, fun c1 hc1 => ?_⟩
      have ed : cutV vb (some (1 : Int)) none = vb.drop 1 := by
        cases vb with
        | nil => rfl
        | cons x r => exact cut_from (k := 1) (by simp)
      rw [ed]
      have t7 := same_upd0 hc1 (.lst (vb.drop 1))
      have g7 : (upd H6 c1 (.lst (vb.drop 1))) c1 = some (.lst (vb.drop 1)) := upd_same
      generalize upd H6 c1 (.lst (vb.drop 1)) = H7 at t7 g7 ⊢
      have s7 := s6.trans t7
      refine ⟨b, c1, vb, vb.drop 1, rfl, SqL.of (s7 _ _ e2), SqL.of g7, ?_⟩
      refine for_zipU (K := K) (a := b) (b := c1) (xs := vb) (ys := vb.drop 1) (by rw [List.length_drop]; omega) (fun j σ H' => ∃ (v4 v5 v6 : Option V), σ = [some (.ref f), some (.ref D), some (.int (i : Nat)), some (.ref b), v4, v5, v6, none, none] ∧ Same H7 H') ⟨v4, v5, v6, rfl, Same.refl _⟩ ?_ ?_ ?_
      · rintro j σ H' ⟨_, _, _, _, sm⟩
        exact ⟨SqL.of (sm _ _ (s7 _ _ e2)), SqL.of (sm _ _ g7)⟩
      · rintro j x1 x2 T2 σ H8 hx1 hx2 ⟨v4, v5, v6, rfl, s8⟩ hT2
        rw [List.getElem?_drop, Nat.add_comm] at hx2
        obtain ⟨a1, ea1, ha1⟩ := e3.get hx1
        obtain ⟨a2, ea2, ha2⟩ := e3.get hx2
        have adj := noi.at ea1 ea2
        have n1 := np a1 (List.mem_of_getElem? ea1)
        have n2 := np a2 (List.mem_of_getElem? ea2)
        have t9 := same_upd0 hT2 (.tup [x1, x2])
        have g9 : (upd H8 T2 (.tup [x1, x2])) T2 = some (.tup [x1, x2]) := upd_same
        generalize upd H8 T2 (.tup [x1, x2]) = H9 at t9 g9 ⊢
        have s79 := s8.trans t9
        have k9 : Kp H H9 := Kp.of (s7.trans s79)
        refine ⟨T2, _, rfl, SqT.of g9, rfl, _, _, rfl, _, _, rfl, rfl, ?_⟩
        refine ⟨_, rfl, _, rfl, Nat.le_of_lt (small1000 (by simp)), fun T3 hT3 => ?_⟩
        have t10 := same_upd0 hT3 (.tup [x1, x2])
        have g10 : (upd H9 T3 (.tup [x1, x2])) T3 = some (.tup [x1, x2]) := upd_same
        generalize upd H9 T3 (.tup [x1, x2]) = H10 at t10 g10 ⊢
        have s710 := s79.trans t10
        have k10 : Kp H H10 := Kp.of (s7.trans s710)
        refine ⟨T3, rfl, ⟨_, SqT.of g10⟩, fun D2 hD2 => ?_⟩
        refine lc_tup (K := K) (a := T3) (xs := [x1, x2]) (fun m H' => ∃ ns : List Addr, Same H10 H' ∧ H' D2 = some (.lst (ns.map V.ref)) ∧ ns.length = m ∧ ∀ (z : Nat) (n : Addr), ns[z]? = some n → ∃ a : Atm, ([a1, a2] : List Atm)[z]? = some a ∧ H' n = some (.lst (a.nms.map V.str))) ?_ ?_ ?_ ?_
        · exact ⟨[], same_upd0 hD2 _, upd_same, rfl, fun z n h => by simp at h⟩
        · rintro m H' _ ⟨_, sm, _⟩
          exact SqT.of (sm _ _ g10)
        · rintro m v H11 hm ⟨ns, s11, h11, nl, hn⟩
          obtain ⟨a, ea, ha⟩ : ∃ a : Atm, ([a1, a2] : List Atm)[m]? = some a ∧ AtAt H10 v a := by
            rcases (by
              have := (List.getElem?_eq_some_iff.mp hm).1
              simp only [List.length_cons, List.length_nil] at this
              omega : m = 0 ∨ m = 1) with rfl | rfl
            · simp at hm
              subst hm
              exact ⟨a1, rfl, ha1.keep k10⟩
            · simp at hm
              subst hm
              exact ⟨a2, rfl, ha2.keep k10⟩
          obtain ⟨L, hL⟩ : ∃ L, L = a.nms.map V.str := ⟨_, rfl⟩
          have lay : ∀ nn, H11 nn = none → ∃ acc, (upd H11 nn (.lst L)) D2 = some (.lst acc) ∧ acc.length < sizeLine ∧ ∃ ns : List Addr, Same H10 (upd (upd H11 nn (.lst L)) D2 (.lst (acc ++ [V.ref nn]))) ∧ (upd (upd H11 nn (.lst L)) D2 (.lst (acc ++ [V.ref nn]))) D2 = some (.lst (ns.map V.ref)) ∧ ns.length = m + 1 ∧ ∀ (z : Nat) (n : Addr), ns[z]? = some n → ∃ a : Atm, ([a1, a2] : List Atm)[z]? = some a ∧ (upd (upd H11 nn (.lst L)) D2 (.lst (acc ++ [V.ref nn]))) n = some (.lst (a.nms.map V.str)) := fun nn hnn => by
            have hDn : D2 ≠ nn := ne_of_none h11 hnn
            have m2 : m < 2 := (List.getElem?_eq_some_iff.mp hm).1
            refine ⟨ns.map V.ref, by rw [upd_ne hDn]; exact h11, by rw [List.length_map, hs]; omega, ns ++ [nn], fun c o e => ?_, by rw [upd_same, List.map_append]; rfl, by rw [List.length_append, nl]; rfl, fun z n hz => ?_⟩
            · rw [upd_ne (ne_of_none e hD2), upd_ne (ne_of_none (s11 _ _ e) hnn)]
              exact s11 _ _ e
            · rw [List.getElem?_append] at hz
              split at hz
              · obtain ⟨a', ea', ha'⟩ := hn z n hz
                refine ⟨a', ea', ?_⟩
                have hnD : n ≠ D2 := by
                  rintro rfl
                  rw [h11] at ha'
                  cases ns with
                  | nil => simp at hz
                  | cons q0 r =>
                    have ha' : (V.ref q0 :: r.map V.ref) = a'.nms.map V.str := by
                      have := HO.lst.inj (Option.some.inj ha')
                      exact this
                    cases ea2 : a'.nms with
                    | nil => rw [ea2] at ha'; cases ha'
                    | cons w0 r0 => rw [ea2] at ha'; cases ha'
                rw [upd_ne hnD, upd_ne (ne_of_none ha' hnn)]
                exact ha'
              · have hz2 : z = ns.length ∧ n = nn := by
                  by_cases e : z - ns.length = 0
                  · rw [e] at hz
                    simp at hz
                    exact ⟨by omega, hz.symm⟩
                  · obtain ⟨q0, eq0⟩ : ∃ q0, z - ns.length = q0 + 1 := ⟨z - ns.length - 1, by omega⟩
                    rw [eq0] at hz
                    simp at hz
                obtain ⟨rfl, rfl⟩ := hz2
                refine ⟨a, by rw [nl]; exact ea, ?_⟩
                rw [upd_ne hDn.symm, upd_same, hL]
          refine ⟨rfl, yesT (iteT ?_)⟩
          rcases (ha.keep (Kp.of s11)).two with ⟨x, rfl, rfl⟩ | ⟨t, xs, rfl, rfl, ht⟩
          · subst hL
            exact ⟨_, rfl, _, _, _, _, true, rfl, .ty _, ty_str x, kit_ty (by decide +kernel), _, rfl, iteT ⟨_, rfl, Nat.le_of_lt (small1000 (by simp)), fun nn hnn => lay nn hnn⟩⟩
          · subst hL
            exact ⟨_, rfl, _, _, _, _, false, rfl, .ty _, ty_tup ht, kit_ty (by decide +kernel), _, rfl, iteF ⟨_, rfl, t, _, rfl, .inr (SqT.of ht), fun nn hnn => lay nn hnn⟩⟩
        rintro H11 ⟨ns, s11, h11, nl, hn⟩
        obtain ⟨m0, m1, rfl⟩ : ∃ m0 m1, ns = [m0, m1] := by
          rcases ns with _ | ⟨m0, _ | ⟨m1, _ | ⟨m2, r⟩⟩⟩
          · simp at nl
          · simp at nl
          · exact ⟨m0, m1, rfl⟩
          · simp at nl
        have hm0 : H11 m0 = some (.lst (a1.nms.map V.str)) := by
          obtain ⟨a, ea, ha⟩ := hn 0 m0 rfl
          simp at ea
          rw [ea]; exact ha
        have hm1 : H11 m1 = some (.lst (a2.nms.map V.str)) := by
          obtain ⟨a, ea, ha⟩ := hn 1 m1 rfl
          simp at ea
          rw [ea]; exact ha
        have s711 := s710.trans s11
        have fin : ∀ H', Same H11 H' → ∃ (v4' v5' v6' : Option V), [some (V.ref f), some (V.ref D), some (V.int (i : Nat)), some (V.ref b), some x1, some x2, some (V.ref D2), none, none] = [some (.ref f), some (.ref D), some (.int (i : Nat)), some (.ref b), v4', v5', v6', none, none] ∧ Same H7 H' := fun H' s' => ⟨_, _, _, rfl, s711.trans s'⟩
        dsimp only [gName, L2.Ends.nx]
        refine seq_inv (fun σ' H12 => σ' = [some (V.ref f), some (V.ref D), some (V.int (i : Nat)), some (V.ref b), some x1, some x2, some (V.ref D2), none, none] ∧ Same H11 H12) (fun Nn2 hNn2 => ?_) ?_
        · rcases (ha2.keep (Kp.of (s7.trans s711))).two with ⟨y, rfl, rfl⟩ | ⟨t, xs, rfl, rfl, ht⟩
          · exact ⟨_, rfl, _, _, _, _, false, rfl, .ty _, ty_str y, kit_ty (by decide +kernel), _, rfl, iteF (iteF (hNn2 _ _ ⟨rfl, Same.refl _⟩))⟩
          · have hidle := idle_names (adj.1 xs rfl)
            refine ⟨_, rfl, _, _, _, _, true, rfl, .ty _, ty_tup ht, kit_ty (by decide +kernel), _, rfl, iteT ⟨_, rfl, D2, _, _, _, rfl, rfl, SqL.of h11, at_of (j := 0) rfl rfl, m0, rfl, ⟨_, SqL.of hm0⟩, fun D3 hD3 => ?_⟩⟩
            refine lcT (n := (a1.nms.map V.str).length) hD3 (small1000 (by rw [List.length_map]; have := n1.2; omega)) _ (valT a1.nms (fun y => !decide (y ∈ xs)) V.str) (go_l (SqL.of hm0)) (stop_l (SqL.of hm0)) (yld_l (SqL.of hm0)) ?_ ?_
            · rintro z v Hx body hz hy sx kk
              obtain ⟨nm, en, rfl⟩ := str_at hy
              unfold valT at kk
              rw [en] at kk
              refine ⟨rfl, _, rfl, _, rfl, t, _, rfl, .inr (SqT.of (sx _ _ ht)), rfl, by simp [flatV], ?_⟩
              obtain ⟨k1, k2⟩ := kk _ Hx (Same.refl _)
              rw [inV_strs]
              by_cases c : nm ∈ xs
              · exact ⟨_, rfl, by
                  rw [decide_eq_true c]
                  exact k1 (by simp [c])⟩
              · exact ⟨_, rfl, by
                  rw [decide_eq_false c]
                  exact k2 (.str nm) (by simp [c]) fun Q hQ => ⟨_, rfl, hQ⟩⟩
            · intro H12 s12 hD12
              rw [List.length_map, range_fm] at hD12
              refine ⟨Nat.zero_le _, fun z hz => ?_⟩
              have t13 := same_upd0 hz (.lst [])
              refine ⟨_, .list [], .lst (SqL.of (t13 _ _ hD12)) (dp_strs _), .lst (SqL.of upd_same) .nil, strs_shaped fun y hy => n1.1 y (List.mem_filter.mp hy).1, rfl, _, rfl, ?_⟩
              rw [eqv_none]
              have : ((a1.nms.filter fun y => !decide (y ∈ xs)).map PyData.str).isEmpty = false := by
                rw [List.isEmpty_map]
                cases e : a1.nms.filter fun y => !decide (y ∈ xs) with
                | nil => exact absurd e hidle
                | cons _ _ => rfl
              rw [this]
              exact iteF (hNn2 _ _ ⟨rfl, s12.trans t13⟩)
        rintro σ' H12 ⟨rfl, s12⟩
        rcases (ha1.keep (Kp.of (s7.trans (s711.trans s12)))).two with ⟨y, rfl, rfl⟩ | ⟨t, xs, rfl, rfl, ht⟩
        · exact ⟨_, rfl, _, _, _, _, false, rfl, .ty _, ty_str y, kit_ty (by decide +kernel), _, rfl, iteF (iteF (fin _ s12))⟩
        · have hidle := idle_names (adj.2 xs rfl)
          refine ⟨_, rfl, _, _, _, _, true, rfl, .ty _, ty_tup ht, kit_ty (by decide +kernel), _, rfl, iteT ⟨_, rfl, D2, _, _, _, rfl, rfl, SqL.of (s12 _ _ h11), at_of (j := 1) rfl rfl, m1, rfl, ⟨_, SqL.of (s12 _ _ hm1)⟩, fun D3 hD3 => ?_⟩⟩
          refine lcT (n := (a2.nms.map V.str).length) hD3 (small1000 (by rw [List.length_map]; have := n2.2; omega)) _ (valT a2.nms (fun y => !decide (y ∈ xs)) V.str) (go_l (SqL.of (s12 _ _ hm1))) (stop_l (SqL.of (s12 _ _ hm1))) (yld_l (SqL.of (s12 _ _ hm1))) ?_ ?_
          · rintro z v Hx body hz hy sx kk
            obtain ⟨nm, en, rfl⟩ := str_at hy
            unfold valT at kk
            rw [en] at kk
            refine ⟨rfl, _, rfl, _, rfl, t, _, rfl, .inr (SqT.of (sx _ _ ht)), rfl, by simp [flatV], ?_⟩
            obtain ⟨k1, k2⟩ := kk _ Hx (Same.refl _)
            rw [inV_strs]
            by_cases c : nm ∈ xs
            · exact ⟨_, rfl, by
                rw [decide_eq_true c]
                exact k1 (by simp [c])⟩
            · exact ⟨_, rfl, by
                rw [decide_eq_false c]
                exact k2 (.str nm) (by simp [c]) fun Q hQ => ⟨_, rfl, hQ⟩⟩
          · intro H13 s13 hD13
            rw [List.length_map, range_fm] at hD13
            refine ⟨Nat.zero_le _, fun z hz => ?_⟩
            have t14 := same_upd0 hz (.lst [])
            refine ⟨_, .list [], .lst (SqL.of (t14 _ _ hD13)) (dp_strs _), .lst (SqL.of upd_same) .nil, strs_shaped fun y hy => n2.1 y (List.mem_filter.mp hy).1, rfl, _, rfl, ?_⟩
            rw [eqv_none]
            have : ((a2.nms.filter fun y => !decide (y ∈ xs)).map PyData.str).isEmpty = false := by
              rw [List.isEmpty_map]
              cases e : a2.nms.filter fun y => !decide (y ∈ xs) with
              | nil => exact absurd e hidle
              | cons _ _ => rfl
            rw [this]
            exact iteF (fin _ (s12.trans (s13.trans t14)))
      · rintro σ H8 ⟨v4, v5, v6, rfl, s8⟩
        exact hNn _ _ ⟨_, _, _, rfl, s7.trans s8⟩
    · rintro σ' H7 ⟨v4, v5, v6, rfl, s7⟩
      have hf7 := s7 _ _ hf
      refine ⟨_, rfl, _, rfl, _, rfl, _, rfl, f, _, rfl, SqL.of hf7, fun c1 hc1 => ?_⟩
      rw [cut_to']
      have t8 := same_upd0 hc1 (.lst (vp.take i))
      have g8 : (upd H7 c1 (.lst (vp.take i))) c1 = some (.lst (vp.take i)) := upd_same
      generalize upd H7 c1 (.lst (vp.take i)) = H8 at t8 g8 ⊢
      refine ⟨_, rfl, _, rfl, _, _, rfl, rfl, _, rfl, f, _, rfl, SqL.of (t8 _ _ hf7), fun c2 hc2 => ?_⟩
      rw [show ((i : Int) + 1) = ((i + 1 : Nat) : Int) from rfl, cut_from (by omega)]
      have t9 := same_upd0 hc2 (.lst (vp.drop (i + 1)))
      have g9 : (upd H8 c2 (.lst (vp.drop (i + 1)))) c2 = some (.lst (vp.drop (i + 1))) := upd_same
      generalize upd H8 c2 (.lst (vp.drop (i + 1))) = H9 at t9 g9 ⊢
      refine ⟨c1, c2, _, _, rfl, rfl, t9 _ _ g8, g9, by rw [List.length_take, List.length_drop, hs]; omega, fun c3 hc3 => ?_⟩
      have t10 := same_upd0 hc3 (.lst (vp.take i ++ vp.drop (i + 1)))
      have g10 : (upd H9 c3 (.lst (vp.take i ++ vp.drop (i + 1)))) c3 = some (.lst (vp.take i ++ vp.drop (i + 1))) := upd_same
      generalize upd H9 c3 (.lst (vp.take i ++ vp.drop (i + 1))) = H10 at t10 g10 ⊢
      have s10 := s7.trans (t8.trans (t9.trans t10))
      have hp10 := hp.keep (Kp.of s10)
      have msub : ∀ r ∈ ps.take i ++ ps.drop (i + 1), r ∈ ps := fun r hr => (List.mem_append.mp hr).elim List.mem_of_mem_take List.mem_of_mem_drop
      refine ⟨b, c3, p, _, ps.take i ++ ps.drop (i + 1), rfl, ⟨vb, s10 _ _ e2, e3.keep (Kp.of s10)⟩, g10, FA.PdsAt.app (PdsAt.take i hp10) (PdsAt.drop (i + 1) hp10), fun a ha => ⟨(np a ha).2, (ho a ha).2⟩, p5, fun r hr => ⟨(hok' r (msub r hr)).2.1, fun a ha => ((hok' r (msub r hr)).1 a ha).1⟩, by rw [List.length_append, List.length_take, List.length_drop]; omega, fun H11 c s11 hc => ?_⟩
      refine ⟨_, rfl, ?_⟩
      rw [nf.ap i p e1] at hc
      cases c with
      | true => cases hc.mp rfl
      | false => exact iteF ⟨_, _, _, _, _, rfl, s10.trans s11⟩
  · rintro σ H5 ⟨v2, v3, v4, v5, v6, rfl, s5⟩
    exact q H5 s5
end K09


set_option Elab.async false
set_option linter.all false
set_option maxRecDepth 100000
set_option maxHeartbeats 1000000
/-! `x is not y` of two bools; names of long words. -/
namespace FA
open PySem PySem.Spec PyProof.Rows L2
section
variable {X : Cx}
theorem op_isnotB : OpR X (compareOp .IsNot) (fun x y H Q => ∃ b c : Bool, x = .bl b ∧ y = .bl c ∧ Q (.bl (!decide (b = c))) H) := by
  intro pins s σ H x y v u Q I rx ry h
  obtain ⟨b, c, rfl, rfl, q⟩ := h
  cases rx
  cases ry
  show wpAny _ _ ((isSame (Value.bool b) (Value.bool c)) >>= fun z => pure (Value.bool (!z))) _ _ s
  refine wpAny_bind (wpAny_isSame_plain rfl ?_)
  have e : (Value.bool b == Value.bool c) = decide (b = c) := by cases b <;> cases c <;> rfl
  rw [e]
  exact wpAny_pure (fin_bl I q rfl)
end
theorem lgA_mem {t : Nat} {a : Atm} {x : Str} (h : x ∈ lgA t a) : x ∈ a.nms := by
  cases a with
  | n y => exact h
  | t xs =>
    have h : x ∈ (List.replicate t xs).flatten := h
    obtain ⟨l, h1, h2⟩ := List.mem_flatten.mp h
    rw [(List.mem_replicate.mp h1).2] at h2
    exact h2
theorem long_mem {t : Nat} {p : Prd} {x : Str} (h : x ∈ long t p) : ∃ a ∈ p, x ∈ a.nms := by
  obtain ⟨a, h1, h2⟩ := List.mem_flatMap.mp h
  exact ⟨a, h1, lgA_mem h2⟩
/-- products include themselves -/
theorem prdIn_self {ps : List Prd} {p : Prd} (hp : p ∈ ps) (fa : ∀ a ∈ p, full a) : prdIn ps p = true := by
  obtain ⟨t, ht⟩ := bound_ex ps
  exact (prdIn_long fa ht).mpr ⟨p, hp, long_lp t p⟩
/-- one is within others with the same words -/
theorem prdIn_same {ps qs : List Prd} (h : ∀ u, LPs ps u → LPs qs u) {p : Prd} (hp : p ∈ ps) (fa : ∀ a ∈ p, full a) : prdIn qs p = true := by
  obtain ⟨t, ht⟩ := bound_ex qs
  exact (prdIn_long fa ht).mpr (h _ ⟨p, hp, long_lp t p⟩)
end FA

set_option Elab.async false
set_option linter.all false
set_option maxRecDepth 100000
set_option maxHeartbeats 1000000
namespace K09
open PySem PySem.Spec PyProof.Rows L2 FA
variable {P : Program} {w : World} {K : PySem.W.Frag} {mg : Str → Option Value} {base : Heap}
theorem okPs.few {ps : List Prd} (h : okPs ps) : ∀ q ∈ ps, q.length ≤ 12 ∧ ∀ a ∈ q, ∀ x ∈ a.nms, FA.okName x := fun q hq => ⟨(h.2 q hq).1, fun a ha => ((h.2 q hq).2 a ha).1⟩
theorem okPs.full {ps : List Prd} (h : okPs ps) : ∀ q ∈ ps, ∀ a ∈ q, a.nms.length ≤ 5 ∧ full a := fun q hq a ha => ⟨((h.2 q hq).2 a ha).2.1, ((h.2 q hq).2 a ha).2.2.2⟩
def spLSame : Sp := fun vs H Q _ => ∃ (f g : Addr) (vp vq : List V) (ps qs : List Prd), vs = [.ref f, .ref g] ∧ H f = some (.lst vp) ∧ PdsAt H vp ps ∧ okPs ps ∧ H g = some (.lst vq) ∧ PdsAt H vq qs ∧ okPs qs ∧ (∀ p ∈ ps, prdIn qs p = true) ∧ (∀ p ∈ qs, prdIn ps p = true) ∧ ∀ H', Same H H' → Q (.bl true) H'
theorem okLSame (T : Txt K mg) : FnOk P w K mg base CX0 3 T.aLSame T.fLSame ["products", "others"] spLSame := by
  have GLAllIn : FnOk P w K mg base CX0 2 T.aLAllIn T.fLAllIn ["product", "products"] spLAllIn := okLAllIn T
  refine T.FLSame.ok scLSame (fun vs H Q E h => ?_) (fun cdv A outer s H vs Q E hr h => ?_)
  · obtain ⟨f, g, vp, vq, ps, qs, rfl, _⟩ := h
    rfl
  obtain ⟨f, g, vp, vq, ps, qs, rfl, hf, hp, ho, hg, hq, ho2, c1, c2, q⟩ := h
  have hu := hu_of hr
  refine ⟨_, (pss_cons (ps_setLc (i := 2) (own := [("one", 3)]) (g := gName 3) rfl scLSame.nd rfl rfl (sw_true rfl rfl rfl (by decide +kernel)) (pi_list (pv 0)) (blkOk_by (N := ["products", "others", "lost", "one"]) (sc := defScope sLSame) (by decide +kernel)) (fun _ _ _ _ _ => (pg_name (i := 3) scLSame.nd rfl (by first | exact Or.inl rfl | exact Or.inr rfl))) (fun _ _ _ _ _ => (pts_one (pt_not (pt_val (pe_call GLAllIn (hr.mono (by omega)) rfl T.gLAllIn T.FLAllIn.kp T.bLAllIn .nil pass0 (pa_cons (pv 3) (pa_cons (pv 1) pa_nil))))))) (fun _ _ _ _ _ => (pv 3)))
      (pss_one (ps_ret (pe_and (pe_cmpR (op_eqD hr.units) (pv 2) (pe_lst pa_nil) (nomark _)) (pe_one (pe_cmpR (op_eqD hr.units) (pe_lc (own := [("one", 3)]) (g := gName 3) rfl scLSame.nd (pi_list (pv 1)) (blkOk_by (N := ["products", "others", "lost", "one"]) (sc := defScope sLSame) (by decide +kernel)) (fun _ _ _ _ _ => (pg_name (i := 3) scLSame.nd rfl (by first | exact Or.inl rfl | exact Or.inr rfl))) (fun _ _ _ _ _ => (pts_one (pt_not (pt_val (pe_call GLAllIn (hr.mono (by omega)) rfl T.gLAllIn T.FLAllIn.kp T.bLAllIn .nil pass0 (pa_cons (pv 3) (pa_cons (pv 0) pa_nil))))))) (fun _ _ _ _ _ => (pv 3))) (pe_lst pa_nil) (nomark _))))))), ?_⟩
  have p12 := ho.1
  have q12 := ho2.1
  refine ⟨_, rfl, f, rfl, ⟨_, SqL.of hf⟩, fun D hD => ?_⟩
  refine lc_list (K := K) (a := f) (xs := vp) (fun i H' => Same H H' ∧ H' D = some (.lst [])) ?_ ?_ ?_ ?_
  · exact ⟨same_upd0 hD _, upd_same⟩
  · rintro i H' _ ⟨sm, _⟩
    exact SqL.of (sm _ _ hf)
  · rintro i v H2 hi ⟨s2, h2⟩
    obtain ⟨b, p, rfl, e1, e2⟩ := hp.get hi
    have pm := List.mem_of_getElem? e1
    refine ⟨rfl, ?_⟩
    refine ⟨_, rfl, _, rfl, b, g, p, vq, qs, rfl, e2.keep (Kp.of s2), s2 _ _ hg, hq.keep (Kp.of s2), ho.full p pm, (ho.few p pm).1, ho2.few, by omega, fun H3 c s3 hc => ⟨_, rfl, ?_⟩⟩
    have : c = true := hc.mpr (c1 p pm)
    subst this
    exact iteF ⟨s2.trans s3, s3 _ _ h2⟩
  rintro H2 ⟨s2, h2⟩
  refine ⟨_, rfl, Nat.zero_le _, fun z hz => ?_⟩
  have t3 := same_upd0 hz (.lst [])
  have g3 : (upd H2 z (.lst [])) z = some (.lst []) := upd_same
  generalize upd H2 z (.lst []) = H3 at t3 g3 ⊢
  have s3 := s2.trans t3
  refine ⟨.list [], .list [], .lst (SqL.of (t3 _ _ h2)) .nil, .lst (SqL.of g3) .nil, rfl, rfl, ?_⟩
  rw [eqv_none]
  refine ⟨_, rfl, iteT ?_⟩
  have hg3 := s3 _ _ hg
  refine ⟨_, rfl, g, rfl, ⟨_, SqL.of hg3⟩, fun D2 hD2 => ?_⟩
  refine lc_list (K := K) (a := g) (xs := vq) (fun i H' => Same H3 H' ∧ H' D2 = some (.lst [])) ?_ ?_ ?_ ?_
  · exact ⟨same_upd0 hD2 _, upd_same⟩
  · rintro i H' _ ⟨sm, _⟩
    exact SqL.of (sm _ _ hg3)
  · rintro i v H4 hi ⟨s4, h4⟩
    obtain ⟨b, p, rfl, e1, e2⟩ := hq.get hi
    have pm := List.mem_of_getElem? e1
    have s34 := s3.trans s4
    refine ⟨rfl, ?_⟩
    refine ⟨_, rfl, _, rfl, b, f, p, vp, ps, rfl, e2.keep (Kp.of s34), s34 _ _ hf, hp.keep (Kp.of s34), ho2.full p pm, (ho2.few p pm).1, ho.few, by omega, fun H5 c s5 hc => ⟨_, rfl, ?_⟩⟩
    have : c = true := hc.mpr (c2 p pm)
    subst this
    exact iteF ⟨s4.trans s5, s5 _ _ h4⟩
  rintro H4 ⟨s4, h4⟩
  refine ⟨Nat.zero_le _, fun z2 hz2 => ?_⟩
  have t5 := same_upd0 hz2 (.lst [])
  refine ⟨.list [], .list [], .lst (SqL.of (t5 _ _ h4)) .nil, .lst (SqL.of upd_same) .nil, rfl, rfl, ?_⟩
  rw [eqv_none]
  exact q _ (s3.trans (s4.trans t5))
def spLWord : Sp := fun vs H Q _ => ∃ (a nl f : Addr) (ns : List Str) (vp : List V) (ps : List Prd) (n : Nat), vs = [.ref a, .ref nl, .ref f] ∧ H nl = some (.lst (ns.map V.str)) ∧ nl ≠ a ∧ Nm ns ∧ H f = some (.lst vp) ∧ f ≠ a ∧ PdsAt (wo [a] H) vp ps ∧ okPs ps ∧ WellAt H a n ∧ n + 2000 ≤ 2 ^ 80 ∧
  ∀ r H' (u : List Str), Sm [a] H H' → WellAt H' a (n + 2000) → H r = none → H' r = some (.lst (u.map V.str)) → (∀ x ∈ u, FA.okName x) → u.length ≤ 60 → Q (.ref r) H'
theorem okLWord (T : Txt K mg) : FnOk P w K mg base CX0 2 T.aLWord T.fLWord ["pouch", "names", "products"] spLWord := by
  have GLPick : FnOk P w K mg base CX0 1 T.aLPick T.fLPick ["pouch", "size"] spPick := okPick T
  have GLLongest : FnOk P w K mg base CX0 1 T.aLLongest T.fLLongest ["product", "times"] spLongest := okLongest T
  refine T.FLWord.ok scLWord (fun vs H Q E h => ?_) (fun cdv A outer s H vs Q E hr h => ?_)
  · obtain ⟨a, nl, f, ns, vp, ps, n, rfl, _⟩ := h
    rfl
  obtain ⟨a, nl, f, ns, vp, ps, n, rfl, hnl, nla, hN, hf, hfa, hp, ho, hw, hn, q⟩ := h
  have hu := hu_of hr
  refine ⟨_, (pss_cons (ps_if (PW.pt (pw_or (pt_cmpR (op_eqD hr.units) (pv 2) (pe_lst pa_nil) (nomark _)) (pw_or1 (pt_cmpR op_eq (pe_call GLPick (hr.mono (by omega)) rfl T.gLPick T.FLPick.kp T.bLPick .nil pass0 (pa_cons (pv 0) (pa_cons pe_int pa_nil))) pe_int (nomark _)))))
        (pss_one (ps_ret (pe_lc (own := [("turn", 5)]) (g := gName 5) (tt := tYes) rfl scLWord.nd (pi_range1 (by rfl) T.n_range (pa_cons (pe_call GLPick (hr.mono (by omega)) rfl T.gLPick T.FLPick.kp T.bLPick .nil pass0 (pa_cons (pv 0) (pa_cons pe_int pa_nil))) pa_nil)) (blkOk_by (N := ["pouch", "names", "products", "word", "name", "turn"]) (sc := defScope sLWord) (by decide +kernel)) (fun _ _ _ _ _ => (pg_name (i := 5) scLWord.nd rfl (by first | exact Or.inl rfl | exact Or.inr rfl))) (fun _ _ _ _ _ => pts_nil) (fun _ _ _ _ _ => (pe_ix (ix_listK (K := K) rfl) (pv 1) (pe_call GLPick (hr.mono (by omega)) rfl T.gLPick T.FLPick.kp T.bLPick .nil pass0 (pa_cons (pv 0) (pa_cons (pe_callB (call_len_seqK (K := K) rfl) (by rfl) T.n_len PySem.boot_len (pa_cons (pv 1) pa_nil)) pa_nil))) (fun _ _ => rfl)))))) pss_nil)
      (pss_cons (ps_set (i := 3) scLWord.nd rfl (by first | exact Or.inl rfl | exact Or.inr rfl) (pe_call GLLongest (hr.mono (by omega)) rfl T.gLLongest T.FLLongest.kp T.bLLongest .nil pass0 (pa_cons (pe_ix ix_list (pv 2) (pe_call GLPick (hr.mono (by omega)) rfl T.gLPick T.FLPick.kp T.bLPick .nil pass0 (pa_cons (pv 0) (pa_cons (pe_callB call_len_seq (by rfl) T.n_len PySem.boot_len (pa_cons (pv 2) pa_nil)) pa_nil))) (fun _ _ => rfl)) (pa_cons (pe_op op_add pe_int (pe_call GLPick (hr.mono (by omega)) rfl T.gLPick T.FLPick.kp T.bLPick .nil pass0 (pa_cons (pv 0) (pa_cons pe_int pa_nil)))) pa_nil))))
      (pss_cons (ps_setLc (i := 3) (own := [("name", 4)]) (g := gName 4) rfl scLWord.nd rfl rfl (sw_true rfl rfl rfl (by decide +kernel)) (pi_list (pv 3)) (blkOk_by (N := ["pouch", "names", "products", "word", "name", "turn"]) (sc := defScope sLWord) (by decide +kernel)) (fun _ _ _ _ _ => (pg_name (i := 4) scLWord.nd rfl (by first | exact Or.inl rfl | exact Or.inr rfl))) (fun _ _ _ _ _ => (pts_one (pt_cmpR op_gt (pe_call GLPick (hr.mono (by omega)) rfl T.gLPick T.FLPick.kp T.bLPick .nil pass0 (pa_cons (pv 0) (pa_cons pe_int pa_nil))) pe_int (nomark _)))) (fun _ _ _ _ _ => (pv 4)))
      (pss_cons (ps_if (pt_cmpR op_eq (pe_call GLPick (hr.mono (by omega)) rfl T.gLPick T.FLPick.kp T.bLPick .nil pass0 (pa_cons (pv 0) (pa_cons pe_int pa_nil))) pe_int (nomark _))
        (pss_one (ps_expr (pe_bm PySem.F.plainAttrs_list PySem.F.slot_list_insert PySem.F.type_list_insert mt_insert (pv 3) (pa_cons (pe_call GLPick (hr.mono (by omega)) rfl T.gLPick T.FLPick.kp T.bLPick .nil pass0 (pa_cons (pv 0) (pa_cons (pe_op op_add (pe_callB call_len_seq (by rfl) T.n_len PySem.boot_len (pa_cons (pv 3) pa_nil)) pe_int) pa_nil))) (pa_cons (pe_ix ix_list (pv 1) (pe_call GLPick (hr.mono (by omega)) rfl T.gLPick T.FLPick.kp T.bLPick .nil pass0 (pa_cons (pv 0) (pa_cons (pe_callB call_len_seq (by rfl) T.n_len PySem.boot_len (pa_cons (pv 1) pa_nil)) pa_nil))) (fun _ _ => rfl)) pa_nil))))) pss_nil)
      (pss_one (ps_ret (pe_slice sl_list (pv 3) po_none (po_some pe_int)))))))), ?_⟩
  have hs := sizeLine_eq
  obtain ⟨ow, how⟩ := hw.some
  have nsl := hN.l8
  have nsl1 := hN.l1
  have ml : ((ns.map V.str).length : Int) ≤ 8 := by rw [List.length_map]; omega
  have ml1 : 1 ≤ ((ns.map V.str).length : Int) := by rw [List.length_map]; omega
  have vl := hp.length
  have p12 := ho.1
  refine ⟨_, rfl, Nat.zero_le _, fun z hz => ?_⟩
  have t1 := same_upd0 hz (.lst [])
  have g1 : (upd H z (.lst [])) z = some (.lst []) := upd_same
  generalize upd H z (.lst []) = H1 at t1 g1 ⊢
  have hw1 := hw.keep fun o e => t1 _ _ e
  have n1 := t1 _ _ hnl
  have f1 := t1 _ _ hf
  have sm1 : Sm [a] H H1 := Sm.of_same t1
  refine ⟨dPds ps, .list [], .lst (SqL.of f1) ((hp.keep kp_off).keep (Kp.of t1)).dp', .lst (SqL.of g1) .nil, okPs.data ho.2, rfl, _, rfl, ?_⟩
  unfold dPds
  rw [eqv_none, List.isEmpty_map]
  cases hps : ps with
  | nil =>
    refine iteT (iteT ?_)
    refine ⟨_, rfl, a, 6, _, rfl, by omega, by omega, hw1, by omega, fun kk Hk k0 k1 sk hwk => ?_⟩
    refine ⟨_, rfl, by omega, by omega, fun D hD => ?_⟩
    have nk := sk _ _ (by simpa using nla) n1
    have smk := sm1.trans sk
    have Dn : H D = none := none_back smk (fun x hx => by rw [List.mem_singleton.mp hx]; exact hwk.some) hD
    have Da : D ≠ a := (ne_of_none how Dn).symm
    refine lc_range (lo := 0) (n := kk.toNat) (fun i H' => ∃ u : List Str, Sm [a] Hk H' ∧ WellAt H' a (n + 2 + i) ∧ H' D = some (.lst (u.map V.str)) ∧ u.length = i ∧ ∀ y ∈ u, FA.okName y) ?_ ?_ ?_
    · exact ⟨[], Sm.of_same (same_upd0 hD _), (hwk.keep fun o e => same_upd0 hD _ _ _ e).mono (by omega), upd_same, rfl, fun _ z => by cases z⟩
    · rintro i H6 hi ⟨u, s6, hw6, h6, hul, hum⟩
      refine ⟨rfl, yesT (iteT ?_)⟩
      have n6 := s6 _ _ (by simpa using nla) nk
      refine ⟨_, rfl, _, rfl, _, rfl, nl, _, rfl, .inl (SqL.of n6), a, _, n + 2 + i, rfl, by omega, by omega, hw6, by omega, fun r H7 r0 r1 s7 hw7 => ?_⟩
      obtain ⟨y, hy, hat⟩ := hN.at r0 r1
      refine ⟨_, _, _, _, rfl, rfl, SqL.of (s7 _ _ (by simpa using nla) n6), hat, ?_⟩
      refine ⟨_, s7 _ _ (by simpa using Da) h6, by rw [List.length_map, hs]; omega, u ++ [y], fun c o hc e => ?_, (hw7.keep fun o e => by rw [upd_ne Da.symm]; exact e).mono (by omega), by rw [upd_same, List.map_append]; rfl, by rw [List.length_append, hul]; rfl, fun z hz => ?_⟩
      · rw [upd_ne (ne_of_none e hD)]
        exact s7 _ _ hc (s6 _ _ hc e)
      · rcases List.mem_append.mp hz with h | h
        · exact hum z h
        · rw [List.mem_singleton.mp h]; exact hN.ok y hy
    · rintro H6 ⟨u, s6, hw6, h6, hul, hum⟩
      exact q D H6 u (smk.trans s6) (hw6.mono (by omega)) Dn h6 hum (by omega)
  | cons p0 pr =>
    have pl1 : 1 ≤ vp.length := by rw [vl, hps]; simp
    refine iteF ?_
    refine ⟨_, rfl, a, 4, _, rfl, by omega, by omega, hw1, by omega, fun g H2 g0 g1 s2 hw2 => ⟨rfl, _, rfl, ite2 (fun _ => ?_) (fun _ => ?_)⟩⟩
    · have n2 := s2 _ _ (by simpa using nla) n1
      have sm2 := sm1.trans s2
      refine ⟨_, rfl, a, 6, _, rfl, by omega, by omega, hw2, by omega, fun kk Hk k0 k1 sk hwk => ?_⟩
      refine ⟨_, rfl, by omega, by omega, fun D hD => ?_⟩
      have nk := sk _ _ (by simpa using nla) n2
      have smk := sm2.trans sk
      have Dn : H D = none := none_back smk (fun x hx => by rw [List.mem_singleton.mp hx]; exact hwk.some) hD
      have Da : D ≠ a := (ne_of_none how Dn).symm
      refine lc_range (lo := 0) (n := kk.toNat) (fun i H' => ∃ u : List Str, Sm [a] Hk H' ∧ WellAt H' a (n + 2 + i) ∧ H' D = some (.lst (u.map V.str)) ∧ u.length = i ∧ ∀ y ∈ u, FA.okName y) ?_ ?_ ?_
      · exact ⟨[], Sm.of_same (same_upd0 hD _), (hwk.keep fun o e => same_upd0 hD _ _ _ e).mono (by omega), upd_same, rfl, fun _ z => by cases z⟩
      · rintro i H6 hi ⟨u, s6, hw6, h6, hul, hum⟩
        refine ⟨rfl, yesT (iteT ?_)⟩
        have n6 := s6 _ _ (by simpa using nla) nk
        refine ⟨_, rfl, _, rfl, _, rfl, nl, _, rfl, .inl (SqL.of n6), a, _, n + 2 + i, rfl, by omega, by omega, hw6, by omega, fun r H7 r0 r1 s7 hw7 => ?_⟩
        obtain ⟨y, hy, hat⟩ := hN.at r0 r1
        refine ⟨_, _, _, _, rfl, rfl, SqL.of (s7 _ _ (by simpa using nla) n6), hat, ?_⟩
        refine ⟨_, s7 _ _ (by simpa using Da) h6, by rw [List.length_map, hs]; omega, u ++ [y], fun c o hc e => ?_, (hw7.keep fun o e => by rw [upd_ne Da.symm]; exact e).mono (by omega), by rw [upd_same, List.map_append]; rfl, by rw [List.length_append, hul]; rfl, fun z hz => ?_⟩
        · rw [upd_ne (ne_of_none e hD)]
          exact s7 _ _ hc (s6 _ _ hc e)
        · rcases List.mem_append.mp hz with h | h
          · exact hum z h
          · rw [List.mem_singleton.mp h]; exact hN.ok y hy
      · rintro H6 ⟨u, s6, hw6, h6, hul, hum⟩
        exact q D H6 u (smk.trans s6) (hw6.mono (by omega)) Dn h6 hum (by omega)
    have f2 := s2 _ _ (by simpa using hfa) f1
    refine ⟨_, rfl, _, rfl, _, rfl, f, _, rfl, .inl (SqL.of f2), a, _, _, rfl, by omega, by omega, hw2, by omega, fun r0 H3 r00 r01 s3 hw3 => ?_⟩
    have f3 := s3 _ _ (by simpa using hfa) f2
    have hlt : r0.toNat < vp.length := by omega
    obtain ⟨v, hv⟩ : ∃ v, vp[r0.toNat]? = some v := ⟨_, List.getElem?_eq_getElem hlt⟩
    have s03 : Sm [a] H H3 := (sm1.trans s2).trans s3
    have hp3 := hp.keep (Kp.of s03.same)
    obtain ⟨b, p, rfl, ep, hpd⟩ := hp3.get hv
    have pm := List.mem_of_getElem? ep
    have hat := atI_nat (xs := vp) (j := r0.toNat) hv
    rw [Int.toNat_of_nonneg r00] at hat
    refine ⟨_, _, _, _, rfl, rfl, SqL.of f3, hat, _, rfl, a, 3, _, rfl, by omega, by omega, hw3, by omega, fun k3 H4 k30 k31 s4 hw4 => ?_⟩
    have s04 := s03.trans s4
    have hpd4 := (hpd.keep (Kp.of s4.same)).keep kp_off
    obtain ⟨k, rfl⟩ : ∃ k : Nat, k3 = (k : Int) := ⟨k3.toNat, by omega⟩
    refine ⟨_, _, rfl, rfl, ?_⟩
    refine ⟨b, p, 1 + k, congrArg (fun z => [V.ref b, V.int z]) (by omega : (1 : Int) + (k : Int) = ((1 + k : Nat) : Int)), hpd4, fun c hc => (ho.full p pm c hc).1, by have := (ho.few p pm).1; omega, by omega, fun lr H5 s5 hln hl5 => ?_⟩
    have hll := long_len (t := 1 + k) (by omega) (p := p) fun c hc => (ho.full p pm c hc).1
    have pl12 := (ho.few p pm).1
    have lnm : ∀ x ∈ long (1 + k) p, FA.okName x := fun x hx => by
      obtain ⟨c, hc, h⟩ := long_mem hx
      exact (ho.few p pm).2 c hc x h
    generalize long (1 + k) p = u0 at hl5 hll lnm
    have hw5 := hw4.keep fun o e => s5 _ _ e
    have s05 := s04.trans (Sm.of_same s5)
    have lra : lr ≠ a := (ne_of_none hw4.some.choose_spec hln).symm
    refine ⟨_, rfl, lr, rfl, ⟨_, SqL.of hl5⟩, fun D hD => ?_⟩
    have Dn : H D = none := none_back s05 (fun x hx => by rw [List.mem_singleton.mp hx]; exact hw5.some) hD
    have Da : D ≠ a := (ne_of_none how Dn).symm
    refine lc_list (K := K) (a := lr) (xs := u0.map V.str) (fun i H' => ∃ u : List Str, Sm [a] H5 H' ∧ WellAt H' a (n + 3 + i) ∧ H' D = some (.lst (u.map V.str)) ∧ u.length ≤ i ∧ ∀ y ∈ u, FA.okName y) ?_ ?_ ?_ ?_
    · exact ⟨[], Sm.of_same (same_upd0 hD _), (hw5.keep fun o e => same_upd0 hD _ _ _ e).mono (by omega), upd_same, by simp, fun _ z => by cases z⟩
    · rintro i H' _ ⟨_, sm, _⟩
      exact SqL.of (sm _ _ (by simpa using lra) hl5)
    · rintro i v H6 hi ⟨u, s6, hw6, h6, hul, hum⟩
      obtain ⟨y, ey, rfl⟩ := str_at hi
      have il : i < u0.length := (List.getElem?_eq_some_iff.mp ey).1
      refine ⟨rfl, ?_⟩
      refine ⟨_, rfl, a, 3, _, rfl, by omega, by omega, hw6, by omega, fun b1 H7 b10 b11 s7 hw7 => ⟨_, _, rfl, rfl, _, rfl, ite2 (fun _ => ?_) (fun _ => ?_)⟩⟩
      · refine ⟨_, rfl, _, s7 _ _ (by simpa using Da) h6, by rw [List.length_map, hs]; omega, u ++ [y], fun c o hc e => ?_, (hw7.keep fun o e => by rw [upd_ne Da.symm]; exact e).mono (by omega), by rw [upd_same, List.map_append]; rfl, by rw [List.length_append, List.length_singleton]; omega, fun w hw => ?_⟩
        · rw [upd_ne (ne_of_none e hD)]
          exact s7 _ _ hc (s6 _ _ hc e)
        · rcases List.mem_append.mp hw with h | h
          · exact hum w h
          · rw [List.mem_singleton.mp h]; exact lnm y (List.mem_of_getElem? ey)
      · exact ⟨u, s6.trans s7, hw7.mono (by omega), s7 _ _ (by simpa using Da) h6, by omega, hum⟩
    rintro H6 ⟨u, s6, hw6, h6, hul, hum⟩
    rw [List.length_map] at hw6 hul
    have s06 := s05.trans s6
    have hw6 : WellAt H6 a (n + 3 + 960) := hw6.mono (by omega)
    have lul : ((u.map V.str).length : Int) ≤ 960 := by rw [List.length_map]; omega
    have n6 := s06 _ _ (by simpa using nla) hnl
    have last : ∀ (H7 : Hp) (u2 : List Str), Sm [a] H H7 → WellAt H7 a (n + 1900) → H7 D = some (.lst (u2.map V.str)) → (∀ x ∈ u2, FA.okName x) → ∀ g, H7 g = none → Q (.ref g) (upd H7 g (.lst ((u2.take 60).map V.str))) := fun H7 u2 s7 hw7 h7 hm g hg => by
      have gn : H g = none := none_back s7 (fun x hx => by rw [List.mem_singleton.mp hx]; exact hw7.some) hg
      have hga : a ≠ g := ne_of_none how gn
      refine q g _ (u2.take 60) (fun c o e z => ?_) ((hw7.mono (by omega)).keep fun o e => by rw [upd_ne hga]; exact e) gn upd_same (fun y hy => hm y (List.mem_of_mem_take hy)) (by rw [List.length_take]; omega)
      rw [upd_ne (ne_of_none z gn)]
      exact s7 _ _ e z
    refine ⟨_, rfl, a, 2, _, rfl, by omega, by omega, hw6, by omega, fun b2 H7 b20 b21 s7 hw7 => ⟨rfl, _, rfl, ite2 (fun _ => ?_) (fun _ => ?_)⟩⟩
    · have h7 := s7 _ _ (by simpa using Da) h6
      have n7 := s7 _ _ (by simpa using nla) n6
      refine ⟨_, rfl, .inl ⟨rfl, _, SqL.of h7⟩, _, rfl, _, rfl, D, _, rfl, .inl (SqL.of h7), _, _, rfl, rfl, a, _, _, rfl, by omega, by omega, hw7, by omega, fun r H8 r0 r1 s8 hw8 => ?_⟩
      have h8 := s8 _ _ (by simpa using Da) h7
      have n8 := s8 _ _ (by simpa using nla) n7
      refine ⟨_, rfl, _, rfl, _, rfl, nl, _, rfl, .inl (SqL.of n8), a, _, _, rfl, by omega, by omega, hw8, by omega, fun r2 H9 q0 q1 s9 hw9 => ?_⟩
      obtain ⟨y, hy, hat⟩ := hN.at q0 q1
      have h9 := s9 _ _ (by simpa using Da) h8
      refine ⟨_, _, _, _, rfl, rfl, SqL.of (s9 _ _ (by simpa using nla) n8), hat, ?_⟩
      refine ⟨D, _, r, .str y, rfl, rfl, h9, by rw [List.length_map, hs]; omega, r0, by omega, ?_⟩
      have eq : (u.map V.str).take r.toNat ++ [V.str y] ++ (u.map V.str).drop r.toNat = (u.take r.toNat ++ [y] ++ u.drop r.toNat).map V.str := by simp [List.map_take, List.map_drop]
      rw [eq]
      refine ⟨_, rfl, _, rfl, D, _, rfl, SqL.of upd_same, fun g hg => ?_⟩
      rw [show (60 : Int) = ((60 : Nat) : Int) from rfl, cut_to', ← List.map_take]
      refine last _ _ (fun c o hc e => ?_) ((hw9.keep fun o e => by rw [upd_ne Da.symm]; exact e).mono (by omega)) upd_same (fun w hw => ?_) g hg
      · rw [upd_ne (ne_of_none e Dn)]
        exact s9 _ _ hc (s8 _ _ hc (s7 _ _ hc (s06 _ _ hc e)))
      · rcases List.mem_append.mp hw with h | h
        · rcases List.mem_append.mp h with h | h
          · exact hum w (List.mem_of_mem_take h)
          · rw [List.mem_singleton.mp h]; exact hN.ok y hy
        · exact hum w (List.mem_of_mem_drop h)
    · have h7 := s7 _ _ (by simpa using Da) h6
      refine ⟨_, rfl, _, rfl, D, _, rfl, SqL.of h7, fun g hg => ?_⟩
      rw [show (60 : Int) = ((60 : Nat) : Int) from rfl, cut_to', ← List.map_take]
      exact last H7 u (s06.trans s7) (hw7.mono (by omega)) h7 hum g hg
end K09


set_option Elab.async false
set_option linter.all false
set_option maxRecDepth 100000
set_option maxHeartbeats 4000000
/-! repr of a bool. -/
namespace FA
open PySem PySem.Spec PyProof.Rows L2
variable {X : Cx}
theorem call_repr_bool : CallR X (.builtin "repr") (fun xs H Q => ∃ b, xs = [.bl b] ∧ Q (.str (if b = true then "True" else "False")) H) := by
  intro pins s σ H xs us Q I r h
  obtain ⟨b, rfl, q⟩ := h
  obtain ⟨u1, rfl, e1⟩ : ∃ u1, us = [u1] ∧ RelV (.bl b) u1 := by
    cases r with
    | cons a r => cases r; exact ⟨_, rfl, a⟩
  have hu1 : u1 = .bool b := e1
  subst hu1
  refine call_repr_gives (prog := X.prog) (w := X.w) (T := "bool") (v := .bool b) (x := if b = true then Str.ofString "True" else Str.ofString "False") rfl F.slot_bool_repr F.entry_bool_repr (F.args_bool_repr_1 _) (gives_bool_repr b) ?_ rfl (by cases b <;> decide)
  exact ⟨.str _, H, I.kept (fun _ _ e => e), ⟨_, rfl⟩, q⟩
end FA

set_option Elab.async false
set_option linter.all false
set_option maxRecDepth 100000
set_option maxHeartbeats 1000000
namespace K09
open PySem PySem.Spec PyProof.Rows L2 FA
variable {P : Program} {w : World} {K : PySem.W.Frag} {mg : Str → Option Value} {base : Heap}
theorem prd_fits12 {p : Prd} (h : okPd p) : Fits (dPd p) 2 560 :=
  (Fits.list (FitsAll.map (f := dA) (k := 1) (b := 45) (l := p) fun a ha => atm_fits ⟨(h.2 a ha).1, (h.2 a ha).2.1⟩)).mono (by omega) (by have : (45 + 1) * p.length ≤ 46 * 12 := Nat.mul_le_mul_left _ h.1; omega)
theorem prds_fits12 {ps : List Prd} (h : okPs ps) : Fits (dPds ps) 3 6740 :=
  (Fits.list (FitsAll.map (f := dPd) (k := 2) (b := 560) (l := ps) fun p hp => prd_fits12 (h.2 p hp))).mono (by omega) (by have : (560 + 1) * ps.length ≤ 561 * 12 := Nat.mul_le_mul_left _ h.1; omega)
theorem two_fits {ps qs : List Prd} (h : okPs ps) (k : okPs qs) : Fits (.list [dPds ps, dPds qs]) 4 13490 :=
  (Fits.list (.cons (prds_fits12 h) (.cons (prds_fits12 k) (FitsAll.nil (b := 0))))).mono (by omega) (by omega)
theorem two_dd {H : Hp} {f g c : Addr} {vp vq : List V} {ps qs : List Prd} (hf : H f = some (.lst vp)) (hp : PdsAt H vp ps) (hg : H g = some (.lst vq)) (hq : PdsAt H vq qs) (hc : H c = some (.lst [.ref f, .ref g])) : Dd K H (.ref c) (.list [dPds ps, dPds qs]) :=
  .lst hc (.cons (.lst hf hp.dd) (.cons (.lst hg hq.dd) .nil))
/-- the normal form of drawn products -/
theorem norm_ok {ps : List Prd} (h : okPs ps) : okPs (normal ps) := by
  have hl := normal_len ps
  refine ⟨by have := h.1; omega, fun q hq => ?_⟩
  obtain ⟨p, hp, rfl⟩ := normal_sub hq
  have okp := h.2 p hp
  exact ⟨by have := idle_le p; have := okp.1; omega, fun a ha => idleR_all (Pp := fun c => okAt c) p [] okp.2 (fun _ z => by cases z) a (List.mem_reverse.mp ha)⟩
theorem norm_lp {ps : List Prd} (h : okPs ps) (u : List Str) : LPs (normal ps) u ↔ LPs ps u := by
  refine normal_lp (fun p hp a ha => ((h.2 p hp).2 a ha).2.2.1) (fun p hp q hq e => ?_) u
  have hi : ∀ p ∈ ps, ∀ a ∈ idle p, okA a := fun p hp a ha => (idleR_all (Pp := fun c => okAt c) p [] (h.2 p hp).2 (fun _ z => by cases z) a (List.mem_reverse.mp ha)).1
  exact prdText_inj (hi p hp) (hi q hq) e
theorem okPs.nf {ps : List Prd} (h : okPs ps) : okNF ps := ⟨fun p hp => ⟨fun a ha => ⟨((h.2 p hp).2 a ha).1, ((h.2 p hp).2 a ha).2.1⟩, (h.2 p hp).1, fun a ha => ⟨((h.2 p hp).2 a ha).2.2.1, ((h.2 p hp).2 a ha).2.2.2⟩⟩, by have := h.1; omega⟩
theorem kp_frl_off {a : Addr} {H H1 : Hp} {o : HO} {xs : List V} (ha : H a = some o) (ha1 : H1 a = some (.lst xs)) : Kp (frl H H1) (wo [a] H1) := by
  have off : ∀ b, b ≠ a → b ∉ [a] := fun b h => by simpa using h
  refine ⟨fun b ys e => wo_some.mpr ⟨off b ?_, (frl_l.mp e).2⟩, fun b ys e => wo_some.mpr ⟨off b ?_, frl_t.mp e⟩⟩
  · have h := (frl_l.mp e).1
    intro z
    rw [z, ha] at h
    cases h
  · have h := frl_t.mp e
    intro z
    rw [z, ha1] at h
    cases h
def spLRight : Sp := fun vs H Q _ => ∃ (a nl f g : Addr) (ns : List Str) (vp vq : List V) (ps qs : List Prd) (n : Nat), vs = [.ref a, .ref nl, .ref f, .ref g] ∧ H nl = some (.lst (ns.map V.str)) ∧ nl ≠ a ∧ Nm ns ∧ H f = some (.lst vp) ∧ f ≠ a ∧ PdsAt (wo [a] H) vp ps ∧ okPs ps ∧ H g = some (.lst vq) ∧ g ≠ a ∧ PdsAt (wo [a] H) vq qs ∧ okPs qs ∧ WellAt H a n ∧ n + 10000 ≤ 2 ^ 80 ∧ ∀ H', Sm [a] H H' → WellAt H' a (n + 10000) → Q (.bl true) H'
theorem okLRight (T : Txt K mg) (sy : FA.SysB base) : FnG P w K mg base 6 T.aLRight T.fLRight ["pouch", "names", "products", "others"] spLRight := by
  have GIncludes : FnOk P w K mg base CX0 5 T.aIncludes T.fIncludes ["products", "other"] spIncludes := okIncludes T
  have GWordIn : FnOk P w K mg base CX0 5 T.aWordIn T.fWordIn ["products", "word"] spWordIn := okWordIn T
  have GReduced : FnOk P w K mg base CX0 5 T.aReduced T.fReduced ["products"] spReduced := okReduced T
  have GLAllIn : FnOk P w K mg base CX0 2 T.aLAllIn T.fLAllIn ["product", "products"] spLAllIn := okLAllIn T
  have GLInProduct : FnOk P w K mg base CX0 1 T.aLInProduct T.fLInProduct ["product", "word"] spLInProduct := okLInProduct T
  have GLWord : FnOk P w K mg base CX0 2 T.aLWord T.fLWord ["pouch", "names", "products"] spLWord := okLWord T
  have GLIsNormal : FnOk P w K mg base CX0 3 T.aLIsNormal T.fLIsNormal ["found"] spLIsNormal := okLIsNormal T
  have GLSame : FnOk P w K mg base CX0 3 T.aLSame T.fLSame ["products", "others"] spLSame := okLSame T
  refine okG T.FLRight scLRight (fun vs H Q E h => ?_) (fun cdv A gd outer st H vs Q E hr h => ?_)
  · obtain ⟨a, nl, f, g, ns, vp, vq, ps, qs, n, rfl, _⟩ := h
    rfl
  obtain ⟨a, nl, f, g, ns, vp, vq, ps, qs, n, rfl, hnl, nla, hN, hf, hfa, hp, ho, hg, hga, hq, ho2, hw, hn, q⟩ := h
  have hu := hu_of hr
  refine ⟨_, (pss_cons (ps_set (i := 4) scLRight.nd rfl (by first | exact Or.inl rfl | exact Or.inr rfl) (pe_callB (call_reprD sy gd hr.units) (by rfl) T.n_repr (by decide +kernel) (pa_cons (pe_lst (pa_cons (pv 2) (pa_cons (pv 3) pa_nil))) pa_nil)))
      (pss_cons (ps_set (i := 5) scLRight.nd rfl (by first | exact Or.inl rfl | exact Or.inr rfl) (pe_cmpR (op_eqD hr.units) (pe_lc (own := [("one", 11)]) (g := gName 11) rfl scLRight.nd (pi_list (pv 3)) (blkOk_by (N := ["pouch", "names", "products", "others", "kept", "due", "step", "turn", "word", "found", "product", "one"]) (sc := defScope sLRight) (by decide +kernel)) (fun _ _ _ _ _ => (pg_name (i := 11) scLRight.nd rfl (by first | exact Or.inl rfl | exact Or.inr rfl))) (fun _ _ _ _ _ => (pts_one (pt_not (pt_val (pe_call GLAllIn (hr.mono (by omega)) rfl T.gLAllIn T.FLAllIn.kp T.bLAllIn .nil pass0 (pa_cons (pv 11) (pa_cons (pv 2) pa_nil))))))) (fun _ _ _ _ _ => (pv 11))) (pe_lst pa_nil) (nomark _)))
      (pss_cons (ps_if (PW.pt (pw_or (pt_cmpR op_ne (pe_callB call_repr_bool (by rfl) T.n_repr (by decide +kernel) (pa_cons (pe_call GIncludes (hr.mono (by omega)) rfl T.gIncludes T.FIncludes.kp T.bIncludes .nil pass0 (pa_cons (pv 2) (pa_cons (pv 3) pa_nil))) pa_nil)) (pe_callB call_repr_bool (by rfl) T.n_repr (by decide +kernel) (pa_cons (pv 5) pa_nil)) (nomark _)) (pw_or1 (pt_cmpR op_isnotB (pe_call GIncludes (hr.mono (by omega)) rfl T.gIncludes T.FIncludes.kp T.bIncludes .nil pass0 (pa_cons (pv 3) (pa_cons (pv 3) pa_nil))) pe_bl (nomark _)))))
        (pss_one (ps_ret pe_bl)) pss_nil)
      (pss_cons (ps_for PassesOwn.never rfl (pi_range1 (by rfl) T.n_range (pa_cons pe_int pa_nil)) (pg_name (i := 6) scLRight.nd rfl (by first | exact Or.inl rfl | exact Or.inr rfl))
        (pss_cons (ps_set (i := 8) scLRight.nd rfl (by first | exact Or.inl rfl | exact Or.inr rfl) (pe_call GLWord (hr.mono (by omega)) rfl T.gLWord T.FLWord.kp T.bLWord .nil pass0 (pa_cons (pv 0) (pa_cons (pv 1) (pa_cons (pv 2) pa_nil)))))
        (pss_cons (ps_set (i := 5) scLRight.nd rfl (by first | exact Or.inl rfl | exact Or.inr rfl) (pe_cmpR (op_neD hr.units) (pe_lc (own := [("one", 11)]) (g := gName 11) rfl scLRight.nd (pi_list (pv 2)) (blkOk_by (N := ["pouch", "names", "products", "others", "kept", "due", "step", "turn", "word", "found", "product", "one"]) (sc := defScope sLRight) (by decide +kernel)) (fun _ _ _ _ _ => (pg_name (i := 11) scLRight.nd rfl (by first | exact Or.inl rfl | exact Or.inr rfl))) (fun _ _ _ _ _ => (pts_one (pt_val (pe_call GLInProduct (hr.mono (by omega)) rfl T.gLInProduct T.FLInProduct.kp T.bLInProduct .nil pass0 (pa_cons (pv 11) (pa_cons (pv 8) pa_nil)))))) (fun _ _ _ _ _ => (pv 11))) (pe_lst pa_nil) (nomark _)))
        (pss_one (ps_if (pt_cmpR op_ne (pe_callB call_repr_bool (by rfl) T.n_repr (by decide +kernel) (pa_cons (pe_call GWordIn (hr.mono (by omega)) rfl T.gWordIn T.FWordIn.kp T.bWordIn .nil pass0 (pa_cons (pv 2) (pa_cons (pv 8) pa_nil))) pa_nil)) (pe_callB call_repr_bool (by rfl) T.n_repr (by decide +kernel) (pa_cons (pv 5) pa_nil)) (nomark _))
          (pss_one (ps_ret pe_bl)) pss_nil)))))
      (pss_cons (ps_for PassesOwn.never rfl (pi_range1 (by rfl) T.n_range (pa_cons pe_int pa_nil)) (pg_name (i := 7) scLRight.nd rfl (by first | exact Or.inl rfl | exact Or.inr rfl))
        (pss_cons (ps_set (i := 9) scLRight.nd rfl (by first | exact Or.inl rfl | exact Or.inr rfl) (pe_call GReduced (hr.mono (by omega)) rfl T.gReduced T.FReduced.kp T.bReduced .nil pass0 (pa_cons (pv 2) pa_nil)))
        (pss_cons (ps_if (PW.pt (pw_or (pt_not (pt_val (pe_call GLIsNormal (hr.mono (by omega)) rfl T.gLIsNormal T.FLIsNormal.kp T.bLIsNormal .nil pass0 (pa_cons (pv 9) pa_nil)))) (pw_or1 (pt_not (pt_val (pe_call GLSame (hr.mono (by omega)) rfl T.gLSame T.FLSame.kp T.bLSame .nil pass0 (pa_cons (pv 9) (pa_cons (pv 2) pa_nil))))))))
          (pss_one (ps_ret pe_bl)) pss_nil)
        (pss_cons (ps_for PassesOwn.never rfl (pi_list (pv 9)) (pg_name (i := 10) scLRight.nd rfl (by first | exact Or.inl rfl | exact Or.inr rfl))
          (pss_one (ps_expr (pe_bm PySem.F.plainAttrs_list PySem.F.slot_list_append PySem.F.type_list_append mt_append (pv 10) (pa_cons (pe_ix ix_list (pv 1) pe_int (fun _ _ => rfl)) pa_nil)))))
        (pss_one (ps_expr (pe_bm PySem.F.plainAttrs_list PySem.F.slot_list_append PySem.F.type_list_append mt_append (pv 9) (pa_cons (pe_lst pa_nil) pa_nil))))))))
      (pss_one (ps_ret (pe_cmpR op_eq (pe_callB (call_reprD sy gd hr.units) (by rfl) T.n_repr (by decide +kernel) (pa_cons (pe_lst (pa_cons (pv 2) (pa_cons (pv 3) pa_nil))) pa_nil)) (pv 4) (nomark _))))))))), ?_⟩
  have hs := sizeLine_eq
  have tf := two_fits ho ho2
  have p12 := ho.1
  have q12 := ho2.1
  have vl := hp.length
  have wl := hq.length
  have hpP := hp.keep kp_off
  have hqP := hq.keep kp_off
  refine ⟨_, rfl, _, rfl, Nat.le_of_lt (small1000 (by simp)), fun c1 hc1 => ?_⟩
  have t1 := same_upd0 hc1 (.lst [V.ref f, V.ref g])
  have g1 : (upd H c1 (.lst [V.ref f, V.ref g])) c1 = some (.lst [V.ref f, V.ref g]) := upd_same
  generalize upd H c1 (.lst [V.ref f, V.ref g]) = H1 at t1 g1 ⊢
  have hp1 := hpP.keep (Kp.of t1)
  have hq1 := hqP.keep (Kp.of t1)
  refine ⟨c1, .list [dPds ps, dPds qs], rfl, two_dd (t1 _ _ hf) hp1 (t1 _ _ hg) hq1 g1, tf.sh, by have := tf.dp; omega, tf.len (by omega), ?_⟩
  have hg1 := t1 _ _ hg
  have hf1 := t1 _ _ hf
  refine ⟨_, rfl, g, rfl, ⟨_, SqL.of hg1⟩, fun D hD => ?_⟩
  refine lc_list (K := K) (a := g) (xs := vq) (fun j H' => ∃ (acc : List V) (rs : List Prd), Same H1 H' ∧ H' D = some (.lst acc) ∧ PdsAt H1 acc rs ∧ acc.length ≤ j ∧ (∀ q0 ∈ rs, q0 ∈ qs) ∧ (rs = [] ↔ ∀ q0 ∈ qs.take j, prdIn ps q0 = true)) ?_ ?_ ?_ ?_
  · exact ⟨[], [], same_upd0 hD _, upd_same, .nil, by simp, fun _ z => (by cases z), by simp⟩
  · rintro j H' _ ⟨_, _, sm, _⟩
    exact SqL.of (sm _ _ hg1)
  · rintro j v H2 hj ⟨acc, rs, s2, h2, hacc, al, hsub, hem⟩
    obtain ⟨qb, q1, rfl, e1, e2⟩ := hq1.get hj
    have qm : q1 ∈ qs := List.mem_of_getElem? e1
    have il : j < qs.length := (List.getElem?_eq_some_iff.mp e1).1
    refine ⟨rfl, ?_⟩
    refine ⟨_, rfl, _, rfl, qb, f, q1, vp, ps, rfl, e2.keep (Kp.of s2), s2 _ _ hf1, hp1.keep (Kp.of s2), ho2.full q1 qm, (ho2.few q1 qm).1, ho.few, by omega, fun H3 c s3 hc => ⟨_, rfl, ?_⟩⟩
    have s23 := s2.trans s3
    cases c with
    | true =>
      refine iteF ⟨acc, rs, s23, s3 _ _ h2, hacc, by omega, hsub, hem.trans ?_⟩
      have hin := hc.mp rfl
      rw [List.take_add_one, e1]
      constructor
      · intro z q0 h
        rcases List.mem_append.mp h with h | h
        · exact z q0 h
        · have h : q0 = q1 := by simpa using h
          rw [h]; exact hin
      · exact fun z q0 h => z q0 (List.mem_append_left _ h)
    | false =>
      have hin : ¬ prdIn ps q1 = true := fun z => by cases hc.mpr z
      refine iteT ⟨_, rfl, acc, s3 _ _ h2, by rw [hs]; omega, acc ++ [.ref qb], rs ++ [q1], fun c o e => ?_, upd_same, hacc.snoc e2, by rw [List.length_append, List.length_singleton]; omega, fun z hz => ?_, ?_⟩
      · rw [upd_ne (ne_of_none e hD)]
        exact s23 _ _ e
      · rcases List.mem_append.mp hz with h | h
        · exact hsub z h
        · rw [List.mem_singleton.mp h]; exact qm
      · rw [List.take_add_one, e1]
        constructor
        · intro z
          simp at z
        · intro z
          exact absurd (z q1 (by simp)) hin
  rintro H2 ⟨acc, rs, s2, h2, hacc, al, hsub, hem⟩
  rw [wl, List.take_length] at hem
  refine ⟨Nat.zero_le _, fun z3 hz3 => ?_⟩
  have t3 := same_upd0 hz3 (.lst [])
  have g3 : (upd H2 z3 (.lst [])) z3 = some (.lst []) := upd_same
  generalize upd H2 z3 (.lst []) = H3 at t3 g3 ⊢
  have s13 := s2.trans t3
  refine ⟨dPds rs, .list [], .lst (SqL.of (t3 _ _ h2)) (hacc.keep (Kp.of s13)).dp', .lst (SqL.of g3) .nil, okPs.data fun p0 hp0 => ho2.2 p0 (hsub p0 hp0), rfl, ?_⟩
  have edue : PyData.eqv (dPds rs) (.list []) = qs.all (prdIn ps) := by
    unfold dPds
    rw [eqv_none, List.isEmpty_map]
    refine bool_eq ⟨fun z => ?_, fun z => ?_⟩
    · exact List.all_eq_true.mpr (hem.mp (List.isEmpty_iff.mp z))
    · exact List.isEmpty_iff.mpr (hem.mpr (List.all_eq_true.mp z))
  rw [edue]
  have eself : qs.all (prdIn qs) = true := List.all_eq_true.mpr fun q0 h => prdIn_self h fun a ha => (ho2.full q0 h a ha).2
  have s03 := t1.trans s13
  refine ⟨_, rfl, _, rfl, f, g, vp, vq, ps, qs, rfl, s03 _ _ hf, hpP.keep (Kp.of s03), ho, s03 _ _ hg, hqP.keep (Kp.of s03), ho2, fun H4 s4 => ?_⟩
  refine ⟨_, rfl, _, rfl, _, rfl, rfl, _, rfl, ?_⟩
  rw [decide_eq_true rfl]
  refine iteF ?_
  have s04 := s03.trans s4
  refine ⟨_, rfl, _, rfl, g, g, vq, vq, qs, qs, rfl, s04 _ _ hg, hqP.keep (Kp.of s04), ho2, s04 _ _ hg, hqP.keep (Kp.of s04), ho2, fun H5 s5 => ?_⟩
  rw [eself]
  refine ⟨true, true, rfl, rfl, _, rfl, iteF ?_⟩
  have s05 := s04.trans s5
  have sm5 : Sm [a] H H5 := Sm.of_same s05
  have hw5 := hw.keep fun o e => s05 _ _ e
  refine ⟨4, rfl, by decide, by decide, ?_⟩
  refine for_range (lo := 0) (n := 4) (fun t σ H' => ∃ (v5 v6 v8 : Option V), σ = [some (.ref a), some (.ref nl), some (.ref f), some (.ref g), some (.str (PyData.list [dPds ps, dPds qs]).shown), v5, v6, none, v8, none, none, none] ∧ Sm [a] H H' ∧ WellAt H' a (n + t * 2000)) ⟨_, none, none, rfl, sm5, hw5.mono (by omega)⟩ ?_ ?_
  · rintro t σ H6 ht ⟨v5, v6, v8, rfl, sm6, hw6⟩
    have hp6 := hp.keep (Kp.of sm6.same)
    refine ⟨_, rfl, _, rfl, _, rfl, a, nl, f, ns, vp, ps, n + t * 2000, rfl, sm6 _ _ (by simpa using nla) hnl, nla, hN, sm6 _ _ (by simpa using hfa) hf, hfa, hp6, ho, hw6, by omega, fun wd H7 u sm7 hw7 hwn hwd hum hul => ?_⟩
    have sm07 := sm6.trans sm7
    have wda : wd ≠ a := (ne_of_none hw6.some.choose_spec hwn).symm
    have hf7 := sm07 _ _ (by simpa using hfa) hf
    have hp7 := (hp.keep (Kp.of sm07.same)).keep kp_off
    refine ⟨_, rfl, f, rfl, ⟨_, SqL.of hf7⟩, fun D2 hD2 => ?_⟩
    refine lc_list (K := K) (a := f) (xs := vp) (fun j H' => ∃ (acc : List V) (rs : List Prd), Same H7 H' ∧ H' D2 = some (.lst acc) ∧ PdsAt H7 acc rs ∧ acc.length ≤ j ∧ (∀ q0 ∈ rs, q0 ∈ ps) ∧ (rs = [] ↔ ∀ q0 ∈ ps.take j, ¬ LP q0 u)) ?_ ?_ ?_ ?_
    · exact ⟨[], [], same_upd0 hD2 _, upd_same, .nil, by simp, fun _ z => (by cases z), by simp⟩
    · rintro j H' _ ⟨_, _, sm, _⟩
      exact SqL.of (sm _ _ hf7)
    · rintro j v H8 hj ⟨acc, rs, s8, h8, hacc, al, hsub, hem⟩
      obtain ⟨qb, q1, rfl, e1, e2⟩ := hp7.get hj
      have qm : q1 ∈ ps := List.mem_of_getElem? e1
      have il : j < ps.length := (List.getElem?_eq_some_iff.mp e1).1
      refine ⟨rfl, ?_⟩
      refine ⟨_, rfl, _, rfl, qb, wd, q1, u, rfl, e2.keep (Kp.of s8), s8 _ _ hwd, by omega, fun H9 c s9 hc => ⟨_, rfl, ?_⟩⟩
      have s89 := s8.trans s9
      cases c with
      | true =>
        have hlp := hc.mp rfl
        refine iteT ⟨_, rfl, acc, s9 _ _ h8, by rw [hs]; omega, acc ++ [.ref qb], rs ++ [q1], fun c o e => ?_, upd_same, hacc.snoc e2, by rw [List.length_append, List.length_singleton]; omega, fun z hz => ?_, ?_⟩
        · rw [upd_ne (ne_of_none e hD2)]
          exact s89 _ _ e
        · rcases List.mem_append.mp hz with h | h
          · exact hsub z h
          · rw [List.mem_singleton.mp h]; exact qm
        · rw [List.take_add_one, e1]
          constructor
          · intro z
            simp at z
          · intro z
            exact absurd hlp (z q1 (by simp))
      | false =>
        have hlp : ¬ LP q1 u := fun z => by cases hc.mpr z
        refine iteF ⟨acc, rs, s89, s9 _ _ h8, hacc, by omega, hsub, hem.trans ?_⟩
        rw [List.take_add_one, e1]
        constructor
        · intro z q0 h
          rcases List.mem_append.mp h with h | h
          · exact z q0 h
          · have h : q0 = q1 := by simpa using h
            rw [h]; exact hlp
        · exact fun z q0 h => z q0 (List.mem_append_left _ h)
    rintro H8 ⟨acc, rs, s8, h8, hacc, al, hsub, hem⟩
    rw [vl, List.take_length] at hem
    refine ⟨Nat.zero_le _, fun z9 hz9 => ?_⟩
    have t9 := same_upd0 hz9 (.lst [])
    have g9 : (upd H8 z9 (.lst [])) z9 = some (.lst []) := upd_same
    generalize upd H8 z9 (.lst []) = H9 at t9 g9 ⊢
    have s79 := s8.trans t9
    refine ⟨dPds rs, .list [], .lst (SqL.of (t9 _ _ h8)) (hacc.keep (Kp.of s79)).dp', .lst (SqL.of g9) .nil, okPs.data fun p0 hp0 => ho.2 p0 (hsub p0 hp0), rfl, ?_⟩
    have ed : (!PyData.eqv (dPds rs) (.list [])) = prdIn ps (pw u) := by
      unfold dPds
      rw [eqv_none, List.isEmpty_map]
      refine bool_eq ⟨fun z => ?_, fun z => ?_⟩
      · rw [prdIn_pw]
        apply Classical.byContradiction
        intro hno
        have := hem.mpr fun q0 hq0 h => hno ⟨q0, hq0, h⟩
        subst this
        cases z
      · obtain ⟨q0, hq0, h⟩ := prdIn_pw.mp z
        cases rs with
        | nil => exact absurd h (hem.mp rfl q0 hq0)
        | cons _ _ => rfl
    rw [ed]
    refine ⟨_, rfl, _, rfl, f, wd, vp, ps, u, rfl, s79 _ _ hf7, hp7.keep (Kp.of s79), ho, s79 _ _ hwd, hum, by omega, fun H10 s10 => ?_⟩
    refine ⟨_, rfl, _, rfl, _, rfl, rfl, _, rfl, ?_⟩
    rw [decide_eq_true rfl]
    have s710 := s79.trans s10
    exact iteF ⟨_, _, _, rfl, sm07.trans (Sm.of_same s710), (hw7.keep fun o e => s710 _ _ e).mono (by omega)⟩
  rintro σ H6 ⟨v5, v6, v8, rfl, sm6, hw6⟩
  refine ⟨2, rfl, by decide, by decide, ?_⟩
  refine for_range (lo := 0) (n := 2) (fun t σ H' => ∃ (v7 v9 v10 : Option V), σ = [some (.ref a), some (.ref nl), some (.ref f), some (.ref g), some (.str (PyData.list [dPds ps, dPds qs]).shown), v5, v6, v7, v8, v9, v10, none] ∧ Sm [a] H H' ∧ WellAt H' a (n + 8000)) ⟨none, none, none, rfl, sm6, hw6.mono (by omega)⟩ ?_ ?_
  · rintro t σ H9 ht ⟨v7, v9, v10, rfl, sm9, hw9⟩
    have hf9 := sm9 _ _ (by simpa using hfa) hf
    have hp9 := (hp.keep (Kp.of sm9.same)).keep kp_off
    obtain ⟨xa9, ya9, za9, ha9, _⟩ := id hw9
    refine ⟨_, rfl, f, vp, ps, rfl, hf9, hp9, ho, fun r H10 ws s10 hrn hr10 hp10 => ?_⟩
    have kpa : Kp (frl H9 H10) (wo [a] H10) := kp_frl_off ha9 (s10 _ _ ha9)
    have hra : r ≠ a := (ne_of_none ha9 hrn).symm
    have wsl := hp10.length
    have nok := norm_ok ho
    have nfew := nok.1
    have hfr := hp10
    have hp10P := hp10.keep kp_frl
    refine ⟨_, rfl, r, ws, normal ps, rfl, hr10, hp10P, nok.nf, normal_nf _, fun H11 s11 => ⟨_, rfl, iteF ?_⟩⟩
    have s911 := s10.trans s11
    refine ⟨_, rfl, _, rfl, r, f, ws, vp, normal ps, ps, rfl, s11 _ _ hr10, hp10P.keep (Kp.of s11), nok, s911 _ _ hf9, hp9.keep (Kp.of s911), ho, fun p0 hp0 => prdIn_same (fun u => (norm_lp ho u).mp) hp0 fun a ha => (nok.full p0 hp0 a ha).2, fun p0 hp0 => prdIn_same (fun u => (norm_lp ho u).mpr) hp0 fun a ha => (ho.full p0 hp0 a ha).2, fun H12 s12 => ⟨_, rfl, iteF ?_⟩⟩
    have s1012 := s11.trans s12
    have s912 := s10.trans s1012
    have hr12 := s1012 _ _ hr10
    have hw12 := hw9.keep fun o e => s912 _ _ e
    have each : ∀ v ∈ ws, ∃ c vs, v = .ref c ∧ H9 c = none ∧ H12 c = some (.lst vs) ∧ vs.length ≤ 12 ∧ c ≠ r := fun v hv => by
      obtain ⟨i0, hi0⟩ := List.getElem?_of_mem hv
      obtain ⟨c, pq, rfl, e2, vq2, e3, e4⟩ := hfr.get hi0
      obtain ⟨q1, q2⟩ := frl_l.mp e3
      have := (nok.few pq (List.mem_of_getElem? e2)).1
      have := e4.length
      refine ⟨c, vq2, rfl, q1, s1012 _ _ q2, by omega, ?_⟩
      rintro rfl
      rw [hr10] at q2
      cases q2
      obtain ⟨aa, _, haa⟩ := e4.get hi0
      cases haa with
      | t ht =>
        have := frl_t.mp ht
        rw [hr10] at this
        cases this
    refine ⟨_, rfl, r, rfl, ⟨_, SqL.of hr12⟩, for_list (K := K) (a := r) (xs := ws) (fun j σ H' => ∃ (v10 : Option V), σ = [some (.ref a), some (.ref nl), some (.ref f), some (.ref g), some (.str (PyData.list [dPds ps, dPds qs]).shown), v5, v6, some (.int (0 + (t : Int))), v8, some (.ref r), v10, none] ∧ Sm [a] H9 H' ∧ WellAt H' a (n + 8000) ∧ H' r = some (.lst ws) ∧ ∀ v ∈ ws, ∃ c vs, v = .ref c ∧ H9 c = none ∧ H' c = some (.lst vs) ∧ vs.length ≤ 12 + j ∧ c ≠ r) ⟨v10, rfl, Sm.of_same s912, hw12, hr12, fun v hv => each v hv⟩ ?_ ?_ ?_⟩
    · rintro j σ H' _ ⟨_, _, _, _, h, _⟩
      exact SqL.of h
    · rintro j y σ H17 hj ⟨v10, rfl, sm17, hw17, hr17, he17⟩
      obtain ⟨c, vs, rfl, c9, hc, vl0, cr⟩ := he17 y (List.mem_of_getElem? hj)
      have hjl : j < ws.length := (List.getElem?_eq_some_iff.mp hj).1
      have hca : a ≠ c := ne_of_none ha9 c9
      obtain ⟨yf, hyf, hatf⟩ := hN.first
      have n17 := (sm9.trans sm17) _ _ (by simpa using nla) hnl
      refine ⟨_, rfl, .inl ⟨rfl, _, SqL.of hc⟩, _, rfl, _, _, _, _, rfl, rfl, SqL.of n17, hatf, c, _, .str yf, rfl, rfl, hc, by rw [hs]; omega, ?_⟩
      refine ⟨_, rfl, fun b o hb e => ?_, hw17.keep fun o e => by rw [upd_ne hca]; exact e, by rw [upd_ne cr.symm]; exact hr17, fun v hv => ?_⟩
      · rw [upd_ne (ne_of_none e c9)]
        exact sm17 _ _ hb e
      · obtain ⟨c', vs', rfl, c9', hc', vl', cr'⟩ := he17 v hv
        by_cases ecc : c' = c
        · subst ecc
          rw [hc] at hc'
          cases hc'
          exact ⟨c', _, rfl, c9', upd_same, by rw [List.length_append, List.length_singleton]; omega, cr'⟩
        · exact ⟨c', vs', rfl, c9', by rw [upd_ne ecc]; exact hc', by omega, cr'⟩
    rintro σ H17 ⟨v10, rfl, sm17, hw17, hr17, he17⟩
    refine ⟨_, rfl, .inl ⟨rfl, _, SqL.of hr17⟩, Nat.zero_le _, fun z3 hz3 => ?_⟩
    have t18 := same_upd0 hz3 (.lst [])
    refine ⟨r, _, .ref z3, rfl, rfl, t18 _ _ hr17, by rw [hs]; omega, ?_⟩
    refine ⟨_, _, _, rfl, fun b o hb e => ?_, (hw17.keep fun o e => by rw [upd_ne hra.symm]; exact t18 _ _ e)⟩
    have e9 := sm9 _ _ hb e
    rw [upd_ne (ne_of_none e9 hrn)]
    exact t18 _ _ (sm17 _ _ hb e9)
  rintro σ H9 ⟨v7, v9, v10, rfl, sm9, hw9⟩
  have hp9 := (hp.keep (Kp.of sm9.same)).keep kp_off
  have hq9 := (hq.keep (Kp.of sm9.same)).keep kp_off
  refine ⟨_, rfl, _, rfl, Nat.le_of_lt (small1000 (by simp)), fun c2 hc2 => ?_⟩
  have t10 := same_upd0 hc2 (.lst [V.ref f, V.ref g])
  have g10 : (upd H9 c2 (.lst [V.ref f, V.ref g])) c2 = some (.lst [V.ref f, V.ref g]) := upd_same
  generalize upd H9 c2 (.lst [V.ref f, V.ref g]) = H10 at t10 g10 ⊢
  refine ⟨c2, .list [dPds ps, dPds qs], rfl, two_dd (t10 _ _ (sm9 _ _ (by simpa using hfa) hf)) (hp9.keep (Kp.of t10)) (t10 _ _ (sm9 _ _ (by simpa using hga) hg)) (hq9.keep (Kp.of t10)) g10, tf.sh, by have := tf.dp; omega, tf.len (by omega), ?_⟩
  refine ⟨_, rfl, rfl, ?_⟩
  rw [decide_eq_true rfl]
  exact q _ (sm9.trans (Sm.of_same t10)) ((hw9.keep fun o e => t10 _ _ e).mono (by omega))
end K09


set_option Elab.async false
set_option linter.all false
set_option maxRecDepth 100000
set_option maxHeartbeats 1000000
namespace K09
open PySem PySem.Spec PyProof.Rows L2 FA
variable {P : Program} {w : World} {K : PySem.W.Frag} {mg : Str → Option Value} {base : Heap}
theorem normal_eq {raw ss : List Prd} {ts tx : List Str} (h1 : raw.map idle = ss) (h2 : ss.map prdText = tx) (h3 : Tells ts tx) : normal raw = (ts.filter fun x => !(ts.any fun y => !decide (y = x) && within (byText ss x) (byText ss y))).map (byText ss) := by
  unfold normal
  dsimp only
  rw [h1, h2, asc_of h3]
def R1 : List Prd := [[.n "a"], [.n "a", .t ["a", "b"]], [.t ["b"], .t ["a", "b"]]]
def R2 : List Prd := [[.t ["a", "b"]]]
theorem nR1 : normal R1 = R2 := by
  rw [normal_eq (ss := [[.n "a"], [.t ["a", "b"]], [.t ["a", "b"]]]) (tx := ["a", "{a b}", "{a b}"]) (ts := ["a", "{a b}"]) (by decide +kernel) (by decide +kernel) ⟨by decide +kernel, by decide +kernel, fun x => by simp⟩]
  decide +kernel
theorem nR0 : normal [] = [] := by
  rw [normal_eq (ss := []) (tx := []) (ts := []) rfl rfl ⟨by simp, rfl, fun _ => Iff.rfl⟩]
  rfl
theorem ok_a : FA.okName "a" := ⟨by decide +kernel, by decide +kernel, by decide +kernel⟩
theorem ok_b : FA.okName "b" := ⟨by decide +kernel, by decide +kernel, by decide +kernel⟩
theorem ok_ab : okAt (.t ["a", "b"]) := ok_t (by decide +kernel) (by decide +kernel) (fun x hx => by
  simp only [List.mem_cons, List.not_mem_nil, or_false] at hx
  rcases hx with rfl | rfl
  · exact ok_a
  · exact ok_b) (by decide) (by simp)
theorem okR1 : okPs R1 := ⟨by decide, fun p hp => by
  simp only [R1, List.mem_cons, List.not_mem_nil, or_false] at hp
  rcases hp with rfl | rfl | rfl
  · exact ⟨by decide, fun a ha => by rw [List.mem_singleton.mp ha]; exact ok_n ok_a⟩
  · refine ⟨by decide, fun a ha => ?_⟩
    simp only [List.mem_cons, List.not_mem_nil, or_false] at ha
    rcases ha with rfl | rfl
    · exact ok_n ok_a
    · exact ok_ab
  · refine ⟨by decide, fun a ha => ?_⟩
    simp only [List.mem_cons, List.not_mem_nil, or_false] at ha
    rcases ha with rfl | rfl
    · exact ok_one ok_b
    · exact ok_ab⟩
theorem okP0 : okPs [] := ⟨by decide, fun p hp => by cases hp⟩
theorem okP1 : okPs [[]] := ⟨by decide, fun p hp => by rw [List.mem_singleton.mp hp]; exact ⟨by decide, fun a ha => by cases ha⟩⟩
def R3 : List Prd := [[.n "a", .t ["b"]]]
def R4 : List Prd := [[.n "a", .n "b", .n "b"]]
theorem okR3 : okPs R3 := ⟨by decide, fun p hp => by
  simp only [R3, List.mem_cons, List.not_mem_nil, or_false] at hp
  subst hp
  refine ⟨by decide, fun a ha => ?_⟩
  simp only [List.mem_cons, List.not_mem_nil, or_false] at ha
  rcases ha with rfl | rfl
  · exact ok_n ok_a
  · exact ok_one ok_b⟩
theorem okR4 : okPs R4 := ⟨by decide, fun p hp => by
  simp only [R4, List.mem_cons, List.not_mem_nil, or_false] at hp
  subst hp
  refine ⟨by decide, fun a ha => ?_⟩
  simp only [List.mem_cons, List.not_mem_nil, or_false] at ha
  rcases ha with rfl | rfl | rfl
  · exact ok_n ok_a
  · exact ok_n ok_b
  · exact ok_n ok_b⟩
def nm8 : List Str := ["a", "b", "cc", "d", "e", "abcdefgh", "zz", "main"]
theorem names_ok {ns : List Str} (h : (ns.all fun x => decide (1 ≤ x.cps.size) && decide (x.cps.size ≤ 8) && x.cps.toList.all fun c => decide (97 ≤ c) && decide (c ≤ 122)) = true) : ∀ x ∈ ns, FA.okName x := by
  intro x hx
  have := List.all_eq_true.mp h x hx
  simp only [Bool.and_eq_true, decide_eq_true_eq, List.all_eq_true] at this
  exact ⟨this.1.1, this.1.2, this.2⟩
theorem nm_take {k : Nat} (h1 : 1 ≤ k) : Nm (nm8.take k) := by
  have l8 : nm8.length = 8 := rfl
  refine ⟨(List.take_sublist k nm8).nodup (by decide +kernel), by rw [List.length_take]; omega, by rw [List.length_take]; omega, fun x hx => names_ok (ns := nm8) (by decide +kernel) x (List.mem_of_mem_take hx)⟩
theorem PdsAt.tl {H : Hp} : ∀ {vs : List V} {ps : List Prd}, PdsAt H vs ps → PdsAt H (vs.drop 1) (ps.drop 1)
  | _, _, .nil => .nil
  | _, _, .cons _ t => t
theorem okPs.tl {ps : List Prd} (h : okPs ps) : okPs (ps.drop 1) := ⟨by rw [List.length_drop]; have := h.1; omega, fun p hp => h.2 p (List.mem_of_mem_drop hp)⟩
def spLaw : Sp := fun vs H Q _ => ∃ (s : Addr) (ns : List Int), vs = [.ref s] ∧ SqL K H s (ns.map V.int) ∧ ns.length ≤ 63 ∧ ∀ H', Q (.bl true) H'
theorem okLaw (T : Txt K mg) (sy : FA.SysB base) : FnG P w K mg base 7 T.aLaw T.fLaw ["script"] (spLaw (K := K)) := by
  have GLPouch : FnOk P w K mg base CX0 1 T.aLPouch T.fLPouch ["script", "index"] (spPouch (K := K)) := okPouch T
  have GLPick : FnOk P w K mg base CX0 1 T.aLPick T.fLPick ["pouch", "size"] spPick := okPick T
  have GLProducts : FnOk P w K mg base CX0 3 T.aLProducts T.fLProducts ["pouch", "names", "many", "most"] spLProducts := okLProducts T
  have GLBent : FnOk P w K mg base CX0 2 T.aLBent T.fLBent ["pouch", "names", "whole", "most"] spLBent := okLBent T
  have GReduced : FnOk P w K mg base CX0 5 T.aReduced T.fReduced ["products"] spReduced := okReduced T
  have GIncludes : FnOk P w K mg base CX0 5 T.aIncludes T.fIncludes ["products", "other"] spIncludes := okIncludes T
  have GWordIn : FnOk P w K mg base CX0 5 T.aWordIn T.fWordIn ["products", "word"] spWordIn := okWordIn T
  have GLRight : FnG P w K mg base 6 T.aLRight T.fLRight ["pouch", "names", "products", "others"] spLRight := okLRight T sy
  refine okG T.FLaw scLaw (fun vs H Q E h => ?_) (fun cdv A gd outer st H vs Q E hr h => ?_)
  · obtain ⟨s, ns, rfl, _⟩ := h
    rfl
  obtain ⟨s, ns, rfl, hs, hns, q⟩ := h
  have hu := hu_of hr
  refine split_at 1 (fun D σ H' => D.rt = Q ∧ ∃ v1 v2 v3 v4 v5 v6 v7 v8 v9 v10, σ = [some (.ref s), v1, v2, v3, v4, v5, v6, v7, v8, v9, v10, none]) ?_ ?_
  · skip
    refine ⟨_, (pss_cons (ps_if (PW.pt (pw_or (pt_cmpR (op_neD hr.units) (pe_call GReduced (hr.mono (by omega)) rfl T.gReduced T.FReduced.kp T.bReduced .nil pass0 (pa_cons (pe_lst (pa_cons (pe_lst (pa_cons pe_str pa_nil)) (pa_cons (pe_lst (pa_cons pe_str (pa_cons (pe_tup (pa_cons pe_str (pa_cons pe_str pa_nil))) pa_nil))) (pa_cons (pe_lst (pa_cons (pe_tup (pa_cons pe_str pa_nil)) (pa_cons (pe_tup (pa_cons pe_str (pa_cons pe_str pa_nil))) pa_nil))) pa_nil)))) pa_nil)) (pe_lst (pa_cons (pe_lst (pa_cons (pe_tup (pa_cons pe_str (pa_cons pe_str pa_nil))) pa_nil)) pa_nil)) (nomark _)) (pw_or1 (pt_cmpR (op_neD hr.units) (pe_call GReduced (hr.mono (by omega)) rfl T.gReduced T.FReduced.kp T.bReduced .nil pass0 (pa_cons (pe_lst pa_nil) pa_nil)) (pe_lst pa_nil) (nomark _)))))
        (pss_one (ps_ret pe_bl)) pss_nil)
      (pss_one (ps_ret (pe_cmpR (op_eqD hr.units) (pe_lst (pa_cons (pe_call GIncludes (hr.mono (by omega)) rfl T.gIncludes T.FIncludes.kp T.bIncludes .nil pass0 (pa_cons (pe_lst (pa_cons (pe_lst (pa_cons pe_str (pa_cons (pe_tup (pa_cons pe_str pa_nil)) pa_nil))) pa_nil)) (pa_cons (pe_lst (pa_cons (pe_lst (pa_cons pe_str (pa_cons pe_str (pa_cons pe_str pa_nil)))) pa_nil)) pa_nil))) (pa_cons (pe_call GIncludes (hr.mono (by omega)) rfl T.gIncludes T.FIncludes.kp T.bIncludes .nil pass0 (pa_cons (pe_lst pa_nil) (pa_cons (pe_lst pa_nil) pa_nil))) (pa_cons (pe_call GWordIn (hr.mono (by omega)) rfl T.gWordIn T.FWordIn.kp T.bWordIn .nil pass0 (pa_cons (pe_lst pa_nil) (pa_cons (pe_lst pa_nil) pa_nil))) (pa_cons (pe_call GWordIn (hr.mono (by omega)) rfl T.gWordIn T.FWordIn.kp T.bWordIn .nil pass0 (pa_cons (pe_lst (pa_cons (pe_lst pa_nil) pa_nil)) (pa_cons (pe_lst pa_nil) pa_nil))) pa_nil))))) (pe_lst (pa_cons pe_bl (pa_cons pe_bl (pa_cons pe_bl (pa_cons pe_bl pa_nil))))) (nomark _))))), ?_⟩
    rintro D σ H1 ⟨hD', v1, v2, v3, v4, v5, v6, v7, v8, v9, v10, rfl⟩
    refine ⟨Nat.le_of_lt (small1000 (by simp)), fun ax1 hx1 => ?_⟩
    have ex1 : (upd H1 ax1 (.lst [V.str "a"])) ax1 = some (.lst [V.str "a"]) := upd_same
    have tx1 := same_upd0 hx1 (.lst [V.str "a"])
    generalize upd H1 ax1 (.lst [V.str "a"]) = Hx1 at ex1 tx1 ⊢
    refine ⟨Nat.le_of_lt (small1000 (by simp)), fun ax2 hx2 => ?_⟩
    have ex2 : (upd Hx1 ax2 (.tup [V.str "a", V.str "b"])) ax2 = some (.tup [V.str "a", V.str "b"]) := upd_same
    have tx2 := same_upd0 hx2 (.tup [V.str "a", V.str "b"])
    generalize upd Hx1 ax2 (.tup [V.str "a", V.str "b"]) = Hx2 at ex2 tx2 ⊢
    refine ⟨Nat.le_of_lt (small1000 (by simp)), fun ax3 hx3 => ?_⟩
    have ex3 : (upd Hx2 ax3 (.lst [V.str "a", V.ref ax2])) ax3 = some (.lst [V.str "a", V.ref ax2]) := upd_same
    have tx3 := same_upd0 hx3 (.lst [V.str "a", V.ref ax2])
    generalize upd Hx2 ax3 (.lst [V.str "a", V.ref ax2]) = Hx3 at ex3 tx3 ⊢
    refine ⟨Nat.le_of_lt (small1000 (by simp)), fun ax4 hx4 => ?_⟩
    have ex4 : (upd Hx3 ax4 (.tup [V.str "b"])) ax4 = some (.tup [V.str "b"]) := upd_same
    have tx4 := same_upd0 hx4 (.tup [V.str "b"])
    generalize upd Hx3 ax4 (.tup [V.str "b"]) = Hx4 at ex4 tx4 ⊢
    refine ⟨Nat.le_of_lt (small1000 (by simp)), fun ax5 hx5 => ?_⟩
    have ex5 : (upd Hx4 ax5 (.tup [V.str "a", V.str "b"])) ax5 = some (.tup [V.str "a", V.str "b"]) := upd_same
    have tx5 := same_upd0 hx5 (.tup [V.str "a", V.str "b"])
    generalize upd Hx4 ax5 (.tup [V.str "a", V.str "b"]) = Hx5 at ex5 tx5 ⊢
    refine ⟨Nat.le_of_lt (small1000 (by simp)), fun ax6 hx6 => ?_⟩
    have ex6 : (upd Hx5 ax6 (.lst [V.ref ax4, V.ref ax5])) ax6 = some (.lst [V.ref ax4, V.ref ax5]) := upd_same
    have tx6 := same_upd0 hx6 (.lst [V.ref ax4, V.ref ax5])
    generalize upd Hx5 ax6 (.lst [V.ref ax4, V.ref ax5]) = Hx6 at ex6 tx6 ⊢
    refine ⟨Nat.le_of_lt (small1000 (by simp)), fun ax7 hx7 => ?_⟩
    have ex7 : (upd Hx6 ax7 (.lst [V.ref ax1, V.ref ax3, V.ref ax6])) ax7 = some (.lst [V.ref ax1, V.ref ax3, V.ref ax6]) := upd_same
    have tx7 := same_upd0 hx7 (.lst [V.ref ax1, V.ref ax3, V.ref ax6])
    generalize upd Hx6 ax7 (.lst [V.ref ax1, V.ref ax3, V.ref ax6]) = Hx7 at ex7 tx7 ⊢
    have zx7 := Same.refl Hx7
    have zx6 := tx7.trans zx7
    have zx5 := tx6.trans zx6
    have zx4 := tx5.trans zx5
    have zx3 := tx4.trans zx4
    have zx2 := tx3.trans zx3
    have zx1 := tx2.trans zx2
    have zzx := tx1.trans zx1
    have r1 : PdsAt Hx7 [.ref ax1, .ref ax3, .ref ax6] R1 := .cons ⟨_, zx1 _ _ ex1, .cons (.n _) .nil⟩ (.cons ⟨_, zx3 _ _ ex3, .cons (.n _) (.cons (.t (xs := ["a", "b"]) (zx2 _ _ ex2)) .nil)⟩ (.cons ⟨_, zx6 _ _ ex6, .cons (.t (xs := ["b"]) (zx4 _ _ ex4)) (.cons (.t (xs := ["a", "b"]) (zx5 _ _ ex5)) .nil)⟩ .nil))
    refine ⟨ax7, _, R1, rfl, ex7, r1, okR1, fun r H2 ws s2 hrn hr2 hp2 => ?_⟩
    rw [nR1] at hp2
    have hp2 := hp2.keep kp_frl
    refine ⟨Nat.le_of_lt (small1000 (by simp)), fun ay1 hy1 => ?_⟩
    have ey1 : (upd H2 ay1 (.tup [V.str "a", V.str "b"])) ay1 = some (.tup [V.str "a", V.str "b"]) := upd_same
    have ty1 := same_upd0 hy1 (.tup [V.str "a", V.str "b"])
    generalize upd H2 ay1 (.tup [V.str "a", V.str "b"]) = Hy1 at ey1 ty1 ⊢
    refine ⟨Nat.le_of_lt (small1000 (by simp)), fun ay2 hy2 => ?_⟩
    have ey2 : (upd Hy1 ay2 (.lst [V.ref ay1])) ay2 = some (.lst [V.ref ay1]) := upd_same
    have ty2 := same_upd0 hy2 (.lst [V.ref ay1])
    generalize upd Hy1 ay2 (.lst [V.ref ay1]) = Hy2 at ey2 ty2 ⊢
    refine ⟨Nat.le_of_lt (small1000 (by simp)), fun ay3 hy3 => ?_⟩
    have ey3 : (upd Hy2 ay3 (.lst [V.ref ay2])) ay3 = some (.lst [V.ref ay2]) := upd_same
    have ty3 := same_upd0 hy3 (.lst [V.ref ay2])
    generalize upd Hy2 ay3 (.lst [V.ref ay2]) = Hy3 at ey3 ty3 ⊢
    have zy3 := Same.refl Hy3
    have zy2 := ty3.trans zy3
    have zy1 := ty2.trans zy2
    have zzy := ty1.trans zy1
    refine ⟨dPds R2, dPds R2, .lst (SqL.of (zzy _ _ hr2)) (hp2.keep (Kp.of zzy)).dp', .lst (SqL.of ey3) (.cons (.lst (SqL.of (zy2 _ _ ey2)) (.cons (.tup (SqT.of (zy1 _ _ ey1)) (.cons (.str _) (.cons (.str _) .nil))) .nil)) .nil), by decide +kernel, by decide +kernel, _, rfl, ?_⟩
    have ev1 : PyData.eqv (dPds R2) (dPds R2) = true := by decide +kernel
    rw [ev1]
    refine iteF ?_
    refine ⟨Nat.zero_le _, fun au1 hu1 => ?_⟩
    have eu1 : (upd Hy3 au1 (.lst [])) au1 = some (.lst []) := upd_same
    have tu1 := same_upd0 hu1 (.lst [])
    generalize upd Hy3 au1 (.lst []) = Hu1 at eu1 tu1 ⊢
    have zu1 := Same.refl Hu1
    have zzu := tu1.trans zu1
    refine ⟨au1, [], [], rfl, eu1, .nil, okP0, fun r4 H4 ws4 s4 hrn4 hr4 hp4 => ?_⟩
    rw [nR0] at hp4
    have hp4 := hp4.keep kp_frl
    refine ⟨Nat.zero_le _, fun av1 hv1 => ?_⟩
    have hev1 : (upd H4 av1 (.lst [])) av1 = some (.lst []) := upd_same
    have tv1 := same_upd0 hv1 (.lst [])
    generalize upd H4 av1 (.lst []) = Hv1 at hev1 tv1 ⊢
    have zv1 := Same.refl Hv1
    have zzv := tv1.trans zv1
    refine ⟨dPds [], .list [], .lst (SqL.of (zzv _ _ hr4)) (hp4.keep (Kp.of zzv)).dp', .lst (SqL.of hev1) .nil, rfl, rfl, _, rfl, ?_⟩
    have ev2 : PyData.eqv (dPds []) (.list []) = true := by decide +kernel
    rw [ev2]
    refine iteF ?_
    refine ⟨Nat.le_of_lt (small1000 (by simp)), fun ap1 hp1 => ?_⟩
    have ep1 : (upd Hv1 ap1 (.tup [V.str "b"])) ap1 = some (.tup [V.str "b"]) := upd_same
    have tp1 := same_upd0 hp1 (.tup [V.str "b"])
    generalize upd Hv1 ap1 (.tup [V.str "b"]) = Hp1 at ep1 tp1 ⊢
    refine ⟨Nat.le_of_lt (small1000 (by simp)), fun ap2 hp2 => ?_⟩
    have ep2 : (upd Hp1 ap2 (.lst [V.str "a", V.ref ap1])) ap2 = some (.lst [V.str "a", V.ref ap1]) := upd_same
    have tp2 := same_upd0 hp2 (.lst [V.str "a", V.ref ap1])
    generalize upd Hp1 ap2 (.lst [V.str "a", V.ref ap1]) = Hp2 at ep2 tp2 ⊢
    refine ⟨Nat.le_of_lt (small1000 (by simp)), fun ap3 hp3 => ?_⟩
    have ep3 : (upd Hp2 ap3 (.lst [V.ref ap2])) ap3 = some (.lst [V.ref ap2]) := upd_same
    have tp3 := same_upd0 hp3 (.lst [V.ref ap2])
    generalize upd Hp2 ap3 (.lst [V.ref ap2]) = Hp3 at ep3 tp3 ⊢
    refine ⟨Nat.le_of_lt (small1000 (by simp)), fun ap4 hp4 => ?_⟩
    have ep4 : (upd Hp3 ap4 (.lst [V.str "a", V.str "b", V.str "b"])) ap4 = some (.lst [V.str "a", V.str "b", V.str "b"]) := upd_same
    have tp4 := same_upd0 hp4 (.lst [V.str "a", V.str "b", V.str "b"])
    generalize upd Hp3 ap4 (.lst [V.str "a", V.str "b", V.str "b"]) = Hp4 at ep4 tp4 ⊢
    refine ⟨Nat.le_of_lt (small1000 (by simp)), fun ap5 hp5 => ?_⟩
    have ep5 : (upd Hp4 ap5 (.lst [V.ref ap4])) ap5 = some (.lst [V.ref ap4]) := upd_same
    have tp5 := same_upd0 hp5 (.lst [V.ref ap4])
    generalize upd Hp4 ap5 (.lst [V.ref ap4]) = Hp5 at ep5 tp5 ⊢
    have zp5 := Same.refl Hp5
    have zp4 := tp5.trans zp5
    have zp3 := tp4.trans zp4
    have zp2 := tp3.trans zp3
    have zp1 := tp2.trans zp2
    have zzp := tp1.trans zp1
    refine ⟨ap3, ap5, _, _, R3, R4, rfl, zp3 _ _ ep3, .cons ⟨_, zp2 _ _ ep2, .cons (.n _) (.cons (.t (xs := ["b"]) (zp1 _ _ ep1)) .nil)⟩ .nil, okR3, zp5 _ _ ep5, .cons ⟨_, zp4 _ _ ep4, .cons (.n _) (.cons (.n _) (.cons (.n _) .nil))⟩ .nil, okR4, fun H6 s6 => ?_⟩
    have b1 : R4.all (prdIn R3) = true := by decide +kernel
    rw [b1]
    refine ⟨Nat.zero_le _, fun aq1 hq1 => ?_⟩
    have eq1 : (upd H6 aq1 (.lst [])) aq1 = some (.lst []) := upd_same
    have tq1 := same_upd0 hq1 (.lst [])
    generalize upd H6 aq1 (.lst []) = Hq1 at eq1 tq1 ⊢
    refine ⟨Nat.zero_le _, fun aq2 hq2 => ?_⟩
    have eq2 : (upd Hq1 aq2 (.lst [])) aq2 = some (.lst []) := upd_same
    have tq2 := same_upd0 hq2 (.lst [])
    generalize upd Hq1 aq2 (.lst []) = Hq2 at eq2 tq2 ⊢
    have zq2 := Same.refl Hq2
    have zq1 := tq2.trans zq2
    have zzq := tq1.trans zq1
    refine ⟨aq1, aq2, [], [], [], [], rfl, zq1 _ _ eq1, .nil, okP0, zq2 _ _ eq2, .nil, okP0, fun H7 s7 => ?_⟩
    have b2 : ([] : List Prd).all (prdIn []) = true := rfl
    rw [b2]
    refine ⟨Nat.zero_le _, fun ar1 hr1 => ?_⟩
    have er1 : (upd H7 ar1 (.lst [])) ar1 = some (.lst []) := upd_same
    have tr1 := same_upd0 hr1 (.lst [])
    generalize upd H7 ar1 (.lst []) = Hr1 at er1 tr1 ⊢
    refine ⟨Nat.zero_le _, fun ar2 hr2 => ?_⟩
    have er2 : (upd Hr1 ar2 (.lst [])) ar2 = some (.lst []) := upd_same
    have tr2 := same_upd0 hr2 (.lst [])
    generalize upd Hr1 ar2 (.lst []) = Hr2 at er2 tr2 ⊢
    have zr2 := Same.refl Hr2
    have zr1 := tr2.trans zr2
    have zzr := tr1.trans zr1
    refine ⟨ar1, ar2, [], [], [], rfl, zr1 _ _ er1, .nil, okP0, zr2 _ _ er2, fun _ z => (by cases z), by simp, fun H8 s8 => ?_⟩
    have b3 : prdIn [] (pw []) = false := rfl
    rw [b3]
    refine ⟨Nat.zero_le _, fun as1 hs1 => ?_⟩
    have es1 : (upd H8 as1 (.lst [])) as1 = some (.lst []) := upd_same
    have ts1 := same_upd0 hs1 (.lst [])
    generalize upd H8 as1 (.lst []) = Hs1 at es1 ts1 ⊢
    refine ⟨Nat.le_of_lt (small1000 (by simp)), fun as2 hs2 => ?_⟩
    have es2 : (upd Hs1 as2 (.lst [V.ref as1])) as2 = some (.lst [V.ref as1]) := upd_same
    have ts2 := same_upd0 hs2 (.lst [V.ref as1])
    generalize upd Hs1 as2 (.lst [V.ref as1]) = Hs2 at es2 ts2 ⊢
    refine ⟨Nat.zero_le _, fun as3 hs3 => ?_⟩
    have es3 : (upd Hs2 as3 (.lst [])) as3 = some (.lst []) := upd_same
    have ts3 := same_upd0 hs3 (.lst [])
    generalize upd Hs2 as3 (.lst []) = Hs3 at es3 ts3 ⊢
    have zs3 := Same.refl Hs3
    have zs2 := ts3.trans zs3
    have zs1 := ts2.trans zs2
    have zzs := ts1.trans zs1
    refine ⟨as2, as3, [.ref as1], [[]], [], rfl, zs2 _ _ es2, .cons ⟨_, zs1 _ _ es1, .nil⟩ .nil, okP1, zs3 _ _ es3, fun _ z => (by cases z), by simp, fun H9 s9 => ?_⟩
    have b4 : prdIn [[]] (pw []) = true := by decide +kernel
    rw [b4]
    refine ⟨Nat.le_of_lt (small1000 (by simp)), fun aw1 hw1 => ?_⟩
    have ew1 : (upd H9 aw1 (.lst [V.bl true, V.bl true, V.bl false, V.bl true])) aw1 = some (.lst [V.bl true, V.bl true, V.bl false, V.bl true]) := upd_same
    have tw1 := same_upd0 hw1 (.lst [V.bl true, V.bl true, V.bl false, V.bl true])
    generalize upd H9 aw1 (.lst [V.bl true, V.bl true, V.bl false, V.bl true]) = Hw1 at ew1 tw1 ⊢
    refine ⟨Nat.le_of_lt (small1000 (by simp)), fun aw2 hw2 => ?_⟩
    have ew2 : (upd Hw1 aw2 (.lst [V.bl true, V.bl true, V.bl false, V.bl true])) aw2 = some (.lst [V.bl true, V.bl true, V.bl false, V.bl true]) := upd_same
    have tw2 := same_upd0 hw2 (.lst [V.bl true, V.bl true, V.bl false, V.bl true])
    generalize upd Hw1 aw2 (.lst [V.bl true, V.bl true, V.bl false, V.bl true]) = Hw2 at ew2 tw2 ⊢
    have zw2 := Same.refl Hw2
    have zw1 := tw2.trans zw2
    have zzw := tw1.trans zw1
    refine ⟨.list [.bool true, .bool true, .bool false, .bool true], .list [.bool true, .bool true, .bool false, .bool true], .lst (SqL.of (zw1 _ _ ew1)) (.cons (.bl _) (.cons (.bl _) (.cons (.bl _) (.cons (.bl _) .nil)))), .lst (SqL.of ew2) (.cons (.bl _) (.cons (.bl _) (.cons (.bl _) (.cons (.bl _) .nil)))), by decide +kernel, by decide +kernel, ?_⟩
    have ev3 : PyData.eqv (.list [.bool true, .bool true, .bool false, .bool true]) (.list [.bool true, .bool true, .bool false, .bool true]) = true := by decide +kernel
    rw [ev3, hD']
    exact q _
  intro u3 hu3 ru3
  refine ⟨_, (pss_cons (ps_for PassesOwn.never rfl (pi_range1 (by rfl) T.n_range (pa_cons (pe_callB (call_max2 rfl) (by rfl) T.n_max (by decide +kernel) (pa_cons pe_int (pa_cons (pe_callB (call_min2 rfl) (by rfl) T.n_min (by decide +kernel) (pa_cons pe_int (pa_cons (pe_callB call_len_seq (by rfl) T.n_len PySem.boot_len (pa_cons (pv 0) pa_nil)) pa_nil))) pa_nil))) pa_nil)) (pg_name (i := 1) scLaw.nd rfl (by first | exact Or.inl rfl | exact Or.inr rfl))
        (pss_cons (ps_set (i := 2) scLaw.nd rfl (by first | exact Or.inl rfl | exact Or.inr rfl) (pe_call GLPouch (hr.mono (by omega)) rfl T.gLPouch T.FLPouch.kp T.bLPouch .nil pass0 (pa_cons (pv 0) (pa_cons (pv 1) pa_nil))))
        (pss_one (ps_for PassesOwn.never rfl (pi_range1 (by rfl) T.n_range (pa_cons pe_int pa_nil)) (pg_name (i := 3) scLaw.nd rfl (by first | exact Or.inl rfl | exact Or.inr rfl))
          (pss_cons (ps_set (i := 4) scLaw.nd rfl (by first | exact Or.inl rfl | exact Or.inr rfl) (pe_slice sl_list (pe_lst (pa_cons pe_str (pa_cons pe_str (pa_cons pe_str (pa_cons pe_str (pa_cons pe_str (pa_cons pe_str (pa_cons pe_str (pa_cons pe_str pa_nil))))))))) po_none (po_some (pe_op op_add pe_int (pe_call GLPick (hr.mono (by omega)) rfl T.gLPick T.FLPick.kp T.bLPick .nil pass0 (pa_cons (pv 2) (pa_cons pe_int pa_nil)))))))
          (pss_cons (ps_asg (pe_ifExp (pt_cmpR op_eq (pe_op op_add (pv 1) (pv 3)) pe_int (nomark _)) (pe_tup (pa_cons pe_int (pa_cons pe_int pa_nil))) (pe_tup (pa_cons pe_int (pa_cons pe_int pa_nil)))) (pg_tup rfl (pgs_cons (pg_name (i := 9) scLaw.nd rfl (by first | exact Or.inl rfl | exact Or.inr rfl)) (pgs_cons (pg_name (i := 10) scLaw.nd rfl (by first | exact Or.inl rfl | exact Or.inr rfl)) pgs_nil))))
          (pss_cons (ps_set (i := 5) scLaw.nd rfl (by first | exact Or.inl rfl | exact Or.inr rfl) (pe_call GLProducts (hr.mono (by omega)) rfl T.gLProducts T.FLProducts.kp T.bLProducts .nil pass0 (pa_cons (pv 2) (pa_cons (pv 4) (pa_cons (pv 9) (pa_cons (pv 10) pa_nil))))))
          (pss_cons (ps_set (i := 6) scLaw.nd rfl (by first | exact Or.inl rfl | exact Or.inr rfl) (pe_call GLProducts (hr.mono (by omega)) rfl T.gLProducts T.FLProducts.kp T.bLProducts .nil pass0 (pa_cons (pv 2) (pa_cons (pv 4) (pa_cons (pv 9) (pa_cons (pv 10) pa_nil))))))
          (pss_cons (ps_setLc (i := 7) (own := [("one", 11)]) (g := gName 11) (tt := tYes) rfl scLaw.nd rfl rfl (sw_true rfl rfl rfl (by decide +kernel)) (pi_list (pv 5)) (blkOk_by (N := ["script", "index", "pouch", "turn", "names", "products", "others", "near", "some", "many", "most", "one"]) (sc := defScope sLaw) (by decide +kernel)) (fun _ _ _ _ _ => (pg_name (i := 11) scLaw.nd rfl (by first | exact Or.inl rfl | exact Or.inr rfl))) (fun _ _ _ _ _ => pts_nil) (fun _ _ _ _ _ => (pe_call GLBent (hr.mono (by omega)) rfl T.gLBent T.FLBent.kp T.bLBent .nil pass0 (pa_cons (pv 2) (pa_cons (pv 4) (pa_cons (pv 11) (pa_cons (pv 10) pa_nil)))))))
          (pss_one (ps_for PassesOwn.never rfl (pi_list (pe_lst (pa_cons (pv 6) (pa_cons (pv 7) (pa_cons (pe_slice sl_list (pv 5) (po_some pe_int) po_none) pa_nil))))) (pg_name (i := 8) scLaw.nd rfl (by first | exact Or.inl rfl | exact Or.inr rfl))
            (pss_one (ps_if (pt_not (pt_val (pe_callG GLRight gd (hr.mono (by omega)) rfl T.gLRight T.FLRight.kp T.bLRight (pa_cons (pv 2) (pa_cons (pv 4) (pa_cons (pv 5) (pa_cons (pv 8) pa_nil)))))))
              (pss_one (ps_ret pe_bl)) pss_nil)))))))))))))
      hu3), ?_⟩
  have sz := sizeLine_eq
  obtain ⟨m, hm0, hm6, em⟩ : ∃ m : Int, 0 ≤ m ∧ m ≤ 4 ∧ (if (if ((ns.map V.int).length : Int) < 4 then ((ns.map V.int).length : Int) else 4) > 1 then (if ((ns.map V.int).length : Int) < 4 then ((ns.map V.int).length : Int) else 4) else 1) = m := by
    refine ⟨_, ?_, ?_, rfl⟩ <;> repeat' split
    all_goals omega
  refine ⟨_, rfl, _, _, rfl, .inl hs, _, _, rfl, _, _, rfl, m, congrArg (fun z => [V.int z]) em, by omega, by omega, ?_⟩
  refine for_range (lo := 0) (n := m.toNat) (fun k σ H' => ∃ v1 v2 v3 v4 v5 v6 v7 v8 v9 v10, σ = [some (.ref s), v1, v2, v3, v4, v5, v6, v7, v8, v9, v10, none] ∧ Same H H') ⟨none, none, none, none, none, none, none, none, none, none, rfl, Same.refl _⟩ ?_ ?_
  · rintro k σ H1 hk ⟨v1, v2, v3, v4, v5, v6, v7, v8, v9, v10, rfl, s1⟩
    refine ⟨_, rfl, _, rfl, s, ns, k, congrArg (fun z => [V.ref s, V.int z]) (Int.zero_add _), s1.seq hs, by omega, fun a H2 s2 hna hw2 => ?_⟩
    have s02 := s1.trans s2
    have hnaH : H a = none := s1.free hna
    refine ⟨3, rfl, by decide, by decide, ?_⟩
    refine for_range (lo := 0) (n := 3) (fun t σ H' => ∃ v3 v4 v5 v6 v7 v8 v9 v10, σ = [some (.ref s), some (.int (0 + (k : Int))), some (.ref a), v3, v4, v5, v6, v7, v8, v9, v10, none] ∧ Same H H' ∧ WellAt H' a (t * 80000)) ⟨v3, v4, v5, v6, v7, v8, v9, v10, rfl, s02, hw2.mono (by omega)⟩ ?_ ?_
    · rintro t σ H3 ht ⟨v3, v4, v5, v6, v7, v8, v9, v10, rfl, s3, hw3⟩
      obtain ⟨M, hM⟩ : ∃ M, M = t * 80000 := ⟨_, rfl⟩
      have hM2 : (t + 1) * 80000 = M + 80000 := by omega
      rw [← hM] at hw3
      have hMb : M ≤ 160000 := by omega
      clear hM
      refine ⟨Nat.le_of_lt (small1000 (by simp)), fun L0 hL0 => ?_⟩
      have t4 := same_upd0 hL0 (.lst [V.str "a", V.str "b", V.str "cc", V.str "d", V.str "e", V.str "abcdefgh", V.str "zz", V.str "main"])
      have g4 : (upd H3 L0 (.lst [V.str "a", V.str "b", V.str "cc", V.str "d", V.str "e", V.str "abcdefgh", V.str "zz", V.str "main"])) L0 = some (.lst (nm8.map V.str)) := upd_same
      generalize upd H3 L0 (.lst [V.str "a", V.str "b", V.str "cc", V.str "d", V.str "e", V.str "abcdefgh", V.str "zz", V.str "main"]) = H4 at t4 g4 ⊢
      have L0a : L0 ≠ a := (ne_of_none hw3.some.choose_spec hL0).symm
      have hw4 := hw3.keep fun o e => t4 _ _ e
      refine ⟨_, rfl, a, 8, M, rfl, by omega, by omega, hw4, by omega, fun r H5 r0 r1 s5 hw5 => ?_⟩
      obtain ⟨j, rfl⟩ : ∃ j : Nat, r = (j : Int) := ⟨r.toNat, by omega⟩
      refine ⟨_, _, rfl, rfl, _, rfl, L0, _, rfl, SqL.of (s5 _ _ (by simpa using L0a) g4), fun nl hnl => ?_⟩
      rw [show ((1 : Int) + (j : Int)) = ((1 + j : Nat) : Int) by omega, cut_to', ← List.map_take]
      have t6 := same_upd0 hnl (.lst ((nm8.take (1 + j)).map V.str))
      have n6 : (upd H5 nl (.lst ((nm8.take (1 + j)).map V.str))) nl = some (.lst ((nm8.take (1 + j)).map V.str)) := upd_same
      generalize upd H5 nl (.lst ((nm8.take (1 + j)).map V.str)) = H6 at t6 n6 ⊢
      have hN := nm_take (k := 1 + j) (by omega)
      generalize nm8.take (1 + j) = nms at n6 hN ⊢
      have nla : nl ≠ a := (ne_of_none hw5.some.choose_spec hnl).symm
      have hw6 := hw5.keep fun o e => t6 _ _ e
      have sm6 : Sm [a] H3 H6 := ((Sm.of_same t4).trans s5).trans (Sm.of_same t6)
      dsimp only [gName, L2.Ends.nx]
      refine seq_inv (fun σ' H7 => ∃ (many most : Nat), σ' = [some (.ref s), some (.int (0 + (k : Int))), some (.ref a), some (.int (0 + (t : Int))), some (.ref nl), v5, v6, v7, v8, some (.int (many : Int)), some (.int (most : Int)), none] ∧ Same H6 H7 ∧ many ≤ 12 ∧ 3 ≤ many ∧ most ≤ 12) (fun Nn hNn => ?_) ?_
      · refine ⟨_, rfl, _, rfl, _, _, rfl, rfl, rfl, _, rfl, ite2 (fun _ => ?_) (fun _ => ?_)⟩
        · refine ⟨Nat.le_of_lt (small1000 (by simp)), fun T' hT => ?_⟩
          have g7 : (upd H6 T' (.tup [V.int 12, V.int 12])) T' = some (.tup [V.int 12, V.int 12]) := upd_same
          exact ⟨T', _, rfl, SqT.of g7, rfl, _, _, rfl, _, _, rfl, rfl, hNn _ _ ⟨12, 12, rfl, same_upd0 hT _, by decide, by decide, by decide⟩⟩
        · refine ⟨Nat.le_of_lt (small1000 (by simp)), fun T' hT => ?_⟩
          have g7 : (upd H6 T' (.tup [V.int 5, V.int 4])) T' = some (.tup [V.int 5, V.int 4]) := upd_same
          exact ⟨T', _, rfl, SqT.of g7, rfl, _, _, rfl, _, _, rfl, rfl, hNn _ _ ⟨5, 4, rfl, same_upd0 hT _, by decide, by decide, by decide⟩⟩
      rintro σ' H7 ⟨many, most, rfl, s7, m12, m3, m12'⟩
      have sm7 := sm6.trans (Sm.of_same s7)
      have hw7 := hw6.keep fun o e => s7 _ _ e
      have n7 := s7 _ _ n6
      refine ⟨_, rfl, _, rfl, _, rfl, _, rfl, a, nl, nms, many, most, M + 1, rfl, n7, nla, hN, m12, m3, m12', hw7, by omega, fun f H8 vp ps sm8 hw8 hfn hf8 hp8 pl8 ok8 => ?_⟩
      have n8 := sm8 _ _ (by simpa using nla) n7
      have hfa : f ≠ a := (ne_of_none hw7.some.choose_spec hfn).symm
      refine ⟨_, rfl, _, rfl, _, rfl, _, rfl, a, nl, nms, many, most, M + 20001, rfl, n8, nla, hN, m12, m3, m12', hw8, by omega, fun g H9 vq qs sm9 hw9 hgn hg9 hq9 ql9 ok9 => ?_⟩
      have n9 := sm9 _ _ (by simpa using nla) n8
      have hga : g ≠ a := (ne_of_none hw8.some.choose_spec hgn).symm
      have hf9 := sm9 _ _ (by simpa using hfa) hf8
      have hp9 := hp8.keep (Kp.of sm9.same)
      have okP : okPs ps := ⟨by omega, fun p hp => (ok8 p hp).1⟩
      have okQ : okPs qs := ⟨by omega, fun p hp => (ok9 p hp).1⟩
      have vl := hp9.length
      refine ⟨_, rfl, f, rfl, ⟨_, SqL.of hf9⟩, fun D hD => ?_⟩
      have Da : D ≠ a := (ne_of_none hw9.some.choose_spec hD).symm
      refine lc_list (K := K) (a := f) (xs := vp) (fun i H' => ∃ (acc : List V) (rs : List Prd), Sm [a] H9 H' ∧ WellAt H' a (M + 40001 + i * 10) ∧ H' D = some (.lst acc) ∧ PdsAt (wo [a, D] H') acc rs ∧ rs.length = i ∧ ∀ p ∈ rs, okPd p) ?_ ?_ ?_ ?_
      · exact ⟨[], [], Sm.of_same (same_upd0 hD _), (hw9.keep fun o e => same_upd0 hD _ _ _ e).mono (by omega), upd_same, .nil, rfl, fun _ z => by cases z⟩
      · rintro i H' _ ⟨_, _, sm, _⟩
        exact SqL.of (sm _ _ (by simpa using hfa) hf9)
      · rintro i y H10 hi ⟨acc, rs, sm10, hw10, h10, hacc, rl, okr⟩
        obtain ⟨b, p, rfl, ep, hpd⟩ := (hp9.keep (Kp.of sm10.same)).get hi
        have il : i < ps.length := (List.getElem?_eq_some_iff.mp ep).1
        have okp := ok8 p (List.mem_of_getElem? ep)
        have al := hacc.length
        refine ⟨rfl, yesT (iteT ?_)⟩
        refine ⟨_, rfl, _, rfl, _, rfl, _, rfl, a, nl, b, nms, p, most, _, rfl, sm10 _ _ (by simpa using nla) n9, nla, hN, hpd, okp.2, okp.1.2, m12', hw10, by omega, fun r H11 vs p' sm11 hw11 hrn hr11 hat11 hle hok => ?_⟩
        have h11 := sm11 _ _ (by simpa using Da) h10
        have rD : r ≠ D := (ne_of_none h10 hrn).symm
        have ra : r ≠ a := (ne_of_none hw10.some.choose_spec hrn).symm
        have hpd' := pd_two hw11 h11 ra rD hr11 hat11
        refine ⟨acc, h11, by rw [sz]; omega, acc ++ [.ref r], rs ++ [p'], fun c o hc e => ?_, (hw11.keep fun o e => by rw [upd_ne Da.symm]; exact e).mono (by omega), upd_same, ?_, by rw [List.length_append, rl]; rfl, fun z hz => ?_⟩
        · rw [upd_ne (ne_of_none e hD)]
          exact sm11 _ _ hc (sm10 _ _ hc e)
        · have h1 : PdsAt (wo [a, D] H11) (acc ++ [.ref r]) (rs ++ [p']) := PdsAt.snoc hpd' (hacc.keep (kp_two fun b o hb e => sm11 b o (by simp at hb ⊢; exact hb.1) e))
          exact h1.keep (kp_two fun b o hb e => by rw [upd_ne (by rintro rfl; simp at hb)]; exact e)
        · rcases List.mem_append.mp hz with h | h
          · exact okr z h
          · rw [List.mem_singleton.mp h]; exact ⟨by omega, hok⟩
      rintro H10 ⟨acc, rs, sm10, hw10, h10, hacc, rl, okr⟩
      have okR : okPs rs := ⟨by have := okP.1; omega, okr⟩
      have p12 := okP.1
      have hw10 : WellAt H10 a (M + 40200) := hw10.mono (by omega)
      have hacc := hacc.keep kp_less
      have hf10 := sm10 _ _ (by simpa using hfa) hf9
      have hg10 := sm10 _ _ (by simpa using hga) hg9
      have hp10 := hp9.keep (Kp.of sm10.same)
      have hq10 := hq9.keep (Kp.of sm10.same)
      have n10 := sm10 _ _ (by simpa using nla) n9
      refine ⟨_, rfl, _, rfl, _, rfl, _, rfl, f, vp, rfl, SqL.of hf10, fun c1 hc1 => ?_⟩
      have ed : cutV vp (some (1 : Int)) none = vp.drop 1 := by
        cases vp with
        | nil => rfl
        | cons x r => exact cut_from (k := 1) (by simp)
      rw [ed]
      have t11 := same_upd0 hc1 (.lst (vp.drop 1))
      have g11 : (upd H10 c1 (.lst (vp.drop 1))) c1 = some (.lst (vp.drop 1)) := upd_same
      generalize upd H10 c1 (.lst (vp.drop 1)) = H11 at t11 g11 ⊢
      have c1a : c1 ≠ a := (ne_of_none hw10.some.choose_spec hc1).symm
      refine ⟨Nat.le_of_lt (small1000 (by simp)), fun L1 hL1 => ?_⟩
      have t12 := same_upd0 hL1 (.lst [V.ref g, V.ref D, V.ref c1])
      have g12 : (upd H11 L1 (.lst [V.ref g, V.ref D, V.ref c1])) L1 = some (.lst [V.ref g, V.ref D, V.ref c1]) := upd_same
      generalize upd H11 L1 (.lst [V.ref g, V.ref D, V.ref c1]) = H12 at t12 g12 ⊢
      have t1012 := t11.trans t12
      have hw12 := hw10.keep fun o e => t1012 _ _ e
      have L1a : L1 ≠ a := (ne_of_none (t11 _ _ hw10.some.choose_spec) hL1).symm
      have k12 : Kp (wo [a] H10) (wo [a] H12) := Kp.of (Sm.of_same t1012 : Sm [a] H10 H12).same
      have sm12 : Sm [a] H3 H12 := (((sm7.trans sm8).trans sm9).trans sm10).trans (Sm.of_same t1012)
      refine ⟨L1, rfl, ⟨_, SqL.of g12⟩, for_list (K := K) (a := L1) (xs := [V.ref g, V.ref D, V.ref c1]) (fun i σ H' => ∃ v8, σ = [some (.ref s), some (.int (0 + (k : Int))), some (.ref a), some (.int (0 + (t : Int))), some (.ref nl), some (.ref f), some (.ref g), some (.ref D), v8, some (.int (many : Int)), some (.int (most : Int)), none] ∧ Sm [a] H12 H' ∧ WellAt H' a (M + 40200 + i * 10000)) ⟨v8, rfl, Sm.of_same (Same.refl _), hw12.mono (by omega)⟩ ?_ ?_ ?_⟩
      · rintro i σ H' _ ⟨_, _, sm, _⟩
        exact SqL.of (sm _ _ (by simpa using L1a) g12)
      · rintro i y σ H13 hi ⟨v8, rfl, sm13, hw13⟩
        have i3 : i < 3 := (List.getElem?_eq_some_iff.mp hi).1
        obtain ⟨gg, vg, gs, rfl, hgg, gga, hpg, okg⟩ : ∃ (gg : Addr) (vg : List V) (gs : List Prd), y = .ref gg ∧ H12 gg = some (.lst vg) ∧ gg ≠ a ∧ PdsAt (wo [a] H12) vg gs ∧ okPs gs := by
          rcases (by omega : i = 0 ∨ i = 1 ∨ i = 2) with rfl | rfl | rfl
          · cases hi
            exact ⟨g, vq, qs, rfl, t1012 _ _ hg10, hga, hq10.keep k12, okQ⟩
          · cases hi
            exact ⟨D, acc, rs, rfl, t1012 _ _ h10, Da, hacc.keep k12, okR⟩
          · cases hi
            exact ⟨c1, _, _, rfl, t12 _ _ g11, c1a, PdsAt.tl (hp10.keep k12), okP.tl⟩
        have k13 : Kp (wo [a] H12) (wo [a] H13) := Kp.of sm13.same
        refine ⟨_, rfl, _, rfl, _, rfl, _, rfl, a, nl, f, gg, nms, vp, vg, ps, gs, M + 40200 + i * 10000, rfl, sm13 _ _ (by simpa using nla) (t1012 _ _ n10), nla, hN, sm13 _ _ (by simpa using hfa) (t1012 _ _ hf10), hfa, (hp10.keep k12).keep k13, okP, sm13 _ _ (by simpa using gga) hgg, gga, hpg.keep k13, okg, hw13, by omega, fun H14 sm14 hw14 => ⟨_, rfl, iteF ⟨_, rfl, sm13.trans sm14, hw14.mono (by omega)⟩⟩⟩
      · rintro σ H13 ⟨v8, rfl, sm13, hw13⟩
        refine ⟨_, _, _, _, _, _, _, _, rfl, fun b o e => ?_, ?_⟩
        · have hb : b ∉ [a] := by simp; exact ne_of_none e hnaH
          exact sm13 _ _ hb (sm12 _ _ hb (s3 _ _ e))
        · rw [hM2]
          exact hw13.mono (by simp only [List.length_cons, List.length_nil]; omega)
    · rintro σ H3 ⟨v3, v4, v5, v6, v7, v8, v9, v10, rfl, s3, hw3⟩
      exact ⟨_, _, _, _, _, _, _, _, _, _, rfl, s3⟩
  · rintro σ H1 ⟨v1, v2, v3, v4, v5, v6, v7, v8, v9, v10, rfl, s1⟩
    exact ru3 _ _ _ ⟨rfl, _, _, _, _, _, _, _, _, _, _, rfl⟩
end K09


set_option Elab.async false
set_option linter.all false
set_option maxRecDepth 100000
set_option maxHeartbeats 4000000
namespace K09
open PySem PySem.Spec PyProof.Rows L2 FA LiI
theorem all_mk {P : Program} {w : World} {K : PySem.W.Frag} {h : Heap} {mg : Str → Option Value} {fa : Addr} (X : K.In h) (G : h.Ns mainGlobals mg) (hfa : mg "law" = some (.ref fa))
    {fIsName : Addr} {odIsName anIsName : Option Addr} {slIsName : Array (Option Value)} {ocIsName kVIsName dcIsName pmIsName cdIsName ctIsName : Value}
    {fIsAtom : Addr} {odIsAtom anIsAtom : Option Addr} {slIsAtom : Array (Option Value)} {ocIsAtom kVIsAtom dcIsAtom pmIsAtom cdIsAtom ctIsAtom : Value}
    {fIsProduct : Addr} {odIsProduct anIsProduct : Option Addr} {slIsProduct : Array (Option Value)} {ocIsProduct kVIsProduct dcIsProduct pmIsProduct cdIsProduct ctIsProduct : Value}
    {fCheckProducts : Addr} {odCheckProducts anCheckProducts : Option Addr} {slCheckProducts : Array (Option Value)} {ocCheckProducts kVCheckProducts dcCheckProducts pmCheckProducts cdCheckProducts ctCheckProducts : Value}
    {fCheckWordOfNames : Addr} {odCheckWordOfNames anCheckWordOfNames : Option Addr} {slCheckWordOfNames : Array (Option Value)} {ocCheckWordOfNames kVCheckWordOfNames dcCheckWordOfNames pmCheckWordOfNames cdCheckWordOfNames ctCheckWordOfNames : Value}
    {fIsAtomWithin : Addr} {odIsAtomWithin anIsAtomWithin : Option Addr} {slIsAtomWithin : Array (Option Value)} {ocIsAtomWithin kVIsAtomWithin dcIsAtomWithin pmIsAtomWithin cdIsAtomWithin ctIsAtomWithin : Value}
    {fIsProductWithin : Addr} {odIsProductWithin anIsProductWithin : Option Addr} {slIsProductWithin : Array (Option Value)} {ocIsProductWithin kVIsProductWithin dcIsProductWithin pmIsProductWithin cdIsProductWithin ctIsProductWithin : Value}
    {fIsProductIn : Addr} {odIsProductIn anIsProductIn : Option Addr} {slIsProductIn : Array (Option Value)} {ocIsProductIn kVIsProductIn dcIsProductIn pmIsProductIn cdIsProductIn ctIsProductIn : Value}
    {fProductText : Addr} {odProductText anProductText : Option Addr} {slProductText : Array (Option Value)} {ocProductText kVProductText dcProductText pmProductText cdProductText ctProductText : Value}
    {fWithoutIdleAtoms : Addr} {odWithoutIdleAtoms anWithoutIdleAtoms : Option Addr} {slWithoutIdleAtoms : Array (Option Value)} {ocWithoutIdleAtoms kVWithoutIdleAtoms dcWithoutIdleAtoms pmWithoutIdleAtoms cdWithoutIdleAtoms ctWithoutIdleAtoms : Value}
    {fNormalForm : Addr} {odNormalForm anNormalForm : Option Addr} {slNormalForm : Array (Option Value)} {ocNormalForm kVNormalForm dcNormalForm pmNormalForm cdNormalForm ctNormalForm : Value}
    {fWordIn : Addr} {odWordIn anWordIn : Option Addr} {slWordIn : Array (Option Value)} {ocWordIn kVWordIn dcWordIn pmWordIn cdWordIn ctWordIn : Value}
    {fIncludes : Addr} {odIncludes anIncludes : Option Addr} {slIncludes : Array (Option Value)} {ocIncludes kVIncludes dcIncludes pmIncludes cdIncludes ctIncludes : Value}
    {fReduced : Addr} {odReduced anReduced : Option Addr} {slReduced : Array (Option Value)} {ocReduced kVReduced dcReduced pmReduced cdReduced ctReduced : Value}
    {fLPouch : Addr} {odLPouch anLPouch : Option Addr} {slLPouch : Array (Option Value)} {ocLPouch kVLPouch dcLPouch pmLPouch cdLPouch ctLPouch : Value}
    {fLPick : Addr} {odLPick anLPick : Option Addr} {slLPick : Array (Option Value)} {ocLPick kVLPick dcLPick pmLPick cdLPick ctLPick : Value}
    {fLProduct : Addr} {odLProduct anLProduct : Option Addr} {slLProduct : Array (Option Value)} {ocLProduct kVLProduct dcLProduct pmLProduct cdLProduct ctLProduct : Value}
    {fLBent : Addr} {odLBent anLBent : Option Addr} {slLBent : Array (Option Value)} {ocLBent kVLBent dcLBent pmLBent cdLBent ctLBent : Value}
    {fLProducts : Addr} {odLProducts anLProducts : Option Addr} {slLProducts : Array (Option Value)} {ocLProducts kVLProducts dcLProducts pmLProducts cdLProducts ctLProducts : Value}
    {fLInProduct : Addr} {odLInProduct anLInProduct : Option Addr} {slLInProduct : Array (Option Value)} {ocLInProduct kVLInProduct dcLInProduct pmLInProduct cdLInProduct ctLInProduct : Value}
    {fLLongest : Addr} {odLLongest anLLongest : Option Addr} {slLLongest : Array (Option Value)} {ocLLongest kVLLongest dcLLongest pmLLongest cdLLongest ctLLongest : Value}
    {fLAllIn : Addr} {odLAllIn anLAllIn : Option Addr} {slLAllIn : Array (Option Value)} {ocLAllIn kVLAllIn dcLAllIn pmLAllIn cdLAllIn ctLAllIn : Value}
    {fLText : Addr} {odLText anLText : Option Addr} {slLText : Array (Option Value)} {ocLText kVLText dcLText pmLText cdLText ctLText : Value}
    {fLIsPlain : Addr} {odLIsPlain anLIsPlain : Option Addr} {slLIsPlain : Array (Option Value)} {ocLIsPlain kVLIsPlain dcLIsPlain pmLIsPlain cdLIsPlain ctLIsPlain : Value}
    {fLIsNormal : Addr} {odLIsNormal anLIsNormal : Option Addr} {slLIsNormal : Array (Option Value)} {ocLIsNormal kVLIsNormal dcLIsNormal pmLIsNormal cdLIsNormal ctLIsNormal : Value}
    {fLSame : Addr} {odLSame anLSame : Option Addr} {slLSame : Array (Option Value)} {ocLSame kVLSame dcLSame pmLSame cdLSame ctLSame : Value}
    {fLWord : Addr} {odLWord anLWord : Option Addr} {slLWord : Array (Option Value)} {ocLWord kVLWord dcLWord pmLWord cdLWord ctLWord : Value}
    {fLRight : Addr} {odLRight anLRight : Option Addr} {slLRight : Array (Option Value)} {ocLRight kVLRight dcLRight pmLRight cdLRight ctLRight : Value}
    {fLaw : Addr} {odLaw anLaw : Option Addr} {slLaw : Array (Option Value)} {ocLaw kVLaw dcLaw pmLaw cdLaw ctLaw : Value}
    {tMOST_ATOMS : Tok}
    {tMOST_LETTERS : Tok}
    {tMOST_NAMES_IN_TUPLE : Tok}
    {tMOST_PRODUCTS : Tok}
    (aIsName : PySem.W.nsIn K mainGlobals "is_name" = some (some (.ref fIsName)))
    (lIsName : K.lookup fIsName = some ⟨ocIsName, odIsName, .func (PySem.W.fnOf "is_name" "is_name" (defArgs sIsName) (defBody sIsName) (defScope sIsName) .none kVIsName dcIsName pmIsName anIsName cdIsName ctIsName), slIsName⟩)
    (cIsName : PySem.W.codeIn K cdIsName "is_name" = true) (kIsName : PySem.W.keepIn K (.ref fIsName) = true)
    (aIsAtom : PySem.W.nsIn K mainGlobals "_is_atom" = some (some (.ref fIsAtom)))
    (lIsAtom : K.lookup fIsAtom = some ⟨ocIsAtom, odIsAtom, .func (PySem.W.fnOf "_is_atom" "_is_atom" (defArgs sIsAtom) (defBody sIsAtom) (defScope sIsAtom) .none kVIsAtom dcIsAtom pmIsAtom anIsAtom cdIsAtom ctIsAtom), slIsAtom⟩)
    (cIsAtom : PySem.W.codeIn K cdIsAtom "_is_atom" = true) (kIsAtom : PySem.W.keepIn K (.ref fIsAtom) = true)
    (aIsProduct : PySem.W.nsIn K mainGlobals "_is_product" = some (some (.ref fIsProduct)))
    (lIsProduct : K.lookup fIsProduct = some ⟨ocIsProduct, odIsProduct, .func (PySem.W.fnOf "_is_product" "_is_product" (defArgs sIsProduct) (defBody sIsProduct) (defScope sIsProduct) .none kVIsProduct dcIsProduct pmIsProduct anIsProduct cdIsProduct ctIsProduct), slIsProduct⟩)
    (cIsProduct : PySem.W.codeIn K cdIsProduct "_is_product" = true) (kIsProduct : PySem.W.keepIn K (.ref fIsProduct) = true)
    (aCheckProducts : PySem.W.nsIn K mainGlobals "_check_products" = some (some (.ref fCheckProducts)))
    (lCheckProducts : K.lookup fCheckProducts = some ⟨ocCheckProducts, odCheckProducts, .func (PySem.W.fnOf "_check_products" "_check_products" (defArgs sCheckProducts) (defBody sCheckProducts) (defScope sCheckProducts) .none kVCheckProducts dcCheckProducts pmCheckProducts anCheckProducts cdCheckProducts ctCheckProducts), slCheckProducts⟩)
    (cCheckProducts : PySem.W.codeIn K cdCheckProducts "_check_products" = true) (kCheckProducts : PySem.W.keepIn K (.ref fCheckProducts) = true)
    (aCheckWordOfNames : PySem.W.nsIn K mainGlobals "_check_word_of_names" = some (some (.ref fCheckWordOfNames)))
    (lCheckWordOfNames : K.lookup fCheckWordOfNames = some ⟨ocCheckWordOfNames, odCheckWordOfNames, .func (PySem.W.fnOf "_check_word_of_names" "_check_word_of_names" (defArgs sCheckWordOfNames) (defBody sCheckWordOfNames) (defScope sCheckWordOfNames) .none kVCheckWordOfNames dcCheckWordOfNames pmCheckWordOfNames anCheckWordOfNames cdCheckWordOfNames ctCheckWordOfNames), slCheckWordOfNames⟩)
    (cCheckWordOfNames : PySem.W.codeIn K cdCheckWordOfNames "_check_word_of_names" = true) (kCheckWordOfNames : PySem.W.keepIn K (.ref fCheckWordOfNames) = true)
    (aIsAtomWithin : PySem.W.nsIn K mainGlobals "is_atom_within" = some (some (.ref fIsAtomWithin)))
    (lIsAtomWithin : K.lookup fIsAtomWithin = some ⟨ocIsAtomWithin, odIsAtomWithin, .func (PySem.W.fnOf "is_atom_within" "is_atom_within" (defArgs sIsAtomWithin) (defBody sIsAtomWithin) (defScope sIsAtomWithin) .none kVIsAtomWithin dcIsAtomWithin pmIsAtomWithin anIsAtomWithin cdIsAtomWithin ctIsAtomWithin), slIsAtomWithin⟩)
    (cIsAtomWithin : PySem.W.codeIn K cdIsAtomWithin "is_atom_within" = true) (kIsAtomWithin : PySem.W.keepIn K (.ref fIsAtomWithin) = true)
    (aIsProductWithin : PySem.W.nsIn K mainGlobals "_is_product_within" = some (some (.ref fIsProductWithin)))
    (lIsProductWithin : K.lookup fIsProductWithin = some ⟨ocIsProductWithin, odIsProductWithin, .func (PySem.W.fnOf "_is_product_within" "_is_product_within" (defArgs sIsProductWithin) (defBody sIsProductWithin) (defScope sIsProductWithin) .none kVIsProductWithin dcIsProductWithin pmIsProductWithin anIsProductWithin cdIsProductWithin ctIsProductWithin), slIsProductWithin⟩)
    (cIsProductWithin : PySem.W.codeIn K cdIsProductWithin "_is_product_within" = true) (kIsProductWithin : PySem.W.keepIn K (.ref fIsProductWithin) = true)
    (aIsProductIn : PySem.W.nsIn K mainGlobals "is_product_in" = some (some (.ref fIsProductIn)))
    (lIsProductIn : K.lookup fIsProductIn = some ⟨ocIsProductIn, odIsProductIn, .func (PySem.W.fnOf "is_product_in" "is_product_in" (defArgs sIsProductIn) (defBody sIsProductIn) (defScope sIsProductIn) .none kVIsProductIn dcIsProductIn pmIsProductIn anIsProductIn cdIsProductIn ctIsProductIn), slIsProductIn⟩)
    (cIsProductIn : PySem.W.codeIn K cdIsProductIn "is_product_in" = true) (kIsProductIn : PySem.W.keepIn K (.ref fIsProductIn) = true)
    (aProductText : PySem.W.nsIn K mainGlobals "product_text" = some (some (.ref fProductText)))
    (lProductText : K.lookup fProductText = some ⟨ocProductText, odProductText, .func (PySem.W.fnOf "product_text" "product_text" (defArgs sProductText) (defBody sProductText) (defScope sProductText) .none kVProductText dcProductText pmProductText anProductText cdProductText ctProductText), slProductText⟩)
    (cProductText : PySem.W.codeIn K cdProductText "product_text" = true) (kProductText : PySem.W.keepIn K (.ref fProductText) = true)
    (aWithoutIdleAtoms : PySem.W.nsIn K mainGlobals "_without_idle_atoms" = some (some (.ref fWithoutIdleAtoms)))
    (lWithoutIdleAtoms : K.lookup fWithoutIdleAtoms = some ⟨ocWithoutIdleAtoms, odWithoutIdleAtoms, .func (PySem.W.fnOf "_without_idle_atoms" "_without_idle_atoms" (defArgs sWithoutIdleAtoms) (defBody sWithoutIdleAtoms) (defScope sWithoutIdleAtoms) .none kVWithoutIdleAtoms dcWithoutIdleAtoms pmWithoutIdleAtoms anWithoutIdleAtoms cdWithoutIdleAtoms ctWithoutIdleAtoms), slWithoutIdleAtoms⟩)
    (cWithoutIdleAtoms : PySem.W.codeIn K cdWithoutIdleAtoms "_without_idle_atoms" = true) (kWithoutIdleAtoms : PySem.W.keepIn K (.ref fWithoutIdleAtoms) = true)
    (aNormalForm : PySem.W.nsIn K mainGlobals "_normal_form" = some (some (.ref fNormalForm)))
    (lNormalForm : K.lookup fNormalForm = some ⟨ocNormalForm, odNormalForm, .func (PySem.W.fnOf "_normal_form" "_normal_form" (defArgs sNormalForm) (defBody sNormalForm) (defScope sNormalForm) .none kVNormalForm dcNormalForm pmNormalForm anNormalForm cdNormalForm ctNormalForm), slNormalForm⟩)
    (cNormalForm : PySem.W.codeIn K cdNormalForm "_normal_form" = true) (kNormalForm : PySem.W.keepIn K (.ref fNormalForm) = true)
    (aWordIn : PySem.W.nsIn K mainGlobals "word_in" = some (some (.ref fWordIn)))
    (lWordIn : K.lookup fWordIn = some ⟨ocWordIn, odWordIn, .func (PySem.W.fnOf "word_in" "word_in" (defArgs sWordIn) (defBody sWordIn) (defScope sWordIn) .none kVWordIn dcWordIn pmWordIn anWordIn cdWordIn ctWordIn), slWordIn⟩)
    (cWordIn : PySem.W.codeIn K cdWordIn "word_in" = true) (kWordIn : PySem.W.keepIn K (.ref fWordIn) = true)
    (aIncludes : PySem.W.nsIn K mainGlobals "includes" = some (some (.ref fIncludes)))
    (lIncludes : K.lookup fIncludes = some ⟨ocIncludes, odIncludes, .func (PySem.W.fnOf "includes" "includes" (defArgs sIncludes) (defBody sIncludes) (defScope sIncludes) .none kVIncludes dcIncludes pmIncludes anIncludes cdIncludes ctIncludes), slIncludes⟩)
    (cIncludes : PySem.W.codeIn K cdIncludes "includes" = true) (kIncludes : PySem.W.keepIn K (.ref fIncludes) = true)
    (aReduced : PySem.W.nsIn K mainGlobals "reduced" = some (some (.ref fReduced)))
    (lReduced : K.lookup fReduced = some ⟨ocReduced, odReduced, .func (PySem.W.fnOf "reduced" "reduced" (defArgs sReduced) (defBody sReduced) (defScope sReduced) .none kVReduced dcReduced pmReduced anReduced cdReduced ctReduced), slReduced⟩)
    (cReduced : PySem.W.codeIn K cdReduced "reduced" = true) (kReduced : PySem.W.keepIn K (.ref fReduced) = true)
    (aLPouch : PySem.W.nsIn K mainGlobals "_law_pouch" = some (some (.ref fLPouch)))
    (lLPouch : K.lookup fLPouch = some ⟨ocLPouch, odLPouch, .func (PySem.W.fnOf "_law_pouch" "_law_pouch" (defArgs sLPouch) (defBody sLPouch) (defScope sLPouch) .none kVLPouch dcLPouch pmLPouch anLPouch cdLPouch ctLPouch), slLPouch⟩)
    (cLPouch : PySem.W.codeIn K cdLPouch "_law_pouch" = true) (kLPouch : PySem.W.keepIn K (.ref fLPouch) = true)
    (aLPick : PySem.W.nsIn K mainGlobals "_law_pick" = some (some (.ref fLPick)))
    (lLPick : K.lookup fLPick = some ⟨ocLPick, odLPick, .func (PySem.W.fnOf "_law_pick" "_law_pick" (defArgs sLPick) (defBody sLPick) (defScope sLPick) .none kVLPick dcLPick pmLPick anLPick cdLPick ctLPick), slLPick⟩)
    (cLPick : PySem.W.codeIn K cdLPick "_law_pick" = true) (kLPick : PySem.W.keepIn K (.ref fLPick) = true)
    (aLProduct : PySem.W.nsIn K mainGlobals "_law_product" = some (some (.ref fLProduct)))
    (lLProduct : K.lookup fLProduct = some ⟨ocLProduct, odLProduct, .func (PySem.W.fnOf "_law_product" "_law_product" (defArgs sLProduct) (defBody sLProduct) (defScope sLProduct) .none kVLProduct dcLProduct pmLProduct anLProduct cdLProduct ctLProduct), slLProduct⟩)
    (cLProduct : PySem.W.codeIn K cdLProduct "_law_product" = true) (kLProduct : PySem.W.keepIn K (.ref fLProduct) = true)
    (aLBent : PySem.W.nsIn K mainGlobals "_law_bent" = some (some (.ref fLBent)))
    (lLBent : K.lookup fLBent = some ⟨ocLBent, odLBent, .func (PySem.W.fnOf "_law_bent" "_law_bent" (defArgs sLBent) (defBody sLBent) (defScope sLBent) .none kVLBent dcLBent pmLBent anLBent cdLBent ctLBent), slLBent⟩)
    (cLBent : PySem.W.codeIn K cdLBent "_law_bent" = true) (kLBent : PySem.W.keepIn K (.ref fLBent) = true)
    (aLProducts : PySem.W.nsIn K mainGlobals "_law_products" = some (some (.ref fLProducts)))
    (lLProducts : K.lookup fLProducts = some ⟨ocLProducts, odLProducts, .func (PySem.W.fnOf "_law_products" "_law_products" (defArgs sLProducts) (defBody sLProducts) (defScope sLProducts) .none kVLProducts dcLProducts pmLProducts anLProducts cdLProducts ctLProducts), slLProducts⟩)
    (cLProducts : PySem.W.codeIn K cdLProducts "_law_products" = true) (kLProducts : PySem.W.keepIn K (.ref fLProducts) = true)
    (aLInProduct : PySem.W.nsIn K mainGlobals "_law_in_product" = some (some (.ref fLInProduct)))
    (lLInProduct : K.lookup fLInProduct = some ⟨ocLInProduct, odLInProduct, .func (PySem.W.fnOf "_law_in_product" "_law_in_product" (defArgs sLInProduct) (defBody sLInProduct) (defScope sLInProduct) .none kVLInProduct dcLInProduct pmLInProduct anLInProduct cdLInProduct ctLInProduct), slLInProduct⟩)
    (cLInProduct : PySem.W.codeIn K cdLInProduct "_law_in_product" = true) (kLInProduct : PySem.W.keepIn K (.ref fLInProduct) = true)
    (aLLongest : PySem.W.nsIn K mainGlobals "_law_longest" = some (some (.ref fLLongest)))
    (lLLongest : K.lookup fLLongest = some ⟨ocLLongest, odLLongest, .func (PySem.W.fnOf "_law_longest" "_law_longest" (defArgs sLLongest) (defBody sLLongest) (defScope sLLongest) .none kVLLongest dcLLongest pmLLongest anLLongest cdLLongest ctLLongest), slLLongest⟩)
    (cLLongest : PySem.W.codeIn K cdLLongest "_law_longest" = true) (kLLongest : PySem.W.keepIn K (.ref fLLongest) = true)
    (aLAllIn : PySem.W.nsIn K mainGlobals "_law_all_in" = some (some (.ref fLAllIn)))
    (lLAllIn : K.lookup fLAllIn = some ⟨ocLAllIn, odLAllIn, .func (PySem.W.fnOf "_law_all_in" "_law_all_in" (defArgs sLAllIn) (defBody sLAllIn) (defScope sLAllIn) .none kVLAllIn dcLAllIn pmLAllIn anLAllIn cdLAllIn ctLAllIn), slLAllIn⟩)
    (cLAllIn : PySem.W.codeIn K cdLAllIn "_law_all_in" = true) (kLAllIn : PySem.W.keepIn K (.ref fLAllIn) = true)
    (aLText : PySem.W.nsIn K mainGlobals "_law_text" = some (some (.ref fLText)))
    (lLText : K.lookup fLText = some ⟨ocLText, odLText, .func (PySem.W.fnOf "_law_text" "_law_text" (defArgs sLText) (defBody sLText) (defScope sLText) .none kVLText dcLText pmLText anLText cdLText ctLText), slLText⟩)
    (cLText : PySem.W.codeIn K cdLText "_law_text" = true) (kLText : PySem.W.keepIn K (.ref fLText) = true)
    (aLIsPlain : PySem.W.nsIn K mainGlobals "_law_is_plain" = some (some (.ref fLIsPlain)))
    (lLIsPlain : K.lookup fLIsPlain = some ⟨ocLIsPlain, odLIsPlain, .func (PySem.W.fnOf "_law_is_plain" "_law_is_plain" (defArgs sLIsPlain) (defBody sLIsPlain) (defScope sLIsPlain) .none kVLIsPlain dcLIsPlain pmLIsPlain anLIsPlain cdLIsPlain ctLIsPlain), slLIsPlain⟩)
    (cLIsPlain : PySem.W.codeIn K cdLIsPlain "_law_is_plain" = true) (kLIsPlain : PySem.W.keepIn K (.ref fLIsPlain) = true)
    (aLIsNormal : PySem.W.nsIn K mainGlobals "_law_is_normal" = some (some (.ref fLIsNormal)))
    (lLIsNormal : K.lookup fLIsNormal = some ⟨ocLIsNormal, odLIsNormal, .func (PySem.W.fnOf "_law_is_normal" "_law_is_normal" (defArgs sLIsNormal) (defBody sLIsNormal) (defScope sLIsNormal) .none kVLIsNormal dcLIsNormal pmLIsNormal anLIsNormal cdLIsNormal ctLIsNormal), slLIsNormal⟩)
    (cLIsNormal : PySem.W.codeIn K cdLIsNormal "_law_is_normal" = true) (kLIsNormal : PySem.W.keepIn K (.ref fLIsNormal) = true)
    (aLSame : PySem.W.nsIn K mainGlobals "_law_same" = some (some (.ref fLSame)))
    (lLSame : K.lookup fLSame = some ⟨ocLSame, odLSame, .func (PySem.W.fnOf "_law_same" "_law_same" (defArgs sLSame) (defBody sLSame) (defScope sLSame) .none kVLSame dcLSame pmLSame anLSame cdLSame ctLSame), slLSame⟩)
    (cLSame : PySem.W.codeIn K cdLSame "_law_same" = true) (kLSame : PySem.W.keepIn K (.ref fLSame) = true)
    (aLWord : PySem.W.nsIn K mainGlobals "_law_word" = some (some (.ref fLWord)))
    (lLWord : K.lookup fLWord = some ⟨ocLWord, odLWord, .func (PySem.W.fnOf "_law_word" "_law_word" (defArgs sLWord) (defBody sLWord) (defScope sLWord) .none kVLWord dcLWord pmLWord anLWord cdLWord ctLWord), slLWord⟩)
    (cLWord : PySem.W.codeIn K cdLWord "_law_word" = true) (kLWord : PySem.W.keepIn K (.ref fLWord) = true)
    (aLRight : PySem.W.nsIn K mainGlobals "_law_right" = some (some (.ref fLRight)))
    (lLRight : K.lookup fLRight = some ⟨ocLRight, odLRight, .func (PySem.W.fnOf "_law_right" "_law_right" (defArgs sLRight) (defBody sLRight) (defScope sLRight) .none kVLRight dcLRight pmLRight anLRight cdLRight ctLRight), slLRight⟩)
    (cLRight : PySem.W.codeIn K cdLRight "_law_right" = true) (kLRight : PySem.W.keepIn K (.ref fLRight) = true)
    (aLaw : PySem.W.nsIn K mainGlobals "law" = some (some (.ref fLaw)))
    (lLaw : K.lookup fLaw = some ⟨ocLaw, odLaw, .func (PySem.W.fnOf "law" "law" (defArgs sLaw) (defBody sLaw) (defScope sLaw) .none kVLaw dcLaw pmLaw anLaw cdLaw ctLaw), slLaw⟩)
    (cLaw : PySem.W.codeIn K cdLaw "law" = true) (kLaw : PySem.W.keepIn K (.ref fLaw) = true)
    (z_abs : PySem.W.nsIn K mainGlobals "abs" = some none)
    (z_all : PySem.W.nsIn K mainGlobals "all" = some none)
    (z_any : PySem.W.nsIn K mainGlobals "any" = some none)
    (z_enumerate : PySem.W.nsIn K mainGlobals "enumerate" = some none)
    (z_isinstance : PySem.W.nsIn K mainGlobals "isinstance" = some none)
    (z_len : PySem.W.nsIn K mainGlobals "len" = some none)
    (z_list : PySem.W.nsIn K mainGlobals "list" = some none)
    (z_max : PySem.W.nsIn K mainGlobals "max" = some none)
    (z_min : PySem.W.nsIn K mainGlobals "min" = some none)
    (z_range : PySem.W.nsIn K mainGlobals "range" = some none)
    (z_repr : PySem.W.nsIn K mainGlobals "repr" = some none)
    (z_set : PySem.W.nsIn K mainGlobals "set" = some none)
    (z_sorted : PySem.W.nsIn K mainGlobals "sorted" = some none)
    (z_str : PySem.W.nsIn K mainGlobals "str" = some none)
    (z_tuple : PySem.W.nsIn K mainGlobals "tuple" = some none)
    (z_zip : PySem.W.nsIn K mainGlobals "zip" = some none)
    (q_MOST_ATOMS : PySem.W.nsIn K mainGlobals "MOST_ATOMS" = some (some (.int 12 tMOST_ATOMS)))
    (q_MOST_LETTERS : PySem.W.nsIn K mainGlobals "MOST_LETTERS" = some (some (.int 8 tMOST_LETTERS)))
    (q_MOST_NAMES_IN_TUPLE : PySem.W.nsIn K mainGlobals "MOST_NAMES_IN_TUPLE" = some (some (.int 5 tMOST_NAMES_IN_TUPLE)))
    (q_MOST_PRODUCTS : PySem.W.nsIn K mainGlobals "MOST_PRODUCTS" = some (some (.int 12 tMOST_PRODUCTS))) :
    ∃ fd : FuncData, (∀ (s : Shared) (v : Value), BindsTo s fd ⟨[v], []⟩ [("script", v)]) ∧ ∀ base : Heap, FA.SysB base → K.In base → base.Ns mainGlobals mg → FnG P w K mg base 7 fa fd ["script"] (spLaw (K := K)) := by
  have e := hfa.symm.trans (PySem.W.mg_of X G aLaw)
  cases e
  have FIsName := fun_mk (st := sIsName) lIsName cIsName kIsName
  have bIsName := FIsName.binds (ps := ["value"]) fun _ _ _ _ _ _ us hl => match us, hl with | [_], _ => rfl
  have FIsAtom := fun_mk (st := sIsAtom) lIsAtom cIsAtom kIsAtom
  have bIsAtom := FIsAtom.binds (ps := ["value"]) fun _ _ _ _ _ _ us hl => match us, hl with | [_], _ => rfl
  have FIsProduct := fun_mk (st := sIsProduct) lIsProduct cIsProduct kIsProduct
  have bIsProduct := FIsProduct.binds (ps := ["value"]) fun _ _ _ _ _ _ us hl => match us, hl with | [_], _ => rfl
  have FCheckProducts := fun_mk (st := sCheckProducts) lCheckProducts cCheckProducts kCheckProducts
  have bCheckProducts := FCheckProducts.binds (ps := ["products"]) fun _ _ _ _ _ _ us hl => match us, hl with | [_], _ => rfl
  have FCheckWordOfNames := fun_mk (st := sCheckWordOfNames) lCheckWordOfNames cCheckWordOfNames kCheckWordOfNames
  have bCheckWordOfNames := FCheckWordOfNames.binds (ps := ["word"]) fun _ _ _ _ _ _ us hl => match us, hl with | [_], _ => rfl
  have FIsAtomWithin := fun_mk (st := sIsAtomWithin) lIsAtomWithin cIsAtomWithin kIsAtomWithin
  have bIsAtomWithin := FIsAtomWithin.binds (ps := ["atom", "other"]) fun _ _ _ _ _ _ us hl => match us, hl with | [_, _], _ => rfl
  have FIsProductWithin := fun_mk (st := sIsProductWithin) lIsProductWithin cIsProductWithin kIsProductWithin
  have bIsProductWithin := FIsProductWithin.binds (ps := ["product", "other"]) fun _ _ _ _ _ _ us hl => match us, hl with | [_, _], _ => rfl
  have FIsProductIn := fun_mk (st := sIsProductIn) lIsProductIn cIsProductIn kIsProductIn
  have bIsProductIn := FIsProductIn.binds (ps := ["products", "product"]) fun _ _ _ _ _ _ us hl => match us, hl with | [_, _], _ => rfl
  have FProductText := fun_mk (st := sProductText) lProductText cProductText kProductText
  have bProductText := FProductText.binds (ps := ["product"]) fun _ _ _ _ _ _ us hl => match us, hl with | [_], _ => rfl
  have FWithoutIdleAtoms := fun_mk (st := sWithoutIdleAtoms) lWithoutIdleAtoms cWithoutIdleAtoms kWithoutIdleAtoms
  have bWithoutIdleAtoms := FWithoutIdleAtoms.binds (ps := ["product"]) fun _ _ _ _ _ _ us hl => match us, hl with | [_], _ => rfl
  have FNormalForm := fun_mk (st := sNormalForm) lNormalForm cNormalForm kNormalForm
  have bNormalForm := FNormalForm.binds (ps := ["products"]) fun _ _ _ _ _ _ us hl => match us, hl with | [_], _ => rfl
  have FWordIn := fun_mk (st := sWordIn) lWordIn cWordIn kWordIn
  have bWordIn := FWordIn.binds (ps := ["products", "word"]) fun _ _ _ _ _ _ us hl => match us, hl with | [_, _], _ => rfl
  have FIncludes := fun_mk (st := sIncludes) lIncludes cIncludes kIncludes
  have bIncludes := FIncludes.binds (ps := ["products", "other"]) fun _ _ _ _ _ _ us hl => match us, hl with | [_, _], _ => rfl
  have FReduced := fun_mk (st := sReduced) lReduced cReduced kReduced
  have bReduced := FReduced.binds (ps := ["products"]) fun _ _ _ _ _ _ us hl => match us, hl with | [_], _ => rfl
  have FLPouch := fun_mk (st := sLPouch) lLPouch cLPouch kLPouch
  have bLPouch := FLPouch.binds (ps := ["script", "index"]) fun _ _ _ _ _ _ us hl => match us, hl with | [_, _], _ => rfl
  have FLPick := fun_mk (st := sLPick) lLPick cLPick kLPick
  have bLPick := FLPick.binds (ps := ["pouch", "size"]) fun _ _ _ _ _ _ us hl => match us, hl with | [_, _], _ => rfl
  have FLProduct := fun_mk (st := sLProduct) lLProduct cLProduct kLProduct
  have bLProduct := FLProduct.binds (ps := ["pouch", "names", "most"]) fun _ _ _ _ _ _ us hl => match us, hl with | [_, _, _], _ => rfl
  have FLBent := fun_mk (st := sLBent) lLBent cLBent kLBent
  have bLBent := FLBent.binds (ps := ["pouch", "names", "whole", "most"]) fun _ _ _ _ _ _ us hl => match us, hl with | [_, _, _, _], _ => rfl
  have FLProducts := fun_mk (st := sLProducts) lLProducts cLProducts kLProducts
  have bLProducts := FLProducts.binds (ps := ["pouch", "names", "many", "most"]) fun _ _ _ _ _ _ us hl => match us, hl with | [_, _, _, _], _ => rfl
  have FLInProduct := fun_mk (st := sLInProduct) lLInProduct cLInProduct kLInProduct
  have bLInProduct := FLInProduct.binds (ps := ["product", "word"]) fun _ _ _ _ _ _ us hl => match us, hl with | [_, _], _ => rfl
  have FLLongest := fun_mk (st := sLLongest) lLLongest cLLongest kLLongest
  have bLLongest := FLLongest.binds (ps := ["product", "times"]) fun _ _ _ _ _ _ us hl => match us, hl with | [_, _], _ => rfl
  have FLAllIn := fun_mk (st := sLAllIn) lLAllIn cLAllIn kLAllIn
  have bLAllIn := FLAllIn.binds (ps := ["product", "products"]) fun _ _ _ _ _ _ us hl => match us, hl with | [_, _], _ => rfl
  have FLText := fun_mk (st := sLText) lLText cLText kLText
  have bLText := FLText.binds (ps := ["product"]) fun _ _ _ _ _ _ us hl => match us, hl with | [_], _ => rfl
  have FLIsPlain := fun_mk (st := sLIsPlain) lLIsPlain cLIsPlain kLIsPlain
  have bLIsPlain := FLIsPlain.binds (ps := ["found"]) fun _ _ _ _ _ _ us hl => match us, hl with | [_], _ => rfl
  have FLIsNormal := fun_mk (st := sLIsNormal) lLIsNormal cLIsNormal kLIsNormal
  have bLIsNormal := FLIsNormal.binds (ps := ["found"]) fun _ _ _ _ _ _ us hl => match us, hl with | [_], _ => rfl
  have FLSame := fun_mk (st := sLSame) lLSame cLSame kLSame
  have bLSame := FLSame.binds (ps := ["products", "others"]) fun _ _ _ _ _ _ us hl => match us, hl with | [_, _], _ => rfl
  have FLWord := fun_mk (st := sLWord) lLWord cLWord kLWord
  have bLWord := FLWord.binds (ps := ["pouch", "names", "products"]) fun _ _ _ _ _ _ us hl => match us, hl with | [_, _, _], _ => rfl
  have FLRight := fun_mk (st := sLRight) lLRight cLRight kLRight
  have bLRight := FLRight.binds (ps := ["pouch", "names", "products", "others"]) fun _ _ _ _ _ _ us hl => match us, hl with | [_, _, _, _], _ => rfl
  have FLaw := fun_mk (st := sLaw) lLaw cLaw kLaw
  have bLaw := FLaw.binds (ps := ["script"]) fun _ _ _ _ _ _ us hl => match us, hl with | [_], _ => rfl
  let T : Txt K mg := {
    aIsName := _, fIsName := _, FIsName := FIsName, bIsName := bIsName, gIsName := PySem.W.mg_of X G aIsName,
    aIsAtom := _, fIsAtom := _, FIsAtom := FIsAtom, bIsAtom := bIsAtom, gIsAtom := PySem.W.mg_of X G aIsAtom,
    aIsProduct := _, fIsProduct := _, FIsProduct := FIsProduct, bIsProduct := bIsProduct, gIsProduct := PySem.W.mg_of X G aIsProduct,
    aCheckProducts := _, fCheckProducts := _, FCheckProducts := FCheckProducts, bCheckProducts := bCheckProducts, gCheckProducts := PySem.W.mg_of X G aCheckProducts,
    aCheckWordOfNames := _, fCheckWordOfNames := _, FCheckWordOfNames := FCheckWordOfNames, bCheckWordOfNames := bCheckWordOfNames, gCheckWordOfNames := PySem.W.mg_of X G aCheckWordOfNames,
    aIsAtomWithin := _, fIsAtomWithin := _, FIsAtomWithin := FIsAtomWithin, bIsAtomWithin := bIsAtomWithin, gIsAtomWithin := PySem.W.mg_of X G aIsAtomWithin,
    aIsProductWithin := _, fIsProductWithin := _, FIsProductWithin := FIsProductWithin, bIsProductWithin := bIsProductWithin, gIsProductWithin := PySem.W.mg_of X G aIsProductWithin,
    aIsProductIn := _, fIsProductIn := _, FIsProductIn := FIsProductIn, bIsProductIn := bIsProductIn, gIsProductIn := PySem.W.mg_of X G aIsProductIn,
    aProductText := _, fProductText := _, FProductText := FProductText, bProductText := bProductText, gProductText := PySem.W.mg_of X G aProductText,
    aWithoutIdleAtoms := _, fWithoutIdleAtoms := _, FWithoutIdleAtoms := FWithoutIdleAtoms, bWithoutIdleAtoms := bWithoutIdleAtoms, gWithoutIdleAtoms := PySem.W.mg_of X G aWithoutIdleAtoms,
    aNormalForm := _, fNormalForm := _, FNormalForm := FNormalForm, bNormalForm := bNormalForm, gNormalForm := PySem.W.mg_of X G aNormalForm,
    aWordIn := _, fWordIn := _, FWordIn := FWordIn, bWordIn := bWordIn, gWordIn := PySem.W.mg_of X G aWordIn,
    aIncludes := _, fIncludes := _, FIncludes := FIncludes, bIncludes := bIncludes, gIncludes := PySem.W.mg_of X G aIncludes,
    aReduced := _, fReduced := _, FReduced := FReduced, bReduced := bReduced, gReduced := PySem.W.mg_of X G aReduced,
    aLPouch := _, fLPouch := _, FLPouch := FLPouch, bLPouch := bLPouch, gLPouch := PySem.W.mg_of X G aLPouch,
    aLPick := _, fLPick := _, FLPick := FLPick, bLPick := bLPick, gLPick := PySem.W.mg_of X G aLPick,
    aLProduct := _, fLProduct := _, FLProduct := FLProduct, bLProduct := bLProduct, gLProduct := PySem.W.mg_of X G aLProduct,
    aLBent := _, fLBent := _, FLBent := FLBent, bLBent := bLBent, gLBent := PySem.W.mg_of X G aLBent,
    aLProducts := _, fLProducts := _, FLProducts := FLProducts, bLProducts := bLProducts, gLProducts := PySem.W.mg_of X G aLProducts,
    aLInProduct := _, fLInProduct := _, FLInProduct := FLInProduct, bLInProduct := bLInProduct, gLInProduct := PySem.W.mg_of X G aLInProduct,
    aLLongest := _, fLLongest := _, FLLongest := FLLongest, bLLongest := bLLongest, gLLongest := PySem.W.mg_of X G aLLongest,
    aLAllIn := _, fLAllIn := _, FLAllIn := FLAllIn, bLAllIn := bLAllIn, gLAllIn := PySem.W.mg_of X G aLAllIn,
    aLText := _, fLText := _, FLText := FLText, bLText := bLText, gLText := PySem.W.mg_of X G aLText,
    aLIsPlain := _, fLIsPlain := _, FLIsPlain := FLIsPlain, bLIsPlain := bLIsPlain, gLIsPlain := PySem.W.mg_of X G aLIsPlain,
    aLIsNormal := _, fLIsNormal := _, FLIsNormal := FLIsNormal, bLIsNormal := bLIsNormal, gLIsNormal := PySem.W.mg_of X G aLIsNormal,
    aLSame := _, fLSame := _, FLSame := FLSame, bLSame := bLSame, gLSame := PySem.W.mg_of X G aLSame,
    aLWord := _, fLWord := _, FLWord := FLWord, bLWord := bLWord, gLWord := PySem.W.mg_of X G aLWord,
    aLRight := _, fLRight := _, FLRight := FLRight, bLRight := bLRight, gLRight := PySem.W.mg_of X G aLRight,
    aLaw := _, fLaw := _, FLaw := FLaw, bLaw := bLaw, gLaw := PySem.W.mg_of X G aLaw,
    n_abs := PySem.W.mg_none_of X G z_abs,
    n_all := PySem.W.mg_none_of X G z_all,
    n_any := PySem.W.mg_none_of X G z_any,
    n_enumerate := PySem.W.mg_none_of X G z_enumerate,
    n_isinstance := PySem.W.mg_none_of X G z_isinstance,
    n_len := PySem.W.mg_none_of X G z_len,
    n_list := PySem.W.mg_none_of X G z_list,
    n_max := PySem.W.mg_none_of X G z_max,
    n_min := PySem.W.mg_none_of X G z_min,
    n_range := PySem.W.mg_none_of X G z_range,
    n_repr := PySem.W.mg_none_of X G z_repr,
    n_set := PySem.W.mg_none_of X G z_set,
    n_sorted := PySem.W.mg_none_of X G z_sorted,
    n_str := PySem.W.mg_none_of X G z_str,
    n_tuple := PySem.W.mg_none_of X G z_tuple,
    n_zip := PySem.W.mg_none_of X G z_zip,
    t_MOST_ATOMS := tMOST_ATOMS, c_MOST_ATOMS := PySem.W.mg_of X G q_MOST_ATOMS,
    t_MOST_LETTERS := tMOST_LETTERS, c_MOST_LETTERS := PySem.W.mg_of X G q_MOST_LETTERS,
    t_MOST_NAMES_IN_TUPLE := tMOST_NAMES_IN_TUPLE, c_MOST_NAMES_IN_TUPLE := PySem.W.mg_of X G q_MOST_NAMES_IN_TUPLE,
    t_MOST_PRODUCTS := tMOST_PRODUCTS, c_MOST_PRODUCTS := PySem.W.mg_of X G q_MOST_PRODUCTS }
  refine ⟨PySem.W.fnOf "law" "law" (defArgs sLaw) (defBody sLaw) (defScope sLaw) .none kVLaw dcLaw pmLaw anLaw cdLaw ctLaw, fun s v => .of_eq rfl, fun base sy _ _ => ?_⟩
  exact okLaw (P := P) (w := w) (base := base) T sy
end K09
open PySem PySem.W PyProof.Rows
set_option maxRecDepth 100000 in
set_option maxHeartbeats 0 in
theorem PySem.Challenge.cw_stacksamples_k09_products_compared_holds : PySem.Challenge.rw_stacksamples_k09_products_compared.Holds := by
  w_on; o_law; k_head; (case hw => w_witness2)
  k_fill
  refine FA.walk_ofG (l := PySem.Challenge.rw_stacksamples_k09_products_compared) (n := 63) (k := 7) (x := "script") (sp := fun K => K09.spLaw (K := K)) rfl (by decide) (by decide +kernel) rfl ⟨rfl, by decide, by decide⟩ (fun w h Y => PySem.W.kIn_of Y) ?F (fun _ _ a ns hl _ hS => ⟨a, ns, rfl, hS, hl, fun _ => rfl⟩)
  case F =>
    intro w mg fa h KX G hmg
    refine' K09.all_mk KX G hmg ?aIsName ?lIsName ?cIsName ?kIsName ?aIsAtom ?lIsAtom ?cIsAtom ?kIsAtom ?aIsProduct ?lIsProduct ?cIsProduct ?kIsProduct ?aCheckProducts ?lCheckProducts ?cCheckProducts ?kCheckProducts ?aCheckWordOfNames ?lCheckWordOfNames ?cCheckWordOfNames ?kCheckWordOfNames ?aIsAtomWithin ?lIsAtomWithin ?cIsAtomWithin ?kIsAtomWithin ?aIsProductWithin ?lIsProductWithin ?cIsProductWithin ?kIsProductWithin ?aIsProductIn ?lIsProductIn ?cIsProductIn ?kIsProductIn ?aProductText ?lProductText ?cProductText ?kProductText ?aWithoutIdleAtoms ?lWithoutIdleAtoms ?cWithoutIdleAtoms ?kWithoutIdleAtoms ?aNormalForm ?lNormalForm ?cNormalForm ?kNormalForm ?aWordIn ?lWordIn ?cWordIn ?kWordIn ?aIncludes ?lIncludes ?cIncludes ?kIncludes ?aReduced ?lReduced ?cReduced ?kReduced ?aLPouch ?lLPouch ?cLPouch ?kLPouch ?aLPick ?lLPick ?cLPick ?kLPick ?aLProduct ?lLProduct ?cLProduct ?kLProduct ?aLBent ?lLBent ?cLBent ?kLBent ?aLProducts ?lLProducts ?cLProducts ?kLProducts ?aLInProduct ?lLInProduct ?cLInProduct ?kLInProduct ?aLLongest ?lLLongest ?cLLongest ?kLLongest ?aLAllIn ?lLAllIn ?cLAllIn ?kLAllIn ?aLText ?lLText ?cLText ?kLText ?aLIsPlain ?lLIsPlain ?cLIsPlain ?kLIsPlain ?aLIsNormal ?lLIsNormal ?cLIsNormal ?kLIsNormal ?aLSame ?lLSame ?cLSame ?kLSame ?aLWord ?lLWord ?cLWord ?kLWord ?aLRight ?lLRight ?cLRight ?kLRight ?aLaw ?lLaw ?cLaw ?kLaw ?z_abs ?z_all ?z_any ?z_enumerate ?z_isinstance ?z_len ?z_list ?z_max ?z_min ?z_range ?z_repr ?z_set ?z_sorted ?z_str ?z_tuple ?z_zip ?q_MOST_ATOMS ?q_MOST_LETTERS ?q_MOST_NAMES_IN_TUPLE ?q_MOST_PRODUCTS
    (case aIsName => k_is); (case lIsName => k_is); (case cIsName => k_is); (case kIsName => k_is)
    (case aIsAtom => k_is); (case lIsAtom => k_is); (case cIsAtom => k_is); (case kIsAtom => k_is)
    (case aIsProduct => k_is); (case lIsProduct => k_is); (case cIsProduct => k_is); (case kIsProduct => k_is)
    (case aCheckProducts => k_is); (case lCheckProducts => k_is); (case cCheckProducts => k_is); (case kCheckProducts => k_is)
    (case aCheckWordOfNames => k_is); (case lCheckWordOfNames => k_is); (case cCheckWordOfNames => k_is); (case kCheckWordOfNames => k_is)
    (case aIsAtomWithin => k_is); (case lIsAtomWithin => k_is); (case cIsAtomWithin => k_is); (case kIsAtomWithin => k_is)
    (case aIsProductWithin => k_is); (case lIsProductWithin => k_is); (case cIsProductWithin => k_is); (case kIsProductWithin => k_is)
    (case aIsProductIn => k_is); (case lIsProductIn => k_is); (case cIsProductIn => k_is); (case kIsProductIn => k_is)
    (case aProductText => k_is); (case lProductText => k_is); (case cProductText => k_is); (case kProductText => k_is)
    (case aWithoutIdleAtoms => k_is); (case lWithoutIdleAtoms => k_is); (case cWithoutIdleAtoms => k_is); (case kWithoutIdleAtoms => k_is)
    (case aNormalForm => k_is); (case lNormalForm => k_is); (case cNormalForm => k_is); (case kNormalForm => k_is)
    (case aWordIn => k_is); (case lWordIn => k_is); (case cWordIn => k_is); (case kWordIn => k_is)
    (case aIncludes => k_is); (case lIncludes => k_is); (case cIncludes => k_is); (case kIncludes => k_is)
    (case aReduced => k_is); (case lReduced => k_is); (case cReduced => k_is); (case kReduced => k_is)
    (case aLPouch => k_is); (case lLPouch => k_is); (case cLPouch => k_is); (case kLPouch => k_is)
    (case aLPick => k_is); (case lLPick => k_is); (case cLPick => k_is); (case kLPick => k_is)
    (case aLProduct => k_is); (case lLProduct => k_is); (case cLProduct => k_is); (case kLProduct => k_is)
    (case aLBent => k_is); (case lLBent => k_is); (case cLBent => k_is); (case kLBent => k_is)
    (case aLProducts => k_is); (case lLProducts => k_is); (case cLProducts => k_is); (case kLProducts => k_is)
    (case aLInProduct => k_is); (case lLInProduct => k_is); (case cLInProduct => k_is); (case kLInProduct => k_is)
    (case aLLongest => k_is); (case lLLongest => k_is); (case cLLongest => k_is); (case kLLongest => k_is)
    (case aLAllIn => k_is); (case lLAllIn => k_is); (case cLAllIn => k_is); (case kLAllIn => k_is)
    (case aLText => k_is); (case lLText => k_is); (case cLText => k_is); (case kLText => k_is)
    (case aLIsPlain => k_is); (case lLIsPlain => k_is); (case cLIsPlain => k_is); (case kLIsPlain => k_is)
    (case aLIsNormal => k_is); (case lLIsNormal => k_is); (case cLIsNormal => k_is); (case kLIsNormal => k_is)
    (case aLSame => k_is); (case lLSame => k_is); (case cLSame => k_is); (case kLSame => k_is)
    (case aLWord => k_is); (case lLWord => k_is); (case cLWord => k_is); (case kLWord => k_is)
    (case aLRight => k_is); (case lLRight => k_is); (case cLRight => k_is); (case kLRight => k_is)
    (case aLaw => k_is); (case lLaw => k_is); (case cLaw => k_is); (case kLaw => k_is)
    (case z_abs => k_is)
    (case z_all => k_is)
    (case z_any => k_is)
    (case z_enumerate => k_is)
    (case z_isinstance => k_is)
    (case z_len => k_is)
    (case z_list => k_is)
    (case z_max => k_is)
    (case z_min => k_is)
    (case z_range => k_is)
    (case z_repr => k_is)
    (case z_set => k_is)
    (case z_sorted => k_is)
    (case z_str => k_is)
    (case z_tuple => k_is)
    (case z_zip => k_is)
    (case q_MOST_ATOMS => k_is)
    (case q_MOST_LETTERS => k_is)
    (case q_MOST_NAMES_IN_TUPLE => k_is)
    (case q_MOST_PRODUCTS => k_is)


