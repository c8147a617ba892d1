import PyProof.Rows.All
import Wide.All
import OpenK.AllK
import Wide.FinOn
import HandS.ForMost
import HandS.Deep
import HandS.DictComp
import HandS.ListItems
import HandS.Wide
import HandS.IsInst
import HandS.Style
import HandS.SetFor
import PyProof.StrOps2
import PyProof.ReprRoads
import PyProof.ListStr
import HandS.TupAny
import HandS.Strs
import HandS.SetBool
import PySem.Challenge.RW_stacksamples_k05_starts_of_functions
set_option Elab.async false
set_option linter.all false
set_option maxRecDepth 100000
set_option maxHeartbeats 4000000
/-! What the hand layer lacked for these laws: powers of great numbers, a text repeated, list.count of data, repr of data (where nothing that shows itself is under way). -/
namespace FA
open PySem PySem.Spec PyProof.Rows L2

theorem bits_of {i : Int} {n : Nat} (h : i.natAbs < 2 ^ n) (h0 : 0 < n) : Builtin.Int.intBits i ≤ n := by
  have x := PySem.Flt.log2_lt_of h0 h
  unfold Builtin.Int.intBits
  split <;> omega
/-- i ** j, i below a million bits, j at most 100 -/
def CPowW (i j : Int) : Prop := 0 ≤ j ∧ j ≤ 100 ∧ i.natAbs < 2 ^ 1000000
/-- the text of n signs x -/
def exes (n : Nat) : Str := ⟨(List.replicate n 120).toArray⟩
section
variable {X : Cx}
theorem op_powW : OpR X (binaryOp .Pow) (rI CPowW fun i j => .int (i ^ j.toNat)) := opI fun i j _ _ _ _ _ hc q => by
  obtain ⟨h0, h1, h2⟩ := hc
  refine pow_int h0 ?_ q
  have b := bits_of h2 (by decide)
  have e : ((2 : Int) ^ 27) = 134217728 := by decide
  rw [e]
  have c : (Builtin.Int.intBits i : Int) * j ≤ 1000000 * 100 := Int.mul_le_mul (by omega) h1 h0 (by decide)
  omega
/-- 'x' * n -/
theorem op_mul_x : OpR X (binaryOp .Mult) (fun x y H Q => ∃ n : Nat, x = .str "x" ∧ y = .int (n : Int) ∧ 1 ≤ n ∧ n ≤ 4 ∧ Q (.str (exes n)) H) := by
  intro pins s σ H x y v u Q I rx ry h
  obtain ⟨n, rfl, rfl, h1, h2, q⟩ := h
  obtain ⟨t, rfl⟩ := rx
  obtain ⟨t', rfl⟩ := ry
  have hs := sizeLine_eq
  match n, h1, h2, q with
  | 1, _, _, q =>
    refine PySem.P.mul_str (by decide) (fun _ h => ?_) (fun _ h => ?_) ?_
    · exact absurd h (by decide)
    · exact absurd h (by decide)
    · rw [if_neg (by decide), if_pos (by decide)]
      exact ⟨.str "x", H, I, ⟨_, rfl⟩, q⟩
  | 2, _, _, q =>
    refine PySem.P.mul_str (by decide) (fun _ _ => by decide +kernel) (fun _ _ => by decide +kernel) ?_
    rw [if_neg (by decide), if_neg (by decide)]
    exact ⟨by decide +kernel, .str (exes 2), H, I.tok _, ⟨_, rfl⟩, q⟩
  | 3, _, _, q =>
    refine PySem.P.mul_str (by decide) (fun _ _ => by decide +kernel) (fun _ _ => by decide +kernel) ?_
    rw [if_neg (by decide), if_neg (by decide)]
    exact ⟨by decide +kernel, .str (exes 3), H, I.tok _, ⟨_, rfl⟩, q⟩
  | 4, _, _, q =>
    refine PySem.P.mul_str (by decide) (fun _ _ => by decide +kernel) (fun _ _ => by decide +kernel) ?_
    rw [if_neg (by decide), if_neg (by decide)]
    exact ⟨by decide +kernel, .str (exes 4), H, I.tok _, ⟨_, rfl⟩, q⟩
/-- xs.count(y), data of any depth -/
def rCountD (K : PySem.W.Frag) : V → List V → Hp → VK → Prop := fun x xs H Q => ∃ (a : Addr) (y : V) (d : PyData) (ds : List PyData), x = V.ref a ∧ xs = [y] ∧ Dp K H (V.ref a) (.list ds) ∧ Dp K H y d ∧
  SeqAt.shaped (.list ds) = true ∧ SeqAt.shaped d = true ∧ Q (.int (ds.countP (fun z => PyData.eqv z d) : Nat)) H
theorem mt_countD (hu : X.A.units + 65 < cLine) : MtR X "list.count" (rCountD X.K) := by
  intro pins s σ H x xs v us Q I rx rxs h
  obtain ⟨a, y, d, ds, rfl, rfl, hl, hy, sl, sd, q⟩ := h
  cases rx
  obtain ⟨uy, rfl, ry⟩ := rxs.one
  obtain ⟨bs, r1⟩ := Dp.reads I d y uy hy ry
  have lay : PyData.canLayAll0 ds = true := SeqAt.canLay_of_shaped sl
  have room : X.A.units + 1 + min (PyData.depthAll ds) d.depth < cLine := room_in_shaped sd hu
  cases hl with
  | lst hs ha =>
    obtain ⟨its, rv, ⟨⟨cls, dd, data, sls⟩, n, ho, hc, hdn, hdt⟩, hlen⟩ := I.list hs
    simp only at hc hdt
    subst hc hdt
    obtain ⟨as, h4⟩ := Dp.readsAll I ds _ its ha rv
    have hmap : its.map (SeqAt.readOf s.heap) = ds := SeqAt.readsAll_map ds its as lay h4
    refine call_meets PySem.F.slot_list_count ⟨_, ho, rfl⟩ PySem.F.entry_list_count (PySem.F.args_list_count_2 _ _)
      (SeqAt.list_countAt a its.toArray n dd sls uy (fun u => PyData.eqv (SeqAt.readOf s.heap u) d)) ⟨ho, SeqAt.items_eqAt (vs := its.toArray) (show ReadsAll s.heap its.toArray.toList ds as from h4) r1 lay (SeqAt.canLay_of_shaped sd) room, ?_⟩
    have e : its.toArray.toList.countP (fun u => PyData.eqv (SeqAt.readOf s.heap u) d) = ds.countP (fun z => PyData.eqv z d) := by
      rw [← hmap, List.countP_map]
      rfl
    rw [e]
    exact ⟨.int _, H, I.tok _, ⟨s.toks, rfl⟩, q⟩
end

/-! ### data with dicts within -/
def kD : Key → PyData
  | .inl i => .int i
  | .inr x => .str x
mutual
inductive Dd (K : PySem.W.Frag) (H : Hp) : V → PyData → Prop
  | non : Dd K H .non .none
  | bl (b : Bool) : Dd K H (.bl b) (.bool b)
  | int (i : Int) : Dd K H (.int i) (.int i)
  | str (x : Str) : Dd K H (.str x) (.str x)
  | lst {a : Addr} {xs : List V} {ds : List PyData} : H a = some (.lst xs) → DdAll K H xs ds → Dd K H (.ref a) (.list ds)
  | tup {a : Addr} {xs : List V} {ds : List PyData} : H a = some (.tup xs) → DdAll K H xs ds → Dd K H (.ref a) (.tuple ds)
  | dic {a : Addr} {kvs : List (Key × V)} {ds : List PyData} : Rd H a (.dK kvs) → DdAll K H (kvs.map (·.2)) ds → Dd K H (.ref a) (.dict ((kvs.map fun p => kD p.1).zip ds))
inductive DdAll (K : PySem.W.Frag) (H : Hp) : List V → List PyData → Prop
  | nil : DdAll K H [] []
  | cons {v : V} {vs : List V} {d : PyData} {ds : List PyData} : Dd K H v d → DdAll K H vs ds → DdAll K H (v :: vs) (d :: ds)
end
theorem DdAll.length {K : PySem.W.Frag} {H : Hp} : ∀ {vs : List V} {ds : List PyData}, DdAll K H vs ds → vs.length = ds.length
  | _, _, .nil => rfl
  | _, _, .cons _ t => congrArg (· + 1) t.length
/-- where the modules' own dict stands, something stands from the start -/
def SysB (base : Heap) : Prop := ∃ o : Obj, base.get? sysModules = some o
section
variable {X : Cx} {pins : List (Addr × Obj)} {σ : L2.St} {H : Hp} {s : Shared}
theorem key_reads (k : Key) {v : Value} (h : keyIs k v = true) (hp : Heap) : Reads hp v (kD k) [] := by
  rcases keyIs_shape h with ⟨i, t, rfl, rfl⟩ | ⟨x, t, rfl, rfl⟩
  · exact Reads.int i t
  · exact Reads.str x t
theorem pairs_split {P : Program} {w : World} : ∀ {kvs : List (Key × V)} {vs : List (Key × Value)} {es : List DictEntry}, KV kvs vs → Pairs (mixKind P w) es vs →
    Vals (kvs.map (·.2)) (es.map (·.val)) ∧ ∀ h : Heap, ReadsAll h (es.map (·.key)) (kvs.map fun p => kD p.1) []
  | _, _, _, .nil, .nil => ⟨.nil, fun _ => .nil⟩
  | p :: kvs, q :: vs, e :: es, .cons r rt, .cons hk hv ht => by
    obtain ⟨i1, i2⟩ := pairs_split rt ht
    refine ⟨.cons (by show L2.RelV p.2 e.val; rw [hv]; exact r.2) i1, fun hp => ?_⟩
    have a := key_reads p.1 (by rw [r.1]; exact hk) hp
    exact ReadsAll.cons (as := []) (bs := []) a (i2 hp)
theorem not_sys {a : Addr} {u : HO} (I : L2.Inv X pins σ H s) (S : SysB X.base) (e : H a = some u) : sysModules ≠ a := fun z => by
  obtain ⟨o, ho⟩ := S
  have q := (I.bs _ _ ho).2
  rw [z, e] at q
  cases q
mutual
theorem Dd.reads (I : L2.Inv X pins σ H s) (S : SysB X.base) : ∀ (v : V) (d : PyData) (u : Value), Dd X.K H v d → L2.RelV v u → ∃ as, Reads s.heap u d as ∧ sysModules ∉ as
  | _, _, _, .non, r => by cases r; exact ⟨_, Reads.none, by simp⟩
  | _, _, _, .bl b, r => by cases r; exact ⟨_, Reads.bool b, by simp⟩
  | _, _, _, .int i, r => by obtain ⟨t, rfl⟩ := r; exact ⟨_, Reads.int i t, by simp⟩
  | _, _, _, .str x, r => by obtain ⟨t, rfl⟩ := r; exact ⟨_, Reads.str x t, by simp⟩
  | _, _, _, .lst e ha, r => by
    cases r
    obtain ⟨its, rv, ⟨o, n, ho, hc, _, hd⟩, _⟩ := I.list (SqL.of e)
    obtain ⟨as, hr, hn⟩ := DdAll.reads I S _ _ its ha rv
    refine ⟨_, Reads.list ho hc hd hr, ?_⟩
    simp only [List.mem_cons, not_or]
    exact ⟨not_sys I S e, hn⟩
  | _, _, _, .tup e ha, r => by
    cases r
    obtain ⟨its, rv, ⟨o, ho, hc, n, hd⟩, _⟩ := I.tuple (SqT.of e)
    obtain ⟨as, hr, hn⟩ := DdAll.reads I S _ _ its ha rv
    exact ⟨_, Reads.tuple ho hc hd hr, hn⟩
  | _, _, _, @Dd.dic _ _ a kvs ds e ha, r => by
    cases r
    obtain ⟨hz, hs, vs, kv, o, es, ep, ho, hx, hd, hk, hp, hn⟩ := dk_rd I.hok e
    obtain ⟨q1, q2⟩ := pairs_split kv hp
    obtain ⟨bs, hr, hb⟩ := DdAll.reads I S _ _ _ ha q1
    have hl : (kvs.map fun p => kD p.1).length = ds.length := by
      have := ha.length
      simpa using this
    refine ⟨a :: [] ++ bs, Reads.dict ho hx.1 hd (by rw [List.map_fst_zip (Nat.le_of_eq hl)]; exact q2 s.heap) (by rw [List.map_snd_zip (Nat.le_of_eq hl.symm)]; exact hr), ?_⟩
    simp only [List.cons_append, List.nil_append, List.mem_cons, not_or]
    exact ⟨fun z => by rw [z] at hs; simp at hs, hb⟩
theorem DdAll.reads (I : L2.Inv X pins σ H s) (S : SysB X.base) : ∀ (vs : List V) (ds : List PyData) (us : List Value), DdAll X.K H vs ds → Vals vs us → ∃ as, ReadsAll s.heap us ds as ∧ sysModules ∉ as
  | _, _, _, .nil, r => by cases r; exact ⟨_, ReadsAll.nil, by simp⟩
  | _, _, _, .cons h1 h2, r => by
    cases r with
    | cons r1 r2 =>
      obtain ⟨as, q1, n1⟩ := Dd.reads I S _ _ _ h1 r1
      obtain ⟨bs, q2, n2⟩ := DdAll.reads I S _ _ _ h2 r2
      exact ⟨_, ReadsAll.cons q1 q2, by simp [n1, n2]⟩
end
end
section
variable {X : Cx}
/-- repr(x), x a list, a tuple, a dict: where nothing that shows itself is under way -/
def rReprD (K : PySem.W.Frag) : List V → Hp → VK → Prop := fun xs H Q => ∃ (a : Addr) (d : PyData), xs = [.ref a] ∧ Dd K H (.ref a) d ∧ d.showable = true ∧ d.depth ≤ 60 ∧ d.shown.length ≤ sizeLine ∧ Q (.str d.shown) H
theorem call_reprD (S : SysB X.base) (hg : X.A.guards = some []) (hu : X.A.units + 64 < cLine) : CallR X (.builtin "repr") (rReprD X.K) := by
  intro pins s σ H xs us Q I r h
  obtain ⟨a, d, rfl, hd, hs, hdp, hz, q⟩ := h
  obtain ⟨u, rfl, ru⟩ := r.one
  cases ru
  obtain ⟨as, hr, hn⟩ := Dd.reads I S _ _ _ hd rfl
  refine repr_of_reads' hr hs (fun _ => hn) hg (by omega) (fun _ _ e => e) (fun h' t tk hk => ?_) hz
  exact ⟨.str _, H, I.kept hk, ⟨_, rfl⟩, q⟩
end
end FA

set_option Elab.async false
set_option linter.all false
set_option maxRecDepth 100000
set_option maxHeartbeats 4000000
/-! Defs that are called where nothing shows itself (no repr is under way). -/
namespace FA
open PySem PySem.Spec PyProof.Rows L2
/-- the promise of a def that is called where no repr is under way -/
structure FnG (P : Program) (w : World) (K : PySem.W.Frag) (mg : Str → Option Value) (base : Heap) (k : Nat) (f : Addr) (fd : FuncData) (ps : List Str) (sp : Sp) : Prop where
  len : ∀ vs H Q E, sp vs H Q E → vs.length = ps.length
  run : ∀ (A : Around), A.guards = some [] → ∀ (outer : List Env) (s : Shared) (H : Hp) (args : Args) (us : List Value) (vs : List V) (Q : VK) (E : XK), Room k A → Env0 P w K mg base A outer s H → BindsTo s fd args (ps.zip us) →
    Vals vs us → sp vs H Q E → codeAny (model P w) A (.call (.ref f) args) (CR CX0 outer P w H s Q E) s
theorem FnG.mono {P : Program} {w : World} {K : PySem.W.Frag} {mg : Str → Option Value} {base : Heap} {j k : Nat} {f : Addr} {fd : FuncData} {ps : List Str} {sp : Sp} (F : FnG P w K mg base j f fd ps sp) (h : j ≤ k) : FnG P w K mg base k f fd ps sp :=
  ⟨F.len, fun A g outer s H args us vs Q E r => F.run A g outer s H args us vs Q E (r.mono h)⟩
section
variable {P : Program} {w : World} {K : PySem.W.Frag} {mg : Str → Option Value} {base : Heap}
theorem okG {x qual : Str} {st : Stmt} {f : Addr} {fd : FuncData} {N ps : List Str} {k : Nat} {sp : Sp} (F : Fun K x qual st f fd) (S : FnScope N ps (defScope st)) (len : ∀ vs H Q E, sp vs H Q E → vs.length = ps.length)
    (body : ∀ (cdv : Value) (A : Around), A.guards = some [] → ∀ (outer : List Env) (s : Shared) (H : Hp) (vs : List V) (Q : VK) (E : XK), Room k (A.deeper (envOfC qual (defScope st) s.heap.objs.size f cdv)) → sp vs H Q E →
      ∃ t, PSs (cxOf CX0 P w K mg base N qual (defScope st) f cdv A outer s H E).nox (defBody st) t ∧ t { nx := fun _ H' => Q .non H', rt := Q } (start N vs) H) : FnG P w K mg base (k + 1) f fd ps sp := by
  obtain ⟨oc, od, kV, doc, pm, an, cdv, ct, osl, rfl, lk, hcd⟩ := F.ex
  refine ⟨len, fun A g outer s H args us vs Q E hr e0 hb r hsp => ?_⟩
  have kin : K.In s.heap := e0.mod.kin.keeps fun b o e => (e0.bs b o e).1
  have nol : s.heap.NoLimit := e0.mod.nolimit.keeps fun b o e => (e0.bs b o e).1
  have pk : ∀ y ∈ ps.zip us, (defScope st).names.lookup y.1 = some .local ∨ ((defScope st).names.lookup y.1 = some .cell ∧ ((cellsFrom (s.heap.objs.size + 1) (defScope st).names []).lookup y.1).isSome = true) := by
    rintro ⟨n, v⟩ hy
    rcases S.par n (List.of_mem_zip hy).1 with q | q
    · exact .inl q
    · exact .inr ⟨q, PySem.W.cellsFrom_some _ _ _ (.inl q)⟩
  refine codeAny_call_function hr.depth (kin _ _ lk) rfl S.co S.gen rfl (PySem.W.codeRec_of kin hcd) (hb _ _ _ _ (wpAny_newFunctionEnv_cells S.kind pk fun env he s1 x => ?_))
  subst he
  refine ⟨nol.keeps x.toInCall.keep, codeAny_func ?_⟩
  obtain ⟨t, ht, hq⟩ := body cdv A g outer s H vs Q E (hr.deeper _) hsp
  have I := inv_start (CX := CX0) (E := E) S hr.hd e0 (len _ _ _ _ hsp) r x
  refine wpAny_mono (ht.nox.run [] s1 (start N vs) H _ I hq) (fun fl s' hs => ?_) fun e s' hs => hs
  cases fl with
  | ret u =>
    obtain ⟨v, σ', H', J, rv, q⟩ := hs
    exact ⟨v, H', J.os, J.bare, J.base, J.hok, rv, q⟩
  | next =>
    obtain ⟨σ', H', J, q⟩ := hs
    exact ⟨V.non, H', J.os, J.bare, J.base, J.hok, rfl, q⟩
  | brk =>
    obtain ⟨_, _, _, q⟩ := hs
    exact False.elim q
  | cont =>
    obtain ⟨_, _, _, q⟩ := hs
    exact False.elim q
end
section
variable {X : Cx} {k : Nat} {f : Addr} {fd : FuncData} {ps : List Str} {sp : Sp} {x : Str} {p pos : Pos} {e : Expr} {es : List Expr} {t : TA}
theorem pe_callG (F : FnG X.prog X.w X.K X.mg X.base k f fd ps sp) (g : X.A.guards = some []) (hr : Room k X.A) (hg : Gl X x) (hm : X.mg x = some (.ref f)) (hk : PySem.W.keepIn X.K (.ref f) = true) (hb : Binds X.K fd ps []) (ha : PA X (e :: es) t)
    (hdb : (x == ("__debug__" : Str)) = false := by decide) (he : starEach (e :: es) X.env = (false, eval e X.env) :: starEach es X.env := by rfl) (hpl : (backTo pos (starEach es X.env)).any (·.1) = false := by rfl) :
    PE X (.Call (.Name x p) (e :: es) [] pos) (tCall sp [] E0 t) := by
  refine ⟨fun pins s σ H Q I h => wpAny_Call_Name_kw (ld_glob I hg hm ?_ hdb)⟩
  refine PySem.W.callWith_K (h₀ := X.base) I.ok.mod.kin hk (thn (ha.run pos pins s σ H _ I h) fun us s1 hh => ?_) he hpl
  obtain ⟨vs, H1, I1, r, q⟩ := hh
  refine ⟨I1.kIn, ?_⟩
  rw [List.append_nil] at q
  have hl : us.length = ps.length := by rw [← r.length]; exact F.len _ _ _ _ q
  have bb := hb s1 us I1.kIn (by rw [List.append_nil]; exact hl)
  rw [List.append_nil] at bb
  refine wpAny_call (codeAny_mono (F.run X.A g X.stack s1 H1 ⟨us, []⟩ us vs Q E0 hr I1.env0 bb r q) fun r s' hq => ?_)
  cases r with
  | error e => exact False.elim hq
  | ok fl =>
    cases fl with
    | ret u => exact I1.after hq
    | next => exact False.elim hq
    | brk => exact False.elim hq
    | cont => exact False.elim hq
end
end FA

set_option Elab.async false
set_option linter.all false
set_option maxRecDepth 100000
set_option maxHeartbeats 4000000
/-! The law's end for such a def. -/
namespace FA
open PySem PySem.Spec PyProof.Rows L2
/-- the script, known to its object; nothing else -/
noncomputable def hpS (K : PySem.W.Frag) (a : Addr) (vs : List Value) (ns : List Int) : Hp := fun b =>
  if b = a ∧ K.lookup a = none then some (.frz { cls := .type "list", data := .seq vs.toArray } (.lst (ns.map V.int))) else none
section
variable {K : PySem.W.Frag} {a b : Addr} {vs : List Value} {ns : List Int}
theorem hpS_some {o : HO} (h : hpS K a vs ns b = some o) : b = a ∧ K.lookup a = none ∧ o = .frz { cls := .type "list", data := .seq vs.toArray } (.lst (ns.map V.int)) := by
  unfold hpS at h
  split at h
  · rename_i c
    cases h
    exact ⟨c.1, c.2, rfl⟩
  · cases h
theorem hpS_none (h : b ≠ a ∨ K.lookup a ≠ none) : hpS K a vs ns b = none := by
  cases q : hpS K a vs ns b with
  | none => rfl
  | some o =>
    obtain ⟨e1, e2, _⟩ := hpS_some q
    rcases h with h | h
    · exact absurd e1 h
    · exact absurd e2 h
theorem hpS_only : Only (hpS K a vs ns) := fun b => by
  cases q : hpS K a vs ns b with
  | none => exact .inl rfl
  | some o =>
    obtain ⟨_, _, e⟩ := hpS_some q
    exact .inr ⟨_, _, by rw [e]⟩
end
theorem law_callG {P : Program} {w : World} {K : PySem.W.Frag} {mg mb : Str → Option Value} {k : Nat} {fa a : Addr} {fd : FuncData} {x : Str} {sp : Sp} {s₁ : Shared} {vs : List Value} {ns : List Int}
    (KX : K.In s₁.heap) (hns : s₁.heap.Ns mainGlobals mg) (hb : s₁.heap.Ns builtinsNs mb) (hbb : ∀ x : Str, x ≠ "__name__" → mb x = bootBuiltins x) (hlim : s₁.heap.NoLimit) (hg : s₁.gens = #[])
    (hz : ∃ mm, s₁.heap.Ns sysModules mm) (ha : s₁.heap.get? a = some { cls := .type "list", data := .seq vs.toArray }) (hi : IntsAre vs ns) (hl : ns.length ≤ sizeLine) (hr : Room k callerA)
    (F : ∀ base : Heap, SysB base → K.In base → base.Ns mainGlobals mg → FnG P w K mg base k fa fd [x] sp) (hbind : ∀ (s : Shared) (u : Value), BindsTo s fd ⟨[u], []⟩ [(x, u)])
    (hsp : ∀ H : Hp, Only H → SqL K H a (ns.map V.int) → sp [.ref a] H (fun v _ => v = .bl true) fun _ _ _ => False) :
    codeAny (model P w) callerA (.call (.ref fa) ⟨[.ref a], []⟩) (fun r s' => r = .ok (.ret (.bool true)) ∧ OldK s₁.heap s'.heap ∧ s'.os = s₁.os ∧ AllBare s'.gens) s₁ := by
  have rv := vals_ints hi
  have lv := hi.length
  -- a dict of the heap is no list: it is not tracked
  have dictFree : ∀ {b : Addr} {o : Obj} {es : Array DictEntry} {ep : Nat}, s₁.heap.get? b = some o → o.data = .dict es ep → hpS K a vs ns b = none := fun {b o es ep} e d => by
    refine hpS_none (.inl fun z => ?_)
    rw [z, ha] at e
    cases e
    cases d
  have nsB : ∀ {b : Addr} {m : Str → Option Value}, s₁.heap.Ns b m → (hidT s₁.heap (hpS K a vs ns)).Ns b m := by
    rintro b m ⟨o, es, ep, e, d, r⟩
    exact ⟨o, es, ep, hidT_get e (dictFree e d), d, r⟩
  have kB : K.In (hidT s₁.heap (hpS K a vs ns)) := fun b o e => hidT_get (KX b o e) (by
    by_cases z : b = a
    · subst z
      exact hpS_none (.inr (by rw [e]; simp))
    · exact hpS_none (.inl z))
  have md : Mod K mg (hidT s₁.heap (hpS K a vs ns)) := by
    obtain ⟨mc, h1, h2⟩ := hlim
    exact ⟨kB, nsB hns, ⟨mb, nsB hb, hbb⟩, mc, nsB h1, h2⟩
  have ok : HOk P w (hpS K a vs ns) s₁.heap := fun b o e => by
    obtain ⟨rfl, _, rfl⟩ := hpS_some e
    exact ⟨ha, by rw [List.length_map]; exact hl, vs, _, rv, ha⟩
  have sq : SqL K (hpS K a vs ns) a (ns.map V.int) := by
    cases q : K.lookup a with
    | none => exact .inl (.inr ⟨_, if_pos ⟨rfl, q⟩⟩)
    | some o =>
      have e := KX a o q
      rw [ha] at e
      cases e
      exact .inr ⟨_, vs.toArray, _, q, rfl, rfl, rfl, by rw [List.size_toArray, lv]; exact hl, by simpa using rv⟩
  have e0 : Env0 P w K mg (hidT s₁.heap (hpS K a vs ns)) callerA [] s₁ (hpS K a vs ns) := by
    refine ⟨rfl, md, fun b o e => of_hidT e, Nat.le_of_eq (hidT_size _ _), trivial, fun b z => ?_, ok, .of_eq hg⟩
    cases z
  obtain ⟨mm, hz⟩ := hz
  have sB : SysB (hidT s₁.heap (hpS K a vs ns)) := let ⟨o, _, _, e, _⟩ := nsB hz; ⟨o, e⟩
  refine codeAny_mono ((F _ sB kB (nsB hns)).run callerA rfl [] s₁ _ ⟨[.ref a], []⟩ [.ref a] [.ref a] _ _ hr e0 (hbind s₁ (.ref a)) (.cons rfl .nil) (hsp _ hpS_only sq)) fun r s' h => ?_
  cases r with
  | error e => exact False.elim h
  | ok fl =>
    cases fl with
    | next => exact False.elim h
    | brk => exact False.elim h
    | cont => exact False.elim h
    | ret u =>
      obtain ⟨v, H', os, bare, un, ok', r', q⟩ := h
      have q' : v = .bl true := q
      subst q'
      cases r'
      refine ⟨rfl, OldK.of_keep fun b o e => ?_, os, bare⟩
      cases q : hpS K a vs ns b with
      | none => exact un.keep b o e q (by intro z; cases z) (by intro z; cases z)
      | some u =>
        obtain ⟨rfl, _, rfl⟩ := hpS_some q
        obtain ⟨e1, _⟩ := ok b _ q
        obtain ⟨e2, _⟩ := ok' b _ (un.frzs b _ _ q)
        rw [e] at e1
        cases e1
        exact e2
theorem walk_ofG {l : PySem.W.OpenLaw} {n k : Nat} {q : Program} {loose : List Str} {XP : (Str → Option Value) → Heap → Prop} {YP : World → Heap → Prop} {d : DefRec} {K : Params → PySem.W.Frag} {sp : PySem.W.Frag → Sp} {x : Str}
    (hn : l.most = some n) (hn2 : n ≤ sizeLine) (hq : importsNone q = true) (hdf : d.params.defaults = []) (hr : Room k callerA) (hY : ∀ (w : World) (h : Heap), YP w h → (K w.params).In h)
    (F : ∀ (w : World) (mg : Str → Option Value) (fa : Addr) (h : Heap), (K w.params).In h → h.Ns mainGlobals mg → mg d.name = some (.ref fa) →
      ∃ fd : FuncData, (∀ (s : Shared) (u : Value), BindsTo s fd ⟨[u], []⟩ [(x, u)]) ∧ ∀ base : Heap, SysB base → (K w.params).In base → base.Ns mainGlobals mg → FnG l.prog w (K w.params) mg base k fa fd [x] (sp (K w.params)))
    (hsp : ∀ (K : PySem.W.Frag) (H : Hp) (a : Addr) (ns : List Int), ns.length ≤ n → Only H → SqL K H a (ns.map V.int) → sp K [.ref a] H (fun v _ => v = .bl true) fun _ _ _ => False) :
    PySem.W.WalkO q loose XP YP l.row.toRowW d [] (fun f vs => PySem.call f vs) := by
  refine Att.attach_call hn hdf fun w s₀ s₁ mg mb fa o pm cd doc a vs ns G Y ho hd hcd hmg hobj hints hlen hg => ?_
  have KX := hY w _ Y
  obtain ⟨fd, hb, hF⟩ := F w mg fa _ KX G.T.g hmg
  exact law_callG KX G.T.g G.T.b G.T.builtins G.T.nolimit hg (let ⟨mm, h, _⟩ := (G.T.seer hq).mods; ⟨mm, h⟩) hobj hints (Nat.le_trans hlen hn2) hr hF hb fun H hO hS => hsp (K w.params) H a ns hlen hO hS
end FA

set_option Elab.async false
set_option linter.all false
set_option maxRecDepth 100000
/-! Bodies and programs as plain data, and their mathematics. -/
namespace FA
open PySem
/-- an item of a body -/
inductive It where
  | call (x : Str)
  | may (b : List It)
  | loop (b : List It)
  | one (bs : List (List It))
abbrev Bd := List It
mutual
def nC : It → Nat
  | .call _ => 1
  | .may b => nCB b
  | .loop b => nCB b
  | .one bs => nCBs bs
def nCB : List It → Nat
  | [] => 0
  | i :: r => nC i + nCB r
def nCBs : List (List It) → Nat
  | [] => 0
  | b :: r => nCB b + nCBs r
end
mutual
def nI : It → Nat
  | .call _ => 0
  | .may b => nIB b
  | .loop b => nIB b
  | .one bs => nIBs bs
def nIB : List It → Nat
  | [] => 0
  | i :: r => (1 + nI i) + nIB r
def nIBs : List (List It) → Nat
  | [] => 0
  | b :: r => nIB b + nIBs r
end
mutual
/-- how deep an item goes below the body in which it stands; how deep a body is, 1 at least -/
def dI : It → Nat
  | .call _ => 0
  | .may b => dB b
  | .loop b => dB b
  | .one bs => dBs bs
def dB : List It → Nat
  | [] => 1
  | i :: r => max (1 + dI i) (dB r)
def dBs : List (List It) → Nat
  | [] => 0
  | b :: r => max (dB b) (dBs r)
end
mutual
def okI (ns : List Str) : It → Prop
  | .call x => x ∈ ns
  | .may b => b ≠ [] ∧ okB ns b
  | .loop b => b ≠ [] ∧ okB ns b
  | .one bs => 2 ≤ bs.length ∧ bs.length ≤ 4 ∧ bs.countP (fun b => b.isEmpty) ≤ 1 ∧ okBs ns bs
def okB (ns : List Str) : List It → Prop
  | [] => True
  | i :: r => okI ns i ∧ okB ns r
def okBs (ns : List Str) : List (List It) → Prop
  | [] => True
  | b :: r => okB ns b ∧ okBs ns r
end
def minL : List Int → Int
  | [] => 0
  | [x] => x
  | x :: y :: r => min x (minL (y :: r))
mutual
/-- the least number of calls, f telling that of each function -/
def cost (f : Str → Int) : It → Int
  | .call x => f x
  | .may _ => 0
  | .loop _ => 0
  | .one bs => minL (costBs f bs)
def costB (f : Str → Int) : List It → Int
  | [] => 0
  | i :: r => cost f i + costB f r
def costBs (f : Str → Int) : List (List It) → List Int
  | [] => []
  | b :: r => costB f b :: costBs f r
end
theorem costBs_map (f : Str → Int) : ∀ bs : List (List It), costBs f bs = bs.map (costB f)
  | [] => by simp only [costBs, List.map_nil]
  | b :: r => by simp only [costBs, List.map_cons, costBs_map f r]
theorem costB_sum (f : Str → Int) : ∀ b : List It, costB f b = (b.map (cost f)).sum
  | [] => by simp only [costB, List.map_nil, List.sum_nil]
  | i :: r => by simp only [costB, List.map_cons, List.sum_cons, costB_sum f r]
theorem okB_all {ns : List Str} : ∀ {b : List It}, okB ns b ↔ ∀ i ∈ b, okI ns i
  | [] => by simp [okB]
  | i :: r => by simp only [okB, List.forall_mem_cons, okB_all]
theorem okBs_all {ns : List Str} : ∀ {bs : List (List It)}, okBs ns bs ↔ ∀ b ∈ bs, okB ns b
  | [] => by simp [okBs]
  | b :: r => by simp only [okBs, List.forall_mem_cons, okBs_all]
theorem minL_mem : ∀ {l : List Int}, l ≠ [] → minL l ∈ l
  | [x], _ => by simp [minL]
  | x :: y :: r, _ => by
    have ih := minL_mem (l := y :: r) (by simp)
    simp only [minL]
    by_cases h : x ≤ minL (y :: r)
    · rw [Int.min_eq_left h]; simp
    · rw [Int.min_eq_right (by omega)]; exact List.mem_cons_of_mem _ ih
theorem minL_le : ∀ {l : List Int} {y : Int}, y ∈ l → minL l ≤ y
  | [x], y, h => by simp at h; simp [minL, h]
  | x :: z :: r, y, h => by
    simp only [minL]
    rcases List.mem_cons.mp h with rfl | h
    · exact Int.min_le_left _ _
    · exact Int.le_trans (Int.min_le_right _ _) (minL_le h)
theorem minL_unique {l : List Int} {m : Int} (h1 : m ∈ l) (h2 : ∀ y ∈ l, m ≤ y) : m = minL l := by
  have hn : l ≠ [] := List.ne_nil_of_mem h1
  exact Int.le_antisymm (h2 _ (minL_mem hn)) (minL_le h1)
/-! ### costs: not negative, rising with f, and cut alike -/
mutual
theorem cost_nn {f : Str → Int} (hf : ∀ x, 0 ≤ f x) : ∀ i : It, 0 ≤ cost f i
  | .call x => by simp only [cost]; exact hf x
  | .may _ => by simp only [cost]; omega
  | .loop _ => by simp only [cost]; omega
  | .one bs => by
    simp only [cost]
    cases bs with
    | nil => simp [costBs, minL]
    | cons b r =>
      have h := minL_mem (l := costBs f (b :: r)) (by simp [costBs])
      exact costBs_nn hf (b :: r) _ h
theorem costB_nn {f : Str → Int} (hf : ∀ x, 0 ≤ f x) : ∀ b : List It, 0 ≤ costB f b
  | [] => by simp [costB]
  | i :: r => by
    have h1 := cost_nn hf i
    have h2 := costB_nn hf r
    simp only [costB]; omega
theorem costBs_nn {f : Str → Int} (hf : ∀ x, 0 ≤ f x) : ∀ bs : List (List It), ∀ y ∈ costBs f bs, 0 ≤ y
  | [], y, h => by simp [costBs] at h
  | b :: r, y, h => by
    simp only [costBs, List.mem_cons] at h
    rcases h with rfl | h
    · exact costB_nn hf b
    · exact costBs_nn hf r y h
end
/-- two lists, place by place -/
def le2 : List Int → List Int → Prop
  | [], [] => True
  | x :: r, y :: s => x ≤ y ∧ le2 r s
  | _, _ => False
theorem minL_le2 : ∀ {l m : List Int}, le2 l m → minL l ≤ minL m
  | [], [], _ => Int.le_refl _
  | [x], [y], h => h.1
  | x :: x' :: r, y :: y' :: s, h => by
    have ih := minL_le2 (l := x' :: r) (m := y' :: s) h.2
    have h1 := h.1
    simp only [minL]; omega
  | [_], _ :: _ :: _, h => h.2.elim
  | _ :: _ :: _, [_], h => h.2.elim
  | [], _ :: _, h => h.elim
  | _ :: _, [], h => h.elim
mutual
theorem cost_le {f g : Str → Int} (h : ∀ x, f x ≤ g x) : ∀ i : It, cost f i ≤ cost g i
  | .call x => by simp only [cost]; exact h x
  | .may _ => by simp only [cost]; omega
  | .loop _ => by simp only [cost]; omega
  | .one bs => by simp only [cost]; exact minL_le2 (costBs_le h bs)
theorem costB_le {f g : Str → Int} (h : ∀ x, f x ≤ g x) : ∀ b : List It, costB f b ≤ costB g b
  | [] => by simp [costB]
  | i :: r => by
    have h1 := cost_le h i
    have h2 := costB_le h r
    simp only [costB]; omega
theorem costBs_le {f g : Str → Int} (h : ∀ x, f x ≤ g x) : ∀ bs : List (List It), le2 (costBs f bs) (costBs g bs)
  | [] => by simp [costBs, le2]
  | b :: r => by simp only [costBs, le2]; exact ⟨costB_le h b, costBs_le h r⟩
end
/-- cut at c, place by place -/
def cut2 (c : Int) : List Int → List Int → Prop
  | [], [] => True
  | x :: r, y :: s => min c x = min c y ∧ cut2 c r s
  | _, _ => False
theorem minL_cut {c : Int} : ∀ {l m : List Int}, cut2 c l m → min c (minL l) = min c (minL m)
  | [], [], _ => rfl
  | [x], [y], h => h.1
  | x :: x' :: r, y :: y' :: s, h => by
    have ih := minL_cut (l := x' :: r) (m := y' :: s) h.2
    have h1 := h.1
    simp only [minL]; omega
  | [_], _ :: _ :: _, h => h.2.elim
  | _ :: _ :: _, [_], h => h.2.elim
  | [], _ :: _, h => h.elim
  | _ :: _, [], h => h.elim
mutual
theorem cost_cut {c : Int} {f g : Str → Int} (hf : ∀ x, 0 ≤ f x) (hg : ∀ x, 0 ≤ g x) (h : ∀ x, min c (f x) = min c (g x)) : ∀ i : It, min c (cost f i) = min c (cost g i)
  | .call x => by simp only [cost]; exact h x
  | .may _ => by simp only [cost]
  | .loop _ => by simp only [cost]
  | .one bs => by simp only [cost]; exact minL_cut (costBs_cut hf hg h bs)
theorem costB_cut {c : Int} {f g : Str → Int} (hf : ∀ x, 0 ≤ f x) (hg : ∀ x, 0 ≤ g x) (h : ∀ x, min c (f x) = min c (g x)) : ∀ b : List It, min c (costB f b) = min c (costB g b)
  | [] => by simp [costB]
  | i :: r => by
    have h1 := cost_cut hf hg h i
    have h2 := costB_cut hf hg h r
    have a1 := cost_nn hf i
    have a2 := cost_nn hg i
    have a3 := costB_nn hf r
    have a4 := costB_nn hg r
    simp only [costB]; omega
theorem costBs_cut {c : Int} {f g : Str → Int} (hf : ∀ x, 0 ≤ f x) (hg : ∀ x, 0 ≤ g x) (h : ∀ x, min c (f x) = min c (g x)) : ∀ bs : List (List It), cut2 c (costBs f bs) (costBs g bs)
  | [] => by simp [costBs, cut2]
  | b :: r => by simp only [costBs, cut2]; exact ⟨costB_cut hf hg h b, costBs_cut hf hg h r⟩
end
/-! ### programs -/
abbrev Pr := List (Str × Bd)
def bodyOf (p : Pr) (x : Str) : Bd := (p.lookup x).getD []
/-- the round k of the least calls, cut at c -/
def rnd (c : Int) (p : Pr) : Nat → Str → Int
  | 0, _ => c
  | k + 1, x => min c (1 + costB (rnd c p k) (bodyOf p x))
theorem rnd_nn {c : Int} (hc : 0 ≤ c) (p : Pr) : ∀ k x, 0 ≤ rnd c p k x
  | 0, _ => hc
  | k + 1, x => by
    have h := costB_nn (f := rnd c p k) (rnd_nn hc p k) (bodyOf p x)
    simp only [rnd]; omega
theorem rnd_le {c : Int} (p : Pr) : ∀ k x, rnd c p k x ≤ c
  | 0, _ => Int.le_refl _
  | k + 1, x => by simp only [rnd]; exact Int.min_le_left _ _
theorem rnd_cut {c d : Int} (hc : 0 ≤ c) (hcd : c ≤ d) (p : Pr) : ∀ k x, min c (rnd d p k x) = rnd c p k x
  | 0, x => by simp only [rnd]; omega
  | k + 1, x => by
    have h := costB_cut (c := c) (f := rnd d p k) (g := rnd c p k) (rnd_nn (by omega) p k) (rnd_nn hc p k) (fun y => by
      have := rnd_cut hc hcd p k y
      have := rnd_le (c := c) p k y
      omega) (bodyOf p x)
    have a1 := costB_nn (f := rnd d p k) (rnd_nn (by omega) p k) (bodyOf p x)
    have a2 := costB_nn (f := rnd c p k) (rnd_nn hc p k) (bodyOf p x)
    simp only [rnd]; omega
theorem rnd_down {c : Int} (p : Pr) : ∀ k x, rnd c p (k + 1) x ≤ rnd c p k x
  | 0, x => by simp only [rnd]; exact Int.min_le_left _ _
  | k + 1, x => by
    have h := costB_le (f := rnd c p (k + 1)) (g := rnd c p k) (rnd_down p k) (bodyOf p x)
    simp only [rnd] at h ⊢; omega
theorem rnd_downs {c : Int} (p : Pr) (x : Str) : ∀ {j k : Nat}, j ≤ k → rnd c p k x ≤ rnd c p j x
  | j, 0, h => by have : j = 0 := by omega
                  subst this; exact Int.le_refl _
  | j, k + 1, h => by
    by_cases e : j = k + 1
    · rw [e]; exact Int.le_refl _
    · exact Int.le_trans (rnd_down p k x) (rnd_downs p x (by omega))
end FA

set_option Elab.async false
set_option linter.all false
set_option maxRecDepth 100000
set_option maxHeartbeats 4000000
/-! How bodies and programs lie in the heap. -/
namespace FA
open PySem PySem.Spec PyProof.Rows L2
/-- the heap without some addresses -/
def wo (W : List Addr) (H : Hp) : Hp := fun b => if b ∈ W then none else H b
theorem wo_some {W : List Addr} {H : Hp} {b : Addr} {o : HO} : wo W H b = some o ↔ b ∉ W ∧ H b = some o := by
  unfold wo
  by_cases h : b ∈ W
  · simp [h]
  · simp [h]
theorem wo_nil {H : Hp} : wo [] H = H := by funext b; simp [wo]
/-- all but what stands at W is as it was -/
def Sm (W : List Addr) (H H' : Hp) : Prop := ∀ b o, b ∉ W → H b = some o → H' b = some o
theorem Sm.refl (W : List Addr) (H : Hp) : Sm W H H := fun _ _ _ h => h
theorem Sm.trans {W : List Addr} {H H1 H2 : Hp} (a : Sm W H H1) (b : Sm W H1 H2) : Sm W H H2 := fun c o n h => b c o n (a c o n h)
theorem Sm.of_same {W : List Addr} {H H' : Hp} (h : Same H H') : Sm W H H' := fun b o _ e => h b o e
theorem Sm.same {W : List Addr} {H H' : Hp} (h : Sm W H H') : Same (wo W H) (wo W H') := fun b o e => by
  rw [wo_some] at e ⊢
  exact ⟨e.1, h b o e.1 e.2⟩
theorem Sm.nil {H H' : Hp} (h : Sm [] H H') : Same H H' := fun b o e => h b o (by simp) e
theorem Sm.more {W W' : List Addr} {H H' : Hp} (h : Sm W H H') (s : ∀ b ∈ W, b ∈ W') : Sm W' H H' := fun b o n e => h b o (fun z => n (s b z)) e
/-- what is new needs no leave -/
theorem Sm.drop {r : Addr} {W : List Addr} {H H1 H2 : Hp} (h0 : Sm W H H1) (hr : H r = none) (h : Sm (r :: W) H1 H2) : Sm W H H2 := fun b o n e =>
  h b o (by
    simp only [List.mem_cons, not_or]
    exact ⟨ne_of_none e hr, n⟩) (h0 b o n e)
theorem Sm.new {W : List Addr} {H : Hp} {p : Addr} {o : HO} (h : H p = none) : Sm W H (upd H p o) := fun b u _ e => by rw [upd_ne (ne_of_none e h)]; exact e
theorem Sm.at {W : List Addr} {H : Hp} {p : Addr} {o : HO} (h : p ∈ W) : Sm W H (upd H p o) := fun b u n e => by
  rw [upd_ne (fun z => n (by rw [z]; exact h))]; exact e
theorem Sm.none {W : List Addr} {H H' : Hp} {b : Addr} (h : Sm W H H') (n : b ∉ W) (e : H' b = none) : H b = none := by
  cases q : H b with
  | none => rfl
  | some o => rw [h b o n q] at e; cases e
mutual
inductive ItAt (H : Hp) : V → It → Prop
  | call (x : Str) : ItAt H (.str x) (.call x)
  | may {t b : Addr} {vs : List V} {l : List It} : H t = some (.tup [.str "maybe", .ref b]) → H b = some (.lst vs) → ItsAt H vs l → ItAt H (.ref t) (.may l)
  | loop {t b : Addr} {vs : List V} {l : List It} : H t = some (.tup [.str "loop", .ref b]) → H b = some (.lst vs) → ItsAt H vs l → ItAt H (.ref t) (.loop l)
  | one {t b : Addr} {vs : List V} {ls : List (List It)} : H t = some (.tup [.str "one", .ref b]) → H b = some (.lst vs) → BdsAt H vs ls → ItAt H (.ref t) (.one ls)
inductive ItsAt (H : Hp) : List V → List It → Prop
  | nil : ItsAt H [] []
  | cons {v : V} {i : It} {vs : List V} {l : List It} : ItAt H v i → ItsAt H vs l → ItsAt H (v :: vs) (i :: l)
inductive BdsAt (H : Hp) : List V → List (List It) → Prop
  | nil : BdsAt H [] []
  | cons {b : Addr} {vs : List V} {l : List It} {r : List V} {ls : List (List It)} : H b = some (.lst vs) → ItsAt H vs l → BdsAt H r ls → BdsAt H (.ref b :: r) (l :: ls)
end
/-- a body at b -/
def BdAt (H : Hp) (b : Addr) (l : List It) : Prop := ∃ vs, H b = some (.lst vs) ∧ ItsAt H vs l
/-- lists and tuples are kept -/
structure Kp (H H' : Hp) : Prop where
  l : ∀ a xs, H a = some (.lst xs) → H' a = some (.lst xs)
  t : ∀ a xs, H a = some (.tup xs) → H' a = some (.tup xs)
theorem Kp.of {H H' : Hp} (h : Same H H') : Kp H H' := ⟨fun _ _ e => h _ _ e, fun _ _ e => h _ _ e⟩
section
variable {H H' : Hp}
mutual
theorem ItAt.keep (k : Kp H H') : ∀ {v : V} {i : It}, ItAt H v i → ItAt H' v i
  | _, _, .call x => .call x
  | _, _, .may h1 h2 h3 => .may (k.t _ _ h1) (k.l _ _ h2) (ItsAt.keep k h3)
  | _, _, .loop h1 h2 h3 => .loop (k.t _ _ h1) (k.l _ _ h2) (ItsAt.keep k h3)
  | _, _, .one h1 h2 h3 => .one (k.t _ _ h1) (k.l _ _ h2) (BdsAt.keep k h3)
theorem ItsAt.keep (k : Kp H H') : ∀ {vs : List V} {l : List It}, ItsAt H vs l → ItsAt H' vs l
  | _, _, .nil => .nil
  | _, _, .cons h t => .cons (ItAt.keep k h) (ItsAt.keep k t)
theorem BdsAt.keep (k : Kp H H') : ∀ {vs : List V} {l : List (List It)}, BdsAt H vs l → BdsAt H' vs l
  | _, _, .nil => .nil
  | _, _, .cons h h2 t => .cons (k.l _ _ h) (ItsAt.keep k h2) (BdsAt.keep k t)
end
theorem BdAt.keep (k : Kp H H') {b : Addr} {l : List It} (h : BdAt H b l) : BdAt H' b l := let ⟨vs, h1, h2⟩ := h; ⟨vs, k.l _ _ h1, h2.keep k⟩
theorem ItsAt.length : ∀ {vs : List V} {l : List It}, ItsAt H vs l → vs.length = l.length
  | _, _, .nil => rfl
  | _, _, .cons _ t => congrArg (· + 1) t.length
theorem BdsAt.length : ∀ {vs : List V} {l : List (List It)}, BdsAt H vs l → vs.length = l.length
  | _, _, .nil => rfl
  | _, _, .cons _ _ t => congrArg (· + 1) t.length
theorem ItsAt.get : ∀ {vs : List V} {l : List It} {i : Nat} {v : V}, ItsAt H vs l → vs[i]? = some v → ∃ it, l[i]? = some it ∧ ItAt H v it
  | _, _, _, _, .nil, e => by simp at e
  | _, _, 0, _, .cons h _, e => by simp at e; subst e; exact ⟨_, rfl, h⟩
  | _, _, i + 1, _, .cons _ t, e => by
    obtain ⟨it, a, b⟩ := ItsAt.get (i := i) t (by simpa using e)
    exact ⟨it, by simpa using a, b⟩
theorem BdsAt.get : ∀ {vs : List V} {l : List (List It)} {i : Nat} {v : V}, BdsAt H vs l → vs[i]? = some v → ∃ b bd, v = .ref b ∧ l[i]? = some bd ∧ BdAt H b bd
  | _, _, _, _, .nil, e => by simp at e
  | _, _, 0, _, .cons h h2 _, e => by simp at e; subst e; exact ⟨_, _, rfl, rfl, _, h, h2⟩
  | _, _, i + 1, _, .cons _ _ t, e => by
    obtain ⟨b, bd, a, c, d⟩ := BdsAt.get (i := i) t (by simpa using e)
    exact ⟨b, bd, a, by simpa using c, d⟩
theorem ItsAt.append : ∀ {vs ws : List V} {l m : List It}, ItsAt H vs l → ItsAt H ws m → ItsAt H (vs ++ ws) (l ++ m)
  | _, _, _, _, .nil, b => b
  | _, _, _, _, .cons h t, b => .cons h (t.append b)
theorem BdsAt.append : ∀ {vs ws : List V} {l m : List (List It)}, BdsAt H vs l → BdsAt H ws m → BdsAt H (vs ++ ws) (l ++ m)
  | _, _, _, _, .nil, b => b
  | _, _, _, _, .cons h h2 t, b => .cons h h2 (t.append b)
theorem ItsAt.take (n : Nat) : ∀ {vs : List V} {l : List It}, ItsAt H vs l → ItsAt H (vs.take n) (l.take n) := by
  induction n with
  | zero => intro vs l _; simp; exact .nil
  | succ n ih =>
    intro vs l h
    cases h with
    | nil => simp; exact .nil
    | cons h t => simp only [List.take_succ_cons]; exact .cons h (ih t)
theorem BdsAt.take (n : Nat) : ∀ {vs : List V} {l : List (List It)}, BdsAt H vs l → BdsAt H (vs.take n) (l.take n) := by
  induction n with
  | zero => intro vs l _; simp; exact .nil
  | succ n ih =>
    intro vs l h
    cases h with
    | nil => simp; exact .nil
    | cons h h2 t => simp only [List.take_succ_cons]; exact .cons h h2 (ih t)
theorem BdsAt.drop (n : Nat) : ∀ {vs : List V} {l : List (List It)}, BdsAt H vs l → BdsAt H (vs.drop n) (l.drop n) := by
  induction n with
  | zero => intro vs l h; simpa using h
  | succ n ih =>
    intro vs l h
    cases h with
    | nil => simp; exact .nil
    | cons h h2 t => simp only [List.drop_succ_cons]; exact ih t
end
/-- the rows of a program's dict -/
inductive PrKv (H : Hp) : List (Key × V) → Pr → Prop
  | nil : PrKv H [] []
  | cons {x : Str} {b : Addr} {l : List It} {kvs : List (Key × V)} {p : Pr} : BdAt H b l → PrKv H kvs p → PrKv H ((.inr x, .ref b) :: kvs) ((x, l) :: p)
/-- a program at d -/
def PrAt (H : Hp) (d : Addr) (p : Pr) : Prop := ∃ kvs, Rd H d (.dK kvs) ∧ PrKv H kvs p
theorem PrKv.keep {H H' : Hp} (k : Kp H H') : ∀ {kvs : List (Key × V)} {p : Pr}, PrKv H kvs p → PrKv H' kvs p
  | _, _, .nil => .nil
  | _, _, .cons h t => .cons (h.keep k) (t.keep k)
theorem PrKv.length {H : Hp} : ∀ {kvs : List (Key × V)} {p : Pr}, PrKv H kvs p → kvs.length = p.length
  | _, _, .nil => rfl
  | _, _, .cons _ t => congrArg (· + 1) t.length
theorem PrKv.keys {H : Hp} : ∀ {kvs : List (Key × V)} {p : Pr}, PrKv H kvs p → kvs.map (·.1) = p.map fun q => Sum.inr q.1
  | _, _, .nil => rfl
  | _, _, .cons _ t => by simp only [List.map_cons, t.keys]
theorem PrKv.look {H : Hp} {x : Str} : ∀ {kvs : List (Key × V)} {p : Pr}, PrKv H kvs p → (p.lookup x = none ∧ valV kvs (.inr x) = none) ∨ ∃ l b, p.lookup x = some l ∧ valV kvs (.inr x) = some (.ref b) ∧ BdAt H b l
  | _, _, .nil => .inl ⟨rfl, rfl⟩
  | (.inr y, .ref b) :: kvs, (_, l) :: p, .cons h t => by
    by_cases e : x = y
    · subst e
      refine .inr ⟨l, b, by simp [List.lookup], by simp [valV], h⟩
    · have e1 : (x == y) = false := beq_eq_false_iff_ne.mpr e
      have e2 : ¬ (Sum.inr y : Key) = Sum.inr x := fun z => e (Sum.inr.inj z).symm
      rcases t.look (x := x) with ⟨h1, h2⟩ | ⟨l', b', h1, h2, h3⟩
      · refine .inl ⟨by simp [List.lookup, e1, h1], ?_⟩
        unfold valV at h2 ⊢
        rw [List.find?_cons_of_neg (by simpa using e2)]
        exact h2
      · refine .inr ⟨l', b', by simp [List.lookup, e1, h1], ?_, h3⟩
        unfold valV at h2 ⊢
        rw [List.find?_cons_of_neg (by simpa using e2)]
        exact h2
theorem PrAt.look {H : Hp} {d : Addr} {p : Pr} {x : Str} (h : PrAt H d p) : (p.lookup x = none ∧ DGet H d (.str x) none) ∨ ∃ l b, p.lookup x = some l ∧ DGet H d (.str x) (some (.ref b)) ∧ BdAt H b l := by
  obtain ⟨kvs, hd, hk⟩ := h
  rcases hk.look (x := x) with ⟨h1, h2⟩ | ⟨l, b, h1, h2, h3⟩
  · exact .inl ⟨h1, .inl ⟨kvs, .inr x, hd, rfl, h2.symm⟩⟩
  · exact .inr ⟨l, b, h1, .inl ⟨kvs, .inr x, hd, rfl, h2.symm⟩, h3⟩
end FA

set_option Elab.async false
set_option linter.all false
set_option maxRecDepth 100000
set_option maxHeartbeats 4000000
/-! Words for readings: isinstance, dicts under a walk, comprehensions whose element changes nothing that was there. -/
namespace FA
open PySem PySem.Spec PyProof.Rows L2
theorem isi_ty {K : PySem.W.Frag} {H : Hp} {x : V} {m n : String} {b : Bool} {Q : VK} (ht : TyX K H x (.type m)) (q : Q (.bl b) H) (hk : kitB m n = some b := by decide +kernel) : rIsi K [x, .ty n] H Q :=
  ⟨x, .ty n, _, _, b, rfl, .ty n, ht, kit_ty hk, q⟩
theorem ty_str {K : PySem.W.Frag} {H : Hp} (x : Str) : TyX K H (.str x) (.type "str") := .base (.str x)
theorem ty_dict {K : PySem.W.Frag} {H : Hp} {d : Addr} {kvs : List (Key × V)} (h : Rd H d (.dK kvs)) : TyX K H (.ref d) (.type "dict") := by
  rcases h with h | ⟨o, h⟩
  · exact .base (.dK h)
  · exact .fDict h
theorem ty_lst {K : PySem.W.Frag} {H : Hp} {d : Addr} {xs : List V} (h : H d = some (.lst xs)) : TyX K H (.ref d) (.type "list") := .base (.lst h)
theorem ty_tup {K : PySem.W.Frag} {H : Hp} {d : Addr} {xs : List V} (h : H d = some (.tup xs)) : TyX K H (.ref d) (.type "tuple") := .base (.tup h)
section
variable {X : Cx}
/-- len(d), d a dict, also while it is walked -/
theorem call_lenR : CallR X (.builtin "len") (fun xs H Q => ∃ d kvs, xs = [.ref d] ∧ Rd H d (.dK kvs) ∧ Q (.int (kvs.length : Nat)) H) := by
  intro pins s σ H xs us Q I r h
  obtain ⟨d, kvs, rfl, hd, q⟩ := h
  obtain ⟨u, rfl, ru⟩ := r.one
  cases ru
  exact d_len I hd fun t s' I' => ⟨.int kvs.length, H, I', ⟨t, rfl⟩, q⟩
/-- a walk over a dict: it is locked, or it is already -/
theorem pe_lock2 {e : Expr} {t : TE} (h : PE X e t) : PE X e (fun σ H Q => tLockE t σ H Q ∨ t σ H Q) := ⟨fun pins s σ H Q I hq => by
  rcases hq with hq | hq
  · exact (pe_lock h).run pins s σ H Q I hq
  · exact h.run pins s σ H Q I hq⟩
end
theorem same_upd0 {H : Hp} {p : Addr} (h : H p = none) (o : HO) : Same H (upd H p o) := fun b u e => by rw [upd_ne (ne_of_none e h)]; exact e
/-- the reading of such a walk that changes nothing which was there; N tells the value by what stands off d -/
theorem lock2 {t : TE} {σ : L2.St} {H : Hp} {Q : VK} {d : Addr} {kvs : List (Key × V)} (hd : Rd H d (.dK kvs)) (N : V → Hp → Prop) (hN : ∀ v H2 H3, (∀ b, b ≠ d → H3 b = H2 b) → N v H2 → N v H3)
    (body : ∀ (H1 : Hp) (od : Obj) (R : VK), H1 d = some (.frz od (.dK kvs)) → (∀ b, b ≠ d → H1 b = H b) → (∀ v H2, Same H1 H2 → N v H2 → R v H2) → t σ H1 R)
    (q : ∀ v H3, Same H H3 → N v H3 → Q v H3) : tLockE t σ H Q ∨ t σ H Q := by
  rcases hd with hd | ⟨od, hd⟩
  · refine .inl ⟨d, _, hd, trivial, fun od => body _ od _ upd_same (fun b hb => upd_ne hb) fun v H2 sm n => ⟨sm _ _ upd_same, q v _ (fun b o e => ?_) (hN v H2 _ (fun b hb => upd_ne hb) n)⟩⟩
    by_cases hb : b = d
    · subst hb; rw [hd] at e; cases e; exact upd_same
    · rw [upd_ne hb]; exact sm _ _ (by rw [upd_ne hb]; exact e)
  · exact .inr (body H od Q hd (fun _ _ => rfl) fun v H2 sm n => q v H2 sm n)
/-- a list comprehension whose element changes nothing that was there: G tells the j-th item, by the tuples that stand -/
theorem lcS {J : L2.It} {n : Nat} {g : TG} {te : TE} {vs : List Nat} {σ : L2.St} {H1 : Hp} {D : Addr} {Qd : Hp → Prop} (hD : H1 D = none) (hn : n < sizeLine) (Y : Nat → V → Prop) (G : Nat → V → Hp → Prop)
    (go : ∀ i H, Same H1 H → i < n → J.go i H) (stop : ∀ H, Same H1 H → J.stop n H) (yld : ∀ i H x H', Same H1 H → i < n → J.yld i H x H' → H' = H ∧ Y i x)
    (mono : ∀ j v A B, (∀ a xs, A a = some (.tup xs) → B a = some (.tup xs)) → G j v A → G j v B)
    (step : ∀ i x H (R : VK), i < n → Y i x → Same H1 H → (∀ y H', Same H H' → G i y H' → R y H') → g x (wipe σ vs) H fun σ2 H2 => wipe σ2 vs = wipe σ vs ∧ te σ2 H2 R)
    (fin : ∀ H ys, Same H1 H → H D = some (.lst ys) → ys.length = n → (∀ j y, ys[j]? = some y → G j y H) → Qd H) :
    ∃ W : Nat → Nat → Hp → Prop, (∃ m, W 0 m (upd H1 D (.lst []))) ∧ ∀ i m H, W i m H →
      (J.stop i H ∧ Qd H) ∨ (J.go i H ∧ ∃ Nx : Hp → Prop, (∀ H', Nx H' → ∃ m', m' < m ∧ W (i + 1) m' H') ∧ ∀ x H', J.yld i H x H' → g x (wipe σ vs) H' fun σ2 H2 => wipe σ2 vs = wipe σ vs ∧ tYes σ2 H2 fun b H3 =>
        if b = true then te σ2 H3 fun y H4 => ∃ acc, H4 D = some (.lst acc) ∧ acc.length < sizeLine ∧ Nx (upd H4 D (.lst (acc ++ [y]))) else Nx H3) := by
  refine ⟨fun i m H => m = n - i ∧ i ≤ n ∧ Same H1 H ∧ ∃ ys, H D = some (.lst ys) ∧ ys.length = i ∧ ∀ j y, ys[j]? = some y → G j y H, ⟨n, by simp, Nat.zero_le _, fun b o e => ?_, [], upd_same, rfl, by simp⟩, ?_⟩
  · rw [upd_ne (ne_of_none e hD)]; exact e
  · rintro i m H ⟨rfl, hi, sm, ys, hy, hl, hG⟩
    by_cases hlt : i < n
    · refine .inr ⟨go i H sm hlt, fun H' => i + 1 ≤ n ∧ Same H1 H' ∧ ∃ ys, H' D = some (.lst ys) ∧ ys.length = i + 1 ∧ ∀ j y, ys[j]? = some y → G j y H', fun H' h => ⟨n - (i + 1), by omega, rfl, h⟩, fun x H' y => ?_⟩
      obtain ⟨rfl, hY⟩ := yld i H x H' sm hlt y
      have st := step i x H' (fun y H4 => ∃ acc, H4 D = some (.lst acc) ∧ acc.length < sizeLine ∧ (i + 1 ≤ n ∧ Same H1 (upd H4 D (.lst (acc ++ [y]))) ∧ ∃ ys, (upd H4 D (.lst (acc ++ [y]))) D = some (.lst ys) ∧ ys.length = i + 1 ∧ ∀ j y', ys[j]? = some y' → G j y' (upd H4 D (.lst (acc ++ [y]))))) hlt hY sm fun v H4 s4 g4 => ?_
      · exact st
      · have tk : ∀ o a xs, H4 a = some (.tup xs) → (upd H4 D o) a = some (.tup xs) := fun o a xs e => by
          rw [upd_ne]
          · exact e
          · rintro rfl
            rw [s4 _ _ hy] at e
            cases e
        refine ⟨ys, s4 _ _ hy, by omega, hlt, fun b o e => ?_, ys ++ [v], upd_same, by simp [hl], fun j y' hj => ?_⟩
        · rw [upd_ne (ne_of_none e hD)]; exact s4 _ _ (sm _ _ e)
        · by_cases hj2 : j < ys.length
          · rw [List.getElem?_append_left hj2] at hj
            exact mono j y' _ _ (tk _) (mono j y' _ _ (fun a xs e => s4 _ _ e) (hG j y' hj))
          · rw [List.getElem?_append_right (by omega)] at hj
            have e0 : j - ys.length = 0 := by
              rcases Nat.eq_zero_or_pos (j - ys.length) with z | z
              · exact z
              · rw [List.getElem?_eq_none (by simp; omega)] at hj; cases hj
            rw [e0] at hj
            cases hj
            have : j = i := by omega
            subst this
            exact mono _ _ _ _ (tk _) g4
    · have : i = n := by omega
      subst this
      exact .inl ⟨stop H sm, fin H ys sm hy hl hG⟩
theorem valV_out {kvs : List (Key × V)} {k : Key} (h : ∀ q ∈ kvs, q.1 ≠ k) : valV kvs k = none := by
  induction kvs with
  | nil => rfl
  | cons q r ih =>
    rw [valV_neg (h q (by simp))]
    exact ih fun q' hq => h q' (List.mem_cons_of_mem _ hq)
theorem wipe_back {σ : L2.St} {i : Nat} {x : Option V} : wipe ((wipe σ [i]).set i x) [i] = wipe σ [i] := by
  show ((σ.set i none).set i x).set i none = σ.set i none
  rw [List.set_set, List.set_set]
/-- {k: e for k in d}, e changing nothing that was there, its value told by the key -/
theorem dcS {d : Addr} {od : Obj} {kvs : List (Key × V)} {i0 : Nat} {tv : TE} {σ : L2.St} {H1 : Hp} {D : Addr} {Qd : Hp → Prop} (hD : H1 D = none) (hd : H1 d = some (.frz od (.dK kvs))) (hnd : (kvs.map (·.1)).Nodup) (hn : kvs.length < sizeLine) (hi0 : i0 < σ.length) (val : Key → V)
    (step : ∀ (i : Nat) k v H (R : VK), kvs[i]? = some (k, v) → Same H1 H → (∀ H', Same H H' → R (val k) H') → tv ((wipe σ [i0]).set i0 (some (kV k))) H R)
    (fin : ∀ H, Same H1 H → H D = some (.dK (kvs.map fun q => (q.1, val q.1))) → Qd H) :
    ∃ W : Nat → Nat → Hp → Prop, (∃ m, W 0 m (upd H1 D (.dK []))) ∧ ∀ i m H, W i m H →
      ((Itk d od kvs).stop i H ∧ Qd H) ∨ ((Itk d od kvs).go i H ∧ ∃ Nx : Hp → Prop, (∀ H', Nx H' → ∃ m', m' < m ∧ W (i + 1) m' H') ∧ ∀ x H', (Itk d od kvs).yld i H x H' → gName i0 x (wipe σ [i0]) H' fun σ2 H2 => wipe σ2 [i0] = wipe σ [i0] ∧ tYes σ2 H2 fun b H3 =>
        if b = true then tVar i0 σ2 H3 fun y H4 => tv σ2 H4 fun z H5 => ∃ kvs k, y = kV k ∧ H5 D = some (.dK kvs) ∧ kvs.length < sizeLine ∧ Nx (upd H5 D (.dK (putK kvs k z))) else Nx H3) := by
  refine ⟨fun i m H => m = kvs.length - i ∧ i ≤ kvs.length ∧ Same H1 H ∧ H D = some (.dK ((kvs.take i).map fun q => (q.1, val q.1))), ⟨kvs.length, by simp, Nat.zero_le _, same_upd0 hD _, upd_same⟩, ?_⟩
  rintro i m H ⟨rfl, hi, sm, hy⟩
  by_cases hlt : i < kvs.length
  · refine .inr ⟨⟨sm _ _ hd, hlt⟩, fun H' => Same H1 H' ∧ H' D = some (.dK ((kvs.take (i + 1)).map fun q => (q.1, val q.1))), fun H' h => ⟨kvs.length - (i + 1), by omega, rfl, hlt, h⟩, fun x H' y => ?_⟩
    obtain ⟨rfl, k, v, e, rfl⟩ := y
    refine ⟨wipe_back, ?_⟩
    unfold tYes
    dsimp only
    rw [if_pos rfl]
    refine ⟨kV k, ?_, ?_⟩
    · have : i0 < (wipe σ [i0]).length := by rw [wipe_length]; exact hi0
      rw [List.getElem?_set_self this]
    · refine step i k v H' _ e sm fun H5 s5 => ⟨_, k, rfl, s5 _ _ hy, ?_, ?_, ?_⟩
      · rw [List.length_map, List.length_take]; omega
      · intro b o hb
        rw [upd_ne (ne_of_none hb hD)]
        exact s5 _ _ (sm _ _ hb)
      · have ke : kvs[i] = (k, v) := by
          rw [List.getElem?_eq_getElem hlt] at e
          exact Option.some.inj e
        rw [upd_same, putK_new, List.take_add_one, e, List.map_append]
        · rfl
        · refine valV_out fun q hq => ?_
          obtain ⟨q0, hq0, rfl⟩ := List.mem_map.mp hq
          intro z
          obtain ⟨j, hj, ej⟩ := List.mem_take_iff_getElem.mp hq0
          have hj' : j < i := by omega
          have h1 := List.nodup_iff_pairwise_ne.mp hnd
          have h2 := List.pairwise_iff_getElem.mp h1 j i (by rw [List.length_map]; omega) (by rw [List.length_map]; exact hlt) hj'
          rw [List.getElem_map, List.getElem_map, ke] at h2
          exact h2 (by rw [← ej] at z; exact z)
  · have : i = kvs.length := by omega
    subst this
    refine .inl ⟨⟨sm _ _ hd, Nat.le_refl _⟩, fin H sm ?_⟩
    rw [List.take_length] at hy
    exact hy
/-! the walks that are met -/
section
variable {K : PySem.W.Frag} {H1 : Hp} {a : Addr} {xs : List V}
theorem go_l (h : SqL K H1 a xs) : ∀ i H, Same H1 H → i < xs.length → (Itl K a).go i H := fun i H sm hi => ⟨xs, xs[i], sm.seq h, by simp [hi]⟩
theorem stop_l (h : SqL K H1 a xs) : ∀ H, Same H1 H → (Itl K a).stop xs.length H := fun H sm => ⟨xs, sm.seq h, Nat.le_refl _⟩
theorem yld_l (h : SqL K H1 a xs) : ∀ i H x H', Same H1 H → i < xs.length → (Itl K a).yld i H x H' → H' = H ∧ xs[i]? = some x := fun i H x H' sm hi y => ⟨y.1, y.2 xs (sm.seq h)⟩
theorem go_s {z : Str} : ∀ i H, Same H1 H → i < z.cps.size → (Its z).go i H := fun i H _ hi => hi
theorem stop_s {z : Str} : ∀ H, Same H1 H → (Its z).stop z.cps.size H := fun H _ => Nat.le_refl _
theorem yld_s {z : Str} : ∀ i H x H', Same H1 H → i < z.cps.size → (Its z).yld i H x H' → H' = H ∧ ∃ c, z.cps[i]? = some c ∧ x = .str ⟨#[c]⟩ := fun i H x H' _ _ y => y
theorem go_k {d : Addr} {o : Obj} {kvs : List (Key × V)} (h : H1 d = some (.frz o (.dK kvs))) : ∀ i H, Same H1 H → i < kvs.length → (Itk d o kvs).go i H := fun i H sm hi => ⟨sm _ _ h, hi⟩
theorem stop_k {d : Addr} {o : Obj} {kvs : List (Key × V)} (h : H1 d = some (.frz o (.dK kvs))) : ∀ H, Same H1 H → (Itk d o kvs).stop kvs.length H := fun H sm => ⟨sm _ _ h, Nat.le_refl _⟩
theorem yld_k {d : Addr} {o : Obj} {kvs : List (Key × V)} : ∀ i H x H', Same H1 H → i < kvs.length → (Itk d o kvs).yld i H x H' → H' = H ∧ ∃ k v, kvs[i]? = some (k, v) ∧ x = kV k := fun i H x H' _ _ y => y
end
theorem ext_map {α : Type} {ys : List V} {l : List α} {f : α → V} (hl : ys.length = l.length) (h : ∀ (j : Nat) y, ys[j]? = some y → ∃ a, l[j]? = some a ∧ y = f a) : ys = l.map f := by
  refine List.ext_getElem? fun j => ?_
  by_cases hj : j < ys.length
  · obtain ⟨a, e1, e2⟩ := h j ys[j] (List.getElem?_eq_getElem hj)
    rw [List.getElem?_eq_getElem hj, List.getElem?_map, e1, e2]
    rfl
  · rw [List.getElem?_eq_none (by omega), List.getElem?_eq_none (by rw [List.length_map]; omega)]
theorem dpAll_map {K : PySem.W.Frag} {H : Hp} {α : Type} {f : α → PyData} : ∀ {ys : List V} {l : List α}, ys.length = l.length → (∀ (j : Nat) y, ys[j]? = some y → ∃ a, l[j]? = some a ∧ Dp K H y (f a)) → DpAll K H ys (l.map f)
  | [], [], _, _ => .nil
  | [], _ :: _, h, _ => by simp at h
  | _ :: _, [], h, _ => by simp at h
  | y :: ys, a :: l, hl, h => by
    obtain ⟨a', e1, e2⟩ := h 0 y rfl
    cases e1
    exact .cons e2 (dpAll_map (by simpa using hl) fun j y e => h (j + 1) y (by simpa using e))
theorem fn_never {P : Program} {w : World} {K : PySem.W.Frag} {mg : Str → Option Value} {base : Heap} {CX : CXT} {k : Nat} {f : Addr} {fd : FuncData} {ps : List Str} {sp : Sp} (no : ∀ vs H Q E, ¬ sp vs H Q E) : FnOk P w K mg base CX k f fd ps sp :=
  ⟨fun vs H Q E h => absurd h (no vs H Q E), fun A outer s H args us vs Q E _ _ _ _ h => absurd h (no vs H Q E)⟩
section
variable {X : Cx} {K : PySem.W.Frag}
theorem call_len_seqK (hK : X.K = K) : CallR X (.builtin "len") (fun xs H Q => ∃ p ys, xs = [.ref p] ∧ (SqL K H p ys ∨ SqT K H p ys) ∧ Q (.int ys.length) H) := by subst hK; exact call_len_seq
theorem ix_listK (hK : X.K = K) : IxR X (rIxL K) := by subst hK; exact ix_list
theorem ix_tupK (hK : X.K = K) : IxR X (rIxT K) := by subst hK; exact ix_tup
theorem call_isiK1 (hK : X.K = K) : CallR X (.builtin "isinstance") (rIsi K) := by subst hK; exact call_isi
theorem op_neDK (hK : X.K = K) (hu : X.A.units + 64 < cLine) : OpR X (compareOp .NotEq) (rNeD K) := by subst hK; exact op_neD hu
theorem op_eqDK (hK : X.K = K) (hu : X.A.units + 64 < cLine) : OpR X (compareOp .Eq) (rEqD K) := by subst hK; exact op_eqD hu
theorem sl_listK (hK : X.K = K) : SlR X (rSlL K) := by subst hK; exact sl_list
variable {o e : Expr} {es : List Expr} {to : TE} {t : TA} {name : Str} {apos cpos : Pos} {T id : String} {r : V → List V → Hp → VK → Prop}
theorem pe_bmK (hK : X.K = K) (pa : PlainAttrs T) (slot : Slot T name id) (hty : typeOf (.builtin id) = pure (.type "method_descriptor")) (hm : MtR X id r) (ho : PE X o to) (ha : PA X (e :: es) t)
    (hbase : attributeBase o name X.env (eval o X.env) = eval o X.env := by rfl)
    (hfew : ((backTo cpos (starEach (e :: es) X.env)).all (fun x => !x.1) && (backToKw cpos (keywordEach [] X.env)).all (fun x => x.1.isSome) && decide ((e :: es).length + ([] : List Keyword).length + (if ([] : List Keyword).isEmpty then 0 else 1) < 30)) = true := by rfl)
    (hline : (apos.endLine == cpos.line) = true := by rfl) (hs : starEach (e :: es) X.env = (false, eval e X.env) :: starEach es X.env := by rfl) (hplain : (backTo cpos (starEach es X.env)).any (·.1) = false := by rfl) :
    PE X (.Call (.Attribute o name apos) (e :: es) [] cpos) (tBM K T r to t) := by
  subst hK
  exact pe_bm pa slot hty hm ho ha hbase hfew hline hs hplain
end
theorem hu65_of {A : Around} {k : Nat} (hr : Room k A) : A.units + 65 < cLine := by have := hr.un; omega
theorem same_upd {H : Hp} {p : Addr} (h : H p = none) (o : HO) : Same H (upd H p o) := fun b u e => by rw [upd_ne (ne_of_none e h)]; exact e
end FA

set_option Elab.async false
set_option linter.all false
set_option maxRecDepth 100000
set_option maxHeartbeats 4000000
/-! Bodies and programs as Python's data: for ==, count and repr. -/
namespace FA
open PySem PySem.Spec PyProof.Rows L2
/-- a name: 1 to 8 small letters -/
def okName (x : Str) : Prop := 1 ≤ x.length ∧ x.length ≤ 8 ∧ ∀ c ∈ x.cps.toList, 97 ≤ c ∧ c ≤ 122
theorem okName.strOk {x : Str} (h : okName x) : PyData.strOk x = true := by
  unfold PyData.strOk
  rw [Array.all_eq_true']
  intro c hc
  have := h.2.2 c (by simpa using hc)
  exact decide_eq_true (by omega)
mutual
def dtI : It → PyData
  | .call x => .str x
  | .may b => .tuple [.str "maybe", .list (dtB b)]
  | .loop b => .tuple [.str "loop", .list (dtB b)]
  | .one bs => .tuple [.str "one", .list (dtBs bs)]
def dtB : List It → List PyData
  | [] => []
  | i :: r => dtI i :: dtB r
def dtBs : List (List It) → List PyData
  | [] => []
  | b :: r => .list (dtB b) :: dtBs r
end
section
variable {K : PySem.W.Frag} {H : Hp}
mutual
theorem ItAt.dp : ∀ {v : V} {i : It}, ItAt H v i → Dp K H v (dtI i)
  | _, _, .call x => by simp only [dtI]; exact .str x
  | _, _, .may h1 h2 h3 => by simp only [dtI]; exact .tup (SqT.of h1) (.cons (.str _) (.cons (.lst (SqL.of h2) (ItsAt.dp h3)) .nil))
  | _, _, .loop h1 h2 h3 => by simp only [dtI]; exact .tup (SqT.of h1) (.cons (.str _) (.cons (.lst (SqL.of h2) (ItsAt.dp h3)) .nil))
  | _, _, .one h1 h2 h3 => by simp only [dtI]; exact .tup (SqT.of h1) (.cons (.str _) (.cons (.lst (SqL.of h2) (BdsAt.dp h3)) .nil))
theorem ItsAt.dp : ∀ {vs : List V} {l : List It}, ItsAt H vs l → DpAll K H vs (dtB l)
  | _, _, .nil => by simp only [dtB]; exact .nil
  | _, _, .cons h t => by simp only [dtB]; exact .cons (ItAt.dp h) (ItsAt.dp t)
theorem BdsAt.dp : ∀ {vs : List V} {l : List (List It)}, BdsAt H vs l → DpAll K H vs (dtBs l)
  | _, _, .nil => by simp only [dtBs]; exact .nil
  | _, _, .cons h h2 t => by simp only [dtBs]; exact .cons (.lst (SqL.of h) (ItsAt.dp h2)) (BdsAt.dp t)
end
mutual
theorem ItAt.dd : ∀ {v : V} {i : It}, ItAt H v i → Dd K H v (dtI i)
  | _, _, .call x => by simp only [dtI]; exact .str x
  | _, _, .may h1 h2 h3 => by simp only [dtI]; exact .tup h1 (.cons (.str _) (.cons (.lst h2 (ItsAt.dd h3)) .nil))
  | _, _, .loop h1 h2 h3 => by simp only [dtI]; exact .tup h1 (.cons (.str _) (.cons (.lst h2 (ItsAt.dd h3)) .nil))
  | _, _, .one h1 h2 h3 => by simp only [dtI]; exact .tup h1 (.cons (.str _) (.cons (.lst h2 (BdsAt.dd h3)) .nil))
theorem ItsAt.dd : ∀ {vs : List V} {l : List It}, ItsAt H vs l → DdAll K H vs (dtB l)
  | _, _, .nil => by simp only [dtB]; exact .nil
  | _, _, .cons h t => by simp only [dtB]; exact .cons (ItAt.dd h) (ItsAt.dd t)
theorem BdsAt.dd : ∀ {vs : List V} {l : List (List It)}, BdsAt H vs l → DdAll K H vs (dtBs l)
  | _, _, .nil => by simp only [dtBs]; exact .nil
  | _, _, .cons h h2 t => by simp only [dtBs]; exact .cons (.lst h (ItsAt.dd h2)) (BdsAt.dd t)
end
theorem PrKv.dd : ∀ {kvs : List (Key × V)} {p : Pr}, PrKv H kvs p → DdAll K H (kvs.map (·.2)) (p.map fun q => PyData.list (dtB q.2))
  | _, _, .nil => .nil
  | _, _, .cons h t => by
    obtain ⟨vs, h1, h2⟩ := h
    exact .cons (.lst h1 (ItsAt.dd h2)) t.dd
end
/-- the program as data -/
def dtP (p : Pr) : PyData := .dict (p.map fun q => (.str q.1, .list (dtB q.2)))
theorem PrKv.dt {K : PySem.W.Frag} {H : Hp} {d : Addr} {kvs : List (Key × V)} {p : Pr} (hd : Rd H d (.dK kvs)) (h : PrKv H kvs p) : Dd K H (.ref d) (dtP p) := by
  have q := Dd.dic (K := K) hd h.dd
  have e : ((kvs.map fun p => kD p.1).zip (p.map fun q => PyData.list (dtB q.2))) = p.map fun q => (PyData.str q.1, PyData.list (dtB q.2)) := by
    have e2 : (kvs.map fun p => kD p.1) = p.map fun q => PyData.str q.1 := by
      have := congrArg (List.map kD) h.keys
      rw [List.map_map, List.map_map] at this
      exact this
    rw [e2, List.zip_map']
  rw [e] at q
  exact q
/-! ### sizes -/
mutual
theorem dtI_lay {ns : List Str} (hn : ∀ x ∈ ns, okName x) : ∀ i : It, okI ns i → (dtI i).canLay0 = true
  | .call x, h => by simp only [dtI, PyData.canLay0]; exact (hn x (by simpa [okI] using h)).strOk
  | .may b, h => by
    simp only [okI] at h
    simp only [dtI, PyData.canLay0, PyData.canLayAll0, dtB_lay hn b h.2, Bool.and_true]; decide +kernel
  | .loop b, h => by
    simp only [okI] at h
    simp only [dtI, PyData.canLay0, PyData.canLayAll0, dtB_lay hn b h.2, Bool.and_true]; decide +kernel
  | .one bs, h => by
    simp only [okI] at h
    simp only [dtI, PyData.canLay0, PyData.canLayAll0, dtBs_lay hn bs h.2.2.2, Bool.and_true]; decide +kernel
theorem dtB_lay {ns : List Str} (hn : ∀ x ∈ ns, okName x) : ∀ b : List It, okB ns b → PyData.canLayAll0 (dtB b) = true
  | [], _ => by simp only [dtB, PyData.canLayAll0]
  | i :: r, h => by
    simp only [okB] at h
    simp only [dtB, PyData.canLayAll0, dtI_lay hn i h.1, dtB_lay hn r h.2, Bool.and_true]
theorem dtBs_lay {ns : List Str} (hn : ∀ x ∈ ns, okName x) : ∀ bs : List (List It), okBs ns bs → PyData.canLayAll0 (dtBs bs) = true
  | [], _ => by simp only [dtBs, PyData.canLayAll0]
  | b :: r, h => by
    simp only [okBs] at h
    simp only [dtBs, PyData.canLayAll0, PyData.canLay0, dtB_lay hn b h.1, dtBs_lay hn r h.2, Bool.and_true]
end
mutual
theorem dtI_depth : ∀ i : It, (dtI i).depth ≤ 3 * dI i + 2
  | .call x => by simp only [dtI, PyData.depth]; omega
  | .may b => by
    have := dtB_depth b
    simp only [dtI, PyData.depth, PyData.depthAll, dI]; omega
  | .loop b => by
    have := dtB_depth b
    simp only [dtI, PyData.depth, PyData.depthAll, dI]; omega
  | .one bs => by
    have := dtBs_depth bs
    simp only [dtI, PyData.depth, PyData.depthAll, dI]; omega
theorem dtB_depth : ∀ b : List It, PyData.depthAll (dtB b) + 1 ≤ 3 * dB b
  | [] => by simp only [dtB, PyData.depthAll, dB]; omega
  | i :: r => by
    have h1 := dtI_depth i
    have h2 := dtB_depth r
    simp only [dtB, PyData.depthAll, dB]; omega
theorem dtBs_depth : ∀ bs : List (List It), PyData.depthAll (dtBs bs) ≤ 3 * dBs bs
  | [] => by simp only [dtBs, PyData.depthAll, dBs]; omega
  | b :: r => by
    have h1 := dtB_depth b
    have h2 := dtBs_depth r
    simp only [dtBs, PyData.depthAll, PyData.depth, dBs]; omega
end
mutual
theorem dtI_show : ∀ i : It, (dtI i).showable = true
  | .call x => by simp only [dtI, PyData.showable]
  | .may b => by simp only [dtI, PyData.showable, PyData.showableAll, dtB_show b, Bool.and_true]
  | .loop b => by simp only [dtI, PyData.showable, PyData.showableAll, dtB_show b, Bool.and_true]
  | .one bs => by simp only [dtI, PyData.showable, PyData.showableAll, dtBs_show bs, Bool.and_true]
theorem dtB_show : ∀ b : List It, PyData.showableAll (dtB b) = true
  | [] => by simp only [dtB, PyData.showableAll]
  | i :: r => by simp only [dtB, PyData.showableAll, dtI_show i, dtB_show r, Bool.and_true]
theorem dtBs_show : ∀ bs : List (List It), PyData.showableAll (dtBs bs) = true
  | [] => by simp only [dtBs, PyData.showableAll]
  | b :: r => by simp only [dtBs, PyData.showableAll, PyData.showable, dtB_show b, dtBs_show r, Bool.and_true]
end
theorem okName.short {x : Str} (h : okName x) : (x.cps.toList.all fun c => decide (c < 16 ^ 8)) = true := by
  rw [List.all_eq_true]
  intro c hc
  have := h.2.2 c hc
  exact decide_eq_true (by omega)
mutual
theorem dtI_short {ns : List Str} (hn : ∀ x ∈ ns, okName x) : ∀ i : It, okI ns i → (dtI i).leavesShort 13 = true
  | .call x, h => by simp only [dtI, PyData.leavesShort]; exact (hn x (by simpa [okI] using h)).short
  | .may b, h => by
    simp only [okI] at h
    simp only [dtI, PyData.leavesShort, PyData.leavesShortAll, dtB_short hn b h.2, Bool.and_true]; decide +kernel
  | .loop b, h => by
    simp only [okI] at h
    simp only [dtI, PyData.leavesShort, PyData.leavesShortAll, dtB_short hn b h.2, Bool.and_true]; decide +kernel
  | .one bs, h => by
    simp only [okI] at h
    simp only [dtI, PyData.leavesShort, PyData.leavesShortAll, dtBs_short hn bs h.2.2.2, Bool.and_true]; decide +kernel
theorem dtB_short {ns : List Str} (hn : ∀ x ∈ ns, okName x) : ∀ b : List It, okB ns b → PyData.leavesShortAll 13 (dtB b) = true
  | [], _ => by simp only [dtB, PyData.leavesShortAll]
  | i :: r, h => by
    simp only [okB] at h
    simp only [dtB, PyData.leavesShortAll, dtI_short hn i h.1, dtB_short hn r h.2, Bool.and_true]
theorem dtBs_short {ns : List Str} (hn : ∀ x ∈ ns, okName x) : ∀ bs : List (List It), okBs ns bs → PyData.leavesShortAll 13 (dtBs bs) = true
  | [], _ => by simp only [dtBs, PyData.leavesShortAll]
  | b :: r, h => by
    simp only [okBs] at h
    simp only [dtBs, PyData.leavesShortAll, PyData.leavesShort, dtB_short hn b h.1, dtBs_short hn r h.2, Bool.and_true]
end
mutual
theorem dtI_bulk {ns : List Str} (hn : ∀ x ∈ ns, okName x) : ∀ i : It, okI ns i → (dtI i).bulk ≤ 12 + 32 * nI i
  | .call x, h => by
    have h2 : x.cps.size ≤ 8 := (hn x (by simpa [okI] using h)).2.1
    simp only [dtI, PyData.bulk]; omega
  | .may b, h => by
    simp only [okI] at h
    have h1 := dtB_bulk hn b h.2
    have h2 : ("maybe" : Str).cps.size = 5 := by decide +kernel
    simp only [dtI, PyData.bulk, PyData.bulkAll, nI, h2]; omega
  | .loop b, h => by
    simp only [okI] at h
    have h1 := dtB_bulk hn b h.2
    have h2 : ("loop" : Str).cps.size = 4 := by decide +kernel
    simp only [dtI, PyData.bulk, PyData.bulkAll, nI, h2]; omega
  | .one bs, h => by
    simp only [okI] at h
    have h1 := dtBs_bulk hn bs h.2.2.2
    have h2 : ("one" : Str).cps.size = 3 := by decide +kernel
    have h3 := h.2.1
    simp only [dtI, PyData.bulk, PyData.bulkAll, nI, h2]; omega
theorem dtB_bulk {ns : List Str} (hn : ∀ x ∈ ns, okName x) : ∀ b : List It, okB ns b → PyData.bulkAll (dtB b) ≤ 32 * nIB b
  | [], _ => by simp only [dtB, PyData.bulkAll, nIB]; omega
  | i :: r, h => by
    simp only [okB] at h
    have h1 := dtI_bulk hn i h.1
    have h2 := dtB_bulk hn r h.2
    simp only [dtB, PyData.bulkAll, nIB]; omega
theorem dtBs_bulk {ns : List Str} (hn : ∀ x ∈ ns, okName x) : ∀ bs : List (List It), okBs ns bs → PyData.bulkAll (dtBs bs) ≤ 32 * nIBs bs + bs.length
  | [], _ => by simp only [dtBs, PyData.bulkAll, nIBs]; omega
  | b :: r, h => by
    simp only [okBs] at h
    have h1 := dtB_bulk hn b h.1
    have h2 := dtBs_bulk hn r h.2
    simp only [dtBs, PyData.bulkAll, PyData.bulk, nIBs, List.length_cons]; omega
end
theorem dt_shaped {ds : List PyData} (h : PyData.canLayAll0 ds = true) (h2 : PyData.depthAll ds ≤ 60) : SeqAt.shaped (.list ds) = true := by
  show (PyData.canLay0 (.list ds) && decide (PyData.depth (.list ds) ≤ 64)) = true
  rw [Bool.and_eq_true]
  exact ⟨by simp only [PyData.canLay0]; exact h, decide_eq_true (by simp only [PyData.depth]; omega)⟩
/-- how many of the bodies are empty -/
theorem count_empty : ∀ bs : List (List It), (dtBs bs).countP (fun z => PyData.eqv z (.list [])) = bs.countP (fun b => b.isEmpty)
  | [] => rfl
  | b :: r => by
    have e : PyData.eqv (.list (dtB b)) (.list []) = b.isEmpty := by
      cases b with
      | nil => simp [dtB, PyData.eqv, PyData.eqvAll]
      | cons i r => simp [dtB, PyData.eqv, PyData.eqvAll]
    simp only [dtBs, List.countP_cons, e, count_empty r]
end FA

set_option Elab.async false
set_option linter.all false
set_option maxRecDepth 100000
set_option maxHeartbeats 4000000
/-! list(text) -/
namespace FA
open PySem PySem.Spec PyProof.Rows L2
theorem vals_of : ∀ {xs : List V} {us : List Value}, xs.length = us.length → (∀ (j : Nat) u, us[j]? = some u → ∃ x, xs[j]? = some x ∧ L2.RelV x u) → Vals xs us
  | [], [], _, _ => .nil
  | [], _ :: _, h, _ => by simp at h
  | _ :: _, [], h, _ => by simp at h
  | x :: xs, u :: us, hl, h => by
    obtain ⟨x', e1, e2⟩ := h 0 u rfl
    cases e1
    exact .cons e2 (vals_of (by simpa using hl) fun j u e => h (j + 1) u (by simpa using e))
section
variable {X : Cx}
theorem call_strL (hc : X.calm = true) : CallR X (.type "list") (fun xs H Q => ∃ z : Str, xs = [.str z] ∧ z.cps.size ≤ sizeLine ∧ ∀ l, H l = none → Q (.ref l) (upd H l (.lst (z.cps.toList.map fun c => V.str ⟨#[c]⟩)))) := by
  intro pins s σ H xs us Q I r h
  obtain ⟨z, rfl, hz, q⟩ := h
  obtain ⟨u, rfl, ru⟩ := r.one
  obtain ⟨t, rfl⟩ := ru
  refine call_list_str (I.ok.hd hc) z t (fun h' tk acc' c' hk e hi => ?_) hz
  have hv : Vals (z.cps.toList.map fun c => V.str ⟨#[c]⟩) acc'.toList := vals_of (by rw [List.length_map, Array.length_toList, Array.length_toList, hi.1]) fun j u hj => by
    rw [Array.getElem?_toList] at hj
    obtain ⟨c, t', h1, rfl⟩ := hi.2 j u hj
    exact ⟨.str ⟨#[c]⟩, by rw [List.getElem?_map, Array.getElem?_toList, h1]; rfl, _, rfl⟩
  refine ⟨.ref s.heap.objs.size, _, I.laid (t' := tk) (o := .lst (z.cps.toList.map fun c => V.str ⟨#[c]⟩)) hk (Nat.le_refl _) ⟨by rw [List.length_map, Array.length_toList]; exact hz, acc'.toList, c', hv, ?_⟩, rfl, q _ (I.hok.fresh (Nat.le_refl _))⟩
  rw [e]
end
end FA

set_option Elab.async false
set_option linter.all false
set_option maxRecDepth 100000
set_option maxHeartbeats 4000000
/-! What several families of laws share: new objects, statements cut, slices, bodies put together, walks of enumerate and of tuples. -/
namespace FA
open PySem PySem.Spec PyProof.Rows L2
theorem yesT {σ : L2.St} {H : Hp} {Q : Bool → Hp → Prop} (h : Q true H) : tYes σ H Q := h
theorem ix_of {n : Nat} {i : Int} (h0 : 0 ≤ i) (h1 : i < n) : ixN n i = some i.toNat := by
  unfold ixN
  rw [if_pos h0, if_pos h1]
theorem erase_perm {α : Type} {l : List α} {i : Nat} (h : i < l.length) : (l[i] :: l.eraseIdx i).Perm l := by
  rw [List.eraseIdx_eq_take_drop_succ]
  have e : l.take i ++ l[i] :: l.drop (i + 1) = l := by rw [← List.drop_eq_getElem_cons h, List.take_append_drop]
  exact List.perm_middle.symm.trans (List.Perm.of_eq e)
/-- what is new in H' -/
def fr (H H' : Hp) : Hp := fun b => match H b with
  | none => H' b
  | some _ => none
theorem fr_some {H H' : Hp} {b : Addr} {o : HO} : fr H H' b = some o ↔ H b = none ∧ H' b = some o := by
  unfold fr
  cases H b with
  | none => simp
  | some u => simp
theorem none_back {W : List Addr} {H H1 : Hp} {b : Addr} (s : Sm W H H1) (k : ∀ a ∈ W, ∃ o, H1 a = some o) (h : H1 b = none) : H b = none := by
  by_cases hb : b ∈ W
  · obtain ⟨o, e⟩ := k b hb
    rw [e] at h; cases h
  · exact s.none hb h
/-- new behind H1: new behind H, and kept -/
theorem fr_step {W : List Addr} {H H1 H2 H3 : Hp} (s : Sm W H H1) (k : ∀ a ∈ W, ∃ o, H1 a = some o) (s2 : Sm W H2 H3) : Kp (fr H1 H2) (fr H H3) := by
  have key : ∀ a o, fr H1 H2 a = some o → fr H H3 a = some o := fun a o e => by
    rw [fr_some] at e ⊢
    refine ⟨none_back s k e.1, s2 a o (fun z => ?_) e.2⟩
    obtain ⟨u, e2⟩ := k a z
    rw [e2] at e
    cases e.1
  exact ⟨fun a xs e => key _ _ e, fun a xs e => key _ _ e⟩
theorem strs_ne {ls : List Str} {x : Int} {r : List V} (h : (ls.map V.str) = V.int x :: r) : False := by
  cases ls with
  | nil => cases h
  | cons a r => cases h
theorem okB_snoc {ns : List Str} {l : List It} {it : It} (h : okB ns l) (h2 : okI ns it) : okB ns (l ++ [it]) := by
  rw [okB_all] at h ⊢
  intro i hi
  rcases List.mem_append.mp hi with z | z
  · exact h i z
  · simp at z; rw [z]; exact h2
theorem nCB_snoc : ∀ (l : List It) (it : It), nCB (l ++ [it]) = nCB l + nC it
  | [], it => by simp [nCB]
  | i :: r, it => by simp only [List.cons_append, nCB, nCB_snoc r it]; omega
theorem nIB_snoc : ∀ (l : List It) (it : It), nIB (l ++ [it]) = nIB l + (1 + nI it)
  | [], it => by simp [nIB]
  | i :: r, it => by simp only [List.cons_append, nIB, nIB_snoc r it]; omega
theorem dB_snoc : ∀ (l : List It) (it : It), dB (l ++ [it]) = max (dB l) (1 + dI it)
  | [], it => by simp only [List.nil_append, dB]; omega
  | i :: r, it => by simp only [List.cons_append, dB, dB_snoc r it]; omega
theorem split_at {X : Cx} {body : List Stmt} {D0 : Ends} {σ0 : L2.St} {H0 : Hp} (k : Nat) (R : Ends → L2.St → Hp → Prop) (h2 : ∃ u, PSs X (body.drop k) u ∧ ∀ D σ H, R D σ H → u D σ H)
    (h1 : ∀ u, PSs X (body.drop k) u → (∀ D σ H, R D σ H → u D σ H) → ∃ t, PSs X body t ∧ t D0 σ0 H0) : ∃ t, PSs X body t ∧ t D0 σ0 H0 := by
  obtain ⟨u, a, b⟩ := h2
  exact h1 u a b
theorem dp_strs {K : PySem.W.Frag} {H : Hp} : ∀ ls : List Str, DpAll K H (ls.map V.str) (ls.map PyData.str)
  | [] => .nil
  | x :: r => .cons (.str x) (dp_strs r)
theorem strs_shaped {ls : List Str} (h : ∀ x ∈ ls, okName x) : SeqAt.shaped (.list (ls.map PyData.str)) = true := by
  refine dt_shaped ?_ ?_
  · induction ls with
    | nil => rfl
    | cons x r ih =>
      simp only [List.map_cons, PyData.canLayAll0, PyData.canLay0, (h x (by simp)).strOk, Bool.true_and]
      exact ih fun y hy => h y (List.mem_cons_of_mem _ hy)
  · have : ∀ ls : List Str, PyData.depthAll (ls.map PyData.str) = 0 := fun ls => by
      induction ls with
      | nil => rfl
      | cons x r ih => simp only [List.map_cons, PyData.depthAll, PyData.depth, ih]; rfl
    rw [this]; omega
theorem eqv_nil (ds : List PyData) : PyData.eqv (.list ds) (.list []) = ds.isEmpty := by
  cases ds with
  | nil => simp [PyData.eqv, PyData.eqvAll]
  | cons a r => simp [PyData.eqv, PyData.eqvAll]
theorem nCBs_app : ∀ a b : List (List It), nCBs (a ++ b) = nCBs a + nCBs b
  | [], b => by simp [nCBs]
  | x :: r, b => by simp only [List.cons_append, nCBs, nCBs_app r b]; omega
theorem nIBs_app : ∀ a b : List (List It), nIBs (a ++ b) = nIBs a + nIBs b
  | [], b => by simp [nIBs]
  | x :: r, b => by simp only [List.cons_append, nIBs, nIBs_app r b]; omega
theorem dBs_app : ∀ a b : List (List It), dBs (a ++ b) = max (dBs a) (dBs b)
  | [], b => by simp only [List.nil_append, dBs]; omega
  | x :: r, b => by simp only [List.cons_append, dBs, dBs_app r b]; omega
theorem okBs_app {ns : List Str} {a b : List (List It)} : okBs ns (a ++ b) ↔ okBs ns a ∧ okBs ns b := by
  simp only [okBs_all, List.mem_append]
  exact ⟨fun h => ⟨fun x hx => h x (.inl hx), fun x hx => h x (.inr hx)⟩, fun h x hx => hx.elim (h.1 x) (h.2 x)⟩
theorem kp_wo {D : Addr} {H H1 : Hp} : Kp (wo [D] (fr H H1)) (fr H H1) := ⟨fun x xs e => (wo_some.mp e).2, fun x xs e => (wo_some.mp e).2⟩
theorem kp_fr {H H1 : Hp} : Kp (fr H H1) H1 := ⟨fun x xs e => (fr_some.mp e).2, fun x xs e => (fr_some.mp e).2⟩
theorem cut_from {xs : List V} {k : Nat} (h : k ≤ xs.length) : cutV xs (some (k : Int)) none = xs.drop k := by
  unfold cutV
  rw [HT.sIx_nat, HT.sIx_none, Nat.min_eq_left h, List.take_of_length_le (by rw [List.length_drop]; omega)]
theorem cut_to {xs : List V} {k : Nat} (h : k ≤ xs.length) : cutV xs none (some (k : Int)) = xs.take k := by
  unfold cutV
  rw [HT.sIx_nat, HT.sIx_none, Nat.min_eq_left h, List.drop_zero, Nat.sub_zero]
theorem BdAt.toBds {H : Hp} {b : Addr} {l : List It} {vs : List V} {ls : List (List It)} (h : BdAt H b l) (t : BdsAt H vs ls) : BdsAt H (.ref b :: vs) (l :: ls) := let ⟨_, h1, h2⟩ := h; .cons h1 h2 t
theorem strs_perm : ∀ {ys : List V} {ns : List Str}, ys.Perm (ns.map V.str) → ∃ zs : List Str, ys = zs.map V.str ∧ zs.Perm ns := by
  intro ys ns h
  have key : ∀ {a b : List V}, a.Perm b → (∀ v ∈ b, ∃ z, v = V.str z) → (∀ v ∈ a, ∃ z, v = V.str z) := fun p hb v hv => hb v (p.mem_iff.mp hv)
  have h1 := key h (fun v hv => by obtain ⟨z, _, e⟩ := List.mem_map.mp hv; exact ⟨z, e.symm⟩)
  have ex : ∀ l : List V, (∀ v ∈ l, ∃ z, v = V.str z) → ∃ zs : List Str, l = zs.map V.str := by
    intro l
    induction l with
    | nil => exact fun _ => ⟨[], rfl⟩
    | cons v r ih =>
      intro hv
      obtain ⟨z, e⟩ := hv v (by simp)
      obtain ⟨zs, e2⟩ := ih fun u hu => hv u (List.mem_cons_of_mem _ hu)
      exact ⟨z :: zs, by rw [e, e2]; rfl⟩
  obtain ⟨zs, e⟩ := ex ys h1
  subst e
  refine ⟨zs, rfl, ?_⟩
  have inj : ∀ a b : Str, V.str a = V.str b → a = b := fun a b e => V.str.inj e
  let un : V → Str := fun v => match v with | .str z => z | _ => "main"
  have q := h.map un
  rw [List.map_map, List.map_map] at q
  have i1 : (un ∘ V.str) = id := rfl
  rw [i1, List.map_id, List.map_id] at q
  exact q
theorem mem_look : ∀ {p : Pr} {x : Str} {l : Bd}, p.lookup x = some l → (x, l) ∈ p
  | (y, m) :: p, x, l, h => by
    by_cases e : x = y
    · subst e
      simp [List.lookup] at h
      rw [h]; simp
    · have e1 : (x == y) = false := beq_eq_false_iff_ne.mpr e
      simp only [List.lookup, e1] at h
      exact List.mem_cons_of_mem _ (mem_look h)
theorem cut_last (xs : List V) : cutV xs none (some (-1)) = xs.take (xs.length - 1) := by
  have e : HT.sIx xs.length xs.length (some (-1)) = xs.length - 1 := by
    show (if (-1 : Int) < 0 then ((-1 : Int) + (xs.length : Int)).toNat else min (-1 : Int).toNat xs.length) = _
    rw [if_pos (by decide)]
    omega
  unfold cutV
  rw [e, HT.sIx_none, List.drop_zero, Nat.sub_zero]
mutual
theorem okI_more {ns ms : List Str} (s : ∀ x ∈ ns, x ∈ ms) : ∀ i : It, okI ns i → okI ms i
  | .call x, h => by simp only [okI] at h ⊢; exact s x h
  | .may b, h => by simp only [okI] at h ⊢; exact ⟨h.1, okB_more s b h.2⟩
  | .loop b, h => by simp only [okI] at h ⊢; exact ⟨h.1, okB_more s b h.2⟩
  | .one bs, h => by simp only [okI] at h ⊢; exact ⟨h.1, h.2.1, h.2.2.1, okBs_more s bs h.2.2.2⟩
theorem okB_more {ns ms : List Str} (s : ∀ x ∈ ns, x ∈ ms) : ∀ b : List It, okB ns b → okB ms b
  | [], _ => by simp [okB]
  | i :: r, h => by simp only [okB] at h ⊢; exact ⟨okI_more s i h.1, okB_more s r h.2⟩
theorem okBs_more {ns ms : List Str} (s : ∀ x ∈ ns, x ∈ ms) : ∀ bs : List (List It), okBs ns bs → okBs ms bs
  | [], _ => by simp [okBs]
  | b :: r, h => by simp only [okBs] at h ⊢; exact ⟨okB_more s b h.1, okBs_more s r h.2⟩
end
theorem mergeK_nd : ∀ (more kvs : List (Key × V)), ((kvs ++ more).map (·.1)).Nodup → mergeK kvs more = kvs ++ more
  | [], kvs, _ => by simp [mergeK]
  | q :: r, kvs, nd => by
    have e : mergeK kvs (q :: r) = mergeK (putK kvs q.1 q.2) r := rfl
    have hv : valV kvs q.1 = none := valV_out fun u hu z => by
      rw [List.map_append, List.nodup_append] at nd
      exact nd.2.2 u.1 (List.mem_map.mpr ⟨u, hu, rfl⟩) q.1 (by simp) z
    rw [e, putK_new _ hv, mergeK_nd r _ (by rw [List.append_assoc]; exact nd), List.append_assoc]
    rfl
theorem Sm.put {W : List Addr} {H H1 : Hp} {L : Addr} {o : HO} (h : H L = Option.none) (s : Sm W H H1) : Sm W H (upd H1 L o) := fun b u n e => by
  rw [upd_ne (ne_of_none e h)]
  exact s b u n e
theorem kp_off {W : List Addr} {H : Hp} : Kp (wo W H) H := ⟨fun x xs e => (wo_some.mp e).2, fun x xs e => (wo_some.mp e).2⟩
theorem cut_to' (xs : List V) (k : Nat) : cutV xs none (some (k : Int)) = xs.take k := by
  unfold cutV
  rw [HT.sIx_none, HT.sIx_nat, List.drop_zero, Nat.sub_zero]
  by_cases h : k ≤ xs.length
  · rw [Nat.min_eq_left h]
  · rw [Nat.min_eq_right (by omega), List.take_of_length_le (Nat.le_refl _), List.take_of_length_le (by omega)]
theorem Paired.weak {α β : Type} {F G : α → β → Prop} (h : ∀ a b, F a b → G a b) : ∀ {l : List α} {m : List β}, Paired F l m → Paired G l m
  | _, _, .nil => .nil
  | _, _, .cons a t => .cons (h _ _ a) (Paired.weak h t)
theorem paired_mem {α β : Type} {F G : α → β → Prop} : ∀ {l : List α} {m : List β}, Paired F l m → (∀ a ∈ l, ∀ b, F a b → G a b) → Paired G l m
  | _, _, .nil, _ => .nil
  | _, _, .cons a t, h => .cons (h _ (by simp) _ a) (paired_mem t fun x hx b hb => h x (List.mem_cons_of_mem _ hx) b hb)
theorem kp_dk {H : Hp} {d : Addr} {k0 kvs : List (Key × V)} (h : H d = some (.dK k0)) : Kp H (upd H d (.dK kvs)) :=
  ⟨fun b xs e => by rw [upd_ne (by rintro rfl; rw [h] at e; cases e)]; exact e, fun b xs e => by rw [upd_ne (by rintro rfl; rw [h] at e; cases e)]; exact e⟩
theorem str_get {ns : List Str} {j : Nat} {x : V} (h : (ns.map V.str)[j]? = some x) : ∃ y, ns[j]? = some y ∧ x = .str y := by
  rw [List.getElem?_map] at h
  cases e : ns[j]? with
  | none => rw [e] at h; cases h
  | some y => rw [e] at h; cases h; exact ⟨y, rfl, rfl⟩
/-! ### walks of enumerate, of tuples -/
theorem SqT.same {K : PySem.W.Frag} {H H' : Hp} {a : Addr} {xs : List V} (e : Same H H') (h : SqT K H a xs) : SqT K H' a xs := by
  rcases h with (h | ⟨o, h⟩) | h
  · exact .inl (.inl (e _ _ h))
  · exact .inl (.inr ⟨o, e _ _ h⟩)
  · exact .inr h
theorem for_enum {K : PySem.W.Frag} {a : Addr} {xs : List V} {g : TG} {tb : TS} {D : Ends} {σ : L2.St} {H : Hp} (Pv : Nat → L2.St → Hp → Prop) (h0 : Pv 0 σ H) (hl : ∀ i σ H, i ≤ xs.length → Pv i σ H → SqL K H a xs)
    (hs : ∀ i x σ H T, xs[i]? = some x → Pv i σ H → H T = none → g (.ref T) σ (upd H T (.tup [.int (i : Nat), x])) fun σ2 H2 => tb { D with nx := Pv (i + 1), ct := Pv (i + 1), bk := D.nx } σ2 H2) (hd : ∀ σ H, Pv xs.length σ H → D.nx σ H) :
    ∃ W : Nat → Nat → L2.St → Hp → Prop, (∃ m, W 0 m σ H) ∧ ∀ i m σ H, W i m σ H →
      ((Ite K a).stop i H ∧ D.nx σ H) ∨ ((Ite K a).go i H ∧ ∃ N : L2.St → Hp → Prop, (∀ σ' H', N σ' H' → ∃ m', m' < m ∧ W (i + 1) m' σ' H') ∧ ∀ x H', (Ite K a).yld i H x H' → g x σ H' fun σ2 H2 => tb { D with nx := N, ct := N, bk := D.nx } σ2 H2) := by
  refine ⟨fun i m σ H => m = xs.length - i ∧ i ≤ xs.length ∧ Pv i σ H, ⟨xs.length, by simp, Nat.zero_le _, h0⟩, ?_⟩
  rintro i m σ H ⟨rfl, hi, p⟩
  have q := hl i σ H hi p
  by_cases hlt : i < xs.length
  · refine .inr ⟨⟨xs, xs[i], q, by simp [hlt]⟩, Pv (i + 1), fun σ' H' p' => ⟨xs.length - (i + 1), by omega, rfl, hlt, p'⟩, fun x H' y => ?_⟩
    obtain ⟨T, x, rfl, hT, rfl, y⟩ := y
    exact hs i x σ _ T (y xs q) p hT
  · have e : i = xs.length := by omega
    subst e
    exact .inl ⟨⟨xs, q, Nat.le_refl _⟩, hd σ H p⟩
section
variable {K : PySem.W.Frag} {H1 : Hp} {a : Addr} {xs : List V}
theorem go_t (h : SqT K H1 a xs) : ∀ i H, Same H1 H → i < xs.length → (Itt K a).go i H := fun i H sm hi => ⟨xs, xs[i], SqT.same sm h, by simp [hi]⟩
theorem stop_t (h : SqT K H1 a xs) : ∀ H, Same H1 H → (Itt K a).stop xs.length H := fun H sm => ⟨xs, SqT.same sm h, Nat.le_refl _⟩
theorem yld_t (h : SqT K H1 a xs) : ∀ i H x H', Same H1 H → i < xs.length → (Itt K a).yld i H x H' → H' = H ∧ xs[i]? = some x := fun i H x H' sm hi y => ⟨y.1, y.2 xs (SqT.same sm h)⟩
end
section
variable {X : Cx}
/-- 'main' * 2 -/
theorem op_mul_main : OpR X (binaryOp .Mult) (fun x y H Q => x = .str "main" ∧ y = .int 2 ∧ Q (.str "mainmain") H) := by
  intro pins s σ H x y v u Q I rx ry h
  obtain ⟨rfl, rfl, q⟩ := h
  obtain ⟨t, rfl⟩ := rx
  obtain ⟨t', rfl⟩ := ry
  refine PySem.P.mul_str (by decide) (fun _ _ => by decide +kernel) (fun _ _ => by decide +kernel) ?_
  rw [if_neg (by decide), if_neg (by decide)]
  exact ⟨by decide +kernel, .str "mainmain", H, I.tok _, ⟨_, by first | rfl | decide +kernel⟩, q⟩
end
mutual
def nmI : It → List Str
  | .call x => [x]
  | .may b => nmB b
  | .loop b => nmB b
  | .one bs => nmBs bs
def nmB : List It → List Str
  | [] => []
  | i :: r => nmI i ++ nmB r
def nmBs : List (List It) → List Str
  | [] => []
  | b :: r => nmB b ++ nmBs r
end
mutual
theorem nmI_len : ∀ i : It, (nmI i).length = nC i
  | .call x => by simp [nmI, nC]
  | .may b => by simp only [nmI, nC, nmB_len b]
  | .loop b => by simp only [nmI, nC, nmB_len b]
  | .one bs => by simp only [nmI, nC, nmBs_len bs]
theorem nmB_len : ∀ b : List It, (nmB b).length = nCB b
  | [] => by simp [nmB, nCB]
  | i :: r => by simp only [nmB, nCB, List.length_append, nmI_len i, nmB_len r]
theorem nmBs_len : ∀ bs : List (List It), (nmBs bs).length = nCBs bs
  | [] => by simp [nmBs, nCBs]
  | b :: r => by simp only [nmBs, nCBs, List.length_append, nmB_len b, nmBs_len r]
end
mutual
theorem nmI_ok {ns : List Str} : ∀ i : It, okI ns i → ∀ x ∈ nmI i, x ∈ ns
  | .call y, h, x, hx => by simp only [okI] at h; simp only [nmI, List.mem_singleton] at hx; rw [hx]; exact h
  | .may b, h, x, hx => by simp only [okI] at h; simp only [nmI] at hx; exact nmB_ok b h.2 x hx
  | .loop b, h, x, hx => by simp only [okI] at h; simp only [nmI] at hx; exact nmB_ok b h.2 x hx
  | .one bs, h, x, hx => by simp only [okI] at h; simp only [nmI] at hx; exact nmBs_ok bs h.2.2.2 x hx
theorem nmB_ok {ns : List Str} : ∀ b : List It, okB ns b → ∀ x ∈ nmB b, x ∈ ns
  | [], _, x, hx => by simp [nmB] at hx
  | i :: r, h, x, hx => by
    simp only [okB] at h
    simp only [nmB, List.mem_append] at hx
    exact hx.elim (nmI_ok i h.1 x) (nmB_ok r h.2 x)
theorem nmBs_ok {ns : List Str} : ∀ bs : List (List It), okBs ns bs → ∀ x ∈ nmBs bs, x ∈ ns
  | [], _, x, hx => by simp [nmBs] at hx
  | b :: r, h, x, hx => by
    simp only [okBs] at h
    simp only [nmBs, List.mem_append] at hx
    exact hx.elim (nmB_ok b h.1 x) (nmBs_ok r h.2 x)
end
theorem nmB_take {l : List It} {i : Nat} {it : It} (h : l[i]? = some it) : nmB (l.take (i + 1)) = nmB (l.take i) ++ nmI it := by
  have app : ∀ a b : List It, nmB (a ++ b) = nmB a ++ nmB b := fun a b => by
    induction a with
    | nil => simp [nmB]
    | cons x r ih => simp only [List.cons_append, nmB, ih, List.append_assoc]
  rw [List.take_add_one, h, app]
  simp [nmB]
theorem nmBs_take {l : List (List It)} {i : Nat} {b : List It} (h : l[i]? = some b) : nmBs (l.take (i + 1)) = nmBs (l.take i) ++ nmB b := by
  have app : ∀ a b : List (List It), nmBs (a ++ b) = nmBs a ++ nmBs b := fun a b => by
    induction a with
    | nil => simp [nmBs]
    | cons x r ih => simp only [List.cons_append, nmBs, ih, List.append_assoc]
  rw [List.take_add_one, h, app]
  simp [nmBs]
/-- the bodies of an item that is no call -/
def bodies : It → List (List It)
  | .call _ => []
  | .may b => [b]
  | .loop b => [b]
  | .one bs => bs
theorem bodies_nm : ∀ i : It, (∀ x, i ≠ .call x) → nmBs (bodies i) = nmI i
  | .call x, h => absurd rfl (h x)
  | .may b, _ => by simp [bodies, nmBs, nmI]
  | .loop b, _ => by simp [bodies, nmBs, nmI]
  | .one bs, _ => rfl
theorem bodies_ok {ns : List Str} : ∀ i : It, okI ns i → okBs ns (bodies i)
  | .call x, _ => by simp [bodies, okBs]
  | .may b, h => by simp only [okI] at h; simp [bodies, okBs, h.2]
  | .loop b, h => by simp only [okI] at h; simp [bodies, okBs, h.2]
  | .one bs, h => by simp only [okI] at h; exact h.2.2.2
theorem bodies_d : ∀ i : It, dBs (bodies i) ≤ dI i
  | .call x => by simp [bodies, dBs, dI]
  | .may b => by simp only [bodies, dBs, dI]; omega
  | .loop b => by simp only [bodies, dBs, dI]; omega
  | .one bs => by simp only [bodies, dI]; omega
theorem strs_refs {ns : List Str} {b : Addr} {r : List V} (h : (ns.map V.str) = V.ref b :: r) : False := by
  cases ns with
  | nil => cases h
  | cons a r => cases h
theorem okB_take {ns : List Str} {l : Bd} (k : Nat) (h : okB ns l) : okB ns (l.take k) := by
  rw [okB_all] at h ⊢
  exact fun i hi => h i (List.mem_of_mem_take hi)
theorem nCB_take : ∀ (l : Bd) (k : Nat), nCB (l.take k) ≤ nCB l
  | [], k => by simp [nCB]
  | i :: r, 0 => by simp [nCB]
  | i :: r, k + 1 => by have := nCB_take r k; simp only [List.take_succ_cons, nCB]; omega
theorem nIB_take : ∀ (l : Bd) (k : Nat), nIB (l.take k) ≤ nIB l
  | [], k => by simp [nIB]
  | i :: r, 0 => by simp [nIB]
  | i :: r, k + 1 => by have := nIB_take r k; simp only [List.take_succ_cons, nIB]; omega
theorem dB_pos : ∀ b : List It, 1 ≤ dB b
  | [] => by simp [dB]
  | i :: r => by have := dB_pos r; simp only [dB]; omega
theorem dB_take : ∀ (l : Bd) (k : Nat), dB (l.take k) ≤ dB l
  | [], k => by simp [dB]
  | i :: r, 0 => by have := dB_pos (i :: r); simp only [List.take_zero, dB] at this ⊢; omega
  | i :: r, k + 1 => by have := dB_take r k; simp only [List.take_succ_cons, dB]; omega
theorem nCBs_mem : ∀ {bs : List (List It)} {b}, b ∈ bs → nCB b ≤ nCBs bs
  | b' :: r, b, h => by
    rcases List.mem_cons.mp h with rfl | h
    · simp only [nCBs]; omega
    · have := nCBs_mem h; simp only [nCBs]; omega
theorem nIBs_mem : ∀ {bs : List (List It)} {b}, b ∈ bs → nIB b ≤ nIBs bs
  | b' :: r, b, h => by
    rcases List.mem_cons.mp h with rfl | h
    · simp only [nIBs]; omega
    · have := nIBs_mem h; simp only [nIBs]; omega
theorem dBs_mem : ∀ {bs : List (List It)} {b}, b ∈ bs → dB b ≤ dBs bs
  | b' :: r, b, h => by
    rcases List.mem_cons.mp h with rfl | h
    · simp only [dBs]; omega
    · have := dBs_mem h; simp only [dBs]; omega
theorem dB_mem : ∀ {l : List It} {it : It}, it ∈ l → 1 + dI it ≤ dB l
  | i :: r, it, h => by
    simp only [dB]
    rcases List.mem_cons.mp h with rfl | h
    · omega
    · have := dB_mem h; omega
theorem nCB_mem {l : List It} {i : It} (h : i ∈ l) : nC i ≤ nCB l := by
  induction l with
  | nil => cases h
  | cons x r ih =>
    simp only [nCB]
    rcases List.mem_cons.mp h with e | h
    · rw [e]; omega
    · have := ih h; omega
theorem nI_bodies : ∀ i : It, nIBs (bodies i) = nI i
  | .call x => by simp [bodies, nIBs, nI]
  | .may b => by simp [bodies, nIBs, nI]
  | .loop b => by simp [bodies, nIBs, nI]
  | .one bs => by simp only [bodies, nI]
theorem nIB_mem {l : List It} {i : It} (h : i ∈ l) : nI i ≤ nIB l := by
  induction l with
  | nil => cases h
  | cons x r ih =>
    simp only [nIB]
    rcases List.mem_cons.mp h with e | h
    · rw [e]; omega
    · have := ih h; omega
theorem nC_bodies {i : It} (h : ∀ x, i ≠ .call x) : nCBs (bodies i) = nC i := by
  have := congrArg List.length (bodies_nm i h)
  rw [nmBs_len, nmI_len] at this
  exact this
theorem nmBs_pre {bs : List (List It)} (j : Nat) : (nmBs (bs.take j)).length ≤ nCBs bs := by
  have t := List.take_append_drop j bs
  have e : nCBs bs = nCBs (bs.take j) + nCBs (bs.drop j) := by rw [← t, nCBs_app, t]
  rw [nmBs_len]
  omega
theorem nmB_pre (l : List It) (i : Nat) : (nmB (l.take i)).length ≤ nCB l := by
  rw [nmB_len]
  exact nCB_take l i

theorem nIB_len : ∀ l : List It, l.length ≤ nIB l
  | [] => by simp [nIB]
  | i :: r => by have := nIB_len r; simp only [List.length_cons, nIB]; omega
/-- an item by its parts: a call, or a tuple of its kind and a list -/
theorem ItAt.parts {H : Hp} {v : V} {it : It} (h : ItAt H v it) : (∃ x, v = .str x ∧ it = .call x) ∨
    ∃ t k b vs, v = .ref t ∧ H t = some (.tup [.str k, .ref b]) ∧ H b = some (.lst vs) ∧ ((k = "one" ∧ ∃ ls, it = .one ls ∧ BdsAt H vs ls) ∨ (k ≠ ("one" : Str) ∧ ∃ l, (it = .may l ∨ it = .loop l) ∧ ItsAt H vs l)) := by
  cases h with
  | call x => exact .inl ⟨x, rfl, rfl⟩
  | may h1 h2 h3 => exact .inr ⟨_, _, _, _, rfl, h1, h2, .inr ⟨by decide, _, .inl rfl, h3⟩⟩
  | loop h1 h2 h3 => exact .inr ⟨_, _, _, _, rfl, h1, h2, .inr ⟨by decide, _, .inr rfl, h3⟩⟩
  | one h1 h2 h3 => exact .inr ⟨_, _, _, _, rfl, h1, h2, .inl ⟨rfl, _, rfl, h3⟩⟩
/-! ### what is new, but for one list that grows -/
theorem kp_turn {W : List Addr} {f : Addr} {H H1 H2 : Hp} (g : ∀ x ∈ W, ∃ o, H x = some o) (s : Sm W H1 H2) : Kp (wo [f] (fr H H1)) (wo [f] (fr H H2)) := by
  have key : ∀ x o, wo [f] (fr H H1) x = some o → wo [f] (fr H H2) x = some o := fun x o e => by
    rw [wo_some, fr_some] at e ⊢
    refine ⟨e.1, e.2.1, s x o (fun z => ?_) e.2.2⟩
    obtain ⟨u, e2⟩ := g x z
    rw [e2] at e
    cases e.2.1
  exact ⟨fun x xs e => key _ _ e, fun x xs e => key _ _ e⟩
theorem kp_put {f : Addr} {H H2 : Hp} {o : HO} : Kp (wo [f] (fr H H2)) (wo [f] (fr H (upd H2 f o))) := by
  have key : ∀ x u, wo [f] (fr H H2) x = some u → wo [f] (fr H (upd H2 f o)) x = some u := fun x u e => by
    rw [wo_some, fr_some] at e ⊢
    refine ⟨e.1, e.2.1, ?_⟩
    rw [upd_ne (by simpa using e.1)]
    exact e.2.2
  exact ⟨fun x xs e => key _ _ e, fun x xs e => key _ _ e⟩
theorem kp_in {W : List Addr} {f : Addr} {H H1 H2 : Hp} {u : HO} (s : Sm W H H1) (k : ∀ x ∈ W, ∃ o, H1 x = some o) (hf : H1 f = some u) : Kp (fr H1 H2) (wo [f] (fr H H2)) := by
  have key : ∀ x v, fr H1 H2 x = some v → wo [f] (fr H H2) x = some v := fun x v e => by
    rw [fr_some] at e
    have ne : x ≠ f := by
      rintro rfl
      rw [hf] at e
      cases e.1
    rw [wo_some, fr_some]
    exact ⟨by simpa using ne, none_back s k e.1, e.2⟩
  exact ⟨fun x xs e => key _ _ e, fun x xs e => key _ _ e⟩
theorem wof_new {W : List Addr} {f p : Addr} {H H1 H2 : Hp} {u o : HO} (s : Sm W H H1) (k : ∀ x ∈ W, ∃ o, H1 x = some o) (hf : H1 f = some u) (hp : H1 p = none) (h : H2 p = some o) : wo [f] (fr H H2) p = some o := by
  have ne : p ≠ f := by
    rintro rfl
    rw [hf] at hp
    cases hp
  rw [wo_some, fr_some]
  exact ⟨by simpa using ne, none_back s k hp, h⟩
theorem nCB_takeS {l : List It} {i : Nat} {it : It} (h : l[i]? = some it) : nCB (l.take (i + 1)) = nCB (l.take i) + nC it := by
  rw [List.take_add_one, h]
  exact nCB_snoc _ _
theorem nIB_takeS {l : List It} {i : Nat} {it : It} (h : l[i]? = some it) : nIB (l.take (i + 1)) = nIB (l.take i) + (1 + nI it) := by
  rw [List.take_add_one, h]
  exact nIB_snoc _ _
theorem sum_nCB : ∀ bs : List (List It), (bs.map fun b => (nCB b : Int)).sum = nCBs bs
  | [] => rfl
  | b :: r => by have := sum_nCB r; simp only [List.map_cons, List.sum_cons, nCBs]; omega
theorem sum_nIB : ∀ bs : List (List It), (bs.map fun b => (nIB b : Int)).sum = nIBs bs
  | [] => rfl
  | b :: r => by have := sum_nIB r; simp only [List.map_cons, List.sum_cons, nIBs]; omega
theorem dd_strs {K : PySem.W.Frag} {H : Hp} : ∀ ls : List Str, DdAll K H (ls.map V.str) (ls.map PyData.str)
  | [] => .nil
  | x :: r => .cons (.str x) (dd_strs r)
end FA

set_option Elab.async false
set_option linter.all false
set_option maxRecDepth 100000
set_option maxHeartbeats 4000000
/-! Set comprehensions of whole numbers, with one clause and with two. -/
namespace FA
open PySem PySem.Spec PyProof.Rows L2
section
variable {P : Program} {w : World} {A : Around}
/-- the tests of a clause, as the machine asks them -/
def testAll (ifs : List Expr) (env : Env) : Sem Bool := forIn ifs true fun c r => if r = true then do let ok ← isTrue c env (eval c env); pure (ForInStep.yield ok) else pure (ForInStep.yield r)
/-- one item of a clause: drawn, stored, tested -/
def Draws (P : Program) (w : World) (A : Around) (env : Env) (tg : Expr) (ifs : List Expr) (it : Value) (E : Value → Shared → Prop) (over : Shared → Prop) (with_ : Bool → Shared → Prop) (s : Shared) : Prop :=
  wpAny (model P w) A (pyNext it) (fun r s1 => match r with
    | none => over s1
    | some v => wpAny (model P w) A (letOwnedTupleGo tg it v) (fun _ s2 => wpAny (model P w) A (assign tg env v) (fun _ s3 => wpAny (model P w) A (testAll ifs env) with_ E s3) E s2) E s1) E s
/-- one turn of a clause that does b with an item -/
def turnOf (c : Code) (ip : Pos) (tg : Expr) (ifs : List Expr) (it : Value) (env : Env) (b : Sem Unit) : Sem Fin := do
  standAt ip
  match ← pyNext it with
  | none => pure (.done .next)
  | some v =>
    letOwnedTupleGo tg it v
    assign tg env v
    let mut ok := true
    for x in ifs do
      if ok then ok ← isTrue x env (eval x env)
    if ok then b
    again c
theorem turns_by {e : Expr} {k : Nat} {it acc : Value} {env : Env} {ip : Pos} {tg : Expr} {ifs : List Expr} {b : Sem Unit} {R : Result → Shared → Prop} (hq : (Code.compLoop e k it acc env).quiet = true)
    (eq : compTurn e k it acc env = turnOf (.compLoop e k it acc env) ip tg ifs it env b)
    (den : (model P w).den (.compLoop e k it acc env) = (compTurn e k it acc env).onRaise (fun x => do noteFrame x env; theTreesLotGoes x)) (und : A.under (.compLoop e k it acc env) = A)
    (J : Nat → Shared → Prop)
    (one : ∀ n s, J n s → Draws P w A env tg ifs it (notedBy (model P w) A env fun x s' => R (.error x) s') (R (.ok .next))
      (fun ok s' => if ok = true then wpAny (model P w) A b (fun _ s'' => ∃ m, m < n ∧ J m s'') (notedBy (model P w) A env fun x s' => R (.error x) s') s' else ∃ m, m < n ∧ J m s') s) {n : Nat} {s : Shared} (h : J n s) :
    codeAny (model P w) A (.compLoop e k it acc env) R s := by
  refine codeAny_loop hq J (fun n s hJ => ?_) n h
  rw [und, den]
  refine wpAny_noted ?_
  rw [eq]
  unfold turnOf
  refine wpAny_bind (wpAny_standAt (wpAny_bind (wpAny_mono (one n s hJ) (fun r s1 d1 => ?_) fun _ _ z => z)))
  cases r with
  | none => exact wpAny_pure d1
  | some v =>
    refine wpAny_bind (wpAny_mono d1 (fun _ s2 d2 => wpAny_bind (wpAny_mono d2 (fun _ s3 d3 => wpAny_bind (wpAny_mono d3 (fun ok s4 d4 => ?_) fun _ _ z => z)) fun _ _ z => z)) fun _ _ z => z)
    cases ok with
    | false => exact wpAny_pure ⟨rfl, d4⟩
    | true => exact wpAny_bind (wpAny_mono d4 (fun _ s5 d5 => wpAny_pure ⟨rfl, d5⟩) fun _ _ z => z)
/-- a clause's start: its loop, or its loop behind one more iter() -/
theorem starts_by {e : Expr} {k : Nat} {it acc : Value} {env : Env} {g : Comprehension} {R : Result → Shared → Prop} {s : Shared} (hg : (clausesOf e)[k]? = some g) (ha : g.is_async = 0)
    (den : (model P w).den (.compStart e k it acc env) = (compStart e k it acc env).onRaise (fun x => do noteFrame x env; standAt theWindowsPlace)) (und : A.under (.compStart e k it acc env) = A)
    (q : (Code.compLoop e k it acc env).quiet = true)
    (h : codeAny (model P w) A (.compLoop e k it acc env) R s) (again_ : wpAny (model P w) A (pyIter it) (fun v s' => codeAny (model P w) A (.compLoop e k v acc env) R s' ∧ (Code.compLoop e k v acc env).quiet = true) (notedBy (model P w) A env fun x s' => R (.error x) s') s) :
    codeAny (model P w) A (.compStart e k it acc env) R s := by
  refine codeAny_of_tree ?_
  rw [und, den]
  refine wpAny_notedAt ?_
  unfold compStart
  rw [hg]
  simp only [Option.elim, ha, bne_self_eq_false, Bool.false_eq_true, if_false]
  refine wpAny_bind (wpAny_askSetting (wpAny_ite ?_))
  split
  · exact wpAny_pure ⟨q, h⟩
  · refine wpAny_bind (wpAny_rule (wpAny_bind (wpAny_standAt (wpAny_bind (wpAny_mono again_ (fun v s' z => wpAny_pure ⟨z.2, z.1⟩) fun _ _ z => z)))))
end
theorem draws_mono {P : Program} {w : World} {A : Around} {env : Env} {tg : Expr} {ifs : List Expr} {it : Value} {E : Value → Shared → Prop} {o o' : Shared → Prop} {v v' : Bool → Shared → Prop} {s : Shared} (h : Draws P w A env tg ifs it E o v s) (ho : ∀ s, o s → o' s) (hv : ∀ b s, v b s → v' b s) : Draws P w A env tg ifs it E o' v' s := by
  refine wpAny_mono h (fun r s1 z => ?_) fun _ _ z => z
  cases r with
  | none => exact ho _ z
  | some u => exact wpAny_mono z (fun _ s2 z => wpAny_mono z (fun _ s3 z => wpAny_mono z hv fun _ _ z => z) fun _ _ z => z) fun _ _ z => z
theorem wipe_twice {σ : L2.St} {vs : List Nat} : wipe (wipe σ vs) vs = wipe σ vs := by
  have key : ∀ (vs : List Nat) (σ : L2.St) (i : Nat), (wipe σ vs)[i]? = if i ∈ vs then (if i < σ.length then some none else none) else σ[i]? := by
    intro vs
    induction vs with
    | nil => intro σ i; simp [wipe]
    | cons v r ih =>
      intro σ i
      have e : wipe σ (v :: r) = (wipe σ r).set v none := rfl
      rw [e, List.getElem?_set]
      by_cases h : v = i
      · subst h
        simp [wipe_length]
      · rw [if_neg h, ih]
        have h' : ¬ i = v := fun z => h z.symm
        have : i ∈ v :: r ↔ i ∈ r := by simp [h']
        simp only [this]
  refine List.ext_getElem? fun i => ?_
  rw [key, key]
  split
  · rw [wipe_length]
  · rfl
section
/-- within a block B: a walk stands behind some items, n turns are left at most -/
def InLoop (B : Cx) (pins : List (Addr × Obj)) (τ : L2.St) (fp : List Addr) (tn : Nat → Heap → Prop) (W : Nat → Nat → Hp → Prop) (n : Nat) (s : Shared) : Prop :=
  ∃ i H, L2.Inv B pins τ H s ∧ tn i s.heap ∧ (∀ b ∈ fp, H b = none) ∧ W i n H
/-- what such a loop asks: an end that is reached, or an item whose body brings it a turn further -/
def Loops (J : L2.It) (g : TG) (tt : TT) (τ : L2.St) (vs : List Nat) (over : Hp → Prop) (body : Bool → L2.St → Hp → (Hp → Prop) → Prop) (W : Nat → Nat → Hp → Prop) : Prop :=
  ∀ i m H, W i m H → (J.stop i H ∧ over H) ∨ (J.go i H ∧ ∃ N : Hp → Prop, (∀ H', N H' → ∃ m', m' < m ∧ W (i + 1) m' H') ∧ ∀ x H', J.yld i H x H' → g x τ H' fun σ2 H2 => wipe σ2 vs = wipe τ vs ∧ tt σ2 H2 fun b H3 => body b σ2 H3 N)
theorem one_turn {B : Cx} {tg : Expr} {ifs : List Expr} {J : L2.It} {fp : List Addr} {it : Addr} {tn : Nat → Heap → Prop} {g : TG} {tt : TT} {pins : List (Addr × Obj)} {τ : L2.St} {vs : List Nat} {over : Hp → Prop} {body : Bool → L2.St → Hp → (Hp → Prop) → Prop} {W : Nat → Nat → Hp → Prop} {E : Value → Shared → Prop} {n : Nat} {s : Shared}
    (T : Turn B.prog B.w B.K tg J fp it tn) (calm : B.calm = true) (hx : B.xe = fun _ _ => False) (G : PG B tg g) (C : PTs B ifs tt) (free : ∀ {σ' : L2.St} {H' : Hp} {s' : Shared}, L2.Inv B pins σ' H' s' → (∀ b ∈ fp, H' b = none) → ∀ b ∈ fp, FpOk B pins H' b)
    (L : Loops J g tt τ vs over body W) (S : InLoop B pins τ fp tn W n s) :
    Draws B.prog B.w B.A B.env tg ifs (.ref it) E (fun s' => ∃ H', L2.Inv B pins τ H' s' ∧ over H')
      (fun ok s' => ∃ σ2 H3 N pn, L2.Inv B (pins ++ pn) σ2 H3 s' ∧ wipe σ2 vs = wipe τ vs ∧ body ok σ2 H3 N ∧
        ∀ {σ' : L2.St} {s'' : Shared} {H' : Hp}, L2.Inv B (pins ++ pn) σ' H' s'' → τ.length = σ'.length → (∀ (j : Nat) v, τ[j]? = some (some v) → σ'[j]? = some (some v)) → N H' → ∃ m, m < n ∧ InLoop B pins τ fp tn W m s'') s := by
  obtain ⟨i, H, I, st, nf, w0⟩ := S
  rcases L i n H w0 with ⟨hstop, ho⟩ | ⟨hgo, N, hN, hstep⟩
  · refine thnF (T.done B rfl rfl rfl calm i pins s τ H (fun _ _ => False) I (free I nf) st hstop) fun r s1 hr => ?_
    obtain ⟨rfl, I1⟩ := hr
    exact ⟨H, I1, ho⟩
  · refine thnF (T.item B rfl rfl rfl calm i pins s τ H (fun _ _ => False) I (free I nf) st hgo) fun r s1 hr => ?_
    obtain ⟨u, rfl, hu⟩ := hr
    refine thnF hu fun _ s2 hu2 => ?_
    obtain ⟨x, H2, I2, rx, y2, st2, nf2⟩ := hu2
    have I2p := I2.pinned (free I2 nf2) (T.obj _ _ st2)
    have ga := G.run _ s2 τ H2 x u _ I2p rx (hstep x H2 y2)
    rw [hx] at ga
    refine thnF ga fun _ s3 ⟨σ3, H3, I3, hw3, q3⟩ => ?_
    have ca := C.run _ s3 σ3 H3 _ I3 q3
    rw [hx] at ca
    refine thnF ca fun ok s4 ⟨H4, I4, q4⟩ => ?_
    refine ⟨σ3, H4, N, pinsAt fp s2.heap, I4, hw3, q4, fun {σ' s'' H'} I' hl hk nx => ?_⟩
    obtain ⟨m', hm, w'⟩ := hN H' nx
    have kept : ∀ b ∈ fp, ∀ o, s2.heap.get? b = some o → s''.heap.get? b = some o ∧ H' b = none := fun b hb o e => by
      have z := I'.pin (b, o) (List.mem_append_right _ (List.mem_append_right _ (mem_pinsAt hb e)))
      exact ⟨z.1, z.2.1⟩
    refine ⟨m', hm, i + 1, H', I'.unpinned.weak hl hk, T.keep _ _ _ st2 fun b hb o e => (kept b hb o e).1, fun b hb => ?_, w'⟩
    obtain ⟨o, e, _⟩ := T.obj _ _ st2 b hb
    exact (kept b hb o e).2
/-- one more number in a set that is being made -/
theorem adds {B : Cx} {pins : List (Addr × Obj)} {τ : L2.St} {H : Hp} {s : Shared} {E : Value → Shared → Prop} {D : Addr} {S : Int → Bool} {n : Nat} {k : Int} {u : Value} {Q : Value → Shared → Prop} (I : L2.Inv B pins τ H s) (hD : H D = some (SetO B.w D S n)) (room : n + 1 < scanBound) (ru : L2.RelV (.int k) u)
    (q : ∀ s', L2.Inv B pins τ (upd H D (SetO B.w D (fun j => S j || decide (j = k)) (if S k = true then n else n + 1))) s' → Q .none s') : wpAny (model B.prog B.w) B.A (call (.builtin "set.add") [.ref D, u]) Q E s := by
  obtain ⟨t, rfl⟩ := ru
  refine setR_add (setO_get I hD) room fun h' keeps made => ?_
  obtain ⟨o, _, _, _, ho, _⟩ := id made
  exact q _ (I.write (e := D) (t' := s.toks + 1) (by rw [hD]; trivial) (.inl rfl) (fun b v hb hv => (keeps.2 b hb).trans hv) ⟨o, ho⟩ (setO_new made))
end
section
variable {X : Cx}
/-- what stands at D while the set is made -/
def adding (w : World) (D : Addr) (te : TE) (σ : L2.St) (H : Hp) (N : Hp → Prop) : Prop := te σ H fun y H1 => ∃ (k : Int) (S : Int → Bool) (n : Nat), y = .int k ∧ H1 D = some (SetO w D S n) ∧ n + 1 < scanBound ∧ N (upd H1 D (SetO w D (fun j => S j || decide (j = k)) (if S k = true then n else n + 1)))
def tSi (w : World) (wi : TI) (g : TG) (tt : TT) (te : TE) (vs : List Nat) : TE := fun σ H Q => wi σ H fun J H1 => ∀ D, H1 D = none → ∃ W : Nat → Nat → Hp → Prop, (∃ m, W 0 m (upd H1 D (SetO w D (fun _ => false) 0))) ∧
  Loops J g tt (wipe σ vs) vs (fun H => Q (.ref D) H) (fun b σ2 H3 N => if b = true then adding w D te σ2 H3 N else N H3) W
def tSi2 (w : World) (wi : TI) (g : TG) (tt : TT) (wi1 : TI) (g1 : TG) (tt1 : TT) (te : TE) (vs vs1 : List Nat) : TE := fun σ H Q => wi σ H fun J H1 => ∀ D, H1 D = none → ∃ W : Nat → Nat → Hp → Prop, (∃ m, W 0 m (upd H1 D (SetO w D (fun _ => false) 0))) ∧
  Loops J g tt (wipe σ vs) vs (fun H => Q (.ref D) H) (fun b σ2 H3 N => if b = true then wi1 σ2 H3 fun J1 H4 => ∃ W1 : Nat → Nat → Hp → Prop, (∃ m, W1 0 m H4) ∧
    Loops J1 g1 tt1 (wipe σ2 vs1) vs1 N (fun b σ3 H5 N1 => if b = true then adding w D te σ3 H5 N1 else N1 H5) W1 else N H3) W
/-- the frame of a set comprehension: what is walked first, the new set, the block's own context; its loop is left -/
theorem set_frame {elt tg iter : Expr} {ifs : List Expr} {more : List Comprehension} {scope : Scope} {own : List (Str × Nat)} {pos ip : Pos} {wi : TI} {pins : List (Addr × Obj)} {σ : L2.St} {H : Hp} {s : Shared} {Q : VK} {R : L2.It → Hp → Prop}
    (I : L2.Inv X pins σ H s) (nd : X.N.Nodup) (hi : PI X tg iter wi) (ok : BlkOk X.N X.env.scope scope own) (fold : ∀ x, foldedSetIterable iter X.env x = pure x) (h : wi σ H R)
    (loop : ∀ (s3 s4 : Shared) (H2 H3 : Hp) (D C it : Addr) (cl : List (Str × Addr)) (fp : List Addr) (tn : Nat → Heap → Prop) (J : L2.It), R J H2 → H2 D = none → H3 = upd H2 D (SetO X.w D (fun _ => false) 0) → Turn X.prog X.w X.K tg J fp it tn →
      (∀ {σ' : L2.St} {H' : Hp} {s' : Shared}, L2.Inv (X.blk s3 H3 scope (compEnvC scope cl C X.env) fp) [] σ' H' s' → (∀ b ∈ fp, H' b = none) → ∀ b ∈ fp, FpOk (X.blk s3 H3 scope (compEnvC scope cl C X.env) fp) [] H' b) →
      L2.Inv (X.blk s3 H3 scope (compEnvC scope cl C X.env) fp) [] (wipe σ (own.map (·.2))) H3 s4 → tn 0 s4.heap → (∀ b ∈ fp, H3 b = none) →
      codeAny (model X.prog X.w) X.A (.compLoop (.SetComp elt (⟨tg, iter, ifs, 0⟩ :: more) scope pos) 0 (.ref it) (.ref D) (compEnvC scope cl C X.env))
        (fun r s' => r = .ok .next ∧ ∃ H', L2.Inv (X.blk s3 H3 scope (compEnvC scope cl C X.env) fp) [] (wipe σ (own.map (·.2))) H' s' ∧ Q (.ref D) H') s4) :
    wpAny (model X.prog X.w) X.A (comprehension (.SetComp elt (⟨tg, iter, ifs, 0⟩ :: more) scope pos) scope X.env ip (newSet (.type "set")) false (eval iter X.env)) (fun u s' => ∃ v H', L2.Inv X pins σ H' s' ∧ L2.RelV v u ∧ Q v H') X.xe s := by
  have cells : ∀ y ∈ scope.names, y.2 = .free → ∃ c, X.env.cells.lookup y.1 = some c := fun y hy e => (ok.free y hy e).elim (fun k => I.ok.has _ (.inl k)) fun k => I.ok.has _ (.inr k)
  refine wpAny_comprehension_free (use := none) rfl fold (closure_ok cells) ok.kind (fun y hy e => (ok.uniq y hy).trans (congrArg some e)) ?_
  refine thn (hi.run pins s σ H _ I h) fun _ _ hx => thn hx fun _ s2 hw => ?_
  obtain ⟨it, fp, tn, J, H2, rfl, I2, T, st2, f2, q⟩ := hw
  refine PpSet.newSet_ok (newEnv_comp ?_)
  obtain ⟨D, hD⟩ : ∃ D, D = s2.heap.objs.size := ⟨_, rfl⟩
  rw [← hD]
  have Dnew : H2 D = none := I2.hok.fresh (Nat.le_of_eq hD.symm)
  obtain ⟨s3, e3⟩ : ∃ z : Shared, z = { s2 with heap := s2.heap.push { cls := .type "set", dict := none, data := .set #[] 0 (.fresh 0 0 (!X.w.params.followText "set-order")) } } := ⟨_, rfl⟩
  rw [← e3]
  have kept : ∀ b o, s2.heap.get? b = some o → s3.heap.get? b = some o := fun b o e => by rw [e3]; exact Heap.get?_push_of_some _ e
  have I3 : L2.Inv X pins σ (upd H2 D (SetO X.w D (fun _ => false) 0)) s3 := by
    rw [e3]
    refine I2.laid (t' := s2.toks) (fun b o e => Heap.get?_push_of_some _ e) (Nat.le_of_eq hD.symm) ?_
    rw [hD]
    exact setO_new (setR_fresh X.w)
  have small : ∀ b ∈ fp, b < s2.heap.objs.size := fun b hb => (T.obj _ _ st2 b hb).elim fun o e => Heap.lt_size e.1
  obtain ⟨H3, eH⟩ : ∃ z, z = upd H2 D (SetO X.w D (fun _ => false) 0) := ⟨_, rfl⟩
  rw [← eH] at I3
  have f3 : ∀ b ∈ fp, FpOk X pins H3 b ∧ b < s3.heap.objs.size := fun b hb => by
    have lt := small b hb
    have ne : b ≠ D := by rw [hD]; exact Nat.ne_of_lt lt
    refine ⟨⟨?_, (f2 b hb).2⟩, by rw [e3]; exact Nat.lt_of_lt_of_le lt (by rw [Heap.size_push]; exact Nat.le_succ _)⟩
    rw [eH, upd_ne ne]
    exact (f2 b hb).1
  have IB := block_start I3 ok nd f3
  have st4 : tn 0 (pushCells (s3.heap.push { cls := .type "dict", data := .dict #[] }) scope.names) := T.keep _ _ _ st2 fun b _ o e => pushCells_keeps _ _ _ _ (Heap.get?_push_of_some _ (kept b o e))
  have nf : ∀ b ∈ fp, H3 b = none := fun b hb => (f3 b hb).1.1
  have free : ∀ {C : Addr} {cl : List (Str × Addr)} {σ' : L2.St} {H' : Hp} {s' : Shared}, L2.Inv (X.blk s3 H3 scope (compEnvC scope cl C X.env) fp) [] σ' H' s' → (∀ b ∈ fp, H' b = none) → ∀ b ∈ fp, FpOk (X.blk s3 H3 scope (compEnvC scope cl C X.env) fp) [] H' b := fun J' hn b hb =>
    ⟨hn b hb, (J'.ok.exf b hb).1, J'.ok.exfs b hb, .inl hb, (J'.ok.exf b hb).2, fun p hp => by
      rw [List.append_nil] at hp
      exact absurd hp List.not_mem_nil⟩
  have run := loop s3 { s3 with heap := pushCells (s3.heap.push { cls := .type "dict", data := .dict #[] }) scope.names } H2 H3 D s3.heap.objs.size it (cellsFrom (s3.heap.objs.size + 1) scope.names (cloFrom X.env.cells scope.names [])) fp tn J q Dnew eH T free IB st4 nf
  have back : codeAny (model X.prog X.w) X.A (.compLoop (.SetComp elt (⟨tg, iter, ifs, 0⟩ :: more) scope pos) 0 (.ref it) (.ref D) (compEnvC scope (cellsFrom (s3.heap.objs.size + 1) scope.names (cloFrom X.env.cells scope.names [])) s3.heap.objs.size X.env))
      (compPost (model X.prog X.w) X.A X.xe none (fun u s' => ∃ v H', L2.Inv X pins σ H' s' ∧ L2.RelV v u ∧ Q v H') (.ref D) s3.heap.objs.size) { s3 with heap := pushCells (s3.heap.push { cls := .type "dict", data := .dict #[] }) scope.names } := by
    refine codeAny_mono run fun r s' hr => ?_
    obtain ⟨rfl, H', J', qq⟩ := hr
    have IX : L2.Inv X pins σ H' s' := I3.call' (ch := fp) J'.os J'.base J'.hok J'.bare fun b hb => by
      obtain ⟨_, a1, a2, a3, a4, a5⟩ := (f3 b hb).1
      exact ⟨a3, a1, a4, a5⟩
    obtain ⟨m, ns, _⟩ := J'.loc
    refine ⟨m, ns, fun h'' sb => ?_⟩
    obtain ⟨b0, b1, b2, b3, b4, b5⟩ := I3.fpOk (Nat.le_refl _) (show H' s3.heap.objs.size = none from J'.free)
    exact ⟨.ref D, H', IX.turned (t' := s'.toks) (fun b o hb e => (sb.2 b hb).trans e) b0 b1 b3 b4 b5, rfl, qq⟩
  exact starts_by (g := ⟨tg, iter, ifs, 0⟩) rfl rfl rfl rfl rfl back (T.self X.A 0 _ _ _ st4 ⟨back, rfl⟩)
/-- {elt for tg in iter if ..}, elt a whole number -/
theorem pe_si {elt tg iter : Expr} {ifs : List Expr} {scope : Scope} {own : List (Str × Nat)} {pos : Pos} {wi : TI} {g : TG} {tt : TT} {te : TE} (hc : X.calm = true) (nd : X.N.Nodup) (hi : PI X tg iter wi) (ok : BlkOk X.N X.env.scope scope own)
    (hg : ∀ (s : Shared) (H : Hp) (C : Addr) (cl : List (Str × Addr)) (fp : List Addr), PG (X.blk s H scope (compEnvC scope cl C X.env) fp) tg g) (ht : ∀ (s : Shared) (H : Hp) (C : Addr) (cl : List (Str × Addr)) (fp : List Addr), PTs (X.blk s H scope (compEnvC scope cl C X.env) fp) ifs tt)
    (he : ∀ (s : Shared) (H : Hp) (C : Addr) (cl : List (Str × Addr)) (fp : List Addr), PE (X.blk s H scope (compEnvC scope cl C X.env) fp) elt te) (fold : ∀ x, foldedSetIterable iter X.env x = pure x := by intro _; rfl) :
    PE X (.SetComp elt [⟨tg, iter, ifs, 0⟩] scope pos) (tSi X.w wi g tt te (own.map (·.2))) := by
  refine ⟨fun pins s σ H Q I h => ?_⟩
  rw [PpSet.eval_SetComp]
  refine set_frame I nd hi ok fold h fun s3 s4 H2 H3 D C it cl fp tn J q Dn eH T free IB st nf => ?_
  obtain ⟨W, ⟨m0, w0⟩, L⟩ := q D Dn
  rw [← eH] at w0
  have G := hg s3 H3 C cl fp
  have Ct := ht s3 H3 C cl fp
  have Ee := he s3 H3 C cl fp
  refine turns_by (b := do let v ← eval elt (compEnvC scope cl C X.env); standAt elt.pos; let _ ← call (.builtin "set.add") [.ref D, v]) rfl rfl rfl rfl (InLoop (X.blk s3 H3 scope (compEnvC scope cl C X.env) fp) [] (wipe σ (own.map (·.2))) fp tn W) (fun n s5 S => ?_) ⟨0, H3, IB, st, nf, w0⟩
  refine draws_mono (one_turn (B := X.blk s3 H3 scope (compEnvC scope cl C X.env) fp) T hc rfl G Ct free L S) (fun s' ⟨H', I', qq⟩ => ⟨rfl, H', I', qq⟩) fun o s' ⟨σ2, H4, N, pn, I4, hw, bd, close⟩ => ?_
  have l2 : (wipe σ (own.map (·.2))).length = σ2.length := by
    have := congrArg List.length hw
    rw [wipe_length, wipe_length] at this
    rw [this]
  have k2 : ∀ (j : Nat) v, (wipe σ (own.map (·.2)))[j]? = some (some v) → σ2[j]? = some (some v) := fun j v e => by
    have e2 : (wipe σ2 (own.map (·.2)))[j]? = some (some v) := by rw [hw, wipe_twice]; exact e
    exact (wipe_some e2).1
  cases o with
  | false => exact close I4 l2 k2 bd
  | true =>
    simp only [if_true] at bd ⊢
    refine wpAny_bind (thnF (Ee.run _ s' σ2 H4 _ I4 bd) fun u s6 ⟨y, H5, I5, ru, k, S0, n0, ey, hD, hn, nx⟩ => ?_)
    subst ey
    refine wpAny_bind (wpAny_standAt (wpAny_bind (adds (B := X.blk s3 H3 scope (compEnvC scope cl C X.env) fp) I5 hD hn ru fun s7 I7 => wpAny_pure (close I7 l2 k2 nx))))
theorem wiped_len {σ τ : L2.St} {vs : List Nat} (h : wipe σ vs = wipe τ vs) : τ.length = σ.length := by
  have := congrArg List.length h
  rw [wipe_length, wipe_length] at this
  exact this.symm
theorem wiped_has {σ τ : L2.St} {vs : List Nat} (h : wipe σ vs = wipe τ vs) (j : Nat) (v : V) (e : (wipe τ vs)[j]? = some (some v)) : σ[j]? = some (some v) := by
  rw [← h] at e
  exact (wipe_some e).1
/-- the first of two clauses: with an item it runs the second clause's loop -/
theorem turns_first {elt tg iter tg1 iter1 : Expr} {ifs ifs1 : List Expr} {scope : Scope} {pos : Pos} {it acc : Value} {env : Env} {P : Program} {w : World} {A : Around} {R : Result → Shared → Prop} (fold1 : ∀ x, foldedSetIterable iter1 env x = pure x) (J : Nat → Shared → Prop)
    (one : ∀ n s, J n s → Draws P w A env tg ifs it (notedBy (model P w) A env fun x s' => R (.error x) s') (R (.ok .next))
      (fun ok s' => if ok = true then wpAny (model P w) A (eval iter1 env) (fun x s1 => wpAny (model P w) A (pyIter x) (fun it1 s2 =>
          codeAny (model P w) A (.compStart (.SetComp elt [⟨tg, iter, ifs, 0⟩, ⟨tg1, iter1, ifs1, 0⟩] scope pos) 1 it1 acc env) (fun r s'' => r = .ok .next ∧ ∃ m, m < n ∧ J m s'') s2)
          (notedBy (model P w) A env fun x s' => R (.error x) s') s1) (notedBy (model P w) A env fun x s' => R (.error x) s') s' else ∃ m, m < n ∧ J m s') s) {n : Nat} {s : Shared} (h : J n s) :
    codeAny (model P w) A (.compLoop (.SetComp elt [⟨tg, iter, ifs, 0⟩, ⟨tg1, iter1, ifs1, 0⟩] scope pos) 0 it acc env) R s := by
  refine codeAny_loop rfl J (fun n s hJ => ?_) n h
  have den : (model P w).den (.compLoop (.SetComp elt [⟨tg, iter, ifs, 0⟩, ⟨tg1, iter1, ifs1, 0⟩] scope pos) 0 it acc env) = (compTurn (.SetComp elt [⟨tg, iter, ifs, 0⟩, ⟨tg1, iter1, ifs1, 0⟩] scope pos) 0 it acc env).onRaise (fun x => do noteFrame x env; theTreesLotGoes x) := rfl
  have und : A.under (.compLoop (.SetComp elt [⟨tg, iter, ifs, 0⟩, ⟨tg1, iter1, ifs1, 0⟩] scope pos) 0 it acc env) = A := rfl
  rw [und, den]
  refine wpAny_noted ?_
  have shape : compTurn (.SetComp elt [⟨tg, iter, ifs, 0⟩, ⟨tg1, iter1, ifs1, 0⟩] scope pos) 0 it acc env = (do
      standAt iter.pos
      match ← pyNext it with
      | none => pure (.done .next)
      | some v =>
        letOwnedTupleGo tg it v
        assign tg env v
        let mut fits := true
        for t in ifs do
          if fits then fits ← isTrue t env (eval t env)
        if fits then
          let src ← eval iter1 env
          standAt iter1.pos
          let src ← foldedSetIterable iter1 env src
          let _ ← runOwn (.compStart (.SetComp elt [⟨tg, iter, ifs, 0⟩, ⟨tg1, iter1, ifs1, 0⟩] scope pos) 1 (← holding [src] (pyIter src)) acc env) env
        again (.compLoop (.SetComp elt [⟨tg, iter, ifs, 0⟩, ⟨tg1, iter1, ifs1, 0⟩] scope pos) 0 it acc env)) := rfl
  rw [shape]
  refine wpAny_bind (wpAny_standAt (wpAny_bind (wpAny_mono (one n s hJ) (fun r s1 d1 => ?_) fun _ _ z => z)))
  cases r with
  | none => exact wpAny_pure d1
  | some v =>
    refine wpAny_bind (wpAny_mono d1 (fun _ s2 d2 => wpAny_bind (wpAny_mono d2 (fun _ s3 d3 => wpAny_bind (wpAny_mono d3 (fun ok s4 d4 => ?_) fun _ _ z => z)) fun _ _ z => z)) fun _ _ z => z)
    cases ok with
    | false => exact wpAny_pure ⟨rfl, d4⟩
    | true =>
      refine wpAny_bind (wpAny_mono d4 (fun x s5 d5 => wpAny_bind (wpAny_standAt (wpAny_bind (wpAny_of_eq (fold1 x) (wpAny_bind (wpAny_holding (wpAny_mono d5 (fun it1 s6 d6 => wpAny_bind (wpAny_runOwn ?_)) fun _ _ z => z))))))) fun _ _ z => z)
      rw [Around.mark_none]
      refine codeAny_mono d6 fun r s7 d7 => ?_
      obtain ⟨rfl, d7⟩ := d7
      first
        | exact wpAny_pure ⟨rfl, d7⟩
        | exact wpAny_bind (wpAny_pure (wpAny_pure ⟨rfl, d7⟩))
/-- {elt for tg in iter if .. for tg1 in iter1 if ..}, elt a whole number -/
theorem pe_si2 {elt tg iter tg1 iter1 : Expr} {ifs ifs1 : List Expr} {scope : Scope} {own : List (Str × Nat)} {vs1 : List Nat} {pos : Pos} {wi wi1 : TI} {g g1 : TG} {tt tt1 : TT} {te : TE} (hc : X.calm = true) (nd : X.N.Nodup) (hi : PI X tg iter wi) (ok : BlkOk X.N X.env.scope scope own) (sub : ∀ i ∈ vs1, i ∈ own.map (·.2))
    (hg : ∀ (s : Shared) (H : Hp) (C : Addr) (cl : List (Str × Addr)) (fp : List Addr), PG (X.blk s H scope (compEnvC scope cl C X.env) fp) tg g) (ht : ∀ (s : Shared) (H : Hp) (C : Addr) (cl : List (Str × Addr)) (fp : List Addr), PTs (X.blk s H scope (compEnvC scope cl C X.env) fp) ifs tt)
    (hi1 : ∀ (s : Shared) (H : Hp) (C : Addr) (cl : List (Str × Addr)) (fp : List Addr), PI (X.blk s H scope (compEnvC scope cl C X.env) fp) tg1 iter1 wi1)
    (hg1 : ∀ (s : Shared) (H : Hp) (C : Addr) (cl : List (Str × Addr)) (fp : List Addr), PG (X.blk s H scope (compEnvC scope cl C X.env) fp) tg1 g1) (ht1 : ∀ (s : Shared) (H : Hp) (C : Addr) (cl : List (Str × Addr)) (fp : List Addr), PTs (X.blk s H scope (compEnvC scope cl C X.env) fp) ifs1 tt1)
    (he : ∀ (s : Shared) (H : Hp) (C : Addr) (cl : List (Str × Addr)) (fp : List Addr), PE (X.blk s H scope (compEnvC scope cl C X.env) fp) elt te)
    (fold : ∀ x, foldedSetIterable iter X.env x = pure x := by intro _; rfl) (fold1 : ∀ env x, foldedSetIterable iter1 env x = pure x := by intro _ _; rfl) :
    PE X (.SetComp elt [⟨tg, iter, ifs, 0⟩, ⟨tg1, iter1, ifs1, 0⟩] scope pos) (tSi2 X.w wi g tt wi1 g1 tt1 te (own.map (·.2)) vs1) := by
  refine ⟨fun pins s σ H Q I h => ?_⟩
  rw [PpSet.eval_SetComp]
  refine set_frame I nd hi ok fold h fun s3 s4 H2 H3 D C it cl fp tn J q Dn eH T free IB st nf => ?_
  obtain ⟨W, ⟨m0, w0⟩, L⟩ := q D Dn
  rw [← eH] at w0
  have G := hg s3 H3 C cl fp
  have Ct := ht s3 H3 C cl fp
  have Ee := he s3 H3 C cl fp
  have G1 := hg1 s3 H3 C cl fp
  have Ct1 := ht1 s3 H3 C cl fp
  have Ii := hi1 s3 H3 C cl fp
  obtain ⟨B, eB⟩ : ∃ B, B = X.blk s3 H3 scope (compEnvC scope cl C X.env) fp := ⟨_, rfl⟩
  obtain ⟨ce, ece⟩ : ∃ c, c = compEnvC scope cl C X.env := ⟨_, rfl⟩
  have hB : B.prog = X.prog ∧ B.w = X.w ∧ B.K = X.K ∧ B.A = X.A ∧ B.env = ce ∧ B.calm = X.calm ∧ B.xe = fun _ _ => False := by subst eB; subst ece; exact ⟨rfl, rfl, rfl, rfl, rfl, rfl, rfl⟩
  refine turns_first (fold1 _) (InLoop (X.blk s3 H3 scope (compEnvC scope cl C X.env) fp) [] (wipe σ (own.map (·.2))) fp tn W) (fun n s5 S => ?_) ⟨0, H3, IB, st, nf, w0⟩
  refine draws_mono (one_turn (B := X.blk s3 H3 scope (compEnvC scope cl C X.env) fp) T hc rfl G Ct free L S) (fun s' ⟨H', I', qq⟩ => ⟨rfl, H', I', qq⟩) fun o s' ⟨σ2, H4, N, pn, I4, hw, bd, close⟩ => ?_
  have hw' : wipe σ2 (own.map (·.2)) = wipe σ (own.map (·.2)) := by rw [hw, wipe_twice]
  have l2 : (wipe σ (own.map (·.2))).length = σ2.length := by rw [wipe_length]; exact wiped_len hw'
  have k2 : ∀ (j : Nat) v, (wipe σ (own.map (·.2)))[j]? = some (some v) → σ2[j]? = some (some v) := wiped_has hw'
  cases o with
  | false => exact close I4 l2 k2 bd
  | true =>
    simp only [if_true] at bd ⊢
    refine thnF (Ii.run _ s' σ2 H4 _ I4 bd) fun xv s6 hx => thnF hx fun itv s7 hy => ?_
    obtain ⟨it1, fp1, tn1, J1, H7, rfl, I7, T1, st7, f7, W1, ⟨m1, w1⟩, L1⟩ := hy
    -- the second clause's own loop
    have free1 : ∀ {σ' : L2.St} {H' : Hp} {s'' : Shared}, L2.Inv (X.blk s3 H3 scope (compEnvC scope cl C X.env) fp) ([] ++ pn) σ' H' s'' → (∀ b ∈ fp1, H' b = none) → ∀ b ∈ fp1, FpOk (X.blk s3 H3 scope (compEnvC scope cl C X.env) fp) ([] ++ pn) H' b := fun _ hn b hb => ⟨hn b hb, (f7 b hb).2⟩
    have k3 : ∀ (j : Nat) v, (wipe σ (own.map (·.2)))[j]? = some (some v) → (wipe σ2 vs1)[j]? = some (some v) := fun j v e => by
      have e1 := k2 j v e
      have out : j ∉ vs1 := fun z => by
        rw [← hw'] at e
        exact (wipe_some e).2 (sub j z)
      rw [wipe_out out]
      exact e1
    have inner : codeAny (model X.prog X.w) X.A (.compLoop (.SetComp elt [⟨tg, iter, ifs, 0⟩, ⟨tg1, iter1, ifs1, 0⟩] scope pos) 1 (.ref it1) (.ref D) (compEnvC scope cl C X.env))
        (fun r s'' => r = .ok .next ∧ ∃ m, m < n ∧ InLoop (X.blk s3 H3 scope (compEnvC scope cl C X.env) fp) [] (wipe σ (own.map (·.2))) fp tn W m s'') s7 := by
      refine turns_by (b := do let v ← eval elt (compEnvC scope cl C X.env); standAt elt.pos; let _ ← call (.builtin "set.add") [.ref D, v]) rfl rfl rfl rfl (InLoop (X.blk s3 H3 scope (compEnvC scope cl C X.env) fp) ([] ++ pn) (wipe σ2 vs1) fp1 tn1 W1) (fun n1 s8 S1 => ?_) ⟨0, H7, I7.weak (wipe_length _ _) (fun j v e => (wipe_some e).1), st7, fun b hb => (f7 b hb).1, w1⟩
      refine draws_mono (one_turn (B := X.blk s3 H3 scope (compEnvC scope cl C X.env) fp) T1 hc rfl G1 Ct1 free1 L1 S1) (fun s' ⟨H', I', qq⟩ => ⟨rfl, close I' (by rw [l2, wipe_length]) k3 qq⟩) fun o s9 ⟨σ3, H9, N1, pn1, I9, hw1, bd1, close1⟩ => ?_
      have hw1' : wipe σ3 vs1 = wipe σ2 vs1 := by rw [hw1, wipe_twice]
      have l3 : (wipe σ2 vs1).length = σ3.length := by rw [wipe_length]; exact wiped_len hw1'
      have k4 : ∀ (j : Nat) v, (wipe σ2 vs1)[j]? = some (some v) → σ3[j]? = some (some v) := wiped_has hw1'
      cases o with
      | false => exact close1 I9 l3 k4 bd1
      | true =>
        simp only [if_true] at bd1 ⊢
        refine wpAny_bind (thnF (Ee.run _ s9 σ3 H9 _ I9 bd1) fun u s10 ⟨y, H10, I10, ru, k, S0, n0, ey, hD, hn, nx⟩ => ?_)
        subst ey
        refine wpAny_bind (wpAny_standAt (wpAny_bind (adds (B := X.blk s3 H3 scope (compEnvC scope cl C X.env) fp) I10 hD hn ru fun s11 I11 => wpAny_pure (close1 I11 l3 k4 nx))))
    exact starts_by (g := ⟨tg1, iter1, ifs1, 0⟩) rfl rfl rfl rfl rfl inner (T1.self X.A 0 _ _ _ st7 ⟨inner, rfl⟩)
end
end FA

set_option Elab.async false
set_option linter.all false
set_option maxRecDepth 100000
set_option maxHeartbeats 4000000
/-! set(list of whole numbers), with numbers that stand there twice. -/
namespace FA
open PySem PySem.Spec PyProof.Rows L2
variable {P : Program} {w : World} {A : Around} {E : Value → Shared → Prop} {s : Shared} {a : Addr}
/-- the set of the numbers of l at a -/
def SetI (w : World) (h : Heap) (a : Addr) (l : List Int) : Prop := ∃ n, n ≤ l.length ∧ SetR w h a (fun k => decide (k ∈ l)) n
theorem SetI.keep {h h' : Heap} {l : List Int} (R : SetI w h a l) (k : ∀ o, h.get? a = some o → h'.get? a = some o) : SetI w h' a l := let ⟨n, q, r⟩ := R; ⟨n, q, r.at k⟩
theorem si_add {l : List Int} {k : Int} {u : Tok} {Q : Bool → Shared → Prop} (R : SetI w s.heap a l) (hb : l.length + 1 < scanBound)
    (hQ : ∀ h', Heap.SameBut a s.heap h' → SetI w h' a (l ++ [k]) → Q (!decide (k ∈ l)) { s with heap := h' }) : wpAny (model P w) A (setAddHashed a (.int k u) ((intKind P w).hash k)) Q E s := by
  obtain ⟨n, hn, r⟩ := R
  refine setR_add_hashed r (by omega) fun h' sb r2 => hQ h' sb ⟨_, ?_, r2.congr fun j => ?_⟩
  · rw [List.length_append, List.length_singleton]
    split <;> omega
  · simp only [List.mem_append, List.mem_singleton, Bool.decide_or]
theorem si_new {h : Heap} (ho : h.get? a = some { cls := .type "set", dict := none, data := .set #[] 0 (.fresh 0 0 (!w.params.followText "set-order")) }) : SetI w h a [] := by
  refine ⟨0, Nat.le_refl _, ?_⟩
  refine ⟨_, #[], 0, _, ho, ⟨rfl, rfl, rfl⟩, rfl, by simp, by simp, by simp, by decide, rfl, rfl, List.Pairwise.nil, ?_⟩
  show _ ∨ (!w.params.followText "set-order") = true
  cases w.params.followText "set-order"
  · exact .inr rfl
  · exact .inl rfl
theorem ints_item : ∀ {us : List Value} {ns : List Int}, IntsAre us ns → ∀ (i : Nat) (v : Value), us[i]? = some v → ∃ k t, ns[i]? = some k ∧ v = .int k t
  | _, _, .nil, i, v, h => by simp at h
  | _, _, .cons n t hr, 0, v, h => by simp at h; exact ⟨n, t, rfl, h.symm⟩
  | _, _, .cons n t hr, i + 1, v, h => by
    simp only [List.getElem?_cons_succ] at h
    obtain ⟨k, t', e1, e2⟩ := ints_item hr i v h
    exact ⟨k, t', by simpa using e1, e2⟩
theorem set_update_ints {I : Addr} {fp wr : List Addr} {G : Array GenState → Array GenState → Prop} {n : Nat} {Pv : Nat → Value → Prop} {St : Nat → Shared → Prop} {R : Result → Shared → Prop} (W : WalksS P w A.in1 I fp wr G n Pv St)
    (S : Addr) (hSf : S ∉ fp) (ns : List Int) (hn : n = ns.length) (hb : ns.length + 1 < scanBound) (hval : ∀ i v, Pv i v → ∃ k t, ns[i]? = some k ∧ v = .int k t) : ∀ (k i : Nat) (s : Shared), n - i = k → i ≤ n → St i s → SetI w s.heap S (ns.take i) →
      (∀ s', Moved (S :: wr) G s s' → SetI w s'.heap S ns → R (.ok (.ret .none)) s') → codeAny (model P w) A (.builtin "set.update.loop" ⟨[.ref S, .ref I], []⟩) R s := by
  have out : S ∉ wr := fun h => hSf (W.sub _ h)
  have more : ∀ b ∈ wr, b ∈ S :: wr := fun b hb => List.mem_cons_of_mem _ hb
  intro k
  induction k with
  | zero =>
    intro i s hk' hi hst hS hR
    have hin : i = n := by omega
    subst hin
    refine codeAny_builtin F.entry_set_update_loop ?_
    rw [Around.under_plainId F.plain_set_update_loop _]
    show wpAny _ A.in1 (pyNext (.ref I) >>= _) _ _ s
    refine wpAny_bind (W.done s _ _ hst fun s' hm => ?_)
    show wpAny _ A.in1 (ret Value.none) _ _ s'
    rw [List.take_of_length_le (by omega)] at hS
    exact wpAny_pure (hR s' (hm.mono more) (SetI.keep hS fun o e => hm.heap S o out e))
  | succ k ih =>
    intro i s hk' hi hst hS hR
    have hlt : i < n := by omega
    refine codeAny_builtin F.entry_set_update_loop ?_
    rw [Around.under_plainId F.plain_set_update_loop _]
    show wpAny _ A.in1 (pyNext (.ref I) >>= _) _ _ s
    refine wpAny_bind (W.item i s _ _ hlt hst fun v s' hP hst' hm => ?_)
    obtain ⟨z, t, hz, rfl⟩ := hval i v hP
    have hS' : SetI w s'.heap S (ns.take i) := SetI.keep hS fun o e => hm.heap S o out e
    have hl2 : (ns.take i).length ≤ ns.length := by rw [List.length_take]; omega
    show wpAny _ A.in1 (holding [Value.int z t] (setAdd S (.int z t)) >>= _) _ _ s'
    refine wpAny_bind (wpAny_holding ?_)
    unfold setAdd
    refine wpAny_holding (wpAny_bind ((intKind P w).pyHash (k := z) (intKind_is P w z t) ?_))
    refine si_add (s := { s' with toks := s'.toks + 1 }) hS' (by omega) fun h' hsb hS2 => ?_
    have hS3 : SetI w h' S (ns.take (i + 1)) := by
      rw [List.take_add_one, hz]
      show SetI w h' S (ns.take i ++ [z])
      exact hS2
    refine wpAny_pure ⟨plainId_quiet F.plain_set_update_loop _, ih (i + 1) _ (by omega) hlt (W.frame _ s' _ _ hst' (Nat.le_succ _) fun b hb o e => ?_) hS3 fun s'' hm'' hS'' => ?_⟩
    · rw [hsb.2 b (fun h : b = S => hSf (by rw [← h]; exact hb))]
      exact e
    · refine hR s'' (Moved.trans W.gtrans ((hm.mono more).then_heap (Nat.le_succ _) fun b o hb e => ?_) hm'') hS''
      rw [hsb.2 b (fun h : b = S => hb (by rw [h]; exact List.mem_cons_self))]
      exact e
/-- the set as it is laid: empty -/
abbrev emptyS (w : World) : Obj := { cls := .type "set", dict := none, data := .set #[] 0 (.fresh 0 0 (!w.params.followText "set-order")) }
set_option maxRecDepth 100000 in
set_option maxHeartbeats 3200000 in
theorem call_set_ints {l : Addr} {items : Array Value} (ns : List Int) {Q : Value → Shared → Prop} (hh : A.handled = none) (hl : s.heap.IsList l items) (hit : IntsAre items.toList ns) (hb : ns.length + 1 < scanBound)
    (h : ∀ (h' : Heap) (tk : Nat), SetI w h' s.heap.objs.size ns → (∀ b o, s.heap.get? b = some o → h'.get? b = some o) → Q (.ref s.heap.objs.size) { s with heap := h', toks := tk }) : wpAny (model P w) A (call (.type "set") [.ref l]) Q E s := by
  have hisz : items.size = ns.length := by
    have q := IntsAre.length hit
    rw [Array.length_toList] at q
    exact q
  obtain ⟨c, tl, hmro⟩ := F.called_set.mro
  have hmade := F.called_set.made
  have hsub := F.called_set.sub
  refine wpAny_call (codeAny_of_tree ?_)
  show wpAny _ _ (callAny (.type "set") _) _ _ _
  refine wpAny_pure ⟨Code.quiet_builtin _ (by decide +kernel), codeAny_builtin F.entry_type_call ?_⟩
  rw [Around.under_plain (weight_type_call_type "set" [.ref l] []) rfl]
  have h1 := F.called_set.notType
  have h2 := F.called_set.canCreate
  have hct := F.typeCall_set_1 (.ref l)
  repeat (any_goals (first | assumption | wp_step))
  refine codeAny_mono (code_set_led1 (.ref l) (E := E) (Q₁ := fun obj s₁ => obj = .ref s.heap.objs.size ∧ s₁ = { s with heap := s.heap.push (emptyS w) }) ⟨rfl, rfl⟩) fun r s₁ hr => ?_
  cases r with
  | error e => exact hr
  | ok fl =>
    cases fl with
    | ret obj =>
      obtain ⟨rfl, rfl⟩ := hr
      have hS : (s.heap.push (emptyS w)).get? s.heap.objs.size = some (emptyS w) := Heap.get?_push_size _ rfl
      have hT : Shared.TypeIs { s with heap := s.heap.push (emptyS w) } (.ref s.heap.objs.size) "set" := ⟨_, hS, rfl⟩
      have hli := F.called_set.init.lookup
      have hbi := F.called_set.init.bind (.ref s.heap.objs.size)
      repeat (any_goals (first | assumption | wp_step))
      refine codeAny_mono (codeAny_call_builtin (R := wants (fun r s₂ => r = .none ∧ ∃ h' tk, s₂ = { s with heap := h', toks := tk } ∧ SetI w h' s.heap.objs.size ns ∧ (∀ b o, s.heap.get? b = some o → h'.get? b = some o)) E)
        F.called_set.init.plain F.entry_set_init (check_set_init_1 hT ?_)) fun r₂ s₂ hr₂ => ?_
      · obtain ⟨ol, hol, hcl, nl, hdl⟩ := hl
        obtain ⟨ocls, odict, odata, oslots⟩ := ol
        simp only at hcl hdl
        subst hcl; subst hdl
        have hol' : (s.heap.push (emptyS w)).get? l = some { cls := .type "list", dict := odict, data := .seq items nl, slots := oslots } := Heap.get?_push_of_some _ hol
        have hsls := F.sub_list_set
        have hslf := F.sub_list_frozenset
        have hne : (Value.type "list" == Value.type "dict") = false := by decide
        have hl1 : (s.heap.push (emptyS w)).IsList l items := ⟨_, hol', rfl, nl, rfl⟩
        unfold Builtin.«set.__init__» noKeywords Builtin.Frozenset.updateFrom
        generalize hPI : pyIter = PI
        wp_walk
        subst hPI
        refine wpAny_pyIter_list hl1 ?_
        refine wpAny_bind (wpAny_runValue ?_)
        have hlS : l < s.heap.objs.size := Heap.lt_size hol
        have hh3 : A.in1.in1.in1.handled = none := by simp [hh]
        have hneI : l ≠ (s.heap.push (emptyS w)).objs.size := by
          rw [Heap.size_push]
          exact Nat.ne_of_lt (Nat.lt_succ_of_lt hlS)
        have hSf : s.heap.objs.size ∉ [(s.heap.push (emptyS w)).objs.size, l] := by
          rw [Heap.size_push]
          simp only [List.mem_cons, List.mem_singleton, List.not_mem_nil, or_false, not_or]
          exact ⟨Nat.ne_of_lt (Nat.lt_succ_self _), Nat.ne_of_gt hlS⟩
        have hval : ∀ (i : Nat) (v : Value), items[i]? = some v → ∃ k t, ns[i]? = some k ∧ v = .int k t := fun i v hv => by
          exact ints_item hit i v (by rw [Array.getElem?_toList]; exact hv)
        refine set_update_ints ((Walks.list hh3 _ l hneI items).toS) s.heap.objs.size hSf ns hisz hb hval (items.size - 0) 0 _ (by omega) (Nat.zero_le _) ⟨⟨_, Heap.get?_push_size _ rfl, rfl, rfl⟩, (hl1.push _)⟩ ?hS0 ?hR
        case hS0 =>
          exact si_new (Heap.get?_push_of_some _ hS)
        case hR =>
          intro s' hm hS'
          obtain ⟨h', g2, d', tk', os'⟩ := s'
          have eg : g2 = s.gens := hm.gens
          have ed : d' = s.drawn := hm.drawn
          have eo : os' = s.os := hm.os
          subst eg; subst ed; subst eo
          show wpAny _ _ _ _ _ _
          refine wpAny_pure ?_
          show wpAny _ _ (ret Value.none) _ _ _
          refine wpAny_pure ⟨rfl, h', tk', rfl, hS', fun b o e => ?_⟩
          have hb0 : b < s.heap.objs.size := Heap.lt_size e
          refine hm.heap b o ?_ (Heap.get?_push_of_some _ (Heap.get?_push_of_some _ e))
          simp only [List.mem_cons, List.mem_singleton, List.not_mem_nil, or_false, not_or]
          refine ⟨Nat.ne_of_lt hb0, ?_⟩
          rw [Heap.size_push]
          exact Nat.ne_of_lt (Nat.lt_succ_of_lt hb0)
      · cases r₂ with
        | error e => exact hr₂
        | ok fl₂ =>
          cases fl₂ with
          | ret r =>
            obtain ⟨rfl, h', tk, rfl, hS', hk'⟩ := hr₂
            repeat (any_goals (first | assumption | wp_step))
            exact h _ _ hS' hk'
          | _ => exact hr₂.elim
    | _ => exact hr.elim
/-- how many are in such a set -/
theorem setR_count {h : Heap} {S : Int → Bool} {n : Nat} (R : SetR w h a S n) : ∃ ks : List Int, ks.Nodup ∧ (∀ k, S k = true ↔ k ∈ ks) ∧ ks.length = n := by
  obtain ⟨o, es, ep, t, ho, hx, hd, g, nd, hm, hb, hf, hn, _⟩ := R
  exact ⟨_, nd, hm, by rw [List.length_map, Array.length_toList]; exact hn⟩
section
variable {X : Cx}
/-- set(xs), xs a list of whole numbers: n of them are different -/
def rSetIs (K : PySem.W.Frag) (w : World) : List V → Hp → VK → Prop := fun xs H Q => ∃ (p : Addr) (ns : List Int), xs = [V.ref p] ∧ SqL K H p (ns.map V.int) ∧ ns.length ≤ 1000 ∧ ∀ q n ks, H q = none → List.Nodup ks → (∀ k, k ∈ ks ↔ k ∈ ns) → ks.length = n → Q (.ref q) (upd H q (SetO w q (fun k => decide (k ∈ ns)) n))
theorem cr_setIs (hc : X.calm = true) : CallR X (.type "set") (rSetIs X.K X.w) := by
  intro pins s σ H xs us Q I r h
  obtain ⟨p, ns, rfl, hs, hn, q⟩ := h
  rw [Vals.ref1 r]
  obtain ⟨its, rv, ⟨o, n, ho, h1, h2, h3⟩, hz⟩ := I.list hs
  have ia : IntsAre its ns := intsAre_of rv
  have sc : ns.length + 1 < scanBound := by
    have : (1002 : Nat) < scanBound := by decide
    omega
  refine call_set_ints (P := X.prog) (w := X.w) ns (I.ok.hd hc) (items := its.toArray) ⟨o, ho, h1, n, h3⟩ (by simpa using ia) sc fun h' tk hT hk => ?_
  obtain ⟨m, _, R⟩ := hT
  obtain ⟨ks, nd, mem, len⟩ := setR_count R
  exact ⟨.ref _, upd H s.heap.objs.size (SetO X.w s.heap.objs.size (fun k => decide (k ∈ ns)) m), I.laid (t' := tk) hk (Nat.le_refl _) (setO_new R), rfl, q _ m ks (I.hok.fresh (Nat.le_refl _)) nd (fun k => by rw [← mem, decide_eq_true_eq]) len⟩
end
end FA

set_option Elab.async false
set_option linter.all false
set_option maxRecDepth 100000
/-! The words of a body, its plan and what a plan's places tell of words. -/
namespace FA
open PySem
inductive Star (L : List Str → Prop) : List Str → Prop where
  | nil : Star L []
  | snoc {u v : List Str} : Star L u → L v → v ≠ [] → Star L (u ++ v)
mutual
/-- the words of an item, of a body, of one of some bodies -/
def WI : It → List Str → Prop
  | .call x => fun w => w = [x]
  | .may b => fun w => w = [] ∨ WB b w
  | .loop b => fun w => Star (WB b) w
  | .one bs => fun w => WBs bs w
def WB : List It → List Str → Prop
  | [] => fun w => w = []
  | i :: r => fun w => ∃ u v, w = u ++ v ∧ WI i u ∧ WB r v
def WBs : List (List It) → List Str → Prop
  | [] => fun _ => False
  | b :: r => fun w => WB b w ∨ WBs r w
end
theorem WB_app : ∀ {a b : List It} {w : List Str}, WB (a ++ b) w ↔ ∃ u v, w = u ++ v ∧ WB a u ∧ WB b v
  | [], b, w => by
    simp only [List.nil_append, WB]
    exact ⟨fun h => ⟨[], w, rfl, rfl, h⟩, fun ⟨u, v, e, e1, h⟩ => by subst e1; rw [e]; exact h⟩
  | i :: r, b, w => by
    simp only [List.cons_append, WB]
    constructor
    · rintro ⟨u, v, e, h1, h2⟩
      obtain ⟨u2, v2, e2, h3, h4⟩ := WB_app.mp h2
      exact ⟨u ++ u2, v2, by rw [e, e2, List.append_assoc], ⟨u, u2, rfl, h1, h3⟩, h4⟩
    · rintro ⟨u, v, e, ⟨u2, v2, e2, h1, h2⟩, h3⟩
      exact ⟨u2, v2 ++ v, by rw [e, e2, List.append_assoc], h1, WB_app.mpr ⟨v2, v, rfl, h2, h3⟩⟩
theorem WB_one {i : It} {w : List Str} : WB [i] w ↔ WI i w := by
  simp only [WB]
  exact ⟨fun ⟨u, v, e, h1, h2⟩ => by subst h2; rw [e, List.append_nil]; exact h1, fun h => ⟨w, [], by simp, h, rfl⟩⟩
theorem WB_snoc {l : List It} {k : Nat} {i : It} (h : l[k]? = some i) {w : List Str} : WB (l.take (k + 1)) w ↔ ∃ u v, w = u ++ v ∧ WB (l.take k) u ∧ WI i v := by
  rw [List.take_add_one, h, WB_app]
  simp only [Option.toList_some, WB_one]
theorem WBs_iff : ∀ {bs : List (List It)} {w : List Str}, WBs bs w ↔ ∃ b ∈ bs, WB b w
  | [], w => by simp [WBs]
  | b :: r, w => by simp [WBs, WBs_iff (bs := r)]
/-- a plan -/
structure Pl where
  nm : List Str
  fs : List Nat
  ls : List Nat
  ps : List (Nat × Nat)
  em : Bool
def both (l f : List Nat) : List (Nat × Nat) := l.flatMap (fun a => f.map (fun b => (a, b)))
theorem both_mem {l f : List Nat} {a b : Nat} : (a, b) ∈ both l f ↔ a ∈ l ∧ b ∈ f := by
  simp only [both, List.mem_flatMap, List.mem_map]
  exact ⟨fun ⟨x, hx, y, hy, e⟩ => by cases e; exact ⟨hx, hy⟩, fun ⟨h1, h2⟩ => ⟨a, h1, b, h2, rfl⟩⟩
def Pl.e0 : Pl := ⟨[], [], [], [], true⟩
def Pl.no : Pl := ⟨[], [], [], [], false⟩
def Pl.seq (a b : Pl) : Pl :=
  ⟨a.nm ++ b.nm, if a.em then a.fs ++ b.fs else a.fs, if b.em then a.ls ++ b.ls else b.ls, a.ps ++ b.ps ++ both a.ls b.fs, a.em && b.em⟩
def Pl.alt (a b : Pl) : Pl := ⟨a.nm ++ b.nm, a.fs ++ b.fs, a.ls ++ b.ls, a.ps ++ b.ps, a.em || b.em⟩
def Pl.opt (a : Pl) : Pl := ⟨a.nm, a.fs, a.ls, a.ps, true⟩
def Pl.turn (a : Pl) : Pl := ⟨a.nm, a.fs, a.ls, a.ps ++ both a.ls a.fs, true⟩
mutual
def planI : It → Nat → Pl
  | .call x => fun n => ⟨[x], [n], [n], [], false⟩
  | .may b => fun n => (planB b .e0 n).opt
  | .loop b => fun n => (planB b .e0 n).turn
  | .one bs => fun n => planO bs n
/-- a body's plan behind one that there is -/
def planB : List It → Pl → Nat → Pl
  | [] => fun acc _ => acc
  | i :: r => fun acc n => planB r (acc.seq (planI i (n + acc.nm.length))) n
def planO : List (List It) → Nat → Pl
  | [] => fun _ => .no
  | b :: r => fun n => planA r (planB b .e0 n) n
def planA : List (List It) → Pl → Nat → Pl
  | [] => fun acc _ => acc
  | b :: r => fun acc n => planA r (acc.alt (planB b .e0 (n + acc.nm.length))) n
end
/-- the plan's places lie from n on -/
structure Pl.In (a : Pl) (n : Nat) : Prop where
  fs : ∀ q ∈ a.fs, n ≤ q ∧ q < n + a.nm.length
  ls : ∀ q ∈ a.ls, n ≤ q ∧ q < n + a.nm.length
  ps : ∀ p q, (p, q) ∈ a.ps → (n ≤ p ∧ p < n + a.nm.length) ∧ n ≤ q ∧ q < n + a.nm.length
/-- the place to which a word leads -/
inductive At (nm : Nat → Option Str) (a : Pl) : List Str → Nat → Prop where
  | first {q : Nat} {x : Str} : q ∈ a.fs → nm q = some x → At nm a [x] q
  | next {u : List Str} {p q : Nat} {x : Str} : At nm a u p → (p, q) ∈ a.ps → nm q = some x → At nm a (u ++ [x]) q
def Lg (nm : Nat → Option Str) (a : Pl) (w : List Str) : Prop := (w = [] ∧ a.em = true) ∨ ∃ q ∈ a.ls, At nm a w q
variable {nm : Nat → Option Str}
theorem At.ne {a : Pl} {w : List Str} {q : Nat} (h : At nm a w q) : w ≠ [] := by
  cases h <;> simp
theorem At.inn {a : Pl} {n : Nat} (ha : a.In n) {w : List Str} {q : Nat} (h : At nm a w q) : n ≤ q ∧ q < n + a.nm.length := by
  cases h with
  | first h1 h2 => exact ha.fs _ h1
  | next h1 h2 h3 => exact (ha.ps _ _ h2).2
/-- it has the same ways as another plan, of which it has all firsts and pairs -/
theorem At.mono {a b : Pl} (hf : ∀ q ∈ a.fs, q ∈ b.fs) (hp : ∀ p q, (p, q) ∈ a.ps → (p, q) ∈ b.ps) {w : List Str} {q : Nat} (h : At nm a w q) : At nm b w q := by
  induction h with
  | first h1 h2 => exact .first (hf _ h1) h2
  | next h1 h2 h3 ih => exact .next ih (hp _ _ h2) h3
section Seq
variable {a b : Pl} {n m : Nat} (ha : a.In n) (hb : b.In m) (hm : m = n + a.nm.length)
theorem seq_at1 {w : List Str} {q : Nat} (h : At nm a w q) : At nm (a.seq b) w q := by
  refine h.mono (fun q h => ?_) (fun p q h => ?_)
  · simp only [Pl.seq]
    split
    · exact List.mem_append_left _ h
    · exact h
  · simp only [Pl.seq]
    exact List.mem_append_left _ (List.mem_append_left _ h)
theorem seq_at2 {u v : List Str} {q : Nat} (hu : Lg nm a u) (h : At nm b v q) : At nm (a.seq b) (u ++ v) q := by
  induction h with
  | @first q x h1 h2 =>
    rcases hu with ⟨rfl, he⟩ | ⟨l, hl, hat⟩
    · refine .first ?_ h2
      simp only [Pl.seq, he, if_true]
      exact List.mem_append_right _ h1
    · refine .next (seq_at1 hat) ?_ h2
      simp only [Pl.seq]
      exact List.mem_append_right _ (both_mem.mpr ⟨hl, h1⟩)
  | @next v p q x h1 h2 h3 ih =>
    rw [← List.append_assoc]
    refine .next ih ?_ h3
    simp only [Pl.seq]
    exact List.mem_append_left _ (List.mem_append_right _ h2)
include ha hb hm in
theorem seq_at3 {w : List Str} {q : Nat} (h : At nm (a.seq b) w q) : (q < m ∧ At nm a w q) ∨ (m ≤ q ∧ ∃ u v, w = u ++ v ∧ Lg nm a u ∧ At nm b v q) := by
  induction h with
  | @first q x h1 h2 =>
    simp only [Pl.seq] at h1
    have hh : q ∈ a.fs ∨ (a.em = true ∧ q ∈ b.fs) := by
      split at h1
      · next he => rcases List.mem_append.mp h1 with h | h
                   · exact .inl h
                   · exact .inr ⟨he, h⟩
      · exact .inl h1
    rcases hh with h | ⟨he, h⟩
    · exact .inl ⟨by have := (ha.fs _ h).2; omega, .first h h2⟩
    · exact .inr ⟨(hb.fs _ h).1, [], [x], rfl, .inl ⟨rfl, he⟩, .first h h2⟩
  | @next u p q x h1 h2 h3 ih =>
    simp only [Pl.seq] at h2
    rcases List.mem_append.mp h2 with h2 | h2
    · rcases List.mem_append.mp h2 with h2 | h2
      · have := ha.ps _ _ h2
        rcases ih with ⟨_, ih⟩ | ⟨ih, _⟩
        · exact .inl ⟨by omega, .next ih h2 h3⟩
        · omega
      · have := hb.ps _ _ h2
        rcases ih with ⟨ih, _⟩ | ⟨_, u1, v1, e, e1, e2⟩
        · omega
        · exact .inr ⟨by omega, u1, v1 ++ [x], by rw [e, List.append_assoc], e1, .next e2 h2 h3⟩
    · obtain ⟨k1, k2⟩ := both_mem.mp h2
      have c1 := ha.ls _ k1
      have c2 := hb.fs _ k2
      rcases ih with ⟨_, ih⟩ | ⟨ih, _⟩
      · exact .inr ⟨c2.1, u, [x], rfl, .inr ⟨p, k1, ih⟩, .first k2 h3⟩
      · omega
include ha hb hm in
theorem seq_lg {w : List Str} : Lg nm (a.seq b) w ↔ ∃ u v, w = u ++ v ∧ Lg nm a u ∧ Lg nm b v := by
  constructor
  · rintro (⟨rfl, he⟩ | ⟨q, hq, hat⟩)
    · simp only [Pl.seq, Bool.and_eq_true] at he
      exact ⟨[], [], rfl, .inl ⟨rfl, he.1⟩, .inl ⟨rfl, he.2⟩⟩
    · have hh : (b.em = true ∧ q ∈ a.ls) ∨ q ∈ b.ls := by
        simp only [Pl.seq] at hq
        split at hq
        · next he => rcases List.mem_append.mp hq with h | h
                     · exact .inl ⟨he, h⟩
                     · exact .inr h
        · exact .inr hq
      rcases hh with ⟨he, hq⟩ | hq
      · have := ha.ls _ hq
        rcases seq_at3 ha hb hm hat with ⟨_, h⟩ | ⟨h, _⟩
        · exact ⟨w, [], by simp, .inr ⟨q, hq, h⟩, .inl ⟨rfl, he⟩⟩
        · omega
      · have := hb.ls _ hq
        rcases seq_at3 ha hb hm hat with ⟨h, _⟩ | ⟨_, u, v, e, h1, h2⟩
        · omega
        · exact ⟨u, v, e, h1, .inr ⟨q, hq, h2⟩⟩
  · rintro ⟨u, v, rfl, h1, h2⟩
    rcases h2 with ⟨rfl, he⟩ | ⟨q, hq, hat⟩
    · rcases h1 with ⟨rfl, he1⟩ | ⟨q, hq, hat⟩
      · exact .inl ⟨rfl, by simp [Pl.seq, he, he1]⟩
      · refine .inr ⟨q, ?_, by rw [List.append_nil]; exact seq_at1 hat⟩
        simp only [Pl.seq, he, if_true]
        exact List.mem_append_left _ hq
    · refine .inr ⟨q, ?_, seq_at2 h1 hat⟩
      simp only [Pl.seq]
      split
      · exact List.mem_append_right _ hq
      · exact hq
include ha hb hm in
theorem seq_in : (a.seq b).In n := by
  have l : (a.seq b).nm.length = a.nm.length + b.nm.length := by simp [Pl.seq]
  constructor
  · intro q hq
    have hh : q ∈ a.fs ∨ q ∈ b.fs := by
      simp only [Pl.seq] at hq
      split at hq
      · exact List.mem_append.mp hq
      · exact .inl hq
    rcases hh with h | h
    · have := ha.fs _ h; omega
    · have := hb.fs _ h; omega
  · intro q hq
    have hh : q ∈ a.ls ∨ q ∈ b.ls := by
      simp only [Pl.seq] at hq
      split at hq
      · exact List.mem_append.mp hq
      · exact .inr hq
    rcases hh with h | h
    · have := ha.ls _ h; omega
    · have := hb.ls _ h; omega
  · intro p q hq
    simp only [Pl.seq] at hq
    rcases List.mem_append.mp hq with hq | hq
    · rcases List.mem_append.mp hq with hq | hq
      · have := ha.ps _ _ hq; omega
      · have := hb.ps _ _ hq; omega
    · obtain ⟨k1, k2⟩ := both_mem.mp hq
      have c1 := ha.ls _ k1
      have c2 := hb.fs _ k2
      omega
include ha hb hm in
theorem alt_in : (a.alt b).In n := by
  have l : (a.alt b).nm.length = a.nm.length + b.nm.length := by simp [Pl.alt]
  constructor
  · intro q hq
    rcases List.mem_append.mp hq with h | h
    · have := ha.fs _ h; omega
    · have := hb.fs _ h; omega
  · intro q hq
    rcases List.mem_append.mp hq with h | h
    · have := ha.ls _ h; omega
    · have := hb.ls _ h; omega
  · intro p q hq
    rcases List.mem_append.mp hq with hq | hq
    · have := ha.ps _ _ hq; omega
    · have := hb.ps _ _ hq; omega
theorem alt_at1 {w : List Str} {q : Nat} (h : At nm a w q) : At nm (a.alt b) w q :=
  h.mono (fun q h => List.mem_append_left _ h) (fun p q h => List.mem_append_left _ h)
theorem alt_at2 {w : List Str} {q : Nat} (h : At nm b w q) : At nm (a.alt b) w q :=
  h.mono (fun q h => List.mem_append_right _ h) (fun p q h => List.mem_append_right _ h)
include ha hb hm in
theorem alt_at3 {w : List Str} {q : Nat} (h : At nm (a.alt b) w q) : (q < m ∧ At nm a w q) ∨ (m ≤ q ∧ At nm b w q) := by
  induction h with
  | @first q x h1 h2 =>
    rcases List.mem_append.mp h1 with h | h
    · exact .inl ⟨by have := (ha.fs _ h).2; omega, .first h h2⟩
    · exact .inr ⟨(hb.fs _ h).1, .first h h2⟩
  | @next u p q x h1 h2 h3 ih =>
    rcases List.mem_append.mp h2 with h2 | h2
    · have := ha.ps _ _ h2
      rcases ih with ⟨_, ih⟩ | ⟨ih, _⟩
      · exact .inl ⟨by omega, .next ih h2 h3⟩
      · omega
    · have := hb.ps _ _ h2
      rcases ih with ⟨ih, _⟩ | ⟨_, ih⟩
      · omega
      · exact .inr ⟨by omega, .next ih h2 h3⟩
include ha hb hm in
theorem alt_lg {w : List Str} : Lg nm (a.alt b) w ↔ Lg nm a w ∨ Lg nm b w := by
  constructor
  · rintro (⟨rfl, he⟩ | ⟨q, hq, hat⟩)
    · simp only [Pl.alt, Bool.or_eq_true] at he
      exact he.imp (fun h => .inl ⟨rfl, h⟩) (fun h => .inl ⟨rfl, h⟩)
    · rcases List.mem_append.mp hq with hq | hq
      · have := ha.ls _ hq
        rcases alt_at3 ha hb hm hat with ⟨_, h⟩ | ⟨h, _⟩
        · exact .inl (.inr ⟨q, hq, h⟩)
        · omega
      · have := hb.ls _ hq
        rcases alt_at3 ha hb hm hat with ⟨h, _⟩ | ⟨_, h⟩
        · omega
        · exact .inr (.inr ⟨q, hq, h⟩)
  · rintro ((⟨rfl, he⟩ | ⟨q, hq, hat⟩) | (⟨rfl, he⟩ | ⟨q, hq, hat⟩))
    · exact .inl ⟨rfl, by simp [Pl.alt, he]⟩
    · exact .inr ⟨q, List.mem_append_left _ hq, alt_at1 hat⟩
    · exact .inl ⟨rfl, by simp [Pl.alt, he]⟩
    · exact .inr ⟨q, List.mem_append_right _ hq, alt_at2 hat⟩
end Seq
theorem opt_in {a : Pl} {n : Nat} (ha : a.In n) : a.opt.In n := ⟨ha.fs, ha.ls, ha.ps⟩
theorem turn_in {a : Pl} {n : Nat} (ha : a.In n) : a.turn.In n := by
  refine ⟨ha.fs, ha.ls, fun p q h => ?_⟩
  rcases List.mem_append.mp h with h | h
  · exact ha.ps _ _ h
  · obtain ⟨k1, k2⟩ := both_mem.mp h
    exact ⟨ha.ls _ k1, ha.fs _ k2⟩
theorem opt_lg {a : Pl} {w : List Str} : Lg nm a.opt w ↔ w = [] ∨ Lg nm a w := by
  constructor
  · rintro (⟨rfl, he⟩ | ⟨q, hq, hat⟩)
    · exact .inl rfl
    · exact .inr (.inr ⟨q, hq, At.mono (a := a.opt) (b := a) (fun _ h => h) (fun _ _ h => h) hat⟩)
  · rintro (rfl | ⟨rfl, he⟩ | ⟨q, hq, hat⟩)
    · exact .inl ⟨rfl, rfl⟩
    · exact .inl ⟨rfl, rfl⟩
    · exact .inr ⟨q, hq, At.mono (a := a) (b := a.opt) (fun _ h => h) (fun _ _ h => h) hat⟩
theorem turn_at1 {a : Pl} {u : List Str} (hu : Star (Lg nm a) u) : ∀ {v : List Str} {q : Nat}, At nm a v q → At nm a.turn (u ++ v) q := by
  induction hu with
  | nil => exact fun {v q} h => At.mono (a := a) (b := a.turn) (fun _ h => h) (fun _ _ h => List.mem_append_left _ h) h
  | @snoc u v hu hv hne ih =>
    intro v2 q h
    rcases hv with ⟨z, _⟩ | ⟨l, hl, hat⟩
    · exact absurd z hne
    induction h with
    | first h1 h2 => exact .next (ih hat) (List.mem_append_right _ (both_mem.mpr ⟨hl, h1⟩)) h2
    | next h1 h2 h3 ih2 =>
      rw [← List.append_assoc]
      exact .next ih2 (List.mem_append_left _ h2) h3
theorem turn_at2 {a : Pl} {w : List Str} {q : Nat} (h : At nm a.turn w q) : ∃ u v, w = u ++ v ∧ Star (Lg nm a) u ∧ At nm a v q := by
  induction h with
  | @first q x h1 h2 => exact ⟨[], [x], rfl, .nil, .first h1 h2⟩
  | @next u p q x h1 h2 h3 ih =>
    obtain ⟨u1, v1, e, k1, k2⟩ := ih
    rcases List.mem_append.mp h2 with h2 | h2
    · exact ⟨u1, v1 ++ [x], by rw [e, List.append_assoc], k1, .next k2 h2 h3⟩
    · obtain ⟨c1, c2⟩ := both_mem.mp h2
      exact ⟨u, [x], rfl, by rw [e]; exact .snoc k1 (.inr ⟨p, c1, k2⟩) k2.ne, .first c2 h3⟩
theorem turn_lg {a : Pl} {w : List Str} : Lg nm a.turn w ↔ Star (Lg nm a) w := by
  constructor
  · rintro (⟨rfl, he⟩ | ⟨q, hq, hat⟩)
    · exact .nil
    · obtain ⟨u, v, rfl, h1, h2⟩ := turn_at2 hat
      exact .snoc h1 (.inr ⟨q, hq, h2⟩) h2.ne
  · intro h
    cases h with
    | nil => exact .inl ⟨rfl, rfl⟩
    | @snoc u v hu hv hne =>
      rcases hv with ⟨z, _⟩ | ⟨l, hl, hat⟩
      · exact absurd z hne
      · exact .inr ⟨l, hl, turn_at1 hu hat⟩
theorem Star.imp {L M : List Str → Prop} (h : ∀ w, L w → M w) {w : List Str} (s : Star L w) : Star M w := by
  induction s with
  | nil => exact .nil
  | snoc _ h1 h2 ih => exact .snoc ih (h _ h1) h2
/-- the names stand from n on -/
def Pla (nm : Nat → Option Str) (n : Nat) (l : List Str) : Prop := ∀ k, k < l.length → nm (n + k) = l[k]?
theorem Pla.left {n : Nat} {a b : List Str} (h : Pla nm n (a ++ b)) : Pla nm n a := fun k hk => by
  rw [h k (by rw [List.length_append]; omega), List.getElem?_append_left hk]
theorem Pla.right {n : Nat} {a b : List Str} (h : Pla nm n (a ++ b)) : Pla nm (n + a.length) b := fun k hk => by
  have := h (a.length + k) (by rw [List.length_append]; omega)
  rw [show n + a.length + k = n + (a.length + k) by omega, this, List.getElem?_append_right (by omega)]
  congr 1
  omega
theorem e0_in {n : Nat} : Pl.e0.In n := ⟨(fun q h => nomatch h), (fun q h => nomatch h), (fun p q h => nomatch h)⟩
theorem no_in {n : Nat} : Pl.no.In n := ⟨(fun q h => nomatch h), (fun q h => nomatch h), (fun p q h => nomatch h)⟩
theorem no_lg {w : List Str} : ¬ Lg nm .no w := by
  rintro (⟨_, h⟩ | ⟨q, hq, _⟩)
  · cases h
  · cases hq
theorem e0_lg {w : List Str} : Lg nm .e0 w ↔ w = [] := by
  constructor
  · rintro (⟨rfl, he⟩ | ⟨q, hq, hat⟩)
    · rfl
    · cases hq
  · exact fun h => .inl ⟨h, rfl⟩
/-! ### a plan's names, places and words -/
mutual
/-- the names written in an item, a body, some bodies -/
def wrI : It → List Str
  | .call x => [x]
  | .may b => wrB b
  | .loop b => wrB b
  | .one bs => wrBs bs
def wrB : List It → List Str
  | [] => []
  | i :: r => wrI i ++ wrB r
def wrBs : List (List It) → List Str
  | [] => []
  | b :: r => wrB b ++ wrBs r
end
mutual
theorem planI_nm : ∀ (i : It) (n : Nat), (planI i n).nm = wrI i
  | .call x, n => by simp [planI, wrI]
  | .may b, n => by simp only [planI, wrI, Pl.opt, planB_nm b .e0 n]; rfl
  | .loop b, n => by simp only [planI, wrI, Pl.turn, planB_nm b .e0 n]; rfl
  | .one bs, n => by simp only [planI, wrI]; exact planO_nm bs n
theorem planB_nm : ∀ (l : List It) (a : Pl) (n : Nat), (planB l a n).nm = a.nm ++ wrB l
  | [], a, n => by simp [planB, wrB]
  | i :: r, a, n => by
    simp only [planB, wrB]
    rw [planB_nm r]
    simp only [Pl.seq, planI_nm i, List.append_assoc]
theorem planO_nm : ∀ (bs : List (List It)) (n : Nat), (planO bs n).nm = wrBs bs
  | [], n => by simp [planO, wrBs, Pl.no]
  | b :: r, n => by
    simp only [planO, wrBs]
    rw [planA_nm r, planB_nm b]
    rfl
theorem planA_nm : ∀ (bs : List (List It)) (a : Pl) (n : Nat), (planA bs a n).nm = a.nm ++ wrBs bs
  | [], a, n => by simp [planA, wrBs]
  | b :: r, a, n => by
    simp only [planA, wrBs]
    rw [planA_nm r]
    simp only [Pl.alt, planB_nm b, Pl.e0, List.nil_append, List.append_assoc]
end
mutual
theorem planI_in : ∀ (i : It) (n : Nat), (planI i n).In n
  | .call x, n => by
    refine ⟨fun q h => ?_, fun q h => ?_, fun p q h => ?_⟩
    · simp only [planI, List.mem_singleton] at h ⊢; simp; omega
    · simp only [planI, List.mem_singleton] at h ⊢; simp; omega
    · simp [planI] at h
  | .may b, n => by simp only [planI]; exact opt_in (planB_in b .e0 n e0_in)
  | .loop b, n => by simp only [planI]; exact turn_in (planB_in b .e0 n e0_in)
  | .one bs, n => by simp only [planI]; exact planO_in bs n
theorem planB_in : ∀ (l : List It) (a : Pl) (n : Nat), a.In n → (planB l a n).In n
  | [], a, n, h => by simp only [planB]; exact h
  | i :: r, a, n, h => by
    simp only [planB]
    exact planB_in r _ n (seq_in h (planI_in i _) rfl)
theorem planO_in : ∀ (bs : List (List It)) (n : Nat), (planO bs n).In n
  | [], n => by simp only [planO]; exact no_in
  | b :: r, n => by simp only [planO]; exact planA_in r _ n (planB_in b .e0 n e0_in)
theorem planA_in : ∀ (bs : List (List It)) (a : Pl) (n : Nat), a.In n → (planA bs a n).In n
  | [], a, n, h => by simp only [planA]; exact h
  | b :: r, a, n, h => by
    simp only [planA]
    exact planA_in r _ n (alt_in h (planB_in b .e0 _ e0_in) rfl)
end
mutual
theorem planI_lg : ∀ (i : It) (n : Nat), Pla nm n (wrI i) → ∀ w, Lg nm (planI i n) w ↔ WI i w
  | .call x, n, h, w => by
    have hx : nm n = some x := by have := h 0 (by simp [wrI]); simpa [wrI] using this
    simp only [planI, WI]
    constructor
    · rintro (⟨rfl, he⟩ | ⟨q, hq, hat⟩)
      · cases he
      · cases hat with
        | first h1 h2 =>
          simp only [List.mem_singleton] at h1
          subst h1
          rw [hx] at h2
          cases h2
          rfl
        | next h1 h2 h3 => cases h2
    · rintro rfl
      exact .inr ⟨n, by simp, .first (by simp) hx⟩
  | .may b, n, h, w => by
    simp only [wrI] at h
    simp only [planI, WI, opt_lg]
    rw [planB_lg b .e0 n e0_in (by exact h)]
    constructor
    · rintro (h | ⟨u, v, rfl, h1, h2⟩)
      · exact .inl h
      · rw [e0_lg] at h1; subst h1; exact .inr h2
    · rintro (h | h)
      · exact .inl h
      · exact .inr ⟨[], w, rfl, e0_lg.mpr rfl, h⟩
  | .loop b, n, h, w => by
    simp only [wrI] at h
    simp only [planI, WI, turn_lg]
    have k : ∀ w, Lg nm (planB b .e0 n) w ↔ WB b w := fun w => by
      rw [planB_lg b .e0 n e0_in (by exact h)]
      exact ⟨fun ⟨u, v, e, h1, h2⟩ => by rw [e0_lg] at h1; subst h1; rw [e]; exact h2, fun h => ⟨[], w, rfl, e0_lg.mpr rfl, h⟩⟩
    exact ⟨Star.imp fun w => (k w).mp, Star.imp fun w => (k w).mpr⟩
  | .one bs, n, h, w => by
    simp only [wrI] at h
    simp only [planI, WI]
    exact planO_lg bs n h w
theorem planB_lg : ∀ (l : List It) (a : Pl) (n : Nat), a.In n → Pla nm n (a.nm ++ wrB l) → ∀ {w}, Lg nm (planB l a n) w ↔ ∃ u v, w = u ++ v ∧ Lg nm a u ∧ WB l v
  | [], a, n, hi, h, w => by
    simp only [planB, WB]
    exact ⟨fun h => ⟨w, [], by simp, h, rfl⟩, fun ⟨u, v, e, h1, h2⟩ => by subst h2; rw [e, List.append_nil]; exact h1⟩
  | i :: r, a, n, hi, h, w => by
    simp only [wrB] at h
    have ii := planI_in i (n + a.nm.length)
    have h1 : Pla nm (n + a.nm.length) (wrI i) := (Pla.right h).left
    have k := planI_lg i (n + a.nm.length) h1
    simp only [planB, WB]
    rw [planB_lg r _ n (seq_in hi ii rfl) (by simp only [Pl.seq, planI_nm i, List.append_assoc]; exact h)]
    constructor
    · rintro ⟨u, v, rfl, h1, h2⟩
      rw [seq_lg hi ii rfl] at h1
      obtain ⟨u1, v1, rfl, h3, h4⟩ := h1
      exact ⟨u1, v1 ++ v, by rw [List.append_assoc], h3, v1, v, rfl, (k v1).mp h4, h2⟩
    · rintro ⟨u, v, rfl, h1, u1, v1, rfl, h2, h3⟩
      exact ⟨u ++ u1, v1, by rw [List.append_assoc], (seq_lg hi ii rfl).mpr ⟨u, u1, rfl, h1, (k u1).mpr h2⟩, h3⟩
theorem planO_lg : ∀ (bs : List (List It)) (n : Nat), Pla nm n (wrBs bs) → ∀ w, Lg nm (planO bs n) w ↔ WBs bs w
  | [], n, h, w => by
    simp only [planO, WBs, iff_false]
    exact no_lg
  | b :: r, n, h, w => by
    simp only [wrBs] at h
    have k : ∀ w, Lg nm (planB b .e0 n) w ↔ WB b w := fun w => by
      rw [planB_lg b .e0 n e0_in (by exact h.left)]
      exact ⟨fun ⟨u, v, e, h1, h2⟩ => by rw [e0_lg] at h1; subst h1; rw [e]; exact h2, fun h => ⟨[], w, rfl, e0_lg.mpr rfl, h⟩⟩
    simp only [planO, WBs]
    rw [planA_lg r _ n (planB_in b .e0 n e0_in) (by rw [planB_nm b]; exact h), k]
theorem planA_lg : ∀ (bs : List (List It)) (a : Pl) (n : Nat), a.In n → Pla nm n (a.nm ++ wrBs bs) → ∀ {w}, Lg nm (planA bs a n) w ↔ Lg nm a w ∨ WBs bs w
  | [], a, n, hi, h, w => by simp [planA, WBs]
  | b :: r, a, n, hi, h, w => by
    simp only [wrBs] at h
    have h1 : Pla nm (n + a.nm.length) (wrB b) := (Pla.right h).left
    have k : ∀ w, Lg nm (planB b .e0 (n + a.nm.length)) w ↔ WB b w := fun w => by
      rw [planB_lg b .e0 _ e0_in (by exact h1)]
      exact ⟨fun ⟨u, v, e, h1, h2⟩ => by rw [e0_lg] at h1; subst h1; rw [e]; exact h2, fun h => ⟨[], w, rfl, e0_lg.mpr rfl, h⟩⟩
    have ii := planB_in b .e0 (n + a.nm.length) e0_in
    simp only [planA, WBs]
    rw [planA_lg r _ n (alt_in hi ii rfl) (by simp only [Pl.alt, planB_nm b, Pl.e0, List.nil_append, List.append_assoc]; exact h), alt_lg hi ii rfl, k, or_assoc]
end
end FA

set_option Elab.async false
set_option linter.all false
set_option maxRecDepth 100000
set_option maxHeartbeats 4000000
/-! Plans in the heap; two loops in one comprehension; how long plans are. -/
namespace FA
open PySem PySem.Spec PyProof.Rows L2
variable {K : PySem.W.Frag} {H H' : Hp}
def nts (l : List Nat) : List V := l.map fun (q : Nat) => V.int (q : Int)
theorem nts_len (l : List Nat) : (nts l).length = l.length := by simp [nts]
theorem nts_app (a b : List Nat) : nts (a ++ b) = nts a ++ nts b := by simp [nts]
theorem nts_get {l : List Nat} {j : Nat} {v : V} (h : (nts l)[j]? = some v) : ∃ q : Nat, l[j]? = some q ∧ v = .int (q : Int) := by
  unfold nts at h
  rw [List.getElem?_map] at h
  cases e : l[j]? with
  | none => rw [e] at h; cases h
  | some q => rw [e] at h; cases h; exact ⟨q, rfl, rfl⟩
/-- references to pairs of numbers -/
inductive PrsAt (H : Hp) : List V → List (Nat × Nat) → Prop where
  | nil : PrsAt H [] []
  | cons {t : Addr} {q : Nat × Nat} {vs : List V} {l : List (Nat × Nat)} : H t = some (.tup [.int (q.1 : Int), .int (q.2 : Int)]) → PrsAt H vs l → PrsAt H (.ref t :: vs) (q :: l)
theorem PrsAt.keep (k : ∀ t xs, H t = some (.tup xs) → H' t = some (.tup xs)) : ∀ {vs : List V} {l : List (Nat × Nat)}, PrsAt H vs l → PrsAt H' vs l
  | _, _, .nil => .nil
  | _, _, .cons h t => .cons (k _ _ h) (t.keep k)
theorem PrsAt.length : ∀ {vs : List V} {l : List (Nat × Nat)}, PrsAt H vs l → vs.length = l.length
  | _, _, .nil => rfl
  | _, _, .cons _ t => congrArg (· + 1) t.length
theorem PrsAt.app : ∀ {vs ws : List V} {l m : List (Nat × Nat)}, PrsAt H vs l → PrsAt H ws m → PrsAt H (vs ++ ws) (l ++ m)
  | _, _, _, _, .nil, k => k
  | _, _, _, _, .cons h t, k => .cons h (t.app k)
theorem PrsAt.get : ∀ {vs : List V} {l : List (Nat × Nat)} {i : Nat} {v : V}, PrsAt H vs l → vs[i]? = some v → ∃ t q, v = .ref t ∧ l[i]? = some q ∧ H t = some (.tup [.int (q.1 : Int), .int (q.2 : Int)])
  | _, _, 0, _, .cons h t, e => by cases e; exact ⟨_, _, rfl, rfl, h⟩
  | _, _, i + 1, _, .cons h t, e => t.get (i := i) e
/-- a plan in the heap -/
def PlAt (H : Hp) (t : Addr) (a : Pl) : Prop := ∃ (n f l p : Addr) (ws : List V), H t = some (.tup [.ref n, .ref f, .ref l, .ref p, .bl a.em]) ∧ H n = some (.lst (a.nm.map V.str)) ∧ H f = some (.lst (nts a.fs)) ∧ H l = some (.lst (nts a.ls)) ∧ H p = some (.lst ws) ∧ PrsAt H ws a.ps
theorem PlAt.keep (s : Same H H') {t : Addr} {a : Pl} (h : PlAt H t a) : PlAt H' t a :=
  let ⟨n, f, l, p, ws, h1, h2, h3, h4, h5, h6⟩ := h
  ⟨n, f, l, p, ws, s _ _ h1, s _ _ h2, s _ _ h3, s _ _ h4, s _ _ h5, h6.keep fun _ _ e => s _ _ e⟩
/-! ### how long -/
structure Pl.Sz (a : Pl) (D : Nat) : Prop where
  fs : a.fs.length ≤ a.nm.length
  ls : a.ls.length ≤ a.nm.length
  ps : a.ps.length ≤ D * (a.nm.length * a.nm.length)
theorem both_len : ∀ (l f : List Nat), (both l f).length = l.length * f.length
  | [], f => by simp [both]
  | x :: r, f => by
    have ih := both_len r f
    simp only [both, List.flatMap_cons, List.length_append, List.length_map, List.length_cons] at ih ⊢
    rw [ih, Nat.add_mul]
    omega
theorem Pl.Sz.mono {a : Pl} {D D' : Nat} (h : a.Sz D) (d : D ≤ D') : a.Sz D' := ⟨h.fs, h.ls, Nat.le_trans h.ps (Nat.mul_le_mul_right _ d)⟩
theorem sq_add (a b : Nat) : (a + b) * (a + b) = a * a + a * b + (a * b + b * b) := by
  rw [Nat.add_mul, Nat.mul_add, Nat.mul_add, Nat.mul_comm b a]
theorem seq_sz {a b : Pl} {D : Nat} (hD : 1 ≤ D) (ha : a.Sz D) (hb : b.Sz D) : (a.seq b).Sz D := by
  have a1 := ha.fs
  have a2 := ha.ls
  have b1 := hb.fs
  have b2 := hb.ls
  refine ⟨?_, ?_, ?_⟩
  · simp only [Pl.seq, List.length_append]
    split
    · rw [List.length_append]; omega
    · omega
  · simp only [Pl.seq, List.length_append]
    split
    · rw [List.length_append]; omega
    · omega
  · simp only [Pl.seq, List.length_append, both_len]
    have a3 := ha.ps
    have b3 := hb.ps
    have c1 : a.ls.length * b.fs.length ≤ a.nm.length * b.nm.length := Nat.mul_le_mul a2 b1
    have c2 : a.nm.length * b.nm.length ≤ D * (a.nm.length * b.nm.length) := Nat.le_mul_of_pos_left _ hD
    rw [sq_add, Nat.mul_add, Nat.mul_add, Nat.mul_add]
    omega
theorem alt_sz {a b : Pl} {D : Nat} (ha : a.Sz D) (hb : b.Sz D) : (a.alt b).Sz D := by
  have a1 := ha.fs
  have a2 := ha.ls
  have b1 := hb.fs
  have b2 := hb.ls
  refine ⟨?_, ?_, ?_⟩
  · simp only [Pl.alt, List.length_append]; omega
  · simp only [Pl.alt, List.length_append]; omega
  · simp only [Pl.alt, List.length_append]
    have a3 := ha.ps
    have b3 := hb.ps
    rw [sq_add, Nat.mul_add, Nat.mul_add, Nat.mul_add]
    omega
theorem turn_sz {a : Pl} {D : Nat} (ha : a.Sz D) : a.turn.Sz (D + 1) := by
  refine ⟨ha.fs, ha.ls, ?_⟩
  simp only [Pl.turn, List.length_append, both_len]
  have a3 := ha.ps
  have c := Nat.mul_le_mul ha.ls ha.fs
  rw [Nat.add_mul, Nat.one_mul]
  omega
theorem e0_sz {D : Nat} : Pl.e0.Sz D := ⟨Nat.le_refl _, Nat.le_refl _, Nat.zero_le _⟩
mutual
theorem planI_sz : ∀ (i : It) (n : Nat), (planI i n).Sz (dI i + 1)
  | .call x, n => by
    simp only [planI]
    exact ⟨Nat.le_refl _, Nat.le_refl _, Nat.zero_le _⟩
  | .may b, n => by
    have h := (planB_sz b .e0 n (dB b) e0_sz (Nat.le_refl _)).mono (Nat.le_succ _)
    simp only [planI, dI]
    exact ⟨h.fs, h.ls, h.ps⟩
  | .loop b, n => by
    simp only [planI, dI]
    exact turn_sz (planB_sz b .e0 n (dB b) e0_sz (Nat.le_refl _))
  | .one bs, n => by
    simp only [planI, dI]
    exact (planO_sz bs n (dBs bs) (Nat.le_refl _)).mono (Nat.le_succ _)
theorem planB_sz : ∀ (l : List It) (a : Pl) (n : Nat) (D : Nat), a.Sz D → dB l ≤ D → (planB l a n).Sz D
  | [], a, n, D, h, d => by simp only [planB]; exact h
  | i :: r, a, n, D, h, d => by
    simp only [dB] at d
    simp only [planB]
    exact planB_sz r _ n D (seq_sz (by omega) h ((planI_sz i _).mono (by omega))) (by omega)
theorem planO_sz : ∀ (bs : List (List It)) (n : Nat) (D : Nat), dBs bs ≤ D → (planO bs n).Sz D
  | [], n, D, d => by simp only [planO]; exact ⟨Nat.le_refl _, Nat.le_refl _, Nat.zero_le _⟩
  | b :: r, n, D, d => by
    simp only [dBs] at d
    simp only [planO]
    exact planA_sz r _ n D (planB_sz b .e0 n D e0_sz (by omega)) (by omega)
theorem planA_sz : ∀ (bs : List (List It)) (a : Pl) (n : Nat) (D : Nat), a.Sz D → dBs bs ≤ D → (planA bs a n).Sz D
  | [], a, n, D, h, d => by simp only [planA]; exact h
  | b :: r, a, n, D, h, d => by
    simp only [dBs] at d
    simp only [planA]
    exact planA_sz r _ n D (alt_sz h (planB_sz b .e0 _ D e0_sz (by omega))) (by omega)
end
/-- a plan is small: no list of it is longer than 500 -/
structure Pl.Few (a : Pl) : Prop where
  nm : a.nm.length ≤ 8
  fs : a.fs.length ≤ 8
  ls : a.ls.length ≤ 8
  ps : a.ps.length ≤ 400
theorem Pl.Sz.few {a : Pl} {D : Nat} (h : a.Sz D) (d : D ≤ 6) (n : a.nm.length ≤ 8) : a.Few := by
  refine ⟨n, Nat.le_trans h.fs n, Nat.le_trans h.ls n, Nat.le_trans h.ps ?_⟩
  exact Nat.le_trans (Nat.mul_le_mul d (Nat.mul_le_mul n n)) (by decide)
/-- [(a, b) for a in l for b in f] -/
theorem lc2S {l f : List Nat} {te : TE} {i1 i2 : Nat} {σ : L2.St} {H1 : Hp} {A B D : Addr} {wi1 : TI} {Qd : Hp → Prop} (hA : H1 A = some (.lst (nts l))) (hl : l.length ≤ 8) (hf : f.length ≤ 8) (hD : H1 D = none) (ne : i1 ≠ i2) (h1 : i1 < σ.length) (h2 : i2 < σ.length)
    (walk : ∀ (σ' : L2.St) (H : Hp) (q : Nat) (Q : L2.It → Hp → Prop), Same H1 H → σ' = (wipe σ [i1, i2]).set i1 (some (.int (q : Int))) → Q (Itl K B) H → wi1 σ' H Q) (hB : H1 B = some (.lst (nts f)))
    (el : ∀ (σ' : L2.St) (H : Hp) (p q : Nat) (Q : VK), σ'[i1]? = some (some (.int (p : Int))) → σ'[i2]? = some (some (.int (q : Int))) → (∀ t, H t = none → Q (.ref t) (upd H t (.tup [.int (p : Int), .int (q : Int)]))) → te σ' H Q)
    (fin : ∀ H ws, Same H1 H → H D = some (.lst ws) → PrsAt H ws (both l f) → Qd H) :
    ∃ W : Nat → Nat → Hp → Prop, (∃ m, W 0 m (upd H1 D (.lst []))) ∧ ∀ i m H, W i m H → ((Itl K A).stop i H ∧ Qd H) ∨ ((Itl K A).go i H ∧ ∃ Nx : Hp → Prop, (∀ H', Nx H' → ∃ m', m' < m ∧ W (i + 1) m' H') ∧ ∀ x H', (Itl K A).yld i H x H' → gName i1 x (wipe σ [i1, i2]) H' fun σ2 H2 => wipe σ2 [i1, i2] = wipe σ [i1, i2] ∧ tYes σ2 H2 fun b H3 => if b = true then wi1 σ2 H3 fun J1 H4 => ∃ W1 : Nat → Nat → Hp → Prop, (∃ m, W1 0 m H4) ∧ ∀ j k H, W1 j k H → (J1.stop j H ∧ Nx H) ∨ (J1.go j H ∧ ∃ Nx1 : Hp → Prop, (∀ H', Nx1 H' → ∃ k', k' < k ∧ W1 (j + 1) k' H') ∧ ∀ x H', J1.yld j H x H' → gName i2 x (wipe σ2 [i2]) H' fun σ3 H5 => wipe σ3 [i2] = wipe σ2 [i2] ∧ tYes σ3 H5 fun b H6 => if b = true then te σ3 H6 fun y H7 => ∃ acc, H7 D = some (.lst acc) ∧ acc.length < sizeLine ∧ Nx1 (upd H7 D (.lst (acc ++ [y]))) else Nx1 H6) else Nx H3) := by
  have tk : ∀ (o : HO) (H : Hp) (ws : List V), H D = some (.lst ws) → ∀ a xs, H a = some (.tup xs) → (upd H D o) a = some (.tup xs) := fun o H ws hy a xs e => by
    rw [upd_ne]
    · exact e
    · rintro rfl
      rw [hy] at e
      cases e
  have lw : (wipe σ [i1, i2]).length = σ.length := by rw [wipe_length]
  refine ⟨fun i m H => i ≤ l.length ∧ m = l.length - i ∧ Same H1 H ∧ ∃ ws, H D = some (.lst ws) ∧ PrsAt H ws (both (l.take i) f), ⟨_, Nat.zero_le _, rfl, fun b o e => by rw [upd_ne (ne_of_none e hD)]; exact e, [], upd_same, ?_⟩, ?_⟩
  · rw [List.take_zero]; exact .nil
  rintro i m H ⟨hi, rfl, sm, ws, hws, hp⟩
  by_cases hlt : i < l.length
  · have hlt2 : i < (nts l).length := by rw [nts_len]; exact hlt
    refine .inr ⟨go_l (SqL.of hA) i H sm hlt2, fun H' => i + 1 ≤ l.length ∧ Same H1 H' ∧ ∃ ws, H' D = some (.lst ws) ∧ PrsAt H' ws (both (l.take (i + 1)) f), fun H' h => ⟨l.length - (i + 1), by omega, h.1, rfl, h.2⟩, fun x H' y => ?_⟩
    obtain ⟨rfl, hx⟩ := yld_l (SqL.of hA) i H x H' sm hlt2 y
    obtain ⟨p, e1, rfl⟩ := nts_get hx
    have tk1 : both (l.take (i + 1)) f = both (l.take i) f ++ f.map fun b => (p, b) := by
      rw [List.take_add_one, e1]
      simp [both]
    refine ⟨?_, ?_⟩
    · show ((((((σ.set i2 none).set i1 none)).set i1 (some (.int (p : Int)))).set i2 none)).set i1 none = (σ.set i2 none).set i1 none
      rw [List.set_set, List.set_comm _ _ ne, List.set_set, List.set_set]
    · refine yesT ?_
      rw [if_pos rfl]
      refine walk _ _ p _ sm rfl ?_
      refine ⟨fun j k H => j ≤ f.length ∧ k = f.length - j ∧ Same H1 H ∧ ∃ ws, H D = some (.lst ws) ∧ PrsAt H ws (both (l.take i) f ++ (f.take j).map fun b => (p, b)), ⟨_, Nat.zero_le _, rfl, sm, ws, hws, ?_⟩, ?_⟩
      · rw [List.take_zero, List.map_nil, List.append_nil]; exact hp
      rintro j k H2 ⟨hj, rfl, s2, ws2, hws2, hp2⟩
      by_cases hjl : j < f.length
      · have hjl2 : j < (nts f).length := by rw [nts_len]; exact hjl
        refine .inr ⟨go_l (SqL.of hB) j H2 s2 hjl2, fun H' => j + 1 ≤ f.length ∧ Same H1 H' ∧ ∃ ws, H' D = some (.lst ws) ∧ PrsAt H' ws (both (l.take i) f ++ (f.take (j + 1)).map fun b => (p, b)), fun H' h => ⟨f.length - (j + 1), by omega, h.1, rfl, h.2⟩, fun x H' y => ?_⟩
        obtain ⟨rfl, hx2⟩ := yld_l (SqL.of hB) j H2 x H' s2 hjl2 y
        obtain ⟨q, e2, rfl⟩ := nts_get hx2
        refine ⟨?_, ?_⟩
        · show ((((wipe σ [i1, i2]).set i1 (some (.int (p : Int)))).set i2 none).set i2 (some (.int (q : Int)))).set i2 none = ((wipe σ [i1, i2]).set i1 (some (.int (p : Int)))).set i2 none
          rw [List.set_set, List.set_set]
        · refine yesT ?_
          rw [if_pos rfl]
          refine el _ _ p q _ ?_ ?_ fun t ht => ?_
          · show ((((wipe σ [i1, i2]).set i1 (some (.int (p : Int)))).set i2 none).set i2 (some (.int (q : Int))))[i1]? = _
            rw [List.set_set, List.getElem?_set_ne (Ne.symm ne), List.getElem?_set_self (by rw [lw]; exact h1)]
          · show ((((wipe σ [i1, i2]).set i1 (some (.int (p : Int)))).set i2 none).set i2 (some (.int (q : Int))))[i2]? = _
            rw [List.set_set, List.getElem?_set_self (by rw [List.length_set, lw]; exact h2)]
          · have htD : D ≠ t := ne_of_none hws2 ht
            have s3 := same_upd0 ht (.tup [.int (p : Int), .int (q : Int)])
            have pl := hp2.length
            have b1 : (both (l.take i) f).length ≤ 64 := by
              rw [both_len, List.length_take]
              exact Nat.le_trans (Nat.mul_le_mul (Nat.le_trans (Nat.min_le_right _ _) hl) hf) (by decide)
            have b2 : ((f.take j).map fun b => (p, b)).length ≤ 8 := by rw [List.length_map, List.length_take]; omega
            rw [List.length_append] at pl
            refine ⟨ws2, s3 _ _ hws2, small1000 (by omega), by omega, fun b o e => ?_, ws2 ++ [.ref t], upd_same, ?_⟩
            · rw [upd_ne (ne_of_none e hD)]; exact s3 _ _ (s2 _ _ e)
            · have e3 : (f.take (j + 1)).map (fun b => (p, b)) = (f.take j).map (fun b => (p, b)) ++ [(p, q)] := by
                rw [List.take_add_one, e2]
                simp
              rw [e3, ← List.append_assoc]
              refine PrsAt.app ((hp2.keep fun a xs e => s3 _ _ e).keep (tk _ _ _ (s3 _ _ hws2))) (.cons ?_ .nil)
              exact tk _ _ _ (s3 _ _ hws2) _ _ upd_same
      · have : j = f.length := by omega
        subst this
        refine .inl ⟨by have := stop_l (SqL.of (K := K) hB) H2 s2; rw [nts_len] at this; exact this, hlt, s2, ws2, hws2, ?_⟩
        rw [List.take_length] at hp2
        rw [tk1]
        exact hp2
  · have : i = l.length := by omega
    subst this
    refine .inl ⟨by have := stop_l (SqL.of (K := K) hA) H sm; rw [nts_len] at this; exact this, fin H ws sm hws ?_⟩
    rw [List.take_length] at hp
    exact hp
section
variable {X : Cx} {w : World} {l tg : Expr} {tl : TE}
theorem pi_listK (hK : X.K = K) (h : PE X l tl) : PI X tg l (iList K tl) := by subst hK; exact pi_list h
theorem op_in_seqK (hK : X.K = K) : OpR X (compareOp .In) (rIn K false) := by subst hK; exact op_in_seq
theorem cr_sortedSetK (hw : X.w = w) (hc : X.calm = true) : CallR X (.builtin "sorted") (rSortedSet w) := by subst hw; exact cr_sortedSet hc
theorem pe_siK {elt tg iter : Expr} {ifs : List Expr} {scope : Scope} {own : List (Str × Nat)} {pos : Pos} {wi : TI} {g : TG} {tt : TT} {te : TE} (hw : X.w = w) (hc : X.calm = true) (nd : X.N.Nodup) (hi : PI X tg iter wi) (ok : BlkOk X.N X.env.scope scope own)
    (hg : ∀ (s : Shared) (H : Hp) (C : Addr) (cl : List (Str × Addr)) (fp : List Addr), PG (X.blk s H scope (compEnvC scope cl C X.env) fp) tg g) (ht : ∀ (s : Shared) (H : Hp) (C : Addr) (cl : List (Str × Addr)) (fp : List Addr), PTs (X.blk s H scope (compEnvC scope cl C X.env) fp) ifs tt)
    (he : ∀ (s : Shared) (H : Hp) (C : Addr) (cl : List (Str × Addr)) (fp : List Addr), PE (X.blk s H scope (compEnvC scope cl C X.env) fp) elt te) (fold : ∀ x, foldedSetIterable iter X.env x = pure x := by intro _; rfl) :
    PE X (.SetComp elt [⟨tg, iter, ifs, 0⟩] scope pos) (tSi w wi g tt te (own.map (·.2))) := by subst hw; exact pe_si hc nd hi ok hg ht he fold
end
mutual
theorem wrI_len : ∀ i : It, (wrI i).length = nC i
  | .call x => by simp [wrI, nC]
  | .may b => by simp only [wrI, nC, wrB_len b]
  | .loop b => by simp only [wrI, nC, wrB_len b]
  | .one bs => by simp only [wrI, nC, wrBs_len bs]
theorem wrB_len : ∀ b : List It, (wrB b).length = nCB b
  | [] => by simp [wrB, nCB]
  | i :: r => by simp only [wrB, nCB, List.length_append, wrI_len i, wrB_len r]
theorem wrBs_len : ∀ bs : List (List It), (wrBs bs).length = nCBs bs
  | [] => by simp [wrBs, nCBs]
  | b :: r => by simp only [wrBs, nCBs, List.length_append, wrB_len b, wrBs_len r]
end
theorem planB_app : ∀ (l m : List It) (a : Pl) (n : Nat), planB (l ++ m) a n = planB m (planB l a n) n
  | [], m, a, n => by simp only [List.nil_append, planB]
  | i :: r, m, a, n => by simp only [List.cons_append, planB, planB_app r m]
theorem planB_take {l : List It} {j : Nat} {i : It} (h : l[j]? = some i) (a : Pl) (n : Nat) : planB (l.take (j + 1)) a n = (planB (l.take j) a n).seq (planI i (n + (planB (l.take j) a n).nm.length)) := by
  rw [List.take_add_one, h, planB_app]
  simp only [Option.toList_some, planB]
theorem planA_app : ∀ (l m : List (List It)) (a : Pl) (n : Nat), planA (l ++ m) a n = planA m (planA l a n) n
  | [], m, a, n => by simp only [List.nil_append, planA]
  | i :: r, m, a, n => by simp only [List.cons_append, planA, planA_app r m]
theorem planA_take {l : List (List It)} {j : Nat} {b : List It} (h : l[j]? = some b) (a : Pl) (n : Nat) : planA (l.take (j + 1)) a n = (planA (l.take j) a n).alt (planB b .e0 (n + (planA (l.take j) a n).nm.length)) := by
  rw [List.take_add_one, h, planA_app]
  simp only [Option.toList_some, planA]
theorem dBs_take : ∀ (l : List (List It)) (k : Nat), dBs (l.take k) ≤ dBs l
  | [], k => by simp
  | b :: r, 0 => by simp [dBs]
  | b :: r, k + 1 => by
    have := dBs_take r k
    simp only [List.take_succ_cons, dBs]
    omega
theorem nCBs_take : ∀ (l : List (List It)) (k : Nat), nCBs (l.take k) ≤ nCBs l
  | [], k => by simp
  | b :: r, 0 => by simp [nCBs]
  | b :: r, k + 1 => by
    have := nCBs_take r k
    simp only [List.take_succ_cons, nCBs]
    omega
theorem planB_few {l : List It} {n D : Nat} (d : dB l ≤ D) (hD : D ≤ 6) (c : nCB l ≤ 8) : (planB l .e0 n).Few :=
  (planB_sz l .e0 n D e0_sz d).few hD (by rw [planB_nm, List.length_append, wrB_len]; simp only [Pl.e0, List.length_nil]; omega)
theorem planI_few {i : It} {n D : Nat} (d : dI i + 1 ≤ D) (hD : D ≤ 6) (c : nC i ≤ 8) : (planI i n).Few :=
  ((planI_sz i n).mono d).few hD (by rw [planI_nm, wrI_len]; omega)
theorem planO_few {bs : List (List It)} {n D : Nat} (d : dBs bs ≤ D) (hD : D ≤ 6) (c : nCBs bs ≤ 8) : (planO bs n).Few :=
  (planO_sz bs n D d).few hD (by rw [planO_nm, wrBs_len]; omega)
/-- an item that is no call is its bodies' plan, and more -/
theorem planI_bodies : ∀ (i : It) (n : Nat), (∀ x, i ≠ .call x) → planI i n = match i with | .may _ => (planO (bodies i) n).opt | .loop _ => (planO (bodies i) n).turn | _ => planO (bodies i) n
  | .call x, n, h => absurd rfl (h x)
  | .may b, n, _ => by simp only [planI, bodies, planO, planA]
  | .loop b, n, _ => by simp only [planI, bodies, planO, planA]
  | .one bs, n, _ => by simp only [planI, bodies]
end FA

set_option Elab.async false
set_option linter.all false
set_option maxRecDepth 100000
set_option maxHeartbeats 4000000
/-! Sets of small numbers while a comprehension makes them; sorted of them. -/
namespace FA
open PySem PySem.Spec PyProof.Rows L2
theorem nodup_len : ∀ {l m : List Nat}, l.Nodup → (∀ x ∈ l, x ∈ m) → l.length ≤ m.length
  | [], _, _, _ => Nat.zero_le _
  | x :: r, m, nd, h => by
    obtain ⟨nx, nr⟩ := List.nodup_cons.mp nd
    have hx := h x (by simp)
    have ih := nodup_len (l := r) (m := m.erase x) nr fun y hy => (List.mem_erase_of_ne (by rintro rfl; exact nx hy)).mpr (h y (List.mem_cons_of_mem _ hy))
    rw [List.length_erase_of_mem hx] at ih
    have := List.length_pos_of_mem hx
    simp only [List.length_cons]
    omega
variable {w : World} {K : PySem.W.Frag}
/-- D is the set of the numbers that C tells, all of them less than 60 -/
def Mk (w : World) (H : Hp) (D : Addr) (C : Nat → Prop) : Prop := ∃ (S : Int → Bool) (n : Nat) (ks : List Nat), H D = some (SetO w D S n) ∧ ks.Nodup ∧ ks.length = n ∧ (∀ k : Int, S k = true ↔ ∃ q ∈ ks, k = (q : Int)) ∧ (∀ q, q ∈ ks ↔ C q) ∧ ∀ q ∈ ks, q < 60
theorem Mk.new {H : Hp} {D : Addr} : Mk w (upd H D (SetO w D (fun _ => false) 0)) D (fun _ => False) :=
  ⟨_, _, [], upd_same, List.nodup_nil, rfl, fun k => by simp, fun q => by simp, fun q h => by cases h⟩
theorem Mk.iff {H : Hp} {D : Addr} {C C' : Nat → Prop} (h : Mk w H D C) (e : ∀ q, C q ↔ C' q) : Mk w H D C' :=
  let ⟨S, n, ks, h1, h2, h3, h4, h5, h6⟩ := h
  ⟨S, n, ks, h1, h2, h3, h4, fun q => (h5 q).trans (e q), h6⟩
theorem Mk.few {ks : List Nat} (nd : ks.Nodup) (h : ∀ q ∈ ks, q < 60) : ks.length ≤ 60 := by
  have := nodup_len nd (m := List.range 60) fun q hq => List.mem_range.mpr (h q hq)
  rw [List.length_range] at this
  exact this
theorem mk_add {H : Hp} {D : Addr} {C : Nat → Prop} {S : Int → Bool} {n : Nat} {ks : List Nat} {q0 : Nat} (nd : ks.Nodup) (hl : ks.length = n) (h4 : ∀ k : Int, S k = true ↔ ∃ q ∈ ks, k = (q : Int)) (h5 : ∀ q, q ∈ ks ↔ C q) (h6 : ∀ q ∈ ks, q < 60) (hq : q0 < 60) :
    Mk w (upd H D (SetO w D (fun j => S j || decide (j = (q0 : Int))) (if S (q0 : Int) = true then n else n + 1))) D (fun q => C q ∨ q = q0) := by
  by_cases hs : S (q0 : Int) = true
  · obtain ⟨q1, m1, e1⟩ := (h4 _).mp hs
    have e2 : q0 = q1 := by omega
    subst e2
    refine ⟨_, _, ks, upd_same, nd, by rw [if_pos hs]; exact hl, fun k => ?_, fun q => ?_, h6⟩
    · rw [Bool.or_eq_true, decide_eq_true_eq, h4]
      exact ⟨fun h => h.elim id fun e => ⟨q0, m1, e⟩, .inl⟩
    · rw [h5]
      exact ⟨.inl, fun h => h.elim id fun e => by rw [e]; exact (h5 _).mp m1⟩
  · have nq : q0 ∉ ks := fun z => hs ((h4 _).mpr ⟨q0, z, rfl⟩)
    refine ⟨_, _, q0 :: ks, upd_same, List.nodup_cons.mpr ⟨nq, nd⟩, by rw [if_neg hs, List.length_cons, hl], fun k => ?_, fun q => ?_, fun q h => ?_⟩
    · rw [Bool.or_eq_true, decide_eq_true_eq, h4]
      constructor
      · rintro (⟨q, m, e⟩ | e)
        · exact ⟨q, List.mem_cons_of_mem _ m, e⟩
        · exact ⟨q0, by simp, e⟩
      · rintro ⟨q, m, e⟩
        rcases List.mem_cons.mp m with rfl | m
        · exact .inr e
        · exact .inl ⟨q, m, e⟩
    · rw [List.mem_cons, h5]
      exact ⟨fun h => h.elim .inr .inl, fun h => h.elim .inr .inl⟩
    · rcases List.mem_cons.mp h with rfl | h
      · exact hq
      · exact h6 q h
/-- a loop that puts numbers into the set D -/
theorem siL {J : L2.It} {n : Nat} {g : TG} {tt : TT} {te : TE} {τ : L2.St} {vs : List Nat} {over : Hp → Prop} {H1 H0 : Hp} {D : Addr} {C0 : Nat → Prop} (hD : H1 D = none) (s0 : Same H1 H0) (h0 : Mk w H0 D C0) (Y : Nat → V → Prop) (val : Nat → Option Nat)
    (go : ∀ i H, Same H1 H → i < n → J.go i H) (stop : ∀ H, Same H1 H → J.stop n H) (yld : ∀ i H x H', Same H1 H → i < n → J.yld i H x H' → H' = H ∧ Y i x) (small : ∀ i q, i < n → val i = some q → q < 60)
    (step : ∀ i x H (body : Bool → L2.St → Hp → Prop), i < n → Y i x → Same H1 H → (∀ σ2, (val i = none → body false σ2 H) ∧ ∀ q : Nat, val i = some q → (∀ Q : VK, Q (.int (q : Int)) H → te σ2 H Q) → body true σ2 H) → g x τ H fun σ2 H2 => wipe σ2 vs = wipe τ vs ∧ tt σ2 H2 fun b H3 => body b σ2 H3)
    (fin : ∀ H, Same H1 H → Mk w H D (fun q => C0 q ∨ ∃ j, j < n ∧ val j = some q) → over H) :
    ∃ W : Nat → Nat → Hp → Prop, (∃ m, W 0 m H0) ∧ Loops J g tt τ vs over (fun b σ2 H3 N => if b = true then adding w D te σ2 H3 N else N H3) W := by
  refine ⟨fun i m H => i ≤ n ∧ m = n - i ∧ Same H1 H ∧ Mk w H D (fun q => C0 q ∨ ∃ j, j < i ∧ val j = some q), ⟨_, Nat.zero_le _, rfl, s0, h0.iff fun q => ⟨.inl, fun h => h.elim id fun ⟨j, z, _⟩ => absurd z (by omega)⟩⟩, ?_⟩
  rintro i m H ⟨hi, rfl, sm, mk⟩
  by_cases hlt : i < n
  · refine .inr ⟨go i H sm hlt, fun H' => i + 1 ≤ n ∧ Same H1 H' ∧ Mk w H' D (fun q => C0 q ∨ ∃ j, j < i + 1 ∧ val j = some q), fun H' h => ⟨n - (i + 1), by omega, h.1, rfl, h.2⟩, fun x H' y => ?_⟩
    obtain ⟨rfl, hY⟩ := yld i H x H' sm hlt y
    refine step i x H' (fun b σ2 H3 => if b = true then adding w D te σ2 H3 (fun H' => i + 1 ≤ n ∧ Same H1 H' ∧ Mk w H' D (fun q => C0 q ∨ ∃ j, j < i + 1 ∧ val j = some q)) else (i + 1 ≤ n ∧ Same H1 H3 ∧ Mk w H3 D (fun q => C0 q ∨ ∃ j, j < i + 1 ∧ val j = some q))) hlt hY sm fun σ2 => ⟨fun hv => ?_, fun q hv he => ?_⟩
    · rw [if_neg (by decide)]
      refine ⟨hlt, sm, mk.iff fun q => ⟨fun h => h.imp id fun ⟨j, z, e⟩ => ⟨j, by omega, e⟩, fun h => h.imp id fun ⟨j, z, e⟩ => ⟨j, ?_, e⟩⟩⟩
      by_cases hj : j = i
      · subst hj; rw [hv] at e; cases e
      · omega
    · rw [if_pos rfl]
      obtain ⟨S, c, ks, k1, k2, k3, k4, k5, k6⟩ := mk
      have fw := Mk.few k2 k6
      have sb : c + 1 < scanBound := Nat.lt_of_lt_of_le (by omega : c + 1 < 1002) (by decide)
      refine he _ ⟨_, S, c, rfl, k1, sb, hlt, fun b o e => ?_, (mk_add k2 k3 k4 k5 k6 (small i q hlt hv)).iff fun q' => ?_⟩
      · rw [upd_ne (ne_of_none e hD)]; exact sm _ _ e
      · constructor
        · rintro ((h | ⟨j, z, e⟩) | rfl)
          · exact .inl h
          · exact .inr ⟨j, by omega, e⟩
          · exact .inr ⟨i, by omega, hv⟩
        · rintro (h | ⟨j, z, e⟩)
          · exact .inl (.inl h)
          · by_cases hj : j = i
            · subst hj; rw [hv] at e; cases e; exact .inr rfl
            · exact .inl (.inr ⟨j, by omega, e⟩)
  · have : i = n := by omega
    subst this
    exact .inl ⟨stop H sm, fin H sm mk⟩
theorem sorted_mk {H : Hp} {D : Addr} {C : Nat → Prop} {Q : VK} (h : Mk w H D C) (q : ∀ qs p, qs.length ≤ 60 → (∀ k, k ∈ qs ↔ C k) → H p = none → Q (.ref p) (upd H p (.lst (nts qs)))) : rSortedSet w [.ref D] H Q := by
  obtain ⟨S, n, ks, h1, h2, h3, h4, h5, h6⟩ := h
  have fw := Mk.few h2 h6
  refine ⟨D, S, n, rfl, h1, by omega, fun ns p pw hm hl hp => ?_⟩
  have hn : ∀ k ∈ ns, ∃ t : Nat, t ∈ ks ∧ k = (t : Int) := fun k hk => by
    obtain ⟨t, m, e⟩ := (h4 k).mp ((hm k).mp hk)
    exact ⟨t, m, e⟩
  have e : ns.map V.int = nts (ns.map Int.toNat) := by
    unfold nts
    rw [List.map_map]
    refine List.map_congr_left fun k hk => ?_
    obtain ⟨t, m, e⟩ := hn k hk
    rw [e]
    rfl
  rw [e]
  refine q _ p (by rw [List.length_map]; omega) (fun k => ?_) hp
  rw [← h5, List.mem_map]
  constructor
  · rintro ⟨a, ha, rfl⟩
    obtain ⟨t, m, e⟩ := hn a ha
    rw [e]
    exact m
  · intro hk
    exact ⟨(k : Int), (hm _).mpr ((h4 _).mpr ⟨k, hk, rfl⟩), rfl⟩
/-- a list comprehension whose element changes nothing that was there: G tells the j-th item, by the tuples that stand -/
theorem lcS2 {J : L2.It} {n : Nat} {g : TG} {te : TE} {vs : List Nat} {σ : L2.St} {H1 : Hp} {D : Addr} {Qd : Hp → Prop} (hD : H1 D = none) (hn : n < sizeLine) (Y : Nat → V → Prop) (G : Nat → V → Hp → Prop)
    (go : ∀ i H, Same H1 H → i < n → J.go i H) (stop : ∀ H, Same H1 H → J.stop n H) (yld : ∀ i H x H', Same H1 H → i < n → J.yld i H x H' → H' = H ∧ Y i x)
    (mono : ∀ j v A B, (∀ a o, a ≠ D → A a = some o → B a = some o) → G j v A → G j v B)
    (step : ∀ i x H (R : VK), i < n → Y i x → Same H1 H → (∃ ys, H D = some (.lst ys)) → (∀ y H', Same H H' → G i y H' → R y H') → g x (wipe σ vs) H fun σ2 H2 => wipe σ2 vs = wipe σ vs ∧ te σ2 H2 R)
    (fin : ∀ H ys, Same H1 H → H D = some (.lst ys) → ys.length = n → (∀ j y, ys[j]? = some y → G j y H) → Qd H) :
    ∃ W : Nat → Nat → Hp → Prop, (∃ m, W 0 m (upd H1 D (.lst []))) ∧ ∀ i m H, W i m H →
      (J.stop i H ∧ Qd H) ∨ (J.go i H ∧ ∃ Nx : Hp → Prop, (∀ H', Nx H' → ∃ m', m' < m ∧ W (i + 1) m' H') ∧ ∀ x H', J.yld i H x H' → g x (wipe σ vs) H' fun σ2 H2 => wipe σ2 vs = wipe σ vs ∧ tYes σ2 H2 fun b H3 =>
        if b = true then te σ2 H3 fun y H4 => ∃ acc, H4 D = some (.lst acc) ∧ acc.length < sizeLine ∧ Nx (upd H4 D (.lst (acc ++ [y]))) else Nx H3) := by
  refine ⟨fun i m H => m = n - i ∧ i ≤ n ∧ Same H1 H ∧ ∃ ys, H D = some (.lst ys) ∧ ys.length = i ∧ ∀ j y, ys[j]? = some y → G j y H, ⟨n, by simp, Nat.zero_le _, fun b o e => ?_, [], upd_same, rfl, by simp⟩, ?_⟩
  · rw [upd_ne (ne_of_none e hD)]; exact e
  · rintro i m H ⟨rfl, hi, sm, ys, hy, hl, hG⟩
    by_cases hlt : i < n
    · refine .inr ⟨go i H sm hlt, fun H' => i + 1 ≤ n ∧ Same H1 H' ∧ ∃ ys, H' D = some (.lst ys) ∧ ys.length = i + 1 ∧ ∀ j y, ys[j]? = some y → G j y H', fun H' h => ⟨n - (i + 1), by omega, rfl, h⟩, fun x H' y => ?_⟩
      obtain ⟨rfl, hY⟩ := yld i H x H' sm hlt y
      have st := step i x H' (fun y H4 => ∃ acc, H4 D = some (.lst acc) ∧ acc.length < sizeLine ∧ (i + 1 ≤ n ∧ Same H1 (upd H4 D (.lst (acc ++ [y]))) ∧ ∃ ys, (upd H4 D (.lst (acc ++ [y]))) D = some (.lst ys) ∧ ys.length = i + 1 ∧ ∀ j y', ys[j]? = some y' → G j y' (upd H4 D (.lst (acc ++ [y]))))) hlt hY sm ⟨_, hy⟩ fun v H4 s4 g4 => ?_
      · exact st
      · have tk : ∀ (o : HO) (A : Hp), ∀ a o', a ≠ D → A a = some o' → (upd A D o) a = some o' := fun o A a o' n e => by rw [upd_ne n]; exact e
        refine ⟨ys, s4 _ _ hy, by omega, hlt, fun b o e => ?_, ys ++ [v], upd_same, by simp [hl], fun j y' hj => ?_⟩
        · rw [upd_ne (ne_of_none e hD)]; exact s4 _ _ (sm _ _ e)
        · by_cases hj2 : j < ys.length
          · rw [List.getElem?_append_left hj2] at hj
            exact mono j y' _ _ (tk _ _) (mono j y' _ _ (fun a o _ e => s4 _ _ e) (hG j y' hj))
          · rw [List.getElem?_append_right (by omega)] at hj
            have e0 : j - ys.length = 0 := by
              rcases Nat.eq_zero_or_pos (j - ys.length) with z | z
              · exact z
              · rw [List.getElem?_eq_none (by simp; omega)] at hj; cases hj
            rw [e0] at hj
            cases hj
            have : j = i := by omega
            subst this
            exact mono _ _ _ _ (tk _ _) g4
    · have : i = n := by omega
      subst this
      exact .inl ⟨stop H sm, fin H ys sm hy hl hG⟩
/-- two loops that put numbers into the set D -/
theorem si2S {J : L2.It} {n : Nat} {wi1 : TI} {g g1 : TG} {tt tt1 : TT} {te : TE} {σ : L2.St} {vs vs1 : List Nat} {H1 : Hp} {D : Addr} {Qd : Hp → Prop} (hD : H1 D = none) (Y : Nat → V → Prop) (C : Nat → Nat → Prop)
    (go : ∀ i H, Same H1 H → i < n → J.go i H) (stop : ∀ H, Same H1 H → J.stop n H) (yld : ∀ i H x H', Same H1 H → i < n → J.yld i H x H' → H' = H ∧ Y i x)
    (step : ∀ i x H C0 (N : Hp → Prop), i < n → Y i x → Same H1 H → Mk w H D C0 → (∀ H', Same H1 H' → Mk w H' D (fun q => C0 q ∨ C i q) → N H') → g x (wipe σ vs) H fun σ2 H2 => wipe σ2 vs = wipe (wipe σ vs) vs ∧ tt σ2 H2 fun b H3 => if b = true then wi1 σ2 H3 fun J1 H4 => ∃ W1 : Nat → Nat → Hp → Prop, (∃ m, W1 0 m H4) ∧
      Loops J1 g1 tt1 (wipe σ2 vs1) vs1 N (fun b σ3 H5 N1 => if b = true then adding w D te σ3 H5 N1 else N1 H5) W1 else N H3)
    (fin : ∀ H, Same H1 H → Mk w H D (fun q => ∃ j, j < n ∧ C j q) → Qd H) :
    ∃ W : Nat → Nat → Hp → Prop, (∃ m, W 0 m (upd H1 D (SetO w D (fun _ => false) 0))) ∧
      Loops J g tt (wipe σ vs) vs Qd (fun b σ2 H3 N => if b = true then wi1 σ2 H3 fun J1 H4 => ∃ W1 : Nat → Nat → Hp → Prop, (∃ m, W1 0 m H4) ∧
        Loops J1 g1 tt1 (wipe σ2 vs1) vs1 N (fun b σ3 H5 N1 => if b = true then adding w D te σ3 H5 N1 else N1 H5) W1 else N H3) W := by
  refine ⟨fun i m H => i ≤ n ∧ m = n - i ∧ Same H1 H ∧ Mk w H D (fun q => ∃ j, j < i ∧ C j q), ⟨_, Nat.zero_le _, rfl, fun b o e => by rw [upd_ne (ne_of_none e hD)]; exact e, Mk.new.iff fun q => ⟨fun h => h.elim, fun ⟨j, z, _⟩ => absurd z (by omega)⟩⟩, ?_⟩
  rintro i m H ⟨hi, rfl, sm, mk⟩
  by_cases hlt : i < n
  · refine .inr ⟨go i H sm hlt, fun H' => i + 1 ≤ n ∧ Same H1 H' ∧ Mk w H' D (fun q => ∃ j, j < i + 1 ∧ C j q), fun H' h => ⟨n - (i + 1), by omega, h.1, rfl, h.2⟩, fun x H' y => ?_⟩
    obtain ⟨rfl, hY⟩ := yld i H x H' sm hlt y
    refine step i x H' _ _ hlt hY sm mk fun H2 s2 mk2 => ⟨hlt, s2, mk2.iff fun q => ?_⟩
    constructor
    · rintro (⟨j, z, h⟩ | h)
      · exact ⟨j, by omega, h⟩
      · exact ⟨i, by omega, h⟩
    · rintro ⟨j, z, h⟩
      by_cases hj : j = i
      · subst hj; exact .inr h
      · exact .inl ⟨j, by omega, h⟩
  · have : i = n := by omega
    subst this
    exact .inl ⟨stop H sm, fin H sm mk⟩
theorem inV_nts (q : Nat) (l : List Nat) : inV (.int (q : Int)) (nts l) = decide (q ∈ l) := by
  induction l with
  | nil => rfl
  | cons x r ih =>
    have e : inV (.int (q : Int)) (nts (x :: r)) = (((x : Int) == (q : Int)) || inV (.int (q : Int)) (nts r)) := rfl
    rw [e, ih]
    by_cases h : x = q
    · subst h; simp
    · have h1 : ((x : Int) == (q : Int)) = false := by
        simp only [beq_eq_false_iff_ne, ne_eq]
        omega
      rw [h1, Bool.false_or]
      refine decide_eq_decide.mpr ⟨fun h => List.mem_cons_of_mem _ h, fun h' => ?_⟩
      rcases List.mem_cons.mp h' with e | e
      · exact absurd e.symm h
      · exact e
theorem nts_flat (l : List Nat) : (nts l).all flatV = true := by
  induction l with
  | nil => rfl
  | cons x r ih => exact ih
theorem prs_of {H : Hp} : ∀ {ys : List V} {l : List (Nat × Nat)}, ys.length = l.length → (∀ (j : Nat) y, ys[j]? = some y → ∃ t q, y = .ref t ∧ l[j]? = some q ∧ H t = some (.tup [.int (q.1 : Int), .int (q.2 : Int)])) → PrsAt H ys l
  | [], [], _, _ => .nil
  | y :: ys, q :: l, hl, h => by
    obtain ⟨t, q', rfl, e, ht⟩ := h 0 y rfl
    cases e
    exact .cons ht (prs_of (by simpa using hl) fun j y hj => h (j + 1) y hj)
/-! ### the net of a plan -/
/-- a place's next ones -/
def nxt (a : Pl) (s q : Nat) : Prop := (s = 0 ∧ q ∈ a.fs) ∨ (s, q) ∈ a.ps
def nmz (a : Pl) (q : Nat) : Option Str := if q = 0 then none else a.nm[q - 1]?
def ends (a : Pl) : List Nat := if a.em = true then 0 :: a.ls else a.ls
def NetAt (H : Hp) (t : Addr) (a : Pl) : Prop := ∃ (n x e : Addr) (ws : List V), H t = some (.tup [.ref n, .ref x, .ref e]) ∧ H n = some (.lst (.non :: a.nm.map V.str)) ∧ H x = some (.lst ws) ∧ ws.length = a.nm.length + 1 ∧
  (∀ (s : Nat) v, ws[s]? = some v → ∃ b qs, v = .ref b ∧ H b = some (.lst (nts qs)) ∧ qs.length ≤ 60 ∧ ∀ q, q ∈ qs ↔ nxt a s q) ∧ H e = some (.lst (nts (ends a)))
theorem NetAt.keep {H H' : Hp} (s : Same H H') {t : Addr} {a : Pl} (h : NetAt H t a) : NetAt H' t a :=
  let ⟨n, x, e, ws, h1, h2, h3, h4, h5, h6⟩ := h
  ⟨n, x, e, ws, s _ _ h1, s _ _ h2, s _ _ h3, h4, fun j v hj => let ⟨b, qs, k1, k2, k3⟩ := h5 j v hj; ⟨b, qs, k1, s _ _ k2, k3⟩, s _ _ h6⟩
/-- the places behind a word -/
def Beh (a : Pl) (u : List Str) (q : Nat) : Prop := (u = [] ∧ q = 0) ∨ At (nmz a) a u q
theorem nxt_in {a : Pl} (h : a.In 1) {s q : Nat} (n : nxt a s q) : 1 ≤ q ∧ q < 1 + a.nm.length := by
  rcases n with ⟨_, n⟩ | n
  · exact h.fs _ n
  · exact (h.ps _ _ n).2
theorem beh_le {a : Pl} (h : a.In 1) {u : List Str} {q : Nat} (b : Beh a u q) : q ≤ a.nm.length := by
  rcases b with ⟨_, rfl⟩ | b
  · omega
  · have := b.inn h; omega
theorem beh_snoc {a : Pl} (h : a.In 1) {u : List Str} {x : Str} {q : Nat} : Beh a (u ++ [x]) q ↔ ∃ s, Beh a u s ∧ nxt a s q ∧ nmz a q = some x := by
  constructor
  · rintro (⟨z, _⟩ | b)
    · simp at z
    · generalize e : u ++ [x] = v at b
      cases b with
      | @first _ x' h1 h2 =>
        have : u = [] ∧ x = x' := by
          cases u with
          | nil => simp at e; exact ⟨rfl, e⟩
          | cons y r => simp at e
        obtain ⟨rfl, rfl⟩ := this
        exact ⟨0, .inl ⟨rfl, rfl⟩, .inl ⟨rfl, h1⟩, h2⟩
      | @next u' p _ x' h1 h2 h3 =>
        obtain ⟨rfl, e2⟩ := List.append_inj' e rfl
        cases e2
        exact ⟨p, .inr h1, .inr h2, h3⟩
  · rintro ⟨s, b, n, e⟩
    rcases b with ⟨rfl, rfl⟩ | b
    · rcases n with ⟨_, n⟩ | n
      · exact .inr (.first n e)
      · have := (h.ps _ _ n).1; omega
    · rcases n with ⟨rfl, n⟩ | n
      · have := b.inn h; omega
      · exact .inr (.next b n e)
theorem beh_lg {a : Pl} (h : a.In 1) {u : List Str} : (∃ q, Beh a u q ∧ q ∈ ends a) ↔ Lg (nmz a) a u := by
  constructor
  · rintro ⟨q, b, e⟩
    rcases b with ⟨rfl, rfl⟩ | b
    · unfold ends at e
      split at e
      · next z => exact .inl ⟨rfl, z⟩
      · have := h.ls _ e; omega
    · have hq := b.inn h
      unfold ends at e
      split at e
      · rcases List.mem_cons.mp e with rfl | e
        · omega
        · exact .inr ⟨q, e, b⟩
      · exact .inr ⟨q, e, b⟩
  · rintro (⟨rfl, z⟩ | ⟨q, e, b⟩)
    · exact ⟨0, .inl ⟨rfl, rfl⟩, by unfold ends; rw [if_pos z]; simp⟩
    · refine ⟨q, .inr b, ?_⟩
      unfold ends
      split
      · exact List.mem_cons_of_mem _ e
      · exact e
/-- a body's plan from 1 on tells its words -/
theorem plan_words {l : List It} {u : List Str} : Lg (nmz (planB l .e0 1)) (planB l .e0 1) u ↔ WB l u := by
  have hn : (planB l .e0 1).nm = wrB l := by rw [planB_nm]; rfl
  have pl : Pla (nmz (planB l .e0 1)) 1 (Pl.e0.nm ++ wrB l) := fun k hk => by
    unfold nmz
    rw [if_neg (by omega), hn]
    show (wrB l)[1 + k - 1]? = (wrB l)[k]?
    rw [Nat.add_sub_cancel_left]
  rw [planB_lg l .e0 1 e0_in pl]
  exact ⟨fun ⟨u', v, e, h1, h2⟩ => by rw [e0_lg] at h1; subst h1; rw [e]; exact h2, fun h => ⟨[], u, rfl, e0_lg.mpr rfl, h⟩⟩
end FA

set_option Elab.async false
set_option linter.all false
set_option maxRecDepth 100000
set_option maxHeartbeats 4000000
/-! What repr needs of data, put together from parts. -/
namespace FA
open PySem PySem.Spec PyProof.Rows L2
/-- d can be shown, is at most k deep and of a bulk of at most b -/
structure Fits (d : PyData) (k b : Nat) : Prop where
  sh : d.showable = true
  lv : d.leavesShort 13 = true
  dp : d.depth ≤ k
  bk : d.bulk ≤ b
structure FitsAll (ds : List PyData) (k b : Nat) : Prop where
  sh : PyData.showableAll ds = true
  lv : PyData.leavesShortAll 13 ds = true
  dp : PyData.depthAll ds ≤ k
  bk : PyData.bulkAll ds ≤ b
theorem Fits.str {x : Str} (h : okName x) : Fits (.str x) 0 8 := ⟨rfl, by simp only [PyData.leavesShort]; exact h.short, by simp [PyData.depth], by simp only [PyData.bulk]; exact h.2.1⟩
theorem Fits.non : Fits .none 0 0 := ⟨rfl, rfl, by simp [PyData.depth], by simp [PyData.bulk]⟩
theorem Fits.bool (b : Bool) : Fits (.bool b) 0 0 := ⟨rfl, rfl, by simp [PyData.depth], by simp [PyData.bulk]⟩
theorem int_fits_ok : ∀ n : Fin 1000, (PyData.int ((n : Nat) : Int)).leavesShort 13 = true ∧ (PyData.int ((n : Nat) : Int)).showable = true := by decide +kernel
theorem Fits.int {n : Nat} (h : n < 1000) : Fits (.int (n : Nat)) 0 0 := by
  obtain ⟨h1, h2⟩ := int_fits_ok ⟨n, h⟩
  exact ⟨h2, h1, by simp [PyData.depth], by simp [PyData.bulk]⟩
theorem Fits.list {ds : List PyData} {k b : Nat} (h : FitsAll ds k b) : Fits (.list ds) (k + 1) b := ⟨by simp only [PyData.showable]; exact h.sh, by simp only [PyData.leavesShort]; exact h.lv, by have := h.dp; simp only [PyData.depth]; omega, by simp only [PyData.bulk]; exact h.bk⟩
theorem Fits.tup {ds : List PyData} {k b : Nat} (h : FitsAll ds k b) : Fits (.tuple ds) (k + 1) b := ⟨by simp only [PyData.showable]; exact h.sh, by simp only [PyData.leavesShort]; exact h.lv, by have := h.dp; simp only [PyData.depth]; omega, by simp only [PyData.bulk]; exact h.bk⟩
theorem FitsAll.nil {k b : Nat} : FitsAll [] k b := ⟨rfl, rfl, by simp [PyData.depthAll], by simp [PyData.bulkAll]⟩
theorem FitsAll.cons {d : PyData} {ds : List PyData} {k b c : Nat} (h : Fits d k b) (t : FitsAll ds k c) : FitsAll (d :: ds) k (b + 1 + c) := ⟨by simp only [PyData.showableAll, h.sh, t.sh, Bool.and_self], by simp only [PyData.leavesShortAll, h.lv, t.lv, Bool.and_self], by have := h.dp; have := t.dp; simp only [PyData.depthAll]; omega, by have := h.bk; have := t.bk; simp only [PyData.bulkAll]; omega⟩
theorem Fits.mono {d : PyData} {k b k' b' : Nat} (h : Fits d k b) (hk : k ≤ k') (hb : b ≤ b') : Fits d k' b' := ⟨h.sh, h.lv, by have := h.dp; omega, by have := h.bk; omega⟩
theorem FitsAll.mono {ds : List PyData} {k b k' b' : Nat} (h : FitsAll ds k b) (hk : k ≤ k') (hb : b ≤ b') : FitsAll ds k' b' := ⟨h.sh, h.lv, by have := h.dp; omega, by have := h.bk; omega⟩
/-- all alike -/
theorem FitsAll.map {α : Type} {f : α → PyData} {k b : Nat} : ∀ {l : List α}, (∀ a ∈ l, Fits (f a) k b) → FitsAll (l.map f) k ((b + 1) * l.length)
  | [], _ => .nil
  | a :: r, h => by
    have h1 := h a (by simp)
    have h2 := FitsAll.map (l := r) fun x hx => h x (List.mem_cons_of_mem _ hx)
    rw [List.map_cons]
    exact (FitsAll.cons h1 h2).mono (Nat.le_refl _) (by rw [List.length_cons, Nat.mul_succ]; omega)
theorem FitsAll.strs {ls : List Str} (h : ∀ x ∈ ls, okName x) : FitsAll (ls.map PyData.str) 0 (9 * ls.length) := FitsAll.map (b := 8) fun x hx => .str (h x hx)
theorem Fits.len {d : PyData} {k b : Nat} (h : Fits d k b) (hb : b ≤ 1000000) : d.shown.length ≤ sizeLine := by
  refine PyData.shown_fits_bulk (B := 13) (by decide) (by decide) h.lv ?_
  have h1 := h.bk
  have e : (2 : Nat) ^ 20 = 1048576 := by decide
  omega
end FA

set_option Elab.async false
set_option linter.all false
set_option maxRecDepth 100000
set_option maxHeartbeats 4000000
/-! repr of a bool. -/
namespace FA
open PySem PySem.Spec PyProof.Rows L2
variable {X : Cx}
theorem call_repr_bool : CallR X (.builtin "repr") (fun xs H Q => ∃ b, xs = [.bl b] ∧ Q (.str (if b = true then "True" else "False")) H) := by
  intro pins s σ H xs us Q I r h
  obtain ⟨b, rfl, q⟩ := h
  obtain ⟨u1, rfl, e1⟩ : ∃ u1, us = [u1] ∧ RelV (.bl b) u1 := by
    cases r with
    | cons a r => cases r; exact ⟨_, rfl, a⟩
  have hu1 : u1 = .bool b := e1
  subst hu1
  refine call_repr_gives (prog := X.prog) (w := X.w) (T := "bool") (v := .bool b) (x := if b = true then Str.ofString "True" else Str.ofString "False") rfl F.slot_bool_repr F.entry_bool_repr (F.args_bool_repr_1 _) (gives_bool_repr b) ?_ rfl (by cases b <;> decide)
  exact ⟨.str _, H, I.kept (fun _ _ e => e), ⟨_, rfl⟩, q⟩
end FA

set_option Elab.async false
set_option linter.all false
set_option maxRecDepth 100000
set_option maxHeartbeats 4000000
/-! sum of lists. -/
namespace FA
open PySem PySem.Spec PyProof.Rows L2
variable {P : Program} {w : World} {A : Around} {E : Value → Shared → Prop} {s : Shared}
def cat (con : Nat → List Value) (i : Nat) : List Value := (List.range i).flatMap con
theorem cat_succ (con : Nat → List Value) (i : Nat) : cat con (i + 1) = cat con i ++ con i := by
  unfold cat
  rw [List.range_succ, List.flatMap_append]
  simp
theorem sum_lists_loop {I : Addr} {fp wr : List Addr} {G : Array GenState → Array GenState → Prop} {n : Nat} {Pv : Nat → Value → Prop} {St : Nat → Shared → Prop} {R : Result → Shared → Prop} (W : WalksS P w A.in1 I fp wr G n Pv St)
    (S : Addr) (hSf : S ∉ fp) (hlt : ∀ b ∈ fp, b < S) (h0 : Heap) (con : Nat → List Value) (cap : ∀ i, i ≤ n → (cat con i).length ≤ sizeLine)
    (hval : ∀ i v, Pv i v → ∃ b c, v = .ref b ∧ IsL h0 b (con i).toArray c ∧ b ∉ wr ∧ b ≠ S) : ∀ (k i : Nat) (s : Shared) (Rr : Addr) (c cR : Nat), n - i = k → i ≤ n → St i s → (∀ b o, b ∉ wr → b ≠ S → h0.get? b = some o → s.heap.get? b = some o) →
      s.heap.get? S = some { cls := .type "list", data := .seq #[.ref Rr] c } → IsL s.heap Rr (cat con i).toArray cR → Rr ∉ wr → Rr ≠ S →
      (∀ s' R' c', Moved (S :: wr) G s s' → ((R' = Rr ∧ i = n) ∨ S < R') → IsL s'.heap R' (cat con n).toArray c' → R (.ok (.ret (.ref R'))) s') →
      codeAny (model P w) A (.builtin "sum.loop" ⟨[.ref I, .ref S, rawInt 2, rawInt 0], []⟩) R s := by
  have out : S ∉ wr := fun h => hSf (W.sub _ h)
  have more : ∀ b ∈ wr, b ∈ S :: wr := fun b hb => List.mem_cons_of_mem _ hb
  intro k
  induction k with
  | zero =>
    intro i s Rr c cR hk' hi hst h0s hS hL hRw hRS hR
    have hin : i = n := by omega
    subst hin
    refine codeAny_builtin F.entry_sum_loop ?_
    rw [Around.under_plainId F.plain_sum_loop _]
    unfold Builtin.«sum.loop»
    dsimp only [rawInt, seqItems?]
    refine wpAny_bind (wpAny_bind (wpAny_load hS ?_))
    refine wpAny_pure ?_
    dsimp only [Option.getD]
    show wpAny (model P w) A.in1 (((pyNext (.ref I)).tryCatch _) >>= _) _ _ s
    refine wpAny_bind (wpAny_tryCatch (W.done s _ _ hst fun s' hm => ?_))
    exact wpAny_pure (hR s' Rr cR (hm.mono more) (.inl ⟨rfl, rfl⟩) (hm.heap Rr _ hRw hL))
  | succ k ih =>
    intro i s Rr c cR hk' hi hst h0s hS hL hRw hRS hR
    have hi' : i < n := by omega
    have cp := cap (i + 1) hi'
    rw [cat_succ, List.length_append] at cp
    refine codeAny_builtin F.entry_sum_loop ?_
    rw [Around.under_plainId F.plain_sum_loop _]
    unfold Builtin.«sum.loop»
    dsimp only [rawInt, seqItems?]
    refine wpAny_bind (wpAny_bind (wpAny_load hS ?_))
    refine wpAny_pure ?_
    dsimp only [Option.getD]
    show wpAny (model P w) A.in1 (((pyNext (.ref I)).tryCatch _) >>= _) _ _ s
    refine wpAny_bind (wpAny_tryCatch (W.item i s _ _ hi' hst fun v s' hP hst' hm => ?_))
    obtain ⟨b, cb, rfl, hb, hbw, hbS⟩ := hval i v hP
    have hL' : IsL s'.heap Rr (cat con i).toArray cR := hm.heap Rr _ hRw hL
    have hb' : IsL s'.heap b (con i).toArray cb := hm.heap b _ hbw (h0s b _ hbw hbS hb)
    have hS' := hm.heap S _ out hS
    have hSlt : S < s'.heap.objs.size := Heap.lt_size hS'
    show wpAny (model P w) A.in1 (((holding [Value.ref b] (binaryOp .Add (.ref Rr) (.ref b))).attempt) >>= _) _ _ s'
    refine wpAny_bind (wpAny_attempt (wpAny_holding (_root_.PySem.P.add_list hL' hb' ?_ (by simp only [List.size_toArray]; omega))))
    have hNS : s'.heap.objs.size ≠ S := Nat.ne_of_gt hSlt
    have hNw : s'.heap.objs.size ∉ wr := fun hh => by
      exact absurd (Nat.lt_trans (hlt _ (W.sub _ hh)) hSlt) (Nat.lt_irrefl _)
    have ea : (cat con i).toArray ++ (con i).toArray = (cat con (i + 1)).toArray := by rw [cat_succ]; simp
    rw [ea]
    have hS1 : (s'.heap.push { cls := .type "list", data := .seq (cat con (i + 1)).toArray }).get? S = some { cls := .type "list", data := .seq #[.ref Rr] c } := Heap.get?_push_of_some _ hS'
    have hN1 := IsL.new s'.heap (cat con (i + 1)).toArray
    have k1 : ∀ (x : Addr) (o : Obj), s'.heap.get? x = some o → (s'.heap.push { cls := .type "list", data := .seq (cat con (i + 1)).toArray }).get? x = some o := fun x o e => Heap.get?_push_of_some _ e
    generalize s'.heap.push { cls := .type "list", data := .seq (cat con (i + 1)).toArray } = h1 at hS1 hN1 k1 ⊢
    generalize hN : s'.heap.objs.size = N at hN1 hNS hNw ⊢
    show wpAny (model P w) A.in1 (updateSeq S (fun _ => #[Value.ref N]) >>= _) _ _ _
    refine wpAny_bind (wpAny_updateSeq hS1 rfl ?_)
    refine wpAny_bind (wpAny_letGo ?_)
    have hS2 : (h1.update S (Obj.mapSeq fun _ => #[Value.ref N])).get? S = some { cls := .type "list", data := .seq #[.ref N] c } := Heap.get?_update_self _ hS1 rfl
    have hN2 : IsL (h1.update S (Obj.mapSeq fun _ => #[Value.ref N])) N (cat con (i + 1)).toArray 0 := IsL.update_other hN1 hNS.symm _
    have k2 : ∀ (x : Addr) (o : Obj), x ≠ S → s'.heap.get? x = some o → (h1.update S (Obj.mapSeq fun _ => #[Value.ref N])).get? x = some o := fun x o n e => by rw [Heap.get?_update_ne _ _ _ _ n]; exact k1 x o e
    generalize h1.update S (Obj.mapSeq fun _ => #[Value.ref N]) = h2 at hS2 hN2 k2 ⊢
    refine wpAny_bind (wpAny_updateSeq hS2 rfl ?_)
    have hS3 : (h2.update S (Obj.mapSeq fun _ => #[Value.ref N])).get? S = some { cls := .type "list", data := .seq #[.ref N] c } := Heap.get?_update_self _ hS2 rfl
    have hN3 : IsL (h2.update S (Obj.mapSeq fun _ => #[Value.ref N])) N (cat con (i + 1)).toArray 0 := IsL.update_other hN2 hNS.symm _
    have k3 : ∀ (x : Addr) (o : Obj), x ≠ S → s'.heap.get? x = some o → (h2.update S (Obj.mapSeq fun _ => #[Value.ref N])).get? x = some o := fun x o n e => by rw [Heap.get?_update_ne _ _ _ _ n]; exact k2 x o n e
    generalize h2.update S (Obj.mapSeq fun _ => #[Value.ref N]) = h3 at hS3 hN3 k3 ⊢
    refine wpAny_pure ⟨plainId_quiet F.plain_sum_loop _, ih (i + 1) _ N c 0 (by omega) hi' (W.frame _ s' _ _ hst' (Nat.le_refl _) fun x hx o e => k3 x o (fun z => hSf (by rw [← z]; exact hx)) e) (fun x o n1 n2 e => k3 x o n2 (hm.heap x o n1 (h0s x o n1 n2 e))) hS3 hN3 hNw hNS fun s3 R' c' hm3 hR' hL3 => ?_⟩
    refine hR s3 R' c' (Moved.trans W.gtrans ((hm.mono more).then_heap (Nat.le_refl _) fun x o hx e => k3 x o (fun z => hx (by rw [z]; exact List.mem_cons_self)) e) hm3) ?_ hL3
    rcases hR' with ⟨rfl, _⟩ | hR'
    · exact .inr (by rw [← hN]; exact hSlt)
    · exact .inr hR'
theorem args_sum_2 (a b : Value) : argsOk "sum" ⟨[a, b], []⟩ := by
  first
    | rfl
    | (unfold argsOk; rfl)
theorem call_sum_lists {l t : Addr} {items : Array Value} {con : Nat → List Value} {ct : Nat} {Q : Value → Shared → Prop} (hh : A.handled = none) (hl : s.heap.IsList l items) (ht : IsL s.heap t #[] ct) (cap : ∀ i, i ≤ items.size → (cat con i).length ≤ sizeLine)
    (hval : ∀ (i : Nat) (v : Value), items[i]? = some v → ∃ b c, v = .ref b ∧ IsL s.heap b (con i).toArray c)
    (h : ∀ (h' : Heap) (tk : Nat) (r c' : Nat), (∀ b o, s.heap.get? b = some o → h'.get? b = some o) → ((r = t ∧ 0 = items.size) ∨ s.heap.objs.size ≤ r) → IsL h' r (cat con items.size).toArray c' → Q (.ref r) { s with heap := h', toks := tk }) : wpAny (model P w) A (call (.builtin "sum") [.ref l, .ref t]) Q E s := by
  refine wpAny_call (codeAny_call_builtin F.plain_sum F.entry_sum ?_)
  rw [show checkBuiltinCall "sum" ⟨[.ref l, .ref t], []⟩ = pure () from rfl]
  refine wpAny_pure ?_
  unfold Builtin.«sum»
  generalize hPI : pyIter = PI
  wp_walk
  subst hPI
  refine wpAny_pyIter_list hl ?_
  have ht1 : IsL (s.heap.push { cls := .type "list_iterator", data := .fields #[.ref l, .int 0 0] }) t #[] ct := IsL.push ht _
  have hT : Shared.TypeIs { s with heap := s.heap.push { cls := .type "list_iterator", data := .fields #[.ref l, .int 0 0] } } (.ref t) "list" := ⟨_, ht1, rfl⟩
  dsimp only []
  refine wpAny_bind (wpAny_pure ?_)
  dsimp only []
  simp only [List.forIn_cons, List.forIn_nil, bind_assoc, pure_bind]
  refine wpAny_bind (wpAny_isInstance hT F.sub_list_str ?_)
  simp only [Bool.false_eq_true, if_false, pure_bind]
  refine wpAny_bind (wpAny_bind (wpAny_isInstance hT F.sub_list_bytes ?_))
  simp only [Bool.false_eq_true, if_false, pure_bind]
  refine wpAny_bind (wpAny_isInstance hT F.sub_list_bytearray ?_)
  simp only [Bool.false_eq_true, if_false, pure_bind]
  refine wpAny_pure (wpAny_bind (wpAny_newList ?_))
  have k1 : ∀ (b : Addr) (o : Obj), s.heap.get? b = some o → (s.heap.push { cls := .type "list_iterator", data := .fields #[.ref l, .int 0 0] }).get? b = some o := fun b o e => Heap.get?_push_of_some _ e
  have hlS : l < s.heap.objs.size := by
    obtain ⟨ol, hol, _⟩ := hl
    exact Heap.lt_size hol
  have htS : t < s.heap.objs.size := Heap.lt_size ht
  have sz : (s.heap.push { cls := .type "list_iterator", data := .fields #[.ref l, .int 0 0] }).objs.size = s.heap.objs.size + 1 := Heap.size_push _ _
  have hI : (s.heap.push { cls := .type "list_iterator", data := .fields #[.ref l, .int 0 0] }).get? s.heap.objs.size = some { cls := .type "list_iterator", data := .fields #[.ref l, .int 0 0] } := Heap.get?_push_size _ rfl
  have hl1 := hl.push { cls := .type "list_iterator", data := .fields #[.ref l, .int 0 0] }
  generalize s.heap.push { cls := .type "list_iterator", data := .fields #[.ref l, .int 0 0] } = h1 at ht1 hT k1 sz hI hl1 ⊢
  have hS : (h1.push { cls := .type "list", data := .seq [Value.ref t].toArray }).get? h1.objs.size = some { cls := .type "list", data := .seq #[.ref t] 0 } := Heap.get?_push_size _ rfl
  have k2 : ∀ (b : Addr) (o : Obj), h1.get? b = some o → (h1.push { cls := .type "list", data := .seq [Value.ref t].toArray }).get? b = some o := fun b o e => Heap.get?_push_of_some _ e
  have hl2 := hl1.push { cls := .type "list", data := .seq [Value.ref t].toArray }
  generalize hS1 : h1.objs.size = S at hS ⊢
  have eS : S = s.heap.objs.size + 1 := by rw [← hS1, sz]
  have hh3 : A.in1.handled = none := by simp [hh]
  have hneI : l ≠ s.heap.objs.size := Nat.ne_of_lt hlS
  have hSf : S ∉ [s.heap.objs.size, l] := by
    simp only [List.mem_cons, List.mem_singleton, List.not_mem_nil, or_false, not_or]
    exact ⟨by rw [eS]; exact Nat.succ_ne_self _, by rw [eS]; exact (Nat.ne_of_lt (Nat.lt_succ_of_lt hlS)).symm⟩
  generalize h1.push { cls := .type "list", data := .seq [Value.ref t].toArray } = h2 at hS k2 hl2 ⊢
  refine wpAny_pure ⟨plainId_quiet F.plain_sum_loop _, ?_⟩
  refine sum_lists_loop ((Walks.list hh3 _ l hneI items).toS) S hSf ?_ s.heap con cap ?_ (items.size - 0) 0 _ t 0 ct (by omega) (Nat.zero_le _) ⟨⟨_, k2 _ _ hI, rfl, rfl⟩, hl2⟩ (fun b o _ _ e => k2 _ _ (k1 _ _ e)) hS (by exact k2 _ _ ht1) ?_ ?_ ?_
  · intro b hb
    rcases List.mem_cons.mp hb with rfl | hb
    · rw [eS]; exact Nat.lt_succ_self _
    · rw [List.mem_singleton.mp hb, eS]; exact Nat.lt_succ_of_lt hlS
  · intro i v hv
    obtain ⟨b, c, rfl, hb⟩ := hval i v hv
    have : b < s.heap.objs.size := Heap.lt_size hb
    refine ⟨b, c, rfl, hb, fun z => ?_, fun z => ?_⟩
    · rw [List.mem_singleton.mp z] at this; exact absurd this (Nat.lt_irrefl _)
    · rw [z, eS] at this; exact absurd (Nat.lt_of_succ_lt this) (Nat.lt_irrefl _)
  · intro z
    rw [List.mem_singleton.mp z] at htS
    exact absurd htS (Nat.lt_irrefl _)
  · intro z
    rw [z, eS] at htS
    exact absurd (Nat.lt_of_succ_lt htS) (Nat.lt_irrefl _)
  · intro s' R' c' hm hR' hL
    obtain ⟨h', g2, d', tk', os'⟩ := s'
    have eg : g2 = s.gens := hm.gens
    have ed : d' = s.drawn := hm.drawn
    have eo : os' = s.os := hm.os
    subst eg; subst ed; subst eo
    refine h h' tk' R' c' (fun b o e => ?_) ?_ hL
    · have hb0 : b < s.heap.objs.size := Heap.lt_size e
      refine hm.heap b o ?_ (k2 _ _ (k1 _ _ e))
      simp only [List.mem_cons, List.mem_singleton, List.not_mem_nil, or_false, not_or]
      exact ⟨by rw [eS]; exact Nat.ne_of_lt (Nat.lt_succ_of_lt hb0), Nat.ne_of_lt hb0⟩
    · rcases hR' with ⟨rfl, z⟩ | hR'
      · exact .inl ⟨rfl, z⟩
      · exact .inr (Nat.le_of_lt (Nat.lt_trans (by rw [eS]; exact Nat.lt_succ_self _) hR'))
theorem paired_back {α β : Type} {F : α → β → Prop} : ∀ {l : List α} {m : List β} {i : Nat} {v : β}, PySem.Paired F l m → m[i]? = some v → ∃ x, l[i]? = some x ∧ F x v
  | _, _, 0, _, .cons a _, h => by cases h; exact ⟨_, rfl, a⟩
  | _, _, i + 1, _, .cons _ t, h => paired_back (i := i) t h
theorem flat_take_le {α : Type} : ∀ (ls : List (List α)) (i : Nat), (ls.take i).flatten.length ≤ ls.flatten.length
  | [], i => by simp
  | x :: r, 0 => by simp
  | x :: r, i + 1 => by
    have := flat_take_le r i
    simp only [List.take_succ_cons, List.flatten_cons, List.length_append]
    omega
section
variable {X : Cx}
/-- sum(list of lists, []) -/
def rSumLs : List V → Hp → VK → Prop := fun xs H Q => ∃ (p t : Addr) (ws : List V) (ls : List (List V)), xs = [V.ref p, V.ref t] ∧ H p = some (.lst ws) ∧ H t = some (.lst []) ∧ ws ≠ [] ∧ ws.length = ls.length ∧ (∀ (j : Nat) v, ws[j]? = some v → ∃ b zs, v = .ref b ∧ ls[j]? = some zs ∧ H b = some (.lst zs)) ∧ ls.flatten.length ≤ sizeLine ∧
  ∀ r, H r = none → Q (.ref r) (upd H r (.lst ls.flatten))
theorem cr_sumLs (hc : X.calm = true) : CallR X (.builtin "sum") rSumLs := by
  intro pins s σ H xs us Q I r h
  obtain ⟨p, t, ws, ls, rfl, hp, ht, hne, hwl, hls, hcap, q⟩ := h
  obtain ⟨u1, u2, rfl, e1, e2⟩ : ∃ u1 u2, us = [u1, u2] ∧ RelV (.ref p) u1 ∧ RelV (.ref t) u2 := by
    cases r with
    | cons a r => cases r with
      | cons b r => cases r; exact ⟨_, _, rfl, a, b⟩
  have hu1 : u1 = .ref p := e1
  have hu2 : u2 = .ref t := e2
  subst hu1 hu2
  obtain ⟨_, its, n, rv, ho⟩ := I.hok p _ hp
  obtain ⟨_, its2, n2, rv2, ho2⟩ := I.hok t _ ht
  cases rv2
  have ex : ∀ j : Nat, ∃ con : List Value, ∀ (b : Addr) (zs : List V), ws[j]? = some (V.ref b) → H b = some (.lst zs) → ∃ c, Vals zs con ∧ s.heap.get? b = some { cls := .type "list", data := .seq con.toArray c } := fun j => by
    cases hj : ws[j]? with
    | none => exact ⟨[], fun b zs e => by cases e⟩
    | some v =>
      obtain ⟨b, zs, rfl, _, hb⟩ := hls j v hj
      obtain ⟨_, its3, n3, rv3, ho3⟩ := I.hok b _ hb
      refine ⟨its3, fun b' zs' e e' => ?_⟩
      cases e
      rw [hb] at e'
      cases e'
      exact ⟨n3, rv3, ho3⟩
  obtain ⟨con, hcon⟩ : ∃ con : Nat → List Value, ∀ (j : Nat) (b : Addr) (zs : List V), ws[j]? = some (V.ref b) → H b = some (.lst zs) → ∃ c, Vals zs (con j) ∧ s.heap.get? b = some { cls := .type "list", data := .seq (con j).toArray c } := ⟨fun j => Classical.choose (ex j), fun j => Classical.choose_spec (ex j)⟩
  have hlen : its.length = ws.length := (Vals.length rv).symm
  have key : ∀ i, i ≤ ws.length → Vals (ls.take i).flatten (cat con i) := fun i => by
    induction i with
    | zero => intro _; exact .nil
    | succ i ih =>
      intro hi
      have hj : ws[i]? = some ws[i] := List.getElem?_eq_getElem (by omega)
      obtain ⟨b, zs, e, e3, hb⟩ := hls i _ hj
      rw [e] at hj
      obtain ⟨c, v3, _⟩ := hcon i b zs hj hb
      rw [cat_succ, List.take_add_one, e3, List.flatten_append]
      refine Vals.append (ih (by omega)) ?_
      simpa using v3
  have cap : ∀ i, i ≤ its.toArray.size → (cat con i).length ≤ sizeLine := fun i hi => by
    have hi' : i ≤ ws.length := by simpa [hlen] using hi
    rw [← Vals.length (key i hi')]
    exact Nat.le_trans (flat_take_le ls i) hcap
  refine call_sum_lists (P := X.prog) (w := X.w) (items := its.toArray) (con := con) (I.ok.hd hc) ⟨_, ho, rfl, n, rfl⟩ ho2 cap (fun i v hv => ?_) fun h' tk r c' hk hr hL => ?_
  · have hv' : its[i]? = some v := by simpa using hv
    obtain ⟨x, hx, rx⟩ := paired_back rv hv'
    obtain ⟨b, zs, rfl, e3, hb⟩ := hls i x hx
    obtain ⟨c, _, hg⟩ := hcon i b zs hx hb
    exact ⟨b, c, rx, hg⟩
  · have hr' : s.heap.objs.size ≤ r := by
      rcases hr with ⟨_, z⟩ | hr
      · have : ws.length = 0 := by rw [← hlen]; simpa using z.symm
        exact absurd (List.eq_nil_of_length_eq_zero this) hne
      · exact hr
    have e : its.toArray.size = ws.length := by simp [hlen]
    rw [e] at hL
    have kv := key ws.length (Nat.le_refl _)
    rw [List.take_of_length_le (by omega)] at kv
    exact ⟨.ref _, upd H r (.lst ls.flatten), I.laid (t' := tk) hk hr' ⟨hcap, _, _, kv, hL⟩, rfl, q r (I.hok.fresh hr')⟩
end
end FA

set_option Elab.async false
set_option linter.all false
set_option maxRecDepth 100000
/-! Places of a word up to which bodies can match it. -/
namespace FA
open PySem
/-- from place s to place p the word is v -/
def Sub (u : List Str) (s p : Nat) (v : List Str) : Prop := s ≤ p ∧ p ≤ u.length ∧ (u.drop s).take (p - s) = v
theorem Sub.len {u v : List Str} {s p : Nat} (h : Sub u s p v) : v.length = p - s := by
  obtain ⟨h1, h2, h3⟩ := h
  rw [← h3, List.length_take, List.length_drop]
  omega
theorem sub_nil {u : List Str} {s p : Nat} : Sub u s p [] ↔ s = p ∧ p ≤ u.length := by
  constructor
  · intro h
    have := h.len
    simp at this
    exact ⟨by have := h.1; omega, h.2.1⟩
  · rintro ⟨rfl, h⟩
    exact ⟨Nat.le_refl _, h, by rw [Nat.sub_self, List.take_zero]⟩
theorem sub_one {u : List Str} {s p : Nat} {x : Str} : Sub u s p [x] ↔ p = s + 1 ∧ u[s]? = some x := by
  constructor
  · intro h
    have hl := h.len
    obtain ⟨h1, h2, h3⟩ := h
    simp at hl
    have e : p = s + 1 := by omega
    subst e
    refine ⟨rfl, ?_⟩
    have : ((u.drop s).take (s + 1 - s))[0]? = some x := by rw [h3]; rfl
    rw [List.getElem?_take, if_pos (by omega), List.getElem?_drop] at this
    simpa using this
  · rintro ⟨rfl, h⟩
    have hs : s < u.length := by
      by_cases z : s < u.length
      · exact z
      · rw [List.getElem?_eq_none (by omega)] at h; cases h
    refine ⟨by omega, hs, ?_⟩
    rw [Nat.add_sub_cancel_left, List.take_one, List.head?_drop, h]
    rfl
theorem sub_app {u v1 v2 : List Str} {s p : Nat} : Sub u s p (v1 ++ v2) ↔ ∃ m, Sub u s m v1 ∧ Sub u m p v2 := by
  constructor
  · intro h
    have hl := h.len
    obtain ⟨h1, h2, h3⟩ := h
    rw [List.length_append] at hl
    refine ⟨s + v1.length, ⟨by omega, by omega, ?_⟩, by omega, h2, ?_⟩
    · have : ((u.drop s).take (p - s)).take v1.length = v1 := by rw [h3, List.take_left]
      rw [List.take_take, Nat.min_eq_left (by omega)] at this
      rw [Nat.add_sub_cancel_left]
      exact this
    · have : ((u.drop s).take (p - s)).drop v1.length = v2 := by rw [h3, List.drop_left]
      rw [List.drop_take, List.drop_drop] at this
      rw [← this]
      congr 1
      · omega
  · rintro ⟨m, h, k⟩
    obtain ⟨h1, h2, h3⟩ := h
    obtain ⟨k1, k2, k3⟩ := k
    refine ⟨by omega, k2, ?_⟩
    rw [← h3, ← k3]
    have e1 : p - s = (m - s) + (p - m) := by omega
    have e2 : u.drop m = (u.drop s).drop (m - s) := by rw [List.drop_drop]; congr 1; omega
    rw [e1, List.take_add, e2]
/-- the places up to which a body can match from a place on -/
def EnB (l : List It) (u : List Str) (s p : Nat) : Prop := ∃ v, Sub u s p v ∧ WB l v
def EnI (i : It) (u : List Str) (s p : Nat) : Prop := ∃ v, Sub u s p v ∧ WI i v
theorem EnB.le {l : List It} {u : List Str} {s p : Nat} (h : EnB l u s p) : s ≤ p ∧ p ≤ u.length := let ⟨_, h, _⟩ := h; ⟨h.1, h.2.1⟩
theorem EnI.le {i : It} {u : List Str} {s p : Nat} (h : EnI i u s p) : s ≤ p ∧ p ≤ u.length := let ⟨_, h, _⟩ := h; ⟨h.1, h.2.1⟩
theorem enB_nil {u : List Str} {s p : Nat} : EnB [] u s p ↔ s = p ∧ p ≤ u.length := by
  constructor
  · rintro ⟨v, h, w⟩
    simp only [WB] at w
    subst w
    exact sub_nil.mp h
  · intro h
    exact ⟨[], sub_nil.mpr h, by simp only [WB]⟩
theorem enB_take {l : List It} {k : Nat} {i : It} (e : l[k]? = some i) {u : List Str} {s p : Nat} : EnB (l.take (k + 1)) u s p ↔ ∃ m, EnB (l.take k) u s m ∧ EnI i u m p := by
  constructor
  · rintro ⟨v, h, w⟩
    obtain ⟨v1, v2, rfl, w1, w2⟩ := (WB_snoc e).mp w
    obtain ⟨m, h1, h2⟩ := sub_app.mp h
    exact ⟨m, ⟨v1, h1, w1⟩, v2, h2, w2⟩
  · rintro ⟨m, ⟨v1, h1, w1⟩, v2, h2, w2⟩
    exact ⟨v1 ++ v2, sub_app.mpr ⟨m, h1, h2⟩, (WB_snoc e).mpr ⟨v1, v2, rfl, w1, w2⟩⟩
theorem enI_call {x : Str} {u : List Str} {s p : Nat} : EnI (.call x) u s p ↔ p = s + 1 ∧ u[s]? = some x := by
  constructor
  · rintro ⟨v, h, w⟩
    simp only [WI] at w
    subst w
    exact sub_one.mp h
  · intro h
    exact ⟨[x], sub_one.mpr h, by simp only [WI]⟩
theorem enI_may {b : List It} {u : List Str} {s p : Nat} : EnI (.may b) u s p ↔ (s = p ∧ p ≤ u.length) ∨ EnB b u s p := by
  constructor
  · rintro ⟨v, h, w⟩
    simp only [WI] at w
    rcases w with rfl | w
    · exact .inl (sub_nil.mp h)
    · exact .inr ⟨v, h, w⟩
  · rintro (h | ⟨v, h, w⟩)
    · exact ⟨[], sub_nil.mpr h, by simp [WI]⟩
    · exact ⟨v, h, by simp only [WI]; exact .inr w⟩
theorem enI_one {bs : List (List It)} {u : List Str} {s p : Nat} : EnI (.one bs) u s p ↔ ∃ b ∈ bs, EnB b u s p := by
  constructor
  · rintro ⟨v, h, w⟩
    simp only [WI] at w
    obtain ⟨b, m, w⟩ := WBs_iff.mp w
    exact ⟨b, m, v, h, w⟩
  · rintro ⟨b, m, v, h, w⟩
    exact ⟨v, h, by simp only [WI]; exact WBs_iff.mpr ⟨b, m, w⟩⟩
/-- going on with a body again and again -/
inductive Again (b : List It) (u : List Str) (s : Nat) : Nat → Prop where
  | here : s ≤ u.length → Again b u s s
  | on {m p : Nat} : Again b u s m → EnB b u m p → Again b u s p
theorem enI_loop {b : List It} {u : List Str} {s p : Nat} : EnI (.loop b) u s p ↔ Again b u s p := by
  constructor
  · rintro ⟨v, h, w⟩
    simp only [WI] at w
    induction w generalizing p with
    | nil =>
      obtain ⟨rfl, hp⟩ := sub_nil.mp h
      exact .here hp
    | snoc _ hv _ ih =>
      obtain ⟨m, h1, h2⟩ := sub_app.mp h
      exact .on (ih h1) ⟨_, h2, hv⟩
  · intro h
    induction h with
    | here hs => exact ⟨[], sub_nil.mpr ⟨rfl, hs⟩, by simp only [WI]; exact .nil⟩
    | on _ h2 ih =>
      obtain ⟨v1, k1, w1⟩ := ih
      obtain ⟨v2, k2, w2⟩ := h2
      simp only [WI] at w1 ⊢
      by_cases e : v2 = []
      · subst e
        obtain ⟨rfl, _⟩ := sub_nil.mp k2
        exact ⟨v1, k1, w1⟩
      · exact ⟨v1 ++ v2, sub_app.mpr ⟨_, k1, k2⟩, .snoc w1 w2 e⟩
/-- the whole word, from its first place to its last -/
theorem enB_whole {l : List It} {u : List Str} : EnB l u 0 u.length ↔ WB l u := by
  constructor
  · rintro ⟨v, ⟨_, _, h⟩, w⟩
    rw [List.drop_zero, Nat.sub_zero, List.take_length] at h
    rw [h]
    exact w
  · intro w
    exact ⟨u, ⟨Nat.zero_le _, Nat.le_refl _, by rw [List.drop_zero, Nat.sub_zero, List.take_length]⟩, w⟩
/-- what a body matches from some places on -/
def Ends (l : List It) (u : List Str) (S : Nat → Prop) (p : Nat) : Prop := ∃ s, S s ∧ EnB l u s p
/-- places that are closed under a body are all that can be reached by it again and again -/
theorem again_closed {b : List It} {u : List Str} {S H : List Nat} (h1 : ∀ s ∈ S, s ∈ H) (h2 : ∀ p ∈ H, ∃ s ∈ S, Again b u s p) (h3 : ∀ p ∈ H, ∀ m, EnB b u p m → m ∈ H) : ∀ p, p ∈ H ↔ ∃ s ∈ S, Again b u s p := fun p => by
  constructor
  · exact h2 p
  · rintro ⟨s, hs, h⟩
    induction h with
    | here _ => exact h1 s hs
    | on _ hb ih => exact h3 _ ih _ hb
/-- one turn of the law's loop: the places found anew are put to those that there were -/
theorem again_turn {b : List It} {u : List Str} {S H M N : List Nat} (h2 : ∀ p ∈ H, ∃ s ∈ S, Again b u s p) (hM : ∀ p ∈ M, p ∈ H) (hN : ∀ p, p ∈ N ↔ (∃ m ∈ M, EnB b u m p) ∧ p ∉ H) : ∀ p ∈ H ++ N, ∃ s ∈ S, Again b u s p := fun p hp => by
  rcases List.mem_append.mp hp with h | h
  · exact h2 p h
  · obtain ⟨⟨m, hm, hb⟩, _⟩ := (hN p).mp h
    obtain ⟨s, hs, ha⟩ := h2 m (hM m hm)
    exact ⟨s, hs, .on ha hb⟩
/-- what was closed but for the last ones stays so, the new ones being the last -/
theorem closed_turn {b : List It} {u : List Str} {H M N : List Nat} (h3 : ∀ p ∈ H, p ∉ M → ∀ m, EnB b u p m → m ∈ H) (hN : ∀ p, p ∈ N ↔ (∃ m ∈ M, EnB b u m p) ∧ p ∉ H) : ∀ p ∈ H ++ N, p ∉ N → ∀ m, EnB b u p m → m ∈ H ++ N := fun p hp hn m hb => by
  rcases List.mem_append.mp hp with h | h
  · by_cases hm : p ∈ M
    · by_cases z : m ∈ H
      · exact List.mem_append_left _ z
      · exact List.mem_append_right _ ((hN m).mpr ⟨⟨p, hm, hb⟩, z⟩)
    · exact List.mem_append_left _ (h3 p h hm m hb)
  · exact absurd h hn
/-- the matched places of a row of items, item by item -/
theorem ends_take {l : List It} {k : Nat} {i : It} (e : l[k]? = some i) {u : List Str} {S M N : List Nat} (hM : ∀ p, p ∈ M ↔ ∃ s ∈ S, EnB (l.take k) u s p) (hN : ∀ p, p ∈ N ↔ ∃ m ∈ M, EnI i u m p) : ∀ p, p ∈ N ↔ ∃ s ∈ S, EnB (l.take (k + 1)) u s p := fun p => by
  rw [hN]
  constructor
  · rintro ⟨m, hm, h⟩
    obtain ⟨s, hs, h'⟩ := (hM m).mp hm
    exact ⟨s, hs, (enB_take e).mpr ⟨m, h', h⟩⟩
  · rintro ⟨s, hs, h⟩
    obtain ⟨m, h1, h2⟩ := (enB_take e).mp h
    exact ⟨m, (hM m).mpr ⟨s, hs, h1⟩, h2⟩
/-- ascending places of a word of at most 60 names are at most 61 -/
theorem asc_few {n : Nat} : ∀ {l : List Nat} {lo : Nat}, l.Pairwise (· < ·) → (∀ p ∈ l, lo ≤ p ∧ p < n) → l.length ≤ n - lo
  | [], _, _, _ => Nat.zero_le _
  | x :: r, lo, h, k => by
    obtain ⟨h1, h2⟩ := List.pairwise_cons.mp h
    have kx := k x (by simp)
    have ih := asc_few (lo := x + 1) h2 fun p hp => ⟨h1 p hp, (k p (List.mem_cons_of_mem _ hp)).2⟩
    simp only [List.length_cons]
    omega
end FA

set_option Elab.async false
set_option linter.all false
set_option maxRecDepth 100000
set_option maxHeartbeats 4000000
/-! A list comprehension with a test, whose items are small numbers. -/
namespace FA
open PySem PySem.Spec PyProof.Rows L2
def pre (val : Nat → Option Nat) (i : Nat) : List Nat := (List.range i).filterMap val
theorem pre_succ (val : Nat → Option Nat) (i : Nat) : pre val (i + 1) = pre val i ++ (val i).toList := by
  unfold pre
  rw [List.range_succ, List.filterMap_append]
  cases h : val i <;> simp [h]
theorem pre_len (val : Nat → Option Nat) (i : Nat) : (pre val i).length ≤ i := by
  have := List.length_filterMap_le val (List.range i)
  rw [List.length_range] at this
  exact this
theorem pre_mem {val : Nat → Option Nat} {i q : Nat} : q ∈ pre val i ↔ ∃ j, j < i ∧ val j = some q := by
  unfold pre
  rw [List.mem_filterMap]
  exact ⟨fun ⟨j, h, e⟩ => ⟨j, List.mem_range.mp h, e⟩, fun ⟨j, h, e⟩ => ⟨j, List.mem_range.mpr h, e⟩⟩
theorem lcF {J : L2.It} {n : Nat} {g : TG} {tt : TT} {te : TE} {vs : List Nat} {σ : L2.St} {H1 : Hp} {D : Addr} {Qd : Hp → Prop} (hD : H1 D = none) (hn : n < 1000) (Y : Nat → V → Prop) (val : Nat → Option Nat)
    (go : ∀ i H, Same H1 H → i < n → J.go i H) (stop : ∀ H, Same H1 H → J.stop n H) (yld : ∀ i H x H', Same H1 H → i < n → J.yld i H x H' → H' = H ∧ Y i x)
    (step : ∀ i x H (body : Bool → L2.St → Hp → Prop), i < n → Y i x → Same H1 H → (∀ σ2 H2, Same H H2 → (val i = none → body false σ2 H2) ∧ ∀ q : Nat, val i = some q → (∀ Q : VK, Q (.int (q : Int)) H2 → te σ2 H2 Q) → body true σ2 H2) → g x (wipe σ vs) H fun σ2 H2 => wipe σ2 vs = wipe σ vs ∧ tt σ2 H2 fun b H3 => body b σ2 H3)
    (fin : ∀ H, Same H1 H → H D = some (.lst (nts (pre val n))) → Qd H) :
    ∃ W : Nat → Nat → Hp → Prop, (∃ m, W 0 m (upd H1 D (.lst []))) ∧ ∀ i m H, W i m H →
      (J.stop i H ∧ Qd H) ∨ (J.go i H ∧ ∃ Nx : Hp → Prop, (∀ H', Nx H' → ∃ m', m' < m ∧ W (i + 1) m' H') ∧ ∀ x H', J.yld i H x H' → g x (wipe σ vs) H' fun σ2 H2 => wipe σ2 vs = wipe σ vs ∧ tt σ2 H2 fun b H3 =>
        if b = true then te σ2 H3 fun y H4 => ∃ acc, H4 D = some (.lst acc) ∧ acc.length < sizeLine ∧ Nx (upd H4 D (.lst (acc ++ [y]))) else Nx H3) := by
  refine ⟨fun i m H => i ≤ n ∧ m = n - i ∧ Same H1 H ∧ H D = some (.lst (nts (pre val i))), ⟨_, Nat.zero_le _, rfl, fun b o e => by rw [upd_ne (ne_of_none e hD)]; exact e, upd_same⟩, ?_⟩
  rintro i m H ⟨hi, rfl, sm, hd⟩
  by_cases hlt : i < n
  · refine .inr ⟨go i H sm hlt, fun H' => i + 1 ≤ n ∧ Same H1 H' ∧ H' D = some (.lst (nts (pre val (i + 1)))), fun H' h => ⟨n - (i + 1), by omega, h.1, rfl, h.2⟩, fun x H' y => ?_⟩
    obtain ⟨rfl, hY⟩ := yld i H x H' sm hlt y
    refine step i x H' (fun b σ2 H3 => if b = true then te σ2 H3 fun y H4 => ∃ acc, H4 D = some (.lst acc) ∧ acc.length < sizeLine ∧ (i + 1 ≤ n ∧ Same H1 (upd H4 D (.lst (acc ++ [y]))) ∧ (upd H4 D (.lst (acc ++ [y]))) D = some (.lst (nts (pre val (i + 1))))) else (i + 1 ≤ n ∧ Same H1 H3 ∧ H3 D = some (.lst (nts (pre val (i + 1)))))) hlt hY sm fun σ2 H2 s2 => ⟨fun hv => ?_, fun q hv he => ?_⟩
    · rw [if_neg (by decide)]
      refine ⟨hlt, sm.trans s2, ?_⟩
      rw [pre_succ, hv]
      simp only [Option.toList_none, List.append_nil]
      exact s2 _ _ hd
    · rw [if_pos rfl]
      have pl := pre_len val i
      refine he _ ⟨_, s2 _ _ hd, small1000 (by rw [nts_len]; omega), hlt, fun b o e => ?_, ?_⟩
      · rw [upd_ne (ne_of_none e hD)]; exact s2 _ _ (sm _ _ e)
      · rw [upd_same, pre_succ, hv, nts_app]
        rfl
  · have : i = n := by omega
    subst this
    exact .inl ⟨stop H sm, fin H sm hd⟩
section
variable {X : Cx} {K : PySem.W.Frag}
theorem op_notIn_seqK (hK : X.K = K) : OpR X (compareOp .NotIn) (rIn K true) := by subst hK; exact op_notIn_seq
end
theorem eqv_one (ls : List Str) (x : Str) : PyData.eqv (.list (ls.map PyData.str)) (.list [.str x]) = decide (ls = [x]) := by
  match ls with
  | [] => simp [PyData.eqv, PyData.eqvAll]
  | [a] =>
    simp only [List.map_cons, List.map_nil, PyData.eqv, PyData.eqvAll]
    by_cases h : a = x
    · simp [h]
    · simp [h]
  | a :: b :: r => simp [PyData.eqv, PyData.eqvAll]
theorem cut_one {xs : List V} {k : Nat} (h : k ≤ xs.length) : cutV xs (some (k : Int)) (some ((k : Int) + 1)) = (xs.drop k).take 1 := by
  have e : ((k : Int) + 1) = ((k + 1 : Nat) : Int) := rfl
  rw [e]
  unfold cutV
  rw [HT.sIx_nat, HT.sIx_nat, Nat.min_eq_left h]
  by_cases z : k + 1 ≤ xs.length
  · rw [Nat.min_eq_left z, Nat.add_sub_cancel_left]
  · have z2 : k = xs.length := by omega
    subst z2
    rw [List.drop_length, List.take_nil, List.take_nil]
theorem take_one_is {u : List Str} {k : Nat} {x : Str} : (u.drop k).take 1 = [x] ↔ u[k]? = some x := by
  rw [List.take_one, List.head?_drop]
  cases u[k]? <;> simp
theorem pre_asc {val : Nat → Option Nat} : ∀ {n : Nat}, (∀ i j a b, i < j → j < n → val i = some a → val j = some b → a < b) → (pre val n).Pairwise (· < ·)
  | 0, _ => by simp [pre]
  | n + 1, h => by
    rw [pre_succ]
    refine List.pairwise_append.mpr ⟨pre_asc fun i j a b hij hj ha hb => h i j a b hij (by omega) ha hb, ?_, fun a ha b hb => ?_⟩
    · cases val n <;> simp
    · obtain ⟨i, hi, hv⟩ := pre_mem.mp ha
      cases hv2 : val n with
      | none => rw [hv2] at hb; simp at hb
      | some q =>
        rw [hv2] at hb
        simp at hb
        subst hb
        exact h i n a _ hi (by omega) hv hv2
end FA

set_option Elab.async false
set_option linter.all false
set_option maxRecDepth 100000
set_option maxHeartbeats 4000000
/-! Lists of small numbers: sorted(set(..)), sorted(..), == of them. -/
namespace FA
open PySem PySem.Spec PyProof.Rows L2
variable {w : World} {K : PySem.W.Frag}
theorem nts_ints (l : List Nat) : nts l = (l.map fun (q : Nat) => (q : Int)).map V.int := by
  unfold nts
  rw [List.map_map]
  rfl
theorem nts_flat_all (ls : List (List Nat)) : (ls.map nts).flatten = nts ls.flatten := by
  induction ls with
  | nil => rfl
  | cons x r ih => rw [List.map_cons, List.flatten_cons, List.flatten_cons, nts_app, ih]
theorem nat_back {ns : List Int} {C : Nat → Prop} (h : ∀ k : Int, k ∈ ns ↔ ∃ q : Nat, C q ∧ k = (q : Int)) : ns.map V.int = nts (ns.map Int.toNat) ∧ ∀ q, q ∈ ns.map Int.toNat ↔ C q := by
  constructor
  · unfold nts
    rw [List.map_map]
    refine List.map_congr_left fun k hk => ?_
    obtain ⟨q, _, rfl⟩ := (h k).mp hk
    rfl
  · intro q
    rw [List.mem_map]
    constructor
    · rintro ⟨k, hk, rfl⟩
      obtain ⟨q, hq, rfl⟩ := (h k).mp hk
      exact hq
    · intro hq
      exact ⟨(q : Int), (h _).mpr ⟨q, hq, rfl⟩, rfl⟩
theorem toNat_asc {ns : List Int} (h : ns.Pairwise (· < ·)) (nn : ∀ k ∈ ns, 0 ≤ k) : (ns.map Int.toNat).Pairwise (· < ·) := by
  rw [List.pairwise_map]
  refine List.Pairwise.imp_of_mem (fun {a b} ha hb hab => ?_) h
  have := nn a ha
  have := nn b hb
  omega
theorem ints_few : ∀ {ks : List Int} {n : Nat}, ks.Nodup → (∀ k ∈ ks, 0 ≤ k ∧ k < (n : Int)) → ks.length ≤ n := fun {ks n} nd h => by
  have h1 : (ks.map Int.toNat).Nodup := by
    rw [List.Nodup, List.pairwise_map]
    refine List.Pairwise.imp_of_mem (fun {a b} ha hb hab => ?_) nd
    have := h a ha
    have := h b hb
    omega
  have h2 := nodup_len h1 (m := List.range n) fun q hq => by
    obtain ⟨k, hk, rfl⟩ := List.mem_map.mp hq
    have := h k hk
    rw [List.mem_range]
    omega
  rw [List.length_map, List.length_range] at h2
  exact h2
/-- sorted(set(l)) -/
theorem sort_setN {H : Hp} {p : Addr} {l : List Nat} {Q : VK} (hp : H p = some (.lst (nts l))) (hl : l.length ≤ 1000) (small : ∀ q ∈ l, q < 63)
    (q : ∀ a b o qs, H a = none → (upd H a o) b = none → qs.Pairwise (· < ·) → (∀ k, k ∈ qs ↔ k ∈ l) → Q (.ref b) (upd (upd H a o) b (.lst (nts qs)))) :
    rSetIs K w [.ref p] H (fun v H1 => rSortedSet w [v] H1 Q) := by
  refine ⟨p, _, rfl, by rw [nts_ints] at hp; exact SqL.of hp, by rw [List.length_map]; exact hl, fun a n ks ha nd mem len => ?_⟩
  have mem' : ∀ k : Int, k ∈ l.map (fun (q : Nat) => (q : Int)) ↔ ∃ q : Nat, q ∈ l ∧ k = (q : Int) := fun k => by
    rw [List.mem_map]
    exact ⟨fun ⟨q, h, e⟩ => ⟨q, h, e.symm⟩, fun ⟨q, h, e⟩ => ⟨q, h, e.symm⟩⟩
  have n64 : n ≤ 63 := by
    rw [← len]
    refine ints_few nd fun k hk => ?_
    obtain ⟨q0, h0, rfl⟩ := (mem' k).mp ((mem k).mp hk)
    have := small q0 h0
    omega
  refine ⟨a, _, n, rfl, upd_same, by omega, fun ns b pw hm hlen hb => ?_⟩
  have hm' : ∀ k : Int, k ∈ ns ↔ ∃ q : Nat, q ∈ l ∧ k = (q : Int) := fun k => by
    rw [hm, decide_eq_true_eq]
    exact mem' k
  obtain ⟨e1, e2⟩ := nat_back hm'
  rw [e1]
  exact q a b _ _ ha hb (toNat_asc pw fun k hk => by obtain ⟨q0, _, rfl⟩ := (hm' k).mp hk; omega) e2
/-- sorted(l), the numbers of l different -/
theorem sorted_nts {H : Hp} {p : Addr} {l : List Nat} {Q : VK} (hp : H p = some (.lst (nts l))) (hl : l.length < 64) (nd : l.Nodup)
    (q : ∀ b qs, H b = none → qs.Pairwise (· < ·) → (∀ k, k ∈ qs ↔ k ∈ l) → qs.length = l.length → Q (.ref b) (upd H b (.lst (nts qs)))) : rSorted K [.ref p] H Q := by
  refine ⟨p, _, rfl, by rw [nts_ints] at hp; exact SqL.of hp, by rw [List.length_map]; exact hl, fun ns b pm pw hb => ?_⟩
  have mem' : ∀ k : Int, k ∈ ns ↔ ∃ q : Nat, q ∈ l ∧ k = (q : Int) := fun k => by
    rw [pm.mem_iff, List.mem_map]
    exact ⟨fun ⟨q, h, e⟩ => ⟨q, h, e.symm⟩, fun ⟨q, h, e⟩ => ⟨q, h, e.symm⟩⟩
  obtain ⟨e1, e2⟩ := nat_back mem'
  have ndi : (l.map fun (q : Nat) => (q : Int)).Nodup := by
    rw [List.Nodup, List.pairwise_map]
    exact nd.imp fun h e => h (by omega)
  have ndn : ns.Nodup := pm.nodup_iff.mpr ndi
  have pl : ns.Pairwise (· < ·) := by
    refine List.Pairwise.imp₂ (fun {a b} h1 h2 => ?_) pw ndn
    omega
  rw [e1]
  refine q b _ hb (toNat_asc pl fun k hk => by obtain ⟨q0, _, rfl⟩ := (mem' k).mp hk; omega) e2 ?_
  rw [List.length_map, pm.length_eq, List.length_map]
theorem dp_nts {H : Hp} : ∀ ls : List Nat, DpAll K H (nts ls) (ls.map fun (q : Nat) => PyData.int (q : Int))
  | [] => .nil
  | x :: r => .cons (.int x) (dp_nts r)
theorem nts_shaped (ls : List Nat) : SeqAt.shaped (.list (ls.map fun (q : Nat) => PyData.int (q : Int))) = true := by
  refine dt_shaped ?_ ?_
  · induction ls with
    | nil => rfl
    | cons x r ih =>
      simp only [List.map_cons, PyData.canLayAll0, PyData.canLay0, Bool.true_and]
      exact ih
  · have : PyData.depthAll (ls.map fun (q : Nat) => PyData.int (q : Int)) = 0 := by
      induction ls with
      | nil => rfl
      | cons x r ih => simp only [List.map_cons, PyData.depthAll, PyData.depth, ih]; rfl
    rw [this]; omega
theorem nIBs_takeS : ∀ {l : List (List It)} {i : Nat} {b : List It}, l[i]? = some b → nIBs (l.take (i + 1)) = nIBs (l.take i) + nIB b
  | x :: r, 0, b, h => by cases h; simp [nIBs]
  | x :: r, i + 1, b, h => by
    have := nIBs_takeS (l := r) (i := i) (b := b) (by simpa using h)
    simp only [List.take_succ_cons, nIBs, this]
    omega
theorem nIBs_take : ∀ (l : List (List It)) (k : Nat), nIBs (l.take k) ≤ nIBs l
  | [], k => by simp
  | b :: r, 0 => by simp [nIBs]
  | b :: r, k + 1 => by
    have := nIBs_take r k
    simp only [List.take_succ_cons, nIBs]
    omega
end FA

set_option Elab.async false
set_option linter.all false
set_option maxRecDepth 100000
/-! Starts of bodies: by places, and by nets. -/
namespace FA
open PySem
/-! ### each item and each body has a word -/
mutual
theorem wi_ex {ns : List Str} : ∀ i : It, okI ns i → ∃ w, WI i w
  | .call x, _ => ⟨[x], by simp only [WI]⟩
  | .may b, _ => ⟨[], by simp only [WI]; exact .inl trivial⟩
  | .loop b, _ => ⟨[], by simp only [WI]; exact .nil⟩
  | .one bs, h => by
    simp only [okI] at h
    obtain ⟨w, hw⟩ := wbs_ex bs h.2.2.2 (by intro e; rw [e] at h; simp at h)
    exact ⟨w, by simp only [WI]; exact hw⟩
theorem wb_ex {ns : List Str} : ∀ l : List It, okB ns l → ∃ w, WB l w
  | [], _ => ⟨[], by simp only [WB]⟩
  | i :: r, h => by
    simp only [okB] at h
    obtain ⟨u, hu⟩ := wi_ex i h.1
    obtain ⟨v, hv⟩ := wb_ex r h.2
    exact ⟨u ++ v, by simp only [WB]; exact ⟨u, v, rfl, hu, hv⟩⟩
theorem wbs_ex {ns : List Str} : ∀ bs : List (List It), okBs ns bs → bs ≠ [] → ∃ w, WBs bs w
  | [], _, h => absurd rfl h
  | b :: r, h, _ => by
    simp only [okBs] at h
    obtain ⟨w, hw⟩ := wb_ex b h.1
    exact ⟨w, by simp only [WBs]; exact .inl hw⟩
end
/-- the starts -/
def SB (l : List It) (v : List Str) : Prop := ∃ w, WB l (v ++ w)
def SI (i : It) (v : List Str) : Prop := ∃ w, WI i (v ++ w)
def SBs (bs : List (List It)) (v : List Str) : Prop := ∃ w, WBs bs (v ++ w)
/-! ### the places that are seen -/
mutual
def SnI : It → List Str → Nat → Nat → Prop
  | .call _ => fun _ _ _ => False
  | .may b => fun u s p => SnB b u s p
  | .loop b => fun u s p => ∃ m, Again b u s m ∧ SnB b u m p
  | .one bs => fun u s p => SnBs bs u s p
def SnB : List It → List Str → Nat → Nat → Prop
  | [] => fun _ _ _ => False
  | i :: r => fun u s p => (SnI i u s p ∨ EnI i u s p) ∨ ∃ m, EnI i u s m ∧ SnB r u m p
def SnBs : List (List It) → List Str → Nat → Nat → Prop
  | [] => fun _ _ _ => False
  | b :: r => fun u s p => SnB b u s p ∨ SnBs r u s p
end
theorem snBs_iff {u : List Str} {s p : Nat} : ∀ {bs : List (List It)}, SnBs bs u s p ↔ ∃ b ∈ bs, SnB b u s p
  | [] => by simp [SnBs]
  | b :: r => by simp [SnBs, snBs_iff (bs := r)]
theorem enB_cons {i : It} {r : List It} {u : List Str} {s p : Nat} : EnB (i :: r) u s p ↔ ∃ m, EnI i u s m ∧ EnB r u m p := by
  constructor
  · rintro ⟨v, h, w⟩
    simp only [WB] at w
    obtain ⟨v1, v2, rfl, w1, w2⟩ := w
    obtain ⟨m, h1, h2⟩ := sub_app.mp h
    exact ⟨m, ⟨v1, h1, w1⟩, v2, h2, w2⟩
  · rintro ⟨m, ⟨v1, h1, w1⟩, v2, h2, w2⟩
    exact ⟨v1 ++ v2, sub_app.mpr ⟨m, h1, h2⟩, by simp only [WB]; exact ⟨v1, v2, rfl, w1, w2⟩⟩
theorem snB_le {u : List Str} : ∀ {l : List It} {s p : Nat}, SnB l u s p → True := fun _ => trivial
mutual
theorem snI_le {u : List Str} : ∀ (i : It) (s p : Nat), SnI i u s p → s ≤ u.length
  | .call _, s, p, h => by simp only [SnI] at h
  | .may b, s, p, h => by simp only [SnI] at h; exact snB_le' b s p h
  | .loop b, s, p, h => by
    simp only [SnI] at h
    obtain ⟨m, h1, h2⟩ := h
    have := (enI_loop.mpr h1).le
    omega
  | .one bs, s, p, h => by simp only [SnI] at h; exact snBs_le bs s p h
theorem snB_le' {u : List Str} : ∀ (l : List It) (s p : Nat), SnB l u s p → s ≤ u.length
  | [], s, p, h => by simp only [SnB] at h
  | i :: r, s, p, h => by
    simp only [SnB] at h
    rcases h with (h | h) | ⟨m, h, _⟩
    · exact snI_le i s p h
    · have := h.le; omega
    · have := h.le; omega
theorem snBs_le {u : List Str} : ∀ (bs : List (List It)) (s p : Nat), SnBs bs u s p → s ≤ u.length
  | [], s, p, h => by simp only [SnBs] at h
  | b :: r, s, p, h => by
    simp only [SnBs] at h
    rcases h with h | h
    · exact snB_le' b s p h
    · exact snBs_le r s p h
end
theorem snB_take {u : List Str} : ∀ {l : List It} {k : Nat} {i : It}, l[k]? = some i → ∀ {s p : Nat}, SnB (l.take (k + 1)) u s p ↔ SnB (l.take k) u s p ∨ ∃ m, EnB (l.take k) u s m ∧ (SnI i u m p ∨ EnI i u m p)
  | [], k, i, e, s, p => by simp at e
  | j :: r, 0, i, e, s, p => by
    simp at e
    subst e
    simp only [Nat.zero_add, List.take_succ_cons, List.take_zero, SnB, and_false, exists_false, or_false, false_or]
    constructor
    · intro h
      refine ⟨s, enB_nil.mpr ⟨rfl, ?_⟩, h⟩
      rcases h with h | h
      · exact snI_le _ _ _ h
      · have := h.le; omega
    · rintro ⟨m, h1, h2⟩
      rw [(enB_nil.mp h1).1]
      exact h2
  | j :: r, k + 1, i, e, s, p => by
    have ih := fun {s p : Nat} => snB_take (u := u) (l := r) (k := k) (i := i) (by simpa using e) (s := s) (p := p)
    simp only [List.take_succ_cons, SnB]
    constructor
    · rintro (h | ⟨m, h1, h2⟩)
      · exact .inl (.inl h)
      · rcases ih.mp h2 with h | ⟨m', h3, h4⟩
        · exact .inl (.inr ⟨m, h1, h⟩)
        · exact .inr ⟨m', enB_cons.mpr ⟨m, h1, h3⟩, h4⟩
    · rintro ((h | ⟨m, h1, h2⟩) | ⟨m', h3, h4⟩)
      · exact .inl h
      · exact .inr ⟨m, h1, ih.mpr (.inl h2)⟩
      · obtain ⟨m, h1, h2⟩ := enB_cons.mp h3
        exact .inr ⟨m, h1, ih.mpr (.inr ⟨m', h2, h4⟩)⟩
/-! ### what is seen is a start -/
mutual
theorem snI_start {ns u : List Str} : ∀ (i : It) (s p : Nat), okI ns i → SnI i u s p → ∃ v, Sub u s p v ∧ SI i v
  | .call _, s, p, _, h => by simp only [SnI] at h
  | .may b, s, p, ok, h => by
    simp only [SnI] at h
    simp only [okI] at ok
    obtain ⟨v, h1, w, h2⟩ := snB_start b s p ok.2 h
    exact ⟨v, h1, w, by simp only [WI]; exact .inr h2⟩
  | .loop b, s, p, ok, h => by
    simp only [SnI] at h
    simp only [okI] at ok
    obtain ⟨m, h1, h2⟩ := h
    obtain ⟨v1, k1, w1⟩ := enI_loop.mpr h1
    obtain ⟨v2, k2, w, w2⟩ := snB_start b m p ok.2 h2
    simp only [WI] at w1
    refine ⟨v1 ++ v2, sub_app.mpr ⟨m, k1, k2⟩, w, ?_⟩
    simp only [WI]
    by_cases z : v2 ++ w = []
    · rw [List.append_assoc, z, List.append_nil]
      exact w1
    · rw [List.append_assoc]
      exact .snoc w1 w2 z
  | .one bs, s, p, ok, h => by
    simp only [SnI] at h
    simp only [okI] at ok
    obtain ⟨v, h1, w, h2⟩ := snBs_start bs s p ok.2.2.2 h
    exact ⟨v, h1, w, by simp only [WI]; exact h2⟩
theorem snB_start {ns u : List Str} : ∀ (l : List It) (s p : Nat), okB ns l → SnB l u s p → ∃ v, Sub u s p v ∧ SB l v
  | [], s, p, _, h => by simp only [SnB] at h
  | i :: r, s, p, ok, h => by
    simp only [SnB] at h
    simp only [okB] at ok
    obtain ⟨wr, hwr⟩ := wb_ex r ok.2
    rcases h with (h | ⟨v, h1, h2⟩) | ⟨m, ⟨v1, k1, w1⟩, h2⟩
    · obtain ⟨v, h1, w, h2⟩ := snI_start i s p ok.1 h
      exact ⟨v, h1, w ++ wr, by simp only [WB]; exact ⟨v ++ w, wr, by rw [List.append_assoc], h2, hwr⟩⟩
    · exact ⟨v, h1, wr, by simp only [WB]; exact ⟨v, wr, rfl, h2, hwr⟩⟩
    · obtain ⟨v2, k2, w, w2⟩ := snB_start r m p ok.2 h2
      exact ⟨v1 ++ v2, sub_app.mpr ⟨m, k1, k2⟩, w, by simp only [WB]; exact ⟨v1, v2 ++ w, by rw [List.append_assoc], w1, w2⟩⟩
theorem snBs_start {ns u : List Str} : ∀ (bs : List (List It)) (s p : Nat), okBs ns bs → SnBs bs u s p → ∃ v, Sub u s p v ∧ SBs bs v
  | [], s, p, _, h => by simp only [SnBs] at h
  | b :: r, s, p, ok, h => by
    simp only [SnBs] at h
    simp only [okBs] at ok
    rcases h with h | h
    · obtain ⟨v, h1, w, h2⟩ := snB_start b s p ok.1 h
      exact ⟨v, h1, w, by simp only [WBs]; exact .inl h2⟩
    · obtain ⟨v, h1, w, h2⟩ := snBs_start r s p ok.2 h
      exact ⟨v, h1, w, by simp only [WBs]; exact .inr h2⟩
end
/-! ### a start is seen -/
/-- a beginning of turns of L: some turns, and a start of one more -/
theorem star_start {L : List Str → Prop} {z : List Str} (h : Star L z) : ∀ v w, z = v ++ w → ∃ u v', v = u ++ v' ∧ Star L u ∧ (v' = [] ∨ ∃ w', L (v' ++ w')) := by
  induction h with
  | nil =>
    intro v w e
    obtain ⟨rfl, rfl⟩ := List.append_eq_nil_iff.mp e.symm
    exact ⟨[], [], rfl, .nil, .inl rfl⟩
  | @snoc u1 u2 h1 h2 hne ih =>
    intro v w e
    rcases List.append_eq_append_iff.mp e with ⟨a', e1, e2⟩ | ⟨c', e1, e2⟩
    · exact ⟨u1, a', e1, h1, .inr ⟨w, by rw [← e2]; exact h2⟩⟩
    · obtain ⟨u, v', k1, k2, k3⟩ := ih v c' e1
      exact ⟨u, v', k1, k2, k3⟩
mutual
theorem startI {u : List Str} : ∀ (i : It) (s p : Nat) (v : List Str), SI i v → v ≠ [] → Sub u s p v → SnI i u s p ∨ EnI i u s p
  | .call x, s, p, v, h, hv, hs => by
    obtain ⟨w, h⟩ := h
    simp only [WI] at h
    refine .inr (enI_call.mpr (sub_one.mp ?_))
    cases v with
    | nil => exact absurd rfl hv
    | cons y r =>
      rw [List.cons_append, List.cons.injEq] at h
      obtain ⟨h1, h2⟩ := h
      obtain ⟨h3, _⟩ := List.append_eq_nil_iff.mp h2
      rw [h1, h3] at hs
      exact hs
  | .may b, s, p, v, h, hv, hs => by
    obtain ⟨w, h⟩ := h
    simp only [WI] at h
    rcases h with h | h
    · exact absurd (List.append_eq_nil_iff.mp h).1 hv
    · exact .inl (by simp only [SnI]; exact startB b s p v ⟨w, h⟩ hv hs)
  | .loop b, s, p, v, h, hv, hs => by
    obtain ⟨w, h⟩ := h
    simp only [WI] at h
    obtain ⟨u1, v', e, h1, h2⟩ := star_start h v w rfl
    subst e
    obtain ⟨m, k1, k2⟩ := sub_app.mp hs
    have em : EnI (.loop b) u s m := ⟨u1, k1, by simp only [WI]; exact h1⟩
    by_cases z : v' = []
    · subst z
      obtain ⟨rfl, _⟩ := sub_nil.mp k2
      exact .inr em
    · refine .inl ?_
      simp only [SnI]
      refine ⟨m, enI_loop.mp em, startB b m p v' ?_ z k2⟩
      rcases h2 with h2 | h2
      · exact absurd h2 z
      · exact h2
  | .one bs, s, p, v, h, hv, hs => by
    obtain ⟨w, h⟩ := h
    simp only [WI] at h
    exact .inl (by simp only [SnI]; exact startBs bs s p v ⟨w, h⟩ hv hs)
theorem startB {u : List Str} : ∀ (l : List It) (s p : Nat) (v : List Str), SB l v → v ≠ [] → Sub u s p v → SnB l u s p
  | [], s, p, v, h, hv, hs => by
    obtain ⟨w, h⟩ := h
    simp only [WB] at h
    exact absurd (List.append_eq_nil_iff.mp h).1 hv
  | i :: r, s, p, v, h, hv, hs => by
    obtain ⟨w, h⟩ := h
    simp only [WB] at h
    obtain ⟨u1, u2, e, h1, h2⟩ := h
    simp only [SnB]
    rcases List.append_eq_append_iff.mp e with ⟨a', e1, e2⟩ | ⟨c', e1, e2⟩
    · exact .inl (startI i s p v ⟨a', by rw [← e1]; exact h1⟩ hv hs)
    · subst e1
      obtain ⟨m, k1, k2⟩ := sub_app.mp hs
      by_cases z : c' = []
      · subst z
        obtain ⟨rfl, _⟩ := sub_nil.mp k2
        exact .inl (.inr ⟨u1, k1, h1⟩)
      · exact .inr ⟨m, ⟨u1, k1, h1⟩, startB r m p c' ⟨w, by rw [← e2]; exact h2⟩ z k2⟩
theorem startBs {u : List Str} : ∀ (bs : List (List It)) (s p : Nat) (v : List Str), SBs bs v → v ≠ [] → Sub u s p v → SnBs bs u s p
  | [], s, p, v, h, hv, hs => by
    obtain ⟨w, h⟩ := h
    simp only [WBs] at h
  | b :: r, s, p, v, h, hv, hs => by
    obtain ⟨w, h⟩ := h
    simp only [WBs] at h
    simp only [SnBs]
    rcases h with h | h
    · exact .inl (startB b s p v ⟨w, h⟩ hv hs)
    · exact .inr (startBs r s p v ⟨w, h⟩ hv hs)
end
theorem sub_all {u : List Str} : Sub u 0 u.length u := ⟨Nat.zero_le _, Nat.le_refl _, by rw [List.drop_zero, Nat.sub_zero, List.take_length]⟩
/-- a word's end is seen just if the word is a start -/
theorem seen_start {ns : List Str} {l : List It} {u : List Str} (ok : okB ns l) : (u.length = 0 ∨ SnB l u 0 u.length) ∨ EnB l u 0 u.length ↔ SB l u := by
  constructor
  · rintro ((h | h) | h)
    · have : u = [] := List.eq_nil_of_length_eq_zero h
      subst this
      obtain ⟨w, hw⟩ := wb_ex l ok
      exact ⟨w, hw⟩
    · obtain ⟨v, h1, h2⟩ := snB_start l 0 u.length ok h
      have : v = u := by
        obtain ⟨_, _, e⟩ := h1
        rw [List.drop_zero, Nat.sub_zero, List.take_length] at e
        exact e.symm
      rw [← this]
      exact h2
    · exact ⟨[], by rw [List.append_nil]; exact enB_whole.mp h⟩
  · intro h
    by_cases z : u = []
    · exact .inl (.inl (by rw [z]; rfl))
    · exact .inl (.inr (startB l 0 u.length u h z sub_all))
/-! ### starts by nets -/
variable {nm : Nat → Option Str}
def Ext (nm : Nat → Option Str) (a : Pl) : Prop := ∀ w q, At nm a w q → ∃ v, Lg nm a (w ++ v)
theorem ext_e0 : Ext nm .e0 := fun w q h => by
  cases h with
  | first h1 _ => cases h1
  | next _ h2 _ => cases h2
theorem ext_no : Ext nm .no := fun w q h => by
  cases h with
  | first h1 _ => cases h1
  | next _ h2 _ => cases h2
theorem ext_seq {a b : Pl} {n m : Nat} (ha : a.In n) (hb : b.In m) (hm : m = n + a.nm.length) (ea : Ext nm a) (eb : Ext nm b) (ne : ∃ w, Lg nm b w) : Ext nm (a.seq b) := fun w q h => by
  rcases seq_at3 ha hb hm h with ⟨_, h⟩ | ⟨_, u, v, rfl, h1, h2⟩
  · obtain ⟨v, hv⟩ := ea w q h
    obtain ⟨wb, hwb⟩ := ne
    exact ⟨v ++ wb, (seq_lg ha hb hm).mpr ⟨w ++ v, wb, by rw [List.append_assoc], hv, hwb⟩⟩
  · obtain ⟨v', hv⟩ := eb v q h2
    exact ⟨v', (seq_lg ha hb hm).mpr ⟨u, v ++ v', by rw [List.append_assoc], h1, hv⟩⟩
theorem ext_alt {a b : Pl} {n m : Nat} (ha : a.In n) (hb : b.In m) (hm : m = n + a.nm.length) (ea : Ext nm a) (eb : Ext nm b) : Ext nm (a.alt b) := fun w q h => by
  rcases alt_at3 ha hb hm h with ⟨_, h⟩ | ⟨_, h⟩
  · obtain ⟨v, hv⟩ := ea w q h
    exact ⟨v, (alt_lg ha hb hm).mpr (.inl hv)⟩
  · obtain ⟨v, hv⟩ := eb w q h
    exact ⟨v, (alt_lg ha hb hm).mpr (.inr hv)⟩
theorem ext_opt {a : Pl} (ea : Ext nm a) : Ext nm a.opt := fun w q h => by
  obtain ⟨v, hv⟩ := ea w q (At.mono (a := a.opt) (b := a) (fun _ h => h) (fun _ _ h => h) h)
  exact ⟨v, opt_lg.mpr (.inr hv)⟩
theorem ext_turn {a : Pl} (ea : Ext nm a) : Ext nm a.turn := fun w q h => by
  obtain ⟨u, v, rfl, h1, h2⟩ := turn_at2 h
  obtain ⟨v', hv⟩ := ea v q h2
  refine ⟨v', turn_lg.mpr ?_⟩
  rw [List.append_assoc]
  exact .snoc h1 hv (by simp [h2.ne])
mutual
theorem planI_ext {ns : List Str} : ∀ (i : It) (n : Nat), okI ns i → Pla nm n (wrI i) → Ext nm (planI i n)
  | .call x, n, _, h => fun w q hat => by
    have hx : nm n = some x := by have := h 0 (by simp [wrI]); simpa [wrI] using this
    simp only [planI] at hat
    cases hat with
    | first h1 h2 =>
      refine ⟨[], ?_⟩
      simp only [List.mem_singleton] at h1
      subst h1
      rw [hx] at h2
      cases h2
      exact .inr ⟨q, by simp [planI], .first (by simp [planI]) hx⟩
    | next h1 h2 h3 => cases h2
  | .may b, n, ok, h => by
    simp only [wrI] at h
    simp only [okI] at ok
    simp only [planI]
    exact ext_opt (planB_ext b .e0 n e0_in ok.2 (by exact h) ext_e0)
  | .loop b, n, ok, h => by
    simp only [wrI] at h
    simp only [okI] at ok
    simp only [planI]
    exact ext_turn (planB_ext b .e0 n e0_in ok.2 (by exact h) ext_e0)
  | .one bs, n, ok, h => by
    simp only [wrI] at h
    simp only [okI] at ok
    simp only [planI]
    exact planO_ext bs n ok.2.2.2 h
theorem planB_ext {ns : List Str} : ∀ (l : List It) (a : Pl) (n : Nat), a.In n → okB ns l → Pla nm n (a.nm ++ wrB l) → Ext nm a → Ext nm (planB l a n)
  | [], a, n, _, _, _, ea => by simp only [planB]; exact ea
  | i :: r, a, n, hi, ok, h, ea => by
    simp only [wrB] at h
    simp only [okB] at ok
    have ii := planI_in i (n + a.nm.length)
    have h1 : Pla nm (n + a.nm.length) (wrI i) := (Pla.right h).left
    have k := planI_lg i (n + a.nm.length) h1
    simp only [planB]
    obtain ⟨w, hw⟩ := wi_ex i ok.1
    exact planB_ext r _ n (seq_in hi ii rfl) ok.2 (by simp only [Pl.seq, planI_nm i, List.append_assoc]; exact h) (ext_seq hi ii rfl ea (planI_ext i _ ok.1 h1) ⟨w, (k w).mpr hw⟩)
theorem planO_ext {ns : List Str} : ∀ (bs : List (List It)) (n : Nat), okBs ns bs → Pla nm n (wrBs bs) → Ext nm (planO bs n)
  | [], n, _, _ => by simp only [planO]; exact ext_no
  | b :: r, n, ok, h => by
    simp only [wrBs] at h
    simp only [okBs] at ok
    simp only [planO]
    exact planA_ext r _ n (planB_in b .e0 n e0_in) ok.2 (by rw [planB_nm b]; exact h) (planB_ext b .e0 n e0_in ok.1 (by exact h.left) ext_e0)
theorem planA_ext {ns : List Str} : ∀ (bs : List (List It)) (a : Pl) (n : Nat), a.In n → okBs ns bs → Pla nm n (a.nm ++ wrBs bs) → Ext nm a → Ext nm (planA bs a n)
  | [], a, n, _, _, _, ea => by simp only [planA]; exact ea
  | b :: r, a, n, hi, ok, h, ea => by
    simp only [wrBs] at h
    simp only [okBs] at ok
    have h1 : Pla nm (n + a.nm.length) (wrB b) := (Pla.right h).left
    have ii := planB_in b .e0 (n + a.nm.length) e0_in
    simp only [planA]
    exact planA_ext r _ n (alt_in hi ii rfl) ok.2 (by simp only [Pl.alt, planB_nm b, Pl.e0, List.nil_append, List.append_assoc]; exact h) (ext_alt hi ii rfl ea (planB_ext b .e0 _ e0_in ok.1 (by exact h1) ext_e0))
end
/-- the net of a body has a place behind a word just if it is a start -/
theorem plan_starts {ns : List Str} {l : List It} {u : List Str} (ok : okB ns l) : (∃ q, Beh (planB l .e0 1) u q) ↔ SB l u := by
  have inn : (planB l .e0 1).In 1 := planB_in l .e0 1 e0_in
  have hn : (planB l .e0 1).nm = wrB l := by rw [planB_nm]; rfl
  have pl : Pla (nmz (planB l .e0 1)) 1 (Pl.e0.nm ++ wrB l) := fun k hk => by
    unfold nmz
    rw [if_neg (by omega), hn]
    show (wrB l)[1 + k - 1]? = (wrB l)[k]?
    rw [Nat.add_sub_cancel_left]
  have ex : Ext (nmz (planB l .e0 1)) (planB l .e0 1) := planB_ext l .e0 1 e0_in ok pl ext_e0
  constructor
  · rintro ⟨q, ⟨rfl, _⟩ | h⟩
    · obtain ⟨w, hw⟩ := wb_ex l ok
      exact ⟨w, hw⟩
    · obtain ⟨v, hv⟩ := ex u q h
      exact ⟨v, plan_words.mp hv⟩
  · rintro ⟨w, hw⟩
    have key : ∀ (w : List Str), (∃ q, Beh (planB l .e0 1) (u ++ w.reverse) q) → ∃ q, Beh (planB l .e0 1) u q := fun w => by
      induction w with
      | nil => intro h; simpa using h
      | cons x r ih =>
        rintro ⟨q, h⟩
        rw [List.reverse_cons, ← List.append_assoc] at h
        obtain ⟨s, hs, _⟩ := (beh_snoc inn).mp h
        exact ih ⟨s, hs⟩
    have lg := (beh_lg inn).mpr (plan_words.mpr hw)
    obtain ⟨q, hq, _⟩ := lg
    exact key w.reverse ⟨q, by rw [List.reverse_reverse]; exact hq⟩
/-- what begins a start is one -/
theorem SB.pre {l : List It} {u v : List Str} (h : SB l (u ++ v)) : SB l u := let ⟨w, hw⟩ := h; ⟨v ++ w, by rw [← List.append_assoc]; exact hw⟩
theorem SB.word {l : List It} {u : List Str} (h : WB l u) : SB l u := ⟨[], by rw [List.append_nil]; exact h⟩
end FA

set_option Elab.async false
set_option linter.all false
set_option maxRecDepth 100000
set_option maxHeartbeats 4000000
/-! The text of the law and the program, by places. -/
namespace K05
open PySem PySem.Spec PyProof.Rows L2 FA
def top (i : Nat) : Stmt := PySem.Challenge.pw_stacksamples_k05_starts_of_functions.main.body.getD i (.Pass ⟨0, 0, 0, 0⟩)
abbrev sBodiesWithin : Stmt := top 1
theorem scBodiesWithin : FnScope ["item"] ["item"] (defScope sBodiesWithin) := ⟨rfl, rfl, rfl, by decide +kernel, rfl, by decide +kernel, by decide +kernel⟩
abbrev sOneBehindOther : Stmt := top 2
theorem scOneBehindOther : FnScope ["plan", "other", "between", "names", "firsts", "lasts", "pairs", "empty", "other_names", "other_firsts", "other_lasts", "other_pairs", "other_empty", "last", "first"] ["plan", "other"] (defScope sOneBehindOther) := ⟨rfl, rfl, rfl, by decide +kernel, rfl, by decide +kernel, by decide +kernel⟩
abbrev sOneOrOther : Stmt := top 3
theorem scOneOrOther : FnScope ["plan", "other", "names", "firsts", "lasts", "pairs", "empty", "other_names", "other_firsts", "other_lasts", "other_pairs", "other_empty"] ["plan", "other"] (defScope sOneOrOther) := ⟨rfl, rfl, rfl, by decide +kernel, rfl, by decide +kernel, by decide +kernel⟩
abbrev sPlanOfItem : Stmt := top 4
theorem scPlanOfItem : FnScope ["item", "number", "inner", "plan", "body", "names", "firsts", "lasts", "pairs", "empty", "last", "first"] ["item", "number"] (defScope sPlanOfItem) := ⟨rfl, rfl, rfl, by decide +kernel, rfl, by decide +kernel, by decide +kernel⟩
abbrev sPlanOfBody : Stmt := top 5
theorem scPlanOfBody : FnScope ["body", "number", "plan", "item"] ["body", "number"] (defScope sPlanOfBody) := ⟨rfl, rfl, rfl, by decide +kernel, rfl, by decide +kernel, by decide +kernel⟩
abbrev sNetOf : Stmt := top 6
theorem scNetOf : FnScope ["body", "moves", "nexts", "ends", "names", "firsts", "lasts", "pairs", "empty", "state", "first", "before", "after"] ["body"] (defScope sNetOf) := ⟨rfl, rfl, rfl, by decide +kernel, rfl, by decide +kernel, by decide +kernel⟩
abbrev sStatesAfter : Stmt := top 7
theorem scStatesAfter : FnScope ["net", "states", "name", "names", "nexts", "_", "state", "after"] ["net", "states", "name"] (defScope sStatesAfter) := ⟨rfl, rfl, rfl, by decide +kernel, rfl, by decide +kernel, by decide +kernel⟩
abbrev sStatesBehind : Stmt := top 8
theorem scStatesBehind : FnScope ["net", "word", "states", "name"] ["net", "word"] (defScope sStatesBehind) := ⟨rfl, rfl, rfl, by decide +kernel, rfl, by decide +kernel, by decide +kernel⟩
abbrev sIsName : Stmt := top 23
theorem scIsName : FnScope ["value", "letter"] ["value"] (defScope sIsName) := ⟨rfl, rfl, rfl, by decide +kernel, rfl, by decide +kernel, by decide +kernel⟩
abbrev sIsFunction : Stmt := top 24
theorem scIsFunction : FnScope ["program", "value"] ["program", "value"] (defScope sIsFunction) := ⟨rfl, rfl, rfl, by decide +kernel, rfl, by decide +kernel, by decide +kernel⟩
abbrev sChoices : Stmt := top 25
theorem scChoices : FnScope ["item", "kind", "within"] ["item"] (defScope sChoices) := ⟨rfl, rfl, rfl, by decide +kernel, rfl, by decide +kernel, by decide +kernel⟩
abbrev sItemSize : Stmt := top 26
theorem scItemSize : FnScope ["program", "item", "level", "choices", "sizes", "body", "calls", "_", "items"] ["program", "item", "level"] (defScope sItemSize) := ⟨rfl, rfl, rfl, by decide +kernel, rfl, by decide +kernel, by decide +kernel⟩
abbrev sBodySize : Stmt := top 27
theorem scBodySize : FnScope ["program", "body", "level", "calls", "items", "item", "size"] ["program", "body", "level"] (defScope sBodySize) := ⟨rfl, rfl, rfl, by decide +kernel, rfl, by decide +kernel, by decide +kernel⟩
abbrev sLeastInItem : Stmt := top 28
theorem scLeastInItem : FnScope ["least", "item", "body"] ["least", "item"] (defScope sLeastInItem) := ⟨rfl, rfl, rfl, by decide +kernel, rfl, by decide +kernel, by decide +kernel⟩
abbrev sLeastInBody : Stmt := top 29
theorem scLeastInBody : FnScope ["least", "body", "item"] ["least", "body"] (defScope sLeastInBody) := ⟨rfl, rfl, rfl, by decide +kernel, rfl, by decide +kernel, by decide +kernel⟩
abbrev sLeastCalls : Stmt := top 30
theorem scLeastCalls : FnScope ["program", "too_many", "least", "_", "name"] ["program"] (defScope sLeastCalls) := ⟨rfl, rfl, rfl, by decide +kernel, rfl, by decide +kernel, by decide +kernel⟩
abbrev sIsProgram : Stmt := top 31
theorem scIsProgram : FnScope ["value", "least", "name"] ["value"] (defScope sIsProgram) := ⟨rfl, rfl, rfl, by decide +kernel, rfl, by decide +kernel, by decide +kernel⟩
abbrev sCheckProgram : Stmt := top 32
theorem scCheckProgram : FnScope ["program"] ["program"] (defScope sCheckProgram) := ⟨rfl, rfl, rfl, by decide +kernel, rfl, by decide +kernel, by decide +kernel⟩
abbrev sCheckName : Stmt := top 33
theorem scCheckName : FnScope ["program", "name"] ["program", "name"] (defScope sCheckName) := ⟨rfl, rfl, rfl, by decide +kernel, rfl, by decide +kernel, by decide +kernel⟩
abbrev sCheckWord : Stmt := top 34
theorem scCheckWord : FnScope ["program", "word", "name"] ["program", "word"] (defScope sCheckWord) := ⟨rfl, rfl, rfl, by decide +kernel, rfl, by decide +kernel, by decide +kernel⟩
abbrev sIsWord : Stmt := top 35
theorem scIsWord : FnScope ["program", "name", "word", "net", "state"] ["program", "name", "word"] (defScope sIsWord) := ⟨rfl, rfl, rfl, by decide +kernel, rfl, by decide +kernel, by decide +kernel⟩
abbrev sIsStart : Stmt := top 36
theorem scIsStart : FnScope ["program", "name", "word"] ["program", "name", "word"] (defScope sIsStart) := ⟨rfl, rfl, rfl, by decide +kernel, rfl, by decide +kernel, by decide +kernel⟩
abbrev sLWell : Stmt := top 38
theorem scLWell : FnScope ["script", "k", "cell"] ["script", "k"] (defScope sLWell) := ⟨rfl, rfl, rfl, by decide +kernel, rfl, by decide +kernel, by decide +kernel⟩
abbrev sLPull : Stmt := top 39
theorem scLPull : FnScope ["well", "many", "mixed", "pulled"] ["well", "many"] (defScope sLPull) := ⟨rfl, rfl, rfl, by decide +kernel, rfl, by decide +kernel, by decide +kernel⟩
abbrev sLShuffled : Stmt := top 40
theorem scLShuffled : FnScope ["well", "items", "left", "turn"] ["well", "items"] (defScope sLShuffled) := ⟨rfl, rfl, rfl, by decide +kernel, rfl, by decide +kernel, by decide +kernel⟩
abbrev sLItem : Stmt := top 41
theorem scLItem : FnScope ["well", "later", "every", "room", "deep", "way", "bodies", "some", "spot", "inner", "turn"] ["well", "later", "every", "room", "deep"] (defScope sLItem) := ⟨rfl, rfl, rfl, by decide +kernel, rfl, by decide +kernel, by decide +kernel⟩
abbrev sLBody : Stmt := top 42
theorem scLBody : FnScope ["well", "later", "every", "room", "deep", "body", "turn", "item"] ["well", "later", "every", "room", "deep"] (defScope sLBody) := ⟨rfl, rfl, rfl, by decide +kernel, rfl, by decide +kernel, by decide +kernel⟩
abbrev sLCost : Stmt := top 43
theorem scLCost : FnScope ["body", "least", "found", "item", "inner"] ["body", "least"] (defScope sLCost) := ⟨rfl, rfl, rfl, by decide +kernel, rfl, by decide +kernel, by decide +kernel⟩
abbrev sLProgram : Stmt := top 44
theorem scLProgram : FnScope ["well", "most", "some", "others", "spot", "order", "least", "rows", "body"] ["well", "most"] (defScope sLProgram) := ⟨rfl, rfl, rfl, by decide +kernel, rfl, by decide +kernel, by decide +kernel⟩
abbrev sLChosen : Stmt := top 45
theorem scLChosen : FnScope ["well", "body", "often", "word", "item", "many", "turn"] ["well", "body", "often"] (defScope sLChosen) := ⟨rfl, rfl, rfl, by decide +kernel, rfl, by decide +kernel, by decide +kernel⟩
abbrev sLEnds : Stmt := top 46
theorem scLEnds : FnScope ["body", "word", "starts", "seen", "here", "item", "place", "more", "inner"] ["body", "word", "starts", "seen"] (defScope sLEnds) := ⟨rfl, rfl, rfl, by decide +kernel, rfl, by decide +kernel, by decide +kernel⟩
abbrev sLDue : Stmt := top 47
theorem scLDue : FnScope ["body", "word", "seen", "ends"] ["body", "word"] (defScope sLDue) := ⟨rfl, rfl, rfl, by decide +kernel, rfl, by decide +kernel, by decide +kernel⟩
abbrev sLRight : Stmt := top 48
theorem scLRight : FnScope ["program", "name", "word", "kept", "due"] ["program", "name", "word"] (defScope sLRight) := ⟨rfl, rfl, rfl, by decide +kernel, rfl, by decide +kernel, by decide +kernel⟩
abbrev sLNear : Stmt := top 49
theorem scLNear : FnScope ["well", "program", "word", "name", "some", "every", "at"] ["well", "program", "word"] (defScope sLNear) := ⟨rfl, rfl, rfl, by decide +kernel, rfl, by decide +kernel, by decide +kernel⟩
abbrev sLaw : Stmt := top 50
theorem scLaw : FnScope ["script", "k", "program", "words", "well", "turn", "name", "word", "again"] ["script"] (defScope sLaw) := ⟨rfl, rfl, rfl, by decide +kernel, rfl, by decide +kernel, by decide +kernel⟩
/-- what the top has left: the defs, the constants, and that the built-in names are the built-in ones -/
structure Txt (K : PySem.W.Frag) (mg : Str → Option Value) where
  aBodiesWithin : Addr
  fBodiesWithin : FuncData
  FBodiesWithin : Fun K "bodies_within" "bodies_within" sBodiesWithin aBodiesWithin fBodiesWithin
  bBodiesWithin : Binds K fBodiesWithin ["item"] []
  gBodiesWithin : mg "bodies_within" = some (.ref aBodiesWithin)
  aOneBehindOther : Addr
  fOneBehindOther : FuncData
  FOneBehindOther : Fun K "_one_behind_other" "_one_behind_other" sOneBehindOther aOneBehindOther fOneBehindOther
  bOneBehindOther : Binds K fOneBehindOther ["plan", "other"] []
  gOneBehindOther : mg "_one_behind_other" = some (.ref aOneBehindOther)
  aOneOrOther : Addr
  fOneOrOther : FuncData
  FOneOrOther : Fun K "_one_or_other" "_one_or_other" sOneOrOther aOneOrOther fOneOrOther
  bOneOrOther : Binds K fOneOrOther ["plan", "other"] []
  gOneOrOther : mg "_one_or_other" = some (.ref aOneOrOther)
  aPlanOfItem : Addr
  fPlanOfItem : FuncData
  FPlanOfItem : Fun K "_plan_of_item" "_plan_of_item" sPlanOfItem aPlanOfItem fPlanOfItem
  bPlanOfItem : Binds K fPlanOfItem ["item", "number"] []
  gPlanOfItem : mg "_plan_of_item" = some (.ref aPlanOfItem)
  aPlanOfBody : Addr
  fPlanOfBody : FuncData
  FPlanOfBody : Fun K "_plan_of_body" "_plan_of_body" sPlanOfBody aPlanOfBody fPlanOfBody
  bPlanOfBody : Binds K fPlanOfBody ["body", "number"] []
  gPlanOfBody : mg "_plan_of_body" = some (.ref aPlanOfBody)
  aNetOf : Addr
  fNetOf : FuncData
  FNetOf : Fun K "net_of" "net_of" sNetOf aNetOf fNetOf
  bNetOf : Binds K fNetOf ["body"] []
  gNetOf : mg "net_of" = some (.ref aNetOf)
  aStatesAfter : Addr
  fStatesAfter : FuncData
  FStatesAfter : Fun K "states_after" "states_after" sStatesAfter aStatesAfter fStatesAfter
  bStatesAfter : Binds K fStatesAfter ["net", "states", "name"] []
  gStatesAfter : mg "states_after" = some (.ref aStatesAfter)
  aStatesBehind : Addr
  fStatesBehind : FuncData
  FStatesBehind : Fun K "states_behind" "states_behind" sStatesBehind aStatesBehind fStatesBehind
  bStatesBehind : Binds K fStatesBehind ["net", "word"] []
  gStatesBehind : mg "states_behind" = some (.ref aStatesBehind)
  aIsName : Addr
  fIsName : FuncData
  FIsName : Fun K "is_name" "is_name" sIsName aIsName fIsName
  bIsName : Binds K fIsName ["value"] []
  gIsName : mg "is_name" = some (.ref aIsName)
  aIsFunction : Addr
  fIsFunction : FuncData
  FIsFunction : Fun K "is_function" "is_function" sIsFunction aIsFunction fIsFunction
  bIsFunction : Binds K fIsFunction ["program", "value"] []
  gIsFunction : mg "is_function" = some (.ref aIsFunction)
  aChoices : Addr
  fChoices : FuncData
  FChoices : Fun K "_choices" "_choices" sChoices aChoices fChoices
  bChoices : Binds K fChoices ["item"] []
  gChoices : mg "_choices" = some (.ref aChoices)
  aItemSize : Addr
  fItemSize : FuncData
  FItemSize : Fun K "_item_size" "_item_size" sItemSize aItemSize fItemSize
  bItemSize : Binds K fItemSize ["program", "item", "level"] []
  gItemSize : mg "_item_size" = some (.ref aItemSize)
  aBodySize : Addr
  fBodySize : FuncData
  FBodySize : Fun K "_body_size" "_body_size" sBodySize aBodySize fBodySize
  bBodySize : Binds K fBodySize ["program", "body", "level"] []
  gBodySize : mg "_body_size" = some (.ref aBodySize)
  aLeastInItem : Addr
  fLeastInItem : FuncData
  FLeastInItem : Fun K "_least_in_item" "_least_in_item" sLeastInItem aLeastInItem fLeastInItem
  bLeastInItem : Binds K fLeastInItem ["least", "item"] []
  gLeastInItem : mg "_least_in_item" = some (.ref aLeastInItem)
  aLeastInBody : Addr
  fLeastInBody : FuncData
  FLeastInBody : Fun K "_least_in_body" "_least_in_body" sLeastInBody aLeastInBody fLeastInBody
  bLeastInBody : Binds K fLeastInBody ["least", "body"] []
  gLeastInBody : mg "_least_in_body" = some (.ref aLeastInBody)
  aLeastCalls : Addr
  fLeastCalls : FuncData
  FLeastCalls : Fun K "_least_calls" "_least_calls" sLeastCalls aLeastCalls fLeastCalls
  bLeastCalls : Binds K fLeastCalls ["program"] []
  gLeastCalls : mg "_least_calls" = some (.ref aLeastCalls)
  aIsProgram : Addr
  fIsProgram : FuncData
  FIsProgram : Fun K "is_program" "is_program" sIsProgram aIsProgram fIsProgram
  bIsProgram : Binds K fIsProgram ["value"] []
  gIsProgram : mg "is_program" = some (.ref aIsProgram)
  aCheckProgram : Addr
  fCheckProgram : FuncData
  FCheckProgram : Fun K "check_program" "check_program" sCheckProgram aCheckProgram fCheckProgram
  bCheckProgram : Binds K fCheckProgram ["program"] []
  gCheckProgram : mg "check_program" = some (.ref aCheckProgram)
  aCheckName : Addr
  fCheckName : FuncData
  FCheckName : Fun K "check_name" "check_name" sCheckName aCheckName fCheckName
  bCheckName : Binds K fCheckName ["program", "name"] []
  gCheckName : mg "check_name" = some (.ref aCheckName)
  aCheckWord : Addr
  fCheckWord : FuncData
  FCheckWord : Fun K "check_word" "check_word" sCheckWord aCheckWord fCheckWord
  bCheckWord : Binds K fCheckWord ["program", "word"] []
  gCheckWord : mg "check_word" = some (.ref aCheckWord)
  aIsWord : Addr
  fIsWord : FuncData
  FIsWord : Fun K "is_word" "is_word" sIsWord aIsWord fIsWord
  bIsWord : Binds K fIsWord ["program", "name", "word"] []
  gIsWord : mg "is_word" = some (.ref aIsWord)
  aIsStart : Addr
  fIsStart : FuncData
  FIsStart : Fun K "is_start" "is_start" sIsStart aIsStart fIsStart
  bIsStart : Binds K fIsStart ["program", "name", "word"] []
  gIsStart : mg "is_start" = some (.ref aIsStart)
  aLWell : Addr
  fLWell : FuncData
  FLWell : Fun K "_law_well" "_law_well" sLWell aLWell fLWell
  bLWell : Binds K fLWell ["script", "k"] []
  gLWell : mg "_law_well" = some (.ref aLWell)
  aLPull : Addr
  fLPull : FuncData
  FLPull : Fun K "_law_pull" "_law_pull" sLPull aLPull fLPull
  bLPull : Binds K fLPull ["well", "many"] []
  gLPull : mg "_law_pull" = some (.ref aLPull)
  aLShuffled : Addr
  fLShuffled : FuncData
  FLShuffled : Fun K "_law_shuffled" "_law_shuffled" sLShuffled aLShuffled fLShuffled
  bLShuffled : Binds K fLShuffled ["well", "items"] []
  gLShuffled : mg "_law_shuffled" = some (.ref aLShuffled)
  aLItem : Addr
  fLItem : FuncData
  FLItem : Fun K "_law_item" "_law_item" sLItem aLItem fLItem
  bLItem : Binds K fLItem ["well", "later", "every", "room", "deep"] []
  gLItem : mg "_law_item" = some (.ref aLItem)
  aLBody : Addr
  fLBody : FuncData
  FLBody : Fun K "_law_body" "_law_body" sLBody aLBody fLBody
  bLBody : Binds K fLBody ["well", "later", "every", "room", "deep"] []
  gLBody : mg "_law_body" = some (.ref aLBody)
  aLCost : Addr
  fLCost : FuncData
  FLCost : Fun K "_law_cost" "_law_cost" sLCost aLCost fLCost
  bLCost : Binds K fLCost ["body", "least"] []
  gLCost : mg "_law_cost" = some (.ref aLCost)
  aLProgram : Addr
  fLProgram : FuncData
  FLProgram : Fun K "_law_program" "_law_program" sLProgram aLProgram fLProgram
  bLProgram : Binds K fLProgram ["well", "most"] []
  gLProgram : mg "_law_program" = some (.ref aLProgram)
  aLChosen : Addr
  fLChosen : FuncData
  FLChosen : Fun K "_law_chosen" "_law_chosen" sLChosen aLChosen fLChosen
  bLChosen : Binds K fLChosen ["well", "body", "often"] []
  gLChosen : mg "_law_chosen" = some (.ref aLChosen)
  aLEnds : Addr
  fLEnds : FuncData
  FLEnds : Fun K "_law_ends" "_law_ends" sLEnds aLEnds fLEnds
  bLEnds : Binds K fLEnds ["body", "word", "starts", "seen"] []
  gLEnds : mg "_law_ends" = some (.ref aLEnds)
  aLDue : Addr
  fLDue : FuncData
  FLDue : Fun K "_law_due" "_law_due" sLDue aLDue fLDue
  bLDue : Binds K fLDue ["body", "word"] []
  gLDue : mg "_law_due" = some (.ref aLDue)
  aLRight : Addr
  fLRight : FuncData
  FLRight : Fun K "_law_right" "_law_right" sLRight aLRight fLRight
  bLRight : Binds K fLRight ["program", "name", "word"] []
  gLRight : mg "_law_right" = some (.ref aLRight)
  aLNear : Addr
  fLNear : FuncData
  FLNear : Fun K "_law_near" "_law_near" sLNear aLNear fLNear
  bLNear : Binds K fLNear ["well", "program", "word"] []
  gLNear : mg "_law_near" = some (.ref aLNear)
  aLaw : Addr
  fLaw : FuncData
  FLaw : Fun K "law" "law" sLaw aLaw fLaw
  bLaw : Binds K fLaw ["script"] []
  gLaw : mg "law" = some (.ref aLaw)
  n_all : mg "all" = none
  n_any : mg "any" = none
  n_dict : mg "dict" = none
  n_int : mg "int" = none
  n_isinstance : mg "isinstance" = none
  n_len : mg "len" = none
  n_list : mg "list" = none
  n_max : mg "max" = none
  n_min : mg "min" = none
  n_range : mg "range" = none
  n_repr : mg "repr" = none
  n_set : mg "set" = none
  n_sorted : mg "sorted" = none
  n_str : mg "str" = none
  n_sum : mg "sum" = none
  n_tuple : mg "tuple" = none
  t_FEWEST_CHOICES : Tok
  c_FEWEST_CHOICES : mg "FEWEST_CHOICES" = some (.int 2 t_FEWEST_CHOICES)
  t_MOST_CALLS : Tok
  c_MOST_CALLS : mg "MOST_CALLS" = some (.int 5 t_MOST_CALLS)
  t_MOST_CALLS_TO_RETURN : Tok
  c_MOST_CALLS_TO_RETURN : mg "MOST_CALLS_TO_RETURN" = some (.int 12 t_MOST_CALLS_TO_RETURN)
  t_MOST_CHOICES : Tok
  c_MOST_CHOICES : mg "MOST_CHOICES" = some (.int 4 t_MOST_CHOICES)
  t_MOST_FUNCTIONS : Tok
  c_MOST_FUNCTIONS : mg "MOST_FUNCTIONS" = some (.int 6 t_MOST_FUNCTIONS)
  t_MOST_ITEMS : Tok
  c_MOST_ITEMS : mg "MOST_ITEMS" = some (.int 12 t_MOST_ITEMS)
  t_MOST_LETTERS : Tok
  c_MOST_LETTERS : mg "MOST_LETTERS" = some (.int 8 t_MOST_LETTERS)
  t_MOST_LEVELS : Tok
  c_MOST_LEVELS : mg "MOST_LEVELS" = some (.int 4 t_MOST_LEVELS)
end K05


set_option Elab.async false
set_option linter.all false
set_option maxRecDepth 100000
set_option maxHeartbeats 4000000
namespace K05
open PySem PySem.Spec PyProof.Rows L2 FA
variable {P : Program} {w : World} {K : PySem.W.Frag} {mg : Str → Option Value} {base : Heap}

theorem not_lt1 {a b : Nat} (h : b ≤ a) : ¬ [a] < [b] := fun z => by
  cases z with
  | rel z => omega
  | cons z => cases z
def spIsName : Sp := fun vs H Q _ => ∃ x : Str, vs = [.str x] ∧ okName x ∧ ∀ H', Same H H' → Q (.bl true) H'
theorem okIsName (T : Txt K mg) : FnOk P w K mg base CX0 1 T.aIsName T.fIsName ["value"] spIsName := by
  refine T.FIsName.ok scIsName (fun vs H Q E h => ?_) (fun cdv A outer s H vs Q E hr h => ?_)
  · obtain ⟨x, rfl, _⟩ := h
    rfl
  obtain ⟨x, rfl, ⟨h1, h2, h3⟩, q⟩ := h
  have hu := hu_of hr
  have hs := sizeLine_eq
  refine ⟨_, (pss_cons (ps_if (PW.pt (pw_or (pt_not (pt_val (pe_callB call_isi (by rfl) T.n_isinstance (by decide +kernel) (pa_cons (pv 0) (pa_cons (pe_bltn (v := .ty "str") (by rfl) T.n_str (by decide +kernel) rfl) pa_nil))))) (pw_or1 (pt_not (pt_chain op_le op_le pe_int (pe_callB call_len_str (by rfl) T.n_len PySem.boot_len (pa_cons (pv 0) pa_nil)) (pe_glob (v := .int 8) rfl T.c_MOST_LETTERS ⟨_, rfl⟩))))))
        (pss_one (ps_ret pe_bl)) pss_nil)
      (pss_one (ps_ret (pe_callB (cr_all rfl) (by rfl) T.n_all (by decide +kernel) (pa_cons (pe_lc (own := [("letter", 1)]) (g := gName 1) (tt := tYes) rfl scIsName.nd (pi_str (pv 0)) (blkOk_by (N := ["value", "letter"]) (sc := defScope sIsName) (by decide +kernel)) (fun _ _ _ _ _ => (pg_name (i := 1) scIsName.nd rfl (by first | exact Or.inl rfl | exact Or.inr rfl))) (fun _ _ _ _ _ => pts_nil) (fun _ _ _ _ _ => (pe_chain op_le_str op_le_str pe_str (pv 1) pe_str))) pa_nil))))), ?_⟩
  refine ⟨_, rfl, _, _, _, _, true, rfl, .ty _, ty_str x, kit_ty (by decide +kernel), _, rfl, iteF ?_⟩
  refine ⟨_, rfl, _, rfl, by omega, _, _, rfl, rfl, _, rfl, ?_⟩
  refine ite2 (fun c => ?_) (fun c => absurd (decide_eq_true (by omega)) c)
  refine ⟨_, _, rfl, rfl, _, rfl, ?_⟩
  refine ite2 (fun c => absurd (c.symm.trans (congrArg not (decide_eq_true (by omega)))) (by decide)) (fun c => ?_)
  refine ⟨_, rfl, _, rfl, fun D hD => lcS (n := x.cps.size) hD (by show x.cps.size < _; have : x.cps.size = x.length := rfl; omega) (fun i v => ∃ c, x.cps[i]? = some c ∧ v = .str ⟨#[c]⟩) (fun _ v _ => v = .bl true) go_s stop_s yld_s (fun _ _ _ _ _ e => e) ?_ ?_⟩
  · rintro i _ H1 R hi ⟨c, hc, rfl⟩ sm k
    have hc' := h3 c (by
      rw [← Array.getElem?_toList] at hc
      exact List.mem_of_getElem? hc)
    refine ⟨rfl, _, rfl, _, _, rfl, rfl, _, rfl, ?_⟩
    have e1 : (!decide ([c] < ("a" : Str).cps.toList)) = true := by
      have : ("a" : Str).cps.toList = [97] := by decide +kernel
      rw [this, decide_eq_false (not_lt1 hc'.1)]
      rfl
    have e2 : (!decide (("z" : Str).cps.toList < [c])) = true := by
      have : ("z" : Str).cps.toList = [122] := by decide +kernel
      rw [this, decide_eq_false (not_lt1 hc'.2)]
      rfl
    refine ite2 (fun _ => ⟨_, _, rfl, rfl, ?_⟩) (fun n => absurd e1 n)
    rw [e2]
    exact k _ _ (Same.refl _) rfl
  · intro H1 ys sm hy hl hg
    have ey : ys = (List.replicate x.cps.size true).map V.bl := by
      refine List.ext_getElem? fun j => ?_
      rw [List.map_replicate, List.getElem?_replicate]
      by_cases hj : j < ys.length
      · have := hg j ys[j] (List.getElem?_eq_getElem hj)
        rw [List.getElem?_eq_getElem hj, this, if_pos (by omega)]
      · rw [List.getElem?_eq_none (by omega), if_neg (by omega)]
    refine ⟨D, _, rfl, SqL.of (by rw [hy, ey]), ?_⟩
    have e : ((List.replicate x.cps.size true).all id) = true := by simp
    rw [e]
    exact q H1 sm
end K05


set_option Elab.async false
set_option linter.all false
set_option maxRecDepth 100000
set_option maxHeartbeats 4000000
namespace K05
open PySem PySem.Spec PyProof.Rows L2 FA
variable {P : Program} {w : World} {K : PySem.W.Frag} {mg : Str → Option Value} {base : Heap}
/-- the bodies within an item -/
def subs : FA.It → List (List FA.It)
  | .call _ => []
  | .may b => [b]
  | .loop b => [b]
  | .one bs => bs
def spChoices : Sp := fun vs H Q _ => ∃ (v : V) (it : FA.It) (ns : List Str), vs = [v] ∧ ItAt H v it ∧ (∀ x, it ≠ .call x) ∧ okI ns it ∧ (∀ x ∈ ns, FA.okName x) ∧ dI it ≤ 6 ∧
  ∀ c ws H', Same H H' → H' c = some (.lst ws) → BdsAt H' ws (subs it) → Q (.ref c) H'
theorem okChoices (T : Txt K mg) : FnOk P w K mg base CX0 1 T.aChoices T.fChoices ["item"] spChoices := by
  refine T.FChoices.ok scChoices (fun vs H Q E h => ?_) (fun cdv A outer s H vs Q E hr h => ?_)
  · obtain ⟨v, it, ns, rfl, _⟩ := h
    rfl
  obtain ⟨v, it, ns, rfl, hI, hc, hok, hns, hd, q⟩ := h
  have hu := hu_of hr
  have hu65 := hu65_of hr
  refine ⟨_, (pss_cons (ps_if (PW.pt (pw_or (pt_not (pt_val (pe_callB call_isi (by rfl) T.n_isinstance (by decide +kernel) (pa_cons (pv 0) (pa_cons (pe_bltn (v := .ty "tuple") (by rfl) T.n_tuple (by decide +kernel) rfl) pa_nil))))) (pw_or (pt_cmpR op_ne (pe_callB call_len_seq (by rfl) T.n_len PySem.boot_len (pa_cons (pv 0) pa_nil)) pe_int (nomark _)) (pw_or1 (pt_not (pt_val (pe_callB call_isi (by rfl) T.n_isinstance (by decide +kernel) (pa_cons (pe_ix ix_tup (pv 0) pe_int (fun _ _ => rfl)) (pa_cons (pe_bltn (v := .ty "list") (by rfl) T.n_list (by decide +kernel) rfl) pa_nil)))))))))
        (pss_one (ps_ret pe_non)) pss_nil)
      (pss_cons (ps_asg (pv 0) (pg_tup rfl (pgs_cons (pg_name (i := 1) scChoices.nd rfl (by first | exact Or.inl rfl | exact Or.inr rfl)) (pgs_cons (pg_name (i := 2) scChoices.nd rfl (by first | exact Or.inl rfl | exact Or.inr rfl)) pgs_nil))))
      (pss_cons (ps_if (PW.pt (pw_or (pt_cmpR op_eq (pv 1) pe_str (nomark _)) (pw_or1 (pt_cmpR op_eq (pv 1) pe_str (nomark _)))))
        (pss_one (ps_ret (pe_ifExp (pt_truth (pv 2) (by intro _; rfl)) (pe_lst (pa_cons (pv 2) pa_nil)) pe_non))) pss_nil)
      (pss_cons (ps_if (PW.pt (pw_and (pt_cmpR op_eq (pv 1) pe_str (nomark _)) (pw_and (pt_chain op_le op_le (pe_glob (v := .int 2) rfl T.c_FEWEST_CHOICES ⟨_, rfl⟩) (pe_callB call_len_seq (by rfl) T.n_len PySem.boot_len (pa_cons (pv 2) pa_nil)) (pe_glob (v := .int 4) rfl T.c_MOST_CHOICES ⟨_, rfl⟩)) (pw_and1 (pt_cmpR op_le (pe_bm PySem.F.plainAttrs_list PySem.F.slot_list_count PySem.F.type_list_count (mt_countD hu65) (pv 2) (pa_cons (pe_lst pa_nil) pa_nil)) pe_int (nomark _))))))
        (pss_one (ps_ret (pv 2))) pss_nil)
      (pss_one (ps_ret pe_non)))))), ?_⟩
  cases hI with
  | call x => exact absurd rfl (hc x)
  | @may t b vs l h1 h2 h3 =>
    simp only [okI] at hok
    have hne : vs.isEmpty = false := by
      have := h3.length
      cases vs with
      | nil => exact absurd (List.eq_nil_of_length_eq_zero this.symm) hok.1
      | cons _ _ => rfl
    refine ⟨_, rfl, _, _, _, _, true, rfl, .ty _, ty_tup h1, kit_ty (by decide +kernel), _, rfl, iteF ?_⟩
    refine ⟨_, rfl, _, _, rfl, .inr (SqT.of h1), rfl, _, rfl, ite2 (fun c => absurd c (by simp)) (fun _ => ?_)⟩
    refine ⟨_, rfl, _, _, _, _, rfl, rfl, SqT.of h1, at_of (j := 1) rfl rfl, _, _, _, _, true, rfl, .ty _, ty_lst h2, kit_ty (by decide +kernel), _, rfl, iteF ?_⟩
    refine ⟨_, rfl, _, _, rfl, SqT.of h1, rfl, _, _, rfl, _, _, rfl, rfl, ?_⟩
    refine ⟨_, rfl, rfl, _, rfl, ite2 (fun _ => ?_) (fun c => absurd (decide_eq_true rfl) c)⟩
    refine ⟨_, rfl, true, .inl ⟨vs, SqL.of h2, by rw [hne]; rfl⟩, iteT ?_⟩
    refine ⟨_, rfl, Nat.le_of_lt (small1000 (by simp)), fun p hp => ?_⟩
    have sm := same_upd hp (.lst [.ref b])
    exact q p _ _ sm upd_same (.cons (sm _ _ h2) (h3.keep (Kp.of sm)) .nil)
  | @loop t b vs l h1 h2 h3 =>
    simp only [okI] at hok
    have hne : vs.isEmpty = false := by
      have := h3.length
      cases vs with
      | nil => exact absurd (List.eq_nil_of_length_eq_zero this.symm) hok.1
      | cons _ _ => rfl
    refine ⟨_, rfl, _, _, _, _, true, rfl, .ty _, ty_tup h1, kit_ty (by decide +kernel), _, rfl, iteF ?_⟩
    refine ⟨_, rfl, _, _, rfl, .inr (SqT.of h1), rfl, _, rfl, ite2 (fun c => absurd c (by simp)) (fun _ => ?_)⟩
    refine ⟨_, rfl, _, _, _, _, rfl, rfl, SqT.of h1, at_of (j := 1) rfl rfl, _, _, _, _, true, rfl, .ty _, ty_lst h2, kit_ty (by decide +kernel), _, rfl, iteF ?_⟩
    refine ⟨_, rfl, _, _, rfl, SqT.of h1, rfl, _, _, rfl, _, _, rfl, rfl, ?_⟩
    refine ⟨_, rfl, rfl, _, rfl, ite2 (fun c => absurd (of_decide_eq_true c) (by decide)) (fun _ => ?_)⟩
    refine ⟨_, rfl, rfl, _, rfl, ite2 (fun _ => ?_) (fun c => absurd (decide_eq_true rfl) c)⟩
    refine ⟨_, rfl, true, .inl ⟨vs, SqL.of h2, by rw [hne]; rfl⟩, iteT ?_⟩
    refine ⟨_, rfl, Nat.le_of_lt (small1000 (by simp)), fun p hp => ?_⟩
    have sm := same_upd hp (.lst [.ref b])
    exact q p _ _ sm upd_same (.cons (sm _ _ h2) (h3.keep (Kp.of sm)) .nil)
  | @one t b vs ls h1 h2 h3 =>
    simp only [okI] at hok
    simp only [dI] at hd
    obtain ⟨k1, k2, k3, k4⟩ := hok
    refine ⟨_, rfl, _, _, _, _, true, rfl, .ty _, ty_tup h1, kit_ty (by decide +kernel), _, rfl, iteF ?_⟩
    refine ⟨_, rfl, _, _, rfl, .inr (SqT.of h1), rfl, _, rfl, ite2 (fun c => absurd c (by simp)) (fun _ => ?_)⟩
    refine ⟨_, rfl, _, _, _, _, rfl, rfl, SqT.of h1, at_of (j := 1) rfl rfl, _, _, _, _, true, rfl, .ty _, ty_lst h2, kit_ty (by decide +kernel), _, rfl, iteF ?_⟩
    refine ⟨_, rfl, _, _, rfl, SqT.of h1, rfl, _, _, rfl, _, _, rfl, rfl, ?_⟩
    refine ⟨_, rfl, rfl, _, rfl, ite2 (fun c => absurd (of_decide_eq_true c) (by decide)) (fun _ => ?_)⟩
    refine ⟨_, rfl, rfl, _, rfl, ite2 (fun c => absurd (of_decide_eq_true c) (by decide)) (fun _ => ?_)⟩
    refine ⟨_, rfl, rfl, _, rfl, ite2 (fun _ => ?_) (fun c => absurd (decide_eq_true rfl) c)⟩
    have hl := h3.length
    refine ⟨_, rfl, _, _, rfl, .inl (SqL.of h2), _, _, rfl, rfl, _, rfl, ?_⟩
    refine ite2 (fun _ => ?_) (fun c => absurd (decide_eq_true (by omega)) c)
    refine ⟨_, _, rfl, rfl, _, rfl, ?_⟩
    refine ite2 (fun _ => ?_) (fun c => absurd (decide_eq_true (by omega)) c)
    refine ⟨_, rfl, .inl ⟨rfl, _, SqL.of h2⟩, by decide, fun p hp => ?_⟩
    have sm := same_upd hp (.lst [])
    have k := Kp.of sm
    have dps := (h3.keep k).dp (K := K)
    refine ⟨b, .ref p, .list [], dtBs ls, rfl, rfl, .lst (SqL.of (sm _ _ h2)) dps, .lst (SqL.of upd_same) .nil, dt_shaped (dtBs_lay hns ls k4) (by have := dtBs_depth ls; omega), dt_shaped rfl (by decide), ?_⟩
    rw [count_empty]
    refine ⟨_, _, rfl, rfl, _, rfl, ite2 (fun _ => ?_) (fun c => absurd (decide_eq_true (by omega)) c)⟩
    exact ⟨_, rfl, q b vs _ sm (sm _ _ h2) (h3.keep k)⟩
end K05


set_option Elab.async false
set_option linter.all false
set_option maxRecDepth 100000
set_option maxHeartbeats 4000000
namespace K05
open PySem PySem.Spec PyProof.Rows L2 FA
variable {P : Program} {w : World} {K : PySem.W.Frag} {mg : Str → Option Value} {base : Heap}
def pNames (p : Pr) : List Str := p.map (·.1)
theorem sum_nC : ∀ bs : List (List FA.It), (bs.map fun b => (nCB b : Int)).sum = nCBs bs
  | [] => rfl
  | b :: r => by have := sum_nC r; simp only [List.map_cons, List.sum_cons, nCBs]; omega
theorem sum_nI : ∀ bs : List (List FA.It), (bs.map fun b => (nIB b : Int)).sum = nIBs bs
  | [] => rfl
  | b :: r => by have := sum_nI r; simp only [List.map_cons, List.sum_cons, nIBs]; omega
theorem subs_nC : ∀ {it : FA.It}, (∀ x, it ≠ .call x) → ((subs it).map fun b => (nCB b : Int)).sum = nC it
  | .call x, h => absurd rfl (h x)
  | .may b, _ => by simp [subs, nC]
  | .loop b, _ => by simp [subs, nC]
  | .one bs, _ => by simp only [subs, nC]; exact sum_nC bs
theorem subs_nI : ∀ {it : FA.It}, (∀ x, it ≠ .call x) → ((subs it).map fun b => (nIB b : Int)).sum = nI it
  | .call x, h => absurd rfl (h x)
  | .may b, _ => by simp [subs, nI]
  | .loop b, _ => by simp [subs, nI]
  | .one bs, _ => by simp only [subs, nI]; exact sum_nI bs
theorem subs_ok {ns : List Str} : ∀ {it : FA.It}, okI ns it → ∀ b ∈ subs it, okB ns b
  | .call x, _, b, hb => by simp [subs] at hb
  | .may b', h, b, hb => by simp only [okI] at h; simp [subs] at hb; rw [hb]; exact h.2
  | .loop b', h, b, hb => by simp only [okI] at h; simp [subs] at hb; rw [hb]; exact h.2
  | .one bs, h, b, hb => by simp only [okI] at h; exact okBs_all.mp h.2.2.2 b hb
theorem nCBs_mem : ∀ {bs : List (List FA.It)} {b}, b ∈ bs → nCB b ≤ nCBs bs
  | b' :: r, b, h => by
    rcases List.mem_cons.mp h with rfl | h
    · simp only [nCBs]; omega
    · have := nCBs_mem h; simp only [nCBs]; omega
theorem nIBs_mem : ∀ {bs : List (List FA.It)} {b}, b ∈ bs → nIB b ≤ nIBs bs
  | b' :: r, b, h => by
    rcases List.mem_cons.mp h with rfl | h
    · simp only [nIBs]; omega
    · have := nIBs_mem h; simp only [nIBs]; omega
theorem dBs_mem : ∀ {bs : List (List FA.It)} {b}, b ∈ bs → dB b ≤ dBs bs
  | b' :: r, b, h => by
    rcases List.mem_cons.mp h with rfl | h
    · simp only [dBs]; omega
    · have := dBs_mem h; simp only [dBs]; omega
theorem subs_le : ∀ {it : FA.It} {b}, b ∈ subs it → nCB b ≤ nC it ∧ nIB b ≤ nI it ∧ dB b ≤ dI it
  | .call x, b, hb => by simp [subs] at hb
  | .may b', b, hb => by simp [subs] at hb; rw [hb]; simp only [nC, nI, dI]; omega
  | .loop b', b, hb => by simp [subs] at hb; rw [hb]; simp only [nC, nI, dI]; omega
  | .one bs, b, hb => by
    have hb : b ∈ bs := hb
    have h1 := nCBs_mem hb
    have h2 := nIBs_mem hb
    have h3 := dBs_mem hb
    simp only [nC, nI, dI]; omega
theorem dB_pos : ∀ b : List FA.It, 1 ≤ dB b
  | [] => by simp [dB]
  | i :: r => by have := dB_pos r; simp only [dB]; omega
theorem subs_len : ∀ {ns : List Str} {it : FA.It}, okI ns it → (subs it).length ≤ 4
  | _, .call x, _ => by simp [subs]
  | _, .may b, _ => by simp [subs]
  | _, .loop b, _ => by simp [subs]
  | _, .one bs, h => by simp only [okI] at h; exact h.2.1
/-- what the judged program is known to be -/
structure Known (H : Hp) (d : Addr) (p : Pr) : Prop where
  at_ : PrAt H d p
  nm : ∀ x ∈ pNames p, FA.okName x
theorem PrAt.same {H H' : Hp} {d : Addr} {p : Pr} (sm : Same H H') (h : PrAt H d p) : PrAt H' d p := by
  obtain ⟨kvs, hd, hk⟩ := h
  refine ⟨kvs, ?_, hk.keep (Kp.of sm)⟩
  rcases hd with hd | ⟨o, hd⟩
  · exact .inl (sm _ _ hd)
  · exact .inr ⟨o, sm _ _ hd⟩
theorem Known.same {H H' : Hp} {d : Addr} {p : Pr} (sm : Same H H') (h : Known H d p) : Known H' d p := ⟨PrAt.same sm h.at_, h.nm⟩
theorem lookup_mem {x : Str} : ∀ {p : Pr}, x ∈ pNames p → ∃ l, p.lookup x = some l
  | (y, l) :: p, h => by
    by_cases e : x = y
    · subst e; exact ⟨l, by simp [List.lookup]⟩
    · have e1 : (x == y) = false := beq_eq_false_iff_ne.mpr e
      rcases List.mem_cons.mp (show x ∈ y :: pNames p from h) with z | z
      · exact absurd z e
      · obtain ⟨l', q⟩ := lookup_mem z
        exact ⟨l', by simp [List.lookup, e1, q]⟩
theorem Known.has {H : Hp} {d : Addr} {p : Pr} {x : Str} (h : Known H d p) (hx : x ∈ pNames p) : ∃ l b, p.lookup x = some l ∧ DGet H d (.str x) (some (.ref b)) ∧ BdAt H b l := by
  obtain ⟨l0, e⟩ := lookup_mem hx
  rcases h.at_.look (x := x) with ⟨h1, _⟩ | ⟨l, b, h1, h2, h3⟩
  · rw [e] at h1; cases h1
  · exact ⟨l, b, h1, h2, h3⟩
def spItemSize (n : Nat) : Sp := fun vs H Q _ => ∃ (d : Addr) (p : Pr) (v : V) (it : FA.It) (lv : Int), vs = [.ref d, v, .int lv] ∧ Known H d p ∧ ItAt H v it ∧ okI (pNames p) it ∧ dI it ≤ n ∧ lv + dI it ≤ 4 ∧ nC it ≤ 5 ∧ nI it ≤ 12 ∧
  ∀ t H', Same H H' → H' t = some (.tup [.int (nC it), .int (nI it)]) → Q (.ref t) H'
def spBodySize (n : Nat) : Sp := fun vs H Q _ => ∃ (d : Addr) (p : Pr) (b : Addr) (l : List FA.It) (lv : Int), vs = [.ref d, .ref b, .int lv] ∧ Known H d p ∧ BdAt H b l ∧ okB (pNames p) l ∧ dB l ≤ n ∧ lv + dB l ≤ 5 ∧ nCB l ≤ 5 ∧ nIB l ≤ 12 ∧
  ∀ t H', Same H H' → H' t = some (.tup [.int (nCB l), .int (nIB l)]) → Q (.ref t) H'
theorem okItemSize (T : Txt K mg) (n : Nat) (hn : n ≤ 5) (GBodySize : FnOk P w K mg base CX0 (2 * n + 1) T.aBodySize T.fBodySize ["program", "body", "level"] (spBodySize n)) :
    FnOk P w K mg base CX0 (2 * n + 2) T.aItemSize T.fItemSize ["program", "item", "level"] (spItemSize n) := by
  have GChoices : FnOk P w K mg base CX0 1 T.aChoices T.fChoices ["item"] spChoices := okChoices T
  refine T.FItemSize.ok scItemSize (fun vs H Q E h => ?_) (fun cdv A outer s H vs Q E hr h => ?_)
  · obtain ⟨d, p, v, it, lv, rfl, _⟩ := h
    rfl
  obtain ⟨d, p, v, it, lv, rfl, kn, hI, hok, hn, hlv, hC, hN, q⟩ := h
  have hu := hu_of hr
  have hu65 := hu65_of hr
  refine ⟨_, (pss_cons (ps_if (pt_val (pe_callB call_isi (by rfl) T.n_isinstance (by decide +kernel) (pa_cons (pv 1) (pa_cons (pe_bltn (v := .ty "str") (by rfl) T.n_str (by decide +kernel) rfl) pa_nil))))
        (pss_one (ps_ret (pe_ifExp (pt_cmp (pc_din hu (pv 1) (pv 0))) (pe_tup (pa_cons pe_int (pa_cons pe_int pa_nil))) pe_non))) pss_nil)
      (pss_cons (ps_set (i := 3) scItemSize.nd rfl (by first | exact Or.inl rfl | exact Or.inr rfl) (pe_call GChoices (hr.mono (by omega)) rfl T.gChoices T.FChoices.kp T.bChoices .nil pass0 (pa_cons (pv 1) pa_nil)))
      (pss_cons (ps_if (pt_cmpR op_isN (pv 3) pe_non (nomark _))
        (pss_one (ps_ret pe_non)) pss_nil)
      (pss_cons (ps_setLc (i := 4) (own := [("body", 5)]) (g := gName 5) (tt := tYes) rfl scItemSize.nd rfl rfl (sw_true rfl rfl rfl (by decide +kernel)) (pi_list (pv 3)) (blkOk_by (N := ["program", "item", "level", "choices", "sizes", "body", "calls", "_", "items"]) (sc := defScope sItemSize) (by decide +kernel)) (fun _ _ _ _ _ => (pg_name (i := 5) scItemSize.nd rfl (by first | exact Or.inl rfl | exact Or.inr rfl))) (fun _ _ _ _ _ => pts_nil) (fun _ _ _ _ _ => (pe_call GBodySize (hr.mono (by omega)) rfl T.gBodySize T.FBodySize.kp T.bBodySize .nil pass0 (pa_cons (pv 0) (pa_cons (pv 5) (pa_cons (pe_op op_add (pv 2) pe_int) pa_nil))))))
      (pss_cons (ps_if (pt_cmpR (op_inD hu65) pe_non (pv 4) (by rfl))
        (pss_one (ps_ret pe_non)) pss_nil)
      (pss_one (ps_ret (pe_tup (pa_cons (pe_callB (cr_sum rfl) (by rfl) T.n_sum (by decide +kernel) (pa_cons (pe_lc (own := [("calls", 6), ("_", 7)]) (g := gTup K 2 (gCons (gName 6) (gCons (gName 7) gNil))) (tt := tYes) rfl scItemSize.nd (pi_list (pv 4)) (blkOk_by (N := ["program", "item", "level", "choices", "sizes", "body", "calls", "_", "items"]) (sc := defScope sItemSize) (by decide +kernel)) (fun _ _ _ _ _ => (pg_tup rfl (pgs_cons (pg_name (i := 6) scItemSize.nd rfl (by first | exact Or.inl rfl | exact Or.inr rfl)) (pgs_cons (pg_name (i := 7) scItemSize.nd rfl (by first | exact Or.inl rfl | exact Or.inr rfl)) pgs_nil)))) (fun _ _ _ _ _ => pts_nil) (fun _ _ _ _ _ => (pv 6))) pa_nil)) (pa_cons (pe_callB (cr_sum rfl) (by rfl) T.n_sum (by decide +kernel) (pa_cons (pe_lc (own := [("_", 7), ("items", 8)]) (g := gTup K 2 (gCons (gName 7) (gCons (gName 8) gNil))) (tt := tYes) rfl scItemSize.nd (pi_list (pv 4)) (blkOk_by (N := ["program", "item", "level", "choices", "sizes", "body", "calls", "_", "items"]) (sc := defScope sItemSize) (by decide +kernel)) (fun _ _ _ _ _ => (pg_tup rfl (pgs_cons (pg_name (i := 7) scItemSize.nd rfl (by first | exact Or.inl rfl | exact Or.inr rfl)) (pgs_cons (pg_name (i := 8) scItemSize.nd rfl (by first | exact Or.inl rfl | exact Or.inr rfl)) pgs_nil)))) (fun _ _ _ _ _ => pts_nil) (fun _ _ _ _ _ => (pv 8))) pa_nil)) pa_nil)))))))))), ?_⟩
  by_cases hcall : ∃ x, it = .call x
  · obtain ⟨x, rfl⟩ := hcall
    cases hI
    obtain ⟨l, b, _, hg, _⟩ := kn.has (x := x) (by simpa [okI] using hok)
    refine ⟨_, rfl, _, _, _, _, true, rfl, .ty _, ty_str x, kit_ty (by decide +kernel), _, rfl, iteT ?_⟩
    refine ⟨_, rfl, _, rfl, _, _, rfl, hg, _, rfl, iteT ?_⟩
    refine ⟨Nat.le_of_lt (small1000 (by simp)), fun t ht => ?_⟩
    exact q t _ (same_upd ht _) (by rw [upd_same]; rfl)
  · have hcall : ∀ x, it ≠ .call x := fun x e => hcall ⟨x, e⟩
    have hty : ∃ t ws, v = .ref t ∧ H t = some (.tup ws) := by
      cases hI with
      | call x => exact absurd rfl (hcall x)
      | may h1 _ _ => exact ⟨_, _, rfl, h1⟩
      | loop h1 _ _ => exact ⟨_, _, rfl, h1⟩
      | one h1 _ _ => exact ⟨_, _, rfl, h1⟩
    obtain ⟨t0, ws0, rfl, ht0⟩ := hty
    refine ⟨_, rfl, _, _, _, _, false, rfl, .ty _, ty_tup ht0, kit_ty (by decide +kernel), _, rfl, iteF ?_⟩
    refine ⟨_, rfl, _, _, _, rfl, hI, hcall, hok, kn.nm, by omega, fun c ws H1 s1 hc hb => ?_⟩
    refine ⟨_, rfl, rfl, _, rfl, ite2 (fun z => absurd (of_decide_eq_true z) (by simp)) (fun _ => ?_)⟩
    have kn1 := kn.same s1
    have hlen := hb.length
    have h4 := subs_len hok
    refine ⟨_, rfl, c, rfl, ⟨_, SqL.of hc⟩, fun D hD => lcS (n := ws.length) hD (small1000 (by omega)) _ (fun j v H => ∃ bd t, (subs it)[j]? = some bd ∧ v = .ref t ∧ H t = some (.tup [.int (nCB bd), .int (nIB bd)]))
      (go_l (SqL.of hc)) (stop_l (SqL.of hc)) (yld_l (SqL.of hc)) (fun j v A B k ⟨bd, t, e1, e2, e3⟩ => ⟨bd, t, e1, e2, k _ _ e3⟩) ?_ ?_⟩
    · intro i x H2 R hi hx s2 k
      obtain ⟨b, bd, rfl, e1, e2⟩ := hb.get hx
      have hm : bd ∈ subs it := List.mem_of_getElem? e1
      have le := subs_le hm
      refine ⟨rfl, _, rfl, _, rfl, _, rfl, _, _, rfl, rfl, d, p, b, bd, lv + 1, rfl, kn1.same s2, e2.keep (Kp.of s2), subs_ok hok bd hm, by omega, by omega, by omega, by omega, fun t H3 s3 ht => ?_⟩
      exact k _ H3 s3 ⟨bd, t, e1, rfl, ht⟩
    · intro H2 ys s2 hy hl hg
      have dps : DpAll K H2 ys ((subs it).map fun b => PyData.tuple [.int (nCB b), .int (nIB b)]) := dpAll_map (by omega) fun j y e => by
        obtain ⟨bd, t, e1, rfl, e3⟩ := hg j y e
        exact ⟨bd, e1, .tup (SqT.of e3) (.cons (.int _) (.cons (.int _) .nil))⟩
      have lay : PyData.canLayAll0 ((subs it).map fun b => PyData.tuple [.int (nCB b), .int (nIB b)]) = true := by
        generalize subs it = l
        induction l with
        | nil => rfl
        | cons b r ih => simp only [List.map_cons, PyData.canLayAll0, PyData.canLay0, ih, Bool.and_true]
      have dep : PyData.depthAll ((subs it).map fun b => PyData.tuple [.int (nCB b), .int (nIB b)]) ≤ 60 := by
        have : ∀ l : List (List FA.It), PyData.depthAll (l.map fun b => PyData.tuple [.int (nCB b), .int (nIB b)]) ≤ 1 := fun l => by
          induction l with
          | nil => simp [PyData.depthAll]
          | cons b r ih => simp only [List.map_cons, PyData.depthAll, PyData.depth]; omega
        have := this (subs it)
        omega
      have nov : (((subs it).map fun b => PyData.tuple [.int (nCB b), .int (nIB b)]).any fun z => PyData.eqv z .none) = false := by
        generalize subs it = l
        induction l with
        | nil => rfl
        | cons b r ih => simp only [List.map_cons, List.any_cons, PyData.eqv, ih, Bool.or_false]
      refine ⟨_, rfl, .none, _, .non, .lst (SqL.of hy) dps, rfl, dt_shaped lay dep, ?_⟩
      rw [nov]
      refine ⟨_, rfl, iteF ?_⟩
      have sumOf : ∀ (f : List FA.It → Int) (H3 : Hp) (D3 : Addr) (zs : List V), H3 D3 = some (.lst zs) → zs.length = ys.length → (∀ j z, zs[j]? = some z → ∃ bd, (subs it)[j]? = some bd ∧ z = V.int (f bd)) → SqL K H3 D3 (((subs it).map f).map V.int) := fun f H3 D3 zs h1 h2 h3 => by
        have e := ext_map (ys := zs) (l := subs it) (f := fun b => V.int (f b)) (by omega) h3
        rw [List.map_map]
        exact SqL.of (by rw [h1, e]; rfl)
      refine ⟨_, rfl, D, rfl, ⟨_, SqL.of hy⟩, fun D1 hD1 => lcS (n := ys.length) hD1 (small1000 (by omega)) _ (fun j v _ => ∃ bd, (subs it)[j]? = some bd ∧ v = .int (nCB bd))
        (go_l (SqL.of hy)) (stop_l (SqL.of hy)) (yld_l (SqL.of hy)) (fun j v A B _ h => h) ?_ ?_⟩
      · intro i x H3 R hi hx s3 k
        obtain ⟨bd, t, e1, rfl, e3⟩ := hg i x hx
        exact ⟨t, _, rfl, SqT.of (s3 _ _ e3), rfl, _, _, rfl, _, _, rfl, rfl, rfl, _, rfl, k _ H3 (Same.refl _) ⟨bd, e1, rfl⟩⟩
      · intro H3 zs s3 hz hzl hzg
        refine ⟨D1, _, rfl, sumOf (fun b => nCB b) H3 D1 zs hz hzl hzg, ?_⟩
        rw [subs_nC hcall]
        have hy3 : H3 D = some (.lst ys) := s3 _ _ hy
        refine ⟨_, rfl, D, rfl, ⟨_, SqL.of hy3⟩, fun D2 hD2 => lcS (n := ys.length) hD2 (small1000 (by omega)) _ (fun j v _ => ∃ bd, (subs it)[j]? = some bd ∧ v = .int (nIB bd))
          (go_l (SqL.of hy3)) (stop_l (SqL.of hy3)) (yld_l (SqL.of hy3)) (fun j v A B _ h => h) ?_ ?_⟩
        · intro i x H4 R hi hx s4 k
          obtain ⟨bd, t, e1, rfl, e3⟩ := hg i x hx
          exact ⟨t, _, rfl, SqT.of (s4 _ _ (s3 _ _ e3)), rfl, _, _, rfl, _, _, rfl, rfl, rfl, _, rfl, k _ H4 (Same.refl _) ⟨bd, e1, rfl⟩⟩
        · intro H4 zs2 s4 hz2 hzl2 hzg2
          refine ⟨D2, _, rfl, sumOf (fun b => nIB b) H4 D2 zs2 hz2 hzl2 hzg2, ?_⟩
          rw [subs_nI hcall]
          refine ⟨Nat.le_of_lt (small1000 (by simp)), fun t ht => ?_⟩
          exact q t _ (s1.trans (s2.trans (s3.trans (s4.trans (same_upd ht _))))) upd_same
end K05


set_option Elab.async false
set_option linter.all false
set_option maxRecDepth 100000
set_option maxHeartbeats 4000000
namespace K05
open PySem PySem.Spec PyProof.Rows L2 FA
variable {P : Program} {w : World} {K : PySem.W.Frag} {mg : Str → Option Value} {base : Heap}
def sI (l : List FA.It) : Nat := (l.map nI).sum
def sC (l : List FA.It) : Nat := (l.map nC).sum
theorem nIB_eq : ∀ l : List FA.It, nIB l = l.length + sI l
  | [] => by simp [nIB, sI]
  | i :: r => by
    have := nIB_eq r
    simp only [nIB, sI, List.length_cons, List.map_cons, List.sum_cons] at *
    omega
theorem nCB_eq : ∀ l : List FA.It, nCB l = sC l
  | [] => by simp [nCB, sC]
  | i :: r => by
    have := nCB_eq r
    simp only [nCB, sC, List.map_cons, List.sum_cons] at *
    omega
theorem sI_take {l : List FA.It} {i : Nat} {it : FA.It} (h : l[i]? = some it) : sI (l.take (i + 1)) = sI (l.take i) + nI it := by
  unfold sI
  rw [List.take_add_one, h, List.map_append, List.sum_append]
  simp
theorem sC_take {l : List FA.It} {i : Nat} {it : FA.It} (h : l[i]? = some it) : sC (l.take (i + 1)) = sC (l.take i) + nC it := by
  unfold sC
  rw [List.take_add_one, h, List.map_append, List.sum_append]
  simp
theorem sI_take_le (l : List FA.It) (i : Nat) : sI (l.take i) ≤ sI l := by
  unfold sI
  have e : ((l.take i ++ l.drop i).map nI).sum = (l.map nI).sum := by rw [List.take_append_drop]
  rw [List.map_append, List.sum_append] at e
  omega
theorem sC_take_le (l : List FA.It) (i : Nat) : sC (l.take i) ≤ sC l := by
  unfold sC
  have e : ((l.take i ++ l.drop i).map nC).sum = (l.map nC).sum := by rw [List.take_append_drop]
  rw [List.map_append, List.sum_append] at e
  omega
theorem dB_mem : ∀ {l : List FA.It} {it : FA.It}, it ∈ l → 1 + dI it ≤ dB l
  | i :: r, it, h => by
    simp only [dB]
    rcases List.mem_cons.mp h with rfl | h
    · omega
    · have := dB_mem h; omega
theorem okBodySize (T : Txt K mg) (n : Nat) (GItemSize : FnOk P w K mg base CX0 (2 * n + 2) T.aItemSize T.fItemSize ["program", "item", "level"] (spItemSize n)) :
    FnOk P w K mg base CX0 (2 * n + 3) T.aBodySize T.fBodySize ["program", "body", "level"] (spBodySize (n + 1)) := by
  refine T.FBodySize.ok scBodySize (fun vs H Q E h => ?_) (fun cdv A outer s H vs Q E hr h => ?_)
  · obtain ⟨d, p, b, l, lv, rfl, _⟩ := h
    rfl
  obtain ⟨d, p, b, l, lv, rfl, kn, ⟨vs, hb, hits⟩, hok, hn, hlv, hC, hN, q⟩ := h
  have hu := hu_of hr
  refine ⟨_, (pss_cons (ps_if (PW.pt (pw_or (pt_not (pt_val (pe_callB call_isi (by rfl) T.n_isinstance (by decide +kernel) (pa_cons (pv 1) (pa_cons (pe_bltn (v := .ty "list") (by rfl) T.n_list (by decide +kernel) rfl) pa_nil))))) (pw_or1 (pt_cmpR op_gt (pv 2) (pe_glob (v := .int 4) rfl T.c_MOST_LEVELS ⟨_, rfl⟩) (nomark _)))))
        (pss_one (ps_ret pe_non)) pss_nil)
      (pss_cons (ps_set (i := 3) scBodySize.nd rfl (by first | exact Or.inl rfl | exact Or.inr rfl) pe_int)
      (pss_cons (ps_set (i := 4) scBodySize.nd rfl (by first | exact Or.inl rfl | exact Or.inr rfl) (pe_callB call_len_seq (by rfl) T.n_len PySem.boot_len (pa_cons (pv 1) pa_nil)))
      (pss_cons (ps_for PassesOwn.never rfl (pi_list (pv 1)) (pg_name (i := 5) scBodySize.nd rfl (by first | exact Or.inl rfl | exact Or.inr rfl))
        (pss_cons (ps_set (i := 6) scBodySize.nd rfl (by first | exact Or.inl rfl | exact Or.inr rfl) (pe_call GItemSize (hr.mono (by omega)) rfl T.gItemSize T.FItemSize.kp T.bItemSize .nil pass0 (pa_cons (pv 0) (pa_cons (pv 5) (pa_cons (pv 2) pa_nil)))))
        (pss_cons (ps_if (pt_cmpR op_isN (pv 6) pe_non (nomark _))
          (pss_one (ps_ret pe_non)) pss_nil)
        (pss_cons (ps_set (i := 3) scBodySize.nd rfl (by first | exact Or.inl rfl | exact Or.inr rfl) (pe_op op_add (pv 3) (pe_ix ix_tup (pv 6) pe_int (fun _ _ => rfl))))
        (pss_cons (ps_set (i := 4) scBodySize.nd rfl (by first | exact Or.inl rfl | exact Or.inr rfl) (pe_op op_add (pv 4) (pe_ix ix_tup (pv 6) pe_int (fun _ _ => rfl))))
        (pss_one (ps_if (PW.pt (pw_or (pt_cmpR op_gt (pv 3) (pe_glob (v := .int 5) rfl T.c_MOST_CALLS ⟨_, rfl⟩) (nomark _)) (pw_or1 (pt_cmpR op_gt (pv 4) (pe_glob (v := .int 12) rfl T.c_MOST_ITEMS ⟨_, rfl⟩) (nomark _)))))
          (pss_one (ps_ret pe_non)) pss_nil)))))))
      (pss_one (ps_ret (pe_tup (pa_cons (pv 3) (pa_cons (pv 4) pa_nil))))))))), ?_⟩
  have hp := dB_pos l
  have hl := hits.length
  refine ⟨_, rfl, _, _, _, _, true, rfl, .ty _, ty_lst hb, kit_ty (by decide +kernel), _, rfl, iteF ?_⟩
  refine ⟨_, rfl, _, _, rfl, rfl, _, rfl, ite2 (fun c => absurd (of_decide_eq_true c) (by omega)) (fun _ => ?_)⟩
  refine ⟨_, rfl, _, _, rfl, .inl (SqL.of hb), ?_⟩
  refine ⟨_, rfl, b, rfl, ⟨_, SqL.of hb⟩, for_list (K := K) (a := b) (xs := vs) (fun i σ H' => ∃ v5 v6, σ = [some (.ref d), some (.ref b), some (.int lv), some (.int (sC (l.take i))), some (.int ((l.length : Int) + sI (l.take i))), v5, v6] ∧ Same H H') ?_ ?_ ?_ ?_⟩
  · refine ⟨none, none, ?_, Same.refl _⟩
    rw [hl]
    simp [sC, sI]
    rfl
  · rintro i σ H' _ ⟨_, _, _, sm⟩
    exact SqL.of (sm _ _ hb)
  · rintro i y σ H' hi ⟨v5, v6, rfl, sm⟩
    obtain ⟨it, e1, e2⟩ := hits.get hi
    have hm : it ∈ l := List.mem_of_getElem? e1
    have c1 := sC_take e1
    have c2 := sI_take e1
    have c3 := sC_take_le l (i + 1)
    have c4 := sI_take_le l (i + 1)
    have c5 := nCB_eq l
    have c6 := nIB_eq l
    have c7 := dB_mem hm
    refine ⟨_, rfl, _, rfl, _, rfl, d, p, y, it, lv, rfl, kn.same sm, e2.keep (Kp.of sm), okB_all.mp hok it hm, by omega, by omega, by omega, by omega, fun t H2 s2 ht => ?_⟩
    refine ⟨_, rfl, rfl, _, rfl, ite2 (fun z => absurd (of_decide_eq_true z) (by simp)) (fun _ => ?_)⟩
    refine ⟨_, rfl, _, rfl, _, _, _, _, rfl, rfl, SqT.of ht, at_of (j := 0) rfl rfl, _, _, rfl, rfl, ?_⟩
    refine ⟨_, rfl, _, rfl, _, _, _, _, rfl, rfl, SqT.of ht, at_of (j := 1) rfl rfl, _, _, rfl, rfl, ?_⟩
    refine ⟨_, rfl, _, _, rfl, rfl, _, rfl, ite2 (fun c => absurd (of_decide_eq_true c) (by omega)) (fun _ => ?_)⟩
    refine ⟨_, rfl, _, _, rfl, rfl, _, rfl, ite2 (fun c => absurd (of_decide_eq_true c) (by omega)) (fun _ => ?_)⟩
    refine ⟨some y, some (.ref t), ?_, sm.trans s2⟩
    have e3 : ((sC (l.take i) : Nat) : Int) + (nC it : Int) = (sC (l.take (i + 1)) : Nat) := by omega
    have e4 : ((l.length : Int) + (sI (l.take i) : Nat)) + (nI it : Int) = (l.length : Int) + (sI (l.take (i + 1)) : Nat) := by omega
    rw [← e3, ← e4]
    rfl
  · rintro σ H' ⟨v5, v6, rfl, sm⟩
    refine ⟨_, rfl, _, rfl, Nat.le_of_lt (small1000 (by simp)), fun t ht => ?_⟩
    refine q t _ (sm.trans (same_upd ht _)) ?_
    rw [upd_same, List.take_of_length_le (by omega), nCB_eq, nIB_eq, Int.natCast_add]
theorem okSizes (T : Txt K mg) : ∀ n : Nat, n ≤ 5 → FnOk P w K mg base CX0 (2 * n + 1) T.aBodySize T.fBodySize ["program", "body", "level"] (spBodySize n)
  | 0, _ => fn_never fun vs H Q E h => by
    obtain ⟨d, p, b, l, lv, _, _, _, _, h0, _⟩ := h
    have := dB_pos l
    omega
  | n + 1, h => okBodySize T n (okItemSize T n (by omega) (okSizes T n (by omega)))
/-! ### the least numbers of calls -/
/-- at L a dict that tells f of the names ns -/
def LsAt (H : Hp) (L : Addr) (ns : List Str) (f : Str → Int) : Prop := ∃ kvs, Rd H L (.dK kvs) ∧ ∀ x ∈ ns, valV kvs (.inr x) = some (.int (f x))
theorem Rd.same {H H' : Hp} {a : Addr} {u : HO} (sm : Same H H') (h : Rd H a u) : Rd H' a u := by
  rcases h with h | ⟨o, h⟩
  · exact .inl (sm _ _ h)
  · exact .inr ⟨o, sm _ _ h⟩
theorem LsAt.same {H H' : Hp} {L : Addr} {ns : List Str} {f : Str → Int} (sm : Same H H') (h : LsAt H L ns f) : LsAt H' L ns f := by
  obtain ⟨kvs, h1, h2⟩ := h
  exact ⟨kvs, Rd.same sm h1, h2⟩
def spLeastItem (n : Nat) : Sp := fun vs H Q _ => ∃ (L : Addr) (ns : List Str) (f : Str → Int) (v : V) (it : FA.It), vs = [.ref L, v] ∧ LsAt H L ns f ∧ ItAt H v it ∧ okI ns it ∧ nI it ≤ 12 ∧ dI it ≤ n ∧
  ∀ H', Same H H' → Q (.int (cost f it)) H'
def spLeastBody (n : Nat) : Sp := fun vs H Q _ => ∃ (L : Addr) (ns : List Str) (f : Str → Int) (b : Addr) (l : List FA.It), vs = [.ref L, .ref b] ∧ LsAt H L ns f ∧ BdAt H b l ∧ okB ns l ∧ nIB l ≤ 12 ∧ dB l ≤ n ∧
  ∀ H', Same H H' → Q (.int (costB f l)) H'
theorem okLeastItem (T : Txt K mg) (n : Nat) (GLeastInBody : FnOk P w K mg base CX0 (2 * n + 1) T.aLeastInBody T.fLeastInBody ["least", "body"] (spLeastBody n)) :
    FnOk P w K mg base CX0 (2 * n + 2) T.aLeastInItem T.fLeastInItem ["least", "item"] (spLeastItem n) := by
  refine T.FLeastInItem.ok scLeastInItem (fun vs H Q E h => ?_) (fun cdv A outer s H vs Q E hr h => ?_)
  · obtain ⟨L, ns, f, v, it, rfl, _⟩ := h
    rfl
  obtain ⟨L, ns, f, v, it, rfl, hL, hI, hok, hN, hn, q⟩ := h
  have hu := hu_of hr
  refine ⟨_, (pss_cons (ps_if (pt_val (pe_callB call_isi (by rfl) T.n_isinstance (by decide +kernel) (pa_cons (pv 1) (pa_cons (pe_bltn (v := .ty "str") (by rfl) T.n_str (by decide +kernel) rfl) pa_nil))))
        (pss_one (ps_ret (pe_dget hu (pv 0) (pv 1) (fun _ _ => rfl)))) pss_nil)
      (pss_cons (ps_if (pt_cmpR op_eq (pe_ix ix_tup (pv 1) pe_int (fun _ _ => rfl)) pe_str (nomark _))
        (pss_one (ps_ret (pe_callB (cr_min rfl) (by rfl) T.n_min (by decide +kernel) (pa_cons (pe_lc (own := [("body", 2)]) (g := gName 2) (tt := tYes) rfl scLeastInItem.nd (pi_list (pe_ix ix_tup (pv 1) pe_int (fun _ _ => rfl))) (blkOk_by (N := ["least", "item", "body"]) (sc := defScope sLeastInItem) (by decide +kernel)) (fun _ _ _ _ _ => (pg_name (i := 2) scLeastInItem.nd rfl (by first | exact Or.inl rfl | exact Or.inr rfl))) (fun _ _ _ _ _ => pts_nil) (fun _ _ _ _ _ => (pe_call GLeastInBody (hr.mono (by omega)) rfl T.gLeastInBody T.FLeastInBody.kp T.bLeastInBody .nil pass0 (pa_cons (pv 0) (pa_cons (pv 2) pa_nil))))) pa_nil)))) pss_nil)
      (pss_one (ps_ret pe_int)))), ?_⟩
  cases hI with
  | call x =>
    obtain ⟨kvs, h1, h2⟩ := hL
    refine ⟨_, rfl, _, _, _, _, true, rfl, .ty _, ty_str x, kit_ty (by decide +kernel), _, rfl, iteT ?_⟩
    refine ⟨_, rfl, _, rfl, L, _, rfl, .inl ⟨kvs, .inr x, h1, rfl, (h2 x (by simpa [okI] using hok)).symm⟩, ?_⟩
    have := q H (Same.refl _)
    simp only [cost] at this
    exact this
  | @may t b vs l h1 h2 h3 =>
    refine ⟨_, rfl, _, _, _, _, false, rfl, .ty _, ty_tup h1, kit_ty (by decide +kernel), _, rfl, iteF ?_⟩
    refine ⟨_, rfl, _, _, _, _, rfl, rfl, SqT.of h1, at_of (j := 0) rfl rfl, rfl, _, rfl, ite2 (fun c => absurd (of_decide_eq_true c) (by decide)) (fun _ => ?_)⟩
    have := q H (Same.refl _)
    simp only [cost] at this
    exact this
  | @loop t b vs l h1 h2 h3 =>
    refine ⟨_, rfl, _, _, _, _, false, rfl, .ty _, ty_tup h1, kit_ty (by decide +kernel), _, rfl, iteF ?_⟩
    refine ⟨_, rfl, _, _, _, _, rfl, rfl, SqT.of h1, at_of (j := 0) rfl rfl, rfl, _, rfl, ite2 (fun c => absurd (of_decide_eq_true c) (by decide)) (fun _ => ?_)⟩
    have := q H (Same.refl _)
    simp only [cost] at this
    exact this
  | @one t b vs ls h1 h2 h3 =>
    simp only [okI] at hok
    obtain ⟨k1, k2, k3, k4⟩ := hok
    have hl := h3.length
    refine ⟨_, rfl, _, _, _, _, false, rfl, .ty _, ty_tup h1, kit_ty (by decide +kernel), _, rfl, iteF ?_⟩
    refine ⟨_, rfl, _, _, _, _, rfl, rfl, SqT.of h1, at_of (j := 0) rfl rfl, rfl, _, rfl, ite2 (fun _ => ?_) (fun c => absurd (decide_eq_true rfl) c)⟩
    refine ⟨_, rfl, _, _, _, _, rfl, rfl, SqT.of h1, at_of (j := 1) rfl rfl, b, rfl, ⟨_, SqL.of h2⟩, fun D hD => lcS (n := vs.length) hD (small1000 (by omega)) _ (fun j v _ => ∃ bd, ls[j]? = some bd ∧ v = .int (costB f bd))
      (go_l (SqL.of h2)) (stop_l (SqL.of h2)) (yld_l (SqL.of h2)) (fun j v A B _ h => h) ?_ ?_⟩
    · intro i x H2 R hi hx s2 k
      obtain ⟨b', bd, rfl, e1, e2⟩ := h3.get hx
      have hm : bd ∈ ls := List.mem_of_getElem? e1
      have m1 := nIBs_mem hm
      have m2 := dBs_mem hm
      simp only [nI] at hN
      simp only [dI] at hn
      exact ⟨rfl, _, rfl, _, rfl, L, ns, f, b', bd, rfl, hL.same s2, e2.keep (Kp.of s2), okBs_all.mp k4 bd hm, by omega, by omega, fun H3 s3 => k _ H3 s3 ⟨bd, e1, rfl⟩⟩
    · intro H2 ys s2 hy hyl hg
      have e := ext_map (ys := ys) (l := ls) (f := fun b => V.int (costB f b)) (by omega) hg
      refine ⟨D, ls.map (costB f), rfl, SqL.of (by rw [hy, e, List.map_map]; rfl), by rw [List.length_map]; omega, fun m hm hle => ?_⟩
      have := minL_unique hm hle
      rw [this]
      have := q H2 s2
      simp only [cost, costBs_map] at this
      exact this
theorem okLeastBody (T : Txt K mg) (n : Nat) (GLeastInItem : FnOk P w K mg base CX0 (2 * n + 2) T.aLeastInItem T.fLeastInItem ["least", "item"] (spLeastItem n)) :
    FnOk P w K mg base CX0 (2 * n + 3) T.aLeastInBody T.fLeastInBody ["least", "body"] (spLeastBody (n + 1)) := by
  refine T.FLeastInBody.ok scLeastInBody (fun vs H Q E h => ?_) (fun cdv A outer s H vs Q E hr h => ?_)
  · obtain ⟨L, ns, f, b, l, rfl, _⟩ := h
    rfl
  obtain ⟨L, ns, f, b, l, rfl, hL, ⟨vs, hb, hits⟩, hok, hN, hn, q⟩ := h
  have hu := hu_of hr
  refine ⟨_, (pss_one (ps_ret (pe_callB (cr_sum rfl) (by rfl) T.n_sum (by decide +kernel) (pa_cons (pe_lc (own := [("item", 2)]) (g := gName 2) (tt := tYes) rfl scLeastInBody.nd (pi_list (pv 1)) (blkOk_by (N := ["least", "body", "item"]) (sc := defScope sLeastInBody) (by decide +kernel)) (fun _ _ _ _ _ => (pg_name (i := 2) scLeastInBody.nd rfl (by first | exact Or.inl rfl | exact Or.inr rfl))) (fun _ _ _ _ _ => pts_nil) (fun _ _ _ _ _ => (pe_call GLeastInItem (hr.mono (by omega)) rfl T.gLeastInItem T.FLeastInItem.kp T.bLeastInItem .nil pass0 (pa_cons (pv 0) (pa_cons (pv 2) pa_nil))))) pa_nil)))), ?_⟩
  have hl := hits.length
  have c6 := nIB_eq l
  refine ⟨_, rfl, b, rfl, ⟨_, SqL.of hb⟩, fun D hD => lcS (n := vs.length) hD (small1000 (by omega)) _ (fun j v _ => ∃ it, l[j]? = some it ∧ v = .int (cost f it))
    (go_l (SqL.of hb)) (stop_l (SqL.of hb)) (yld_l (SqL.of hb)) (fun j v A B _ h => h) ?_ ?_⟩
  · intro i x H2 R hi hx s2 k
    obtain ⟨it, e1, e2⟩ := hits.get hx
    have hm : it ∈ l := List.mem_of_getElem? e1
    have c7 := dB_mem hm
    have c8 : nI it ≤ sI l := by
      have c2 := sI_take e1
      have c4 := sI_take_le l (i + 1)
      omega
    exact ⟨rfl, _, rfl, _, rfl, L, ns, f, x, it, rfl, hL.same s2, e2.keep (Kp.of s2), okB_all.mp hok it hm, by omega, by omega, fun H3 s3 => k _ H3 s3 ⟨it, e1, rfl⟩⟩
  · intro H2 ys s2 hy hyl hg
    have e := ext_map (ys := ys) (l := l) (f := fun it => V.int (cost f it)) (by omega) hg
    refine ⟨D, l.map (cost f), rfl, SqL.of (by rw [hy, e, List.map_map]; rfl), ?_⟩
    rw [← costB_sum]
    exact q H2 s2
theorem okLeast (T : Txt K mg) : ∀ n : Nat, FnOk P w K mg base CX0 (2 * n + 1) T.aLeastInBody T.fLeastInBody ["least", "body"] (spLeastBody n)
  | 0 => fn_never fun vs H Q E h => by
    obtain ⟨L, ns, f, b, l, _, _, _, _, _, h0, _⟩ := h
    have := dB_pos l
    omega
  | n + 1 => okLeastBody T n (okLeastItem T n (okLeast T n))
end K05


set_option Elab.async false
set_option linter.all false
set_option maxRecDepth 100000
set_option maxHeartbeats 4000000
namespace K05
open PySem PySem.Spec PyProof.Rows L2 FA
variable {P : Program} {w : World} {K : PySem.W.Frag} {mg : Str → Option Value} {base : Heap}
/-- a program, by point 5 -/
structure Valid (p : Pr) : Prop where
  len : p.length ≤ 6
  main : ("main" : Str) ∈ pNames p
  nm : ∀ x ∈ pNames p, FA.okName x
  nd : (pNames p).Nodup
  ok : ∀ x l, p.lookup x = some l → okB (pNames p) l ∧ nCB l ≤ 5 ∧ nIB l ≤ 12 ∧ dB l ≤ 4
  ret : ∀ x ∈ pNames p, rnd 13 p p.length x ≤ 12
theorem Rd.lock {H H1 : Hp} {d L : Addr} {od : Obj} {kvs kvs' : List (Key × V)} (hL : Rd H L (.dK kvs')) (hd : Rd H d (.dK kvs)) (e : H1 d = some (.frz od (.dK kvs))) (k : ∀ b, b ≠ d → H1 b = H b) : Rd H1 L (.dK kvs') := by
  by_cases h : L = d
  · subst h
    have : kvs' = kvs := by
      rcases hL with h1 | ⟨o, h1⟩
      · rcases hd with h2 | ⟨o', h2⟩
        · rw [h1] at h2; cases h2; rfl
        · rw [h1] at h2; cases h2
      · rcases hd with h2 | ⟨o', h2⟩
        · rw [h1] at h2; cases h2
        · rw [h1] at h2; cases h2; rfl
    subst this
    exact .inr ⟨od, e⟩
  · unfold Rd
    rw [k L h]
    exact hL
theorem Kp.lock {H H1 : Hp} {d : Addr} {kvs : List (Key × V)} (hd : Rd H d (.dK kvs)) (k : ∀ b, b ≠ d → H1 b = H b) : Kp H H1 := by
  refine ⟨fun a xs e => ?_, fun a xs e => ?_⟩
  · rw [k a]; exact e
    rintro rfl
    rcases hd with h | ⟨o, h⟩ <;> rw [h] at e <;> cases e
  · rw [k a]; exact e
    rintro rfl
    rcases hd with h | ⟨o, h⟩ <;> rw [h] at e <;> cases e
/-- the least numbers as they stand in the dict -/
def lsKv (p : Pr) (f : Str → Int) : List (Key × V) := p.map fun q => (.inr q.1, .int (f q.1))
theorem lsKv_look {f : Str → Int} {x : Str} : ∀ {p : Pr}, x ∈ pNames p → valV (lsKv p f) (.inr x) = some (.int (f x))
  | (y, l) :: p, h => by
    by_cases e : y = x
    · subst e; exact valV_pos rfl
    · rcases List.mem_cons.mp (show x ∈ y :: pNames p from h) with z | z
      · exact absurd z.symm e
      · have q := lsKv_look (f := f) z
        unfold lsKv at q ⊢
        rw [List.map_cons, valV_neg (fun z => e (Sum.inr.inj z))]
        exact q
theorem lsKv_at {H : Hp} {L : Addr} {p : Pr} {f : Str → Int} (h : H L = some (.dK (lsKv p f))) : LsAt H L (pNames p) f := ⟨_, .inl h, fun x hx => lsKv_look hx⟩
def keyF (f : Str → Int) : Key → V
  | .inl _ => .non
  | .inr x => .int (f x)
theorem kvs_keyF {H : Hp} {f : Str → Int} : ∀ {kvs : List (Key × V)} {p : Pr}, PrKv H kvs p → (kvs.map fun q => (q.1, keyF f q.1)) = lsKv p f
  | _, _, .nil => rfl
  | _, _, .cons h t => by
    have := kvs_keyF (f := f) t
    unfold lsKv at this ⊢
    rw [List.map_cons, List.map_cons, this]
    rfl
theorem key_at {H : Hp} {kvs : List (Key × V)} {p : Pr} (h : PrKv H kvs p) {i : Nat} {k : Key} {v : V} (e : kvs[i]? = some (k, v)) : ∃ x, k = .inr x ∧ (pNames p)[i]? = some x ∧ x ∈ pNames p := by
  have q := h.keys
  have e2 : (kvs.map (·.1))[i]? = some k := by rw [List.getElem?_map, e]; rfl
  rw [q] at e2
  rw [List.getElem?_map] at e2
  cases e3 : p[i]? with
  | none => rw [e3] at e2; cases e2
  | some r =>
    rw [e3] at e2
    cases e2
    have e4 : (pNames p)[i]? = some r.1 := by unfold pNames; rw [List.getElem?_map, e3]; rfl
    exact ⟨r.1, rfl, e4, List.mem_of_getElem? e4⟩
theorem keys_nd {H : Hp} {kvs : List (Key × V)} {p : Pr} (h : PrKv H kvs p) (nd : (pNames p).Nodup) : (kvs.map (·.1)).Nodup := by
  rw [h.keys]
  have : (p.map fun q => (Sum.inr q.1 : Key)) = (pNames p).map Sum.inr := by unfold pNames; rw [List.map_map]; rfl
  rw [this]
  exact List.Pairwise.map _ (fun a b hab z => hab (Sum.inr.inj z)) nd
def spLeastCalls : Sp := fun vs H Q _ => ∃ (d : Addr) (p : Pr), vs = [.ref d] ∧ PrAt H d p ∧ (pNames p).Nodup ∧ p.length ≤ 6 ∧ (∀ x l, p.lookup x = some l → okB (pNames p) l ∧ nIB l ≤ 12 ∧ dB l ≤ 4) ∧
  ∀ L H', Same H H' → H' L = some (.dK (lsKv p (rnd 13 p p.length))) → Q (.ref L) H'
theorem okLeastCalls (T : Txt K mg) : FnOk P w K mg base CX0 10 T.aLeastCalls T.fLeastCalls ["program"] spLeastCalls := by
  have GLeastInBody := okLeast (P := P) (w := w) (base := base) T 4
  refine T.FLeastCalls.ok scLeastCalls (fun vs H Q E h => ?_) (fun cdv A outer s H vs Q E hr h => ?_)
  · obtain ⟨d, p, rfl, _⟩ := h
    rfl
  obtain ⟨d, p, rfl, ⟨kvs, hd, hk⟩, nd, hlen, hok, q⟩ := h
  have hu := hu_of hr
  refine ⟨_, (pss_cons (ps_set (i := 1) scLeastCalls.nd rfl (by first | exact Or.inl rfl | exact Or.inr rfl) (pe_op op_add (pe_glob (v := .int 12) rfl T.c_MOST_CALLS_TO_RETURN ⟨_, rfl⟩) pe_int))
      (pss_cons (ps_set (i := 2) scLeastCalls.nd rfl (by first | exact Or.inl rfl | exact Or.inr rfl) (pe_lock2 (pe_dc (own := [("name", 4)]) (g := gName 4) (tt := tYes) rfl scLeastCalls.nd (pi_keys (pv 0)) (blkOk_by (N := ["program", "too_many", "least", "_", "name"]) (sc := defScope sLeastCalls) (by decide +kernel)) (fun _ _ _ _ _ => (pg_name (i := 4) scLeastCalls.nd rfl (by first | exact Or.inl rfl | exact Or.inr rfl))) (fun _ _ _ _ _ => pts_nil) (fun _ _ _ _ _ => (pv 4)) (fun _ _ _ _ _ => (pv 1)))))
      (pss_cons (ps_for PassesOwn.never rfl (pi_range1 (by rfl) T.n_range (pa_cons (pe_callB call_lenR (by rfl) T.n_len PySem.boot_len (pa_cons (pv 0) pa_nil)) pa_nil)) (pg_name (i := 3) scLeastCalls.nd rfl (by first | exact Or.inl rfl | exact Or.inr rfl))
        (pss_one (ps_set (i := 2) scLeastCalls.nd rfl (by first | exact Or.inl rfl | exact Or.inr rfl) (pe_lock2 (pe_dc (own := [("name", 4)]) (g := gName 4) (tt := tYes) rfl scLeastCalls.nd (pi_keys (pv 0)) (blkOk_by (N := ["program", "too_many", "least", "_", "name"]) (sc := defScope sLeastCalls) (by decide +kernel)) (fun _ _ _ _ _ => (pg_name (i := 4) scLeastCalls.nd rfl (by first | exact Or.inl rfl | exact Or.inr rfl))) (fun _ _ _ _ _ => pts_nil) (fun _ _ _ _ _ => (pv 4)) (fun _ _ _ _ _ => (pe_callB (call_min2 rfl) (by rfl) T.n_min (by decide +kernel) (pa_cons (pv 1) (pa_cons (pe_op op_add pe_int (pe_call GLeastInBody (hr.mono (by omega)) rfl T.gLeastInBody T.FLeastInBody.kp T.bLeastInBody .nil pass0 (pa_cons (pv 2) (pa_cons (pe_dget hu (pv 0) (pv 4) (fun _ _ => rfl)) pa_nil)))) pa_nil)))))))))
      (pss_one (ps_ret (pv 2)))))), ?_⟩
  have hkl := hk.length
  have knd := keys_nd hk nd
  refine ⟨_, _, rfl, rfl, ?_⟩
  refine lock2 hd (fun v H => ∃ D, v = .ref D ∧ D ≠ d ∧ H D = some (.dK (lsKv p (rnd 13 p 0)))) (fun v H2 H3 k ⟨D, e1, e2, e3⟩ => ⟨D, e1, e2, by rw [k D e2]; exact e3⟩) ?_ ?_
  · intro H1 od R h1 k1 kR
    refine ⟨_, rfl, d, od, rfl, .inl ⟨kvs, h1, fun D hD => dcS hD h1 knd (small1000 (by omega)) (by show 4 < 5; decide) (keyF (rnd 13 p 0)) ?_ ?_⟩⟩
    · intro i k v H2 R2 e sm kk
      obtain ⟨x, rfl, _, _⟩ := key_at hk e
      exact ⟨_, rfl, kk H2 (Same.refl _)⟩
    · intro H2 sm hD2
      rw [kvs_keyF hk] at hD2
      exact kR _ H2 sm ⟨D, rfl, (fun z => by rw [z, h1] at hD; cases hD), hD2⟩
  · rintro _ H1 sm ⟨D, rfl, hDd, hD⟩
    refine ⟨_, rfl, d, kvs, rfl, Rd.same sm hd, (kvs.length : Nat), rfl, by omega, by have := small1000 (n := kvs.length) (by omega); have := sizeLine_eq; omega, ?_⟩
    have en : ((kvs.length : Nat) : Int).toNat = p.length := by omega
    rw [en]
    refine for_range (lo := 0) (n := p.length) (fun i σ H' => ∃ L v3, σ = [some (.ref d), some (.int 13), some (.ref L), v3, none] ∧ Same H H' ∧ H' L = some (.dK (lsKv p (rnd 13 p i)))) ⟨D, none, rfl, sm, hD⟩ ?_ ?_
    · rintro i σ H2 hi ⟨L, v3, rfl, s2, hL⟩
      have hd2 := Rd.same s2 hd
      refine lock2 hd2 (fun v H => ∃ D, v = .ref D ∧ D ≠ d ∧ H D = some (.dK (lsKv p (rnd 13 p (i + 1))))) (fun v H2 H3 k ⟨D, e1, e2, e3⟩ => ⟨D, e1, e2, by rw [k D e2]; exact e3⟩) ?_ ?_
      · intro H3 od R h1 k1 kR
        have kp : Kp H2 H3 := Kp.lock hd2 k1
        have hk3 : PrKv H3 kvs p := (hk.keep (Kp.of s2)).keep kp
        have hL3 : LsAt H3 L (pNames p) (rnd 13 p i) := ⟨_, Rd.lock (.inl hL) hd2 h1 k1, fun x hx => lsKv_look hx⟩
        refine ⟨_, rfl, d, od, rfl, .inl ⟨kvs, h1, fun D hD => dcS hD h1 knd (small1000 (by omega)) (by show 4 < 5; decide) (keyF (rnd 13 p (i + 1))) ?_ ?_⟩⟩
        · intro j k v H4 R2 e s4 kk
          obtain ⟨x, rfl, _, hx⟩ := key_at hk e
          have pa : PrAt H4 d p := PrAt.same s4 ⟨kvs, .inr ⟨od, h1⟩, hk3⟩
          obtain ⟨l0, e0⟩ := lookup_mem hx
          rcases pa.look (x := x) with ⟨z1, _⟩ | ⟨l, b, z1, z2, z3⟩
          · rw [e0] at z1; cases z1
          · obtain ⟨o1, o2, o3⟩ := hok x l z1
            refine ⟨_, rfl, _, rfl, _, rfl, _, rfl, d, _, rfl, z2, L, pNames p, rnd 13 p i, b, l, rfl, hL3.same s4, z3, o1, o2, o3, fun H5 s5 => ?_⟩
            refine ⟨_, _, rfl, rfl, _, _, rfl, ?_⟩
            have ev : (if (1 : Int) + costB (rnd 13 p i) l < 13 then (1 : Int) + costB (rnd 13 p i) l else 13) = rnd 13 p (i + 1) x := by
              have eb : bodyOf p x = l := by unfold bodyOf; rw [z1]; rfl
              simp only [rnd, eb]
              split <;> omega
            rw [ev]
            exact kk H5 s5
        · intro H4 s4 hD4
          rw [kvs_keyF hk] at hD4
          exact kR _ H4 s4 ⟨D, rfl, (fun z => by rw [z, h1] at hD; cases hD), hD4⟩
      · rintro _ H3 s3 ⟨D', rfl, hDd', hD'⟩
        exact ⟨D', _, rfl, s2.trans s3, hD'⟩
    · rintro σ H2 ⟨L, v3, rfl, s2, hL⟩
      exact ⟨_, rfl, q L H2 s2 hL⟩
end K05


set_option Elab.async false
set_option linter.all false
set_option maxRecDepth 100000
set_option maxHeartbeats 4000000
namespace K05
open PySem PySem.Spec PyProof.Rows L2 FA
variable {P : Program} {w : World} {K : PySem.W.Frag} {mg : Str → Option Value} {base : Heap}
def spIsProgram : Sp := fun vs H Q _ => ∃ (d : Addr) (p : Pr), vs = [.ref d] ∧ PrAt H d p ∧ Valid p ∧ ∀ H', Same H H' → Q (.bl true) H'
theorem all_true (n : Nat) : ((List.replicate n true).all id) = true := by simp
theorem trues {ys : List V} {n : Nat} (hl : ys.length = n) (h : ∀ (j : Nat) y, ys[j]? = some y → y = .bl true) : ys = (List.replicate n true).map V.bl := by
  refine List.ext_getElem? fun j => ?_
  rw [List.map_replicate, List.getElem?_replicate]
  by_cases hj : j < ys.length
  · rw [List.getElem?_eq_getElem hj, h j ys[j] (List.getElem?_eq_getElem hj), if_pos (by omega)]
  · rw [List.getElem?_eq_none (by omega), if_neg (by omega)]
theorem okIsProgram (T : Txt K mg) : FnOk P w K mg base CX0 12 T.aIsProgram T.fIsProgram ["value"] spIsProgram := by
  have GIsName : FnOk P w K mg base CX0 1 T.aIsName T.fIsName ["value"] spIsName := okIsName T
  have GBodySize := okSizes (P := P) (w := w) (base := base) T 4 (by omega)
  have GLeastCalls : FnOk P w K mg base CX0 10 T.aLeastCalls T.fLeastCalls ["program"] spLeastCalls := okLeastCalls T
  refine T.FIsProgram.ok scIsProgram (fun vs H Q E h => ?_) (fun cdv A outer s H vs Q E hr h => ?_)
  · obtain ⟨d, p, rfl, _⟩ := h
    rfl
  obtain ⟨d, p, rfl, hpa, va, q⟩ := h
  have hu := hu_of hr
  obtain ⟨kvs, hd, hk⟩ := id hpa
  have hkl := hk.length
  have hlen := va.len
  refine ⟨_, (pss_cons (ps_if (PW.pt (pw_or (pt_not (pt_val (pe_callB call_isi (by rfl) T.n_isinstance (by decide +kernel) (pa_cons (pv 0) (pa_cons (pe_bltn (v := .ty "dict") (by rfl) T.n_dict (by decide +kernel) rfl) pa_nil))))) (pw_or (pt_cmpR op_gt (pe_callB call_lenR (by rfl) T.n_len PySem.boot_len (pa_cons (pv 0) pa_nil)) (pe_glob (v := .int 6) rfl T.c_MOST_FUNCTIONS ⟨_, rfl⟩) (nomark _)) (pw_or1 (pt_cmp (pc_dnotin hu pe_str (pv 0)))))))
        (pss_one (ps_ret pe_bl)) pss_nil)
      (pss_cons (ps_if (pt_not (pt_val (pe_callB (cr_all rfl) (by rfl) T.n_all (by decide +kernel) (pa_cons (pe_lock2 (pe_lc (own := [("name", 2)]) (g := gName 2) (tt := tYes) rfl scIsProgram.nd (pi_keys (pv 0)) (blkOk_by (N := ["value", "least", "name"]) (sc := defScope sIsProgram) (by decide +kernel)) (fun _ _ _ _ _ => (pg_name (i := 2) scIsProgram.nd rfl (by first | exact Or.inl rfl | exact Or.inr rfl))) (fun _ _ _ _ _ => pts_nil) (fun _ _ _ _ _ => (pe_call GIsName (hr.mono (by omega)) rfl T.gIsName T.FIsName.kp T.bIsName .nil pass0 (pa_cons (pv 2) pa_nil))))) pa_nil))))
        (pss_one (ps_ret pe_bl)) pss_nil)
      (pss_cons (ps_if (pt_not (pt_val (pe_callB (cr_all rfl) (by rfl) T.n_all (by decide +kernel) (pa_cons (pe_lock2 (pe_lc (own := [("name", 2)]) (g := gName 2) (tt := tYes) rfl scIsProgram.nd (pi_keys (pv 0)) (blkOk_by (N := ["value", "least", "name"]) (sc := defScope sIsProgram) (by decide +kernel)) (fun _ _ _ _ _ => (pg_name (i := 2) scIsProgram.nd rfl (by first | exact Or.inl rfl | exact Or.inr rfl))) (fun _ _ _ _ _ => pts_nil) (fun _ _ _ _ _ => (pe_cmpR op_notN (pe_call GBodySize (hr.mono (by omega)) rfl T.gBodySize T.FBodySize.kp T.bBodySize .nil pass0 (pa_cons (pv 0) (pa_cons (pe_dget hu (pv 0) (pv 2) (fun _ _ => rfl)) (pa_cons pe_int pa_nil)))) pe_non (nomark _))))) pa_nil))))
        (pss_one (ps_ret pe_bl)) pss_nil)
      (pss_cons (ps_set (i := 1) scIsProgram.nd rfl (by first | exact Or.inl rfl | exact Or.inr rfl) (pe_call GLeastCalls (hr.mono (by omega)) rfl T.gLeastCalls T.FLeastCalls.kp T.bLeastCalls .nil pass0 (pa_cons (pv 0) pa_nil)))
      (pss_one (ps_ret (pe_callB (cr_all rfl) (by rfl) T.n_all (by decide +kernel) (pa_cons (pe_lock2 (pe_lc (own := [("name", 2)]) (g := gName 2) (tt := tYes) rfl scIsProgram.nd (pi_keys (pv 1)) (blkOk_by (N := ["value", "least", "name"]) (sc := defScope sIsProgram) (by decide +kernel)) (fun _ _ _ _ _ => (pg_name (i := 2) scIsProgram.nd rfl (by first | exact Or.inl rfl | exact Or.inr rfl))) (fun _ _ _ _ _ => pts_nil) (fun _ _ _ _ _ => (pe_cmpR op_le (pe_dget hu (pv 1) (pv 2) (fun _ _ => rfl)) (pe_glob (v := .int 12) rfl T.c_MOST_CALLS_TO_RETURN ⟨_, rfl⟩) (nomark _))))) pa_nil)))))))), ?_⟩
  -- a dict, not too long, with a main
  refine ⟨_, rfl, _, _, _, _, true, rfl, .ty _, ty_dict hd, kit_ty (by decide +kernel), _, rfl, iteF ?_⟩
  refine ⟨_, rfl, d, kvs, rfl, hd, _, _, rfl, rfl, _, rfl, ite2 (fun c => absurd (of_decide_eq_true c) (by omega)) (fun _ => ?_)⟩
  obtain ⟨l0, e0⟩ := lookup_mem va.main
  rcases hpa.look (x := "main") with ⟨z1, _⟩ | ⟨l, b, z1, z2, z3⟩
  · rw [e0] at z1; cases z1
  refine ⟨_, rfl, d, _, rfl, z2, _, rfl, iteF ?_⟩
  -- all names
  refine lock2 hd (fun v H => ∃ D, v = .ref D ∧ D ≠ d ∧ H D = some (.lst ((List.replicate kvs.length true).map V.bl))) (fun v H2 H3 k ⟨D, e1, e2, e3⟩ => ⟨D, e1, e2, by rw [k D e2]; exact e3⟩) ?_ ?_
  · intro H1 od R h1 k1 kR
    refine ⟨_, rfl, d, od, rfl, .inl ⟨kvs, h1, fun D hD => lcS (n := kvs.length) hD (small1000 (by omega)) _ (fun _ v _ => v = .bl true) (go_k h1) (stop_k h1) yld_k (fun _ _ _ _ _ e => e) ?_ ?_⟩⟩
    · rintro i _ H2 R2 hi ⟨k, v, e, rfl⟩ sm kk
      obtain ⟨x, rfl, _, hx⟩ := key_at hk e
      exact ⟨rfl, _, rfl, x, rfl, va.nm x hx, fun H3 s3 => kk _ H3 s3 rfl⟩
    · intro H2 ys s2 hy hl hg
      rw [trues hl hg] at hy
      exact kR _ H2 s2 ⟨D, rfl, (fun z => by rw [z, h1] at hD; cases hD), hy⟩
  rintro _ H1 s1 ⟨D1, rfl, _, hD1⟩
  refine ⟨D1, _, rfl, SqL.of hD1, ?_⟩
  rw [all_true]
  refine ⟨_, rfl, iteF ?_⟩
  have hd1 := Rd.same s1 hd
  have hk1 := hk.keep (Kp.of s1)
  -- all bodies
  refine lock2 hd1 (fun v H => ∃ D, v = .ref D ∧ D ≠ d ∧ H D = some (.lst ((List.replicate kvs.length true).map V.bl))) (fun v H2 H3 k ⟨D, e1, e2, e3⟩ => ⟨D, e1, e2, by rw [k D e2]; exact e3⟩) ?_ ?_
  · intro H2 od R h1 k1 kR
    have hk2 : PrKv H2 kvs p := hk1.keep (Kp.lock hd1 k1)
    have kn : Known H2 d p := ⟨⟨kvs, .inr ⟨od, h1⟩, hk2⟩, va.nm⟩
    refine ⟨_, rfl, d, od, rfl, .inl ⟨kvs, h1, fun D hD => lcS (n := kvs.length) hD (small1000 (by omega)) _ (fun _ v _ => v = .bl true) (go_k h1) (stop_k h1) yld_k (fun _ _ _ _ _ e => e) ?_ ?_⟩⟩
    · rintro i _ H3 R2 hi ⟨k, v, e, rfl⟩ s3 kk
      obtain ⟨x, rfl, _, hx⟩ := key_at hk e
      obtain ⟨l, b, z1, z2, z3⟩ := (kn.same s3).has hx
      obtain ⟨o1, o2, o3, o4⟩ := va.ok x l z1
      refine ⟨rfl, _, rfl, _, rfl, _, rfl, d, _, rfl, z2, d, p, b, l, 1, rfl, kn.same s3, z3, o1, o4, by omega, o2, o3, fun t H4 s4 ht => ?_⟩
      exact ⟨rfl, kk _ H4 s4 (by rfl)⟩
    · intro H3 ys s3 hy hl hg
      rw [trues hl hg] at hy
      exact kR _ H3 s3 ⟨D, rfl, (fun z => by rw [z, h1] at hD; cases hD), hy⟩
  rintro _ H2 s2 ⟨D2, rfl, _, hD2⟩
  refine ⟨D2, _, rfl, SqL.of hD2, ?_⟩
  rw [all_true]
  refine ⟨_, rfl, iteF ?_⟩
  -- the least calls
  have s12 := s1.trans s2
  refine ⟨_, rfl, d, p, rfl, PrAt.same s12 hpa, va.nd, va.len, fun x l e => ⟨(va.ok x l e).1, (va.ok x l e).2.2.1, (va.ok x l e).2.2.2⟩, fun L H3 s3 hL => ?_⟩
  refine lock2 (d := L) (.inl hL) (fun v H => ∃ D, v = .ref D ∧ D ≠ L ∧ H D = some (.lst ((List.replicate (lsKv p (rnd 13 p p.length)).length true).map V.bl))) (fun v H2 H3 k ⟨D, e1, e2, e3⟩ => ⟨D, e1, e2, by rw [k D e2]; exact e3⟩) ?_ ?_
  · intro H4 od R h1 k1 kR
    have hll : (lsKv p (rnd 13 p p.length)).length = p.length := by unfold lsKv; rw [List.length_map]
    refine ⟨_, rfl, L, od, rfl, .inl ⟨_, h1, fun D hD => lcS (n := (lsKv p (rnd 13 p p.length)).length) hD (small1000 (by omega)) _ (fun _ v _ => v = .bl true) (go_k h1) (stop_k h1) yld_k (fun _ _ _ _ _ e => e) ?_ ?_⟩⟩
    · rintro i _ H5 R2 hi ⟨k, v, e, rfl⟩ s5 kk
      have ek : ∃ x ∈ pNames p, k = .inr x := by
        unfold lsKv at e
        rw [List.getElem?_map] at e
        cases e3 : p[i]? with
        | none => rw [e3] at e; cases e
        | some r =>
          rw [e3] at e
          cases e
          exact ⟨r.1, List.mem_map.mpr ⟨r, List.mem_of_getElem? e3, rfl⟩, rfl⟩
      obtain ⟨x, hx, rfl⟩ := ek
      have le := va.ret x hx
      refine ⟨rfl, _, rfl, _, rfl, L, _, rfl, .inl ⟨_, .inr x, .inr ⟨od, s5 _ _ h1⟩, rfl, (lsKv_look hx).symm⟩, _, _, rfl, rfl, ?_⟩
      exact kk _ H5 (Same.refl _) (congrArg V.bl (decide_eq_true le))
    · intro H5 ys s5 hy hl hg
      rw [trues hl hg] at hy
      exact kR _ H5 s5 ⟨D, rfl, (fun z => by rw [z, h1] at hD; cases hD), hy⟩
  rintro _ H5 s5 ⟨D3, rfl, _, hD3⟩
  refine ⟨D3, _, rfl, SqL.of hD3, ?_⟩
  rw [all_true]
  exact q H5 (s12.trans (s3.trans s5))
def spIsFunction : Sp := fun vs H Q _ => ∃ (d : Addr) (p : Pr) (x : Str), vs = [.ref d, .str x] ∧ PrAt H d p ∧ x ∈ pNames p ∧ Q (.bl true) H
theorem okIsFunction (T : Txt K mg) : FnOk P w K mg base CX0 1 T.aIsFunction T.fIsFunction ["program", "value"] spIsFunction := by
  refine T.FIsFunction.ok scIsFunction (fun vs H Q E h => ?_) (fun cdv A outer s H vs Q E hr h => ?_)
  · obtain ⟨d, p, x, rfl, _⟩ := h
    rfl
  obtain ⟨d, p, x, rfl, hpa, hx, q⟩ := h
  have hu := hu_of hr
  refine ⟨_, (pss_one (ps_ret (pe_and (pe_callB call_isi (by rfl) T.n_isinstance (by decide +kernel) (pa_cons (pv 1) (pa_cons (pe_bltn (v := .ty "str") (by rfl) T.n_str (by decide +kernel) rfl) pa_nil))) (pe_one (pe_cmp (pc_din hu (pv 1) (pv 0))))))), ?_⟩
  obtain ⟨l0, e0⟩ := lookup_mem hx
  rcases hpa.look (x := x) with ⟨z1, _⟩ | ⟨l, b, z1, z2, z3⟩
  · rw [e0] at z1; cases z1
  refine ⟨_, rfl, _, _, _, _, true, rfl, .ty _, ty_str x, kit_ty (by decide +kernel), _, rfl, iteT ?_⟩
  exact ⟨_, rfl, _, rfl, d, _, rfl, z2, q⟩
def spCheckProgram : Sp := fun vs H Q _ => ∃ (d : Addr) (p : Pr), vs = [.ref d] ∧ PrAt H d p ∧ Valid p ∧ ∀ H', Same H H' → Q .non H'
theorem okCheckProgram (T : Txt K mg) : FnOk P w K mg base CX0 13 T.aCheckProgram T.fCheckProgram ["program"] spCheckProgram := by
  have GIsProgram : FnOk P w K mg base CX0 12 T.aIsProgram T.fIsProgram ["value"] spIsProgram := okIsProgram T
  refine T.FCheckProgram.ok scCheckProgram (fun vs H Q E h => ?_) (fun cdv A outer s H vs Q E hr h => ?_)
  · obtain ⟨d, p, rfl, _⟩ := h
    rfl
  obtain ⟨d, p, rfl, hpa, va, q⟩ := h
  refine ⟨_, (pss_one (ps_if (pt_not (pt_val (pe_call GIsProgram (hr.mono (by omega)) rfl T.gIsProgram T.FIsProgram.kp T.bIsProgram .nil pass0 (pa_cons (pv 0) pa_nil))))
        (pss_one ps_never) pss_nil)), ?_⟩
  exact ⟨_, rfl, d, p, rfl, hpa, va, fun H1 s1 => ⟨_, rfl, iteF (q H1 s1)⟩⟩
def spCheckName : Sp := fun vs H Q _ => ∃ (d : Addr) (p : Pr) (x : Str), vs = [.ref d, .str x] ∧ PrAt H d p ∧ x ∈ pNames p ∧ Q .non H
theorem okCheckName (T : Txt K mg) : FnOk P w K mg base CX0 2 T.aCheckName T.fCheckName ["program", "name"] spCheckName := by
  have GIsFunction : FnOk P w K mg base CX0 1 T.aIsFunction T.fIsFunction ["program", "value"] spIsFunction := okIsFunction T
  refine T.FCheckName.ok scCheckName (fun vs H Q E h => ?_) (fun cdv A outer s H vs Q E hr h => ?_)
  · obtain ⟨d, p, x, rfl, _⟩ := h
    rfl
  obtain ⟨d, p, x, rfl, hpa, hx, q⟩ := h
  refine ⟨_, (pss_one (ps_if (pt_not (pt_val (pe_call GIsFunction (hr.mono (by omega)) rfl T.gIsFunction T.FIsFunction.kp T.bIsFunction .nil pass0 (pa_cons (pv 0) (pa_cons (pv 1) pa_nil)))))
        (pss_one ps_never) pss_nil)), ?_⟩
  exact ⟨_, rfl, _, rfl, d, p, x, rfl, hpa, hx, _, rfl, iteF q⟩
def spCheckWord : Sp := fun vs H Q _ => ∃ (d l : Addr) (p : Pr) (u : List Str), vs = [.ref d, .ref l] ∧ PrAt H d p ∧ H l = some (.lst (u.map V.str)) ∧ (∀ x ∈ u, x ∈ pNames p) ∧ u.length ≤ 300 ∧ ∀ H', Same H H' → Q .non H'
theorem okCheckWord (T : Txt K mg) : FnOk P w K mg base CX0 2 T.aCheckWord T.fCheckWord ["program", "word"] spCheckWord := by
  have GIsFunction : FnOk P w K mg base CX0 1 T.aIsFunction T.fIsFunction ["program", "value"] spIsFunction := okIsFunction T
  refine T.FCheckWord.ok scCheckWord (fun vs H Q E h => ?_) (fun cdv A outer s H vs Q E hr h => ?_)
  · obtain ⟨d, l, p, u, rfl, _⟩ := h
    rfl
  obtain ⟨d, l, p, u, rfl, hpa, hl, ok, hlen, q⟩ := h
  have hu := hu_of hr
  refine ⟨_, (pss_one (ps_if (PW.pt (pw_or (pt_not (pt_val (pe_callB call_isi (by rfl) T.n_isinstance (by decide +kernel) (pa_cons (pv 1) (pa_cons (pe_bltn (v := .ty "list") (by rfl) T.n_list (by decide +kernel) rfl) pa_nil))))) (pw_or1 (pt_not (pt_val (pe_callB (cr_all rfl) (by rfl) T.n_all (by decide +kernel) (pa_cons (pe_lc (own := [("name", 2)]) (g := gName 2) (tt := tYes) rfl scCheckWord.nd (pi_list (pv 1)) (blkOk_by (N := ["program", "word", "name"]) (sc := defScope sCheckWord) (by decide +kernel)) (fun _ _ _ _ _ => (pg_name (i := 2) scCheckWord.nd rfl (by first | exact Or.inl rfl | exact Or.inr rfl))) (fun _ _ _ _ _ => pts_nil) (fun _ _ _ _ _ => (pe_call GIsFunction (hr.mono (by omega)) rfl T.gIsFunction T.FIsFunction.kp T.bIsFunction .nil pass0 (pa_cons (pv 0) (pa_cons (pv 2) pa_nil))))) pa_nil)))))))
        (pss_one ps_never) pss_nil)), ?_⟩
  refine ⟨_, rfl, _, _, _, _, true, rfl, .ty _, ty_lst hl, kit_ty (by decide +kernel), _, rfl, iteF ?_⟩
  refine ⟨_, rfl, l, rfl, ⟨_, SqL.of hl⟩, fun D hD => lcS (n := (u.map V.str).length) hD (small1000 (by rw [List.length_map]; omega)) _ (fun _ v _ => v = .bl true) (go_l (SqL.of hl)) (stop_l (SqL.of hl)) (yld_l (SqL.of hl)) (fun _ _ _ _ _ e => e) ?_ ?_⟩
  · intro i x H1 R hi hx s1 k
    obtain ⟨y, e1, rfl⟩ := str_get hx
    exact ⟨rfl, _, rfl, _, rfl, d, p, y, rfl, PrAt.same s1 hpa, ok y (List.mem_of_getElem? e1), k _ _ (Same.refl _) rfl⟩
  · intro H1 ys s1 hy hyl hg
    rw [trues hyl hg] at hy
    refine ⟨D, _, rfl, SqL.of hy, ?_⟩
    rw [all_true]
    exact ⟨_, rfl, iteF (q H1 s1)⟩
end K05


set_option Elab.async false
set_option linter.all false
set_option maxRecDepth 100000
set_option maxHeartbeats 4000000
namespace K05
open PySem PySem.Spec PyProof.Rows L2 FA
variable {P : Program} {w : World} {K : PySem.W.Frag} {mg : Str → Option Value} {base : Heap}
/-- a source of draws at a: at most n numbers were mixed -/
def WellAt (H : Hp) (a : Addr) (n : Nat) : Prop := ∃ x y z : Int, H a = some (.lst [.int x, .int y, .int z]) ∧ y.natAbs < 2 ^ 200 ∧ 0 ≤ z ∧ z ≤ n
theorem WellAt.mono {H : Hp} {a : Addr} {n m : Nat} (h : WellAt H a n) (hm : n ≤ m) : WellAt H a m := by
  obtain ⟨x, y, z, h1, h2, h3, h4⟩ := h
  exact ⟨x, y, z, h1, h2, h3, by omega⟩
theorem WellAt.keep {H H' : Hp} {a : Addr} {n : Nat} (h : WellAt H a n) (k : ∀ o, H a = some o → H' a = some o) : WellAt H' a n := by
  obtain ⟨x, y, z, h1, h⟩ := h
  exact ⟨x, y, z, k _ h1, h⟩
theorem WellAt.some {H : Hp} {a : Addr} {n : Nat} (h : WellAt H a n) : ∃ o, H a = some o := by
  obtain ⟨x, y, z, h1, _⟩ := h
  exact ⟨_, h1⟩
def spWell : Sp := fun vs H Q _ => ∃ (s : Addr) (ns : List Int) (k : Nat), vs = [.ref s, .int (k : Int)] ∧ SqL K H s (ns.map V.int) ∧ k ≤ 100 ∧ ∀ a H', Same H H' → H a = none → WellAt H' a 0 → Q (.ref a) H'
theorem e39 : ((10 : Int) ^ Int.toNat 39) = 1000000000000000000000000000000000000000 := by decide
theorem okWell (T : Txt K mg) : FnOk P w K mg base CX0 1 T.aLWell T.fLWell ["script", "k"] (spWell (K := K)) := by
  refine T.FLWell.ok scLWell (fun vs H Q E h => ?_) (fun cdv A outer s H vs Q E hr h => ?_)
  · obtain ⟨s, ns, k, rfl, _⟩ := h
    rfl
  obtain ⟨a, ns, k, rfl, hs, hk, q⟩ := h
  have hu := hu_of hr
  refine ⟨_, (pss_cons (ps_set (i := 2) scLWell.nd rfl (by first | exact Or.inl rfl | exact Or.inr rfl) (pe_ifExp (pt_cmpR op_lt (pv 1) (pe_callB call_len_seq (by rfl) T.n_len PySem.boot_len (pa_cons (pv 0) pa_nil)) (nomark _)) (pe_ix ix_list (pv 0) (pv 1) (fun _ _ => rfl)) pe_int))
      (pss_one (ps_ret (pe_lst (pa_cons (pe_callB (call_max2 rfl) (by rfl) T.n_max (by decide +kernel) (pa_cons pe_int (pa_cons (pe_op op_sub (pv 2) (pe_op op_pow pe_int pe_int)) pa_nil))) (pa_cons (pe_op op_add (pe_op op_mul (pe_op op_add (pe_op op_mod (pv 2) (pe_op op_add (pe_op op_pow pe_int pe_int) pe_int)) pe_int) pe_int) (pv 1)) (pa_cons pe_int pa_nil))))))), ?_⟩
  have fin : ∀ cell : Int, (∃ v, ([some (V.ref a), some (V.int (k : Int)), some (V.int cell)] : L2.St)[2]? = some (some v) ∧ v = .int cell) := fun cell => ⟨_, rfl, rfl⟩
  have rest : ∀ (cell : Int) (R : VK), (∀ a' H', Same H H' → H a' = none → WellAt H' a' 0 → R (.ref a') H') → ∀ p, H p = none → R (.ref p) (upd H p (.lst [.int (if cell - (10 : Int) ^ Int.toNat 18 > 0 then cell - (10 : Int) ^ Int.toNat 18 else 0), .int ((cell % ((10 : Int) ^ Int.toNat 39 + 3) + 3) * 128 + (k : Int)), .int 0])) := fun cell R q p hp => by
    refine q p _ (same_upd hp _) hp ⟨_, _, _, upd_same, ?_, Int.le_refl _, Int.le_refl _⟩
    rw [e39]
    have h1 := Int.emod_nonneg cell (b := 1000000000000000000000000000000000000000 + 3) (by decide)
    have h2 := Int.emod_lt_of_pos cell (b := 1000000000000000000000000000000000000000 + 3) (by decide)
    omega
  refine ⟨_, rfl, _, rfl, a, _, rfl, .inl hs, _, _, rfl, rfl, _, rfl, ite2 (fun c => ?_) (fun c => ?_)⟩
  · have c := of_decide_eq_true c
    rw [List.length_map] at c
    have hlt : k < ns.length := by omega
    refine ⟨_, rfl, _, rfl, _, _, _, _, rfl, rfl, hs, atI_nat (j := k) (v := .int ns[k]) (by rw [List.getElem?_map, List.getElem?_eq_getElem hlt]; rfl), ?_⟩
    refine ⟨_, rfl, _, _, rfl, rfl, ⟨by decide, by decide, by decide⟩, _, _, rfl, rfl, _, _, rfl, ?_⟩
    refine ⟨_, rfl, _, _, rfl, rfl, ⟨by decide, by decide, by decide⟩, _, _, rfl, rfl, _, _, rfl, rfl, (by show (0 : Int) < _; rw [e39]; decide), _, _, rfl, rfl, _, _, rfl, rfl, .inr ⟨by decide, by decide⟩, _, rfl, _, _, rfl, rfl, ?_⟩
    refine ⟨Nat.le_of_lt (small1000 (by simp)), fun p hp => rest ns[k] Q q p hp⟩
  · refine ⟨_, rfl, _, _, rfl, rfl, ⟨by decide, by decide, by decide⟩, _, _, rfl, rfl, _, _, rfl, ?_⟩
    refine ⟨_, rfl, _, _, rfl, rfl, ⟨by decide, by decide, by decide⟩, _, _, rfl, rfl, _, _, rfl, rfl, (by show (0 : Int) < _; rw [e39]; decide), _, _, rfl, rfl, _, _, rfl, rfl, .inr ⟨by decide, by decide⟩, _, rfl, _, _, rfl, rfl, ?_⟩
    refine ⟨Nat.le_of_lt (small1000 (by simp)), fun p hp => rest 0 Q q p hp⟩
theorem e41 : ((10 : Int) ^ Int.toNat 41) = 100000000000000000000000000000000000000000 := by decide
theorem e38 : ((10 : Int) ^ Int.toNat 38) = 100000000000000000000000000000000000000 := by decide
def spPull : Sp := fun vs H Q _ => ∃ (a : Addr) (m : Int) (n : Nat), vs = [.ref a, .int m] ∧ 1 ≤ m ∧ m < 1000000 ∧ WellAt H a n ∧ n < 2 ^ 100 ∧
  ∀ r H', 0 ≤ r → r < m → Sm [a] H H' → WellAt H' a (n + 1) → Q (.int r) H'
theorem abs_small {i : Int} {n : Nat} (h : i.natAbs < 2 ^ n) (hn : n ≤ 1000000) : i.natAbs < 2 ^ 1000000 := Nat.lt_of_lt_of_le h (Nat.pow_le_pow_right (by decide) hn)
theorem okPull (T : Txt K mg) : FnOk P w K mg base CX0 1 T.aLPull T.fLPull ["well", "many"] spPull := by
  refine T.FLPull.ok scLPull (fun vs H Q E h => ?_) (fun cdv A outer s H vs Q E hr h => ?_)
  · obtain ⟨a, m, n, rfl, _⟩ := h
    rfl
  obtain ⟨a, m, n, rfl, h1, h2, ⟨x, y, z, hw, hy, hz0, hz⟩, hn, q⟩ := h
  have hu := hu_of hr
  refine ⟨_, (pss_cons (ps_if (pt_cmpR op_gt (pe_ix ix_list (pv 0) pe_int (fun _ _ => rfl)) pe_int (nomark _))
        (pss_cons (ps_set (i := 3) scLPull.nd rfl (by first | exact Or.inl rfl | exact Or.inr rfl) (pe_op op_mod (pe_ix ix_list (pv 0) pe_int (fun _ _ => rfl)) (pv 1)))
        (pss_cons (ps_asg (pe_op op_fdivW (pe_ix ix_list (pv 0) pe_int (fun _ _ => rfl)) (pv 1)) (pg_sub (pv 0) pe_int set_list))
        (pss_one (ps_ret (pv 3))))) pss_nil)
      (pss_cons (ps_asg (pe_op op_add (pe_ix ix_list (pv 0) pe_int (fun _ _ => rfl)) pe_int) (pg_sub (pv 0) pe_int set_list))
      (pss_cons (ps_set (i := 2) scLPull.nd rfl (by first | exact Or.inl rfl | exact Or.inr rfl) (pe_op op_mod (pe_op op_powW (pe_op op_add (pe_ix ix_list (pv 0) pe_int (fun _ _ => rfl)) (pe_op op_mul pe_int (pe_ix ix_list (pv 0) pe_int (fun _ _ => rfl)))) pe_int) (pe_op op_add (pe_op op_pow pe_int pe_int) pe_int)))
      (pss_cons (ps_set (i := 2) scLPull.nd rfl (by first | exact Or.inl rfl | exact Or.inr rfl) (pe_op op_mod (pe_op op_powW (pe_op op_add (pv 2) (pe_op op_mul pe_int (pe_ix ix_list (pv 0) pe_int (fun _ _ => rfl)))) pe_int) (pe_op op_add (pe_op op_pow pe_int pe_int) pe_int)))
      (pss_one (ps_ret (pe_op op_mod (pe_op op_fdivW (pv 2) (pe_op op_pow pe_int pe_int)) (pv 1)))))))), ?_⟩
  have hm : m.natAbs < 2 ^ 20 := by omega
  refine ⟨_, rfl, _, _, _, _, rfl, rfl, SqL.of hw, at_of (j := 0) rfl rfl, _, _, rfl, rfl, _, rfl, ite2 (fun c => ?_) (fun c => ?_)⟩
  · have c := of_decide_eq_true c
    refine ⟨_, rfl, _, _, _, _, rfl, rfl, SqL.of hw, at_of (j := 0) rfl rfl, _, rfl, _, _, rfl, rfl, (by show (0 : Int) < m; omega), ?_⟩
    refine ⟨_, rfl, _, _, _, _, rfl, rfl, SqL.of hw, at_of (j := 0) rfl rfl, _, rfl, _, _, rfl, rfl, wide_div (by omega) hm (by decide) (by decide), ?_⟩
    refine ⟨_, rfl, a, _, 0, 0, rfl, rfl, hw, rfl, ?_⟩
    refine ⟨_, rfl, q _ _ (Int.emod_nonneg _ (by omega)) (Int.emod_lt_of_pos _ (by omega)) (Sm.at (by simp)) ⟨_, y, z, upd_same, hy, hz0, by omega⟩⟩
  · refine ⟨_, rfl, _, _, _, _, rfl, rfl, SqL.of hw, at_of (j := 2) rfl rfl, _, _, rfl, rfl, ?_⟩
    refine ⟨_, rfl, a, _, 2, 2, rfl, rfl, hw, rfl, ?_⟩
    obtain ⟨H2, eH⟩ : ∃ H2, H2 = upd H a (.lst ([V.int x, V.int y, V.int z].set 2 (.int (z + 1)))) := ⟨_, rfl⟩
    have hw2 : H2 a = some (.lst [.int x, .int y, .int (z + 1)]) := by rw [eH]; exact upd_same
    have s2 : Sm [a] H H2 := by rw [eH]; exact Sm.at (by simp)
    rw [← eH]
    have hb : (y + 86028157 * (z + 1)).natAbs < 2 ^ 201 := by omega
    refine ⟨_, rfl, _, _, _, _, rfl, rfl, SqL.of hw2, at_of (j := 1) rfl rfl, _, rfl, _, _, _, _, rfl, rfl, SqL.of hw2, at_of (j := 2) rfl rfl, _, _, rfl, rfl, .inl ⟨by decide, by decide⟩, _, _, rfl, rfl, _, _, rfl, rfl, ⟨by decide, by decide, abs_small hb (by decide)⟩, ?_⟩
    refine ⟨_, _, rfl, rfl, ⟨by decide, by decide, by decide⟩, _, _, rfl, rfl, _, _, rfl, rfl, (by show (0 : Int) < _; rw [e41]; decide), ?_⟩
    have m0 := Int.emod_nonneg ((y + 86028157 * (z + 1)) ^ Int.toNat 3) (b := (10 : Int) ^ Int.toNat 41 + 37) (by rw [e41]; decide)
    have m1 := Int.emod_lt_of_pos ((y + 86028157 * (z + 1)) ^ Int.toNat 3) (b := (10 : Int) ^ Int.toNat 41 + 37) (by rw [e41]; decide)
    have hb2 : ∀ u : Int, 0 ≤ u → u < (10 : Int) ^ Int.toNat 41 + 37 → (u + 32452867 * (z + 1)).natAbs < 2 ^ 201 := fun u h0 h1 => by
      rw [e41] at h1
      omega
    refine ⟨_, rfl, _, rfl, _, _, _, _, rfl, rfl, SqL.of hw2, at_of (j := 2) rfl rfl, _, _, rfl, rfl, .inl ⟨by decide, by decide⟩, _, _, rfl, rfl, _, _, rfl, rfl, ⟨by decide, by decide, abs_small (hb2 _ m0 m1) (by decide)⟩, ?_⟩
    refine ⟨_, _, rfl, rfl, ⟨by decide, by decide, by decide⟩, _, _, rfl, rfl, _, _, rfl, rfl, (by show (0 : Int) < _; rw [e38]; decide), ?_⟩
    refine ⟨_, rfl, _, _, rfl, rfl, ⟨by decide, by decide, by decide⟩, _, _, rfl, rfl, ⟨by decide, by decide⟩, _, rfl, _, _, rfl, rfl, (by show (0 : Int) < m; omega), ?_⟩
    exact q _ _ (Int.emod_nonneg _ (by omega)) (Int.emod_lt_of_pos _ (by omega)) s2 ⟨x, y, z + 1, hw2, hy, by omega, by omega⟩
end K05


set_option Elab.async false
set_option linter.all false
set_option maxRecDepth 100000
set_option maxHeartbeats 4000000
namespace K05
open PySem PySem.Spec PyProof.Rows L2 FA
variable {P : Program} {w : World} {K : PySem.W.Frag} {mg : Str → Option Value} {base : Heap}
theorem yesT {σ : L2.St} {H : Hp} {Q : Bool → Hp → Prop} (h : Q true H) : tYes σ H Q := h
theorem ix_of {n : Nat} {i : Int} (h0 : 0 ≤ i) (h1 : i < n) : ixN n i = some i.toNat := by
  unfold ixN
  rw [if_pos h0, if_pos h1]
theorem erase_perm {α : Type} {l : List α} {i : Nat} (h : i < l.length) : (l[i] :: l.eraseIdx i).Perm l := by
  rw [List.eraseIdx_eq_take_drop_succ]
  have e : l.take i ++ l[i] :: l.drop (i + 1) = l := by rw [← List.drop_eq_getElem_cons h, List.take_append_drop]
  exact List.perm_middle.symm.trans (List.Perm.of_eq e)
def spShuffled : Sp := fun vs H Q _ => ∃ (a b : Addr) (n : Nat) (xs : List V), vs = [.ref a, .ref b] ∧ WellAt H a n ∧ n < 2 ^ 90 ∧ SqL K H b xs ∧ xs.length ≤ 100 ∧
  ∀ r ys H', Sm [a] H H' → H r = none → H' r = some (.lst ys) → ys.Perm xs → WellAt H' a (n + xs.length) → Q (.ref r) H'
theorem okShuffled (T : Txt K mg) : FnOk P w K mg base CX0 2 T.aLShuffled T.fLShuffled ["well", "items"] (spShuffled (K := K)) := by
  have GLPull : FnOk P w K mg base CX0 1 T.aLPull T.fLPull ["well", "many"] spPull := okPull T
  refine T.FLShuffled.ok scLShuffled (fun vs H Q E h => ?_) (fun cdv A outer s H vs Q E hr h => ?_)
  · obtain ⟨a, b, n, xs, rfl, _⟩ := h
    rfl
  obtain ⟨a, b, n, xs, rfl, hw, hn, hs, hlen, q⟩ := h
  have hu := hu_of hr
  refine ⟨_, (pss_cons (ps_set (i := 2) scLShuffled.nd rfl (by first | exact Or.inl rfl | exact Or.inr rfl) (pe_callTy call_list_of (by rfl) T.n_list (by decide +kernel) (pa_cons (pv 1) pa_nil)))
      (pss_one (ps_ret (pe_lc (own := [("turn", 3)]) (g := gName 3) (tt := tYes) rfl scLShuffled.nd (pi_range1 (by rfl) T.n_range (pa_cons (pe_callB call_len_seq (by rfl) T.n_len PySem.boot_len (pa_cons (pv 1) pa_nil)) pa_nil)) (blkOk_by (N := ["well", "items", "left", "turn"]) (sc := defScope sLShuffled) (by decide +kernel)) (fun _ _ _ _ _ => (pg_name (i := 3) scLShuffled.nd rfl (by first | exact Or.inl rfl | exact Or.inr rfl))) (fun _ _ _ _ _ => pts_nil) (fun _ _ _ _ _ => (pe_bmK (K := K) rfl PySem.F.plainAttrs_list PySem.F.slot_list_pop PySem.F.type_list_pop mt_popAt (pv 2) (pa_cons (pe_call GLPull (hr.mono (by omega)) rfl T.gLPull T.FLPull.kp T.bLPull .nil pass0 (pa_cons (pv 0) (pa_cons (pe_callB (call_len_seqK (K := K) rfl) (by rfl) T.n_len PySem.boot_len (pa_cons (pv 2) pa_nil)) pa_nil))) pa_nil))))))), ?_⟩
  refine ⟨_, rfl, b, _, rfl, .inl hs, fun l hl => ?_⟩
  have s1 := same_upd hl (.lst xs)
  have hw0 := hw.some
  obtain ⟨ow, how⟩ := hw0
  have hla : l ≠ a := (ne_of_none how hl).symm
  refine ⟨_, rfl, _, _, rfl, .inl (s1.seq hs), (xs.length : Nat), rfl, by omega, by have := small1000 (n := xs.length) (by omega); have := sizeLine_eq; omega, fun D hD => ?_⟩
  have en : ((xs.length : Nat) : Int).toNat = xs.length := by omega
  rw [en]
  have hDl : D ≠ l := fun z => by rw [z, upd_same] at hD; cases hD
  have hD0 : H D = none := by rw [upd_ne hDl] at hD; exact hD
  have hDa : D ≠ a := (ne_of_none how hD0).symm
  refine lc_range (lo := 0) (n := xs.length) (fun i H' => ∃ acc rem, H' D = some (.lst acc) ∧ H' l = some (.lst rem) ∧ acc.length = i ∧ rem.length = xs.length - i ∧ (acc ++ rem).Perm xs ∧ Sm [a] H H' ∧ WellAt H' a (n + i)) ?_ ?_ ?_
  · refine ⟨[], xs, upd_same, by rw [upd_ne hDl.symm]; exact upd_same, rfl, by omega, by simp, ?_, ?_⟩
    · exact (Sm.new hl).trans (Sm.new hD)
    · exact (hw.mono (by omega)).keep fun o e => same_upd hD _ _ _ (s1 _ _ e)
  · rintro i H1 hi ⟨acc, rem, h1, h2, h3, h4, h5, h6, h7⟩
    refine ⟨rfl, yesT (iteT ?_)⟩
    refine ⟨_, rfl, .inl ⟨rfl, _, SqL.of h2⟩, _, rfl, _, rfl, l, _, rfl, .inl (SqL.of h2), a, _, n + i, rfl, by omega, by omega, h7, by omega, fun r H2 r0 r1 sm hw2 => ?_⟩
    have g1 : H2 D = some (.lst acc) := sm _ _ (by simp [hDa]) h1
    have g2 : H2 l = some (.lst rem) := sm _ _ (by simp [hla]) h2
    have hk : r.toNat < rem.length := by omega
    refine ⟨l, rem, r, r.toNat, rem[r.toNat], rfl, rfl, g2, by omega, by omega, (ixN_seq (ix_of r0 (by omega))).1, List.getElem?_eq_getElem hk, ?_⟩
    refine ⟨acc, by rw [upd_ne hDl]; exact g1, small1000 (by omega), acc ++ [rem[r.toNat]], rem.eraseIdx r.toNat, upd_same, by rw [upd_ne hDl.symm, upd_same], by simp [h3], by rw [List.length_eraseIdx, if_pos hk]; omega, ?_, ?_, ?_⟩
    · refine List.Perm.trans ?_ h5
      rw [List.append_assoc]
      exact List.Perm.append_left acc (erase_perm hk)
    · intro c o hc e
      have e1 := sm c o hc (h6 c o hc e)
      rw [upd_ne, upd_ne]
      · exact e1
      · exact ne_of_none e hl
      · exact ne_of_none e hD0
    · exact (hw2.keep fun o e => by rw [upd_ne hDa.symm, upd_ne hla.symm]; exact e).mono (by omega)
  · rintro H1 ⟨acc, rem, h1, h2, h3, h4, h5, h6, h7⟩
    have : rem = [] := List.eq_nil_of_length_eq_zero (by omega)
    subst this
    rw [List.append_nil] at h5
    exact q D acc H1 h6 hD0 h1 h5 h7
end K05


set_option Elab.async false
set_option linter.all false
set_option maxRecDepth 100000
set_option maxHeartbeats 4000000
namespace K05
open PySem PySem.Spec PyProof.Rows L2 FA
variable {P : Program} {w : World} {K : PySem.W.Frag} {mg : Str → Option Value} {base : Heap}
/-- what is new in H' -/
def fr (H H' : Hp) : Hp := fun b => match H b with
  | none => H' b
  | some _ => none
theorem fr_some {H H' : Hp} {b : Addr} {o : HO} : fr H H' b = some o ↔ H b = none ∧ H' b = some o := by
  unfold fr
  cases H b with
  | none => simp
  | some u => simp
theorem none_back {W : List Addr} {H H1 : Hp} {b : Addr} (s : Sm W H H1) (k : ∀ a ∈ W, ∃ o, H1 a = some o) (h : H1 b = none) : H b = none := by
  by_cases hb : b ∈ W
  · obtain ⟨o, e⟩ := k b hb
    rw [e] at h; cases h
  · exact s.none hb h
/-- new behind H1: new behind H, and kept -/
theorem fr_step {W : List Addr} {H H1 H2 H3 : Hp} (s : Sm W H H1) (k : ∀ a ∈ W, ∃ o, H1 a = some o) (s2 : Sm W H2 H3) : Kp (fr H1 H2) (fr H H3) := by
  have key : ∀ a o, fr H1 H2 a = some o → fr H H3 a = some o := fun a o e => by
    rw [fr_some] at e ⊢
    refine ⟨none_back s k e.1, s2 a o (fun z => ?_) e.2⟩
    obtain ⟨u, e2⟩ := k a z
    rw [e2] at e
    cases e.1
  exact ⟨fun a xs e => key _ _ e, fun a xs e => key _ _ e⟩
theorem strs_ne {ls : List Str} {x : Int} {r : List V} (h : (ls.map V.str) = V.int x :: r) : False := by
  cases ls with
  | nil => cases h
  | cons a r => cases h
def cI : Nat → Nat
  | 0 => 0
  | 1 => 2
  | 2 => 104
  | 3 => 4000
  | _ + 4 => 200000
def cB : Nat → Nat
  | 0 => 0
  | 1 => 20
  | 2 => 700
  | 3 => 30000
  | _ + 4 => 2000000
/-- what both defs are handed: the well, the names that may have to be called, all names, what room is left -/
structure Given (H : Hp) (a la ea r : Addr) (n : Nat) (ls es : List Str) (c i : Int) : Prop where
  w : WellAt H a n
  nb : n ≤ 2 ^ 80
  l : H la = some (.lst (ls.map V.str))
  e : H ea = some (.lst (es.map V.str))
  r : H r = some (.lst [.int c, .int i])
  sub : ∀ x ∈ ls, x ∈ es
  nm : ∀ x ∈ es, FA.okName x
  len : es.length ≤ 6
  len2 : ls.length ≤ 6
theorem Given.la {H : Hp} {a la ea r : Addr} {n : Nat} {ls es : List Str} {c i : Int} (g : Given H a la ea r n ls es c i) : la ≠ a ∧ la ≠ r ∧ ea ≠ a ∧ ea ≠ r ∧ a ≠ r := by
  obtain ⟨x, y, z, hw, _⟩ := g.w
  refine ⟨?_, ?_, ?_, ?_, ?_⟩
  · rintro rfl; have := g.l; rw [hw] at this; exact strs_ne (HO.lst.inj (Option.some.inj this)).symm
  · rintro rfl; have := g.l; rw [g.r] at this; exact strs_ne (HO.lst.inj (Option.some.inj this)).symm
  · rintro rfl; have := g.e; rw [hw] at this; exact strs_ne (HO.lst.inj (Option.some.inj this)).symm
  · rintro rfl; have := g.e; rw [g.r] at this; exact strs_ne (HO.lst.inj (Option.some.inj this)).symm
  · rintro rfl; have := g.r; rw [hw] at this; cases this
/-- the same a step further on -/
theorem Given.on {H H' : Hp} {a la ea r : Addr} {n m : Nat} {ls es : List Str} {c i c' i' : Int} (g : Given H a la ea r n ls es c i) (s : Sm [a, r] H H') (hw : WellAt H' a m) (hm : m ≤ 2 ^ 80) (hr : H' r = some (.lst [.int c', .int i'])) : Given H' a la ea r m ls es c' i' := by
  obtain ⟨d1, d2, d3, d4, _⟩ := g.la
  exact ⟨hw, hm, s _ _ (by simp [d1, d2]) g.l, s _ _ (by simp [d3, d4]) g.e, hr, g.sub, g.nm, g.len, g.len2⟩
/-- with all names as those that may have to be called -/
theorem Given.all {H : Hp} {a la ea r : Addr} {n : Nat} {ls es : List Str} {c i : Int} (g : Given H a la ea r n ls es c i) : Given H a ea ea r n es es c i := ⟨g.w, g.nb, g.e, g.e, g.r, fun _ h => h, g.nm, g.len, g.len⟩
theorem Given.kept {H : Hp} {a la ea r : Addr} {n : Nat} {ls es : List Str} {c i : Int} (g : Given H a la ea r n ls es c i) : ∀ b ∈ [a, r], ∃ o, H b = some o := fun b hb => by
  simp only [List.mem_cons, List.not_mem_nil, or_false] at hb
  rcases hb with rfl | rfl
  · exact g.w.some
  · exact ⟨_, g.r⟩
/-- what an item's def gives -/
def GaveItem (j : Nat) (es : List Str) (H H' : Hp) (v : V) (c i c' i' : Int) : Prop :=
  (v = .non ∧ c' = c) ∨ ∃ it, ItAt (fr H H') v it ∧ v ≠ .non ∧ okI es it ∧ nC it + c' ≤ c ∧ 1 + nI it + i' ≤ i ∧ dI it + 1 ≤ j
def spLItem (j : Nat) : Sp := fun vs H Q _ => ∃ (a la ea r : Addr) (n : Nat) (ls es : List Str) (c i : Int), vs = [.ref a, .ref la, .ref ea, .ref r, .int (5 - (j : Int))] ∧ 1 ≤ j ∧ j ≤ 4 ∧ Given H a la ea r n ls es c i ∧ n + cI j ≤ 2 ^ 80 ∧ 1 ≤ c ∧ 1 ≤ i ∧
  ∀ v c' i' H', Sm [a, r] H H' → WellAt H' a (n + cI j) → H' r = some (.lst [.int c', .int i']) → 0 ≤ c' → 0 ≤ i' → i' ≤ i → GaveItem j es H H' v c i c' i' → Q v H'
def spLBody (j : Nat) : Sp := fun vs H Q _ => ∃ (a la ea r : Addr) (n : Nat) (ls es : List Str) (c i : Int), vs = [.ref a, .ref la, .ref ea, .ref r, .int (5 - (j : Int))] ∧ 1 ≤ j ∧ j ≤ 4 ∧ Given H a la ea r n ls es c i ∧ n + cB j ≤ 2 ^ 80 ∧ 0 ≤ c ∧ 0 ≤ i ∧
  ∀ b l c' i' H', Sm [a, r] H H' → WellAt H' a (n + cB j) → H' r = some (.lst [.int c', .int i']) → 0 ≤ c' → 0 ≤ i' → i' ≤ i → BdAt (fr H H') b l → okB es l → nCB l + c' ≤ c → nIB l + i' ≤ i → (l = [] → c' = c) → dB l ≤ j → Q (.ref b) H'
theorem okB_snoc {ns : List Str} {l : List FA.It} {it : FA.It} (h : okB ns l) (h2 : okI ns it) : okB ns (l ++ [it]) := by
  rw [okB_all] at h ⊢
  intro i hi
  rcases List.mem_append.mp hi with z | z
  · exact h i z
  · simp at z; rw [z]; exact h2
theorem nCB_snoc : ∀ (l : List FA.It) (it : FA.It), nCB (l ++ [it]) = nCB l + nC it
  | [], it => by simp [nCB]
  | i :: r, it => by simp only [List.cons_append, nCB, nCB_snoc r it]; omega
theorem nIB_snoc : ∀ (l : List FA.It) (it : FA.It), nIB (l ++ [it]) = nIB l + (1 + nI it)
  | [], it => by simp [nIB]
  | i :: r, it => by simp only [List.cons_append, nIB, nIB_snoc r it]; omega
theorem dB_snoc : ∀ (l : List FA.It) (it : FA.It), dB (l ++ [it]) = max (dB l) (1 + dI it)
  | [], it => by simp only [List.nil_append, dB]; omega
  | i :: r, it => by simp only [List.cons_append, dB, dB_snoc r it]; omega
theorem cB_eq (j : Nat) (h1 : 1 ≤ j) (h4 : j ≤ 4) : 2 + 6 * cI j ≤ cB j := by
  match j, h1, h4 with
  | 1, _, _ => decide
  | 2, _, _ => decide
  | 3, _, _ => decide
  | 4, _, _ => decide
theorem okLBody (T : Txt K mg) (j : Nat) (GLItem : FnOk P w K mg base CX0 (2 * j) T.aLItem T.fLItem ["well", "later", "every", "room", "deep"] (spLItem j)) (hj0 : 1 ≤ j) :
    FnOk P w K mg base CX0 (2 * j + 1) T.aLBody T.fLBody ["well", "later", "every", "room", "deep"] (spLBody j) := by
  have GLPull : FnOk P w K mg base CX0 1 T.aLPull T.fLPull ["well", "many"] spPull := okPull T
  refine T.FLBody.ok scLBody (fun vs H Q E h => ?_) (fun cdv A outer s H vs Q E hr h => ?_)
  · obtain ⟨a, la, ea, r, n, ls, es, c, i, rfl, _⟩ := h
    rfl
  obtain ⟨a, la, ea, r, n, ls, es, c, i, rfl, hj1, hj4, g, hn, hc, hi, q⟩ := h
  have hu := hu_of hr
  refine ⟨_, (pss_cons (ps_set (i := 5) scLBody.nd rfl (by first | exact Or.inl rfl | exact Or.inr rfl) (pe_lst pa_nil))
      (pss_cons (ps_for PassesOwn.never rfl (pi_range1 (by rfl) T.n_range (pa_cons (pe_ix ix_list (pe_lst (pa_cons (pe_op op_add pe_int (pe_call GLPull (hr.mono (by omega)) rfl T.gLPull T.FLPull.kp T.bLPull .nil pass0 (pa_cons (pv 0) (pa_cons pe_int pa_nil)))) (pa_cons (pe_call GLPull (hr.mono (by omega)) rfl T.gLPull T.FLPull.kp T.bLPull .nil pass0 (pa_cons (pv 0) (pa_cons pe_int pa_nil))) pa_nil))) (pe_callTy call_int1 (by rfl) T.n_int (by decide +kernel) (pa_cons (pe_cmpR op_eq (pv 4) pe_int (nomark _)) pa_nil)) (fun _ _ => rfl)) pa_nil)) (pg_name (i := 6) scLBody.nd rfl (by first | exact Or.inl rfl | exact Or.inr rfl))
        (pss_cons (ps_set (i := 7) scLBody.nd rfl (by first | exact Or.inl rfl | exact Or.inr rfl) (pe_ifExp (PW.pt (pw_and (pt_cmpR op_gt (pe_ix ix_list (pv 3) pe_int (fun _ _ => rfl)) pe_int (nomark _)) (pw_and1 (pt_cmpR op_gt (pe_ix ix_list (pv 3) pe_int (fun _ _ => rfl)) pe_int (nomark _))))) (pe_call GLItem (hr.mono (by omega)) rfl T.gLItem T.FLItem.kp T.bLItem .nil pass0 (pa_cons (pv 0) (pa_cons (pv 1) (pa_cons (pv 2) (pa_cons (pv 3) (pa_cons (pv 4) pa_nil)))))) pe_non))
        (pss_one (ps_if (pt_cmpR op_notN (pv 7) pe_non (nomark _))
          (pss_one (ps_expr (pe_bm PySem.F.plainAttrs_list PySem.F.slot_list_append PySem.F.type_list_append mt_append (pv 5) (pa_cons (pv 7) pa_nil)))) pss_nil))))
      (pss_one (ps_ret (pv 5))))), ?_⟩
  obtain ⟨d1, d2, d3, d4, d5⟩ := g.la
  have hcb := cB_eq j hj1 hj4
  refine ⟨Nat.le_of_lt (small1000 (by simp)), fun b hb => ?_⟩
  have s1 := same_upd hb (.lst [])
  have bne : ∀ x o, H x = some o → x ≠ b := fun x o e => ne_of_none e hb
  obtain ⟨ow, how⟩ := g.w.some
  have hba : b ≠ a := (bne _ _ how).symm
  have hbr : b ≠ r := (bne _ _ g.r).symm
  refine ⟨_, rfl, a, 2, n, rfl, by decide, by decide, g.w.keep fun o e => s1 _ _ e, by omega, fun r1 H2 r1a r1b sm2 hw2 => ?_⟩
  refine ⟨_, _, rfl, rfl, ?_⟩
  refine ⟨_, rfl, a, 7, n + 1, rfl, by decide, by decide, hw2, by omega, fun r2 H3 r2a r2b sm3 hw3 => ?_⟩
  refine ⟨Nat.le_of_lt (small1000 (by simp)), fun p hp => ?_⟩
  have hb3 : H3 b = some (.lst []) := sm3 _ _ (by simp [hba]) (sm2 _ _ (by simp [hba]) upd_same)
  have sm03 : Sm [a, r] H H3 := fun x o hx e => sm3 x o (by simp at hx ⊢; exact hx.1) (sm2 x o (by simp at hx ⊢; exact hx.1) (s1 _ _ e))
  have hr3 : H3 r = some (.lst [.int c, .int i]) := sm3 _ _ (by simp [d5.symm]) (sm2 _ _ (by simp [d5.symm]) (s1 _ _ g.r))
  -- how many turns
  obtain ⟨m, hm0, hm6, hix⟩ : ∃ m : Int, 0 ≤ m ∧ m ≤ 6 ∧ atI [V.int (1 + r1), V.int r2] (if decide (V.int (5 - (j : Int)) = V.int 1) = true then 1 else 0) = some (.int m) := by
    by_cases e : V.int (5 - (j : Int)) = V.int 1
    · rw [decide_eq_true e, if_pos rfl]
      exact ⟨r2, r2a, by omega, rfl⟩
    · rw [decide_eq_false e, if_neg (by decide)]
      exact ⟨1 + r1, by omega, by omega, rfl⟩
  refine ⟨_, rfl, rfl, .inr ⟨_, rfl, ?_⟩⟩
  refine ⟨p, _, _, .int m, rfl, rfl, SqL.of upd_same, hix, m, rfl, by omega, by omega, ?_⟩
  have s4 := same_upd hp (.lst [V.int (1 + r1), V.int r2])
  have sm04 : Sm [a, r] H (upd H3 p (.lst [V.int (1 + r1), V.int r2])) := sm03.trans (Sm.of_same s4)
  have hb4 := s4 _ _ hb3
  have hr4 := s4 _ _ hr3
  have hw4 : WellAt (upd H3 p (.lst [V.int (1 + r1), V.int r2])) a (n + 2) := hw3.keep fun o e => s4 _ _ e
  generalize upd H3 p (.lst [V.int (1 + r1), V.int r2]) = H4 at sm04 hb4 hr4 hw4 ⊢
  refine for_range (lo := 0) (n := m.toNat) (fun k σ H' => ∃ l vs v6 v7 c' i', σ = [some (.ref a), some (.ref la), some (.ref ea), some (.ref r), some (.int (5 - (j : Int))), some (.ref b), v6, v7] ∧ Sm [a, r] H H' ∧ H' b = some (.lst vs) ∧ vs.length ≤ k ∧ ItsAt (wo [b] (fr H H')) vs l ∧ WellAt H' a (n + 2 + k * cI j) ∧
    H' r = some (.lst [.int c', .int i']) ∧ 0 ≤ c' ∧ 0 ≤ i' ∧ i' ≤ i ∧ okB es l ∧ nCB l + c' ≤ c ∧ nIB l + i' ≤ i ∧ (l = [] → c' = c) ∧ dB l ≤ j) ?_ ?_ ?_
  · refine ⟨[], [], none, none, c, i, rfl, sm04, hb4, Nat.le_refl _, .nil, hw4.mono (by omega), hr4, hc, hi, Int.le_refl _, by simp [okB], by simp [nCB], by simp [nIB], fun _ => rfl, by simp only [dB]; omega⟩
  · rintro k σ H5 hk ⟨l, vs, v6, v7, c', i', rfl, sm5, hb5, hvl, its5, hw5, hr5, hc0, hi0, hi1, ok5, nc5, ni5, em5, d5'⟩
    have hkj : n + 2 + (k + 1) * cI j ≤ n + cB j := by
      have : (k + 1) * cI j ≤ 6 * cI j := Nat.mul_le_mul_right _ (by omega)
      omega
    have hkj' : n + 2 + k * cI j + cI j = n + 2 + (k + 1) * cI j := by rw [Nat.succ_mul]; omega
    have stay : ∃ l vs v6 v7 c' i', ([some (.ref a), some (.ref la), some (.ref ea), some (.ref r), some (.int (5 - (j : Int))), some (.ref b), some (.int (0 + (k : Int))), some .non] : L2.St) = [some (.ref a), some (.ref la), some (.ref ea), some (.ref r), some (.int (5 - (j : Int))), some (.ref b), v6, v7] ∧ Sm [a, r] H H5 ∧ H5 b = some (.lst vs) ∧ vs.length ≤ k + 1 ∧ ItsAt (wo [b] (fr H H5)) vs l ∧ WellAt H5 a (n + 2 + (k + 1) * cI j) ∧
        H5 r = some (.lst [.int c', .int i']) ∧ 0 ≤ c' ∧ 0 ≤ i' ∧ i' ≤ i ∧ okB es l ∧ nCB l + c' ≤ c ∧ nIB l + i' ≤ i ∧ (l = [] → c' = c) ∧ dB l ≤ j :=
      ⟨l, vs, _, _, c', i', rfl, sm5, hb5, by omega, its5, hw5.mono (by omega), hr5, hc0, hi0, hi1, ok5, nc5, ni5, em5, d5'⟩
    refine ⟨_, rfl, _, _, _, _, rfl, rfl, SqL.of hr5, at_of (j := 0) rfl rfl, _, _, rfl, rfl, _, rfl, ite2 (fun h1 => ?_) (fun h1 => ?_)⟩
    · have h1 := of_decide_eq_true h1
      refine ⟨_, rfl, _, _, _, _, rfl, rfl, SqL.of hr5, at_of (j := 1) rfl rfl, _, _, rfl, rfl, _, rfl, ite2 (fun h2 => ?_) (fun h2 => ?_)⟩
      · have h2 := of_decide_eq_true h2
        have g5 : Given H5 a la ea r (n + 2 + k * cI j) ls es c' i' := g.on sm5 hw5 (by omega) hr5
        refine ⟨_, rfl, _, rfl, _, rfl, _, rfl, _, rfl, a, la, ea, r, n + 2 + k * cI j, ls, es, c', i', rfl, hj1, hj4, g5, by omega, by omega, by omega, fun v c2 i2 H6 sm6 hw6 hr6 hc2 hi2 hi3 gave => ?_⟩
        have hb6 : H6 b = some (.lst vs) := sm6 _ _ (by simp [hba, hbr]) hb5
        have kp0 : Kp (wo [b] (fr H H5)) (wo [b] (fr H H6)) := by
          have key : ∀ x o, wo [b] (fr H H5) x = some o → wo [b] (fr H H6) x = some o := fun x o e => by
            rw [wo_some, fr_some] at e ⊢
            refine ⟨e.1, e.2.1, sm6 x o (fun z => ?_) e.2.2⟩
            obtain ⟨u, e2⟩ := g.kept x z
            rw [e2] at e
            cases e.2.1
          exact ⟨fun x xs e => key _ _ e, fun x xs e => key _ _ e⟩
        rcases gave with ⟨rfl, rfl⟩ | ⟨it, hit, hvn, oit, nit, iit, dit⟩
        · refine ⟨_, rfl, rfl, _, rfl, ite2 (fun z => absurd z (by simp)) (fun _ => ?_)⟩
          exact ⟨l, vs, _, _, c2, i2, rfl, sm5.trans sm6, hb6, by omega, its5.keep kp0, by rw [← hkj']; exact hw6, hr6, hc2, hi2, by omega, ok5, nc5, by omega, em5, d5'⟩
        · refine ⟨_, rfl, rfl, _, rfl, ite2 (fun _ => ?_) (fun z => absurd (by rw [decide_eq_false hvn]; rfl) z)⟩
          refine ⟨_, rfl, .inl ⟨rfl, _, SqL.of hb6⟩, _, rfl, b, vs, v, rfl, rfl, hb6, small1000 (by omega), ?_⟩
          -- the item is new, and not the body itself
          have kp1 : Kp (fr H5 H6) (wo [b] (fr H H6)) := by
            have key : ∀ x o, fr H5 H6 x = some o → wo [b] (fr H H6) x = some o := fun x o e => by
              rw [fr_some] at e
              rw [wo_some, fr_some]
              refine ⟨?_, none_back sm5 g5.kept e.1, e.2⟩
              simp only [List.mem_singleton]
              rintro rfl
              rw [hb5] at e
              cases e.1
            exact ⟨fun x xs e => key _ _ e, fun x xs e => key _ _ e⟩
          have kp2 : Kp (wo [b] (fr H H6)) (wo [b] (fr H (upd H6 b (.lst (vs ++ [v]))))) := by
            have key : ∀ x o, wo [b] (fr H H6) x = some o → wo [b] (fr H (upd H6 b (.lst (vs ++ [v])))) x = some o := fun x o e => by
              rw [wo_some, fr_some] at e ⊢
              refine ⟨e.1, e.2.1, ?_⟩
              rw [upd_ne (by simpa using e.1)]
              exact e.2.2
            exact ⟨fun x xs e => key _ _ e, fun x xs e => key _ _ e⟩
          have smu : Sm [a, r] H (upd H6 b (.lst (vs ++ [v]))) := fun x o hx e => by
            rw [upd_ne (bne x o e)]
            exact sm6 x o hx (sm5 x o hx e)
          refine ⟨l ++ [it], vs ++ [v], _, _, c2, i2, rfl, smu, upd_same, by simp; omega, ((its5.keep kp0).keep kp2).append (.cons ((hit.keep kp1).keep kp2) .nil), ?_, by rw [upd_ne hbr.symm]; exact hr6, hc2, hi2, by omega, okB_snoc ok5 oit, ?_, ?_, ?_, ?_⟩
          · rw [← hkj']
            exact hw6.keep fun o e => by rw [upd_ne hba.symm]; exact e
          · rw [nCB_snoc]; omega
          · rw [nIB_snoc]; omega
          · intro z; simp at z
          · rw [dB_snoc]; omega
      · refine ⟨_, rfl, rfl, _, rfl, ite2 (fun z => absurd z (by simp)) (fun _ => stay)⟩
    · refine ⟨_, rfl, rfl, _, rfl, ite2 (fun z => absurd z (by simp)) (fun _ => stay)⟩
  · rintro σ H5 ⟨l, vs, v6, v7, c', i', rfl, sm5, hb5, hvl, its5, hw5, hr5, hc0, hi0, hi1, ok5, nc5, ni5, em5, d5'⟩
    have hm : n + 2 + m.toNat * cI j ≤ n + cB j := by
      have : m.toNat * cI j ≤ 6 * cI j := Nat.mul_le_mul_right _ (by omega)
      omega
    refine ⟨_, rfl, q b l c' i' H5 sm5 (hw5.mono hm) hr5 hc0 hi0 hi1 ⟨vs, fr_some.mpr ⟨hb, hb5⟩, its5.keep ?_⟩ ok5 nc5 ni5 em5 d5'⟩
    have key : ∀ x o, wo [b] (fr H H5) x = some o → fr H H5 x = some o := fun x o e => (wo_some.mp e).2
    exact ⟨fun x xs e => key _ _ e, fun x xs e => key _ _ e⟩
end K05


set_option Elab.async false
set_option linter.all false
set_option maxRecDepth 100000
set_option maxHeartbeats 4000000
namespace K05
open PySem PySem.Spec PyProof.Rows L2 FA
variable {P : Program} {w : World} {K : PySem.W.Frag} {mg : Str → Option Value} {base : Heap}
theorem split_at {X : Cx} {body : List Stmt} {D0 : Ends} {σ0 : L2.St} {H0 : Hp} (k : Nat) (R : Ends → L2.St → Hp → Prop) (h2 : ∃ u, PSs X (body.drop k) u ∧ ∀ D σ H, R D σ H → u D σ H)
    (h1 : ∀ u, PSs X (body.drop k) u → (∀ D σ H, R D σ H → u D σ H) → ∃ t, PSs X body t ∧ t D0 σ0 H0) : ∃ t, PSs X body t ∧ t D0 σ0 H0 := by
  obtain ⟨u, a, b⟩ := h2
  exact h1 u a b
theorem dp_strs {H : Hp} : ∀ ls : List Str, DpAll K H (ls.map V.str) (ls.map PyData.str)
  | [] => .nil
  | x :: r => .cons (.str x) (dp_strs r)
theorem strs_shaped {ls : List Str} (h : ∀ x ∈ ls, FA.okName x) : SeqAt.shaped (.list (ls.map PyData.str)) = true := by
  refine dt_shaped ?_ ?_
  · induction ls with
    | nil => rfl
    | cons x r ih =>
      simp only [List.map_cons, PyData.canLayAll0, PyData.canLay0, (h x (by simp)).strOk, Bool.true_and]
      exact ih fun y hy => h y (List.mem_cons_of_mem _ hy)
  · have : ∀ ls : List Str, PyData.depthAll (ls.map PyData.str) = 0 := fun ls => by
      induction ls with
      | nil => rfl
      | cons x r ih => simp only [List.map_cons, PyData.depthAll, PyData.depth, ih]; rfl
    rw [this]; omega
theorem eqv_nil (ds : List PyData) : PyData.eqv (.list ds) (.list []) = ds.isEmpty := by
  cases ds with
  | nil => simp [PyData.eqv, PyData.eqvAll]
  | cons a r => simp [PyData.eqv, PyData.eqvAll]
theorem cI_eq (j : Nat) (h1 : 1 ≤ j) (h4 : j ≤ 4) : 4 + 5 * cB (j - 1) ≤ cI j ∨ j = 1 ∧ cI j = 2 := by
  match j, h1, h4 with
  | 1, _, _ => exact .inr ⟨rfl, rfl⟩
  | 2, _, _ => exact .inl (by decide)
  | 3, _, _ => exact .inl (by decide)
  | 4, _, _ => exact .inl (by decide)
theorem nCBs_app : ∀ a b : List (List FA.It), nCBs (a ++ b) = nCBs a + nCBs b
  | [], b => by simp [nCBs]
  | x :: r, b => by simp only [List.cons_append, nCBs, nCBs_app r b]; omega
theorem nIBs_app : ∀ a b : List (List FA.It), nIBs (a ++ b) = nIBs a + nIBs b
  | [], b => by simp [nIBs]
  | x :: r, b => by simp only [List.cons_append, nIBs, nIBs_app r b]; omega
theorem dBs_app : ∀ a b : List (List FA.It), dBs (a ++ b) = max (dBs a) (dBs b)
  | [], b => by simp only [List.nil_append, dBs]; omega
  | x :: r, b => by simp only [List.cons_append, dBs, dBs_app r b]; omega
theorem okBs_app {ns : List Str} {a b : List (List FA.It)} : okBs ns (a ++ b) ↔ okBs ns a ∧ okBs ns b := by
  simp only [okBs_all, List.mem_append]
  exact ⟨fun h => ⟨fun x hx => h x (.inl hx), fun x hx => h x (.inr hx)⟩, fun h x hx => hx.elim (h.1 x) (h.2 x)⟩
/-- the bodies that are not empty -/
def full (bs : List (List FA.It)) : List (List FA.It) := bs.filter fun b => !b.isEmpty
theorem full_cons_ne {b : List FA.It} {r : List (List FA.It)} (h : b ≠ []) : full (b :: r) = b :: full r := by
  unfold full
  cases b with
  | nil => exact absurd rfl h
  | cons _ _ => simp
theorem full_cons_nil {r : List (List FA.It)} : full ([] :: r) = full r := by simp [full]
theorem full_facts {ns : List Str} : ∀ {bs : List (List FA.It)}, okBs ns bs → nCBs (full bs) = nCBs bs ∧ nIBs (full bs) = nIBs bs ∧ dBs (full bs) ≤ dBs bs ∧ okBs ns (full bs) ∧ (full bs).countP (fun b => b.isEmpty) = 0 ∧ (full bs).length ≤ bs.length
  | [], _ => by simp [full, nCBs, nIBs, okBs]
  | [] :: r, h => by
    simp only [okBs] at h
    obtain ⟨a1, a2, a3, a4, a5, a6⟩ := full_facts h.2
    rw [full_cons_nil]
    refine ⟨by simp only [nCBs, nCB]; omega, by simp only [nIBs, nIB]; omega, by simp only [dBs]; omega, a4, a5, by simp; omega⟩
  | (i :: b) :: r, h => by
    simp only [okBs] at h
    obtain ⟨a1, a2, a3, a4, a5, a6⟩ := full_facts h.2
    rw [full_cons_ne (by simp)]
    refine ⟨by simp only [nCBs]; omega, by simp only [nIBs]; omega, by simp only [dBs]; omega, by simp only [okBs]; exact ⟨h.1, a4⟩, by simp [a5], by simp; omega⟩
theorem full_len {bs : List (List FA.It)} (h : (full bs).length = 0) : ∀ b ∈ bs, b = [] := fun b hb => by
  have : full bs = [] := List.eq_nil_of_length_eq_zero h
  unfold full at this
  rw [List.filter_eq_nil_iff] at this
  have := this b hb
  cases b with
  | nil => rfl
  | cons _ _ => simp at this
/-- what is put into a one: the full bodies, and an empty one if there was any -/
def some1 (bs : List (List FA.It)) : List (List FA.It) := full bs ++ (if (full bs).length < bs.length then [[]] else [])
theorem some1_facts {ns : List Str} {bs : List (List FA.It)} (h : okBs ns bs) (hl : 2 ≤ bs.length) (h4 : bs.length ≤ 4) (k : Nat) (hs : 1 < (some1 bs).length) :
    okI ns (.one ((some1 bs).drop k ++ (some1 bs).take k)) ∧ nC (.one ((some1 bs).drop k ++ (some1 bs).take k)) ≤ nCBs bs ∧ nI (.one ((some1 bs).drop k ++ (some1 bs).take k)) ≤ nIBs bs ∧ dI (.one ((some1 bs).drop k ++ (some1 bs).take k)) ≤ max 1 (dBs bs) := by
  obtain ⟨a1, a2, a3, a4, a5, a6⟩ := full_facts h
  have t := List.take_append_drop k (some1 bs)
  have e1 : nCBs ((some1 bs).drop k ++ (some1 bs).take k) = nCBs (some1 bs) := by
    rw [← t, nCBs_app, nCBs_app, t]; omega
  have e2 : nIBs ((some1 bs).drop k ++ (some1 bs).take k) = nIBs (some1 bs) := by
    rw [← t, nIBs_app, nIBs_app, t]; omega
  have e3 : dBs ((some1 bs).drop k ++ (some1 bs).take k) = dBs (some1 bs) := by
    rw [← t, dBs_app, dBs_app, t]; omega
  have e4 : okBs ns (some1 bs) := by
    unfold some1
    rw [okBs_app]
    refine ⟨a4, ?_⟩
    split <;> simp [okBs, okB]
  have e5 : okBs ns ((some1 bs).drop k ++ (some1 bs).take k) := by
    rw [← t, okBs_app] at e4
    rw [okBs_app]
    exact ⟨e4.2, e4.1⟩
  have e6 : ((some1 bs).drop k ++ (some1 bs).take k).length = (some1 bs).length := by
    rw [List.length_append, List.length_drop, List.length_take]; omega
  have e7 : ((some1 bs).drop k ++ (some1 bs).take k).countP (fun b => b.isEmpty) = (some1 bs).countP fun b => b.isEmpty := by
    have q := congrArg (List.countP fun b => b.isEmpty) t
    rw [List.countP_append] at q
    rw [List.countP_append]; omega
  have f1 : nCBs (some1 bs) = nCBs bs := by
    unfold some1
    rw [nCBs_app]
    split <;> simp only [nCBs, nCB] <;> omega
  have f2 : nIBs (some1 bs) = nIBs bs := by
    unfold some1
    rw [nIBs_app]
    split <;> simp only [nIBs, nIB] <;> omega
  have f3 : dBs (some1 bs) ≤ max 1 (dBs bs) := by
    unfold some1
    rw [dBs_app]
    split <;> simp only [dBs, dB] <;> omega
  have f4 : (some1 bs).length ≤ 4 := by
    unfold some1
    rw [List.length_append]
    split <;> simp only [List.length_cons, List.length_nil] <;> omega
  have f5 : (some1 bs).countP (fun b => b.isEmpty) ≤ 1 := by
    unfold some1
    rw [List.countP_append, a5]
    split <;> simp
  refine ⟨by simp only [okI]; exact ⟨by omega, by omega, by omega, e5⟩, by simp only [nC]; omega, by simp only [nI]; omega, by simp only [dI]; omega⟩
theorem some1_few {bs : List (List FA.It)} (hl : 2 ≤ bs.length) (hs : ¬ 1 < (some1 bs).length) : ∀ b ∈ bs, b = [] := by
  refine full_len ?_
  unfold some1 at hs
  rw [List.length_append] at hs
  split at hs <;> simp only [List.length_cons, List.length_nil] at hs <;> omega
theorem kp_old {W : List Addr} {D : Addr} {H H1 H2 : Hp} {o : HO} (g : ∀ x ∈ W, ∃ o, H x = some o) (s : Sm W H1 H2) : Kp (wo [D] (fr H H1)) (wo [D] (fr H (upd H2 D o))) := by
  have key : ∀ x u, wo [D] (fr H H1) x = some u → wo [D] (fr H (upd H2 D o)) x = some u := fun x u e => by
    rw [wo_some, fr_some] at e ⊢
    refine ⟨e.1, e.2.1, ?_⟩
    rw [upd_ne (by simpa using e.1)]
    refine s x u (fun z => ?_) e.2.2
    obtain ⟨v, e2⟩ := g x z
    rw [e2] at e
    cases e.2.1
  exact ⟨fun x xs e => key _ _ e, fun x xs e => key _ _ e⟩
theorem kp_new {W : List Addr} {D : Addr} {H H1 H2 : Hp} {o u : HO} (s : Sm W H H1) (k : ∀ x ∈ W, ∃ o, H1 x = some o) (hD : H1 D = some u) : Kp (fr H1 H2) (wo [D] (fr H (upd H2 D o))) := by
  have key : ∀ x v, fr H1 H2 x = some v → wo [D] (fr H (upd H2 D o)) x = some v := fun x v e => by
    rw [fr_some] at e
    have ne : x ≠ D := by
      rintro rfl
      rw [hD] at e
      cases e.1
    rw [wo_some, fr_some]
    exact ⟨by simpa using ne, none_back s k e.1, by rw [upd_ne ne]; exact e.2⟩
  exact ⟨fun x xs e => key _ _ e, fun x xs e => key _ _ e⟩
theorem kp_wo {D : Addr} {H H1 : Hp} : Kp (wo [D] (fr H H1)) (fr H H1) := ⟨fun x xs e => (wo_some.mp e).2, fun x xs e => (wo_some.mp e).2⟩
theorem kp_fr {H H1 : Hp} : Kp (fr H H1) H1 := ⟨fun x xs e => (fr_some.mp e).2, fun x xs e => (fr_some.mp e).2⟩
theorem cut_from {xs : List V} {k : Nat} (h : k ≤ xs.length) : cutV xs (some (k : Int)) none = xs.drop k := by
  unfold cutV
  rw [HT.sIx_nat, HT.sIx_none, Nat.min_eq_left h, List.take_of_length_le (by rw [List.length_drop]; omega)]
theorem cut_to {xs : List V} {k : Nat} (h : k ≤ xs.length) : cutV xs none (some (k : Int)) = xs.take k := by
  unfold cutV
  rw [HT.sIx_nat, HT.sIx_none, Nat.min_eq_left h, List.drop_zero, Nat.sub_zero]
theorem full_take {bs : List (List FA.It)} {k : Nat} {b : List FA.It} (h : bs[k]? = some b) : full (bs.take (k + 1)) = full (bs.take k) ++ (if b.isEmpty then [] else [b]) := by
  unfold full
  rw [List.take_add_one, h, List.filter_append]
  cases b with
  | nil => rfl
  | cons _ _ => rfl
theorem BdAt.toBds {H : Hp} {b : Addr} {l : List FA.It} {vs : List V} {ls : List (List FA.It)} (h : BdAt H b l) (t : BdsAt H vs ls) : BdsAt H (.ref b :: vs) (l :: ls) := let ⟨_, h1, h2⟩ := h; .cons h1 h2 t
theorem okLItem (T : Txt K mg) (j : Nat) (hj0 : 1 ≤ j) (GLBody : FnOk P w K mg base CX0 (2 * (j - 1) + 1) T.aLBody T.fLBody ["well", "later", "every", "room", "deep"] (spLBody (j - 1))) :
    FnOk P w K mg base CX0 (2 * j) T.aLItem T.fLItem ["well", "later", "every", "room", "deep"] (spLItem j) := by
  have GLPull : FnOk P w K mg base CX0 1 T.aLPull T.fLPull ["well", "many"] spPull := okPull T
  obtain ⟨j', rfl⟩ : ∃ j', j = j' + 1 := ⟨j - 1, by omega⟩
  rw [Nat.add_sub_cancel] at GLBody
  refine T.FLItem.ok (k := 2 * j' + 1) scLItem (fun vs H Q E h => ?_) (fun cdv A outer s H vs Q E hr h => ?_)
  · obtain ⟨a, la, ea, r, n, ls, es, c, i, rfl, _⟩ := h
    rfl
  obtain ⟨a, la, ea, r, n, ls, es, c, i, rfl, hj1, hj4, g, hn, hc, hi, q⟩ := h
  have hu := hu_of hr
  obtain ⟨d1, d2, d3, d4, d5⟩ := g.la
  have hcI : 1 ≤ cI (j' + 1) := by
    rcases cI_eq (j' + 1) hj1 hj4 with h | h <;> omega
  refine split_at 4 (fun D σ H5 => D.rt = Q ∧ ∃ v5 v6 v7 v8 v9 v10 i' m, σ = [some (.ref a), some (.ref la), some (.ref ea), some (.ref r), some (.int (5 - ((j' + 1 : Nat) : Int))), v5, v6, v7, v8, v9, v10] ∧ Sm [a, r] H H5 ∧ WellAt H5 a m ∧ m + 1 ≤ n + cI (j' + 1) ∧
    H5 r = some (.lst [.int c, .int i']) ∧ 0 ≤ i' ∧ i' + 1 ≤ i) ?_ ?_
  · skip
    refine ⟨_, (pss_cons (ps_if (pt_cmpR (op_eqD hr.units) (pv 1) (pe_lst pa_nil) (nomark _))
        (pss_one (ps_ret pe_non)) pss_nil)
      (pss_cons (ps_asg (pe_op op_sub (pe_ix ix_list (pv 3) pe_int (fun _ _ => rfl)) pe_int) (pg_sub (pv 3) pe_int set_list))
      (pss_one (ps_ret (pe_ix ix_list (pv 1) (pe_call GLPull (hr.mono (by omega)) rfl T.gLPull T.FLPull.kp T.bLPull .nil pass0 (pa_cons (pv 0) (pa_cons (pe_callB call_len_seq (by rfl) T.n_len PySem.boot_len (pa_cons (pv 1) pa_nil)) pa_nil))) (fun _ _ => rfl)))))), ?_⟩
    rintro D σ H5 ⟨hD, v5, v6, v7, v8, v9, v10, i', m, rfl, sm5, hw5, hm, hr5, hi0, hi1⟩
    obtain ⟨nx, rt, bk, ct⟩ := D
    cases hD
    have g5 : Given H5 a la ea r m ls es c i' := g.on sm5 hw5 (by omega) hr5
    refine ⟨_, rfl, Nat.le_of_lt (small1000 (by simp)), fun p hp => ?_⟩
    have s6 := same_upd hp (.lst [])
    refine ⟨_, _, .lst (SqL.of (s6 _ _ g5.l)) (dp_strs ls), .lst (SqL.of upd_same) .nil, strs_shaped fun x hx => g.nm x (g.sub x hx), dt_shaped rfl (by decide), ?_⟩
    rw [eqv_nil]
    have hr6 := s6 _ _ hr5
    have hl6 := s6 _ _ g5.l
    have sm6 : Sm [a, r] H (upd H5 p (.lst [])) := sm5.trans (Sm.of_same s6)
    have hw6 : WellAt (upd H5 p (.lst [])) a m := hw5.keep fun o e => s6 _ _ e
    generalize upd H5 p (.lst []) = H6 at sm6 hw6 hr6 hl6 ⊢
    refine ⟨_, rfl, ite2 (fun z => ?_) (fun z => ?_)⟩
    · exact q .non c i' H6 sm6 (hw6.mono (by omega)) hr6 (by omega) hi0 (by omega) (.inl ⟨rfl, rfl⟩)
    · have hne : ls ≠ [] := fun e => z (by rw [e]; rfl)
      have hlen : 1 ≤ ls.length := by
        cases ls with
        | nil => exact absurd rfl hne
        | cons _ _ => simp
      have h6 := g.len2
      refine ⟨_, rfl, _, _, _, _, rfl, rfl, SqL.of hr6, at_of (j := 0) rfl rfl, _, _, rfl, rfl, _, rfl, r, _, 0, 0, rfl, rfl, hr6, rfl, ?_⟩
      have hr7 : (upd H6 r (.lst ([V.int c, V.int i'].set 0 (.int (c - 1))))) r = some (.lst [.int (c - 1), .int i']) := upd_same
      have sm7 : Sm [a, r] H (upd H6 r (.lst ([V.int c, V.int i'].set 0 (.int (c - 1))))) := sm6.trans (Sm.at (by simp))
      have hw7 : WellAt (upd H6 r (.lst ([V.int c, V.int i'].set 0 (.int (c - 1))))) a m := hw6.keep fun o e => by rw [upd_ne d5]; exact e
      have hl7 : (upd H6 r (.lst ([V.int c, V.int i'].set 0 (.int (c - 1))))) la = some (.lst (ls.map V.str)) := by rw [upd_ne d2]; exact hl6
      generalize upd H6 r (.lst ([V.int c, V.int i'].set 0 (.int (c - 1)))) = H7 at sm7 hw7 hr7 hl7 ⊢
      refine ⟨_, rfl, _, rfl, _, rfl, _, _, rfl, .inl (SqL.of hl7), a, _, m, rfl, by rw [List.length_map]; omega, by rw [List.length_map]; omega, hw7, by omega, fun x H8 x0 x1 sm8 hw8 => ?_⟩
      rw [List.length_map] at x1
      have hx : x.toNat < ls.length := by omega
      refine ⟨la, _, _, .str ls[x.toNat], rfl, rfl, SqL.of (sm8 _ _ (by simp [d1]) hl7), at_of (j := x.toNat) (by omega) (by rw [List.getElem?_map, List.getElem?_eq_getElem hx]; rfl), ?_⟩
      have sm78 : Sm [a, r] H7 H8 := sm8.more (by simp)
      refine q _ (c - 1) i' H8 (sm7.trans sm78) (hw8.mono hm) (sm8 _ _ (by simp [d5.symm]) hr7) (by omega) hi0 (by omega) (.inr ⟨.call ls[x.toNat], .call _, by simp, ?_, ?_, ?_, ?_⟩)
      · simp only [okI]; exact g.sub _ (List.getElem_mem hx)
      · simp only [nC]; omega
      · simp only [nI]; omega
      · simp only [dI]; omega
  · intro u hu1 ru
    have edeep : (5 - ((j' + 1 : Nat) : Int) + 1) = 5 - (j' : Int) := by omega
    refine split_at 3 (fun D σ H5 => D.rt = Q ∧ ∃ wv v6 v7 v8 v9 v10 i' m, 0 ≤ wv ∧ wv ≤ 3 ∧ σ = [some (.ref a), some (.ref la), some (.ref ea), some (.ref r), some (.int (5 - ((j' + 1 : Nat) : Int))), some (.int wv), v6, v7, v8, v9, v10] ∧ Sm [a, r] H H5 ∧ WellAt H5 a m ∧ m + 2 + cB j' ≤ n + cI (j' + 1) + (if wv = 3 then cB j' + 1 else 0) + (if j' = 0 then cB j' + 1 else 0) ∧ m + 1 ≤ n + cI (j' + 1) ∧
      H5 r = some (.lst [.int c, .int i']) ∧ 0 ≤ i' ∧ i' + 1 ≤ i) ?_ ?_
    · skip
      refine ⟨_, (pss_cons (ps_if (PW.pt (pw_and (pt_chain op_lt op_lt pe_int (pv 5) pe_int) (pw_and1 (pt_cmpR op_lt (pv 4) pe_int (nomark _)))))
        (pss_cons (ps_set (i := 9) scLItem.nd rfl (by first | exact Or.inl rfl | exact Or.inr rfl) (pe_call GLBody (hr.mono (by omega)) rfl T.gLBody T.FLBody.kp T.bLBody .nil pass0 (pa_cons (pv 0) (pa_cons (pv 2) (pa_cons (pv 2) (pa_cons (pv 3) (pa_cons (pe_op op_add (pv 4) pe_int) pa_nil)))))))
        (pss_one (ps_if (pt_cmpR (op_neD hr.units) (pv 9) (pe_lst pa_nil) (nomark _))
          (pss_one (ps_ret (pe_tup (pa_cons (pe_ix ix_list (pe_lst (pa_cons pe_str (pa_cons pe_str (pa_cons pe_str pa_nil)))) (pe_op op_sub (pv 5) pe_int) (fun _ _ => rfl)) (pa_cons (pv 9) pa_nil))))) pss_nil))) pss_nil)
      hu1), ?_⟩
      rintro D σ H5 ⟨hD, wv, v6, v7, v8, v9, v10, i', m, hw0, hw3, rfl, sm5, hw5, hm, hm1, hr5, hi0, hi1⟩
      have tail : ∀ v6 v7 v8 v9 v10 (H6 : Hp) (i2 : Int) (m2 : Nat), Sm [a, r] H H6 → WellAt H6 a m2 → m2 + 1 ≤ n + cI (j' + 1) → H6 r = some (.lst [.int c, .int i2]) → 0 ≤ i2 → i2 + 1 ≤ i →
          u D [some (.ref a), some (.ref la), some (.ref ea), some (.ref r), some (.int (5 - ((j' + 1 : Nat) : Int))), some (.int wv), v6, v7, v8, v9, v10] H6 := fun v6 v7 v8 v9 v10 H6 i2 m2 a1 a2 a3 a4 a5 a6 => ru D _ H6 ⟨hD, _, v6, v7, v8, v9, v10, i2, m2, rfl, a1, a2, a3, a4, a5, a6⟩
      have out := tail v6 v7 v8 v9 v10 H5 i' m sm5 hw5 hm1 hr5 hi0 hi1
      refine ⟨_, rfl, _, _, rfl, rfl, _, rfl, ite2 (fun h1 => ?_) (fun h1 => ?_)⟩
      · refine ⟨_, _, rfl, rfl, _, rfl, ite2 (fun h2 => ?_) (fun h2 => iteF out)⟩
        refine ⟨_, rfl, _, _, rfl, rfl, _, rfl, ite2 (fun h3 => ?_) (fun h3 => out)⟩
        have h1 := of_decide_eq_true h1
        have h2 := of_decide_eq_true h2
        have h3 := of_decide_eq_true h3
        have hm' : m + 2 + cB j' ≤ n + cI (j' + 1) := by
          rw [if_neg (by omega), if_neg (by omega)] at hm
          exact hm
        have g5 : Given H5 a la ea r m ls es c i' := g.on sm5 hw5 (by omega) hr5
        refine ⟨_, rfl, _, rfl, _, rfl, _, rfl, _, rfl, _, _, rfl, rfl, a, ea, ea, r, m, es, es, c, i', congrArg (fun z => [V.ref a, V.ref ea, V.ref ea, V.ref r, V.int z]) edeep, by omega, by omega, g5.all, by omega, by omega, by omega, fun b l c2 i2 H6 sm6 hw6 hr6 hc2 hi2 hi3 bd ok nc ni em db => ?_⟩
        obtain ⟨vs, hb6, its6⟩ := bd
        rw [fr_some] at hb6
        obtain ⟨hb5, hb6⟩ := hb6
        have kpf : Kp (fr H5 H6) H6 := ⟨fun x xs e => (fr_some.mp e).2, fun x xs e => (fr_some.mp e).2⟩
        refine ⟨_, rfl, Nat.le_of_lt (small1000 (by simp)), fun p hp => ?_⟩
        have s7 := same_upd hp (.lst [])
        refine ⟨_, _, .lst (SqL.of (s7 _ _ hb6)) (((its6.keep kpf).keep (Kp.of s7)).dp), .lst (SqL.of upd_same) .nil, dt_shaped (dtB_lay g.nm l ok) (by have := dtB_depth l; omega), dt_shaped rfl (by decide), ?_⟩
        rw [eqv_nil]
        have e0 : (dtB l).isEmpty = l.isEmpty := by cases l <;> simp [dtB]
        rw [e0]
        have sm7 : Sm [a, r] H (upd H6 p (.lst [])) := (sm5.trans sm6).trans (Sm.of_same s7)
        have hw7 : WellAt (upd H6 p (.lst [])) a (m + cB j') := hw6.keep fun o e => s7 _ _ e
        have hr7 := s7 _ _ hr6
        have hb7 := s7 _ _ hb6
        have its7 : ItsAt (fr H (upd H6 p (.lst []))) vs l := its6.keep (fr_step sm5 g5.kept (Sm.of_same s7))
        have hbH : H b = none := none_back sm5 g5.kept hb5
        generalize upd H6 p (.lst []) = H7 at sm7 hw7 hr7 hb7 its7 ⊢
        refine ⟨_, rfl, ite2 (fun z => ?_) (fun z => ?_)⟩
        · have hne : l ≠ [] := fun e => by rw [e] at z; exact absurd z (by decide)
          refine ⟨Nat.le_of_lt (small1000 (by simp)), fun p2 hp2 => ?_⟩
          have s8 := same_upd hp2 (.lst [V.str "maybe", V.str "loop", V.str "loop"])
          obtain ⟨kd, hkd, hk2⟩ : ∃ kd : Str, atI [V.str "maybe", V.str "loop", V.str "loop"] (wv - 1) = some (.str kd) ∧ (kd = "maybe" ∧ wv = 1 ∨ kd = "loop" ∧ wv = 2) := by
            rcases (by omega : wv = 1 ∨ wv = 2) with rfl | rfl
            · exact ⟨"maybe", rfl, .inl ⟨rfl, rfl⟩⟩
            · exact ⟨"loop", rfl, .inr ⟨rfl, rfl⟩⟩
          refine ⟨_, rfl, _, _, rfl, rfl, p2, _, _, .str kd, rfl, rfl, SqL.of upd_same, hkd, _, rfl, Nat.le_of_lt (small1000 (by simp)), fun t ht => ?_⟩
          have s9 := same_upd ht (.tup [V.str kd, V.ref b])
          have s79 := s8.trans s9
          have sm9 : Sm [a, r] H (upd (upd H7 p2 (.lst [V.str "maybe", V.str "loop", V.str "loop"])) t (.tup [V.str kd, V.ref b])) := sm7.trans (Sm.of_same s79)
          have htH : H t = none := none_back (sm7.trans (Sm.of_same s8)) (fun x hx => by
            obtain ⟨o, e⟩ := (g.on sm7 hw7 (by omega) hr7).kept x hx
            exact ⟨o, s8 _ _ e⟩) ht
          have its9 := its7.keep (fr_step (W := [a, r]) (Sm.refl _ H) g.kept (Sm.of_same s79))
          rw [hD]
          refine q _ c2 i2 _ sm9 ((hw7.keep fun o e => s79 _ _ e).mono (by omega)) (s79 _ _ hr7) hc2 hi2 (by omega) (.inr ?_)
          rcases hk2 with ⟨rfl, _⟩ | ⟨rfl, _⟩
          · refine ⟨.may l, .may (fr_some.mpr ⟨htH, upd_same⟩) (fr_some.mpr ⟨hbH, s79 _ _ hb7⟩) its9, by simp, ?_, ?_, ?_, ?_⟩
            · simp only [okI]; exact ⟨hne, ok⟩
            · simp only [nC]; omega
            · simp only [nI]; omega
            · simp only [dI]; omega
          · refine ⟨.loop l, .loop (fr_some.mpr ⟨htH, upd_same⟩) (fr_some.mpr ⟨hbH, s79 _ _ hb7⟩) its9, by simp, ?_, ?_, ?_, ?_⟩
            · simp only [okI]; exact ⟨hne, ok⟩
            · simp only [nC]; omega
            · simp only [nI]; omega
            · simp only [dI]; omega
        · have he : l = [] := by
            cases l with
            | nil => rfl
            | cons _ _ => exact absurd rfl z
          have ec := em he
          subst ec
          exact tail _ _ _ _ _ H7 i2 _ sm7 hw7 (by omega) hr7 hi2 (by omega)
      · exact ⟨_, rfl, iteF (iteF out)⟩
    · intro u2 hu2 ru2
      refine ⟨_, (pss_cons (ps_set (i := 5) scLItem.nd rfl (by first | exact Or.inl rfl | exact Or.inr rfl) (pe_ix ix_list (pe_lst (pa_cons pe_int (pa_cons pe_int (pa_cons pe_int (pa_cons pe_int (pa_cons pe_int (pa_cons pe_int pa_nil))))))) (pe_call GLPull (hr.mono (by omega)) rfl T.gLPull T.FLPull.kp T.bLPull .nil pass0 (pa_cons (pv 0) (pa_cons pe_int pa_nil))) (fun _ _ => rfl)))
      (pss_cons (ps_asg (pe_op op_sub (pe_ix ix_list (pv 3) pe_int (fun _ _ => rfl)) pe_int) (pg_sub (pv 3) pe_int set_list))
      (pss_cons (ps_if (PW.pt (pw_and (pt_cmpR op_eq (pv 5) pe_int (nomark _)) (pw_and1 (pt_cmpR op_lt (pv 4) pe_int (nomark _)))))
        (pss_cons (ps_set (i := 6) scLItem.nd rfl (by first | exact Or.inl rfl | exact Or.inr rfl) (pe_lst (pa_cons (pe_call GLBody (hr.mono (by omega)) rfl T.gLBody T.FLBody.kp T.bLBody .nil pass0 (pa_cons (pv 0) (pa_cons (pv 1) (pa_cons (pv 2) (pa_cons (pv 3) (pa_cons (pe_op op_add (pv 4) pe_int) pa_nil)))))) pa_nil)))
        (pss_cons (ps_set (i := 6) scLItem.nd rfl (by first | exact Or.inl rfl | exact Or.inr rfl) (pe_op op_cat (pv 6) (pe_lc (own := [("turn", 10)]) (g := gName 10) (tt := tYes) rfl scLItem.nd (pi_range1 (by rfl) T.n_range (pa_cons (pe_op op_add pe_int (pe_call GLPull (hr.mono (by omega)) rfl T.gLPull T.FLPull.kp T.bLPull .nil pass0 (pa_cons (pv 0) (pa_cons pe_int pa_nil)))) pa_nil)) (blkOk_by (N := ["well", "later", "every", "room", "deep", "way", "bodies", "some", "spot", "inner", "turn"]) (sc := defScope sLItem) (by decide +kernel)) (fun _ _ _ _ _ => (pg_name (i := 10) scLItem.nd rfl (by first | exact Or.inl rfl | exact Or.inr rfl))) (fun _ _ _ _ _ => pts_nil) (fun _ _ _ _ _ => (pe_call GLBody (hr.mono (by omega)) rfl T.gLBody T.FLBody.kp T.bLBody .nil pass0 (pa_cons (pv 0) (pa_cons (pv 2) (pa_cons (pv 2) (pa_cons (pv 3) (pa_cons (pe_op op_add (pv 4) pe_int) pa_nil))))))))))
        (pss_cons (ps_setLc (i := 7) (own := [("inner", 9)]) (g := gName 9) rfl scLItem.nd rfl rfl (sw_true rfl rfl rfl (by decide +kernel)) (pi_list (pv 6)) (blkOk_by (N := ["well", "later", "every", "room", "deep", "way", "bodies", "some", "spot", "inner", "turn"]) (sc := defScope sLItem) (by decide +kernel)) (fun _ _ _ _ _ => (pg_name (i := 9) scLItem.nd rfl (by first | exact Or.inl rfl | exact Or.inr rfl))) (fun _ _ _ _ _ => (pts_one (pt_cmpR (op_neDK (K := K) rfl hr.units) (pv 9) (pe_lst pa_nil) (nomark _)))) (fun _ _ _ _ _ => (pv 9)))
        (pss_cons (ps_set (i := 7) scLItem.nd rfl (by first | exact Or.inl rfl | exact Or.inr rfl) (pe_op op_cat (pv 7) (pe_op op_rep (pe_lst (pa_cons (pe_lst pa_nil) pa_nil)) (pe_callTy call_int1 (by rfl) T.n_int (by decide +kernel) (pa_cons (pe_cmpR op_lt (pe_callB call_len_seq (by rfl) T.n_len PySem.boot_len (pa_cons (pv 7) pa_nil)) (pe_callB call_len_seq (by rfl) T.n_len PySem.boot_len (pa_cons (pv 6) pa_nil)) (nomark _)) pa_nil)))))
        (pss_cons (ps_set (i := 8) scLItem.nd rfl (by first | exact Or.inl rfl | exact Or.inr rfl) (pe_call GLPull (hr.mono (by omega)) rfl T.gLPull T.FLPull.kp T.bLPull .nil pass0 (pa_cons (pv 0) (pa_cons (pe_callB call_len_seq (by rfl) T.n_len PySem.boot_len (pa_cons (pv 7) pa_nil)) pa_nil))))
        (pss_one (ps_if (pt_cmpR op_gt (pe_callB call_len_seq (by rfl) T.n_len PySem.boot_len (pa_cons (pv 7) pa_nil)) pe_int (nomark _))
          (pss_one (ps_ret (pe_tup (pa_cons pe_str (pa_cons (pe_op op_cat (pe_slice sl_list (pv 7) (po_some (pv 8)) po_none) (pe_slice sl_list (pv 7) po_none (po_some (pv 8)))) pa_nil))))) pss_nil))))))) pss_nil)
      hu2))), ?_⟩
      refine ⟨Nat.le_of_lt (small1000 (by simp)), fun p hp => ?_⟩
      have s1 := same_upd hp (.lst [V.int 0, V.int 0, V.int 0, V.int 1, V.int 2, V.int 3])
      refine ⟨_, rfl, a, 6, n, rfl, by decide, by decide, g.w.keep fun o e => s1 _ _ e, by omega, fun r0 H2 r0a r0b sm2 hw2 => ?_⟩
      obtain ⟨wv, hwv0, hwv3, hix⟩ : ∃ wv : Int, 0 ≤ wv ∧ wv ≤ 3 ∧ atI [V.int 0, V.int 0, V.int 0, V.int 1, V.int 2, V.int 3] r0 = some (.int wv) := by
        rcases (by omega : r0 = 0 ∨ r0 = 1 ∨ r0 = 2 ∨ r0 = 3 ∨ r0 = 4 ∨ r0 = 5) with rfl | rfl | rfl | rfl | rfl | rfl
        · exact ⟨0, by decide, by decide, rfl⟩
        · exact ⟨0, by decide, by decide, rfl⟩
        · exact ⟨0, by decide, by decide, rfl⟩
        · exact ⟨1, by decide, by decide, rfl⟩
        · exact ⟨2, by decide, by decide, rfl⟩
        · exact ⟨3, by decide, by decide, rfl⟩
      obtain ⟨ow, how⟩ := g.w.some
      have hpa : p ≠ a := (ne_of_none how hp).symm
      refine ⟨p, _, _, .int wv, rfl, rfl, SqL.of (sm2 _ _ (by simp [hpa]) upd_same), hix, ?_⟩
      have sm02 : Sm [a, r] H H2 := fun x o hx e => sm2 x o (by simp at hx ⊢; exact hx.1) (s1 _ _ e)
      have hr2 : H2 r = some (.lst [.int c, .int i]) := sm2 _ _ (by simp [d5.symm]) (s1 _ _ g.r)
      refine ⟨_, rfl, _, _, _, _, rfl, rfl, SqL.of hr2, at_of (j := 1) rfl rfl, _, _, rfl, rfl, _, rfl, r, _, 1, 1, rfl, rfl, hr2, rfl, ?_⟩
      have hr3 : (upd H2 r (.lst ([V.int c, V.int i].set 1 (.int (i - 1))))) r = some (.lst [.int c, .int (i - 1)]) := upd_same
      have sm3 : Sm [a, r] H (upd H2 r (.lst ([V.int c, V.int i].set 1 (.int (i - 1))))) := sm02.trans (Sm.at (by simp))
      have hw3 : WellAt (upd H2 r (.lst ([V.int c, V.int i].set 1 (.int (i - 1))))) a (n + 1) := hw2.keep fun o e => by rw [upd_ne d5]; exact e
      generalize upd H2 r (.lst ([V.int c, V.int i].set 1 (.int (i - 1)))) = H3 at sm3 hw3 hr3 ⊢
      have hcB : 4 + 5 * cB j' ≤ cI (j' + 1) ∨ j' = 0 ∧ cI (j' + 1) = 2 := by
        rcases cI_eq (j' + 1) hj1 hj4 with h | h
        · exact .inl h
        · exact .inr ⟨by omega, h.2⟩
      have hcB0 : j' = 0 → cB j' = 0 := fun e => by rw [e]; rfl
      have go3 : (wv ≠ 3 ∨ j' = 0) → ∀ (D : Ends), D.rt = Q → u2 D [some (.ref a), some (.ref la), some (.ref ea), some (.ref r), some (.int (5 - ((j' + 1 : Nat) : Int))), some (.int wv), none, none, none, none, none] H3 := fun hx D hD =>
        ru2 D _ H3 ⟨hD, wv, none, none, none, none, none, i - 1, n + 1, hwv0, hwv3, rfl, sm3, hw3, by
          rcases hcB with h | ⟨h, h2⟩
          · split <;> split <;> omega
          · have := hcB0 h
            rw [if_pos h]
            split <;> omega, by omega, hr3, by omega, by omega⟩
      refine ⟨_, rfl, rfl, _, rfl, ite2 (fun w3 => ?_) (fun w3 => go3 (.inl fun e => w3 (by rw [e]; exact decide_eq_true rfl)) _ rfl)⟩
      have w3 : wv = 3 := V.int.inj (of_decide_eq_true w3)
      subst w3
      refine ⟨_, rfl, _, _, rfl, rfl, _, rfl, ite2 (fun dp => ?_) (fun dp => go3 (.inr ?_) _ rfl)⟩
      · have dp := of_decide_eq_true dp
        have hj' : 1 ≤ j' := by omega
        have hc5 : 4 + 5 * cB j' ≤ cI (j' + 1) := by
          rcases hcB with h | ⟨h, h2⟩ <;> omega
        have g3 : Given H3 a la ea r (n + 1) ls es c (i - 1) := g.on sm3 hw3 (by omega) hr3
        refine ⟨_, rfl, _, rfl, _, rfl, _, rfl, _, rfl, _, _, rfl, rfl, a, la, ea, r, n + 1, ls, es, c, i - 1, congrArg (fun z => [V.ref a, V.ref la, V.ref ea, V.ref r, V.int z]) edeep, hj', by omega, g3, by omega, by omega, by omega, fun b0 l0 c1 i1 H4 sm4 hw4 hr4 hc1 hi1 hi1' bd0 ok0 nc0 ni0 em0 db0 => ?_⟩
        refine ⟨Nat.le_of_lt (small1000 (by simp)), fun q0 hq0 => ?_⟩
        have s5 := same_upd hq0 (.lst [V.ref b0])
        have sm45 : Sm [a, r] H4 (upd H4 q0 (.lst [V.ref b0])) := Sm.of_same s5
        have hq5 : (upd H4 q0 (.lst [V.ref b0])) q0 = some (.lst [V.ref b0]) := upd_same
        have hw5 : WellAt (upd H4 q0 (.lst [V.ref b0])) a (n + 1 + cB j') := hw4.keep fun o e => s5 _ _ e
        have hr5 := s5 _ _ hr4
        have hq0H : H q0 = none := none_back (sm3.trans sm4) (g.on (sm3.trans sm4) hw4 (by omega) hr4).kept hq0
        have hq0a : q0 ≠ a := (ne_of_none how hq0H).symm
        have hq0r : q0 ≠ r := (ne_of_none g.r hq0H).symm
        generalize upd H4 q0 (.lst [V.ref b0]) = H5 at sm45 hq5 hw5 hr5 ⊢
        refine ⟨_, rfl, _, rfl, a, 3, n + 1 + cB j', rfl, by decide, by decide, hw5, by omega, fun r3 H6 r3a r3b sm6 hw6 => ?_⟩
        have sm46 : Sm [a, r] H4 H6 := sm45.trans (sm6.more (by simp))
        have hq6 : H6 q0 = some (.lst [V.ref b0]) := sm6 _ _ (by simp [hq0a]) hq5
        have hr6 : H6 r = some (.lst [.int c1, .int i1]) := sm6 _ _ (by simp [d5.symm]) hr5
        have sm06 : Sm [a, r] H H6 := (sm3.trans sm4).trans sm46
        refine ⟨_, _, rfl, rfl, 1 + r3, rfl, by omega, by omega, fun D hD => ?_⟩
        have hn3 : (1 + r3).toNat ≤ 3 := by omega
        have hn31 : 1 ≤ (1 + r3).toNat := by omega
        generalize (1 + r3).toNat = kk at hn3 hn31 ⊢
        have hDH : H D = none := none_back sm06 (g.on sm06 hw6 (by omega) hr6).kept hD
        have hDa : D ≠ a := (ne_of_none how hDH).symm
        have hDr : D ≠ r := (ne_of_none g.r hDH).symm
        have hmul : ∀ k, k ≤ 3 → n + 2 + cB j' + k * cB j' ≤ n + 2 + 4 * cB j' := fun k hk => by
          have : k * cB j' ≤ 3 * cB j' := Nat.mul_le_mul_right _ hk
          omega
        refine lc_range (lo := 0) (n := kk) (fun k H' => ∃ vs lb c' i', H' D = some (.lst vs) ∧ vs.length = k ∧ BdsAt (wo [D] (fr H H')) vs lb ∧ okBs es lb ∧ nCBs lb + c' ≤ c1 ∧ nIBs lb + i' ≤ i1 ∧ dBs lb ≤ j' ∧ ((∀ b ∈ lb, b = []) → c' = c1) ∧ 0 ≤ c' ∧ 0 ≤ i' ∧
          H' r = some (.lst [.int c', .int i']) ∧ WellAt H' a (n + 2 + cB j' + k * cB j') ∧ Sm [a, r] H6 H') ?_ ?_ ?_
        · refine ⟨[], [], c1, i1, upd_same, rfl, .nil, by simp [okBs], by simp [nCBs], by simp [nIBs], by simp [dBs], fun _ => rfl, hc1, hi1, by rw [upd_ne hDr.symm]; exact hr6, ?_, Sm.new hD⟩
          exact (hw6.keep fun o e => by rw [upd_ne hDa.symm]; exact e).mono (by omega)
        · rintro k H7 hk ⟨vs, lb, c', i', hD7, hvl, bd7, ok7, nc7, ni7, db7, em7, hc0', hi0', hr7, hw7, sm7⟩
          have sm07 := sm06.trans sm7
          have g7 : Given H7 a la ea r (n + 2 + cB j' + k * cB j') ls es c' i' := g.on sm07 hw7 (by have := hmul k (by omega); omega) hr7
          refine ⟨rfl, yesT (iteT ?_)⟩
          have hmk := hmul (k + 1) (by omega)
          have hmk2 : n + 2 + cB j' + k * cB j' + cB j' = n + 2 + cB j' + (k + 1) * cB j' := by rw [Nat.succ_mul]; omega
          refine ⟨_, rfl, _, rfl, _, rfl, _, rfl, _, rfl, _, _, rfl, rfl, a, ea, ea, r, n + 2 + cB j' + k * cB j', es, es, c', i', congrArg (fun z => [V.ref a, V.ref ea, V.ref ea, V.ref r, V.int z]) edeep, hj', by omega, g7.all, by omega, hc0', hi0', fun b l c2 i2 H8 sm8 hw8 hr8 hc2 hi2 hi3 bd8 ok8 nc8 ni8 em8 db8 => ?_⟩
          have hD8 : H8 D = some (.lst vs) := sm8 _ _ (by simp [hDa, hDr]) hD7
          refine ⟨vs, hD8, small1000 (by omega), vs ++ [.ref b], lb ++ [l], c2, i2, upd_same, by simp [hvl], ?_, ?_, ?_, ?_, ?_, ?_, hc2, hi2, by rw [upd_ne hDr.symm]; exact hr8, ?_, ?_⟩
          · exact (bd7.keep (kp_old g.kept sm8)).append (BdAt.toBds (bd8.keep (kp_new sm07 g7.kept hD7)) .nil)
          · rw [okBs_app]; exact ⟨ok7, by simp only [okBs]; exact ⟨ok8, trivial⟩⟩
          · rw [nCBs_app]; simp only [nCBs]; omega
          · rw [nIBs_app]; simp only [nIBs]; omega
          · rw [dBs_app]; simp only [dBs]; omega
          · intro hall
            have e1 := em8 (hall l (by simp))
            have e2 := em7 fun b hb => hall b (List.mem_append_left _ hb)
            omega
          · rw [← hmk2]
            exact hw8.keep fun o e => by rw [upd_ne hDa.symm]; exact e
          · intro x o hx e
            have e2 := sm8 x o hx (sm7 x o hx e)
            rw [upd_ne (ne_of_none e hD)]
            exact e2
        · rintro H7 ⟨vs, lb, c', i', hD7, hvl, bd7, ok7, nc7, ni7, db7, em7, hc0', hi0', hr7, hw7, sm7⟩
          have hq7 : H7 q0 = some (.lst [V.ref b0]) := sm7 _ _ (by simp [hq0a, hq0r]) hq6
          refine ⟨q0, D, _, _, rfl, rfl, hq7, hD7, Nat.le_of_lt (small1000 (by simp; omega)), fun p2 hp2 => ?_⟩
          have s9 := same_upd hp2 (.lst ([V.ref b0] ++ vs))
          have sm49 : Sm [a, r] H4 (upd H7 p2 (.lst ([V.ref b0] ++ vs))) := (sm46.trans sm7).trans (Sm.of_same s9)
          have sm09 : Sm [a, r] H (upd H7 p2 (.lst ([V.ref b0] ++ vs))) := (sm3.trans sm4).trans sm49
          have hp9 : (upd H7 p2 (.lst ([V.ref b0] ++ vs))) p2 = some (.lst (V.ref b0 :: vs)) := upd_same
          have hr9 := s9 _ _ hr7
          have hw9 : WellAt (upd H7 p2 (.lst ([V.ref b0] ++ vs))) a (n + 2 + 4 * cB j') := (hw7.keep fun o e => s9 _ _ e).mono (hmul _ hn3)
          have kp79 : Kp (fr H H7) (fr H (upd H7 p2 (.lst ([V.ref b0] ++ vs)))) := fr_step (W := [a, r]) (Sm.refl _ H) g.kept (Sm.of_same s9)
          have bd9 : BdsAt (fr H (upd H7 p2 (.lst ([V.ref b0] ++ vs)))) (V.ref b0 :: vs) (l0 :: lb) := BdAt.toBds (bd0.keep (fr_step sm3 g3.kept sm49)) ((bd7.keep kp_wo).keep kp79)
          generalize upd H7 p2 (.lst ([V.ref b0] ++ vs)) = H9 at sm09 hp9 hr9 hw9 bd9 ⊢
          have okA : okBs es (l0 :: lb) := by simp only [okBs]; exact ⟨ok0, ok7⟩
          have ncA : nCBs (l0 :: lb) + c' ≤ c := by simp only [nCBs]; omega
          have niA : nIBs (l0 :: lb) + i' ≤ i - 1 := by simp only [nIBs]; omega
          have dbA : dBs (l0 :: lb) ≤ j' := by simp only [dBs]; omega
          have emA : (∀ b ∈ l0 :: lb, b = []) → c' = c := fun hall => by
            have e1 := em0 (hall l0 (by simp))
            have e2 := em7 fun b hb => hall b (List.mem_cons_of_mem _ hb)
            omega
          have lenA : (l0 :: lb).length = kk + 1 := by have := bd7.length; simp only [List.length_cons]; omega
          have lenV : (V.ref b0 :: vs).length = kk + 1 := by simp [hvl]
          generalize (l0 :: lb) = bs at bd9 okA ncA niA dbA emA lenA
          generalize (V.ref b0 :: vs) = ws at hp9 bd9 lenV
          -- the bodies that are not empty
          refine ⟨_, rfl, p2, rfl, ⟨_, SqL.of hp9⟩, fun D2 hD2 => ?_⟩
          refine lc_list (K := K) (a := p2) (xs := ws) (fun k H' => ∃ vs2, H' D2 = some (.lst vs2) ∧ vs2.length ≤ k ∧ BdsAt (fr H H9) vs2 (full (bs.take k)) ∧ Same H9 H') ?_ ?_ ?_ ?_
          · exact ⟨[], upd_same, Nat.le_refl _, by simp [full]; exact .nil, same_upd hD2 _⟩
          · rintro k H' _ ⟨_, _, _, _, sm⟩
            exact SqL.of (sm _ _ hp9)
          · rintro k x H10 hx ⟨vs2, hD10, hv2, bd2, sm10⟩
            obtain ⟨bk, lk, rfl, e1, e2⟩ := bd9.get hx
            have hkl : k < kk + 1 := by
              have := (List.getElem?_eq_some_iff.mp hx).1
              omega
            have hm : lk ∈ bs := List.mem_of_getElem? e1
            have okk := okBs_all.mp okA lk hm
            have dbk := dBs_mem hm
            refine ⟨rfl, _, rfl, Nat.le_of_lt (small1000 (by simp)), fun pe hpe => ?_⟩
            have s11 := same_upd hpe (.lst [])
            obtain ⟨vk, hk1, hk2⟩ := (e2.keep kp_fr).keep (Kp.of (sm10.trans s11))
            refine ⟨_, _, .lst (SqL.of hk1) hk2.dp, .lst (SqL.of upd_same) .nil, dt_shaped (dtB_lay g.nm lk okk) (by have := dtB_depth lk; omega), dt_shaped rfl (by decide), ?_⟩
            rw [eqv_nil]
            have e0 : (dtB lk).isEmpty = lk.isEmpty := by cases lk <;> simp [dtB]
            rw [e0]
            have hD11 : (upd H10 pe (.lst [])) D2 = some (.lst vs2) := s11 _ _ hD10
            have sm11 := sm10.trans s11
            generalize upd H10 pe (.lst []) = H11 at hD11 sm11 ⊢
            refine ⟨_, rfl, ite2 (fun z => ?_) (fun z => ?_)⟩
            · refine ⟨_, rfl, vs2, hD11, small1000 (by omega), vs2 ++ [.ref bk], upd_same, by simp; omega, ?_, ?_⟩
              · have hne : lk.isEmpty = false := by
                  cases lk with
                  | nil => exact absurd z (by decide)
                  | cons _ _ => rfl
                rw [full_take e1, hne]
                exact bd2.append (BdAt.toBds e2 .nil)
              · intro x o e
                rw [upd_ne (ne_of_none e hD2)]
                exact sm11 _ _ e
            · refine ⟨vs2, hD11, by omega, ?_, sm11⟩
              have hne : lk.isEmpty = true := by
                cases lk with
                | nil => rfl
                | cons _ _ => exact absurd rfl z
              rw [full_take e1, hne]
              simpa using bd2
          · rintro H10 ⟨vs2, hD10, hv2, bd2, sm10⟩
            rw [lenV, List.take_of_length_le (by omega)] at bd2
            have hp10 : H10 p2 = some (.lst ws) := sm10 _ _ hp9
            have lenF := bd2.length
            obtain ⟨fa1, fa2, fa3, fa4, fa5, fa6⟩ := full_facts okA
            refine ⟨_, rfl, Nat.le_of_lt (small1000 (by simp)), fun pe hpe => ?_⟩
            refine ⟨Nat.le_of_lt (small1000 (by simp)), fun po hpo => ?_⟩
            have s11 := same_upd hpe (.lst [])
            have s12 := same_upd hpo (.lst [V.ref pe])
            have hpe12 : (upd (upd H10 pe (.lst [])) po (.lst [V.ref pe])) pe = some (.lst []) := s12 _ _ upd_same
            have hpo12 : (upd (upd H10 pe (.lst [])) po (.lst [V.ref pe])) po = some (.lst [V.ref pe]) := upd_same
            have sm912 := sm10.trans (s11.trans s12)
            have hD12 := s12 _ _ (s11 _ _ hD10)
            have hp12 := s12 _ _ (s11 _ _ hp10)
            have hpe9 : H9 pe = none := by
              cases z : H9 pe with
              | none => rfl
              | some o => rw [sm10 _ _ z] at hpe; cases hpe
            have hpeH : H pe = none := none_back sm09 (g.on sm09 hw9 (by omega) hr9).kept hpe9
            generalize upd (upd H10 pe (.lst [])) po (.lst [V.ref pe]) = H12 at hpe12 hpo12 sm912 hD12 hp12 ⊢
            refine ⟨_, rfl, _, _, rfl, .inl (SqL.of hD12), _, rfl, _, _, rfl, .inl (SqL.of hp12), _, _, rfl, rfl, .inr ⟨_, rfl, ?_⟩⟩
            obtain ⟨kr, hkr, hrep⟩ : ∃ kr : Int, (if decide (((vs2.length : Nat) : Int) < ((ws.length : Nat) : Int)) = true then (1 : Int) else 0) = kr ∧ ((full bs).length < bs.length ∧ kr = 1 ∨ ¬ (full bs).length < bs.length ∧ kr = 0) := by
              by_cases z : ((vs2.length : Nat) : Int) < ((ws.length : Nat) : Int)
              · exact ⟨1, by rw [decide_eq_true z, if_pos rfl], .inl ⟨by omega, rfl⟩⟩
              · exact ⟨0, by rw [decide_eq_false z, if_neg (by decide)], .inr ⟨by omega, rfl⟩⟩
            rw [hkr]
            refine ⟨po, kr, _, rfl, rfl, hpo12, by omega, by omega, ?_, fun pr hpr => ?_⟩
            · have := small1000 (n := [V.ref pe].length * kr.toNat) (by simp; omega)
              omega
            have s13 := same_upd hpr (.lst (List.replicate kr.toNat [V.ref pe]).flatten)
            refine ⟨D2, pr, _, _, rfl, rfl, s13 _ _ hD12, upd_same, ?_, fun ps hps => ?_⟩
            · have h1 : ((List.replicate kr.toNat [V.ref pe]).flatten).length ≤ 1 := by
                rcases hrep with ⟨_, rfl⟩ | ⟨_, rfl⟩ <;> simp
              exact Nat.le_of_lt (small1000 (by omega))
            have s14 := same_upd hps (.lst (vs2 ++ (List.replicate kr.toNat [V.ref pe]).flatten))
            have sm914 := sm912.trans (s13.trans s14)
            have hps14 : (upd (upd H12 pr (.lst (List.replicate kr.toNat [V.ref pe]).flatten)) ps (.lst (vs2 ++ (List.replicate kr.toNat [V.ref pe]).flatten))) ps = some (.lst (vs2 ++ (List.replicate kr.toNat [V.ref pe]).flatten)) := upd_same
            have hpe14 := s14 _ _ (s13 _ _ hpe12)
            generalize upd (upd H12 pr (.lst (List.replicate kr.toNat [V.ref pe]).flatten)) ps (.lst (vs2 ++ (List.replicate kr.toNat [V.ref pe]).flatten)) = H14 at sm914 hps14 hpe14 ⊢
            have kp914 : Kp (fr H H9) (fr H H14) := fr_step (W := [a, r]) (Sm.refl _ H) g.kept (Sm.of_same sm914)
            have bdS : BdsAt (fr H H14) (vs2 ++ (List.replicate kr.toNat [V.ref pe]).flatten) (some1 bs) := by
              refine (bd2.keep kp914).append ?_
              rcases hrep with ⟨h1, rfl⟩ | ⟨h1, rfl⟩
              · rw [if_pos h1]
                exact .cons (fr_some.mpr ⟨hpeH, hpe14⟩) .nil .nil
              · rw [if_neg h1]
                exact .nil
            generalize vs2 ++ (List.replicate kr.toNat [V.ref pe]).flatten = ss at hps14 bdS ⊢
            have sm014 : Sm [a, r] H H14 := sm09.trans (Sm.of_same sm914)
            have hw14 : WellAt H14 a (n + 2 + 4 * cB j') := hw9.keep fun o e => sm914 _ _ e
            have hr14 := sm914 _ _ hr9
            have lenS := bdS.length
            have lenS1 : 1 ≤ (some1 bs).length := by
              unfold some1
              rw [List.length_append]
              split
              · simp only [List.length_cons, List.length_nil]; omega
              · omega
            have lenS4 : (some1 bs).length ≤ 5 := by
              unfold some1
              rw [List.length_append]
              split <;> simp only [List.length_cons, List.length_nil] <;> omega
            refine ⟨_, rfl, _, rfl, _, _, rfl, .inl (SqL.of hps14), a, _, n + 2 + 4 * cB j', rfl, by omega, by omega, hw14, by omega, fun sp H15 sp0 sp1 sm15 hw15 => ?_⟩
            have hpsH : H ps = none ∨ True := .inr trivial
            have hpsa : ps ≠ a := by
              rintro rfl
              obtain ⟨x, y, z, hw, _⟩ := hw14
              rw [hps14] at hw
              cases hw
              cases bdS
            have hpsr : ps ≠ r := by
              rintro rfl
              rw [hps14] at hr14
              cases hr14
              cases bdS
            have hps15 : H15 ps = some (.lst ss) := sm15 _ _ (by simp [hpsa]) hps14
            have sm015 : Sm [a, r] H H15 := sm014.trans (sm15.more (by simp))
            have hr15 : H15 r = some (.lst [.int c', .int i']) := sm15 _ _ (by simp [d5.symm]) hr14
            have bdS15 : BdsAt (fr H H15) ss (some1 bs) := bdS.keep (fr_step (W := [a, r]) (Sm.refl _ H) g.kept (sm15.more (by simp)))
            have hnn : n + 2 + 4 * cB j' + 1 + 1 ≤ n + cI (j' + 1) := by omega
            refine ⟨_, rfl, _, _, rfl, .inl (SqL.of hps15), _, _, rfl, rfl, _, rfl, ite2 (fun z => ?_) (fun z => ?_)⟩
            · have z := of_decide_eq_true z
              have hsp : sp = ((sp.toNat : Nat) : Int) := by omega
              have hspl : sp.toNat ≤ ss.length := by omega
              refine ⟨_, rfl, _, rfl, _, rfl, _, _, rfl, SqL.of hps15, fun p3 hp3 => ?_⟩
              have s16 := same_upd hp3 (.lst (cutV ss (some sp) none))
              refine ⟨_, rfl, _, rfl, _, rfl, _, _, rfl, SqL.of (s16 _ _ hps15), fun p4 hp4 => ?_⟩
              have s17 := same_upd hp4 (.lst (cutV ss none (some sp)))
              refine ⟨p3, p4, _, _, rfl, rfl, s17 _ _ upd_same, upd_same, ?_, fun p5 hp5 => ?_⟩
              · have h1 := cutV_length ss (some sp) none
                have h2 := cutV_length ss none (some sp)
                exact Nat.le_of_lt (small1000 (by omega))
              refine ⟨Nat.le_of_lt (small1000 (by simp)), fun t ht => ?_⟩
              have ecut : cutV ss (some sp) none ++ cutV ss none (some sp) = ss.drop sp.toNat ++ ss.take sp.toNat := by
                have e1 : cutV ss (some sp) none = ss.drop sp.toNat := by
                  conv => lhs; rw [hsp]
                  exact cut_from hspl
                have e2 : cutV ss none (some sp) = ss.take sp.toNat := by
                  conv => lhs; rw [hsp]
                  exact cut_to hspl
                rw [e1, e2]
              have s18 := same_upd hp5 (.lst (cutV ss (some sp) none ++ cutV ss none (some sp)))
              have s19 := same_upd ht (.tup [V.str "one", V.ref p5])
              have s1519 := s16.trans (s17.trans (s18.trans s19))
              have sm019 := sm015.trans (Sm.of_same (W := [a, r]) s1519)
              obtain ⟨f1, f2, f3, f4⟩ := some1_facts okA (by omega) (by omega) sp.toNat (by omega)
              have kt : ∀ b ∈ [a, r], ∃ o, H15 b = some o := fun b hb => by
                simp only [List.mem_cons, List.not_mem_nil, or_false] at hb
                rcases hb with rfl | rfl
                · exact hw15.some
                · exact ⟨_, hr15⟩
              have htH : H t = none := none_back sm015 kt (by
                cases q1 : H15 t with
                | none => rfl
                | some o => rw [s18 _ _ (s17 _ _ (s16 _ _ q1))] at ht; cases ht)
              have hp5H : H p5 = none := none_back sm015 kt (by
                cases q1 : H15 p5 with
                | none => rfl
                | some o => rw [s17 _ _ (s16 _ _ q1)] at hp5; cases hp5)
              have bdE := bdS15.keep (fr_step (W := [a, r]) (Sm.refl _ H) g.kept (Sm.of_same (W := [a, r]) s1519))
              refine q _ c' i' _ sm019 ((hw15.keep fun o e => s1519 _ _ e).mono (by omega)) (s1519 _ _ hr15) hc0' hi0' (by omega) (.inr ⟨.one ((some1 bs).drop sp.toNat ++ (some1 bs).take sp.toNat), ?_, by simp, f1, by omega, by omega, by omega⟩)
              refine .one (vs := ss.drop sp.toNat ++ ss.take sp.toNat) (fr_some.mpr ⟨htH, upd_same⟩) (fr_some.mpr ⟨hp5H, ?_⟩) ((bdE.drop sp.toNat).append (bdE.take sp.toNat))
              rw [← ecut]
              exact s19 _ _ upd_same
            · have z : ¬ (1 < (some1 bs).length) := fun h => z (decide_eq_true (by omega))
              have ec := emA (some1_few (by omega) z)
              subst ec
              refine ru2 _ _ H15 ⟨rfl, 3, _, _, _, _, _, i', n + 2 + 4 * cB j' + 1, by omega, by omega, rfl, sm015, hw15, ?_, hnn, hr15, hi0', by omega⟩
              rw [if_pos rfl, if_neg (by omega)]
              omega
      · have : ¬ (5 - ((j' + 1 : Nat) : Int) < 4) := fun h => dp (decide_eq_true h)
        omega
end K05


set_option Elab.async false
set_option linter.all false
set_option maxRecDepth 100000
set_option maxHeartbeats 4000000
namespace K05
open PySem PySem.Spec PyProof.Rows L2 FA
variable {P : Program} {w : World} {K : PySem.W.Frag} {mg : Str → Option Value} {base : Heap}
theorem okGen (T : Txt K mg) : ∀ j : Nat, FnOk P w K mg base CX0 (2 * j + 1) T.aLBody T.fLBody ["well", "later", "every", "room", "deep"] (spLBody j)
  | 0 => fn_never fun vs H Q E h => by
    obtain ⟨_, _, _, _, _, _, _, _, _, _, h1, _⟩ := h
    omega
  | j + 1 => okLBody T (j + 1) (okLItem T (j + 1) (by omega) (by rw [Nat.add_sub_cancel]; exact okGen T j)) (by omega)
/-! ### the law's own costs -/
/-- a dict that tells f, 99 where it tells nothing -/
def LgAt (H : Hp) (L : Addr) (f : Str → Int) : Prop := ∃ kvs, Rd H L (.dK kvs) ∧ ∀ x, (valV kvs (.inr x)).getD (.int 99) = .int (f x)
theorem LgAt.same {H H' : Hp} {L : Addr} {f : Str → Int} (sm : Same H H') (h : LgAt H L f) : LgAt H' L f := by
  obtain ⟨kvs, h1, h2⟩ := h
  exact ⟨kvs, Rd.same sm h1, h2⟩
theorem costB_app (f : Str → Int) : ∀ a b : List FA.It, costB f (a ++ b) = costB f a + costB f b
  | [], b => by simp [costB]
  | i :: r, b => by simp only [List.cons_append, costB, costB_app f r b]; omega
theorem costB_take {f : Str → Int} {l : List FA.It} {i : Nat} {it : FA.It} (h : l[i]? = some it) : costB f (l.take (i + 1)) = costB f (l.take i) + cost f it := by
  rw [List.take_add_one, h, costB_app]
  simp [costB]
def spLCost (n : Nat) : Sp := fun vs H Q _ => ∃ (b L : Addr) (ns : List Str) (f : Str → Int) (l : List FA.It), vs = [.ref b, .ref L] ∧ BdAt H b l ∧ LgAt H L f ∧ okB ns l ∧ nIB l ≤ 12 ∧ dB l ≤ n ∧ ∀ H', Same H H' → Q (.int (costB f l)) H'
theorem okLCost1 (T : Txt K mg) (n : Nat) (GLCost : FnOk P w K mg base CX0 (n + 1) T.aLCost T.fLCost ["body", "least"] (spLCost n)) : FnOk P w K mg base CX0 (n + 2) T.aLCost T.fLCost ["body", "least"] (spLCost (n + 1)) := by
  refine T.FLCost.ok scLCost (fun vs H Q E h => ?_) (fun cdv A outer s H vs Q E hr h => ?_)
  · obtain ⟨b, L, ns, f, l, rfl, _⟩ := h
    rfl
  obtain ⟨b, L, ns, f, l, rfl, ⟨vs, hb, hits⟩, hL, hok, hN, hn, q⟩ := h
  have hu := hu_of hr
  refine ⟨_, (pss_cons (ps_set (i := 2) scLCost.nd rfl (by first | exact Or.inl rfl | exact Or.inr rfl) pe_int)
      (pss_cons (ps_for PassesOwn.never rfl (pi_list (pv 0)) (pg_name (i := 3) scLCost.nd rfl (by first | exact Or.inl rfl | exact Or.inr rfl))
        (pss_one (ps_if (pt_val (pe_callB call_isi (by rfl) T.n_isinstance (by decide +kernel) (pa_cons (pv 3) (pa_cons (pe_bltn (v := .ty "str") (by rfl) T.n_str (by decide +kernel) rfl) pa_nil))))
          (pss_one (ps_set (i := 2) scLCost.nd rfl (by first | exact Or.inl rfl | exact Or.inr rfl) (pe_op op_add (pv 2) (pe_dget2 hu (pv 1) (pv 3) pe_int (by exact ⟨rfl, rfl, rfl, rfl⟩))))) (pss_one (ps_if (pt_cmpR op_eq (pe_ix ix_tup (pv 3) pe_int (fun _ _ => rfl)) pe_str (nomark _))
            (pss_one (ps_set (i := 2) scLCost.nd rfl (by first | exact Or.inl rfl | exact Or.inr rfl) (pe_op op_add (pv 2) (pe_callB (cr_min rfl) (by rfl) T.n_min (by decide +kernel) (pa_cons (pe_lc (own := [("inner", 4)]) (g := gName 4) (tt := tYes) rfl scLCost.nd (pi_list (pe_ix ix_tup (pv 3) pe_int (fun _ _ => rfl))) (blkOk_by (N := ["body", "least", "found", "item", "inner"]) (sc := defScope sLCost) (by decide +kernel)) (fun _ _ _ _ _ => (pg_name (i := 4) scLCost.nd rfl (by first | exact Or.inl rfl | exact Or.inr rfl))) (fun _ _ _ _ _ => pts_nil) (fun _ _ _ _ _ => (pe_call GLCost (hr.mono (by omega)) rfl T.gLCost T.FLCost.kp T.bLCost .nil pass0 (pa_cons (pv 4) (pa_cons (pv 1) pa_nil))))) pa_nil))))) pss_nil)))))
      (pss_one (ps_ret (pv 2))))), ?_⟩
  have hl := hits.length
  have c6 := nIB_eq l
  refine ⟨_, rfl, b, rfl, ⟨_, SqL.of hb⟩, for_list (K := K) (a := b) (xs := vs) (fun i σ H' => ∃ v3 v4, σ = [some (.ref b), some (.ref L), some (.int (costB f (l.take i))), v3, v4] ∧ Same H H') ⟨none, none, rfl, Same.refl _⟩ ?_ ?_ ?_⟩
  · rintro i σ H' _ ⟨_, _, _, sm⟩
    exact SqL.of (sm _ _ hb)
  · rintro i y σ H1 hi ⟨v3, v4, rfl, sm⟩
    obtain ⟨it, e1, e2⟩ := hits.get hi
    have hm : it ∈ l := List.mem_of_getElem? e1
    have e3 := e2.keep (Kp.of sm)
    have ec := costB_take (f := f) e1
    have c7 := dB_mem hm
    have c8 : nI it ≤ sI l := by
      have c2 := sI_take e1
      have c4 := sI_take_le l (i + 1)
      omega
    have oki := okB_all.mp hok it hm
    cases e3 with
    | call x =>
      obtain ⟨kvs, h1, h2⟩ := hL.same sm
      refine ⟨_, rfl, _, _, _, _, true, rfl, .ty _, ty_str x, kit_ty (by decide +kernel), _, rfl, iteT ?_⟩
      refine ⟨_, rfl, _, rfl, L, rfl, .inl ⟨kvs, h1⟩, _, rfl, _, .inl ⟨kvs, .inr x, h1, rfl, rfl⟩, _, _, rfl, h2 x, ?_⟩
      refine ⟨some (.str x), v4, ?_, sm⟩
      rw [ec]
      simp only [cost]
      rfl
    | @may t b' vs' l' h1 h2 h3 =>
      refine ⟨_, rfl, _, _, _, _, false, rfl, .ty _, ty_tup h1, kit_ty (by decide +kernel), _, rfl, iteF ?_⟩
      refine ⟨_, rfl, _, _, _, _, rfl, rfl, SqT.of h1, at_of (j := 0) rfl rfl, rfl, _, rfl, ite2 (fun c => absurd (of_decide_eq_true c) (by decide)) (fun _ => ?_)⟩
      refine ⟨some (.ref t), v4, ?_, sm⟩
      rw [ec]
      simp only [cost, Int.add_zero]
      rfl
    | @loop t b' vs' l' h1 h2 h3 =>
      refine ⟨_, rfl, _, _, _, _, false, rfl, .ty _, ty_tup h1, kit_ty (by decide +kernel), _, rfl, iteF ?_⟩
      refine ⟨_, rfl, _, _, _, _, rfl, rfl, SqT.of h1, at_of (j := 0) rfl rfl, rfl, _, rfl, ite2 (fun c => absurd (of_decide_eq_true c) (by decide)) (fun _ => ?_)⟩
      refine ⟨some (.ref t), v4, ?_, sm⟩
      rw [ec]
      simp only [cost, Int.add_zero]
      rfl
    | @one t b' vs' ls h1 h2 h3 =>
      simp only [okI] at oki
      obtain ⟨k1, k2, k3, k4⟩ := oki
      have hl3 := h3.length
      refine ⟨_, rfl, _, _, _, _, false, rfl, .ty _, ty_tup h1, kit_ty (by decide +kernel), _, rfl, iteF ?_⟩
      refine ⟨_, rfl, _, _, _, _, rfl, rfl, SqT.of h1, at_of (j := 0) rfl rfl, rfl, _, rfl, ite2 (fun _ => ?_) (fun c => absurd (decide_eq_true rfl) c)⟩
      refine ⟨_, rfl, _, rfl, _, _, _, _, rfl, rfl, SqT.of h1, at_of (j := 1) rfl rfl, b', rfl, ⟨_, SqL.of h2⟩, fun D hD => lcS (n := vs'.length) hD (small1000 (by omega)) _ (fun j v _ => ∃ bd, ls[j]? = some bd ∧ v = .int (costB f bd))
        (go_l (SqL.of h2)) (stop_l (SqL.of h2)) (yld_l (SqL.of h2)) (fun j v A B _ h => h) ?_ ?_⟩
      · intro j x H2 R hj hx s2 k
        obtain ⟨b2, bd, rfl, q1, q2⟩ := h3.get hx
        have hm : bd ∈ ls := List.mem_of_getElem? q1
        have m1 := nIBs_mem hm
        have m2 := dBs_mem hm
        simp only [nI] at c8
        simp only [dI] at c7
        exact ⟨rfl, _, rfl, _, rfl, b2, L, ns, f, bd, rfl, q2.keep (Kp.of s2), (hL.same sm).same s2, okBs_all.mp k4 bd hm, by omega, by omega, fun H3 s3 => k _ H3 s3 ⟨bd, q1, rfl⟩⟩
      · intro H2 ys s2 hy hyl hg
        have e := ext_map (ys := ys) (l := ls) (f := fun b => V.int (costB f b)) (by omega) hg
        refine ⟨D, ls.map (costB f), rfl, SqL.of (by rw [hy, e, List.map_map]; rfl), by rw [List.length_map]; omega, fun m hm hle => ?_⟩
        have em := minL_unique hm hle
        refine ⟨_, _, rfl, rfl, some (.ref t), v4, ?_, sm.trans s2⟩
        rw [ec, em]
        simp only [cost, costBs_map]
        rfl
  · rintro σ H1 ⟨v3, v4, rfl, sm⟩
    refine ⟨_, rfl, ?_⟩
    have := q H1 sm
    rw [List.take_of_length_le (by omega)]
    exact this
theorem okLCost (T : Txt K mg) : ∀ n : Nat, FnOk P w K mg base CX0 (n + 1) T.aLCost T.fLCost ["body", "least"] (spLCost n)
  | 0 => fn_never fun vs H Q E h => by
    obtain ⟨b, L, ns, f, l, _, _, _, _, _, h0, _⟩ := h
    have := dB_pos l
    omega
  | n + 1 => okLCost1 T n (okLCost T n)
end K05


set_option Elab.async false
set_option linter.all false
set_option maxRecDepth 100000
set_option maxHeartbeats 4000000
namespace K05
open PySem PySem.Spec PyProof.Rows L2 FA
variable {P : Program} {w : World} {K : PySem.W.Frag} {mg : Str → Option Value} {base : Heap}
/-! ### the menus of names -/
def m0 : List Str := ["a", "b", "c", "d", "e"]
def m1 : List Str := ["zz", "mains", "bcdefghi", "n", "ma"]
def m2 : List Str := [("main" : Str) ++ FA.exes 1, ("main" : Str) ++ FA.exes 2, ("main" : Str) ++ FA.exes 3, ("main" : Str) ++ FA.exes 4]
def m3 : List Str := ["loop", "maybe", "one", "call", "return"]
def m4 : List Str := ["jkl", "vwy", "pqrstuv", "ox", "sample"]
def menus : List (List Str) := [m0, m1, m2, m3, m4]
theorem menus_ok : ∀ ns ∈ menus, ((∀ x ∈ ns, 1 ≤ x.cps.size ∧ x.cps.size ≤ 8 ∧ ∀ c ∈ x.cps.toList, 97 ≤ c ∧ c ≤ 122) ∧ ns.Nodup ∧ ("main" : Str) ∉ ns ∧ ns.length ≤ 5) := by decide +kernel
def Menu (H : Hp) (v : V) (ns : List Str) : Prop := (v = .str "abcde" ∧ ns = m0) ∨ ∃ m, v = .ref m ∧ H m = some (.lst (ns.map V.str))
theorem Menu.same {H H' : Hp} {v : V} {ns : List Str} (s : Same H H') (h : Menu H v ns) : Menu H' v ns := by
  rcases h with h | ⟨m, h1, h2⟩
  · exact .inl h
  · exact .inr ⟨m, h1, s _ _ h2⟩
theorem abcde_split : (("abcde" : Str).cps.toList.map fun c => V.str ⟨#[c]⟩) = m0.map V.str := by
  have : (("abcde" : Str).cps.toList.map fun c => (⟨#[c]⟩ : Str)) = m0 := by decide +kernel
  rw [← this, List.map_map]
  rfl
theorem menu_list {H : Hp} {v : V} {ns : List Str} {Q : VK} (h : Menu H v ns) (q : ∀ l, H l = none → Q (.ref l) (upd H l (.lst (ns.map V.str)))) :
    (∃ p ys, [v] = [V.ref p] ∧ (SqL K H p ys ∨ SqT K H p ys) ∧ ∀ l, H l = none → Q (.ref l) (upd H l (.lst ys))) ∨
    (∃ z : Str, [v] = [V.str z] ∧ z.cps.size ≤ sizeLine ∧ ∀ l, H l = none → Q (.ref l) (upd H l (.lst (z.cps.toList.map fun c => V.str ⟨#[c]⟩)))) := by
  rcases h with ⟨rfl, rfl⟩ | ⟨m, rfl, hm⟩
  · refine .inr ⟨_, rfl, Nat.le_of_lt (small1000 (by decide +kernel)), fun l hl => ?_⟩
    rw [abcde_split]
    exact q l hl
  · exact .inl ⟨m, _, rfl, .inl (SqL.of hm), q⟩
/-! ### the order of the names: main, then some of a menu -/
structure Ord (ord : List Str) : Prop where
  nm : ∀ x ∈ ord, FA.okName x
  nd : ord.Nodup
  main : ("main" : Str) ∈ ord
  len : ord.length ≤ 6
theorem main_ok : FA.okName "main" := ⟨by decide +kernel, by decide +kernel, by decide +kernel⟩
theorem strs_perm : ∀ {ys : List V} {ns : List Str}, ys.Perm (ns.map V.str) → ∃ zs : List Str, ys = zs.map V.str ∧ zs.Perm ns := by
  intro ys ns h
  have key : ∀ {a b : List V}, a.Perm b → (∀ v ∈ b, ∃ z, v = V.str z) → (∀ v ∈ a, ∃ z, v = V.str z) := fun p hb v hv => hb v (p.mem_iff.mp hv)
  have h1 := key h (fun v hv => by obtain ⟨z, _, e⟩ := List.mem_map.mp hv; exact ⟨z, e.symm⟩)
  have ex : ∀ l : List V, (∀ v ∈ l, ∃ z, v = V.str z) → ∃ zs : List Str, l = zs.map V.str := by
    intro l
    induction l with
    | nil => exact fun _ => ⟨[], rfl⟩
    | cons v r ih =>
      intro hv
      obtain ⟨z, e⟩ := hv v (by simp)
      obtain ⟨zs, e2⟩ := ih fun u hu => hv u (List.mem_cons_of_mem _ hu)
      exact ⟨z :: zs, by rw [e, e2]; rfl⟩
  obtain ⟨zs, e⟩ := ex ys h1
  subst e
  refine ⟨zs, rfl, ?_⟩
  have inj : ∀ a b : Str, V.str a = V.str b → a = b := fun a b e => V.str.inj e
  let un : V → Str := fun v => match v with | .str z => z | _ => "main"
  have q := h.map un
  rw [List.map_map, List.map_map] at q
  have i1 : (un ∘ V.str) = id := rfl
  rw [i1, List.map_id, List.map_id] at q
  exact q
theorem ord_of {ns zs : List Str} {k : Nat} (h : ns ∈ menus) (p : zs.Perm ns) : Ord ("main" :: zs.take k) := by
  obtain ⟨h1, h2, h3, h4⟩ := menus_ok ns h
  have nd := p.symm.nodup h2
  have sub : ∀ x ∈ zs.take k, x ∈ ns := fun x hx => p.mem_iff.mp (List.mem_of_mem_take hx)
  refine ⟨fun x hx => ?_, ?_, by simp, ?_⟩
  · rcases List.mem_cons.mp hx with rfl | hx
    · exact main_ok
    · exact h1 x (sub x hx)
  · rw [List.nodup_cons]
    exact ⟨fun z => h3 (sub _ z), (List.take_sublist k zs).nodup nd⟩
  · have := p.length_eq
    rw [List.length_cons, List.length_take]; omega
/-! ### the least numbers, name by name -/
def put (f : Str → Int) (x : Str) (c : Int) : Str → Int := fun y => if y = x then c else f y
inductive Led : Pr → (Str → Int) → Prop
  | nil : Led [] (fun _ => 99)
  | snoc {p : Pr} {f : Str → Int} {x : Str} {l : Bd} : Led p f → x ∉ pNames p → costB f l ≤ 11 → Led (p ++ [(x, l)]) (put f x (1 + costB f l))
theorem pNames_app (p q : Pr) : pNames (p ++ q) = pNames p ++ pNames q := by unfold pNames; rw [List.map_append]
theorem Led.out {p : Pr} {f : Str → Int} (h : Led p f) : ∀ x, x ∉ pNames p → f x = 99 := by
  induction h with
  | nil => exact fun _ _ => rfl
  | @snoc p f x l _ _ _ ih =>
    intro y hy
    rw [pNames_app, List.mem_append, not_or] at hy
    unfold put
    rw [if_neg (fun e => hy.2 (by rw [e]; exact List.mem_singleton_self _))]
    exact ih y hy.1
theorem Led.le {p : Pr} {f : Str → Int} (h : Led p f) : ∀ x ∈ pNames p, f x ≤ 12 := by
  induction h with
  | nil => exact fun x hx => by cases hx
  | @snoc p f x l _ _ hc ih =>
    intro y hy
    rw [pNames_app, List.mem_append] at hy
    unfold put
    by_cases e : y = x
    · rw [if_pos e]; omega
    · rw [if_neg e]
      rcases hy with hy | hy
      · exact ih y hy
      · exact absurd (List.mem_singleton.mp hy) e
theorem look_nd : ∀ {p : Pr} {x : Str} {l : Bd}, (pNames p).Nodup → (x, l) ∈ p → p.lookup x = some l
  | (y, m) :: p, x, l, nd, h => by
    have nd' : y ∉ pNames p ∧ (pNames p).Nodup := List.nodup_cons.mp nd
    rcases List.mem_cons.mp h with e | h
    · cases e
      simp [List.lookup]
    · have hx : x ∈ pNames p := List.mem_map.mpr ⟨_, h, rfl⟩
      have e : (x == y) = false := beq_eq_false_iff_ne.mpr fun z => nd'.1 (by rw [← z]; exact hx)
      simp only [List.lookup, e]
      exact look_nd nd'.2 h
theorem mem_look : ∀ {p : Pr} {x : Str} {l : Bd}, p.lookup x = some l → (x, l) ∈ p
  | (y, m) :: p, x, l, h => by
    by_cases e : x = y
    · subst e
      simp [List.lookup] at h
      rw [h]; simp
    · have e1 : (x == y) = false := beq_eq_false_iff_ne.mpr e
      simp only [List.lookup, e1] at h
      exact List.mem_cons_of_mem _ (mem_look h)
theorem Led.rnd {p : Pr} {f : Str → Int} (h : Led p f) : ∀ q : Pr, (∀ x l, (x, l) ∈ p → q.lookup x = some l) → ∀ x, rnd 13 q p.length x ≤ f x := by
  induction h with
  | nil => intro q _ x; simp only [List.length_nil, FA.rnd]; decide
  | @snoc p f x l _ hx _ ih =>
    intro q hq y
    have i1 := ih q fun z m hz => hq z m (List.mem_append_left _ hz)
    rw [List.length_append, List.length_singleton]
    unfold put
    by_cases e : y = x
    · rw [if_pos e]
      have hb : bodyOf q x = l := by unfold bodyOf; rw [hq x l (by simp)]; rfl
      have hc := costB_le i1 l
      simp only [FA.rnd, e, hb]
      omega
    · rw [if_neg e]
      exact Int.le_trans (rnd_down q p.length y) (i1 y)
theorem lsKv_put {p : Pr} {f : Str → Int} {x : Str} {l : Bd} {c : Int} (hx : x ∉ pNames p) : putK (lsKv p f) (.inr x) (.int c) = lsKv (p ++ [(x, l)]) (put f x c) := by
  rw [putK_new]
  · unfold lsKv
    rw [List.map_append]
    congr 1
    · refine List.map_congr_left fun q hq => ?_
      have : q.1 ≠ x := fun e => hx (by rw [← e]; exact List.mem_map.mpr ⟨q, hq, rfl⟩)
      unfold put
      rw [if_neg this]
    · simp [put]
  · refine valV_out fun q hq e => ?_
    unfold lsKv at hq
    obtain ⟨r, hr, rfl⟩ := List.mem_map.mp hq
    exact hx (List.mem_map.mpr ⟨r, hr, Sum.inr.inj e⟩)
theorem Led.at {H : Hp} {L : Addr} {p : Pr} {f : Str → Int} (h : Led p f) (hL : H L = some (.dK (lsKv p f))) : LgAt H L f := by
  refine ⟨_, .inl hL, fun x => ?_⟩
  by_cases hx : x ∈ pNames p
  · rw [lsKv_look hx]; rfl
  · rw [valV_out]
    · rw [h.out x hx]; rfl
    · intro q hq e
      unfold lsKv at hq
      obtain ⟨r, hr, rfl⟩ := List.mem_map.mp hq
      exact hx (List.mem_map.mpr ⟨r, hr, Sum.inr.inj e⟩)
/-! ### a body cut -/
theorem okB_take {ns : List Str} {l : Bd} (k : Nat) (h : okB ns l) : okB ns (l.take k) := by
  rw [okB_all] at h ⊢
  exact fun i hi => h i (List.mem_of_mem_take hi)
theorem nCB_take : ∀ (l : Bd) (k : Nat), nCB (l.take k) ≤ nCB l
  | [], k => by simp [nCB]
  | i :: r, 0 => by simp [nCB]
  | i :: r, k + 1 => by have := nCB_take r k; simp only [List.take_succ_cons, nCB]; omega
theorem nIB_take : ∀ (l : Bd) (k : Nat), nIB (l.take k) ≤ nIB l
  | [], k => by simp [nIB]
  | i :: r, 0 => by simp [nIB]
  | i :: r, k + 1 => by have := nIB_take r k; simp only [List.take_succ_cons, nIB]; omega
theorem dB_take : ∀ (l : Bd) (k : Nat), dB (l.take k) ≤ dB l
  | [], k => by simp [dB]
  | i :: r, 0 => by have := dB_pos (i :: r); simp only [List.take_zero, dB] at this ⊢; omega
  | i :: r, k + 1 => by have := dB_take r k; simp only [List.take_succ_cons, dB]; omega
theorem cut_last (xs : List V) : cutV xs none (some (-1)) = xs.take (xs.length - 1) := by
  have e : HT.sIx xs.length xs.length (some (-1)) = xs.length - 1 := by
    show (if (-1 : Int) < 0 then ((-1 : Int) + (xs.length : Int)).toNat else min (-1 : Int).toNat xs.length) = _
    rw [if_pos (by decide)]
    omega
  unfold cutV
  rw [e, HT.sIx_none, List.drop_zero, Nat.sub_zero]
mutual
theorem okI_more {ns ms : List Str} (s : ∀ x ∈ ns, x ∈ ms) : ∀ i : FA.It, okI ns i → okI ms i
  | .call x, h => by simp only [okI] at h ⊢; exact s x h
  | .may b, h => by simp only [okI] at h ⊢; exact ⟨h.1, okB_more s b h.2⟩
  | .loop b, h => by simp only [okI] at h ⊢; exact ⟨h.1, okB_more s b h.2⟩
  | .one bs, h => by simp only [okI] at h ⊢; exact ⟨h.1, h.2.1, h.2.2.1, okBs_more s bs h.2.2.2⟩
theorem okB_more {ns ms : List Str} (s : ∀ x ∈ ns, x ∈ ms) : ∀ b : List FA.It, okB ns b → okB ms b
  | [], _ => by simp [okB]
  | i :: r, h => by simp only [okB] at h ⊢; exact ⟨okI_more s i h.1, okB_more s r h.2⟩
theorem okBs_more {ns ms : List Str} (s : ∀ x ∈ ns, x ∈ ms) : ∀ bs : List (List FA.It), okBs ns bs → okBs ms bs
  | [], _ => by simp [okBs]
  | b :: r, h => by simp only [okBs] at h ⊢; exact ⟨okB_more s b h.1, okBs_more s r h.2⟩
end
/-- a body, as the law asks it -/
structure BOk (ord : List Str) (l : Bd) : Prop where
  ok : okB ord l
  c : nCB l ≤ 5
  i : nIB l ≤ 12
  d : dB l ≤ 4
theorem BOk.take {ord : List Str} {l : Bd} (h : BOk ord l) (k : Nat) : BOk ord (l.take k) := ⟨okB_take k h.ok, by have := nCB_take l k; have := h.c; omega, by have := nIB_take l k; have := h.i; omega, by have := dB_take l k; have := h.d; omega⟩
/-! ### the rows -/
inductive RwAt (H : Hp) : List V → Pr → Prop
  | nil : RwAt H [] []
  | cons {t b : Addr} {x : Str} {l : Bd} {vs : List V} {p : Pr} : H t = some (.tup [.str x, .ref b]) → BdAt H b l → RwAt H vs p → RwAt H (.ref t :: vs) ((x, l) :: p)
theorem RwAt.keep {H H' : Hp} (k : Kp H H') {vs : List V} {p : Pr} (h : RwAt H vs p) : RwAt H' vs p := by
  induction h with
  | nil => exact .nil
  | cons h1 h2 _ ih => exact .cons (k.t _ _ h1) (h2.keep k) ih
theorem RwAt.length {H : Hp} {vs : List V} {p : Pr} (h : RwAt H vs p) : vs.length = p.length := by
  induction h with
  | nil => rfl
  | cons _ _ _ ih => rw [List.length_cons, List.length_cons, ih]
theorem RwAt.snoc {H : Hp} {vs : List V} {p : Pr} {t b : Addr} {x : Str} {l : Bd} (h : RwAt H vs p) (h1 : H t = some (.tup [.str x, .ref b])) (h2 : BdAt H b l) : RwAt H (vs ++ [.ref t]) (p ++ [(x, l)]) := by
  induction h with
  | nil => exact .cons h1 h2 .nil
  | cons g1 g2 _ ih => exact .cons g1 g2 ih
theorem RwAt.perm {H : Hp} {vs ys : List V} (q : vs.Perm ys) : ∀ {p : Pr}, RwAt H vs p → ∃ p', p'.Perm p ∧ RwAt H ys p' := by
  induction q with
  | nil => intro p h; exact ⟨p, List.Perm.refl _, h⟩
  | cons v _ ih =>
    intro p h
    cases h with
    | @cons t b x l vs' p' h1 h2 h3 =>
      obtain ⟨p2, a1, a2⟩ := ih h3
      exact ⟨_, a1.cons _, .cons h1 h2 a2⟩
  | swap v u r =>
    intro p h
    cases h with
    | cons h1 h2 h3 =>
      cases h3 with
      | cons h4 h5 h6 => exact ⟨_, List.Perm.swap _ _ _, .cons h4 h5 (.cons h1 h2 h6)⟩
  | trans a b ih1 ih2 =>
    intro p h
    obtain ⟨p1, b1, b2⟩ := ih1 h
    obtain ⟨p2, c1, c2⟩ := ih2 b2
    exact ⟨p2, c1.trans b1, c2⟩
/-- the rows as dict(..) takes them -/
theorem RwAt.paired {H H' : Hp} (k : Kp H H') {ys : List V} {p : Pr} (h : RwAt H ys p) : ∃ (ps : List Addr) (kvs : List (Key × V)), ys = ps.map V.ref ∧ Paired (fun p kv => SqT K H' p [kV kv.1, kv.2]) ps kvs ∧ PrKv H kvs p := by
  induction h with
  | nil => exact ⟨[], [], rfl, .nil, .nil⟩
  | @cons t b x l vs p h1 h2 _ ih =>
    obtain ⟨ps, kvs, e, q1, q2⟩ := ih
    exact ⟨t :: ps, (.inr x, .ref b) :: kvs, by rw [e]; rfl, .cons (SqT.of (k.t _ _ h1)) q1, .cons h2 q2⟩
theorem mergeK_nd : ∀ (more kvs : List (Key × V)), ((kvs ++ more).map (·.1)).Nodup → mergeK kvs more = kvs ++ more
  | [], kvs, _ => by simp [mergeK]
  | q :: r, kvs, nd => by
    have e : mergeK kvs (q :: r) = mergeK (putK kvs q.1 q.2) r := rfl
    have hv : valV kvs q.1 = none := valV_out fun u hu z => by
      rw [List.map_append, List.nodup_append] at nd
      exact nd.2.2 u.1 (List.mem_map.mpr ⟨u, hu, rfl⟩) q.1 (by simp) z
    rw [e, putK_new _ hv, mergeK_nd r _ (by rw [List.append_assoc]; exact nd), List.append_assoc]
    rfl
/-- what is drawn is a program -/
theorem valid_of {ord : List Str} {p p' : Pr} {f : Str → Int} (ho : Ord ord) (hl : Led p f) (hn : pNames p = ord.reverse) (hb : ∀ x l, (x, l) ∈ p → BOk ord l) (pe : p'.Perm p) : Valid p' := by
  have pn : (pNames p').Perm ord := by
    have := pe.map (·.1)
    unfold pNames at hn ⊢
    rw [hn] at this
    exact this.trans ord.reverse_perm
  have nd : (pNames p').Nodup := pn.symm.nodup ho.nd
  have len : p'.length = ord.length := by have := pn.length_eq; unfold pNames at this; rw [List.length_map] at this; exact this
  have sub : ∀ x ∈ ord, x ∈ pNames p' := fun x hx => pn.mem_iff.mpr hx
  refine ⟨by rw [len]; exact ho.len, sub _ ho.main, fun x hx => ho.nm x (pn.mem_iff.mp hx), nd, fun x l e => ?_, fun x hx => ?_⟩
  · have := hb x l (pe.mem_iff.mp (mem_look e))
    exact ⟨okB_more sub l this.ok, this.c, this.i, this.d⟩
  · have h1 := hl.rnd p' (fun y m hy => look_nd nd (pe.mem_iff.mpr hy)) x
    have h2 := hl.le x (by rw [hn, List.mem_reverse]; exact pn.mem_iff.mp hx)
    rw [← pe.length_eq] at h1
    omega
end K05


set_option Elab.async false
set_option linter.all false
set_option maxRecDepth 100000
set_option maxHeartbeats 4000000
namespace K05
open PySem PySem.Spec PyProof.Rows L2 FA
variable {P : Program} {w : World} {K : PySem.W.Frag} {mg : Str → Option Value} {base : Heap}
def spLProgram : Sp := fun vs H Q _ => ∃ (a : Addr) (n : Nat) (mo : Int), vs = [.ref a, .int mo] ∧ 0 ≤ mo ∧ mo ≤ 5 ∧ WellAt H a n ∧ n + 13000000 ≤ 2 ^ 80 ∧
  ∀ d kvs p H', Sm [a] H H' → WellAt H' a (n + 13000000) → H' d = some (.dK kvs) → PrKv (wo [a] H') kvs p → Valid p → Q (.ref d) H'
theorem Sm.put {W : List Addr} {H H1 : Hp} {L : Addr} {o : HO} (h : H L = none) (s : Sm W H H1) : Sm W H (upd H1 L o) := fun b u n e => by
  rw [upd_ne (ne_of_none e h)]
  exact s b u n e
theorem kp_off {W : List Addr} {H : Hp} : Kp (wo W H) H := ⟨fun x xs e => (wo_some.mp e).2, fun x xs e => (wo_some.mp e).2⟩
theorem cut_to' (xs : List V) (k : Nat) : cutV xs none (some (k : Int)) = xs.take k := by
  unfold cutV
  rw [HT.sIx_none, HT.sIx_nat, List.drop_zero, Nat.sub_zero]
  by_cases h : k ≤ xs.length
  · rw [Nat.min_eq_left h]
  · rw [Nat.min_eq_right (by omega), List.take_of_length_le (Nat.le_refl _), List.take_of_length_le (by omega)]
theorem okLProgram (T : Txt K mg) : FnOk P w K mg base CX0 10 T.aLProgram T.fLProgram ["well", "most"] spLProgram := by
  have GLPull : FnOk P w K mg base CX0 1 T.aLPull T.fLPull ["well", "many"] spPull := okPull T
  have GLShuffled : FnOk P w K mg base CX0 2 T.aLShuffled T.fLShuffled ["well", "items"] (spShuffled (K := K)) := okShuffled T
  have GLBody : FnOk P w K mg base CX0 9 T.aLBody T.fLBody ["well", "later", "every", "room", "deep"] (spLBody 4) := okGen T 4
  have GLCost : FnOk P w K mg base CX0 5 T.aLCost T.fLCost ["body", "least"] (spLCost 4) := okLCost T 4
  refine T.FLProgram.ok scLProgram (fun vs H Q E h => ?_) (fun cdv A outer s H vs Q E hr h => ?_)
  · obtain ⟨a, n, mo, rfl, _⟩ := h
    rfl
  obtain ⟨a, n, mo, rfl, hmo0, hmo5, hw, hn, q⟩ := h
  have hu := hu_of hr
  obtain ⟨ow, how⟩ := hw.some
  refine split_at 4 (fun D σ H' => D.rt = Q ∧ ∃ v2 v3 v4 v8 ea L rw ord m, σ = [some (.ref a), some (.int mo), v2, v3, v4, some (.ref ea), some (.ref L), some (.ref rw), v8] ∧ Sm [a] H H' ∧ WellAt H' a m ∧ m ≤ n + 7 ∧ Ord ord ∧
    H' ea = some (.lst (ord.map V.str)) ∧ H' L = some (.dK []) ∧ H' rw = some (.lst []) ∧ H ea = none ∧ H L = none ∧ H rw = none ∧ rw ≠ ea) ?_ ?_
  · skip
    refine ⟨_, (pss_cons (ps_for PassesOwn.never rfl (pi_range3 (by rfl) T.n_range (pa_cons (pe_op op_sub (pe_callB call_len_seq (by rfl) T.n_len PySem.boot_len (pa_cons (pv 5) pa_nil)) pe_int) (pa_cons (pe_un un_neg pe_int) (pa_cons (pe_un un_neg pe_int) pa_nil)))) (pg_name (i := 4) scLProgram.nd rfl (by first | exact Or.inl rfl | exact Or.inr rfl))
        (pss_cons (ps_set (i := 8) scLProgram.nd rfl (by first | exact Or.inl rfl | exact Or.inr rfl) (pe_call GLBody (hr.mono (by omega)) rfl T.gLBody T.FLBody.kp T.bLBody .nil pass0 (pa_cons (pv 0) (pa_cons (pe_slice sl_list (pv 5) (po_some (pe_op op_add (pv 4) pe_int)) po_none) (pa_cons (pv 5) (pa_cons (pe_lst (pa_cons (pe_op op_add pe_int (pe_call GLPull (hr.mono (by omega)) rfl T.gLPull T.FLPull.kp T.bLPull .nil pass0 (pa_cons (pv 0) (pa_cons pe_int pa_nil)))) (pa_cons pe_int pa_nil))) (pa_cons pe_int pa_nil)))))))
        (pss_cons (ps_while PassesOwn.never (pt_cmpR op_gt (pe_call GLCost (hr.mono (by omega)) rfl T.gLCost T.FLCost.kp T.bLCost .nil pass0 (pa_cons (pv 8) (pa_cons (pv 6) pa_nil))) pe_int (nomark _))
          (pss_one (ps_set (i := 8) scLProgram.nd rfl (by first | exact Or.inl rfl | exact Or.inr rfl) (pe_slice sl_list (pv 8) po_none (po_some (pe_un un_neg pe_int))))))
        (pss_cons (ps_dput hu (pv 6) (pe_ix ix_list (pv 5) (pv 4) (fun _ _ => rfl)) (pe_op op_add pe_int (pe_call GLCost (hr.mono (by omega)) rfl T.gLCost T.FLCost.kp T.bLCost .nil pass0 (pa_cons (pv 8) (pa_cons (pv 6) pa_nil)))) rfl)
        (pss_one (ps_expr (pe_bm PySem.F.plainAttrs_list PySem.F.slot_list_append PySem.F.type_list_append mt_append (pv 7) (pa_cons (pe_tup (pa_cons (pe_ix ix_list (pv 5) (pv 4) (fun _ _ => rfl)) (pa_cons (pv 8) pa_nil))) pa_nil))))))))
      (pss_one (ps_ret (pe_callTy (call_dictP rfl) (by rfl) T.n_dict (by decide +kernel) (pa_cons (pe_call GLShuffled (hr.mono (by omega)) rfl T.gLShuffled T.FLShuffled.kp T.bLShuffled .nil pass0 (pa_cons (pv 0) (pa_cons (pv 7) pa_nil))) pa_nil))))), ?_⟩
    rintro D σ H1 ⟨hD, v2, v3, v4, v8, ea, L, rw, ord, m, rfl, sm1, hw1, hm, ho, he1, hL1, hr1, nea, nL, nrw, hre⟩
    obtain ⟨nx, rt, bk, ct⟩ := D
    cases hD
    have hlen := ho.len
    have hpos : 0 < ord.length := List.length_pos_of_mem ho.main
    have hea : ea ≠ a := (ne_of_none how nea).symm
    have hLa : L ≠ a := (ne_of_none how nL).symm
    have hra : rw ≠ a := (ne_of_none how nrw).symm
    have hLe : L ≠ ea := fun z => by rw [z, he1] at hL1; cases hL1
    have hLr : L ≠ rw := fun z => by rw [z, hr1] at hL1; cases hL1
    have hrg : RgC (((ord.map V.str).length : Nat) - 1 : Int) (-1) (-1) ord.length := by
      have h := RgC.neg (i := (((ord.map V.str).length : Nat) - 1 : Int)) (j := -1) (by rw [List.length_map]; omega) (by rw [List.length_map]; omega) (by decide) (by decide)
      have e : ((((ord.map V.str).length : Nat) - 1 : Int) - (-1)).toNat = ord.length := by rw [List.length_map]; omega
      rw [e] at h
      exact h
    refine ⟨_, rfl, _, _, rfl, .inl (SqL.of he1), _, _, rfl, rfl, _, rfl, _, rfl, _, _, _, ord.length, rfl, hrg, ?_⟩
    refine for_rangeC (lo := ((ord.map V.str).length : Nat) - 1) (c := -1) (n := ord.length) (fun i σ H' => ∃ v4 v8 dn f vs, σ = [some (.ref a), some (.int mo), v2, v3, v4, some (.ref ea), some (.ref L), some (.ref rw), v8] ∧ Sm [a] H H' ∧ WellAt H' a (m + i * 2000001) ∧
      H' ea = some (.lst (ord.map V.str)) ∧ H' L = some (.dK (lsKv dn f)) ∧ H' rw = some (.lst vs) ∧ vs.length = i ∧ RwAt (wo [a, rw] H') vs dn ∧ Led dn f ∧ pNames dn = (ord.drop (ord.length - i)).reverse ∧ ∀ x l, (x, l) ∈ dn → BOk ord l) ?_ ?_ ?_
    · refine ⟨v4, v8, [], _, [], rfl, sm1, hw1.mono (by omega), he1, hL1, hr1, rfl, .nil, .nil, ?_, fun x l h => by cases h⟩
      rw [Nat.sub_zero, List.drop_length]
      rfl
    · rintro i σ H2 hi ⟨v4, v8, dn, f, vs, rfl, sm2, hw2, he2, hL2, hr2, hvl, rws2, led, hpn, hbok⟩
      obtain ⟨sp, hsp⟩ : ∃ sp : Nat, sp = ord.length - 1 - i := ⟨_, rfl⟩
      have es : (((ord.map V.str).length : Nat) - 1 : Int) + (i : Nat) * (-1) = ((sp : Nat) : Int) := by rw [List.length_map]; omega
      have hlt : sp < ord.length := by omega
      obtain ⟨x, hx⟩ : ∃ x, ord[sp]? = some x := ⟨_, List.getElem?_eq_getElem hlt⟩
      rw [es]
      refine ⟨_, rfl, _, rfl, _, rfl, _, _, rfl, rfl, _, rfl, _, _, rfl, SqL.of he2, fun p hp => ?_⟩
      have ecut : cutV (ord.map V.str) (some (((sp : Nat) : Int) + 1)) none = ((ord.drop (sp + 1)).map V.str) := by
        rw [show ((sp : Nat) : Int) + 1 = ((sp + 1 : Nat) : Int) from by omega, cut_from (by rw [List.length_map]; omega), List.map_drop]
      rw [ecut]
      have s3 := same_upd hp (.lst ((ord.drop (sp + 1)).map V.str))
      have hp3 : (upd H2 p (.lst ((ord.drop (sp + 1)).map V.str))) p = some (.lst ((ord.drop (sp + 1)).map V.str)) := upd_same
      generalize upd H2 p (.lst ((ord.drop (sp + 1)).map V.str)) = H3 at s3 hp3 ⊢
      have hw3 : WellAt H3 a (m + i * 2000001) := hw2.keep fun o e => s3 _ _ e
      refine ⟨_, rfl, _, rfl, a, 5, m + i * 2000001, rfl, by decide, by decide, hw3, by omega, fun r0 H4 r0a r0b sm4 hw4 => ?_⟩
      refine ⟨_, _, rfl, rfl, Nat.le_of_lt (small1000 (by simp)), fun rm hrm => ?_⟩
      obtain ⟨ow2, how2⟩ := hw2.some
      have hpa : p ≠ a := (ne_of_none how2 hp).symm
      have s5 := same_upd hrm (.lst [V.int (1 + r0), V.int 12])
      have hr5 : (upd H4 rm (.lst [V.int (1 + r0), V.int 12])) rm = some (.lst [V.int (1 + r0), V.int 12]) := upd_same
      have sm24 : Sm [a] H2 H4 := (Sm.of_same s3).trans sm4
      have hp4 : H4 p = some (.lst ((ord.drop (sp + 1)).map V.str)) := sm4 _ _ (by simp [hpa]) hp3
      have he4 : H4 ea = some (.lst (ord.map V.str)) := sm24 _ _ (by simp [hea]) he2
      have hL4 : H4 L = some (.dK (lsKv dn f)) := sm24 _ _ (by simp [hLa]) hL2
      have hr4 : H4 rw = some (.lst vs) := sm24 _ _ (by simp [hra]) hr2
      have rm2 : H2 rm = none := none_back sm24 (fun y hy => by simp at hy; rw [hy]; exact hw4.some) hrm
      have gv : Given (upd H4 rm (.lst [V.int (1 + r0), V.int 12])) a p ea rm (m + i * 2000001 + 1) (ord.drop (sp + 1)) ord (1 + r0) 12 :=
        ⟨hw4.keep fun o e => s5 _ _ e, by omega, s5 _ _ hp4, s5 _ _ he4, hr5, fun y hy => List.mem_of_mem_drop hy, ho.nm, ho.len, by rw [List.length_drop]; omega⟩
      have he5 := s5 _ _ he4
      have hL5 := s5 _ _ hL4
      have hr5' := s5 _ _ hr4
      have rme : rm ≠ ea := (ne_of_none he4 hrm).symm
      have rmL : rm ≠ L := (ne_of_none hL4 hrm).symm
      have rmr : rm ≠ rw := (ne_of_none hr4 hrm).symm
      have sm25 : Sm [a] H2 (upd H4 rm (.lst [V.int (1 + r0), V.int 12])) := sm24.trans (Sm.of_same s5)
      generalize upd H4 rm (.lst [V.int (1 + r0), V.int 12]) = H5 at gv he5 hL5 hr5' sm25 ⊢
      have cb : cB 4 = 2000000 := rfl
      refine ⟨a, p, ea, rm, m + i * 2000001 + 1, ord.drop (sp + 1), ord, 1 + r0, 12, rfl, by decide, by decide, gv, by omega, by omega, by decide, fun b l c' i' H6 sm6 hw6 hr6 hc' hi' hi2 bd ok nc ni em db => ?_⟩
      rw [cb] at hw6
      have sm26 : Sm [a] H2 H6 := Sm.drop sm25 rm2 (sm6.more (by simp))
      have he6 : H6 ea = some (.lst (ord.map V.str)) := sm26 _ _ (by simp [hea]) he2
      have hL6 : H6 L = some (.dK (lsKv dn f)) := sm26 _ _ (by simp [hLa]) hL2
      have hr6' : H6 rw = some (.lst vs) := sm26 _ _ (by simp [hra]) hr2
      have rws6 : RwAt (wo [a, rw] H6) vs dn := rws2.keep (Kp.of (sm26.more (W' := [a, rw]) (by simp)).same)
      have kp6 : Kp (fr H5 H6) (wo [a, rw] H6) := by
        have key : ∀ y o, fr H5 H6 y = some o → wo [a, rw] H6 y = some o := fun y o e => by
          rw [fr_some] at e
          rw [wo_some]
          refine ⟨?_, e.2⟩
          simp only [List.mem_cons, List.not_mem_nil, or_false, not_or]
          refine ⟨?_, ?_⟩
          · rintro rfl
            obtain ⟨u, hu⟩ := gv.w.some
            rw [hu] at e; cases e.1
          · rintro rfl
            rw [hr5'] at e; cases e.1
        exact ⟨fun y xs e => key _ _ e, fun y xs e => key _ _ e⟩
      have bd6 : BdAt (wo [a, rw] H6) b l := bd.keep kp6
      have bok : BOk ord l := ⟨ok, by omega, by omega, db⟩
      have sm06 : Sm [a] H H6 := sm2.trans sm26
      clear sm6 hr6 bd kp6 ok nc ni em db hc' hi' hi2
      have hxn : x ∉ pNames dn := by
        rw [hpn, List.mem_reverse]
        intro z
        obtain ⟨j, hj, ej⟩ := List.mem_drop_iff_getElem.mp z
        have h1 := List.nodup_iff_pairwise_ne.mp ho.nd
        have ex : ord[sp] = x := by rw [List.getElem?_eq_getElem hlt] at hx; exact Option.some.inj hx
        have h2 := List.pairwise_iff_getElem.mp h1 sp (ord.length - i + j) hlt (by omega) (by omega)
        exact h2 (by rw [ex, ← ej])
      refine ⟨fun k σ' H' => ∃ b l, σ' = [some (.ref a), some (.int mo), v2, v3, some (.int (sp : Nat)), some (.ref ea), some (.ref L), some (.ref rw), some (.ref b)] ∧ k = l.length ∧ BdAt (wo [a, rw] H') b l ∧ BOk ord l ∧ Same H6 H', ⟨_, b, l, rfl, rfl, bd6, bok, Same.refl _⟩, ?_⟩
      clear bd6 bok b l
      rintro k σ' H7 ⟨b, l, rfl, rfl, bd7, bok, s7⟩
      have hL7 := s7 _ _ hL6
      refine ⟨_, rfl, _, rfl, b, L, ord, f, l, rfl, bd7.keep kp_off, led.at hL7, bok.ok, bok.i, bok.d, fun H8 s8 => ?_⟩
      refine ⟨_, _, rfl, rfl, _, rfl, ite2 (fun c => ?_) (fun c => ?_)⟩
      · have c := of_decide_eq_true c
        obtain ⟨ws, hb7, its7⟩ := bd7
        have hl7 := its7.length
        have hb8 : H8 b = some (.lst ws) := s8 _ _ (wo_some.mp hb7).2
        refine ⟨_, fun σ' H' h => h, ?_⟩
        refine ⟨_, rfl, _, rfl, _, rfl, _, _, rfl, SqL.of hb8, fun p2 hp2 => ?_⟩
        have hne : l ≠ [] := fun e => by
          rw [e] at c
          simp [costB] at c
        have s9 := same_upd hp2 (.lst (cutV ws none (some (-1))))
        have key : Kp (wo [a, rw] H7) (wo [a, rw] (upd H8 p2 (.lst (cutV ws none (some (-1)))))) := Kp.of (Sm.of_same (W := [a, rw]) (s8.trans s9)).same
        have hp2n : p2 ∉ [a, rw] := fun z => by
          simp only [List.mem_cons, List.not_mem_nil, or_false] at z
          rcases z with rfl | rfl
          · obtain ⟨u, hu⟩ := hw6.some
            have := s8 _ _ (s7 _ _ hu)
            rw [hp2] at this; cases this
          · have := s8 _ _ (s7 _ _ hr6')
            rw [hp2] at this; cases this
        refine ⟨(l.take (l.length - 1)).length, ?_, p2, _, rfl, rfl, ⟨ws.take (ws.length - 1), wo_some.mpr ⟨hp2n, ?_⟩, ?_⟩, bok.take _, (s7.trans s8).trans s9⟩
        · have := List.length_pos_iff.mpr hne
          rw [List.length_take]; omega
        · rw [upd_same, cut_last]
        · rw [← hl7]
          exact (its7.keep key).take _
      · have c : ¬ costB f l > 11 := fun z => c (decide_eq_true z)
        have s68 := s7.trans s8
        refine ⟨_, rfl, _, rfl, b, L, ord, f, l, rfl, (bd7.keep kp_off).keep (Kp.of s8), led.at (s8 _ _ hL7), bok.ok, bok.i, bok.d, fun H9 s9 => ?_⟩
        have s69 := s68.trans s9
        have he9 := s69 _ _ he6
        have hL9 := s69 _ _ hL6
        have hr9 := s69 _ _ hr6'
        have sm09 := sm06.trans (Sm.of_same s69)
        have hw9 : WellAt H9 a (m + i * 2000001 + 1 + 2000000) := hw6.keep fun o e => s69 _ _ e
        have rws9 := rws6.keep (Kp.of (Sm.of_same (W := [a, rw]) s69).same)
        have bd9 := bd7.keep (Kp.of (Sm.of_same (W := [a, rw]) (s8.trans s9)).same)
        have hdl : dn.length = i := by have := rws6.length; omega
        have atx : (ord.map V.str)[sp]? = some (.str x) := by rw [List.getElem?_map, hx]; rfl
        refine ⟨_, _, rfl, rfl, _, rfl, _, rfl, _, rfl, _, _, _, _, rfl, rfl, SqL.of he9, atI_nat (j := sp) atx, L, _, rfl, DPut.k (k := .inr x) hL9 (small1000 (by unfold lsKv; rw [List.length_map]; omega)), ?_⟩
        rw [lsKv_put hxn]
        have nL9 : ∀ y o, H9 y = some o → y ≠ L → upd H9 L (.dK (lsKv (dn ++ [(x, l)]) (put f x (1 + costB f l)))) y = some o := fun y o e n => by rw [upd_ne n]; exact e
        have hL10 : (upd H9 L (.dK (lsKv (dn ++ [(x, l)]) (put f x (1 + costB f l))))) L = some (.dK (lsKv (dn ++ [(x, l)]) (put f x (1 + costB f l)))) := upd_same
        have sm10 := Sm.put (o := .dK (lsKv (dn ++ [(x, l)]) (put f x (1 + costB f l)))) nL sm09
        generalize upd H9 L (.dK (lsKv (dn ++ [(x, l)]) (put f x (1 + costB f l)))) = H10 at nL9 hL10 sm10 ⊢
        have hr10 := nL9 _ _ hr9 hLr.symm
        have he10 := nL9 _ _ he9 hLe.symm
        refine ⟨_, rfl, .inl ⟨rfl, _, SqL.of hr10⟩, _, rfl, _, rfl, _, _, _, _, rfl, rfl, SqL.of he10, atI_nat (j := sp) atx, _, rfl, Nat.le_of_lt (small1000 (by simp)), fun t ht => ?_⟩
        have s11 := same_upd ht (.tup [V.str x, V.ref b])
        have ht11 : (upd H10 t (.tup [V.str x, V.ref b])) t = some (.tup [V.str x, V.ref b]) := upd_same
        have tr : t ≠ rw := (ne_of_none hr10 ht).symm
        have ta : t ≠ a := by
          rintro rfl
          obtain ⟨u, hu⟩ := hw9.some
          rw [nL9 _ _ hu hLa.symm] at ht
          cases ht
        generalize upd H10 t (.tup [V.str x, V.ref b]) = H11 at s11 ht11 ⊢
        have hr11 := s11 _ _ hr10
        refine ⟨rw, vs, .ref t, rfl, rfl, hr11, small1000 (by omega), ?_⟩
        have off : ∀ y o, y ≠ L → wo [a, rw] H9 y = some o → wo [a, rw] (upd H11 rw (.lst (vs ++ [.ref t]))) y = some o := fun y o n e => by
          rw [wo_some] at e ⊢
          refine ⟨e.1, ?_⟩
          rw [upd_ne (fun z => e.1 (by simp [z]))]
          exact s11 _ _ (nL9 _ _ e.2 n)
        have kp : Kp (wo [a, rw] H9) (wo [a, rw] (upd H11 rw (.lst (vs ++ [.ref t])))) :=
          ⟨fun y xs e => off y _ (by rintro rfl; rw [wo_some, hL9] at e; cases e.2) e, fun y xs e => off y _ (by rintro rfl; rw [wo_some, hL9] at e; cases e.2) e⟩
        refine ⟨_, _, dn ++ [(x, l)], _, vs ++ [.ref t], rfl, Sm.put nrw (sm10.trans (Sm.of_same s11)), ?_, ?_, ?_, upd_same, by simp [hvl], (rws9.keep kp).snoc (b := b) (wo_some.mpr ⟨by simp [tr, ta], ?_⟩) (bd9.keep kp), .snoc led hxn (by omega), ?_, ?_⟩
        · refine (hw9.keep fun o e => ?_).mono (by omega)
          rw [upd_ne hra.symm]
          exact s11 _ _ (nL9 _ _ e hLa.symm)
        · rw [upd_ne hre.symm]
          exact s11 _ _ he10
        · rw [upd_ne hLr]
          exact s11 _ _ hL10
        · rw [upd_ne tr]
          exact ht11
        · rw [pNames_app, hpn]
          have e1 : ord.length - i = sp + 1 := by omega
          have e2 : ord.length - (i + 1) = sp := by omega
          have ex : ord[sp] = x := by rw [List.getElem?_eq_getElem hlt] at hx; exact Option.some.inj hx
          rw [e1, e2, List.drop_eq_getElem_cons hlt, List.reverse_cons, ex]
          rfl
        · intro y m' hm'
          rcases List.mem_append.mp hm' with z | z
          · exact hbok y m' z
          · cases List.mem_singleton.mp z
            exact bok
    · rintro σ H2 ⟨v4, v8, dn, f, vs, rfl, sm2, hw2, he2, hL2, hr2, hvl, rws2, led, hpn, hbok⟩
      refine ⟨_, rfl, _, rfl, a, rw, m + ord.length * 2000001, vs, rfl, hw2, by omega, SqL.of hr2, by omega, fun r ys H3 sm3 hrn hr3 pe hw3 => ?_⟩
      obtain ⟨p', pp, rws3⟩ := rws2.perm pe.symm
      have sm23 : Sm [a, rw] H2 H3 := sm3.more (by simp)
      have rws4 := rws3.keep (Kp.of sm23.same)
      obtain ⟨ps, kvs, e, pd, pk⟩ := rws4.paired (K := K) (H' := H3) kp_off
      subst e
      refine ⟨r, ps, kvs, rfl, SqL.of hr3, pd, fun d hd => ?_⟩
      have va := valid_of ho led (by rw [hpn, Nat.sub_self, List.drop_zero]) hbok pp
      rw [mergeK_nd kvs [] (keys_nd pk va.nd), List.nil_append]
      have s4 := same_upd hd (.dK kvs)
      refine q d kvs p' _ ((sm2.trans sm3).trans (Sm.of_same s4)) ((hw3.keep fun o e => s4 _ _ e).mono (by omega)) upd_same (pk.keep ?_) va
      have key : ∀ y o, wo [a, rw] H3 y = some o → wo [a] (upd H3 d (.dK kvs)) y = some o := fun y o e => by
        rw [wo_some] at e ⊢
        exact ⟨fun z => e.1 (by simp at z; simp [z]), s4 _ _ e.2⟩
      exact ⟨fun y xs e => key _ _ e, fun y xs e => key _ _ e⟩
  · intro u1 hu1 ru1
    refine split_at 3 (fun D σ H' => D.rt = Q ∧ ∃ (v2 : Option V) (o : Addr) (zs : List Str) (k : Nat) (ns : List Str) (m : Nat), σ = [some (.ref a), some (.int mo), v2, some (.ref o), none, none, none, none, none] ∧ Sm [a] H H' ∧ WellAt H' a m ∧ m ≤ n + 7 ∧ H' o = some (.lst ((zs.take k).map V.str)) ∧ ns ∈ menus ∧ zs.Perm ns) ?_ ?_
    · skip
      refine ⟨_, (pss_cons (ps_par3 (i := 5) (j := 6) (l := 7) rfl scLProgram.nd rfl rfl rfl (by decide) (by decide) (by decide) rfl rfl rfl (pa_cons (pe_op op_cat (pe_lst (pa_cons pe_str pa_nil)) (pv 3)) (pa_cons pe_dnewK (pa_cons (pe_lst pa_nil) pa_nil))) (by rfl))
      hu1), ?_⟩
      rintro D σ H1 ⟨hD, v2, o, zs, k, ns, m, rfl, sm1, hw1, hm, ho1, hns, pz⟩
      have hol := ord_of (k := k) hns pz
      have hzl := hol.len
      rw [List.length_cons] at hzl
      refine ⟨Nat.le_of_lt (small1000 (by simp)), fun p hp => ?_⟩
      have s2 := same_upd hp (.lst [V.str "main"])
      refine ⟨_, rfl, p, o, _, _, rfl, rfl, upd_same, s2 _ _ ho1, Nat.le_of_lt (small1000 (by rw [List.length_map, List.length_singleton]; omega)), fun p2 hp2 => ?_⟩
      have hp2u : (upd (upd H1 p (.lst [V.str "main"])) p2 (.lst ([V.str "main"] ++ (zs.take k).map V.str))) p2 = some (.lst (((("main" : Str) :: zs.take k)).map V.str)) := upd_same
      have s3 := s2.trans (same_upd hp2 (.lst ([V.str "main"] ++ (zs.take k).map V.str)))
      have hp2o : H1 p2 = none := none_back (W := []) (Sm.of_same s2) (fun _ z => by cases z) hp2
      generalize upd (upd H1 p (.lst [V.str "main"])) p2 (.lst ([V.str "main"] ++ (zs.take k).map V.str)) = H3 at hp2u s3 ⊢
      intro p3 hp3
      have s4 := same_upd hp3 (.dK [])
      have hp3u : (upd H3 p3 (.dK [])) p3 = some (.dK []) := upd_same
      generalize upd H3 p3 (.dK []) = H4 at s4 hp3u ⊢
      refine ⟨Nat.zero_le _, fun p4 hp4 => ?_⟩
      have s5 := same_upd hp4 (.lst [])
      have s15 := (s3.trans s4).trans s5
      have hp3o : H1 p3 = none := none_back (W := []) (Sm.of_same s3) (fun _ z => by cases z) hp3
      have hp4o : H1 p4 = none := none_back (W := []) (Sm.of_same (s3.trans s4)) (fun _ z => by cases z) hp4
      have back : ∀ x, H1 x = none → H x = none := fun x hx => none_back sm1 (fun y hy => by simp at hy; rw [hy]; exact hw1.some) hx
      refine ⟨_, _, _, rfl, ru1 _ _ _ ⟨hD, _, _, _, _, p2, p3, p4, (("main" : Str) :: zs.take k), m, rfl, sm1.trans (Sm.of_same s15), hw1.keep fun o e => s15 _ _ e, hm, hol, s5 _ _ (s4 _ _ hp2u), s5 _ _ hp3u, upd_same, back _ hp2o, back _ hp3o, back _ hp4o, ?_⟩⟩
      rintro rfl
      rw [s4 _ _ hp2u] at hp4
      cases hp4
    · intro u3 hu3 ru3
      refine split_at 2 (fun D σ H' => D.rt = Q ∧ ∃ s vs, σ = [some (.ref a), some (.int mo), some (.ref s), none, none, none, none, none, none] ∧ Same H H' ∧ H' s = some (.lst vs) ∧ vs.length = 5 ∧ ∀ (j : Nat) v, vs[j]? = some v → ∃ ns ∈ menus, Menu H' v ns) ?_ ?_
      · skip
        refine ⟨_, (pss_cons (ps_set (i := 3) scLProgram.nd rfl (by first | exact Or.inl rfl | exact Or.inr rfl) (pe_slice sl_list (pe_call GLShuffled (hr.mono (by omega)) rfl T.gLShuffled T.FLShuffled.kp T.bLShuffled .nil pass0 (pa_cons (pv 0) (pa_cons (pe_callTy (call_list_of.or (call_strL rfl)) (by rfl) T.n_list (by decide +kernel) (pa_cons (pe_ix ix_list (pv 2) (pe_call GLPull (hr.mono (by omega)) rfl T.gLPull T.FLPull.kp T.bLPull .nil pass0 (pa_cons (pv 0) (pa_cons pe_int pa_nil))) (fun _ _ => rfl)) pa_nil)) pa_nil))) po_none (po_some (pe_call GLPull (hr.mono (by omega)) rfl T.gLPull T.FLPull.kp T.bLPull .nil pass0 (pa_cons (pv 0) (pa_cons (pe_op op_add (pv 1) pe_int) pa_nil))))))
      hu3), ?_⟩
        rintro D σ H1 ⟨hD, s, vs, rfl, s1, hs1, hvl, hmn⟩
        have hw1 : WellAt H1 a n := hw.keep fun o e => s1 _ _ e
        refine ⟨_, rfl, _, rfl, _, rfl, a, 5, n, rfl, by decide, by decide, hw1, by omega, fun r0 H2 r0a r0b sm2 hw2 => ?_⟩
        have hsa : s ≠ a := by
          rintro rfl
          obtain ⟨x, y, z, e, _⟩ := hw1
          rw [hs1] at e
          cases e
          simp at hvl
        have hs2 : H2 s = some (.lst vs) := sm2 _ _ (by simp [hsa]) hs1
        have hlt : r0.toNat < vs.length := by omega
        obtain ⟨v, hv⟩ : ∃ v, vs[r0.toNat]? = some v := ⟨_, List.getElem?_eq_getElem hlt⟩
        obtain ⟨ns, hns, hme⟩ := hmn _ _ hv
        have sm02 : Sm [a] H H2 := (Sm.of_same s1).trans sm2
        have nsl : ns.length ≤ 5 := (menus_ok ns hns).2.2.2
        have fin : ∀ (Q' : VK), (∀ (r : Addr) (zs : List Str) (m : Nat) (H' : Hp), Sm [a] H H' → WellAt H' a m → m ≤ n + 6 → r ≠ a → H' r = some (.lst (zs.map V.str)) → zs.Perm ns → Q' (.ref r) H') → ∀ l, H2 l = none → spShuffled (K := K) [.ref a, .ref l] (upd H2 l (.lst (ns.map V.str))) Q' E0 := by
          intro Q' q' l hl
          have s3 := same_upd hl (.lst (ns.map V.str))
          refine ⟨a, l, n + 1, _, rfl, hw2.keep fun o e => s3 _ _ e, by omega, SqL.of upd_same, by rw [List.length_map]; omega, fun r ys H4 sm4 hrn hr4 pe hw4 => ?_⟩
          obtain ⟨zs, e, pz⟩ := strs_perm pe
          subst e
          rw [List.length_map] at hw4
          refine q' r zs _ H4 ((sm02.trans (Sm.of_same s3)).trans sm4) hw4 (by omega) ?_ hr4 pz
          rintro rfl
          obtain ⟨u, hu⟩ := hw2.some
          rw [s3 _ _ hu] at hrn
          cases hrn
        refine ⟨s, vs, r0, v, rfl, rfl, SqL.of hs2, ?_, ?_⟩
        · have := atI_nat (xs := vs) (j := r0.toNat) hv
          rw [Int.toNat_of_nonneg r0a] at this
          exact this
        rcases hme with ⟨rfl, rfl⟩ | ⟨mm, rfl, hmm⟩
        · refine .inr ⟨_, rfl, Nat.le_of_lt (small1000 (by decide +kernel)), fun l hl => ?_⟩
          rw [abcde_split]
          dsimp only [tNil, List.cons_append, List.nil_append]
          refine fin _ (fun r zs m H4 sm4 hw4 hm hra hr4 pz => ?_) l hl
          refine ⟨_, rfl, _, rfl, _, _, rfl, rfl, a, mo + 1, m, rfl, by omega, by omega, hw4, by omega, fun k H5 k0 k1 sm5 hw5 => ?_⟩
          have hr5 : H5 r = some (.lst (zs.map V.str)) := sm5 _ _ (by simp [hra]) hr4
          refine ⟨_, rfl, _, _, rfl, SqL.of hr5, fun p hp => ?_⟩
          have s6 := same_upd hp (.lst (cutV (zs.map V.str) none (some k)))
          have kl := Int.toNat_of_nonneg k0
          refine ru3 _ _ _ ⟨hD, _, p, zs, k.toNat, _, m + 1, rfl, (sm4.trans sm5).trans (Sm.of_same s6), hw5.keep fun o e => s6 _ _ e, by omega, ?_, hns, pz⟩
          rw [upd_same, ← kl, cut_to', kl, ← List.map_take]
        · have hma : mm ≠ a := by
            rintro rfl
            obtain ⟨x, y, z, e, _⟩ := hw1
            rw [hmm] at e
            exact strs_ne (HO.lst.inj (Option.some.inj e))
          refine .inl ⟨mm, _, rfl, .inl (SqL.of (sm2 _ _ (by simp [hma]) hmm)), fun l hl => ?_⟩
          dsimp only [tNil, List.cons_append, List.nil_append]
          refine fin _ (fun r zs m H4 sm4 hw4 hm hra hr4 pz => ?_) l hl
          refine ⟨_, rfl, _, rfl, _, _, rfl, rfl, a, mo + 1, m, rfl, by omega, by omega, hw4, by omega, fun k H5 k0 k1 sm5 hw5 => ?_⟩
          have hr5 : H5 r = some (.lst (zs.map V.str)) := sm5 _ _ (by simp [hra]) hr4
          refine ⟨_, rfl, _, _, rfl, SqL.of hr5, fun p hp => ?_⟩
          have s6 := same_upd hp (.lst (cutV (zs.map V.str) none (some k)))
          have kl := Int.toNat_of_nonneg k0
          refine ru3 _ _ _ ⟨hD, _, p, zs, k.toNat, _, m + 1, rfl, (sm4.trans sm5).trans (Sm.of_same s6), hw5.keep fun o e => s6 _ _ e, by omega, ?_, hns, pz⟩
          rw [upd_same, ← kl, cut_to', kl, ← List.map_take]
      · intro u2 hu2 ru2
        refine ⟨_, (pss_cons (ps_set (i := 2) scLProgram.nd rfl (by first | exact Or.inl rfl | exact Or.inr rfl) (pe_lst (pa_cons pe_str (pa_cons (pe_lst (pa_cons pe_str (pa_cons pe_str (pa_cons pe_str (pa_cons pe_str (pa_cons pe_str pa_nil)))))) (pa_cons (pe_lc (own := [("spot", 4)]) (g := gName 4) (tt := tYes) rfl scLProgram.nd (pi_range2 (by rfl) T.n_range (pa_cons pe_int (pa_cons pe_int pa_nil))) (blkOk_by (N := ["well", "most", "some", "others", "spot", "order", "least", "rows", "body"]) (sc := defScope sLProgram) (by decide +kernel)) (fun _ _ _ _ _ => (pg_name (i := 4) scLProgram.nd rfl (by first | exact Or.inl rfl | exact Or.inr rfl))) (fun _ _ _ _ _ => pts_nil) (fun _ _ _ _ _ => (pe_op op_add_str pe_str (pe_op op_mul_x pe_str (pv 4))))) pa_nil)))))
      (pss_cons (ps_set (i := 2) scLProgram.nd rfl (by first | exact Or.inl rfl | exact Or.inr rfl) (pe_op op_cat (pv 2) (pe_lst (pa_cons (pe_lst (pa_cons pe_str (pa_cons pe_str (pa_cons pe_str (pa_cons pe_str (pa_cons pe_str pa_nil)))))) (pa_cons (pe_lst (pa_cons pe_str (pa_cons pe_str (pa_cons pe_str (pa_cons pe_str (pa_cons pe_str pa_nil)))))) pa_nil)))))
      hu2)), ?_⟩
        refine ⟨Nat.le_of_lt (small1000 (by simp)), fun p1 hp1 => ?_⟩
        have e1 : (upd H p1 (.lst [V.str "zz", V.str "mains", V.str "bcdefghi", V.str "n", V.str "ma"])) p1 = some (.lst (m1.map V.str)) := upd_same
        have s1 := same_upd hp1 (.lst [V.str "zz", V.str "mains", V.str "bcdefghi", V.str "n", V.str "ma"])
        generalize upd H p1 (.lst [V.str "zz", V.str "mains", V.str "bcdefghi", V.str "n", V.str "ma"]) = H1 at e1 s1 ⊢
        refine ⟨_, _, rfl, ⟨by decide, by decide, by decide, by decide⟩, fun D hD => ?_⟩
        refine lc_range (lo := 1) (n := 4) (fun i H' => Same H1 H' ∧ H' D = some (.lst ((List.range i).map fun i => V.str (("main" : Str) ++ FA.exes (i + 1))))) ?_ ?_ ?_
        · exact ⟨same_upd hD _, upd_same⟩
        · rintro i H2 hi ⟨s2, h2⟩
          refine ⟨rfl, yesT (iteT ?_)⟩
          refine ⟨_, rfl, i + 1, rfl, ?_, by omega, by omega, ?_⟩
          · congr 1
            omega
          · refine ⟨_, _, rfl, rfl, ?_, _, h2, small1000 (by simp; omega), fun b o e => ?_, ?_⟩
            · rcases (by omega : i = 0 ∨ i = 1 ∨ i = 2 ∨ i = 3) with rfl | rfl | rfl | rfl <;> exact Nat.le_of_lt (small1000 (by decide +kernel))
            · rw [upd_ne (ne_of_none e hD)]
              exact s2 _ _ e
            · rw [upd_same, List.range_succ, List.map_append]
              rfl
        rintro H2 ⟨s2, e2⟩
        have e2 : H2 D = some (.lst (m2.map V.str)) := e2
        refine ⟨Nat.le_of_lt (small1000 (by simp)), fun p2 hp2 => ?_⟩
        have s3 := same_upd hp2 (.lst [V.str "abcde", V.ref p1, V.ref D])
        have e3 : (upd H2 p2 (.lst [V.str "abcde", V.ref p1, V.ref D])) p2 = some (.lst [V.str "abcde", V.ref p1, V.ref D]) := upd_same
        generalize upd H2 p2 (.lst [V.str "abcde", V.ref p1, V.ref D]) = H3 at s3 e3 ⊢
        refine ⟨_, rfl, Nat.le_of_lt (small1000 (by simp)), fun p4 hp4 => ?_⟩
        have s4 := same_upd hp4 (.lst [V.str "loop", V.str "maybe", V.str "one", V.str "call", V.str "return"])
        have e4 : (upd H3 p4 (.lst [V.str "loop", V.str "maybe", V.str "one", V.str "call", V.str "return"])) p4 = some (.lst (m3.map V.str)) := upd_same
        generalize upd H3 p4 (.lst [V.str "loop", V.str "maybe", V.str "one", V.str "call", V.str "return"]) = H4 at s4 e4 ⊢
        refine ⟨Nat.le_of_lt (small1000 (by simp)), fun p5 hp5 => ?_⟩
        have s5 := same_upd hp5 (.lst [V.str "jkl", V.str "vwy", V.str "pqrstuv", V.str "ox", V.str "sample"])
        have e5 : (upd H4 p5 (.lst [V.str "jkl", V.str "vwy", V.str "pqrstuv", V.str "ox", V.str "sample"])) p5 = some (.lst (m4.map V.str)) := upd_same
        generalize upd H4 p5 (.lst [V.str "jkl", V.str "vwy", V.str "pqrstuv", V.str "ox", V.str "sample"]) = H5 at s5 e5 ⊢
        refine ⟨Nat.le_of_lt (small1000 (by simp)), fun p6 hp6 => ?_⟩
        have s6 := same_upd hp6 (.lst [V.ref p4, V.ref p5])
        have e6 : (upd H5 p6 (.lst [V.ref p4, V.ref p5])) p6 = some (.lst [V.ref p4, V.ref p5]) := upd_same
        generalize upd H5 p6 (.lst [V.ref p4, V.ref p5]) = H6 at s6 e6 ⊢
        refine ⟨p2, p6, _, _, rfl, rfl, s6 _ _ (s5 _ _ (s4 _ _ e3)), e6, Nat.le_of_lt (small1000 (by simp)), fun p7 hp7 => ?_⟩
        have s7 := same_upd hp7 (.lst ([V.str "abcde", V.ref p1, V.ref D] ++ [V.ref p4, V.ref p5]))
        have s57 := (s5.trans s6).trans s7
        have s27 := (s3.trans s4).trans s57
        refine ru2 _ _ _ ⟨rfl, p7, _, rfl, ((s1.trans s2).trans s27), upd_same, rfl, fun j v hv => ?_⟩
        rcases j with _ | _ | _ | _ | _ | j
        · cases hv; exact ⟨m0, by simp [menus], .inl ⟨rfl, rfl⟩⟩
        · cases hv; exact ⟨m1, by simp [menus], .inr ⟨p1, rfl, s27 _ _ (s2 _ _ e1)⟩⟩
        · cases hv; exact ⟨m2, by simp [menus], .inr ⟨D, rfl, s27 _ _ e2⟩⟩
        · cases hv; exact ⟨m3, by simp [menus], .inr ⟨p4, rfl, s57 _ _ e4⟩⟩
        · cases hv; exact ⟨m4, by simp [menus], .inr ⟨p5, rfl, (s6.trans s7) _ _ e5⟩⟩
        · simp at hv
end K05


set_option Elab.async false
set_option linter.all false
set_option maxRecDepth 100000
set_option maxHeartbeats 4000000
namespace K05
open PySem PySem.Spec PyProof.Rows L2 FA
variable {P : Program} {w : World} {K : PySem.W.Frag} {mg : Str → Option Value} {base : Heap}
def spSeq : Sp := fun vs H Q _ => ∃ (t u : Addr) (a b : Pl), vs = [.ref t, .ref u] ∧ PlAt H t a ∧ PlAt H u b ∧ a.Few ∧ b.Few ∧ ∀ r H', Same H H' → PlAt H' r (a.seq b) → Q (.ref r) H'
theorem okSeq (T : Txt K mg) : FnOk P w K mg base CX0 1 T.aOneBehindOther T.fOneBehindOther ["plan", "other"] spSeq := by
  refine T.FOneBehindOther.ok scOneBehindOther (fun vs H Q E h => ?_) (fun cdv A outer s H vs Q E hr h => ?_)
  · obtain ⟨t, u, a, b, rfl, _⟩ := h
    rfl
  obtain ⟨t, u, a, b, rfl, ⟨n1, f1, l1, p1, ws1, a1, a2, a3, a4, a5, a6⟩, ⟨n2, f2, l2, p2, ws2, b1, b2, b3, b4, b5, b6⟩, ka, kb, q⟩ := h
  have hu := hu_of hr
  refine ⟨_, (pss_cons (ps_asg (pv 0) (pg_tup rfl (pgs_cons (pg_name (i := 3) scOneBehindOther.nd rfl (by first | exact Or.inl rfl | exact Or.inr rfl)) (pgs_cons (pg_name (i := 4) scOneBehindOther.nd rfl (by first | exact Or.inl rfl | exact Or.inr rfl)) (pgs_cons (pg_name (i := 5) scOneBehindOther.nd rfl (by first | exact Or.inl rfl | exact Or.inr rfl)) (pgs_cons (pg_name (i := 6) scOneBehindOther.nd rfl (by first | exact Or.inl rfl | exact Or.inr rfl)) (pgs_cons (pg_name (i := 7) scOneBehindOther.nd rfl (by first | exact Or.inl rfl | exact Or.inr rfl)) pgs_nil)))))))
      (pss_cons (ps_asg (pv 1) (pg_tup rfl (pgs_cons (pg_name (i := 8) scOneBehindOther.nd rfl (by first | exact Or.inl rfl | exact Or.inr rfl)) (pgs_cons (pg_name (i := 9) scOneBehindOther.nd rfl (by first | exact Or.inl rfl | exact Or.inr rfl)) (pgs_cons (pg_name (i := 10) scOneBehindOther.nd rfl (by first | exact Or.inl rfl | exact Or.inr rfl)) (pgs_cons (pg_name (i := 11) scOneBehindOther.nd rfl (by first | exact Or.inl rfl | exact Or.inr rfl)) (pgs_cons (pg_name (i := 12) scOneBehindOther.nd rfl (by first | exact Or.inl rfl | exact Or.inr rfl)) pgs_nil)))))))
      (pss_cons (ps_setLc2 (i := 2) (own := [("last", 13), ("first", 14)]) (vs1 := [14]) (g := gName 13) (g1 := gName 14) (tt := tYes) (tt1 := tYes) rfl scOneBehindOther.nd rfl rfl (sw_true rfl rfl rfl (by decide +kernel)) (pi_list (pv 5)) (blkOk_by (N := ["plan", "other", "between", "names", "firsts", "lasts", "pairs", "empty", "other_names", "other_firsts", "other_lasts", "other_pairs", "other_empty", "last", "first"]) (sc := defScope sOneBehindOther) (by decide +kernel)) (by decide) (fun _ _ _ _ _ => (pg_name (i := 13) scOneBehindOther.nd rfl (by first | exact Or.inl rfl | exact Or.inr rfl))) (fun _ _ _ _ _ => pts_nil) (fun _ _ _ _ _ => (pi_listK (K := K) rfl (pv 9))) (fun _ _ _ _ _ => (pg_name (i := 14) scOneBehindOther.nd rfl (by first | exact Or.inl rfl | exact Or.inr rfl))) (fun _ _ _ _ _ => pts_nil) (fun _ _ _ _ _ => (pe_tup (pa_cons (pv 13) (pa_cons (pv 14) pa_nil)))))
      (pss_one (ps_ret (pe_tup (pa_cons (pe_op op_cat (pv 3) (pv 8)) (pa_cons (pe_ifExp (pt_val (pv 7)) (pe_op op_cat (pv 4) (pv 9)) (pv 4)) (pa_cons (pe_ifExp (pt_val (pv 12)) (pe_op op_cat (pv 5) (pv 10)) (pv 10)) (pa_cons (pe_op op_cat (pe_op op_cat (pv 6) (pv 11)) (pv 2)) (pa_cons (pe_and (pv 7) (pe_one (pv 12))) pa_nil))))))))))), ?_⟩
  refine ⟨_, rfl, t, _, rfl, SqT.of a1, rfl, _, _, rfl, _, _, rfl, _, _, rfl, _, _, rfl, _, _, rfl, rfl, ?_⟩
  refine ⟨_, rfl, u, _, rfl, SqT.of b1, rfl, _, _, rfl, _, _, rfl, _, _, rfl, _, _, rfl, _, _, rfl, rfl, ?_⟩
  refine ⟨_, rfl, l1, rfl, ⟨_, SqL.of a4⟩, fun D hD => lc2S a4 (by have := ka.ls; omega) (by have := kb.fs; omega) hD (by decide) (Nat.lt_of_lt_of_eq (by decide : 13 < 15) rfl) (Nat.lt_of_lt_of_eq (by decide : 14 < 15) rfl) (fun σ' H' q Q s1 e k => ?_) b3 (fun σ' H' p q Q e1 e2 k => ?_) fun H1 ws s1 hD1 hp1 => ?_⟩
  · subst e
    exact ⟨_, rfl, f2, rfl, ⟨_, SqL.of (s1 _ _ b3)⟩, k⟩
  · exact ⟨_, e1, _, e2, Nat.le_of_lt (small1000 (by simp)), k⟩
  have k1 := ka.nm
  have k2 := kb.nm
  have k3 := ka.fs
  have k4 := kb.fs
  have k5 := ka.ls
  have k6 := kb.ls
  have k7 := ka.ps
  have k8 := kb.ps
  have kp := hp1.length
  have kb2 : (both a.ls b.fs).length ≤ 64 := by
    rw [both_len]
    exact Nat.le_trans (Nat.mul_le_mul k5 k4) (by decide)
  have l1' := a6.length
  have l2' := b6.length
  -- the names
  refine ⟨_, rfl, _, rfl, n1, n2, _, _, rfl, rfl, s1 _ _ a2, s1 _ _ b2, Nat.le_of_lt (small1000 (by simp only [List.length_map]; omega)), fun N hN => ?_⟩
  have s2 := s1.trans (same_upd hN (.lst (a.nm.map V.str ++ b.nm.map V.str)))
  have hD2 := same_upd hN (.lst (a.nm.map V.str ++ b.nm.map V.str)) _ _ hD1
  have hp2 := hp1.keep (H' := upd H1 N (.lst (a.nm.map V.str ++ b.nm.map V.str))) (fun _ _ e => same_upd hN _ _ _ e)
  have hN2 : (upd H1 N (.lst (a.nm.map V.str ++ b.nm.map V.str))) N = some (.lst ((a.nm ++ b.nm).map V.str)) := by rw [upd_same, List.map_append]
  generalize upd H1 N (.lst (a.nm.map V.str ++ b.nm.map V.str)) = H2 at s2 hD2 hp2 hN2 ⊢
  -- the firsts
  refine ⟨_, rfl, _, rfl, ?_⟩
  refine ite2 (fun c => ?A) (fun c => ?B)
  case' A =>
    refine ⟨_, rfl, _, rfl, f1, f2, _, _, rfl, rfl, s2 _ _ a3, s2 _ _ b3, Nat.le_of_lt (small1000 (by simp only [nts_len]; omega)), fun F hF => ?_⟩
    have sF := same_upd hF (.lst (nts a.fs ++ nts b.fs))
    have hF3 : (upd H2 F (.lst (nts a.fs ++ nts b.fs))) F = some (.lst (nts (if a.em = true then a.fs ++ b.fs else a.fs))) := by rw [upd_same, if_pos c, nts_app]
    generalize upd H2 F (.lst (nts a.fs ++ nts b.fs)) = H3 at sF hF3 ⊢
  case' B =>
    refine ⟨_, rfl, ?_⟩
    obtain ⟨F, eF⟩ : ∃ z, z = f1 := ⟨_, rfl⟩
    obtain ⟨H3, e3⟩ : ∃ z, z = H2 := ⟨_, rfl⟩
    have sF : Same H2 H3 := by rw [e3]; exact Same.refl _
    have hF3 : H3 F = some (.lst (nts (if a.em = true then a.fs ++ b.fs else a.fs))) := by rw [if_neg c, eF, e3]; exact s2 _ _ a3
    rw [← eF, ← e3]
  all_goals
    have s3 := s2.trans sF
    have hD3 := sF _ _ hD2
    have hN3 := sF _ _ hN2
    have hp3 := hp2.keep (H' := H3) (fun _ _ e => sF _ _ e)
    clear sF c
  -- the lasts
  all_goals
    refine ⟨_, rfl, _, rfl, ?_⟩
    refine ite2 (fun c => ?_) (fun c => ?_)
    refine ⟨_, rfl, _, rfl, l1, l2, _, _, rfl, rfl, s3 _ _ a4, s3 _ _ b4, Nat.le_of_lt (small1000 (by simp only [nts_len]; omega)), fun G hG => ?_⟩
    have sG := same_upd hG (.lst (nts a.ls ++ nts b.ls))
    have hG4 : (upd H3 G (.lst (nts a.ls ++ nts b.ls))) G = some (.lst (nts (if b.em = true then a.ls ++ b.ls else b.ls))) := by rw [upd_same, if_pos c, nts_app]
    generalize upd H3 G (.lst (nts a.ls ++ nts b.ls)) = H4 at sG hG4 ⊢
    rotate_left
    refine ⟨_, rfl, ?_⟩
    obtain ⟨G, eG⟩ : ∃ z, z = l2 := ⟨_, rfl⟩
    obtain ⟨H4, e4⟩ : ∃ z, z = H3 := ⟨_, rfl⟩
    have sG : Same H3 H4 := by rw [e4]; exact Same.refl _
    have hG4 : H4 G = some (.lst (nts (if b.em = true then a.ls ++ b.ls else b.ls))) := by rw [if_neg c, eG, e4]; exact s3 _ _ b4
    rw [← eG, ← e4]
    rotate_right
  all_goals
    have s4 := s3.trans sG
    have hD4 := sG _ _ hD3
    have hN4 := sG _ _ hN3
    have hF4 := sG _ _ hF3
    have hp4 := hp3.keep (H' := H4) (fun _ _ e => sG _ _ e)
    clear sG c
  -- the pairs
  all_goals
    have a7 := a6.keep (H' := H4) (fun _ _ e => s4 _ _ e)
    have b7 := b6.keep (H' := H4) (fun _ _ e => s4 _ _ e)
    refine ⟨_, rfl, _, rfl, p1, p2, _, _, rfl, rfl, s4 _ _ a5, s4 _ _ b5, Nat.le_of_lt (small1000 (by omega)), fun R hR => ?_⟩
    have sR := same_upd hR (.lst (ws1 ++ ws2))
    refine ⟨_, rfl, R, D, _, _, rfl, rfl, upd_same, sR _ _ hD4, Nat.le_of_lt (small1000 (by rw [List.length_append]; omega)), fun S hS => ?_⟩
    have sS := sR.trans (same_upd hS (.lst (ws1 ++ ws2 ++ ws)))
    have hS5 : (upd (upd H4 R (.lst (ws1 ++ ws2))) S (.lst (ws1 ++ ws2 ++ ws))) S = some (.lst (ws1 ++ ws2 ++ ws)) := upd_same
    generalize upd (upd H4 R (.lst (ws1 ++ ws2))) S (.lst (ws1 ++ ws2 ++ ws)) = H5 at sS hS5 ⊢
    have em : ∀ R0 : V → Hp → Prop, R0 (.bl (a.em && b.em)) H5 → (∃ c, V.bl a.em = V.bl c ∧ if c = true then ∃ v, (some (some (V.bl b.em))) = some (some v) ∧ R0 v H5 else R0 (.bl false) H5) := fun R0 k => by
      refine ⟨_, rfl, ?_⟩
      cases h : a.em with
      | true =>
        rw [if_pos rfl]
        rw [h, Bool.true_and] at k
        exact ⟨_, rfl, k⟩
      | false =>
        rw [if_neg (by decide)]
        rw [h, Bool.false_and] at k
        exact k
    refine ⟨_, rfl, em _ ?_⟩
    refine ⟨Nat.le_of_lt (small1000 (by simp)), fun Z hZ => q Z _ ((s4.trans sS).trans (same_upd hZ _)) ?_⟩
    have sZ := sS.trans (same_upd hZ (.tup [.ref N, .ref F, .ref G, .ref S, .bl (a.em && b.em)]))
    have sZ5 := same_upd hZ (.tup [.ref N, .ref F, .ref G, .ref S, .bl (a.em && b.em)])
    exact ⟨N, F, G, S, ws1 ++ ws2 ++ ws, upd_same, sZ _ _ hN4, sZ _ _ hF4, sZ _ _ hG4, sZ5 _ _ hS5, ((a7.app b7).app hp4).keep fun _ _ e => sZ _ _ e⟩
def spAlt : Sp := fun vs H Q _ => ∃ (t u : Addr) (a b : Pl), vs = [.ref t, .ref u] ∧ PlAt H t a ∧ PlAt H u b ∧ a.Few ∧ b.Few ∧ ∀ r H', Same H H' → PlAt H' r (a.alt b) → Q (.ref r) H'
theorem okAlt (T : Txt K mg) : FnOk P w K mg base CX0 1 T.aOneOrOther T.fOneOrOther ["plan", "other"] spAlt := by
  refine T.FOneOrOther.ok scOneOrOther (fun vs H Q E h => ?_) (fun cdv A outer s H vs Q E hr h => ?_)
  · obtain ⟨t, u, a, b, rfl, _⟩ := h
    rfl
  obtain ⟨t, u, a, b, rfl, ⟨n1, f1, l1, p1, ws1, a1, a2, a3, a4, a5, a6⟩, ⟨n2, f2, l2, p2, ws2, b1, b2, b3, b4, b5, b6⟩, ka, kb, q⟩ := h
  have hu := hu_of hr
  refine ⟨_, (pss_cons (ps_asg (pv 0) (pg_tup rfl (pgs_cons (pg_name (i := 2) scOneOrOther.nd rfl (by first | exact Or.inl rfl | exact Or.inr rfl)) (pgs_cons (pg_name (i := 3) scOneOrOther.nd rfl (by first | exact Or.inl rfl | exact Or.inr rfl)) (pgs_cons (pg_name (i := 4) scOneOrOther.nd rfl (by first | exact Or.inl rfl | exact Or.inr rfl)) (pgs_cons (pg_name (i := 5) scOneOrOther.nd rfl (by first | exact Or.inl rfl | exact Or.inr rfl)) (pgs_cons (pg_name (i := 6) scOneOrOther.nd rfl (by first | exact Or.inl rfl | exact Or.inr rfl)) pgs_nil)))))))
      (pss_cons (ps_asg (pv 1) (pg_tup rfl (pgs_cons (pg_name (i := 7) scOneOrOther.nd rfl (by first | exact Or.inl rfl | exact Or.inr rfl)) (pgs_cons (pg_name (i := 8) scOneOrOther.nd rfl (by first | exact Or.inl rfl | exact Or.inr rfl)) (pgs_cons (pg_name (i := 9) scOneOrOther.nd rfl (by first | exact Or.inl rfl | exact Or.inr rfl)) (pgs_cons (pg_name (i := 10) scOneOrOther.nd rfl (by first | exact Or.inl rfl | exact Or.inr rfl)) (pgs_cons (pg_name (i := 11) scOneOrOther.nd rfl (by first | exact Or.inl rfl | exact Or.inr rfl)) pgs_nil)))))))
      (pss_one (ps_ret (pe_tup (pa_cons (pe_op op_cat (pv 2) (pv 7)) (pa_cons (pe_op op_cat (pv 3) (pv 8)) (pa_cons (pe_op op_cat (pv 4) (pv 9)) (pa_cons (pe_op op_cat (pv 5) (pv 10)) (pa_cons (pe_or (pv 6) (pe_one (pv 11))) pa_nil)))))))))), ?_⟩
  refine ⟨_, rfl, t, _, rfl, SqT.of a1, rfl, _, _, rfl, _, _, rfl, _, _, rfl, _, _, rfl, _, _, rfl, rfl, ?_⟩
  refine ⟨_, rfl, u, _, rfl, SqT.of b1, rfl, _, _, rfl, _, _, rfl, _, _, rfl, _, _, rfl, _, _, rfl, rfl, ?_⟩
  have k1 := ka.nm
  have k2 := kb.nm
  have k3 := ka.fs
  have k4 := kb.fs
  have k5 := ka.ls
  have k6 := kb.ls
  have k7 := ka.ps
  have k8 := kb.ps
  have l1' := a6.length
  have l2' := b6.length
  refine ⟨_, rfl, _, rfl, n1, n2, _, _, rfl, rfl, a2, b2, Nat.le_of_lt (small1000 (by simp only [List.length_map]; omega)), fun N hN => ?_⟩
  have s2 := same_upd hN (.lst (a.nm.map V.str ++ b.nm.map V.str))
  have hN2 : (upd H N (.lst (a.nm.map V.str ++ b.nm.map V.str))) N = some (.lst ((a.nm ++ b.nm).map V.str)) := by rw [upd_same, List.map_append]
  generalize upd H N (.lst (a.nm.map V.str ++ b.nm.map V.str)) = H2 at s2 hN2 ⊢
  refine ⟨_, rfl, _, rfl, f1, f2, _, _, rfl, rfl, s2 _ _ a3, s2 _ _ b3, Nat.le_of_lt (small1000 (by simp only [nts_len]; omega)), fun F hF => ?_⟩
  have sF := same_upd hF (.lst (nts a.fs ++ nts b.fs))
  have hF3 : (upd H2 F (.lst (nts a.fs ++ nts b.fs))) F = some (.lst (nts (a.fs ++ b.fs))) := by rw [upd_same, nts_app]
  have hN3 := sF _ _ hN2
  have s3 := s2.trans sF
  generalize upd H2 F (.lst (nts a.fs ++ nts b.fs)) = H3 at s3 sF hN3 hF3 ⊢
  refine ⟨_, rfl, _, rfl, l1, l2, _, _, rfl, rfl, s3 _ _ a4, s3 _ _ b4, Nat.le_of_lt (small1000 (by simp only [nts_len]; omega)), fun G hG => ?_⟩
  have sG := same_upd hG (.lst (nts a.ls ++ nts b.ls))
  have hG4 : (upd H3 G (.lst (nts a.ls ++ nts b.ls))) G = some (.lst (nts (a.ls ++ b.ls))) := by rw [upd_same, nts_app]
  have hN4 := sG _ _ hN3
  have hF4 := sG _ _ hF3
  have s4 := s3.trans sG
  generalize upd H3 G (.lst (nts a.ls ++ nts b.ls)) = H4 at s4 sG hN4 hF4 hG4 ⊢
  refine ⟨_, rfl, _, rfl, p1, p2, _, _, rfl, rfl, s4 _ _ a5, s4 _ _ b5, Nat.le_of_lt (small1000 (by omega)), fun R hR => ?_⟩
  have sR := same_upd hR (.lst (ws1 ++ ws2))
  have hR5 : (upd H4 R (.lst (ws1 ++ ws2))) R = some (.lst (ws1 ++ ws2)) := upd_same
  have s5 := s4.trans sR
  generalize upd H4 R (.lst (ws1 ++ ws2)) = H5 at s5 sR hR5 ⊢
  have em : ∀ R0 : V → Hp → Prop, R0 (.bl (a.em || b.em)) H5 → (∃ c, V.bl a.em = V.bl c ∧ if c = true then R0 (.bl true) H5 else ∃ v, (some (some (V.bl b.em))) = some (some v) ∧ R0 v H5) := fun R0 k => by
    refine ⟨_, rfl, ?_⟩
    cases h : a.em with
    | true =>
      rw [if_pos rfl]
      rw [h, Bool.true_or] at k
      exact k
    | false =>
      rw [if_neg (by decide)]
      rw [h, Bool.false_or] at k
      exact ⟨_, rfl, k⟩
  refine ⟨_, rfl, em _ ?_⟩
  refine ⟨Nat.le_of_lt (small1000 (by simp)), fun Z hZ => q Z _ (s5.trans (same_upd hZ _)) ?_⟩
  have sZ := sR.trans (same_upd hZ (.tup [.ref N, .ref F, .ref G, .ref R, .bl (a.em || b.em)]))
  have sZ5 := same_upd hZ (.tup [.ref N, .ref F, .ref G, .ref R, .bl (a.em || b.em)])
  have s6 := s5.trans sZ5
  exact ⟨N, F, G, R, ws1 ++ ws2, upd_same, sZ _ _ hN4, sZ _ _ hF4, sZ _ _ hG4, sZ5 _ _ hR5, (a6.app b6).keep fun _ _ e => s6 _ _ e⟩
def spWithin : Sp := fun vs H Q _ => ∃ (t : Addr) (it : FA.It) (ns : List Str), vs = [.ref t] ∧ ItAt H (.ref t) it ∧ okI ns it ∧ ∀ r ws H', Same H H' → H' r = some (.lst ws) → (∀ Hx, Same Hx H → ItAt Hx (.ref t) it → BdsAt Hx ws (bodies it)) → ws ≠ [] → Q (.ref r) H'
theorem okWithin (T : Txt K mg) : FnOk P w K mg base CX0 1 T.aBodiesWithin T.fBodiesWithin ["item"] spWithin := by
  refine T.FBodiesWithin.ok scBodiesWithin (fun vs H Q E h => ?_) (fun cdv A outer s H vs Q E hr h => ?_)
  · obtain ⟨t, it, ns, rfl, _⟩ := h
    rfl
  obtain ⟨t, it, ns, rfl, hit, ok, q⟩ := h
  have hu := hu_of hr
  refine ⟨_, (pss_one (ps_ret (pe_ifExp (pt_cmpR op_eq (pe_ix ix_tup (pv 0) pe_int (fun _ _ => rfl)) pe_str (nomark _)) (pe_ix ix_tup (pv 0) pe_int (fun _ _ => rfl)) (pe_lst (pa_cons (pe_ix ix_tup (pv 0) pe_int (fun _ _ => rfl)) pa_nil))))), ?_⟩
  cases hit with
  | @may t b' vs' l' h1 h2 h3 =>
    refine ⟨_, rfl, _, _, _, _, rfl, rfl, SqT.of h1, at_of (j := 0) rfl rfl, rfl, _, rfl, ite2 (fun c => absurd (of_decide_eq_true c) (by decide)) (fun _ => ?_)⟩
    refine ⟨_, rfl, _, _, _, _, rfl, rfl, SqT.of h1, at_of (j := 1) rfl rfl, Nat.le_of_lt (small1000 (by simp)), fun p hp => ?_⟩
    have s1 := same_upd hp (.lst [V.ref b'])
    refine q p _ _ s1 upd_same (fun Hx sx hx => ?_) (by simp)
    cases hx with
    | may g1 g2 g3 =>
      have e := sx _ _ g1
      rw [h1] at e
      cases e
      exact .cons g2 g3 .nil
  | @loop t b' vs' l' h1 h2 h3 =>
    refine ⟨_, rfl, _, _, _, _, rfl, rfl, SqT.of h1, at_of (j := 0) rfl rfl, rfl, _, rfl, ite2 (fun c => absurd (of_decide_eq_true c) (by decide)) (fun _ => ?_)⟩
    refine ⟨_, rfl, _, _, _, _, rfl, rfl, SqT.of h1, at_of (j := 1) rfl rfl, Nat.le_of_lt (small1000 (by simp)), fun p hp => ?_⟩
    have s1 := same_upd hp (.lst [V.ref b'])
    refine q p _ _ s1 upd_same (fun Hx sx hx => ?_) (by simp)
    cases hx with
    | loop g1 g2 g3 =>
      have e := sx _ _ g1
      rw [h1] at e
      cases e
      exact .cons g2 g3 .nil
  | @one t b' vs' ls h1 h2 h3 =>
    simp only [okI] at ok
    refine ⟨_, rfl, _, _, _, _, rfl, rfl, SqT.of h1, at_of (j := 0) rfl rfl, rfl, _, rfl, ite2 (fun _ => ?_) (fun c => absurd (decide_eq_true rfl) c)⟩
    refine ⟨_, rfl, _, _, _, _, rfl, rfl, SqT.of h1, at_of (j := 1) rfl rfl, ?_⟩
    refine q b' vs' H (Same.refl _) h2 (fun Hx sx hx => ?_) (fun z => ?_)
    · cases hx with
      | one g1 g2 g3 =>
        have e := sx _ _ g1
        rw [h1] at e
        cases e
        have e2 := sx _ _ g2
        rw [h2] at e2
        cases e2
        exact g3
    · have := h3.length
      rw [z] at this
      simp at this
      omega
end K05


set_option Elab.async false
set_option linter.all false
set_option maxRecDepth 100000
set_option maxHeartbeats 4000000
namespace K05
open PySem PySem.Spec PyProof.Rows L2 FA
variable {P : Program} {w : World} {K : PySem.W.Frag} {mg : Str → Option Value} {base : Heap}
theorem it_two {H : Hp} {v : V} {it : FA.It} (h : ItAt H v it) : (∃ x, v = .str x ∧ it = .call x) ∨ ∃ t xs, v = .ref t ∧ H t = some (.tup xs) ∧ ∀ x, it ≠ .call x := by
  cases h with
  | call x => exact .inl ⟨x, rfl, rfl⟩
  | may h1 _ _ => exact .inr ⟨_, _, rfl, h1, fun x z => by cases z⟩
  | loop h1 _ _ => exact .inr ⟨_, _, rfl, h1, fun x z => by cases z⟩
  | one h1 _ _ => exact .inr ⟨_, _, rfl, h1, fun x z => by cases z⟩
def spPlanI (n : Nat) : Sp := fun vs H Q _ => ∃ (v : V) (it : FA.It) (ns : List Str) (k : Nat), vs = [v, .int (k : Int)] ∧ ItAt H v it ∧ okI ns it ∧ nC it ≤ 8 ∧ dI it ≤ n ∧ ∀ r H', Same H H' → PlAt H' r (planI it k) → Q (.ref r) H'
def spPlanB (n : Nat) : Sp := fun vs H Q _ => ∃ (b : Addr) (l : List FA.It) (ns : List Str) (k : Nat), vs = [.ref b, .int (k : Int)] ∧ BdAt H b l ∧ okB ns l ∧ nCB l ≤ 8 ∧ dB l ≤ n ∧ ∀ r H', Same H H' → PlAt H' r (planB l .e0 k) → Q (.ref r) H'
theorem okPlanB (T : Txt K mg) (n : Nat) (hn : n ≤ 5) (GPlanOfItem : FnOk P w K mg base CX0 (2 * n + 2) T.aPlanOfItem T.fPlanOfItem ["item", "number"] (spPlanI n)) : FnOk P w K mg base CX0 (2 * n + 3) T.aPlanOfBody T.fPlanOfBody ["body", "number"] (spPlanB (n + 1)) := by
  have GOneBehindOther : FnOk P w K mg base CX0 1 T.aOneBehindOther T.fOneBehindOther ["plan", "other"] spSeq := okSeq T
  refine T.FPlanOfBody.ok scPlanOfBody (fun vs H Q E h => ?_) (fun cdv A outer s H vs Q E hr h => ?_)
  · obtain ⟨b, l, ns, k, rfl, _⟩ := h
    rfl
  obtain ⟨b, l, ns, k, rfl, ⟨vs, hb, hits⟩, ok, hc, hd, q⟩ := h
  have hu := hu_of hr
  refine ⟨_, (pss_cons (ps_set (i := 2) scPlanOfBody.nd rfl (by first | exact Or.inl rfl | exact Or.inr rfl) (pe_tup (pa_cons (pe_lst pa_nil) (pa_cons (pe_lst pa_nil) (pa_cons (pe_lst pa_nil) (pa_cons (pe_lst pa_nil) (pa_cons pe_bl pa_nil)))))))
      (pss_cons (ps_for PassesOwn.never rfl (pi_list (pv 0)) (pg_name (i := 3) scPlanOfBody.nd rfl (by first | exact Or.inl rfl | exact Or.inr rfl))
        (pss_one (ps_set (i := 2) scPlanOfBody.nd rfl (by first | exact Or.inl rfl | exact Or.inr rfl) (pe_call GOneBehindOther (hr.mono (by omega)) rfl T.gOneBehindOther T.FOneBehindOther.kp T.bOneBehindOther .nil pass0 (pa_cons (pv 2) (pa_cons (pe_call GPlanOfItem (hr.mono (by omega)) rfl T.gPlanOfItem T.FPlanOfItem.kp T.bPlanOfItem .nil pass0 (pa_cons (pv 3) (pa_cons (pe_op op_add (pv 1) (pe_callB call_len_seq (by rfl) T.n_len PySem.boot_len (pa_cons (pe_ix ix_tup (pv 2) pe_int (fun _ _ => rfl)) pa_nil))) pa_nil))) pa_nil))))))
      (pss_one (ps_ret (pv 2))))), ?_⟩
  have hl := hits.length
  refine ⟨Nat.zero_le _, fun p1 h1 => ?_⟩
  have s1 := same_upd h1 (.lst [])
  have g1 : (upd H p1 (.lst [])) p1 = some (.lst []) := upd_same
  generalize upd H p1 (.lst []) = H1 at s1 g1 ⊢
  refine ⟨Nat.zero_le _, fun p2 h2 => ?_⟩
  have s2 := same_upd h2 (.lst [])
  have g2 : (upd H1 p2 (.lst [])) p2 = some (.lst []) := upd_same
  generalize upd H1 p2 (.lst []) = H2 at s2 g2 ⊢
  refine ⟨Nat.zero_le _, fun p3 h3 => ?_⟩
  have s3 := same_upd h3 (.lst [])
  have g3 : (upd H2 p3 (.lst [])) p3 = some (.lst []) := upd_same
  generalize upd H2 p3 (.lst []) = H3 at s3 g3 ⊢
  refine ⟨Nat.zero_le _, fun p4 h4 => ?_⟩
  have s4 := same_upd h4 (.lst [])
  have g4 : (upd H3 p4 (.lst [])) p4 = some (.lst []) := upd_same
  generalize upd H3 p4 (.lst []) = H4 at s4 g4 ⊢
  refine ⟨Nat.le_of_lt (small1000 (by simp)), fun r hr0 => ?_⟩
  have s5 := same_upd hr0 (.tup [.ref p1, .ref p2, .ref p3, .ref p4, .bl true])
  have pl0 : PlAt (upd H4 r (.tup [.ref p1, .ref p2, .ref p3, .ref p4, .bl true])) r .e0 :=
    ⟨p1, p2, p3, p4, [], upd_same, s5 _ _ (s4 _ _ (s3 _ _ (s2 _ _ g1))), s5 _ _ (s4 _ _ (s3 _ _ g2)), s5 _ _ (s4 _ _ g3), s5 _ _ g4, .nil⟩
  have s05 := ((((s1.trans s2).trans s3).trans s4).trans s5)
  generalize upd H4 r (.tup [.ref p1, .ref p2, .ref p3, .ref p4, .bl true]) = H5 at s05 pl0 ⊢
  refine ⟨_, rfl, b, rfl, ⟨_, SqL.of (s05 _ _ hb)⟩, for_list (K := K) (a := b) (xs := vs) (fun i σ H' => ∃ r v3, σ = [some (.ref b), some (.int (k : Int)), some (.ref r), v3] ∧ Same H H' ∧ PlAt H' r (planB (l.take i) .e0 k)) ⟨r, none, rfl, s05, by rw [List.take_zero]; simp only [planB]; exact pl0⟩ ?_ ?_ ?_⟩
  · rintro i σ H' _ ⟨_, _, _, sm, _⟩
    exact SqL.of (sm _ _ hb)
  · rintro i y σ H6 hi ⟨r6, v3, rfl, sm, pl⟩
    obtain ⟨it, e1, e2⟩ := hits.get hi
    have hm : it ∈ l := List.mem_of_getElem? e1
    have c1 := nCB_mem hm
    have d1 := dB_mem hm
    have oki := okB_all.mp ok it hm
    have ct := nCB_take l i
    have dt := dB_take l i
    have few : (planB (l.take i) .e0 k).Few := planB_few (D := n + 1) (by omega) (by omega) (by omega)
    have fewI : (planI it (k + (planB (l.take i) .e0 k).nm.length)).Few := planI_few (D := n + 1) (by omega) (by omega) (by omega)
    obtain ⟨n1, f1, l1, p1, ws1, a1, a2, a3, a4, a5, a6⟩ := id pl
    refine ⟨_, rfl, _, rfl, _, rfl, _, rfl, _, _, _, _, rfl, rfl, SqT.of a1, at_of (j := 0) rfl rfl, n1, _, rfl, .inl (SqL.of a2), _, _, rfl, rfl, ?_⟩
    refine ⟨y, it, ns, k + (planB (l.take i) .e0 k).nm.length, by rw [List.length_map]; rfl, e2.keep (Kp.of sm), oki, by omega, by omega, fun r7 H7 s7 pl7 => ?_⟩
    exact ⟨r6, r7, _, _, rfl, pl.keep s7, pl7, few, fewI, fun r8 H8 s8 pl8 => ⟨r8, _, rfl, (sm.trans s7).trans s8, by rw [planB_take e1]; exact pl8⟩⟩
  · rintro σ H6 ⟨r6, v3, rfl, sm, pl⟩
    rw [List.take_of_length_le (by omega)] at pl
    exact ⟨_, rfl, q r6 H6 sm pl⟩
theorem okPlanI (T : Txt K mg) (n : Nat) (hn : n ≤ 5) (GPlanOfBody : FnOk P w K mg base CX0 (2 * n + 1) T.aPlanOfBody T.fPlanOfBody ["body", "number"] (spPlanB n)) : FnOk P w K mg base CX0 (2 * n + 2) T.aPlanOfItem T.fPlanOfItem ["item", "number"] (spPlanI n) := by
  have GOneOrOther : FnOk P w K mg base CX0 1 T.aOneOrOther T.fOneOrOther ["plan", "other"] spAlt := okAlt T
  have GBodiesWithin : FnOk P w K mg base CX0 1 T.aBodiesWithin T.fBodiesWithin ["item"] spWithin := okWithin T
  refine T.FPlanOfItem.ok scPlanOfItem (fun vs H Q E h => ?_) (fun cdv A outer s H vs Q E hr h => ?_)
  · obtain ⟨v, it, ns, k, rfl, _⟩ := h
    rfl
  obtain ⟨v, it, ns, k, rfl, hit, ok, hc, hd, q⟩ := h
  have hu := hu_of hr
  refine ⟨_, (pss_cons (ps_if (pt_val (pe_callB call_isi (by rfl) T.n_isinstance (by decide +kernel) (pa_cons (pv 0) (pa_cons (pe_bltn (v := .ty "str") (by rfl) T.n_str (by decide +kernel) rfl) pa_nil))))
        (pss_one (ps_ret (pe_tup (pa_cons (pe_lst (pa_cons (pv 0) pa_nil)) (pa_cons (pe_lst (pa_cons (pv 1) pa_nil)) (pa_cons (pe_lst (pa_cons (pv 1) pa_nil)) (pa_cons (pe_lst pa_nil) (pa_cons pe_bl pa_nil)))))))) pss_nil)
      (pss_cons (ps_set (i := 2) scPlanOfItem.nd rfl (by first | exact Or.inl rfl | exact Or.inr rfl) (pe_call GBodiesWithin (hr.mono (by omega)) rfl T.gBodiesWithin T.FBodiesWithin.kp T.bBodiesWithin .nil pass0 (pa_cons (pv 0) pa_nil)))
      (pss_cons (ps_set (i := 3) scPlanOfItem.nd rfl (by first | exact Or.inl rfl | exact Or.inr rfl) (pe_call GPlanOfBody (hr.mono (by omega)) rfl T.gPlanOfBody T.FPlanOfBody.kp T.bPlanOfBody .nil pass0 (pa_cons (pe_ix ix_list (pv 2) pe_int (fun _ _ => rfl)) (pa_cons (pv 1) pa_nil))))
      (pss_cons (ps_for PassesOwn.never rfl (pi_list (pe_slice sl_list (pv 2) (po_some pe_int) po_none)) (pg_name (i := 4) scPlanOfItem.nd rfl (by first | exact Or.inl rfl | exact Or.inr rfl))
        (pss_one (ps_set (i := 3) scPlanOfItem.nd rfl (by first | exact Or.inl rfl | exact Or.inr rfl) (pe_call GOneOrOther (hr.mono (by omega)) rfl T.gOneOrOther T.FOneOrOther.kp T.bOneOrOther .nil pass0 (pa_cons (pv 3) (pa_cons (pe_call GPlanOfBody (hr.mono (by omega)) rfl T.gPlanOfBody T.FPlanOfBody.kp T.bPlanOfBody .nil pass0 (pa_cons (pv 4) (pa_cons (pe_op op_add (pv 1) (pe_callB call_len_seq (by rfl) T.n_len PySem.boot_len (pa_cons (pe_ix ix_tup (pv 3) pe_int (fun _ _ => rfl)) pa_nil))) pa_nil))) pa_nil))))))
      (pss_cons (ps_asg (pv 3) (pg_tup rfl (pgs_cons (pg_name (i := 5) scPlanOfItem.nd rfl (by first | exact Or.inl rfl | exact Or.inr rfl)) (pgs_cons (pg_name (i := 6) scPlanOfItem.nd rfl (by first | exact Or.inl rfl | exact Or.inr rfl)) (pgs_cons (pg_name (i := 7) scPlanOfItem.nd rfl (by first | exact Or.inl rfl | exact Or.inr rfl)) (pgs_cons (pg_name (i := 8) scPlanOfItem.nd rfl (by first | exact Or.inl rfl | exact Or.inr rfl)) (pgs_cons (pg_name (i := 9) scPlanOfItem.nd rfl (by first | exact Or.inl rfl | exact Or.inr rfl)) pgs_nil)))))))
      (pss_cons (ps_if (pt_cmpR op_eq (pe_ix ix_tup (pv 0) pe_int (fun _ _ => rfl)) pe_str (nomark _))
        (pss_one (ps_ret (pv 3))) pss_nil)
      (pss_cons (ps_if (pt_cmpR op_eq (pe_ix ix_tup (pv 0) pe_int (fun _ _ => rfl)) pe_str (nomark _))
        (pss_one (ps_set (i := 8) scPlanOfItem.nd rfl (by first | exact Or.inl rfl | exact Or.inr rfl) (pe_op op_cat (pv 8) (pe_lc2 (own := [("last", 10), ("first", 11)]) (vs1 := [11]) (g := gName 10) (g1 := gName 11) (tt := tYes) (tt1 := tYes) rfl scPlanOfItem.nd (pi_list (pv 7)) (blkOk_by (N := ["item", "number", "inner", "plan", "body", "names", "firsts", "lasts", "pairs", "empty", "last", "first"]) (sc := defScope sPlanOfItem) (by decide +kernel)) (by decide) (fun _ _ _ _ _ => (pg_name (i := 10) scPlanOfItem.nd rfl (by first | exact Or.inl rfl | exact Or.inr rfl))) (fun _ _ _ _ _ => pts_nil) (fun _ _ _ _ _ => (pi_listK (K := K) rfl (pv 6))) (fun _ _ _ _ _ => (pg_name (i := 11) scPlanOfItem.nd rfl (by first | exact Or.inl rfl | exact Or.inr rfl))) (fun _ _ _ _ _ => pts_nil) (fun _ _ _ _ _ => (pe_tup (pa_cons (pv 10) (pa_cons (pv 11) pa_nil)))))))) pss_nil)
      (pss_one (ps_ret (pe_tup (pa_cons (pv 5) (pa_cons (pv 6) (pa_cons (pv 7) (pa_cons (pv 8) (pa_cons pe_bl pa_nil))))))))))))))), ?_⟩
  rcases it_two hit with ⟨x, rfl, rfl⟩ | ⟨t, xs, rfl, ht, hnc⟩
  · refine ⟨_, rfl, _, _, _, _, true, rfl, .ty _, ty_str x, kit_ty (by decide +kernel), _, rfl, iteT ?_⟩
    refine ⟨_, rfl, Nat.le_of_lt (small1000 (by simp)), fun p1 h1 => ?_⟩
    have s1 := same_upd h1 (.lst [V.str x])
    have g1 : (upd H p1 (.lst [V.str x])) p1 = some (.lst ([x].map V.str)) := upd_same
    generalize upd H p1 (.lst [V.str x]) = H1 at s1 g1 ⊢
    refine ⟨_, rfl, Nat.le_of_lt (small1000 (by simp)), fun p2 h2 => ?_⟩
    have s2 := same_upd h2 (.lst [V.int (k : Int)])
    have g2 : (upd H1 p2 (.lst [V.int (k : Int)])) p2 = some (.lst (nts [k])) := upd_same
    generalize upd H1 p2 (.lst [V.int (k : Int)]) = H2 at s2 g2 ⊢
    refine ⟨_, rfl, Nat.le_of_lt (small1000 (by simp)), fun p3 h3 => ?_⟩
    have s3 := same_upd h3 (.lst [V.int (k : Int)])
    have g3 : (upd H2 p3 (.lst [V.int (k : Int)])) p3 = some (.lst (nts [k])) := upd_same
    generalize upd H2 p3 (.lst [V.int (k : Int)]) = H3 at s3 g3 ⊢
    refine ⟨Nat.zero_le _, fun p4 h4 => ?_⟩
    have s4 := same_upd h4 (.lst [])
    have g4 : (upd H3 p4 (.lst [])) p4 = some (.lst []) := upd_same
    generalize upd H3 p4 (.lst []) = H4 at s4 g4 ⊢
    refine ⟨Nat.le_of_lt (small1000 (by simp)), fun r hr0 => ?_⟩
    have s5 := same_upd hr0 (.tup [.ref p1, .ref p2, .ref p3, .ref p4, .bl false])
    refine q r _ ((((s1.trans s2).trans s3).trans s4).trans s5) ?_
    simp only [planI]
    exact ⟨p1, p2, p3, p4, [], upd_same, s5 _ _ (s4 _ _ (s3 _ _ (s2 _ _ g1))), s5 _ _ (s4 _ _ (s3 _ _ g2)), s5 _ _ (s4 _ _ g3), s5 _ _ g4, .nil⟩
  refine ⟨_, rfl, _, _, _, _, false, rfl, .ty _, ty_tup ht, kit_ty (by decide +kernel), _, rfl, iteF ?_⟩
  refine ⟨_, rfl, t, it, ns, rfl, hit, ok, fun r ws H1 s1 hr1 hbd hne => ?_⟩
  have hbs := (hbd H (Same.refl _) hit).keep (Kp.of s1)
  have hbl := hbs.length
  have cb : nCBs (bodies it) = nC it := nC_bodies hnc
  have db := bodies_d it
  -- the first body
  obtain ⟨w0, wr, ew⟩ := List.exists_cons_of_ne_nil hne
  have hw0 : ws[0]? = some w0 := by rw [ew]; rfl
  obtain ⟨b0, bd0, rfl, q1, q2⟩ := hbs.get hw0
  obtain ⟨br, ebr⟩ : ∃ br, bodies it = bd0 :: br := by
    cases hb : bodies it with
    | nil => rw [hb] at q1; cases q1
    | cons x y => rw [hb] at q1; cases q1; exact ⟨y, rfl⟩
  have okbs := okBs_all.mp (bodies_ok it ok)
  have m0 : bd0 ∈ bodies it := by rw [ebr]; simp
  have cc : nCB bd0 + nCBs br = nCBs (bodies it) := by rw [ebr]; simp only [nCBs]
  have dd : max (dB bd0) (dBs br) = dBs (bodies it) := by rw [ebr]; simp only [dBs]
  refine ⟨_, rfl, _, _, _, _, rfl, rfl, SqL.of hr1, at_of (j := 0) rfl hw0, _, rfl, ?_⟩
  refine ⟨b0, bd0, ns, k, rfl, q2, okbs bd0 m0, by omega, by omega, fun r2 H2 s2 pl2 => ?_⟩
  have s02 := s1.trans s2
  have hr2 := s2 _ _ hr1
  -- the others
  refine ⟨_, rfl, _, rfl, ?_⟩
  dsimp only [tNoPart]
  refine ⟨r, _, rfl, SqL.of hr2, fun c hc0 => ?_⟩
  have s3 := same_upd hc0 (.lst (cutV ws (some 1) none))
  have ec : cutV ws (some 1) none = wr := by
    have := cut_from (xs := ws) (k := 1) (by rw [ew]; simp)
    rw [ew] at this ⊢
    exact this
  rw [ec] at s3 ⊢
  have gc : (upd H2 c (.lst wr)) c = some (.lst wr) := upd_same
  have pl3 := pl2.keep s3
  generalize upd H2 c (.lst wr) = H3 at s3 gc pl3 ⊢
  have s03 := s02.trans s3
  have hbs3 : BdsAt H3 wr br := by
    have := hbs.keep (Kp.of (s2.trans s3))
    rw [ew, ebr] at this
    cases this with
    | cons _ _ t => exact t
  have hlr := hbs3.length
  refine ⟨c, rfl, ⟨_, SqL.of gc⟩, ?_⟩
  refine for_list (K := K) (D := ⟨_, Q, fun _ _ => False, fun _ _ => False⟩) (a := c) (xs := wr) (fun i σ H' => ∃ r9 v4, σ = [some (.ref t), some (.int (k : Int)), some (.ref r), some (.ref r9), v4, none, none, none, none, none, none, none] ∧ Same H3 H' ∧ PlAt H' r9 (planA (br.take i) (planB bd0 .e0 k) k)) ⟨r2, none, rfl, Same.refl _, by rw [List.take_zero]; simp only [planA]; exact pl3⟩ ?_ ?_ ?_
  · rintro i σ H' _ ⟨_, _, _, sm, _⟩
    exact SqL.of (sm _ _ gc)
  · rintro i y σ H6 hi ⟨r6, v4, rfl, sm, pl⟩
    obtain ⟨b1, bd, rfl, e1, e2⟩ := hbs3.get hi
    have hm : bd ∈ br := List.mem_of_getElem? e1
    have c1 := nCBs_mem hm
    have d1 := dBs_mem hm
    have ct := nCBs_take br i
    have dt := dBs_take br i
    have pe : planA (br.take i) (planB bd0 .e0 k) k = planO (bd0 :: br.take i) k := by simp only [planO]
    have few : (planA (br.take i) (planB bd0 .e0 k) k).Few := by
      rw [pe]
      exact planO_few (D := n) (by simp only [dBs]; omega) (by omega) (by simp only [nCBs]; omega)
    have fewB : (planB bd .e0 (k + (planA (br.take i) (planB bd0 .e0 k) k).nm.length)).Few := planB_few (D := n) (by omega) (by omega) (by omega)
    obtain ⟨n1, f1, l1, p1, ws1, a1, a2, a3, a4, a5, a6⟩ := id pl
    refine ⟨_, rfl, _, rfl, _, rfl, _, rfl, _, _, _, _, rfl, rfl, SqT.of a1, at_of (j := 0) rfl rfl, n1, _, rfl, .inl (SqL.of a2), _, _, rfl, rfl, ?_⟩
    refine ⟨b1, bd, ns, k + (planA (br.take i) (planB bd0 .e0 k) k).nm.length, by rw [List.length_map]; rfl, e2.keep (Kp.of sm), okbs bd (by rw [ebr]; exact List.mem_cons_of_mem _ hm), by omega, by omega, fun r7 H7 s7 pl7 => ?_⟩
    exact ⟨r6, r7, _, _, rfl, pl.keep s7, pl7, few, fewB, fun r8 H8 s8 pl8 => ⟨r8, _, rfl, (sm.trans s7).trans s8, by rw [planA_take e1]; exact pl8⟩⟩
  rintro σ H6 ⟨r6, v4, rfl, sm, pl⟩
  rw [List.take_of_length_le (by omega)] at pl
  have pe : planA br (planB bd0 .e0 k) k = planO (bodies it) k := by rw [ebr]; simp only [planO]
  rw [pe] at pl
  have few : (planO (bodies it) k).Few := planO_few (D := n) (by omega) (by omega) (by omega)
  have epl := planI_bodies it k hnc
  have s06 := s03.trans sm
  obtain ⟨n1, f1, l1, p1, ws1, a1, a2, a3, a4, a5, a6⟩ := id pl
  refine ⟨_, rfl, r6, _, rfl, SqT.of a1, rfl, _, _, rfl, _, _, rfl, _, _, rfl, _, _, rfl, _, _, rfl, rfl, ?_⟩
  have ht6 := s06 _ _ ht
  have k4 := few.fs
  have k5 := few.ls
  have k7 := few.ps
  have kw := a6.length
  cases hit.keep (Kp.of s06) with
  | @may _ b' vs' l' h1 h2 h3 =>
    refine ⟨_, rfl, _, _, _, _, rfl, rfl, SqT.of h1, at_of (j := 0) rfl rfl, rfl, _, rfl, ite2 (fun c => absurd (of_decide_eq_true c) (by decide)) (fun _ => ?_)⟩
    refine ⟨_, rfl, _, _, _, _, rfl, rfl, SqT.of h1, at_of (j := 0) rfl rfl, rfl, _, rfl, ite2 (fun c => absurd (of_decide_eq_true c) (by decide)) (fun _ => ?_)⟩
    refine ⟨_, rfl, _, rfl, _, rfl, _, rfl, Nat.le_of_lt (small1000 (by simp)), fun Z hZ => q Z _ (s06.trans (same_upd hZ _)) ?_⟩
    rw [epl]
    have sZ := same_upd hZ (.tup [.ref n1, .ref f1, .ref l1, .ref p1, .bl true])
    exact ⟨n1, f1, l1, p1, ws1, upd_same, sZ _ _ a2, sZ _ _ a3, sZ _ _ a4, sZ _ _ a5, a6.keep fun _ _ e => sZ _ _ e⟩
  | @one _ b' vs' ls h1 h2 h3 =>
    refine ⟨_, rfl, _, _, _, _, rfl, rfl, SqT.of h1, at_of (j := 0) rfl rfl, rfl, _, rfl, ite2 (fun _ => ?_) (fun c => absurd (decide_eq_true rfl) c)⟩
    refine ⟨_, rfl, q r6 H6 s06 ?_⟩
    rw [epl]
    exact pl
  | @loop _ b' vs' l' h1 h2 h3 =>
    refine ⟨_, rfl, _, _, _, _, rfl, rfl, SqT.of h1, at_of (j := 0) rfl rfl, rfl, _, rfl, ite2 (fun c => absurd (of_decide_eq_true c) (by decide)) (fun _ => ?_)⟩
    refine ⟨_, rfl, _, _, _, _, rfl, rfl, SqT.of h1, at_of (j := 0) rfl rfl, rfl, _, rfl, ite2 (fun _ => ?_) (fun c => absurd (decide_eq_true rfl) c)⟩
    refine ⟨_, rfl, _, rfl, l1, rfl, ⟨_, SqL.of a4⟩, fun D hD => lc2S a4 (by omega) (by omega) hD (by decide) (Nat.lt_of_lt_of_eq (by decide : 10 < 12) rfl) (Nat.lt_of_lt_of_eq (by decide : 11 < 12) rfl) (fun σ' H' q Q s1 e k => ?_) a3 (fun σ' H' p q Q e1 e2 k => ?_) fun H7 ws7 s7 hD7 hp7 => ?_⟩
    · subst e
      exact ⟨_, rfl, f1, rfl, ⟨_, SqL.of (s1 _ _ a3)⟩, k⟩
    · exact ⟨_, e1, _, e2, Nat.le_of_lt (small1000 (by simp)), k⟩
    have kb2 : (both (planO (bodies (.loop l')) k).ls (planO (bodies (.loop l')) k).fs).length ≤ 64 := by
      rw [both_len]
      exact Nat.le_trans (Nat.mul_le_mul k5 k4) (by decide)
    have kp := hp7.length
    refine ⟨p1, D, _, _, rfl, rfl, s7 _ _ a5, hD7, Nat.le_of_lt (small1000 (by omega)), fun R hR => ?_⟩
    have sR := same_upd hR (.lst (ws1 ++ ws7))
    have gR : (upd H7 R (.lst (ws1 ++ ws7))) R = some (.lst (ws1 ++ ws7)) := upd_same
    have hp8 := (a6.keep (H' := upd H7 R (.lst (ws1 ++ ws7))) (fun _ _ e => sR _ _ (s7 _ _ e))).app (hp7.keep (H' := upd H7 R (.lst (ws1 ++ ws7))) fun _ _ e => sR _ _ e)
    have s8 := s7.trans sR
    generalize upd H7 R (.lst (ws1 ++ ws7)) = H8 at sR gR hp8 s8 ⊢
    refine ⟨_, rfl, _, rfl, _, rfl, _, rfl, Nat.le_of_lt (small1000 (by simp)), fun Z hZ => q Z _ ((s06.trans s8).trans (same_upd hZ _)) ?_⟩
    rw [epl]
    have sZ := same_upd hZ (.tup [.ref n1, .ref f1, .ref l1, .ref R, .bl true])
    have s9 := s8.trans sZ
    exact ⟨n1, f1, l1, R, ws1 ++ ws7, upd_same, s9 _ _ a2, s9 _ _ a3, s9 _ _ a4, sZ _ _ gR, hp8.keep fun _ _ e => sZ _ _ e⟩
theorem okPlans (T : Txt K mg) : ∀ n : Nat, n ≤ 5 → FnOk P w K mg base CX0 (2 * n + 1) T.aPlanOfBody T.fPlanOfBody ["body", "number"] (spPlanB n)
  | 0, _ => fn_never fun vs H Q E h => by
    obtain ⟨b, l, ns, k, _, _, _, _, h0, _⟩ := h
    have := dB_pos l
    omega
  | n + 1, hn => okPlanB T n (by omega) (okPlanI T n (by omega) (okPlans T n (by omega)))
end K05


set_option Elab.async false
set_option linter.all false
set_option maxRecDepth 100000
set_option maxHeartbeats 4000000
namespace K05
open PySem PySem.Spec PyProof.Rows L2 FA
variable {P : Program} {w : World} {K : PySem.W.Frag} {mg : Str → Option Value} {base : Heap}
def spNetOf : Sp := fun vs H Q _ => ∃ (b : Addr) (l : List FA.It) (ns : List Str), vs = [.ref b] ∧ BdAt H b l ∧ okB ns l ∧ nCB l ≤ 8 ∧ dB l ≤ 5 ∧ ∀ t H', Same H H' → NetAt H' t (planB l .e0 1) → Q (.ref t) H'
theorem okNetOf (T : Txt K mg) : FnOk P w K mg base CX0 12 T.aNetOf T.fNetOf ["body"] spNetOf := by
  have GPlanOfBody : FnOk P w K mg base CX0 11 T.aPlanOfBody T.fPlanOfBody ["body", "number"] (spPlanB 5) := okPlans T 5 (by omega)
  refine T.FNetOf.ok scNetOf (fun vs H Q E h => ?_) (fun cdv A outer s H vs Q E hr h => ?_)
  · obtain ⟨b, l, ns, rfl, _⟩ := h
    rfl
  obtain ⟨b, l, ns, rfl, hb, ok, hc, hd, q⟩ := h
  have hu := hu_of hr
  refine ⟨_, (pss_cons (ps_asg (pe_call GPlanOfBody (hr.mono (by omega)) rfl T.gPlanOfBody T.FPlanOfBody.kp T.bPlanOfBody .nil pass0 (pa_cons (pv 0) (pa_cons pe_int pa_nil))) (pg_tup rfl (pgs_cons (pg_name (i := 4) scNetOf.nd rfl (by first | exact Or.inl rfl | exact Or.inr rfl)) (pgs_cons (pg_name (i := 5) scNetOf.nd rfl (by first | exact Or.inl rfl | exact Or.inr rfl)) (pgs_cons (pg_name (i := 6) scNetOf.nd rfl (by first | exact Or.inl rfl | exact Or.inr rfl)) (pgs_cons (pg_name (i := 7) scNetOf.nd rfl (by first | exact Or.inl rfl | exact Or.inr rfl)) (pgs_cons (pg_name (i := 8) scNetOf.nd rfl (by first | exact Or.inl rfl | exact Or.inr rfl)) pgs_nil)))))))
      (pss_cons (ps_set (i := 1) scNetOf.nd rfl (by first | exact Or.inl rfl | exact Or.inr rfl) (pe_op op_cat (pe_lc (own := [("first", 10)]) (g := gName 10) (tt := tYes) rfl scNetOf.nd (pi_list (pv 5)) (blkOk_by (N := ["body", "moves", "nexts", "ends", "names", "firsts", "lasts", "pairs", "empty", "state", "first", "before", "after"]) (sc := defScope sNetOf) (by decide +kernel)) (fun _ _ _ _ _ => (pg_name (i := 10) scNetOf.nd rfl (by first | exact Or.inl rfl | exact Or.inr rfl))) (fun _ _ _ _ _ => pts_nil) (fun _ _ _ _ _ => (pe_tup (pa_cons pe_int (pa_cons (pv 10) pa_nil))))) (pv 7)))
      (pss_cons (ps_setLc (i := 2) (own := [("state", 9)]) (g := gName 9) (tt := tYes) rfl scNetOf.nd rfl rfl (sw_true rfl rfl rfl (by decide +kernel)) (pi_range1 (by rfl) T.n_range (pa_cons (pe_op op_add (pe_callB call_len_seq (by rfl) T.n_len PySem.boot_len (pa_cons (pv 4) pa_nil)) pe_int) pa_nil)) (blkOk_by (N := ["body", "moves", "nexts", "ends", "names", "firsts", "lasts", "pairs", "empty", "state", "first", "before", "after"]) (sc := defScope sNetOf) (by decide +kernel)) (fun _ _ _ _ _ => (pg_name (i := 9) scNetOf.nd rfl (by first | exact Or.inl rfl | exact Or.inr rfl))) (fun _ _ _ _ _ => pts_nil) (fun _ _ _ _ _ => (pe_callB (cr_sortedSetK (w := w) rfl rfl) (by rfl) T.n_sorted (by decide +kernel) (pa_cons (pe_siK (w := w) (own := [("before", 11), ("after", 12)]) (g := gTup K 2 (gCons (gName 11) (gCons (gName 12) gNil))) rfl rfl scNetOf.nd (pi_listK (K := K) rfl (pv 1)) (blkOk_by (N := ["body", "moves", "nexts", "ends", "names", "firsts", "lasts", "pairs", "empty", "state", "first", "before", "after"]) (by rfl)) (fun _ _ _ _ _ => (pg_tup rfl (pgs_cons (pg_name (i := 11) scNetOf.nd rfl (by first | exact Or.inl rfl | exact Or.inr rfl)) (pgs_cons (pg_name (i := 12) scNetOf.nd rfl (by first | exact Or.inl rfl | exact Or.inr rfl)) pgs_nil)))) (fun _ _ _ _ _ => (pts_one (pt_cmpR op_eq (pv 11) (pv 9) (nomark _)))) (fun _ _ _ _ _ => (pv 12))) pa_nil))))
      (pss_cons (ps_set (i := 3) scNetOf.nd rfl (by first | exact Or.inl rfl | exact Or.inr rfl) (pe_ifExp (pt_val (pv 8)) (pe_op op_cat (pe_lst (pa_cons pe_int pa_nil)) (pv 6)) (pv 6)))
      (pss_one (ps_ret (pe_tup (pa_cons (pe_op op_cat (pe_lst (pa_cons pe_non pa_nil)) (pv 4)) (pa_cons (pv 2) (pa_cons (pv 3) pa_nil)))))))))), ?_⟩
  have few : (planB l .e0 1).Few := planB_few (D := 5) (by omega) (by omega) (by omega)
  have inn : (planB l .e0 1).In 1 := planB_in l .e0 1 e0_in
  refine ⟨_, rfl, b, l, ns, 1, rfl, hb, ok, hc, hd, fun t H1 s1 pl => ?_⟩
  generalize planB l .e0 1 = a at q few inn pl
  obtain ⟨n1, f1, l1, p1, ws1, a1, a2, a3, a4, a5, a6⟩ := pl
  have k1 := few.nm
  have k4 := few.fs
  have k5 := few.ls
  have k7 := few.ps
  have kw := a6.length
  refine ⟨t, _, rfl, SqT.of a1, rfl, _, _, rfl, _, _, rfl, _, _, rfl, _, _, rfl, _, _, rfl, rfl, ?_⟩
  have bl1 : (a.fs.map fun q => (0, q)).length = a.fs.length := by rw [List.length_map]
  refine ⟨_, rfl, f1, rfl, ⟨_, SqL.of a3⟩, fun D hD => lcS (n := (nts a.fs).length) hD (small1000 (by rw [nts_len]; omega)) _ (fun j v H => ∃ (q : Nat) (t : Addr), a.fs[j]? = some q ∧ v = .ref t ∧ H t = some (.tup [.int 0, .int (q : Int)])) (go_l (SqL.of a3)) (stop_l (SqL.of a3)) (yld_l (SqL.of a3)) (fun j v A B h ⟨q, t, e1, e2, e3⟩ => ⟨q, t, e1, e2, h _ _ e3⟩) ?_ ?_⟩
  · intro i x H2 R hi hx s2 k
    obtain ⟨q0, e1, rfl⟩ := nts_get hx
    exact ⟨rfl, _, rfl, Nat.le_of_lt (small1000 (by simp)), fun t ht => k _ _ (same_upd ht _) ⟨q0, t, e1, rfl, upd_same⟩⟩
  intro H2 ys s2 hy hyl hg
  rw [nts_len] at hyl
  have mv0 : PrsAt H2 ys (a.fs.map fun q => (0, q)) := prs_of (by rw [bl1]; exact hyl) fun j y hj => by
    obtain ⟨q0, t, e1, e2, e3⟩ := hg j y hj
    exact ⟨t, (0, q0), e2, by rw [List.getElem?_map, e1]; rfl, e3⟩
  have mv := mv0.app (a6.keep (H' := H2) fun _ _ e => s2 _ _ e)
  refine ⟨_, rfl, D, p1, _, _, rfl, rfl, hy, s2 _ _ a5, Nat.le_of_lt (small1000 (by omega)), fun M hM => ?_⟩
  have sM := same_upd hM (.lst (ys ++ ws1))
  have gM : (upd H2 M (.lst (ys ++ ws1))) M = some (.lst (ys ++ ws1)) := upd_same
  have mv := mv.keep (H' := upd H2 M (.lst (ys ++ ws1))) fun _ _ e => sM _ _ e
  have s12 := s2.trans sM
  generalize upd H2 M (.lst (ys ++ ws1)) = H3 at sM gM mv s12 ⊢
  have ml : (ys ++ ws1).length = ((a.fs.map fun q => (0, q)) ++ a.ps).length := mv.length
  have ml2 : ((a.fs.map fun q => (0, q)) ++ a.ps).length ≤ 408 := by rw [List.length_append, bl1]; omega
  have mm : ∀ i q : Nat, (i, q) ∈ (a.fs.map fun q => (0, q)) ++ a.ps ↔ nxt a i q := fun i q => by
    rw [List.mem_append, List.mem_map]
    constructor
    · rintro (⟨z, hz, e⟩ | h)
      · cases e; exact .inl ⟨rfl, hz⟩
      · exact .inr h
    · rintro (⟨rfl, h⟩ | h)
      · exact .inl ⟨q, h, rfl⟩
      · exact .inr h
  generalize (a.fs.map fun q => (0, q)) ++ a.ps = mvs at mv ml ml2 mm
  -- the next ones
  have eN : (((a.nm.map V.str).length : Int) + 1).toNat = a.nm.length + 1 := by rw [List.length_map]; omega
  refine ⟨_, rfl, n1, _, rfl, .inl (SqL.of (s12 _ _ a2)), _, _, rfl, rfl, _, rfl, by omega, by rw [List.length_map]; omega, ?_⟩
  rw [eN]
  intro D2 hD2
  refine lcS2 (n := a.nm.length + 1) hD2 (small1000 (by omega)) (fun i x => x = V.int (0 + (i : Int))) (fun j v H => ∃ (b : Addr) (qs : List Nat), v = .ref b ∧ b ≠ D2 ∧ H b = some (.lst (nts qs)) ∧ qs.length ≤ 60 ∧ ∀ q, q ∈ qs ↔ nxt a j q) (fun i H _ hi => hi) (fun H _ => Nat.le_refl _) (fun i H x H' _ _ y => y) (fun j v A B h ⟨b, qs, e1, e2, e3, e4⟩ => ⟨b, qs, e1, e2, h _ _ e2 e3, e4⟩) ?_ ?_
  · rintro i _ H4 R hi rfl s4 ⟨ys4, hD4⟩ k
    refine ⟨rfl, _, rfl, M, rfl, ⟨_, SqL.of (s4 _ _ gM)⟩, fun D3 hD3 => ?_⟩
    refine siL (H1 := H4) (n := (ys ++ ws1).length) hD3 (same_upd0 hD3 _) Mk.new _ (fun j => match mvs[j]? with | some m => if m.1 = i then some m.2 else none | none => none) (go_l (SqL.of (s4 _ _ gM))) (stop_l (SqL.of (s4 _ _ gM))) (yld_l (SqL.of (s4 _ _ gM))) ?_ ?_ ?_
    · intro j q0 hj hv
      cases e : mvs[j]? with
      | none => rw [e] at hv; cases hv
      | some m =>
        rw [e] at hv
        by_cases h : m.1 = i
        · simp only [if_pos h] at hv
          cases hv
          have := nxt_in inn ((mm m.1 m.2).mp (List.mem_of_getElem? e))
          omega
        · simp only [if_neg h] at hv
          cases hv
    · intro j x H5 body hj hx s5 kk
      obtain ⟨t1, m, rfl, e1, e2⟩ := mv.get hx
      refine ⟨t1, _, rfl, SqT.of (s5 _ _ (s4 _ _ e2)), rfl, _, _, rfl, _, _, rfl, rfl, rfl, _, rfl, _, rfl, rfl, _, rfl, ?_⟩
      by_cases h : m.1 = i
      · have e : V.int (m.1 : Int) = V.int (0 + (i : Int)) := by rw [h, Int.zero_add]
        rw [decide_eq_true e]
        exact (kk _).2 m.2 (by simp only [e1, if_pos h]) fun Q k => ⟨_, rfl, k⟩
      · have e : ¬ V.int (m.1 : Int) = V.int (0 + (i : Int)) := fun z => by
          injection z with z
          omega
        rw [decide_eq_false e]
        exact (kk _).1 (by simp only [e1, if_neg h])
    · intro H5 s5 mk
      refine sorted_mk mk fun qs p hl hm hp => ?_
      have hpD : p ≠ D2 := fun z => by rw [z, s5 _ _ hD4] at hp; cases hp
      refine k _ _ (s5.trans (same_upd0 hp _)) ⟨p, qs, rfl, hpD, upd_same, hl, fun q0 => ?_⟩
      rw [hm, ← mm]
      constructor
      · rintro (h | ⟨j, hj, hv⟩)
        · exact h.elim
        · cases e : mvs[j]? with
          | none => rw [e] at hv; cases hv
          | some m =>
            rw [e] at hv
            by_cases h : m.1 = i
            · simp only [if_pos h] at hv
              cases hv
              rw [← h]
              exact List.mem_of_getElem? e
            · simp only [if_neg h] at hv
              cases hv
      · intro h
        obtain ⟨j, hj⟩ := List.mem_iff_getElem?.mp h
        refine .inr ⟨j, ?_, by simp only [hj, if_true]⟩
        rw [ml]
        by_cases z : j < mvs.length
        · exact z
        · rw [List.getElem?_eq_none (by omega)] at hj; cases hj
  intro H4 ys4 s4 hy4 hl4 hg4
  have s14 := s12.trans s4
  -- the ends
  refine ⟨_, rfl, _, rfl, ?_⟩
  refine ite2 (fun c => ?A) (fun c => ?B)
  case' A =>
    refine ⟨Nat.le_of_lt (small1000 (by simp)), fun z hz => ?_⟩
    have sz := same_upd hz (.lst [V.int 0])
    refine ⟨_, rfl, z, l1, _, _, rfl, rfl, upd_same, sz _ _ (s14 _ _ a4), Nat.le_of_lt (small1000 (by simp only [nts_len, List.length_cons, List.length_nil]; omega)), fun e he => ?_⟩
    have sE := sz.trans (same_upd he (.lst ([V.int 0] ++ nts a.ls)))
    have gE : (upd (upd H4 z (.lst [V.int 0])) e (.lst ([V.int 0] ++ nts a.ls))) e = some (.lst (nts (ends a))) := by rw [upd_same]; unfold ends; rw [if_pos c]; rfl
    generalize upd (upd H4 z (.lst [V.int 0])) e (.lst ([V.int 0] ++ nts a.ls)) = H5 at sE gE ⊢
  case' B =>
    refine ⟨_, rfl, ?_⟩
    obtain ⟨e, ee⟩ : ∃ z, z = l1 := ⟨_, rfl⟩
    obtain ⟨H5, e5⟩ : ∃ z, z = H4 := ⟨_, rfl⟩
    have sE : Same H4 H5 := by rw [e5]; exact Same.refl _
    have gE : H5 e = some (.lst (nts (ends a))) := by unfold ends; rw [if_neg c, ee, e5]; exact s14 _ _ a4
    rw [← ee, ← e5]
  all_goals
    have s15 := s14.trans sE
    refine ⟨Nat.le_of_lt (small1000 (by simp)), fun z2 hz2 => ?_⟩
    have sz2 := same_upd hz2 (.lst [V.non])
    refine ⟨_, rfl, z2, n1, _, _, rfl, rfl, upd_same, sz2 _ _ (s15 _ _ a2), Nat.le_of_lt (small1000 (by simp only [List.length_map, List.length_cons, List.length_nil]; omega)), fun N hN => ?_⟩
    have sN := sz2.trans (same_upd hN (.lst ([V.non] ++ a.nm.map V.str)))
    have gN : (upd (upd H5 z2 (.lst [V.non])) N (.lst ([V.non] ++ a.nm.map V.str))) N = some (.lst (.non :: a.nm.map V.str)) := upd_same
    generalize upd (upd H5 z2 (.lst [V.non])) N (.lst ([V.non] ++ a.nm.map V.str)) = H6 at sN gN ⊢
    refine ⟨_, rfl, _, rfl, Nat.le_of_lt (small1000 (by simp)), fun Z hZ => q Z _ (((s1.trans s15).trans sN).trans (same_upd hZ _)) ?_⟩
    have sZ := same_upd hZ (.tup [.ref N, .ref D2, .ref e])
    have s46 := (sE.trans sN).trans sZ
    exact ⟨N, D2, e, ys4, upd_same, sZ _ _ gN, s46 _ _ hy4, hl4, fun j v hj => let ⟨b, qs, h1, _, h2, h3⟩ := hg4 j v hj; ⟨b, qs, h1, s46 _ _ h2, h3⟩, sZ _ _ (sN _ _ gE)⟩
end K05


set_option Elab.async false
set_option linter.all false
set_option maxRecDepth 100000
set_option maxHeartbeats 4000000
namespace K05
open PySem PySem.Spec PyProof.Rows L2 FA
variable {P : Program} {w : World} {K : PySem.W.Frag} {mg : Str → Option Value} {base : Heap}
def spStatesAfter : Sp := fun vs H Q _ => ∃ (t s : Addr) (a : Pl) (ss : List Nat) (x : Str), vs = [.ref t, .ref s, .str x] ∧ NetAt H t a ∧ a.In 1 ∧ a.nm.length ≤ 8 ∧ H s = some (.lst (nts ss)) ∧ ss.length ≤ 60 ∧ (∀ q ∈ ss, q ≤ a.nm.length) ∧ ∀ r H' qs, Same H H' → H' r = some (.lst (nts qs)) → qs.length ≤ 60 → (∀ q, q ∈ qs ↔ ∃ s ∈ ss, nxt a s q ∧ nmz a q = some x) → Q (.ref r) H'
theorem okStatesAfter (T : Txt K mg) : FnOk P w K mg base CX0 1 T.aStatesAfter T.fStatesAfter ["net", "states", "name"] spStatesAfter := by
  refine T.FStatesAfter.ok scStatesAfter (fun vs H Q E h => ?_) (fun cdv A outer s H vs Q E hr h => ?_)
  · obtain ⟨t, s, a, ss, x, rfl, _⟩ := h
    rfl
  obtain ⟨t, sl, a, ss, x, rfl, ⟨n, nx, e, ws, h1, h2, h3, h4, h5, h6⟩, inn, ka, hs, hsl, hsb, q⟩ := h
  have hu := hu_of hr
  refine ⟨_, (pss_cons (ps_asg (pv 0) (pg_tup rfl (pgs_cons (pg_name (i := 3) scStatesAfter.nd rfl (by first | exact Or.inl rfl | exact Or.inr rfl)) (pgs_cons (pg_name (i := 4) scStatesAfter.nd rfl (by first | exact Or.inl rfl | exact Or.inr rfl)) (pgs_cons (pg_name (i := 5) scStatesAfter.nd rfl (by first | exact Or.inl rfl | exact Or.inr rfl)) pgs_nil)))))
      (pss_one (ps_ret (pe_callB (cr_sortedSet rfl) (by rfl) T.n_sorted (by decide +kernel) (pa_cons (pe_si2 (own := [("state", 6), ("after", 7)]) (vs1 := [7]) (g := gName 6) (g1 := gName 7) (tt := tYes) rfl scStatesAfter.nd (pi_list (pv 1)) (blkOk_by (N := ["net", "states", "name", "names", "nexts", "_", "state", "after"]) (sc := defScope sStatesAfter) (by decide +kernel)) (by decide) (fun _ _ _ _ _ => (pg_name (i := 6) scStatesAfter.nd rfl (by first | exact Or.inl rfl | exact Or.inr rfl))) (fun _ _ _ _ _ => pts_nil) (fun _ _ _ _ _ => (pi_listK (K := K) rfl (pe_ix (ix_listK (K := K) rfl) (pv 4) (pv 6) (fun _ _ => rfl)))) (fun _ _ _ _ _ => (pg_name (i := 7) scStatesAfter.nd rfl (by first | exact Or.inl rfl | exact Or.inr rfl))) (fun _ _ _ _ _ => (pts_one (pt_cmpR op_eq (pe_ix (ix_listK (K := K) rfl) (pv 3) (pv 7) (fun _ _ => rfl)) (pv 2) (nomark _)))) (fun _ _ _ _ _ => (pv 7))) pa_nil))))), ?_⟩
  refine ⟨_, rfl, t, _, rfl, SqT.of h1, rfl, _, _, rfl, _, _, rfl, _, _, rfl, rfl, ?_⟩
  refine ⟨_, rfl, sl, rfl, ⟨_, SqL.of hs⟩, fun D hD => ?_⟩
  refine si2S (n := (nts ss).length) hD (fun i x => (nts ss)[i]? = some x) (fun i q => ∃ s, ss[i]? = some s ∧ nxt a s q ∧ nmz a q = some x) (go_l (SqL.of hs)) (stop_l (SqL.of hs)) (yld_l (SqL.of hs)) ?_ ?_
  · rintro i y H1 C0 N hi hy s1 mk kk
    obtain ⟨s0, e1, rfl⟩ := nts_get hy
    have hs0 := hsb s0 (List.mem_of_getElem? e1)
    refine ⟨rfl, yesT ?_⟩
    rw [if_pos rfl]
    have hw : s0 < ws.length := by omega
    obtain ⟨b, qs, z, hb, hql, hqm⟩ := h5 s0 ws[s0] (List.getElem?_eq_getElem hw)
    have hw' : ws[s0]? = some (.ref b) := by rw [List.getElem?_eq_getElem hw, z]
    refine ⟨_, rfl, _, rfl, _, _, _, _, rfl, rfl, SqL.of (s1 _ _ h3), at_of (j := s0) rfl hw', b, rfl, ⟨_, SqL.of (s1 _ _ hb)⟩, ?_⟩
    refine siL (H1 := H) (n := (nts qs).length) hD s1 mk (fun j x => (nts qs)[j]? = some x) (fun j => match qs[j]? with | some q0 => if nmz a q0 = some x then some q0 else none | none => none) (go_l (SqL.of hb)) (stop_l (SqL.of hb)) (yld_l (SqL.of hb)) ?_ ?_ ?_
    · intro j q0 hj hv
      cases e : qs[j]? with
      | none => rw [e] at hv; cases hv
      | some m =>
        rw [e] at hv
        have := nxt_in inn ((hqm m).mp (List.mem_of_getElem? e))
        by_cases h : nmz a m = some x
        · simp only [if_pos h] at hv
          cases hv
          omega
        · simp only [if_neg h] at hv
          cases hv
    · intro j y H2 body hj hy s2 k2
      obtain ⟨m, e2, rfl⟩ := nts_get hy
      have hm := nxt_in inn ((hqm m).mp (List.mem_of_getElem? e2))
      obtain ⟨m', rfl⟩ : ∃ m', m = m' + 1 := ⟨m - 1, by omega⟩
      have hm' : m' < a.nm.length := by omega
      have hn : nmz a (m' + 1) = some a.nm[m'] := by
        unfold nmz
        rw [if_neg (by omega), Nat.add_sub_cancel, List.getElem?_eq_getElem hm']
      have hnv : (V.non :: a.nm.map V.str)[m' + 1]? = some (V.str a.nm[m']) := by
        rw [List.getElem?_cons_succ, List.getElem?_map, List.getElem?_eq_getElem hm']
        rfl
      refine ⟨rfl, _, rfl, _, rfl, _, _, _, _, rfl, rfl, SqL.of (s2 _ _ h2), at_of (j := m' + 1) rfl hnv, _, rfl, rfl, _, rfl, ?_⟩
      by_cases h : a.nm[m'] = x
      · rw [decide_eq_true (congrArg V.str h)]
        exact (k2 _).2 (m' + 1) (by simp only [e2, hn, h, if_true]) fun Q k => ⟨_, rfl, k⟩
      · rw [decide_eq_false (fun z => h (by injection z))]
        refine (k2 _).1 ?_
        simp only [e2, hn]
        rw [if_neg (fun z => h (Option.some.inj z))]
    · intro H2 s2 mk2
      refine kk H2 s2 (mk2.iff fun q0 => ?_)
      refine or_congr Iff.rfl ?_
      constructor
      · rintro ⟨j, hj, hv⟩
        cases e : qs[j]? with
        | none => rw [e] at hv; cases hv
        | some m =>
          rw [e] at hv
          by_cases h : nmz a m = some x
          · simp only [if_pos h] at hv
            cases hv
            exact ⟨s0, e1, (hqm _).mp (List.mem_of_getElem? e), h⟩
          · simp only [if_neg h] at hv
            cases hv
      · rintro ⟨s', e', hn, hx⟩
        rw [e1] at e'
        cases e'
        obtain ⟨j, hj⟩ := List.mem_iff_getElem?.mp ((hqm _).mpr hn)
        refine ⟨j, ?_, by simp only [hj, hx, if_true]⟩
        rw [nts_len]
        by_cases z : j < qs.length
        · exact z
        · rw [List.getElem?_eq_none (by omega)] at hj; cases hj
  · intro H1 s1 mk
    refine sorted_mk mk fun qs p hl hm hp => q p _ qs (s1.trans (same_upd0 hp _)) upd_same hl fun q0 => ?_
    rw [hm]
    constructor
    · rintro ⟨j, hj, s', e', k⟩
      exact ⟨s', List.mem_of_getElem? e', k⟩
    · rintro ⟨s', m', k⟩
      obtain ⟨j, hj⟩ := List.mem_iff_getElem?.mp m'
      refine ⟨j, ?_, s', hj, k⟩
      rw [nts_len]
      by_cases z : j < ss.length
      · exact z
      · rw [List.getElem?_eq_none (by omega)] at hj; cases hj
def spStatesBehind : Sp := fun vs H Q _ => ∃ (t l : Addr) (a : Pl) (u : List Str), vs = [.ref t, .ref l] ∧ NetAt H t a ∧ a.In 1 ∧ a.nm.length ≤ 8 ∧ H l = some (.lst (u.map V.str)) ∧ u.length ≤ 300 ∧ ∀ r H' qs, Same H H' → H' r = some (.lst (nts qs)) → qs.length ≤ 60 → (∀ q, q ∈ qs ↔ Beh a u q) → Q (.ref r) H'
theorem okStatesBehind (T : Txt K mg) : FnOk P w K mg base CX0 2 T.aStatesBehind T.fStatesBehind ["net", "word"] spStatesBehind := by
  have GStatesAfter : FnOk P w K mg base CX0 1 T.aStatesAfter T.fStatesAfter ["net", "states", "name"] spStatesAfter := okStatesAfter T
  refine T.FStatesBehind.ok scStatesBehind (fun vs H Q E h => ?_) (fun cdv A outer s H vs Q E hr h => ?_)
  · obtain ⟨t, l, a, u, rfl, _⟩ := h
    rfl
  obtain ⟨t, l, a, u, rfl, hn, inn, ka, hl, hu300, q⟩ := h
  have hu := hu_of hr
  refine ⟨_, (pss_cons (ps_set (i := 2) scStatesBehind.nd rfl (by first | exact Or.inl rfl | exact Or.inr rfl) (pe_lst (pa_cons pe_int pa_nil)))
      (pss_cons (ps_for PassesOwn.never rfl (pi_list (pv 1)) (pg_name (i := 3) scStatesBehind.nd rfl (by first | exact Or.inl rfl | exact Or.inr rfl))
        (pss_one (ps_set (i := 2) scStatesBehind.nd rfl (by first | exact Or.inl rfl | exact Or.inr rfl) (pe_call GStatesAfter (hr.mono (by omega)) rfl T.gStatesAfter T.FStatesAfter.kp T.bStatesAfter .nil pass0 (pa_cons (pv 0) (pa_cons (pv 2) (pa_cons (pv 3) pa_nil)))))))
      (pss_one (ps_ret (pv 2))))), ?_⟩
  refine ⟨Nat.le_of_lt (small1000 (by simp)), fun r0 hr0 => ?_⟩
  have s1 := same_upd hr0 (.lst [V.int 0])
  have g1 : (upd H r0 (.lst [V.int 0])) r0 = some (.lst (nts [0])) := upd_same
  generalize upd H r0 (.lst [V.int 0]) = H1 at s1 g1 ⊢
  have ul : (u.map V.str).length = u.length := by rw [List.length_map]
  refine ⟨_, rfl, l, rfl, ⟨_, SqL.of (s1 _ _ hl)⟩, for_list (K := K) (a := l) (xs := u.map V.str) (fun i σ H' => ∃ r v3 qs, σ = [some (.ref t), some (.ref l), some (.ref r), v3] ∧ Same H H' ∧ H' r = some (.lst (nts qs)) ∧ qs.length ≤ 60 ∧ ∀ q, q ∈ qs ↔ Beh a (u.take i) q) ⟨r0, none, [0], rfl, s1, g1, by simp, fun q0 => ?_⟩ ?_ ?_ ?_⟩
  · rw [List.take_zero, List.mem_singleton]
    exact ⟨fun h => .inl ⟨rfl, h⟩, fun h => h.elim (fun h => h.2) fun h => absurd rfl h.ne⟩
  · rintro i σ H' _ ⟨_, _, _, _, sm, _⟩
    exact SqL.of (sm _ _ hl)
  · rintro i y σ H2 hi ⟨r, v3, qs, rfl, sm, hr2, hql, hqm⟩
    obtain ⟨x, e1, rfl⟩ := str_get hi
    refine ⟨_, rfl, _, rfl, _, rfl, t, r, a, qs, x, rfl, hn.keep sm, inn, ka, hr2, hql, fun q0 h => beh_le inn ((hqm q0).mp h), fun r3 H3 qs3 s3 hr3 hl3 hm3 => ?_⟩
    refine ⟨r3, _, qs3, rfl, sm.trans s3, hr3, hl3, fun q0 => ?_⟩
    rw [List.take_add_one, e1]
    simp only [Option.toList_some]
    rw [beh_snoc inn, hm3]
    exact ⟨fun ⟨s', m, k⟩ => ⟨s', (hqm s').mp m, k⟩, fun ⟨s', m, k⟩ => ⟨s', (hqm s').mpr m, k⟩⟩
  · rintro σ H2 ⟨r, v3, qs, rfl, sm, hr2, hql, hqm⟩
    refine ⟨_, rfl, q r H2 qs sm hr2 hql fun q0 => ?_⟩
    rw [hqm, List.take_of_length_le (by omega)]
def spIsWord : Sp := fun vs H Q _ => ∃ (d l : Addr) (p : Pr) (x : Str) (b : FA.Bd) (u : List Str), vs = [.ref d, .str x, .ref l] ∧ PrAt H d p ∧ Valid p ∧ p.lookup x = some b ∧ H l = some (.lst (u.map V.str)) ∧ (∀ y ∈ u, y ∈ pNames p) ∧ u.length ≤ 300 ∧ ∀ H' c, Same H H' → (c = true ↔ WB b u) → Q (.bl c) H'
theorem okIsWord (T : Txt K mg) : FnOk P w K mg base CX0 14 T.aIsWord T.fIsWord ["program", "name", "word"] spIsWord := by
  have GCheckProgram : FnOk P w K mg base CX0 13 T.aCheckProgram T.fCheckProgram ["program"] spCheckProgram := okCheckProgram T
  have GCheckName : FnOk P w K mg base CX0 2 T.aCheckName T.fCheckName ["program", "name"] spCheckName := okCheckName T
  have GCheckWord : FnOk P w K mg base CX0 2 T.aCheckWord T.fCheckWord ["program", "word"] spCheckWord := okCheckWord T
  have GNetOf : FnOk P w K mg base CX0 12 T.aNetOf T.fNetOf ["body"] spNetOf := okNetOf T
  have GStatesBehind : FnOk P w K mg base CX0 2 T.aStatesBehind T.fStatesBehind ["net", "word"] spStatesBehind := okStatesBehind T
  refine T.FIsWord.ok scIsWord (fun vs H Q E h => ?_) (fun cdv A outer s H vs Q E hr h => ?_)
  · obtain ⟨d, l, p, x, b, u, rfl, _⟩ := h
    rfl
  obtain ⟨d, l, p, x, bd, u, rfl, hpa, va, hx, hl, hun, hul, q⟩ := h
  have hu := hu_of hr
  refine ⟨_, (pss_cons (ps_expr (pe_call GCheckProgram (hr.mono (by omega)) rfl T.gCheckProgram T.FCheckProgram.kp T.bCheckProgram .nil pass0 (pa_cons (pv 0) pa_nil)))
      (pss_cons (ps_expr (pe_call GCheckName (hr.mono (by omega)) rfl T.gCheckName T.FCheckName.kp T.bCheckName .nil pass0 (pa_cons (pv 0) (pa_cons (pv 1) pa_nil))))
      (pss_cons (ps_expr (pe_call GCheckWord (hr.mono (by omega)) rfl T.gCheckWord T.FCheckWord.kp T.bCheckWord .nil pass0 (pa_cons (pv 0) (pa_cons (pv 2) pa_nil))))
      (pss_cons (ps_set (i := 3) scIsWord.nd rfl (by first | exact Or.inl rfl | exact Or.inr rfl) (pe_call GNetOf (hr.mono (by omega)) rfl T.gNetOf T.FNetOf.kp T.bNetOf .nil pass0 (pa_cons (pe_dget hu (pv 0) (pv 1) (fun _ _ => rfl)) pa_nil)))
      (pss_one (ps_ret (pe_callB (cr_any rfl) (by rfl) T.n_any (by decide +kernel) (pa_cons (pe_lc (own := [("state", 4)]) (g := gName 4) (tt := tYes) rfl scIsWord.nd (pi_list (pe_call GStatesBehind (hr.mono (by omega)) rfl T.gStatesBehind T.FStatesBehind.kp T.bStatesBehind .nil pass0 (pa_cons (pv 3) (pa_cons (pv 2) pa_nil)))) (blkOk_by (N := ["program", "name", "word", "net", "state"]) (sc := defScope sIsWord) (by decide +kernel)) (fun _ _ _ _ _ => (pg_name (i := 4) scIsWord.nd rfl (by first | exact Or.inl rfl | exact Or.inr rfl))) (fun _ _ _ _ _ => pts_nil) (fun _ _ _ _ _ => (pe_cmpR (op_in_seqK (K := K) rfl) (pv 4) (pe_ix (ix_tupK (K := K) rfl) (pv 3) pe_int (fun _ _ => rfl)) (by rfl)))) pa_nil)))))))), ?_⟩
  refine ⟨_, rfl, d, p, rfl, hpa, va, fun H1 s1 => ?_⟩
  have hp1 := PrAt.same s1 hpa
  have hxn : x ∈ pNames p := by
    have := mem_look hx
    exact List.mem_map.mpr ⟨_, this, rfl⟩
  refine ⟨_, rfl, _, rfl, d, p, x, rfl, hp1, hxn, ?_⟩
  refine ⟨_, rfl, _, rfl, d, l, p, u, rfl, hp1, s1 _ _ hl, hun, hul, fun H2 s2 => ?_⟩
  have s02 := s1.trans s2
  have hp2 := PrAt.same s2 hp1
  rcases hp2.look (x := x) with ⟨z1, _⟩ | ⟨l', b, z1, z2, z3⟩
  · rw [hx] at z1; cases z1
  rw [hx] at z1
  cases z1
  obtain ⟨o1, o2, o3, o4⟩ := va.ok x bd hx
  refine ⟨_, rfl, _, rfl, d, _, rfl, z2, b, bd, _, rfl, z3, o1, by omega, by omega, fun t H3 s3 hn => ?_⟩
  have inn : (planB bd .e0 1).In 1 := planB_in bd .e0 1 e0_in
  have few : (planB bd .e0 1).Few := planB_few (D := 5) (by omega) (by omega) (by omega)
  have s03 := s02.trans s3
  refine ⟨_, rfl, _, rfl, t, l, _, u, rfl, hn, inn, few.nm, s03 _ _ hl, hul, fun r H4 qs s4 hr4 hql hqm => ?_⟩
  have s04 := s03.trans s4
  obtain ⟨n, nx, e, ws, k1, k2, k3, k4, k5, k6⟩ := hn.keep s4
  refine ⟨r, rfl, ⟨_, SqL.of hr4⟩, fun D hD => lcS (n := (nts qs).length) hD (small1000 (by rw [nts_len]; omega)) _ (fun j v _ => ∃ q0, qs[j]? = some q0 ∧ v = .bl (decide (q0 ∈ ends (planB bd .e0 1)))) (go_l (SqL.of hr4)) (stop_l (SqL.of hr4)) (yld_l (SqL.of hr4)) (fun _ _ _ _ _ e => e) ?_ ?_⟩
  · intro i y H5 R hi hy s5 k
    obtain ⟨q0, e1, rfl⟩ := nts_get hy
    refine ⟨rfl, _, rfl, _, rfl, _, _, _, _, rfl, rfl, SqT.of (s5 _ _ k1), at_of (j := 2) rfl rfl, e, _, rfl, .inl (SqL.of (s5 _ _ k6)), rfl, nts_flat _, ?_⟩
    refine k _ _ (Same.refl _) ⟨q0, e1, ?_⟩
    show V.bl (inV (.int (q0 : Int)) (nts (ends (planB bd .e0 1)))) = _
    rw [inV_nts]
  · intro H5 ys s5 hy hyl hg
    rw [nts_len] at hyl
    have ey : ys = (qs.map fun q0 => decide (q0 ∈ ends (planB bd .e0 1))).map V.bl := by
      rw [List.map_map]
      exact ext_map hyl hg
    rw [ey] at hy
    refine ⟨D, _, rfl, SqL.of hy, q H5 _ (s04.trans s5) ?_⟩
    rw [← plan_words, ← beh_lg inn, List.any_eq_true]
    constructor
    · rintro ⟨c, hc, hc2⟩
      obtain ⟨q0, m, rfl⟩ := List.mem_map.mp hc
      exact ⟨q0, (hqm q0).mp m, of_decide_eq_true hc2⟩
    · rintro ⟨q0, h1, h2⟩
      exact ⟨_, List.mem_map.mpr ⟨q0, (hqm q0).mpr h1, rfl⟩, decide_eq_true h2⟩
end K05


set_option Elab.async false
set_option linter.all false
set_option maxRecDepth 100000
set_option maxHeartbeats 4000000
namespace K05
open PySem PySem.Spec PyProof.Rows L2 FA
variable {P : Program} {w : World} {K : PySem.W.Frag} {mg : Str → Option Value} {base : Heap}
def spLChosen (d : Nat) : Sp := fun vs H Q _ => ∃ (a b : Addr) (l : List FA.It) (ns : List Str) (of : Int) (n : Nat), vs = [.ref a, .ref b, .int of] ∧ BdAt (wo [a] H) b l ∧ okB ns l ∧ dB l ≤ d ∧ nIB l ≤ 12 ∧ 2 ≤ of ∧ of ≤ 40 ∧ WellAt H a n ∧ n + 1000 ^ d ≤ 2 ^ 80 ∧
  ∀ r H' u, Sm [a] H H' → WellAt H' a (n + 1000 ^ d) → H r = none → H' r = some (.lst (u.map V.str)) → WB l u → u.length ≤ 60 * nIB l → Q (.ref r) H'
theorem nI_mem_bs {bs : List (List FA.It)} {b : List FA.It} (h : b ∈ bs) : nIB b ≤ nIBs bs := nIBs_mem h
theorem okLChosen1 (T : Txt K mg) (n0 : Nat) (hn0 : n0 ≤ 4) (GLChosen : FnOk P w K mg base CX0 (n0 + 2) T.aLChosen T.fLChosen ["well", "body", "often"] (spLChosen n0)) : FnOk P w K mg base CX0 (n0 + 3) T.aLChosen T.fLChosen ["well", "body", "often"] (spLChosen (n0 + 1)) := by
  have GLPull : FnOk P w K mg base CX0 1 T.aLPull T.fLPull ["well", "many"] spPull := okPull T
  refine T.FLChosen.ok scLChosen (fun vs H Q E h => ?_) (fun cdv A outer s H vs Q E hr h => ?_)
  · obtain ⟨a, b, l, ns, of, n, rfl, _⟩ := h
    rfl
  obtain ⟨a, b, l, ns, of, n, rfl, ⟨vs, hb0, hits⟩, ok, hd, hN, ho2, ho40, hw, hn, q⟩ := h
  have hu := hu_of hr
  obtain ⟨ow, how⟩ := hw.some
  obtain ⟨hba, hb⟩ := wo_some.mp hb0
  have hl := hits.length
  have hlN := nIB_len l
  obtain ⟨X, hXe⟩ : ∃ X, X = 1000 ^ n0 := ⟨_, rfl⟩
  have e10 : 1000 ^ (n0 + 1) = 1000 * X := by rw [hXe, Nat.pow_succ, Nat.mul_comm]
  rw [e10] at hn q
  have hX : 1 ≤ X := by rw [hXe]; exact Nat.pow_pos (by decide)
  refine ⟨_, (pss_cons (ps_set (i := 3) scLChosen.nd rfl (by first | exact Or.inl rfl | exact Or.inr rfl) (pe_lst pa_nil))
      (pss_cons (ps_for PassesOwn.never rfl (pi_list (pv 1)) (pg_name (i := 4) scLChosen.nd rfl (by first | exact Or.inl rfl | exact Or.inr rfl))
        (pss_one (ps_if (pt_val (pe_callB call_isi (by rfl) T.n_isinstance (by decide +kernel) (pa_cons (pv 4) (pa_cons (pe_bltn (v := .ty "str") (by rfl) T.n_str (by decide +kernel) rfl) pa_nil))))
          (pss_one (ps_expr (pe_bm PySem.F.plainAttrs_list PySem.F.slot_list_append PySem.F.type_list_append mt_append (pv 3) (pa_cons (pv 4) pa_nil)))) (pss_one (ps_if (pt_cmpR op_eq (pe_ix ix_tup (pv 4) pe_int (fun _ _ => rfl)) pe_str (nomark _))
            (pss_one (ps_expr (pe_bm PySem.F.plainAttrs_list PySem.F.slot_list_extend PySem.F.type_list_extend mt_extend (pv 3) (pa_cons (pe_call GLChosen (hr.mono (by omega)) rfl T.gLChosen T.FLChosen.kp T.bLChosen .nil pass0 (pa_cons (pv 0) (pa_cons (pe_ix ix_list (pe_ix ix_tup (pv 4) pe_int (fun _ _ => rfl)) (pe_call GLPull (hr.mono (by omega)) rfl T.gLPull T.FLPull.kp T.bLPull .nil pass0 (pa_cons (pv 0) (pa_cons (pe_callB call_len_seq (by rfl) T.n_len PySem.boot_len (pa_cons (pe_ix ix_tup (pv 4) pe_int (fun _ _ => rfl)) pa_nil)) pa_nil))) (fun _ _ => rfl)) (pa_cons (pv 2) pa_nil)))) pa_nil)))) (pss_cons (ps_set (i := 5) scLChosen.nd rfl (by first | exact Or.inl rfl | exact Or.inr rfl) (pe_call GLPull (hr.mono (by omega)) rfl T.gLPull T.FLPull.kp T.bLPull .nil pass0 (pa_cons (pv 0) (pa_cons (pe_ix ix_list (pe_lst (pa_cons pe_int (pa_cons (pv 2) pa_nil))) (pe_callTy call_int1 (by rfl) T.n_int (by decide +kernel) (pa_cons (pe_cmpR op_eq (pe_ix ix_tup (pv 4) pe_int (fun _ _ => rfl)) pe_str (nomark _)) pa_nil)) (fun _ _ => rfl)) pa_nil))))
            (pss_one (ps_for PassesOwn.never rfl (pi_range1 (by rfl) T.n_range (pa_cons (pv 5) pa_nil)) (pg_name (i := 6) scLChosen.nd rfl (by first | exact Or.inl rfl | exact Or.inr rfl))
              (pss_one (ps_expr (pe_bm PySem.F.plainAttrs_list PySem.F.slot_list_extend PySem.F.type_list_extend mt_extend (pv 3) (pa_cons (pe_ifExp (pt_cmpR op_lt (pe_callB call_len_seq (by rfl) T.n_len PySem.boot_len (pa_cons (pv 3) pa_nil)) pe_int (nomark _)) (pe_call GLChosen (hr.mono (by omega)) rfl T.gLChosen T.FLChosen.kp T.bLChosen .nil pass0 (pa_cons (pv 0) (pa_cons (pe_ix ix_tup (pv 4) pe_int (fun _ _ => rfl)) (pa_cons (pv 2) pa_nil)))) (pe_lst pa_nil)) pa_nil))))))))))))
      (pss_one (ps_ret (pv 3))))), ?_⟩
  refine ⟨Nat.zero_le _, fun f hf => ?_⟩
  have hfa : f ≠ a := by rintro rfl; rw [how] at hf; cases hf
  have hbf : b ≠ f := ne_of_none hb hf
  have s1 := same_upd hf (.lst [])
  refine ⟨_, rfl, b, rfl, ⟨_, SqL.of (s1 _ _ hb)⟩, for_list (K := K) (a := b) (xs := vs) (fun i σ H' => ∃ v4 v5 v6 u, σ = [some (.ref a), some (.ref b), some (.int of), some (.ref f), v4, v5, v6] ∧ Sm [a] H H' ∧ WellAt H' a (n + i * (1 + 40 * X)) ∧ H' f = some (.lst (u.map V.str)) ∧ WB (l.take i) u ∧ u.length ≤ 60 * nIB (l.take i)) ⟨none, none, none, [], rfl, Sm.of_same s1, (hw.keep fun o e => s1 _ _ e).mono (by omega), upd_same, by rw [List.take_zero]; simp only [WB], by simp⟩ ?_ ?_ ?_⟩
  · rintro i σ H' _ ⟨_, _, _, _, _, sm, _⟩
    exact SqL.of (sm _ _ (by simpa using hba) hb)
  · rintro i y σ H1 hi ⟨v4, v5, v6, u, rfl, sm, hw1, hf1, hwb, hul⟩
    obtain ⟨it, e1, e2⟩ := hits.get hi
    have hm : it ∈ l := List.mem_of_getElem? e1
    have oki := okB_all.mp ok it hm
    have d1 := dB_mem hm
    have n1 := nIB_takeS e1
    have n2 := nIB_take l (i + 1)
    have hil : i < l.length := by
      by_cases z : i < l.length
      · exact z
      · rw [List.getElem?_eq_none (by omega)] at e1; cases e1
    have hi11 : i ≤ 11 := by omega
    have ex : (i + 1) * (1 + 40 * X) = i * (1 + 40 * X) + (1 + 40 * X) := by rw [Nat.add_mul, Nat.one_mul]
    have ey : i * (1 + 40 * X) ≤ 11 * (1 + 40 * X) := Nat.mul_le_mul_right _ hi11
    have done : ∀ (H2 : Hp) (u2 : List Str) (v5 v6 : Option V), Sm [a] H H2 → WellAt H2 a (n + i * (1 + 40 * X) + (1 + 40 * X)) → H2 f = some (.lst ((u ++ u2).map V.str)) → WI it u2 → (u ++ u2).length ≤ 60 * nIB (l.take (i + 1)) → ∃ v4 v5' v6' u', [some (.ref a), some (.ref b), some (.int of), some (.ref f), some y, v5, v6] = [some (.ref a), some (.ref b), some (.int of), some (.ref f), v4, v5', v6'] ∧ Sm [a] H H2 ∧ WellAt H2 a (n + (i + 1) * (1 + 40 * X)) ∧ H2 f = some (.lst (u'.map V.str)) ∧ WB (l.take (i + 1)) u' ∧ u'.length ≤ 60 * nIB (l.take (i + 1)) :=
      fun H2 u2 v5 v6 s2 w2 f2 wi le => ⟨_, _, _, u ++ u2, rfl, s2, by rw [ex]; exact w2.mono (by omega), f2, (WB_snoc e1).mpr ⟨u, u2, rfl, hwb, wi⟩, le⟩
    cases e2 with
    | call x =>
      refine ⟨_, rfl, _, _, _, _, true, rfl, .ty _, ty_str x, kit_ty (by decide +kernel), _, rfl, iteT ?_⟩
      refine ⟨_, rfl, .inl ⟨rfl, _, SqL.of hf1⟩, _, rfl, f, _, .str x, rfl, rfl, hf1, small1000 (by rw [List.length_map]; omega), ?_⟩
      refine done _ [x] _ _ (fun c o e z => ?_) (hw1.mono (by omega) |>.keep fun o e => by rw [upd_ne hfa.symm]; exact e) (by rw [upd_same, List.map_append]; rfl) (by simp only [WI]) (by rw [List.length_append, n1]; simp only [nI, List.length_singleton]; omega)
      rw [upd_ne (ne_of_none z hf)]
      exact sm _ _ e z
    | @one t b' ws bs h1 h2 h3 =>
      obtain ⟨hta, h10⟩ := wo_some.mp h1
      obtain ⟨hb'a, h20⟩ := wo_some.mp h2
      have h1' := sm _ _ hta h10
      have h2' := sm _ _ hb'a h20
      refine ⟨_, rfl, _, _, _, _, false, rfl, .ty _, ty_tup h1', kit_ty (by decide +kernel), _, rfl, iteF ?_⟩
      refine ⟨_, rfl, _, _, _, _, rfl, rfl, SqT.of h1', at_of (j := 0) rfl rfl, rfl, _, rfl, ite2 (fun _ => ?_) (fun c => absurd (decide_eq_true rfl) c)⟩
      simp only [okI] at oki
      have hbl := h3.length
      refine ⟨_, rfl, .inl ⟨rfl, _, SqL.of hf1⟩, _, rfl, _, rfl, _, _, _, _, rfl, rfl, SqT.of h1', at_of (j := 1) rfl rfl, _, rfl, _, rfl, _, _, _, _, rfl, rfl, SqT.of h1', at_of (j := 1) rfl rfl, b', _, rfl, .inl (SqL.of h2'), a, _, _, rfl, by omega, by omega, hw1, by omega, fun r H2 r0 r1 s2 hw2 => ?_⟩
      have h2'' := s2 _ _ hb'a h2'
      have hr' : r.toNat < ws.length := by omega
      obtain ⟨z, hz⟩ : ∃ z, ws[r.toNat]? = some z := ⟨_, List.getElem?_eq_getElem hr'⟩
      obtain ⟨bb, bd, rfl, q1, q2⟩ := h3.get hz
      have hmb : bd ∈ bs := List.mem_of_getElem? q1
      have m2 := nIBs_mem hmb
      have m3 := dBs_mem hmb
      have hat := atI_nat (xs := ws) (j := r.toNat) hz
      rw [Int.toNat_of_nonneg r0] at hat
      have m4 : nI (.one bs) = nIBs bs := by simp only [nI]
      have m5 : dI (.one bs) = dBs bs := by simp only [dI]
      have f2 := s2 _ _ (by simpa using hfa) hf1
      refine ⟨_, _, _, _, rfl, rfl, SqL.of h2'', hat, _, rfl, a, bb, bd, ns, of, _, rfl, q2.keep (Kp.of (sm.trans s2).same), okBs_all.mp oki.2.2.2 bd hmb, by omega, by omega, ho2, ho40, hw2, by omega, fun r3 H3 u3 s3 hw3 hn3 hr3 hwb3 hu3 => ?_⟩
      have f3 := s3 _ _ (by simpa using hfa) f2
      refine ⟨f, r3, _, _, rfl, rfl, f3, hr3, Nat.le_of_lt (small1000 (by simp only [List.length_map]; omega)), ?_⟩
      refine done _ u3 _ _ (fun c o e z => ?_) ((hw3.mono (by omega)).keep fun o e => by rw [upd_ne hfa.symm]; exact e) (by rw [upd_same, List.map_append]) (by simp only [WI]; exact WBs_iff.mpr ⟨bd, hmb, hwb3⟩) (by rw [List.length_append, n1]; omega)
      rw [upd_ne (ne_of_none z hf)]
      exact s3 _ _ e (s2 _ _ e (sm _ _ e z))
    | @may t b' ws l' h1 h2 h3 =>
      obtain ⟨hta, h10⟩ := wo_some.mp h1
      obtain ⟨hb'a, h20⟩ := wo_some.mp h2
      have h1' := sm _ _ hta h10
      have m4 : nI (.may l') = nIB l' := by simp only [nI]
      have m5 : dI (.may l') = dB l' := by simp only [dI]
      simp only [okI] at oki
      refine ⟨_, rfl, _, _, _, _, false, rfl, .ty _, ty_tup h1', kit_ty (by decide +kernel), _, rfl, iteF ?_⟩
      refine ⟨_, rfl, _, _, _, _, rfl, rfl, SqT.of h1', at_of (j := 0) rfl rfl, rfl, _, rfl, ite2 (fun c => absurd (of_decide_eq_true c) (by decide)) (fun _ => ?_)⟩
      refine ⟨_, rfl, _, rfl, Nat.le_of_lt (small1000 (by simp)), fun p hp => ?_⟩
      have s2 := same_upd hp (.lst [V.int 2, V.int of])
      have g2 : (upd H1 p (.lst [V.int 2, V.int of])) p = some (.lst [V.int 2, V.int of]) := upd_same
      generalize upd H1 p (.lst [V.int 2, V.int of]) = H2 at s2 g2 ⊢
      have hw2 := hw1.keep fun o e => s2 _ _ e
      refine ⟨_, rfl, _, _, _, _, rfl, rfl, SqT.of (s2 _ _ h1'), at_of (j := 0) rfl rfl, rfl, .inr ⟨_, rfl, _, _, _, _, rfl, rfl, SqL.of g2, at_of (j := 0) (by rfl) rfl, ?_⟩⟩
      refine ⟨a, _, _, rfl, by omega, by omega, hw2, by omega, fun r H3 r0 r1 s3 hw3 => ?_⟩
      have f3 := s3 _ _ (by simpa using hfa) (s2 _ _ hf1)
      have sm13 : Sm [a] H H3 := (sm.trans (Sm.of_same s2)).trans s3
      obtain ⟨Wq, q0, qS, qA, qE⟩ : ∃ Wq : Nat → List Str → Prop, Wq 0 [] ∧ (∀ k z, k < r.toNat → Wq k z → Wq (k + 1) z) ∧ (∀ k z v, k < r.toNat → Wq k z → WB l' v → Wq (k + 1) (z ++ v)) ∧ ∀ z, Wq r.toNat z → WI (.may l') z :=
        ⟨fun k z => (k = 0 → z = []) ∧ (z = [] ∨ WB l' z), ⟨fun _ => rfl, .inl rfl⟩, fun k z _ h => ⟨fun e => absurd e (by omega), h.2⟩, fun k z v hk h hv => by
          have e := h.1 (by omega)
          subst e
          exact ⟨fun e => absurd e (by omega), .inr hv⟩, fun z h => by simp only [WI]; exact h.2⟩
      refine ⟨_, rfl, _, rfl, by omega, by omega, ?_⟩
      refine for_range (lo := 0) (n := r.toNat) (fun k σ H' => ∃ v6 z, σ = [some (.ref a), some (.ref b), some (.int of), some (.ref f), some (.ref t), some (.int r), v6] ∧ Sm [a] H H' ∧ WellAt H' a (n + i * (1 + 40 * X) + 1 + k * X) ∧ H' f = some (.lst ((u ++ z).map V.str)) ∧ Wq k z ∧ (u ++ z).length ≤ 60 * nIB (l.take i) + 60 + 60 * nIB l') ⟨v6, [], rfl, sm13, hw3.mono (by omega), by rw [List.append_nil]; exact f3, q0, by rw [List.append_nil]; omega⟩ ?_ ?_
      · rintro k σ H4 hk ⟨v6, z, rfl, sm4, hw4, hf4, st, hzl⟩
        have ek : (k + 1) * X = k * X + X := by rw [Nat.add_mul, Nat.one_mul]
        have ek2 : k * X ≤ 39 * X := Nat.mul_le_mul_right _ (by omega)
        have put : ∀ (G : Hp) (o : HO), Sm [a] H G → Sm [a] H (upd G f o) := fun G o sG c u e z => by
          rw [upd_ne (ne_of_none z hf)]
          exact sG _ _ e z
        refine ⟨_, rfl, .inl ⟨rfl, _, SqL.of hf4⟩, _, rfl, f, _, rfl, .inl (SqL.of hf4), _, _, rfl, rfl, _, rfl, ite2 (fun c => ?_) (fun c => ?_)⟩
        · have c' := of_decide_eq_true c
          rw [List.length_map] at c'
          refine ⟨_, rfl, _, rfl, _, _, _, _, rfl, rfl, SqT.of (sm4 _ _ hta h10), at_of (j := 1) rfl rfl, _, rfl, a, b', l', ns, of, _, rfl, ⟨_, wo_some.mpr ⟨hb'a, sm4 _ _ hb'a h20⟩, h3.keep (Kp.of sm4.same)⟩, oki.2, by omega, by omega, ho2, ho40, hw4, by omega, fun r5 H5 u5 s5 hw5 hn5 hr5 hw6 hu5 => ?_⟩
          rw [← hXe] at hw5
          have f5 := s5 _ _ (by simpa using hfa) hf4
          refine ⟨f, r5, _, _, rfl, rfl, f5, hr5, Nat.le_of_lt (small1000 (by simp only [List.length_map]; omega)), ?_⟩
          refine ⟨_, z ++ u5, rfl, put _ _ (sm4.trans s5), ((hw5.mono (by omega)).keep fun o e => by rw [upd_ne hfa.symm]; exact e), by rw [upd_same, ← List.map_append, List.append_assoc], qA k z u5 hk st hw6, by rw [← List.append_assoc, List.length_append]; omega⟩
        · refine ⟨Nat.zero_le _, fun p5 hp5 => ?_⟩
          have s5 := same_upd hp5 (.lst [])
          refine ⟨f, p5, _, _, rfl, rfl, s5 _ _ hf4, upd_same, Nat.le_of_lt (small1000 (by simp only [List.length_map, List.length_nil]; omega)), ?_⟩
          refine ⟨_, z, rfl, put _ _ (sm4.trans (Sm.of_same s5)), ?_, by rw [upd_same, List.append_nil], qS k z hk st, hzl⟩
          exact ((hw4.keep fun o e => s5 _ _ e).mono (by omega)).keep fun o e => by rw [upd_ne hfa.symm]; exact e
      · rintro σ H4 ⟨v6, z, rfl, sm4, hw4, hf4, st, hzl⟩
        have ek2 : r.toNat * X ≤ 40 * X := Nat.mul_le_mul_right _ (by omega)
        exact done H4 z _ _ sm4 (hw4.mono (by omega)) hf4 (qE z st) (by rw [n1]; omega)
    | @loop t b' ws l' h1 h2 h3 =>
      obtain ⟨hta, h10⟩ := wo_some.mp h1
      obtain ⟨hb'a, h20⟩ := wo_some.mp h2
      have h1' := sm _ _ hta h10
      have m4 : nI (.loop l') = nIB l' := by simp only [nI]
      have m5 : dI (.loop l') = dB l' := by simp only [dI]
      simp only [okI] at oki
      refine ⟨_, rfl, _, _, _, _, false, rfl, .ty _, ty_tup h1', kit_ty (by decide +kernel), _, rfl, iteF ?_⟩
      refine ⟨_, rfl, _, _, _, _, rfl, rfl, SqT.of h1', at_of (j := 0) rfl rfl, rfl, _, rfl, ite2 (fun c => absurd (of_decide_eq_true c) (by decide)) (fun _ => ?_)⟩
      refine ⟨_, rfl, _, rfl, Nat.le_of_lt (small1000 (by simp)), fun p hp => ?_⟩
      have s2 := same_upd hp (.lst [V.int 2, V.int of])
      have g2 : (upd H1 p (.lst [V.int 2, V.int of])) p = some (.lst [V.int 2, V.int of]) := upd_same
      generalize upd H1 p (.lst [V.int 2, V.int of]) = H2 at s2 g2 ⊢
      have hw2 := hw1.keep fun o e => s2 _ _ e
      refine ⟨_, rfl, _, _, _, _, rfl, rfl, SqT.of (s2 _ _ h1'), at_of (j := 0) rfl rfl, rfl, .inr ⟨_, rfl, _, _, _, _, rfl, rfl, SqL.of g2, at_of (j := 1) (by rfl) rfl, ?_⟩⟩
      refine ⟨a, _, _, rfl, by omega, by omega, hw2, by omega, fun r H3 r0 r1 s3 hw3 => ?_⟩
      have f3 := s3 _ _ (by simpa using hfa) (s2 _ _ hf1)
      have sm13 : Sm [a] H H3 := (sm.trans (Sm.of_same s2)).trans s3
      obtain ⟨Wq, q0, qS, qA, qE⟩ : ∃ Wq : Nat → List Str → Prop, Wq 0 [] ∧ (∀ k z, k < r.toNat → Wq k z → Wq (k + 1) z) ∧ (∀ k z v, k < r.toNat → Wq k z → WB l' v → Wq (k + 1) (z ++ v)) ∧ ∀ z, Wq r.toNat z → WI (.loop l') z :=
        ⟨fun _ z => Star (WB l') z, .nil, fun _ _ _ h => h, fun _ z v _ h hv => by
          by_cases e : v = []
          · rw [e, List.append_nil]; exact h
          · exact .snoc h hv e, fun z h => by simp only [WI]; exact h⟩
      refine ⟨_, rfl, _, rfl, by omega, by omega, ?_⟩
      refine for_range (lo := 0) (n := r.toNat) (fun k σ H' => ∃ v6 z, σ = [some (.ref a), some (.ref b), some (.int of), some (.ref f), some (.ref t), some (.int r), v6] ∧ Sm [a] H H' ∧ WellAt H' a (n + i * (1 + 40 * X) + 1 + k * X) ∧ H' f = some (.lst ((u ++ z).map V.str)) ∧ Wq k z ∧ (u ++ z).length ≤ 60 * nIB (l.take i) + 60 + 60 * nIB l') ⟨v6, [], rfl, sm13, hw3.mono (by omega), by rw [List.append_nil]; exact f3, q0, by rw [List.append_nil]; omega⟩ ?_ ?_
      · rintro k σ H4 hk ⟨v6, z, rfl, sm4, hw4, hf4, st, hzl⟩
        have ek : (k + 1) * X = k * X + X := by rw [Nat.add_mul, Nat.one_mul]
        have ek2 : k * X ≤ 39 * X := Nat.mul_le_mul_right _ (by omega)
        have put : ∀ (G : Hp) (o : HO), Sm [a] H G → Sm [a] H (upd G f o) := fun G o sG c u e z => by
          rw [upd_ne (ne_of_none z hf)]
          exact sG _ _ e z
        refine ⟨_, rfl, .inl ⟨rfl, _, SqL.of hf4⟩, _, rfl, f, _, rfl, .inl (SqL.of hf4), _, _, rfl, rfl, _, rfl, ite2 (fun c => ?_) (fun c => ?_)⟩
        · have c' := of_decide_eq_true c
          rw [List.length_map] at c'
          refine ⟨_, rfl, _, rfl, _, _, _, _, rfl, rfl, SqT.of (sm4 _ _ hta h10), at_of (j := 1) rfl rfl, _, rfl, a, b', l', ns, of, _, rfl, ⟨_, wo_some.mpr ⟨hb'a, sm4 _ _ hb'a h20⟩, h3.keep (Kp.of sm4.same)⟩, oki.2, by omega, by omega, ho2, ho40, hw4, by omega, fun r5 H5 u5 s5 hw5 hn5 hr5 hw6 hu5 => ?_⟩
          rw [← hXe] at hw5
          have f5 := s5 _ _ (by simpa using hfa) hf4
          refine ⟨f, r5, _, _, rfl, rfl, f5, hr5, Nat.le_of_lt (small1000 (by simp only [List.length_map]; omega)), ?_⟩
          refine ⟨_, z ++ u5, rfl, put _ _ (sm4.trans s5), ((hw5.mono (by omega)).keep fun o e => by rw [upd_ne hfa.symm]; exact e), by rw [upd_same, ← List.map_append, List.append_assoc], qA k z u5 hk st hw6, by rw [← List.append_assoc, List.length_append]; omega⟩
        · refine ⟨Nat.zero_le _, fun p5 hp5 => ?_⟩
          have s5 := same_upd hp5 (.lst [])
          refine ⟨f, p5, _, _, rfl, rfl, s5 _ _ hf4, upd_same, Nat.le_of_lt (small1000 (by simp only [List.length_map, List.length_nil]; omega)), ?_⟩
          refine ⟨_, z, rfl, put _ _ (sm4.trans (Sm.of_same s5)), ?_, by rw [upd_same, List.append_nil], qS k z hk st, hzl⟩
          exact ((hw4.keep fun o e => s5 _ _ e).mono (by omega)).keep fun o e => by rw [upd_ne hfa.symm]; exact e
      · rintro σ H4 ⟨v6, z, rfl, sm4, hw4, hf4, st, hzl⟩
        have ek2 : r.toNat * X ≤ 40 * X := Nat.mul_le_mul_right _ (by omega)
        exact done H4 z _ _ sm4 (hw4.mono (by omega)) hf4 (qE z st) (by rw [n1]; omega)
  · rintro σ H1 ⟨v4, v5, v6, u, rfl, sm, hw1, hf1, hwb, hul⟩
    rw [hl, List.take_length] at hwb hul
    have : vs.length * (1 + 40 * X) ≤ 12 * (1 + 40 * X) := Nat.mul_le_mul_right _ (by omega)
    exact ⟨_, rfl, q f H1 u sm (hw1.mono (by omega)) hf hf1 hwb hul⟩
theorem okLChosen (T : Txt K mg) : ∀ d : Nat, d ≤ 5 → FnOk P w K mg base CX0 (d + 2) T.aLChosen T.fLChosen ["well", "body", "often"] (spLChosen d)
  | 0, _ => fn_never fun vs H Q E h => by
    obtain ⟨a, b, l, ns, of, n, _, _, _, h0, _⟩ := h
    have := dB_pos l
    omega
  | d + 1, hd => okLChosen1 T d (by omega) (okLChosen T d (by omega))
end K05


set_option Elab.async false
set_option linter.all false
set_option maxRecDepth 100000
set_option maxHeartbeats 4000000
namespace K05
open PySem PySem.Spec PyProof.Rows L2 FA
variable {P : Program} {w : World} {K : PySem.W.Frag} {mg : Str → Option Value} {base : Heap}
/-- a list of names of ns, n at most -/
def StL (H : Hp) (v : V) (ns : List Str) (n : Nat) : Prop := ∃ (b : Addr) (zs : List Str), v = .ref b ∧ H b = some (.lst (zs.map V.str)) ∧ (∀ z ∈ zs, z ∈ ns) ∧ zs.length ≤ n
theorem StL.same {H H' : Hp} {v : V} {ns : List Str} {n : Nat} (s : Same H H') (h : StL H v ns n) : StL H' v ns n :=
  let ⟨b, zs, h1, h2, h3⟩ := h
  ⟨b, zs, h1, s _ _ h2, h3⟩
theorem StL.sm {H H' : Hp} {v : V} {ns : List Str} {n m : Nat} {a : Addr} (hw : WellAt H a m) (s : Sm [a] H H') (h : StL H v ns n) : StL H' v ns n := by
  obtain ⟨b, zs, h1, h2, h3⟩ := h
  refine ⟨b, zs, h1, s _ _ ?_ h2, h3⟩
  simp only [List.mem_singleton]
  rintro rfl
  obtain ⟨x, y, z, e, _⟩ := hw
  rw [h2] at e
  exact strs_ne (HO.lst.inj (Option.some.inj e))
theorem StL.more {H : Hp} {v : V} {ns : List Str} {n m : Nat} (h : StL H v ns n) (e : n ≤ m) : StL H v ns m :=
  let ⟨b, zs, h1, h2, h3, h4⟩ := h
  ⟨b, zs, h1, h2, h3, Nat.le_trans h4 e⟩
theorem catS {H : Hp} {v1 v2 : V} {ns : List Str} {n1 n2 : Nat} {Q : VK} (h1 : StL H v1 ns n1) (h2 : StL H v2 ns n2) (hn : n1 + n2 ≤ 900) (k : ∀ p H', Same H H' → StL H' (.ref p) ns (n1 + n2) → Q (.ref p) H') : rCat v1 v2 H Q := by
  obtain ⟨b1, z1, rfl, a1, a2, a3⟩ := h1
  obtain ⟨b2, z2, rfl, c1, c2, c3⟩ := h2
  refine ⟨b1, b2, _, _, rfl, rfl, a1, c1, Nat.le_of_lt (small1000 (by simp only [List.length_map]; omega)), fun p hp => ?_⟩
  refine k p _ (same_upd0 hp _) ⟨p, z1 ++ z2, rfl, by rw [upd_same, List.map_append], fun z hz => ?_, by rw [List.length_append]; omega⟩
  exact (List.mem_append.mp hz).elim (a2 z) (c2 z)
theorem slS {H : Hp} {v : V} {ns : List Str} {n : Nat} {lo hi : Option Int} {Q : VK} (h : StL H v ns n) (k : ∀ p H', Same H H' → StL H' (.ref p) ns n → Q (.ref p) H') : rSlL K v lo hi H Q := by
  obtain ⟨b, zs, rfl, a1, a2, a3⟩ := h
  refine ⟨b, _, rfl, SqL.of a1, fun p hp => ?_⟩
  refine k p _ (same_upd0 hp _) ⟨p, (zs.drop (HT.sIx (zs.map V.str).length 0 lo)).take (HT.sIx (zs.map V.str).length (zs.map V.str).length hi - HT.sIx (zs.map V.str).length 0 lo), rfl, ?_, fun z hz => a2 z (List.mem_of_mem_drop (List.mem_of_mem_take hz)), ?_⟩
  · rw [upd_same]
    unfold cutV
    rw [List.map_take, List.map_drop]
  · rw [List.length_take, List.length_drop]
    omega
def spLNear : Sp := fun vs H Q _ => ∃ (a d t : Addr) (p : Pr) (n : Nat), vs = [.ref a, .ref d, .ref t] ∧ WellAt H a n ∧ n + 100 ≤ 2 ^ 80 ∧ PrAt (wo [a] H) d p ∧ Valid p ∧ StL H (.ref t) (pNames p) 60 ∧
  ∀ r H', Sm [a] H H' → WellAt H' a (n + 4) → H r = none → StL H' (.ref r) (pNames p) 60 → Q (.ref r) H'
theorem okLNear (T : Txt K mg) : FnOk P w K mg base CX0 2 T.aLNear T.fLNear ["well", "program", "word"] spLNear := by
  have GLPull : FnOk P w K mg base CX0 1 T.aLPull T.fLPull ["well", "many"] spPull := okPull T
  refine T.FLNear.ok scLNear (fun vs H Q E h => ?_) (fun cdv A outer s H vs Q E hr h => ?_)
  · obtain ⟨a, d, t, p, n, rfl, _⟩ := h
    rfl
  obtain ⟨a, d, t, p, n, rfl, hw, hn, ⟨kvs, hd, hk⟩, va, ht, q⟩ := h
  have hu := hu_of hr
  refine ⟨_, (pss_cons (ps_par (i := 5) (j := 6) (by rfl) scLNear.nd rfl rfl (by decide) rfl rfl (pa_cons (pe_callB (call_sortedD rfl) (by rfl) T.n_sorted (by decide +kernel) (pa_cons (pv 1) pa_nil)) (pa_cons (pe_call GLPull (hr.mono (by omega)) rfl T.gLPull T.FLPull.kp T.bLPull .nil pass0 (pa_cons (pv 0) (pa_cons (pe_op op_add (pe_callB call_len_seq (by rfl) T.n_len PySem.boot_len (pa_cons (pv 2) pa_nil)) pe_int) pa_nil))) pa_nil)) (by rfl))
      (pss_cons (ps_set (i := 3) scLNear.nd rfl (by first | exact Or.inl rfl | exact Or.inr rfl) (pe_ix ix_list (pv 5) (pe_call GLPull (hr.mono (by omega)) rfl T.gLPull T.FLPull.kp T.bLPull .nil pass0 (pa_cons (pv 0) (pa_cons (pe_callB call_len_seq (by rfl) T.n_len PySem.boot_len (pa_cons (pv 5) pa_nil)) pa_nil))) (fun _ _ => rfl)))
      (pss_cons (ps_set (i := 4) scLNear.nd rfl (by first | exact Or.inl rfl | exact Or.inr rfl) (pe_lst (pa_cons (pe_op op_cat (pe_op op_cat (pe_slice sl_list (pv 2) po_none (po_some (pv 6))) (pe_lst (pa_cons (pv 3) pa_nil))) (pe_slice sl_list (pv 2) (po_some (pv 6)) po_none)) (pa_cons (pe_op op_cat (pe_slice sl_list (pv 2) po_none (po_some (pv 6))) (pe_slice sl_list (pv 2) (po_some (pe_op op_add (pv 6) pe_int)) po_none)) (pa_cons (pe_op op_cat (pe_op op_cat (pe_slice sl_list (pv 2) po_none (po_some (pv 6))) (pe_lst (pa_cons (pv 3) pa_nil))) (pe_slice sl_list (pv 2) (po_some (pe_op op_add (pv 6) pe_int)) po_none)) pa_nil)))))
      (pss_cons (ps_set (i := 4) scLNear.nd rfl (by first | exact Or.inl rfl | exact Or.inr rfl) (pe_op op_cat (pv 4) (pe_lst (pa_cons (pe_op op_cat (pv 2) (pe_lst (pa_cons (pv 3) pa_nil))) (pa_cons (pe_op op_cat (pe_slice sl_list (pv 2) (po_some (pv 6)) po_none) (pe_slice sl_list (pv 2) po_none (po_some (pv 6)))) (pa_cons (pe_slice sl_list (pv 2) (po_some (pv 6)) po_none) (pa_cons (pe_op op_cat (pv 2) (pv 2)) (pa_cons (pe_op op_rep (pe_lst (pa_cons (pv 3) pa_nil)) (pe_call GLPull (hr.mono (by omega)) rfl T.gLPull T.FLPull.kp T.bLPull .nil pass0 (pa_cons (pv 0) (pa_cons pe_int pa_nil)))) pa_nil))))))))
      (pss_one (ps_ret (pe_slice sl_list (pe_ix ix_list (pv 4) (pe_call GLPull (hr.mono (by omega)) rfl T.gLPull T.FLPull.kp T.bLPull .nil pass0 (pa_cons (pv 0) (pa_cons pe_int pa_nil))) (fun _ _ => rfl)) po_none (po_some pe_int)))))))), ?_⟩
  have hdH : Rd H d (HO.dK kvs) := by
    rcases hd with h | ⟨od, h⟩
    · exact .inl (wo_some.mp h).2
    · exact .inr ⟨od, (wo_some.mp h).2⟩
  have hkk := hk.keys
  have hkl := hk.length
  have vl := va.len
  have pl : (pNames p).length = p.length := by unfold pNames; rw [List.length_map]
  have ppos : 0 < p.length := by
    rw [← pl]
    exact List.length_pos_of_mem va.main
  refine ⟨_, rfl, d, kvs, pNames p, rfl, hdH, by rw [hkk]; unfold pNames; rw [List.map_map]; rfl, by omega, fun ys e0 pe so he0 => ?_⟩
  have s1 := same_upd0 he0 (.lst (ys.map V.str))
  have g1 : (upd H e0 (.lst (ys.map V.str))) e0 = some (.lst (ys.map V.str)) := upd_same
  generalize upd H e0 (.lst (ys.map V.str)) = H1 at s1 g1 ⊢
  have hw1 : WellAt H1 a n := hw.keep fun o e => s1 _ _ e
  have ht1 := ht.same s1
  obtain ⟨_, zs, z0, hz, hzn, hzl⟩ := id ht1
  cases z0
  have yl : ys.length = p.length := by rw [pe.length_eq, pl]
  refine ⟨_, rfl, _, rfl, t, _, rfl, .inl (SqL.of hz), _, _, rfl, rfl, a, _, _, rfl, by omega, by rw [List.length_map]; omega, hw1, by omega, fun r H2 r0 r1 sm2 hw2 => ?_⟩
  have ht2 := ht1.sm hw1 sm2
  have he0a : e0 ≠ a := by
    rintro rfl
    obtain ⟨x, y, z, e, _⟩ := hw1
    rw [g1] at e
    exact strs_ne (HO.lst.inj (Option.some.inj e))
  have g2 := sm2 _ _ (by simpa using he0a) g1
  refine ⟨_, _, rfl, _, rfl, _, rfl, _, rfl, e0, _, rfl, .inl (SqL.of g2), a, _, _, rfl, by rw [List.length_map]; omega, by rw [List.length_map]; omega, hw2, by omega, fun r' H3 r0' r1' sm3 hw3 => ?_⟩
  have ht3 := ht2.sm hw2 sm3
  have g3 := sm3 _ _ (by simpa using he0a) g2
  rw [List.length_map] at r1'
  have hlt : r'.toNat < ys.length := by omega
  have hx : (ys.map V.str)[r'.toNat]? = some (V.str ys[r'.toNat]) := by rw [List.getElem?_map, List.getElem?_eq_getElem hlt]; rfl
  have hat := atI_nat (xs := ys.map V.str) (j := r'.toNat) hx
  rw [Int.toNat_of_nonneg r0'] at hat
  have hxn : ys[r'.toNat] ∈ pNames p := pe.mem_iff.mp (List.getElem_mem hlt)
  generalize ys[r'.toNat] = x at hat hx hxn
  refine ⟨_, _, _, _, rfl, rfl, SqL.of g3, hat, ?_⟩
  have sm03 : Sm [a] H H3 := ((Sm.of_same s1).trans sm2).trans sm3
  clear hz g2 g3 hat hx he0a
  have one : ∀ (G : Hp) (p1 : Addr), G p1 = none → StL (upd G p1 (.lst [V.str x])) (.ref p1) (pNames p) 1 := fun G p1 _ => ⟨p1, [x], rfl, upd_same, fun z hz => by rw [List.mem_singleton.mp hz]; exact hxn, Nat.le_refl _⟩
  -- the first three
  have S3 : Same H3 H3 := Same.refl _
  refine ⟨_, rfl, ?_⟩
  dsimp only [tNoPart]
  refine ⟨_, rfl, _, rfl, slS (ht3.same S3) fun b101 H102 s103 e104 => ?_⟩
  have S3 := S3.trans s103
  refine ⟨_, rfl, Nat.le_of_lt (small1000 (by simp)), fun b105 h109 => ?_⟩
  have e108 := one H102 b105 h109
  have s107 := same_upd0 h109 (.lst [V.str x])
  have e104 := e104.same s107
  have S3 := S3.trans s107
  generalize upd H102 b105 (.lst [V.str x]) = H106 at s107 e108 S3 e104 ⊢
  refine catS e104 e108 (by omega) fun b110 H111 s112 e113 => ?_
  have S3 := S3.trans s112
  refine ⟨_, rfl, _, rfl, _, rfl, ?_⟩
  dsimp only [tNoPart]
  refine slS (ht3.same S3) fun b114 H115 s116 e117 => ?_
  have S3 := S3.trans s116
  have e113 := e113.same s116
  refine catS e113 e117 (by omega) fun b118 H119 s120 e121 => ?_
  have S3 := S3.trans s120
  refine ⟨_, rfl, ?_⟩
  dsimp only [tNoPart]
  refine ⟨_, rfl, _, rfl, slS (ht3.same S3) fun b122 H123 s124 e125 => ?_⟩
  have S3 := S3.trans s124
  have e121 := e121.same s124
  refine ⟨_, rfl, _, rfl, _, _, rfl, rfl, _, rfl, ?_⟩
  dsimp only [tNoPart]
  refine slS (ht3.same S3) fun b126 H127 s128 e129 => ?_
  have S3 := S3.trans s128
  have e121 := e121.same s128
  have e125 := e125.same s128
  refine catS e125 e129 (by omega) fun b130 H131 s132 e133 => ?_
  have S3 := S3.trans s132
  have e121 := e121.same s132
  refine ⟨_, rfl, ?_⟩
  dsimp only [tNoPart]
  refine ⟨_, rfl, _, rfl, slS (ht3.same S3) fun b134 H135 s136 e137 => ?_⟩
  have S3 := S3.trans s136
  have e121 := e121.same s136
  have e133 := e133.same s136
  refine ⟨_, rfl, Nat.le_of_lt (small1000 (by simp)), fun b138 h142 => ?_⟩
  have e141 := one H135 b138 h142
  have s140 := same_upd0 h142 (.lst [V.str x])
  have e121 := e121.same s140
  have e133 := e133.same s140
  have e137 := e137.same s140
  have S3 := S3.trans s140
  generalize upd H135 b138 (.lst [V.str x]) = H139 at s140 e141 S3 e121 e133 e137 ⊢
  refine catS e137 e141 (by omega) fun b143 H144 s145 e146 => ?_
  have S3 := S3.trans s145
  have e121 := e121.same s145
  have e133 := e133.same s145
  refine ⟨_, rfl, _, rfl, _, _, rfl, rfl, _, rfl, ?_⟩
  dsimp only [tNoPart]
  refine slS (ht3.same S3) fun b147 H148 s149 e150 => ?_
  have S3 := S3.trans s149
  have e121 := e121.same s149
  have e133 := e133.same s149
  have e146 := e146.same s149
  refine catS e146 e150 (by omega) fun b151 H152 s153 e154 => ?_
  have S3 := S3.trans s153
  have e121 := e121.same s153
  have e133 := e133.same s153
  have w3 := hw3.keep fun o e => S3 _ _ e
  refine ⟨Nat.le_of_lt (small1000 (by simp)), fun L hL => ?_⟩
  have hLa : L ≠ a := by rintro rfl; obtain ⟨_, _, _, z, _⟩ := w3; rw [hL] at z; cases z
  have sL := same_upd0 hL (.lst [V.ref b118, V.ref b130, V.ref b151])
  have eL : (upd H152 L (.lst [V.ref b118, V.ref b130, V.ref b151])) L = some (.lst [V.ref b118, V.ref b130, V.ref b151]) := upd_same
  have e121 := e121.same sL
  have e133 := e133.same sL
  have e154 := e154.same sL
  have S3 := S3.trans sL
  generalize upd H152 L (.lst [V.ref b118, V.ref b130, V.ref b151]) = HL at sL eL S3 e121 e133 e154 ⊢
  clear w3 sL
  refine ⟨_, rfl, ?_⟩
  refine ⟨_, rfl, ?_⟩
  refine ⟨_, rfl, Nat.le_of_lt (small1000 (by simp)), fun b155 h159 => ?_⟩
  have e158 := one HL b155 h159
  have s157 := same_upd0 h159 (.lst [V.str x])
  have e121 := e121.same s157
  have e133 := e133.same s157
  have e154 := e154.same s157
  have S3 := S3.trans s157
  have eL := s157 _ _ eL
  generalize upd HL b155 (.lst [V.str x]) = H156 at s157 e158 S3 e121 e133 e154 eL ⊢
  refine catS (ht3.same S3) e158 (by omega) fun b160 H161 s162 e163 => ?_
  have S3 := S3.trans s162
  have eL := s162 _ _ eL
  have e121 := e121.same s162
  have e133 := e133.same s162
  have e154 := e154.same s162
  refine ⟨_, rfl, _, rfl, _, rfl, ?_⟩
  dsimp only [tNoPart]
  refine slS (ht3.same S3) fun b164 H165 s166 e167 => ?_
  have S3 := S3.trans s166
  have eL := s166 _ _ eL
  have e121 := e121.same s166
  have e133 := e133.same s166
  have e154 := e154.same s166
  have e163 := e163.same s166
  refine ⟨_, rfl, ?_⟩
  dsimp only [tNoPart]
  refine ⟨_, rfl, _, rfl, slS (ht3.same S3) fun b168 H169 s170 e171 => ?_⟩
  have S3 := S3.trans s170
  have eL := s170 _ _ eL
  have e121 := e121.same s170
  have e133 := e133.same s170
  have e154 := e154.same s170
  have e163 := e163.same s170
  have e167 := e167.same s170
  refine catS e167 e171 (by omega) fun b172 H173 s174 e175 => ?_
  have S3 := S3.trans s174
  have eL := s174 _ _ eL
  have e121 := e121.same s174
  have e133 := e133.same s174
  have e154 := e154.same s174
  have e163 := e163.same s174
  refine ⟨_, rfl, _, rfl, _, rfl, ?_⟩
  dsimp only [tNoPart]
  refine slS (ht3.same S3) fun b176 H177 s178 e179 => ?_
  have S3 := S3.trans s178
  have eL := s178 _ _ eL
  have e121 := e121.same s178
  have e133 := e133.same s178
  have e154 := e154.same s178
  have e163 := e163.same s178
  have e175 := e175.same s178
  refine ⟨_, rfl, _, rfl, catS (ht3.same S3) (ht3.same S3) (by omega) fun b180 H181 s182 e183 => ?_⟩
  have S3 := S3.trans s182
  have eL := s182 _ _ eL
  have e121 := e121.same s182
  have e133 := e133.same s182
  have e154 := e154.same s182
  have e163 := e163.same s182
  have e175 := e175.same s182
  have e179 := e179.same s182
  refine ⟨_, rfl, Nat.le_of_lt (small1000 (by simp)), fun b184 h188 => ?_⟩
  have e187 := one H181 b184 h188
  have s186 := same_upd0 h188 (.lst [V.str x])
  have e121 := e121.same s186
  have e133 := e133.same s186
  have e154 := e154.same s186
  have e163 := e163.same s186
  have e175 := e175.same s186
  have e179 := e179.same s186
  have e183 := e183.same s186
  have S3 := S3.trans s186
  have eL := s186 _ _ eL
  generalize upd H181 b184 (.lst [V.str x]) = H185 at s186 e187 S3 e121 e133 e154 e163 e175 e179 e183 eL ⊢
  have w4 := hw3.keep fun o e => S3 _ _ e
  refine ⟨_, rfl, a, _, _, rfl, by decide, by decide, w4, by omega, fun r4 H400 r40 r41 sm4 hw4 => ?_⟩
  have e121 := e121.sm w4 sm4
  have e133 := e133.sm w4 sm4
  have e154 := e154.sm w4 sm4
  have e163 := e163.sm w4 sm4
  have e175 := e175.sm w4 sm4
  have e179 := e179.sm w4 sm4
  have e183 := e183.sm w4 sm4
  have e187 := e187.sm w4 sm4
  have SM := (Sm.of_same S3).trans sm4
  have eL := sm4 _ _ (by simpa using hLa) eL
  obtain ⟨_, x1, x10, x11, x12, x13⟩ := id e187
  cases x10
  refine ⟨_, _, _, rfl, rfl, x11, by omega, by omega, Nat.le_of_lt (small1000 ?_), fun b189 h193 => ?_⟩
  · rw [List.length_map]; exact Nat.le_trans (Nat.mul_le_mul x13 (by omega : r4.toNat ≤ 10)) (by decide)
  have e192 : StL (upd H400 b189 (.lst (List.replicate r4.toNat (x1.map V.str)).flatten)) (.ref b189) (pNames p) 10 := ⟨b189, (List.replicate r4.toNat x1).flatten, rfl, by rw [upd_same, List.map_flatten, List.map_replicate], fun z hz => by obtain ⟨l, hl, hz⟩ := List.mem_flatten.mp hz; rw [List.eq_of_mem_replicate hl] at hz; exact x12 z hz, by rw [List.length_flatten, List.map_replicate, List.sum_replicate_nat]; exact Nat.le_trans (Nat.mul_le_mul (by omega : r4.toNat ≤ 10) x13) (by decide)⟩
  have s191 := same_upd0 h193 (.lst (List.replicate r4.toNat (x1.map V.str)).flatten)
  have e121 := e121.same s191
  have e133 := e133.same s191
  have e154 := e154.same s191
  have e163 := e163.same s191
  have e175 := e175.same s191
  have e179 := e179.same s191
  have e183 := e183.same s191
  have eL := s191 _ _ eL
  have SM := SM.trans (Sm.of_same s191)
  have hw5 := hw4.keep fun o e => s191 _ _ e
  generalize upd H400 b189 (.lst (List.replicate r4.toNat (x1.map V.str)).flatten) = H401 at s191 eL SM hw5 e192 e121 e133 e154 e163 e175 e179 e183 ⊢
  refine ⟨Nat.le_of_lt (small1000 (by simp)), fun L5 hL5 => ?_⟩
  have t1 := same_upd0 hL5 (.lst [V.ref b160, V.ref b172, V.ref b176, V.ref b180, V.ref b189])
  refine ⟨L, L5, _, _, rfl, rfl, t1 _ _ eL, upd_same, Nat.le_of_lt (small1000 (by simp)), fun M hM => ?_⟩
  have t2 := t1.trans (same_upd0 hM (.lst ([V.ref b118, V.ref b130, V.ref b151] ++ [V.ref b160, V.ref b172, V.ref b176, V.ref b180, V.ref b189])))
  have eM : (upd (upd H401 L5 (.lst [V.ref b160, V.ref b172, V.ref b176, V.ref b180, V.ref b189])) M (.lst ([V.ref b118, V.ref b130, V.ref b151] ++ [V.ref b160, V.ref b172, V.ref b176, V.ref b180, V.ref b189]))) M = some (.lst [V.ref b118, V.ref b130, V.ref b151, V.ref b160, V.ref b172, V.ref b176, V.ref b180, V.ref b189]) := upd_same
  have e121 := e121.same t2
  have e133 := e133.same t2
  have e154 := e154.same t2
  have e163 := e163.same t2
  have e175 := e175.same t2
  have e179 := e179.same t2
  have e183 := e183.same t2
  have e192 := e192.same t2
  have SM := SM.trans (Sm.of_same t2)
  have hw6 := hw5.keep fun o e => t2 _ _ e
  have hMa : M ≠ a := by rintro rfl; obtain ⟨_, _, _, z, _⟩ := hw5; have := t1 _ _ z; rw [hM] at this; cases this
  generalize upd (upd H401 L5 (.lst [V.ref b160, V.ref b172, V.ref b176, V.ref b180, V.ref b189])) M (.lst ([V.ref b118, V.ref b130, V.ref b151] ++ [V.ref b160, V.ref b172, V.ref b176, V.ref b180, V.ref b189])) = H402 at t2 eM SM hw6 e121 e133 e154 e163 e175 e179 e183 e192 ⊢
  have all : ∀ v ∈ [V.ref b118, V.ref b130, V.ref b151, V.ref b160, V.ref b172, V.ref b176, V.ref b180, V.ref b189], StL H402 v (pNames p) 121 := by
    simp only [List.forall_mem_cons]
    exact ⟨e121.more (by omega), e133.more (by omega), e154.more (by omega), e163.more (by omega), e175.more (by omega), e179.more (by omega), e183.more (by omega), e192.more (by omega), fun v h => by cases h⟩
  refine ⟨_, rfl, _, rfl, a, _, _, rfl, by decide, by decide, hw6, by omega, fun r6 H403 r60 r61 sm6 hw7 => ?_⟩
  have eM := sm6 _ _ (by simpa using hMa) eM
  have hlt6 : r6.toNat < [V.ref b118, V.ref b130, V.ref b151, V.ref b160, V.ref b172, V.ref b176, V.ref b180, V.ref b189].length := by simp; omega
  have hx6 : [V.ref b118, V.ref b130, V.ref b151, V.ref b160, V.ref b172, V.ref b176, V.ref b180, V.ref b189][r6.toNat]? = some [V.ref b118, V.ref b130, V.ref b151, V.ref b160, V.ref b172, V.ref b176, V.ref b180, V.ref b189][r6.toNat] := List.getElem?_eq_getElem hlt6
  have hat6 := atI_nat (xs := [V.ref b118, V.ref b130, V.ref b151, V.ref b160, V.ref b172, V.ref b176, V.ref b180, V.ref b189]) (j := r6.toNat) hx6
  rw [Int.toNat_of_nonneg r60] at hat6
  have ev := (all _ (List.getElem_mem hlt6)).sm hw6 sm6
  generalize [V.ref b118, V.ref b130, V.ref b151, V.ref b160, V.ref b172, V.ref b176, V.ref b180, V.ref b189][r6.toNat] = v at hat6 ev
  refine ⟨_, _, _, _, rfl, rfl, SqL.of eM, hat6, ?_⟩
  dsimp only [tNoPart]
  obtain ⟨bv, zv, rfl, f1, f2, f3⟩ := ev
  refine ⟨_, rfl, bv, _, rfl, SqL.of f1, fun R hR => ?_⟩
  have t7 := same_upd0 hR (.lst (cutV (zv.map V.str) none (some 60)))
  have sH : Sm [a] H H403 := (sm03.trans SM).trans sm6
  refine q R _ (sH.trans (Sm.of_same t7)) ((hw7.keep fun o e => t7 _ _ e).mono (by omega)) (none_back sH (fun y hy => by rw [List.mem_singleton.mp hy]; exact hw7.some) hR) ⟨R, zv.take 60, rfl, ?_, fun z hz => f2 z (List.mem_of_mem_take hz), by rw [List.length_take]; omega⟩
  rw [upd_same]
  have := cut_to' (zv.map V.str) 60
  rw [List.map_take, ← this]
  rfl
end K05


set_option Elab.async false
set_option linter.all false
set_option maxRecDepth 100000
set_option maxHeartbeats 8000000
namespace K05
open PySem PySem.Spec PyProof.Rows L2 FA
variable {P : Program} {w : World} {K : PySem.W.Frag} {mg : Str → Option Value} {base : Heap}
/-- a list to which the numbers that C tells were put -/
def Add (ve ve' : List V) (C : Nat → Prop) : Prop := ∃ ad : List Nat, ve' = ve ++ nts ad ∧ ∀ p, p ∈ ad ↔ C p
theorem Add.iff {a b : List V} {C D : Nat → Prop} (h : Add a b C) (e : ∀ p, C p ↔ D p) : Add a b D := let ⟨ad, h1, h2⟩ := h; ⟨ad, h1, fun p => (h2 p).trans (e p)⟩
theorem Add.nil {a : List V} {C : Nat → Prop} (e : ∀ p, ¬ C p) : Add a a C := ⟨[], by simp [nts], fun p => by simp [e p]⟩
theorem Add.trans {a b c : List V} {C D : Nat → Prop} (h : Add a b C) (k : Add b c D) : Add a c (fun p => C p ∨ D p) := by
  obtain ⟨x, rfl, hx⟩ := h
  obtain ⟨y, rfl, hy⟩ := k
  exact ⟨x ++ y, by rw [nts_app, List.append_assoc], fun p => by rw [List.mem_append, hx, hy]⟩
theorem Add.put {a b : List V} {C : Nat → Prop} (h : Add a b C) (l : List Nat) : Add a (b ++ nts l) (fun p => C p ∨ p ∈ l) := h.trans ⟨l, rfl, fun _ => Iff.rfl⟩
/-- how much the law's list grows -/
def grow (d s : Nat) : Nat := if d ≤ 1 then s else 61 ^ (d - 1)
def spLEnds (d : Nat) : Sp := fun vs H Q _ => ∃ (b t st se : Addr) (l : List FA.It) (ns : List Str) (u : List Str) (ss : List Nat) (ve : List V), vs = [.ref b, .ref t, .ref st, .ref se] ∧ BdAt (wo [se] H) b l ∧ okB ns l ∧ dB l ≤ d ∧ nIB l ≤ 12 ∧ H t = some (.lst (u.map V.str)) ∧ u.length ≤ 60 ∧ (∀ y ∈ u, FA.okName y) ∧ (∀ y ∈ ns, FA.okName y) ∧ t ≠ se ∧
  H st = some (.lst (nts ss)) ∧ st ≠ se ∧ ss.Pairwise (· < ·) ∧ (∀ s ∈ ss, s ≤ u.length) ∧ H se = some (.lst ve) ∧ ve.length + grow d ss.length * nIB l ≤ 16000000 ∧
  ∀ r H' ps ve', Sm [se] H H' → H' se = some (.lst ve') → ve'.length ≤ ve.length + grow d ss.length * nIB l → Add ve ve' (fun p => ∃ s ∈ ss, SnB l u s p) → H' r = some (.lst (nts ps)) → r ≠ se → (r = st ∨ H r = none) → ps.Pairwise (· < ·) → (∀ p, p ∈ ps ↔ ∃ s ∈ ss, EnB l u s p) → Q (.ref r) H'
theorem dtP_show (p : Pr) : (dtP p).showable = true := by
  have h : ∀ p : Pr, PyData.showableKv (p.map fun q => (PyData.str q.1, PyData.list (dtB q.2))) = true := fun p => by
    induction p with
    | nil => rfl
    | cons q r ih => simp only [List.map_cons, PyData.showableKv, PyData.showable, dtB_show q.2, ih, Bool.and_self]
  simp only [dtP, PyData.showable]
  exact h p
theorem dtP_depth {p : Pr} (h : ∀ q ∈ p, dB q.2 ≤ 4) : (dtP p).depth ≤ 60 := by
  have key : ∀ p : Pr, (∀ q ∈ p, dB q.2 ≤ 4) → PyData.depthKv (p.map fun q => (PyData.str q.1, PyData.list (dtB q.2))) ≤ 20 := fun p => by
    induction p with
    | nil => intro _; simp [PyData.depthKv]
    | cons q r ih =>
      intro h
      have h1 := dtB_depth q.2
      have h2 := h q (by simp)
      have h3 := ih fun u hu => h u (List.mem_cons_of_mem _ hu)
      simp only [List.map_cons, PyData.depthKv, PyData.depth]
      omega
  have := key p h
  simp only [dtP, PyData.depth]
  omega
theorem dtP_short {ns : List Str} (hn : ∀ x ∈ ns, FA.okName x) {p : Pr} (h : ∀ q ∈ p, q.1 ∈ ns ∧ okB ns q.2) : (dtP p).leavesShort 13 = true := by
  have key : ∀ p : Pr, (∀ q ∈ p, q.1 ∈ ns ∧ okB ns q.2) → PyData.leavesShortKv 13 (p.map fun q => (PyData.str q.1, PyData.list (dtB q.2))) = true := fun p => by
    induction p with
    | nil => intro _; rfl
    | cons q r ih =>
      intro h
      have h2 := h q (by simp)
      have h3 := ih fun u hu => h u (List.mem_cons_of_mem _ hu)
      have h4 := (hn _ h2.1).short
      have h5 := dtB_short hn q.2 h2.2
      simp only [List.map_cons, PyData.leavesShortKv, PyData.leavesShort, h3, h4, h5, Bool.and_self]
  simp only [dtP, PyData.leavesShort]
  exact key p h
theorem dtP_bulk {ns : List Str} (hn : ∀ x ∈ ns, FA.okName x) {p : Pr} (h : ∀ q ∈ p, q.1 ∈ ns ∧ okB ns q.2 ∧ nIB q.2 ≤ 12) : (dtP p).bulk ≤ 500 * p.length := by
  have key : ∀ p : Pr, (∀ q ∈ p, q.1 ∈ ns ∧ okB ns q.2 ∧ nIB q.2 ≤ 12) → PyData.bulkKv (p.map fun q => (PyData.str q.1, PyData.list (dtB q.2))) ≤ 500 * p.length := fun p => by
    induction p with
    | nil => intro _; simp [PyData.bulkKv]
    | cons q r ih =>
      intro h
      have h2 := h q (by simp)
      have h3 := ih fun u hu => h u (List.mem_cons_of_mem _ hu)
      have h4 : q.1.cps.size ≤ 8 := (hn _ h2.1).2.1
      have h5 := dtB_bulk hn q.2 h2.2.1
      simp only [List.map_cons, PyData.bulkKv, PyData.bulk, List.length_cons]
      omega
  simp only [dtP, PyData.bulk]
  exact key p h
theorem Valid.mem {p : Pr} (va : Valid p) {q : Str × Bd} (h : q ∈ p) : q.1 ∈ pNames p ∧ okB (pNames p) q.2 ∧ nIB q.2 ≤ 12 ∧ dB q.2 ≤ 4 := by
  obtain ⟨o1, o2, o3, o4⟩ := va.ok q.1 q.2 (look_nd va.nd h)
  exact ⟨List.mem_map.mpr ⟨q, h, rfl⟩, o1, o3, o4⟩
theorem prog_fits {p : Pr} (va : Valid p) : Fits (dtP p) 60 3000 := ⟨dtP_show p, dtP_short va.nm fun q hq => ⟨(va.mem hq).1, (va.mem hq).2.1⟩, dtP_depth fun q hq => (va.mem hq).2.2.2, by
  have h1 := dtP_bulk va.nm (p := p) fun q hq => ⟨(va.mem hq).1, (va.mem hq).2.1, (va.mem hq).2.2.1⟩
  have h2 := va.len
  omega⟩
/-- [program, word] as data -/
def dtK (p : Pr) (u : List Str) : PyData := .list [dtP p, .list (u.map PyData.str)]
theorem pair_fits {p : Pr} (va : Valid p) {u : List Str} (ok : ∀ x ∈ u, x ∈ pNames p) (hl : u.length ≤ 300) : Fits (dtK p u) 61 100000 := by
  have h1 : FitsAll (u.map PyData.str) 0 (9 * u.length) := FitsAll.strs fun x hx => va.nm x (ok x hx)
  exact (Fits.list (.cons (prog_fits va) (.cons ((Fits.list h1).mono (by omega) (Nat.le_refl _)) (FitsAll.nil (b := 0))))).mono (Nat.le_refl _) (by omega)
theorem dtP_depth2 {p : Pr} (h : ∀ q ∈ p, dB q.2 ≤ 4) : (dtP p).depth ≤ 30 := by
  have key : ∀ p : Pr, (∀ q ∈ p, dB q.2 ≤ 4) → PyData.depthKv (p.map fun q => (PyData.str q.1, PyData.list (dtB q.2))) ≤ 20 := fun p => by
    induction p with
    | nil => intro _; simp [PyData.depthKv]
    | cons q r ih =>
      intro h
      have h1 := dtB_depth q.2
      have h2 := h q (by simp)
      have h3 := ih fun u hu => h u (List.mem_cons_of_mem _ hu)
      simp only [List.map_cons, PyData.depthKv, PyData.depth]
      omega
  have := key p h
  simp only [dtP, PyData.depth]
  omega
theorem strs_depth : ∀ u : List Str, PyData.depthAll (u.map PyData.str) ≤ 2
  | [] => by simp [PyData.depthAll]
  | x :: r => by
    have := strs_depth r
    simp only [List.map_cons, PyData.depthAll, PyData.depth]
    omega
theorem pair_depth {p : Pr} (va : Valid p) (u : List Str) : (dtK p u).depth ≤ 60 := by
  have h1 := dtP_depth2 (p := p) fun q hq => (va.mem hq).2.2.2
  have h2 := strs_depth u
  simp only [dtK, PyData.depth, PyData.depthAll]
  omega
end K05


set_option Elab.async false
set_option linter.all false
set_option maxRecDepth 100000
set_option maxHeartbeats 8000000
namespace K05
open PySem PySem.Spec PyProof.Rows L2 FA
variable {P : Program} {w : World} {K : PySem.W.Frag} {mg : Str → Option Value} {base : Heap}
theorem grow_le {d k G : Nat} (hG : G = grow (d + 1) k) (hd : 1 ≤ d) : ∀ n, n ≤ 61 → grow d n ≤ G := fun n hn => by
  rw [hG]
  unfold grow
  rw [if_neg (show ¬ d + 1 ≤ 1 by omega), Nat.add_sub_cancel]
  split
  · have : 61 ^ 1 ≤ 61 ^ d := Nat.pow_le_pow_right (by decide) hd
    omega
  · exact Nat.pow_le_pow_right (by decide) (by omega)
theorem gle61 {d k G : Nat} (hG : G = grow (d + 1) k) (hd : 1 ≤ d) : 61 ≤ G := by
  rw [hG]
  unfold grow
  rw [if_neg (show ¬ d + 1 ≤ 1 by omega), Nat.add_sub_cancel]
  have : 61 ^ 1 ≤ 61 ^ d := Nat.pow_le_pow_right (by decide) hd
  omega
theorem flat_len {m : Nat} : ∀ {l : List (List Nat)}, (∀ x ∈ l, x.length ≤ m) → l.flatten.length ≤ m * l.length
  | [], _ => by simp
  | x :: r, h => by
    have h1 := flat_len (l := r) fun y hy => h y (List.mem_cons_of_mem _ hy)
    have h2 := h x (by simp)
    rw [List.flatten_cons, List.length_append, List.length_cons, Nat.mul_add]
    omega
theorem none_same {H H' : Hp} {a : Addr} (s : Same H H') (h : H' a = none) : H a = none := by
  cases e : H a with
  | none => rfl
  | some o => rw [s _ _ e] at h; cases h
theorem okLEnds1 (T : Txt K mg) (d : Nat) (hd4 : d ≤ 3) (GLEnds : FnOk P w K mg base CX0 (d + 1) T.aLEnds T.fLEnds ["body", "word", "starts", "seen"] (spLEnds d)) : FnOk P w K mg base CX0 (d + 2) T.aLEnds T.fLEnds ["body", "word", "starts", "seen"] (spLEnds (d + 1)) := by
  refine T.FLEnds.ok scLEnds (fun vs H Q E h => ?_) (fun cdv A outer s H vs Q E hr h => ?_)
  · obtain ⟨b, t, st, se, l, ns, u, ss, ve, rfl, _⟩ := h
    rfl
  obtain ⟨b, t0, st, se, l, ns, u, ss, ve, rfl, ⟨vs, hb0, hits⟩, ok, hd, hN, ht, hul, hun, hnn, hts, hst, hsts, pw, hle, hse, hcap, q⟩ := h
  have hu := hu_of hr
  refine ⟨_, (pss_cons (ps_set (i := 4) scLEnds.nd rfl (by first | exact Or.inl rfl | exact Or.inr rfl) (pv 2))
      (pss_cons (ps_for PassesOwn.never rfl (pi_list (pv 0)) (pg_name (i := 5) scLEnds.nd rfl (by first | exact Or.inl rfl | exact Or.inr rfl))
        (pss_cons (ps_if (pt_val (pe_callB call_isi (by rfl) T.n_isinstance (by decide +kernel) (pa_cons (pv 5) (pa_cons (pe_bltn (v := .ty "str") (by rfl) T.n_str (by decide +kernel) rfl) pa_nil))))
          (pss_one (ps_set (i := 4) scLEnds.nd rfl (by first | exact Or.inl rfl | exact Or.inr rfl) (pe_lc (own := [("place", 6)]) (g := gName 6) rfl scLEnds.nd (pi_list (pv 4)) (blkOk_by (N := ["body", "word", "starts", "seen", "here", "item", "place", "more", "inner"]) (sc := defScope sLEnds) (by decide +kernel)) (fun _ _ _ _ _ => (pg_name (i := 6) scLEnds.nd rfl (by first | exact Or.inl rfl | exact Or.inr rfl))) (fun _ _ _ _ _ => (pts_one (pt_cmpR (op_eqDK (K := K) rfl hr.units) (pe_slice (sl_listK (K := K) rfl) (pv 1) (po_some (pv 6)) (po_some (pe_op op_add (pv 6) pe_int))) (pe_lst (pa_cons (pv 5) pa_nil)) (nomark _)))) (fun _ _ _ _ _ => (pe_op op_add (pv 6) pe_int))))) (pss_one (ps_if (pt_cmpR op_eq (pe_ix ix_tup (pv 5) pe_int (fun _ _ => rfl)) pe_str (nomark _))
            (pss_one (ps_set (i := 4) scLEnds.nd rfl (by first | exact Or.inl rfl | exact Or.inr rfl) (pe_callB (cr_sortedSet rfl) (by rfl) T.n_sorted (by decide +kernel) (pa_cons (pe_callTy (cr_setIs rfl) (by rfl) T.n_set (by decide +kernel) (pa_cons (pe_callB (cr_sumLs rfl) (by rfl) T.n_sum (by decide +kernel) (pa_cons (pe_lc (own := [("inner", 8)]) (g := gName 8) (tt := tYes) rfl scLEnds.nd (pi_list (pe_ix ix_tup (pv 5) pe_int (fun _ _ => rfl))) (blkOk_by (N := ["body", "word", "starts", "seen", "here", "item", "place", "more", "inner"]) (sc := defScope sLEnds) (by decide +kernel)) (fun _ _ _ _ _ => (pg_name (i := 8) scLEnds.nd rfl (by first | exact Or.inl rfl | exact Or.inr rfl))) (fun _ _ _ _ _ => pts_nil) (fun _ _ _ _ _ => (pe_call GLEnds (hr.mono (by omega)) rfl T.gLEnds T.FLEnds.kp T.bLEnds .nil pass0 (pa_cons (pv 8) (pa_cons (pv 1) (pa_cons (pv 4) (pa_cons (pv 3) pa_nil))))))) (pa_cons (pe_lst pa_nil) pa_nil))) pa_nil)) pa_nil)))) (pss_one (ps_if (pt_cmpR op_eq (pe_ix ix_tup (pv 5) pe_int (fun _ _ => rfl)) pe_str (nomark _))
              (pss_one (ps_set (i := 4) scLEnds.nd rfl (by first | exact Or.inl rfl | exact Or.inr rfl) (pe_callB (cr_sortedSet rfl) (by rfl) T.n_sorted (by decide +kernel) (pa_cons (pe_callTy (cr_setIs rfl) (by rfl) T.n_set (by decide +kernel) (pa_cons (pe_op op_cat (pv 4) (pe_call GLEnds (hr.mono (by omega)) rfl T.gLEnds T.FLEnds.kp T.bLEnds .nil pass0 (pa_cons (pe_ix ix_tup (pv 5) pe_int (fun _ _ => rfl)) (pa_cons (pv 1) (pa_cons (pv 4) (pa_cons (pv 3) pa_nil)))))) pa_nil)) pa_nil)))) (pss_cons (ps_set (i := 7) scLEnds.nd rfl (by first | exact Or.inl rfl | exact Or.inr rfl) (pv 4))
              (pss_one (ps_while PassesOwn.never (pt_cmpR (op_neD hr.units) (pv 7) (pe_lst pa_nil) (nomark _))
                (pss_cons (ps_setLc (i := 7) (own := [("place", 6)]) (g := gName 6) rfl scLEnds.nd rfl rfl (sw_true rfl rfl rfl (by decide +kernel)) (pi_list (pe_call GLEnds (hr.mono (by omega)) rfl T.gLEnds T.FLEnds.kp T.bLEnds .nil pass0 (pa_cons (pe_ix ix_tup (pv 5) pe_int (fun _ _ => rfl)) (pa_cons (pv 1) (pa_cons (pv 7) (pa_cons (pv 3) pa_nil)))))) (blkOk_by (N := ["body", "word", "starts", "seen", "here", "item", "place", "more", "inner"]) (sc := defScope sLEnds) (by decide +kernel)) (fun _ _ _ _ _ => (pg_name (i := 6) scLEnds.nd rfl (by first | exact Or.inl rfl | exact Or.inr rfl))) (fun _ _ _ _ _ => (pts_one (pt_cmpR (op_notIn_seqK (K := K) rfl) (pv 6) (pv 4) (by rfl)))) (fun _ _ _ _ _ => (pv 6)))
                (pss_one (ps_set (i := 4) scLEnds.nd rfl (by first | exact Or.inl rfl | exact Or.inr rfl) (pe_callB cr_sorted (by rfl) T.n_sorted (by decide +kernel) (pa_cons (pe_op op_cat (pv 4) (pv 7)) pa_nil)))))))))))))
        (pss_one (ps_expr (pe_bm PySem.F.plainAttrs_list PySem.F.slot_list_extend PySem.F.type_list_extend mt_extend (pv 3) (pa_cons (pv 4) pa_nil))))))
      (pss_one (ps_ret (pv 4))))), ?_⟩
  have hl := hits.length
  obtain ⟨hbse, hb⟩ := wo_some.mp hb0
  obtain ⟨G, hG⟩ : ∃ G, G = grow (d + 1) ss.length := ⟨_, rfl⟩
  rw [← hG] at hcap q
  have few : ∀ ps : List Nat, ps.Pairwise (· < ·) → (∀ p ∈ ps, p ≤ u.length) → ps.length ≤ 61 := fun ps h1 h2 => by
    have := asc_few (n := 61) (lo := 0) h1 fun p hp => ⟨Nat.zero_le _, by have := h2 p hp; omega⟩
    omega
  refine ⟨_, rfl, _, rfl, b, rfl, ⟨_, SqL.of hb⟩, for_list (K := K) (a := b) (xs := vs) (fun i σ H' => ∃ hr v5 v6 v7 v8 ps ve', σ = [some (.ref b), some (.ref t0), some (.ref st), some (.ref se), some (.ref hr), v5, v6, v7, v8] ∧ Sm [se] H H' ∧ H' se = some (.lst ve') ∧ ve'.length ≤ ve.length + G * nIB (l.take i) ∧ Add ve ve' (fun p => ∃ s ∈ ss, SnB (l.take i) u s p) ∧ H' hr = some (.lst (nts ps)) ∧ hr ≠ se ∧ (hr = st ∨ H hr = none) ∧ ps.Pairwise (· < ·) ∧ (d = 0 → ps.length ≤ ss.length) ∧ ∀ p, p ∈ ps ↔ ∃ s ∈ ss, EnB (l.take i) u s p) ⟨st, none, none, none, none, ss, ve, rfl, Sm.refl _ _, hse, by omega, Add.nil (fun p h => by obtain ⟨_, _, h⟩ := h; simp [SnB] at h), hst, hsts, .inl rfl, pw, fun _ => Nat.le_refl _, fun p => ?_⟩ ?_ ?_ ?_⟩
  · rw [List.take_zero]
    constructor
    · intro h
      exact ⟨p, h, enB_nil.mpr ⟨rfl, hle p h⟩⟩
    · rintro ⟨s, hs, h⟩
      rw [← (enB_nil.mp h).1]
      exact hs
  · rintro i σ H' _ ⟨_, _, _, _, _, _, _, _, sm, _⟩
    exact SqL.of (sm _ _ hbse hb)
  · rintro i y σ H1 hi ⟨hr1, v5, v6, v7, v8, ps, ve', rfl, sm, he1, hel, had, hp1, hrs, hrn, pw1, hd0, hm1⟩
    obtain ⟨it, e1, e2⟩ := hits.get hi
    have hm : it ∈ l := List.mem_of_getElem? e1
    have oki := okB_all.mp ok it hm
    have d1 := dB_mem hm
    have n1 := nIB_takeS e1
    have n2 := nIB_take l (i + 1)
    have hple : ∀ p ∈ ps, p ≤ u.length := fun p hp => by
      obtain ⟨s, hs, h⟩ := (hm1 p).mp hp
      exact h.le.2
    have lp := few ps pw1 hple
    have ht1 := sm _ _ (by simpa using hts) ht
    have put : ∀ (G : Hp) (o : HO), Sm [se] H G → Sm [se] H (upd G se o) := fun G o sG c u' e z => by
      rw [upd_ne (by rintro rfl; exact e (by simp))]
      exact sG _ _ e z
    have nse : ∀ {H2 : Hp} {D : Addr}, Sm [se] H H2 → (∃ o, H2 se = some o) → H2 D = none → D ≠ se ∧ H D = none := fun {H2 D} s2 hs hD => by
      have n1 : D ≠ se := by
        rintro rfl
        obtain ⟨o, e⟩ := hs
        rw [e] at hD
        cases hD
      exact ⟨n1, s2.none (by simpa using n1) hD⟩
    have cap2 : ve.length + G * nIB (l.take i) + G * nI it + G ≤ 16000000 := by
      have m1 : G * nIB (l.take (i + 1)) ≤ G * nIB l := Nat.mul_le_mul_left _ n2
      rw [n1, Nat.mul_add, Nat.mul_add] at m1
      omega
    have done : ∀ (H2 : Hp) (D : Addr) (ps2 : List Nat) (ve2 : List V) (v6 v7 v8 : Option V), Sm [se] H H2 → H2 se = some (.lst ve2) → ve2.length ≤ ve.length + G * nIB (l.take i) + G * nI it → Add ve' ve2 (fun p => ∃ m ∈ ps, SnI it u m p) → H2 D = some (.lst (nts ps2)) → D ≠ se → (D = st ∨ H D = none) → ps2.Pairwise (· < ·) → ps2.length ≤ G → (d = 0 → ps2.length ≤ ss.length) → (∀ p, p ∈ ps2 ↔ ∃ m ∈ ps, EnI it u m p) →
        ve2.length + (nts ps2).length ≤ sizeLine ∧ ∃ hr v5 v6' v7' v8' ps ve', [some (.ref b), some (.ref t0), some (.ref st), some (.ref se), some (.ref D), some y, v6, v7, v8] = [some (.ref b), some (.ref t0), some (.ref st), some (.ref se), some (.ref hr), v5, v6', v7', v8'] ∧ Sm [se] H (upd H2 se (.lst (ve2 ++ nts ps2))) ∧ (upd H2 se (.lst (ve2 ++ nts ps2))) se = some (.lst ve') ∧ ve'.length ≤ ve.length + G * nIB (l.take (i + 1)) ∧ Add ve ve' (fun p => ∃ s ∈ ss, SnB (l.take (i + 1)) u s p) ∧ (upd H2 se (.lst (ve2 ++ nts ps2))) hr = some (.lst (nts ps)) ∧ hr ≠ se ∧ (hr = st ∨ H hr = none) ∧ ps.Pairwise (· < ·) ∧ (d = 0 → ps.length ≤ ss.length) ∧ ∀ p, p ∈ ps ↔ ∃ s ∈ ss, EnB (l.take (i + 1)) u s p := by
      intro H2 D ps2 ve2 v6 v7 v8 s2 he2 hl2 ha2 hD2 hDse hDn pa gG z0 pm
      refine ⟨?_, D, _, _, _, _, ps2, ve2 ++ nts ps2, rfl, put _ _ s2, upd_same, ?_, ?_, by rw [upd_ne hDse]; exact hD2, hDse, hDn, pa, z0, ends_take e1 hm1 pm⟩
      · have hs := sizeLine_eq
        rw [nts_len]
        omega
      · rw [List.length_append, nts_len, n1, Nat.mul_add, Nat.mul_add]
        omega
      · refine ((had.trans ha2).put ps2).iff fun p => ?_
        constructor
        · rintro ((⟨s, hs, h⟩ | ⟨m, hm, h⟩) | h)
          · exact ⟨s, hs, (snB_take e1).mpr (.inl h)⟩
          · obtain ⟨s, hs, h'⟩ := (hm1 m).mp hm
            exact ⟨s, hs, (snB_take e1).mpr (.inr ⟨m, h', .inl h⟩)⟩
          · obtain ⟨m, hm, h⟩ := (pm p).mp h
            obtain ⟨s, hs, h'⟩ := (hm1 m).mp hm
            exact ⟨s, hs, (snB_take e1).mpr (.inr ⟨m, h', .inr h⟩)⟩
        · rintro ⟨s, hs, h⟩
          rcases (snB_take e1).mp h with h | ⟨m, h', h | h⟩
          · exact .inl (.inl ⟨s, hs, h⟩)
          · exact .inl (.inr ⟨m, (hm1 m).mpr ⟨s, hs, h'⟩, h⟩)
          · exact .inr ((pm p).mpr ⟨m, (hm1 m).mpr ⟨s, hs, h'⟩, h⟩)
    cases e2 with
    | call x =>
      refine ⟨_, rfl, _, _, _, _, true, rfl, .ty _, ty_str x, kit_ty (by decide +kernel), _, rfl, iteT ?_⟩
      refine ⟨_, rfl, hr1, rfl, ⟨_, SqL.of hp1⟩, fun D hD => lcF (n := (nts ps).length) hD (by rw [nts_len]; omega) _ (fun j => match ps[j]? with | some q0 => if u[q0]? = some x then some (q0 + 1) else none | none => none) (go_l (SqL.of hp1)) (stop_l (SqL.of hp1)) (yld_l (SqL.of hp1)) ?_ ?_⟩
      · intro j y H2 body hj hy s2 kk
        obtain ⟨q0, e3, rfl⟩ := nts_get hy
        have hq0 := hple q0 (List.mem_of_getElem? e3)
        refine ⟨rfl, _, rfl, _, rfl, _, rfl, _, rfl, _, _, rfl, rfl, _, rfl, t0, _, rfl, SqL.of (s2 _ _ ht1), fun p hp => ?_⟩
        have s3 := same_upd0 hp (.lst (cutV (u.map V.str) (some (q0 : Int)) (some ((q0 : Int) + 1))))
        have g3 : (upd H2 p (.lst (cutV (u.map V.str) (some (q0 : Int)) (some ((q0 : Int) + 1))))) p = some (.lst (((u.drop q0).take 1).map V.str)) := by rw [upd_same, cut_one (by rw [List.length_map]; exact hq0), List.map_take, List.map_drop]
        generalize upd H2 p (.lst (cutV (u.map V.str) (some (q0 : Int)) (some ((q0 : Int) + 1)))) = H3 at s3 g3 ⊢
        refine ⟨_, rfl, Nat.le_of_lt (small1000 (by simp)), fun p2 hp2 => ?_⟩
        have s4 := same_upd0 hp2 (.lst [V.str x])
        have okx := hnn x (by simp only [okI] at oki; exact oki)
        refine ⟨.list (((u.drop q0).take 1).map PyData.str), .list ([x].map PyData.str), .lst (SqL.of (s4 _ _ g3)) (dp_strs _), .lst (SqL.of upd_same) (dp_strs [x]), strs_shaped fun y hy => hun y (List.mem_of_mem_drop (List.mem_of_mem_take hy)), strs_shaped fun y hy => by rw [List.mem_singleton.mp hy]; exact okx, _, rfl, ?_⟩
        have ev := eqv_one ((u.drop q0).take 1) x
        rw [show PyData.eqv (.list (((u.drop q0).take 1).map PyData.str)) (.list ([x].map PyData.str)) = decide ((u.drop q0).take 1 = [x]) from ev]
        by_cases z : u[q0]? = some x
        · rw [decide_eq_true (take_one_is.mpr z)]
          exact (kk _ _ (s3.trans s4)).2 (q0 + 1) (by simp only [e3, z, if_true]) fun Q k => ⟨_, rfl, _, _, rfl, rfl, k⟩
        · rw [decide_eq_false fun h => z (take_one_is.mp h)]
          exact (kk _ _ (s3.trans s4)).1 (by simp only [e3]; rw [if_neg z])
      · intro H2 s2 hD2
        have pl := pre_len (fun j => match ps[j]? with | some q0 => if u[q0]? = some x then some (q0 + 1) else none | none => none) (nts ps).length
        have pa : (pre (fun j => match ps[j]? with | some q0 => if u[q0]? = some x then some (q0 + 1) else none | none => none) (nts ps).length).Pairwise (· < ·) := pre_asc fun i j a b hij hj ha hb => by
          rw [nts_len] at hj
          have e1' : ps[i]? = some ps[i] := List.getElem?_eq_getElem (by omega)
          have e2' : ps[j]? = some ps[j] := List.getElem?_eq_getElem hj
          have := List.pairwise_iff_getElem.mp pw1 i j (by omega) hj hij
          simp only [e1'] at ha
          simp only [e2'] at hb
          split at ha
          · split at hb
            · cases ha; cases hb; omega
            · cases hb
          · cases ha
        have pm : ∀ p, p ∈ pre (fun j => match ps[j]? with | some q0 => if u[q0]? = some x then some (q0 + 1) else none | none => none) (nts ps).length ↔ ∃ m ∈ ps, EnI (.call x) u m p := fun p => by
          rw [pre_mem]
          constructor
          · rintro ⟨j, hj, hv⟩
            cases e : ps[j]? with
            | none => simp only [e] at hv; cases hv
            | some q0 =>
              simp only [e] at hv
              split at hv
              · next z => cases hv; exact ⟨q0, List.mem_of_getElem? e, enI_call.mpr ⟨rfl, z⟩⟩
              · cases hv
          · rintro ⟨m, hm, h⟩
            obtain ⟨rfl, z⟩ := enI_call.mp h
            obtain ⟨j, hj⟩ := List.mem_iff_getElem?.mp hm
            refine ⟨j, ?_, by simp only [hj, z, if_true]⟩
            rw [nts_len]
            by_cases zz : j < ps.length
            · exact zz
            · rw [List.getElem?_eq_none (by omega)] at hj; cases hj
        generalize pre (fun j => match ps[j]? with | some q0 => if u[q0]? = some x then some (q0 + 1) else none | none => none) (nts ps).length = ps2 at hD2 pl pa pm ⊢
        rw [nts_len] at pl
        have he2 := s2 _ _ he1
        obtain ⟨hDse, hDn⟩ := nse sm ⟨_, he1⟩ hD
        have gG : ps2.length ≤ G := by
          rw [hG]
          unfold grow
          by_cases z : d = 0
          · subst z
            rw [if_pos (by omega)]
            have := hd0 rfl
            omega
          · rw [if_neg (by omega), Nat.add_sub_cancel]
            have : 61 ^ 1 ≤ 61 ^ d := Nat.pow_le_pow_right (by decide) (by omega)
            omega
        obtain ⟨k1, k2⟩ := done H2 D ps2 ve' v6 v7 v8 (fun y o e z => s2 _ _ (sm _ _ e z)) he2 (by omega) (Add.nil fun p h => by obtain ⟨_, _, h⟩ := h; simp [SnI] at h) hD2 hDse (.inr hDn) pa gG (fun z => by have := hd0 z; omega) pm
        exact ⟨_, rfl, .inl ⟨rfl, _, SqL.of he2⟩, _, rfl, se, D, _, _, rfl, rfl, he2, hD2, k1, k2⟩
    | @one t b' ws bs h1 h2 h3 =>
      obtain ⟨hta, h10⟩ := wo_some.mp h1
      obtain ⟨hb'a, h20⟩ := wo_some.mp h2
      have h1' := sm _ _ hta h10
      have h2' := sm _ _ hb'a h20
      simp only [okI] at oki
      have hbl := h3.length
      have m4 : nI (.one bs) = nIBs bs := by simp only [nI]
      have m5 : dI (.one bs) = dBs bs := by simp only [dI]
      obtain ⟨bz, hbz⟩ : ∃ bz, bs[0]? = some bz := ⟨_, List.getElem?_eq_getElem (by omega)⟩
      have hdd : 1 ≤ d := by
        have := dBs_mem (List.mem_of_getElem? hbz)
        have := dB_pos bz
        omega
      have gle := grow_le hG hdd
      have gps := gle _ lp
      refine ⟨_, rfl, _, _, _, _, false, rfl, .ty _, ty_tup h1', kit_ty (by decide +kernel), _, rfl, iteF ?_⟩
      refine ⟨_, rfl, _, _, _, _, rfl, rfl, SqT.of h1', at_of (j := 0) rfl rfl, rfl, _, rfl, ite2 (fun _ => ?_) (fun c => absurd (decide_eq_true rfl) c)⟩
      refine ⟨_, rfl, _, _, _, _, rfl, rfl, SqT.of h1', at_of (j := 1) rfl rfl, b', rfl, ⟨_, SqL.of h2'⟩, fun D hD => ?_⟩
      obtain ⟨hDse, hDn⟩ := nse sm ⟨_, he1⟩ hD
      have hrD : hr1 ≠ D := ne_of_none hp1 hD
      refine ⟨fun j m H2 => j ≤ ws.length ∧ m = ws.length - j ∧ Sm [se] H1 H2 ∧ ∃ (ys v2 : List V) (pl : List (List Nat)), H2 D = some (.lst ys) ∧ H2 se = some (.lst v2) ∧ v2.length ≤ ve'.length + G * nIBs (bs.take j) ∧ Add ve' v2 (fun p => ∃ s ∈ ps, SnBs (bs.take j) u s p) ∧ ys.length = j ∧ pl.length = j ∧ ∀ (k : Nat) (y : V), ys[k]? = some y → ∃ r qs bd, y = V.ref r ∧ pl[k]? = some qs ∧ bs[k]? = some bd ∧ H2 r = some (.lst (nts qs)) ∧ r ≠ se ∧ r ≠ D ∧ qs.length ≤ 61 ∧ ∀ p, p ∈ qs ↔ ∃ s ∈ ps, EnB bd u s p, ⟨_, Nat.zero_le _, rfl, Sm.new hD, [], ve', [], upd_same, by rw [upd_ne hDse.symm]; exact he1, by omega, Add.nil (fun p h => by obtain ⟨_, _, h⟩ := h; simp [SnBs] at h), rfl, rfl, fun k y e => by simp at e⟩, ?_⟩
      rintro j m H2 ⟨hj, rfl, s2, ys, v2, pl, g1, g2, g3, g3a, g4, g5, g6⟩
      have h2'' := s2 _ _ hb'a h2'
      by_cases hlt : j < ws.length
      · refine .inr ⟨go_l (SqL.of h2'') j H2 (fun _ _ e => e) hlt, fun H3 => j + 1 ≤ ws.length ∧ Sm [se] H1 H3 ∧ ∃ (ys v2 : List V) (pl : List (List Nat)), H3 D = some (.lst ys) ∧ H3 se = some (.lst v2) ∧ v2.length ≤ ve'.length + G * nIBs (bs.take (j + 1)) ∧ Add ve' v2 (fun p => ∃ s ∈ ps, SnBs (bs.take (j + 1)) u s p) ∧ ys.length = j + 1 ∧ pl.length = j + 1 ∧ ∀ (k : Nat) (y : V), ys[k]? = some y → ∃ r qs bd, y = V.ref r ∧ pl[k]? = some qs ∧ bs[k]? = some bd ∧ H3 r = some (.lst (nts qs)) ∧ r ≠ se ∧ r ≠ D ∧ qs.length ≤ 61 ∧ ∀ p, p ∈ qs ↔ ∃ s ∈ ps, EnB bd u s p, fun H3 h => ⟨ws.length - (j + 1), by omega, h.1, rfl, h.2⟩, fun x H3 y => ?_⟩
        obtain ⟨rfl, hy⟩ := yld_l (SqL.of h2'') j H2 x H3 (fun _ _ e => e) hlt y
        obtain ⟨bb, bd, rfl, q1, q2⟩ := h3.get hy
        have hmb : bd ∈ bs := List.mem_of_getElem? q1
        have m2 := nIBs_mem hmb
        have m3 := dBs_mem hmb
        have n3 := nIBs_takeS q1
        have n4 := nIBs_take bs (j + 1)
        have c1 : G * nIBs (bs.take (j + 1)) ≤ G * nIBs bs := Nat.mul_le_mul_left _ n4
        have c2 : grow d ps.length * nIB bd ≤ G * nIB bd := Nat.mul_le_mul_right _ gps
        rw [n3, Nat.mul_add] at c1
        rw [m4] at cap2
        have sm2 := sm.trans s2
        refine ⟨rfl, yesT ?_⟩
        rw [if_pos rfl]
        refine ⟨_, rfl, _, rfl, _, rfl, _, rfl, bb, t0, hr1, se, bd, ns, u, ps, v2, rfl, q2.keep (Kp.of sm2.same), okBs_all.mp oki.2.2.2 bd hmb, by omega, by omega, sm2 _ _ (by simpa using hts) ht, hul, hun, hnn, hts, s2 _ _ (by simpa using hrs) hp1, hrs, pw1, hple, g2, by omega, fun r H4 qs v3 s3 k1 k2 k2a k3 k4 k5 k6 k7 => ?_⟩
        have qsl : qs.length ≤ 61 := few qs k6 fun p hp => by
          obtain ⟨s, hs, h⟩ := (k7 p).mp hp
          exact h.le.2
        have rD : r ≠ D := by
          rcases k5 with rfl | z
          · exact hrD
          · rintro rfl; rw [g1] at z; cases z
        refine ⟨ys, s3 _ _ (by simpa using hDse) g1, small1000 (by omega), hlt, fun c o e z => ?_, ys ++ [.ref r], v3, pl ++ [qs], upd_same, by rw [upd_ne hDse.symm]; exact k1, by rw [n3, Nat.mul_add]; omega, (g3a.trans k2a).iff fun p => ?_, by simp [g4], by simp [g5], fun k y hk => ?_⟩
        · rw [upd_ne (ne_of_none z hD)]
          exact s3 _ _ e (s2 _ _ e z)
        · simp only [snBs_iff]
          constructor
          · rintro (⟨s, hs, b, hb, h⟩ | ⟨s, hs, h⟩)
            · exact ⟨s, hs, b, (List.take_sublist_take_left (by omega)).subset hb, h⟩
            · refine ⟨s, hs, bd, ?_, h⟩
              rw [List.take_add_one, q1]
              simp
          · rintro ⟨s, hs, b, hb, h⟩
            rw [List.take_add_one, q1] at hb
            rcases List.mem_append.mp hb with hb | hb
            · exact .inl ⟨s, hs, b, hb, h⟩
            · simp at hb
              subst hb
              exact .inr ⟨s, hs, h⟩
        · by_cases hk2 : k < ys.length
          · rw [List.getElem?_append_left hk2] at hk
            obtain ⟨r', qs', bd', a1, a2, a3, a4, a5, a6, a7, a8⟩ := g6 k y hk
            exact ⟨r', qs', bd', a1, by rw [List.getElem?_append_left (by omega)]; exact a2, a3, by rw [upd_ne a6]; exact s3 _ _ (by simpa using a5) a4, a5, a6, a7, a8⟩
          · rw [List.getElem?_append_right (by omega)] at hk
            have e0 : k - ys.length = 0 := by
              rcases Nat.eq_zero_or_pos (k - ys.length) with z | z
              · exact z
              · rw [List.getElem?_eq_none (by simp; omega)] at hk; cases hk
            rw [e0] at hk
            cases hk
            have ek : k = j := by omega
            subst ek
            exact ⟨r, qs, bd, rfl, by rw [List.getElem?_append_right (by omega), g5, Nat.sub_self]; rfl, q1, by rw [upd_ne rD]; exact k3, k4, rD, qsl, k7⟩
      · have ej : j = ws.length := by omega
        subst ej
        refine .inl ⟨stop_l (SqL.of h2'') H2 (fun _ _ e => e), Nat.zero_le _, fun p hp => ?_⟩
        have s3 := same_upd0 hp (.lst [])
        have hDp : D ≠ p := ne_of_none g1 hp
        have fl : pl.flatten.length ≤ 61 * pl.length := flat_len fun qs hq => by
          obtain ⟨k, hk⟩ := List.mem_iff_getElem?.mp hq
          have hkl : k < ys.length := by
            by_cases z : k < pl.length
            · omega
            · rw [List.getElem?_eq_none (by omega)] at hk; cases hk
          obtain ⟨r, qs', bd, _, a2, _, _, _, _, a7, _⟩ := g6 k _ (List.getElem?_eq_getElem hkl)
          rw [hk] at a2
          cases a2
          exact a7
        have fm : ∀ p, p ∈ pl.flatten ↔ ∃ m ∈ ps, EnI (.one bs) u m p := fun p => by
          rw [List.mem_flatten]
          constructor
          · rintro ⟨qs, hq, hpq⟩
            obtain ⟨k, hk⟩ := List.mem_iff_getElem?.mp hq
            have hkl : k < ys.length := by
              by_cases z : k < pl.length
              · omega
              · rw [List.getElem?_eq_none (by omega)] at hk; cases hk
            obtain ⟨r, qs', bd, _, a2, a3, _, _, _, _, a8⟩ := g6 k _ (List.getElem?_eq_getElem hkl)
            rw [hk] at a2
            cases a2
            obtain ⟨s, hs, h⟩ := (a8 p).mp hpq
            exact ⟨s, hs, enI_one.mpr ⟨bd, List.mem_of_getElem? a3, h⟩⟩
          · rintro ⟨s, hs, h⟩
            obtain ⟨bd, hbd, h⟩ := enI_one.mp h
            obtain ⟨k, hk⟩ := List.mem_iff_getElem?.mp hbd
            have hkl : k < ys.length := by
              by_cases z : k < bs.length
              · omega
              · rw [List.getElem?_eq_none (by omega)] at hk; cases hk
            obtain ⟨r, qs', bd', _, a2, a3, _, _, _, _, a8⟩ := g6 k _ (List.getElem?_eq_getElem hkl)
            rw [hk] at a3
            cases a3
            exact ⟨qs', List.mem_of_getElem? a2, (a8 p).mpr ⟨s, hs, h⟩⟩
        have bl4 := oki.2.1
        refine ⟨D, p, ys, pl.map nts, rfl, s3 _ _ g1, upd_same, fun z => ?_, by rw [List.length_map]; omega, fun k y hk => ?_, ?_, fun r hr => ?_⟩
        · rw [z] at g4; simp at g4; omega
        · obtain ⟨r', qs', bd', a1, a2, a3, a4, a5, a6, a7, a8⟩ := g6 k y hk
          exact ⟨r', nts qs', a1, by rw [List.getElem?_map, a2]; rfl, s3 _ _ a4⟩
        · rw [nts_flat_all, nts_len]
          exact Nat.le_of_lt (small1000 (by omega))
        rw [nts_flat_all]
        dsimp only [tNil]
        refine sort_setN (K := K) (w := w) (l := pl.flatten) upd_same (by omega) (fun p hp => ?_) fun a c o qs ha hc pa pm => ?_
        · obtain ⟨s, hs, h⟩ := (fm p).mp hp
          have := h.le.2
          omega
        have s4 := same_upd0 hr (.lst (nts pl.flatten))
        have s5 := same_upd0 ha o
        have s6 := same_upd0 hc (.lst (nts qs))
        have s16 : Same H2 (upd (upd (upd (upd H2 p (.lst [])) r (.lst (nts pl.flatten))) a o) c (.lst (nts qs))) := fun y o e => s6 _ _ (s5 _ _ (s4 _ _ (s3 _ _ e)))
        have e6 : (upd (upd (upd (upd H2 p (.lst [])) r (.lst (nts pl.flatten))) a o) c (.lst (nts qs))) c = some (.lst (nts qs)) := upd_same
        have hcn : H2 c = none := none_same s3 (none_same s4 (none_same s5 hc))
        generalize upd (upd (upd (upd H2 p (.lst [])) r (.lst (nts pl.flatten))) a o) c (.lst (nts qs)) = H6 at s16 e6 ⊢
        obtain ⟨hcse, hcn2⟩ := nse (sm.trans s2) ⟨_, g2⟩ hcn
        have he6 := s16 _ _ g2
        have qm : ∀ p, p ∈ qs ↔ ∃ m ∈ ps, EnI (.one bs) u m p := fun p => (pm p).trans (fm p)
        have qsl : qs.length ≤ 61 := few qs pa fun p hp => by
          obtain ⟨s, hs, h⟩ := (qm p).mp hp
          exact h.le.2
        have c1 : G * nIBs (bs.take ws.length) ≤ G * nIBs bs := Nat.mul_le_mul_left _ (nIBs_take _ _)
        have g61 := gle61 hG hdd
        obtain ⟨k1, k2⟩ := done H6 c qs v2 v6 v7 v8 ((sm.trans s2).trans (Sm.of_same s16)) he6 (by rw [m4]; omega) (g3a.iff fun p => by rw [List.take_of_length_le (by omega)]; simp only [SnI]) e6 hcse (.inr hcn2) pa (by omega) (fun z => by omega) qm
        exact ⟨_, rfl, .inl ⟨rfl, _, SqL.of he6⟩, _, rfl, se, c, _, _, rfl, rfl, he6, e6, k1, k2⟩
    | @may t b' ws l' h1 h2 h3 =>
      obtain ⟨hta, h10⟩ := wo_some.mp h1
      obtain ⟨hb'a, h20⟩ := wo_some.mp h2
      have h1' := sm _ _ hta h10
      have m4 : nI (.may l') = nIB l' := by simp only [nI]
      have m5 : dI (.may l') = dB l' := by simp only [dI]
      simp only [okI] at oki
      have hdd : 1 ≤ d := by
        have := dB_pos l'
        omega
      have gle := grow_le hG hdd
      have gps := gle _ lp
      have g61 := gle61 hG hdd
      have c2 : grow d ps.length * nIB l' ≤ G * nIB l' := Nat.mul_le_mul_right _ gps
      rw [m4] at cap2
      refine ⟨_, rfl, _, _, _, _, false, rfl, .ty _, ty_tup h1', kit_ty (by decide +kernel), _, rfl, iteF ?_⟩
      refine ⟨_, rfl, _, _, _, _, rfl, rfl, SqT.of h1', at_of (j := 0) rfl rfl, rfl, _, rfl, ite2 (fun c => absurd (of_decide_eq_true c) (by decide)) (fun _ => ?_)⟩
      refine ⟨_, rfl, _, _, _, _, rfl, rfl, SqT.of h1', at_of (j := 0) rfl rfl, rfl, _, rfl, ite2 (fun _ => ?_) (fun c => absurd (decide_eq_true rfl) c)⟩
      refine ⟨_, rfl, _, rfl, _, _, _, _, rfl, rfl, SqT.of h1', at_of (j := 1) rfl rfl, _, rfl, _, rfl, _, rfl, b', t0, hr1, se, l', ns, u, ps, ve', rfl, ⟨ws, wo_some.mpr ⟨hb'a, sm _ _ hb'a h20⟩, h3.keep (Kp.of sm.same)⟩, oki.2, by omega, by omega, ht1, hul, hun, hnn, hts, hp1, hrs, pw1, hple, he1, by omega, fun r H2 qs v3 s3 k1 k2 k2a k3 k4 k5 k6 k7 => ?_⟩
      have qsl : qs.length ≤ 61 := few qs k6 fun p hp => by
        obtain ⟨s, hs, h⟩ := (k7 p).mp hp
        exact h.le.2
      refine ⟨hr1, r, _, _, rfl, rfl, s3 _ _ (by simpa using hrs) hp1, k3, by rw [nts_len, nts_len]; exact Nat.le_of_lt (small1000 (by omega)), fun p hp => ?_⟩
      rw [← nts_app]
      have fm : ∀ p, p ∈ ps ++ qs ↔ ∃ m ∈ ps, EnI (.may l') u m p := fun p => by
        rw [List.mem_append, k7]
        constructor
        · rintro (h | ⟨s, hs, h⟩)
          · exact ⟨p, h, enI_may.mpr (.inl ⟨rfl, hple p h⟩)⟩
          · exact ⟨s, hs, enI_may.mpr (.inr h)⟩
        · rintro ⟨s, hs, h⟩
          rcases enI_may.mp h with ⟨rfl, _⟩ | h
          · exact .inl hs
          · exact .inr ⟨s, hs, h⟩
      dsimp only [tNil]
      refine sort_setN (K := K) (w := w) (l := ps ++ qs) upd_same (by rw [List.length_append]; omega) (fun p hp => ?_) fun a c o qs2 ha hc pa pm => ?_
      · obtain ⟨s, hs, h⟩ := (fm p).mp hp
        have := h.le.2
        omega
      have s4 := same_upd0 hp (.lst (nts (ps ++ qs)))
      have s5 := same_upd0 ha o
      have s6 := same_upd0 hc (.lst (nts qs2))
      have s16 : Same H2 (upd (upd (upd H2 p (.lst (nts (ps ++ qs)))) a o) c (.lst (nts qs2))) := fun y o e => s6 _ _ (s5 _ _ (s4 _ _ e))
      have e6 : (upd (upd (upd H2 p (.lst (nts (ps ++ qs)))) a o) c (.lst (nts qs2))) c = some (.lst (nts qs2)) := upd_same
      have hcn : H2 c = none := none_same s4 (none_same s5 hc)
      generalize upd (upd (upd H2 p (.lst (nts (ps ++ qs)))) a o) c (.lst (nts qs2)) = H6 at s16 e6 ⊢
      obtain ⟨hcse, hcn2⟩ := nse (sm.trans s3) ⟨_, k1⟩ hcn
      have he6 := s16 _ _ k1
      have qm : ∀ p, p ∈ qs2 ↔ ∃ m ∈ ps, EnI (.may l') u m p := fun p => (pm p).trans (fm p)
      have qsl2 : qs2.length ≤ 61 := few qs2 pa fun p hp => by
        obtain ⟨s, hs, h⟩ := (qm p).mp hp
        exact h.le.2
      obtain ⟨d1', d2'⟩ := done H6 c qs2 v3 v6 v7 v8 ((sm.trans s3).trans (Sm.of_same s16)) he6 (by rw [m4]; omega) (k2a.iff fun p => by simp only [SnI]) e6 hcse (.inr hcn2) pa (by omega) (fun z => by omega) qm
      exact ⟨_, rfl, .inl ⟨rfl, _, SqL.of he6⟩, _, rfl, se, c, _, _, rfl, rfl, he6, e6, d1', d2'⟩
    | @loop t b' ws l' h1 h2 h3 =>
      obtain ⟨hta, h10⟩ := wo_some.mp h1
      obtain ⟨hb'a, h20⟩ := wo_some.mp h2
      have h1' := sm _ _ hta h10
      have m4 : nI (.loop l') = nIB l' := by simp only [nI]
      have m5 : dI (.loop l') = dB l' := by simp only [dI]
      simp only [okI] at oki
      have hdd : 1 ≤ d := by
        have := dB_pos l'
        omega
      have g61 := gle61 hG hdd
      rw [m4] at cap2
      obtain ⟨X, hX⟩ : ∃ X, X = 61 ^ (d - 1) * nIB l' := ⟨_, rfl⟩
      have hGX : 61 * X = G * nIB l' := by
        rw [hX, hG, ← Nat.mul_assoc]
        congr 1
        unfold grow
        rw [if_neg (show ¬ d + 1 ≤ 1 by omega), Nat.add_sub_cancel]
        have : d = (d - 1) + 1 := by omega
        rw [this, Nat.pow_succ, Nat.mul_comm]
        rfl
      have gX : ∀ n, 1 ≤ n → grow d n * nIB l' ≤ n * X := fun n hn => by
        rw [hX, ← Nat.mul_assoc]
        refine Nat.mul_le_mul_right _ ?_
        unfold grow
        split
        · have : d - 1 = 0 := by omega
          rw [this]
          omega
        · exact Nat.le_mul_of_pos_left _ (by omega)
      refine ⟨_, rfl, _, _, _, _, false, rfl, .ty _, ty_tup h1', kit_ty (by decide +kernel), _, rfl, iteF ?_⟩
      refine ⟨_, rfl, _, _, _, _, rfl, rfl, SqT.of h1', at_of (j := 0) rfl rfl, rfl, _, rfl, ite2 (fun c => absurd (of_decide_eq_true c) (by decide)) (fun _ => ?_)⟩
      refine ⟨_, rfl, _, _, _, _, rfl, rfl, SqT.of h1', at_of (j := 0) rfl rfl, rfl, _, rfl, ite2 (fun c => absurd (of_decide_eq_true c) (by decide)) (fun _ => ?_)⟩
      refine ⟨_, rfl, fun m σ H2 => ∃ hr2 mr v6 hs ms v2, σ = [some (.ref b), some (.ref t0), some (.ref st), some (.ref se), some (.ref hr2), some (.ref t), v6, some (.ref mr), v8] ∧ m = (62 - hs.length) * 2 + (if ms = [] then 0 else 1) ∧ Sm [se] H H2 ∧ H2 se = some (.lst v2) ∧ ms.length ≤ hs.length ∧ v2.length ≤ ve'.length + (hs.length - ms.length) * X ∧ Add ve' v2 (fun p => ∃ s ∈ hs, s ∉ ms ∧ SnB l' u s p) ∧ H2 hr2 = some (.lst (nts hs)) ∧ hr2 ≠ se ∧ (hr2 = st ∨ H hr2 = none) ∧ H2 mr = some (.lst (nts ms)) ∧ mr ≠ se ∧ hs.Pairwise (· < ·) ∧ ms.Pairwise (· < ·) ∧ (∀ p ∈ ms, p ∈ hs) ∧ (∀ p ∈ ps, p ∈ hs) ∧ (∀ p ∈ hs, ∃ s ∈ ps, Again l' u s p) ∧ (∀ p ∈ hs, p ∉ ms → ∀ m, EnB l' u p m → m ∈ hs), ⟨_, hr1, hr1, v6, ps, ps, ve', rfl, rfl, sm, he1, Nat.le_refl _, by omega, Add.nil (fun p h => by obtain ⟨s, h1, h2, _⟩ := h; exact h2 h1), hp1, hrs, hrn, hp1, hrs, pw1, pw1, fun p h => h, fun p h => h, fun p h => ⟨p, h, .here (hple p h)⟩, fun p h n => absurd h n⟩, ?_⟩
      rintro m σ H2 ⟨hr2, mr, v6, hs, ms, v2, rfl, rfl, s2, g1, gl, g2, g2a, g3, g4, g5, g6, g7, ha1, ha2, hsub, hps, hag, hcl⟩
      have again_le : ∀ {s p : Nat}, Again l' u s p → p ≤ u.length := fun {s p} h => by
        cases h with
        | here h => exact h
        | on _ h => exact h.le.2
      have hle2 : ∀ p ∈ hs, p ≤ u.length := fun p hp => by
        obtain ⟨s, _, h⟩ := hag p hp
        exact again_le h
      have lh := few hs ha1 hle2
      have lm := few ms ha2 fun p hp => hle2 p (hsub p hp)
      refine ⟨_, rfl, Nat.zero_le _, fun p hp => ?_⟩
      have s3 := same_upd0 hp (.lst [])
      have e3 : (upd H2 p (.lst [])) p = some (.lst []) := upd_same
      generalize upd H2 p (.lst []) = H3 at s3 e3 ⊢
      have s23 := s2.trans (Sm.of_same s3)
      refine ⟨.list (ms.map fun (q : Nat) => PyData.int (q : Int)), .list [], .lst (SqL.of (s3 _ _ g6)) (dp_nts ms), .lst (SqL.of e3) .nil, nts_shaped ms, by decide +kernel, _, rfl, ?_⟩
      rw [eqv_nil]
      by_cases hms : ms = []
      · subst hms
        refine iteF ?_
        have qm : ∀ p, p ∈ hs ↔ ∃ m ∈ ps, EnI (.loop l') u m p := fun p => by
          rw [again_closed hps hag (fun p hp m hb => hcl p hp (by simp) m hb) p]
          exact ⟨fun ⟨s, h1, h2⟩ => ⟨s, h1, enI_loop.mpr h2⟩, fun ⟨s, h1, h2⟩ => ⟨s, h1, enI_loop.mp h2⟩⟩
        have c3 : (hs.length - ([] : List Nat).length) * X ≤ 61 * X := Nat.mul_le_mul_right _ (by omega)
        have he3 := s3 _ _ g1
        have ga : Add ve' v2 (fun p => ∃ m ∈ ps, SnI (.loop l') u m p) := g2a.iff fun p => by
          simp only [SnI]
          constructor
          · rintro ⟨s, h1, _, h3⟩
            obtain ⟨s0, h4, h5⟩ := hag s h1
            exact ⟨s0, h4, s, h5, h3⟩
          · rintro ⟨s0, h4, s, h5, h3⟩
            exact ⟨s, (again_closed hps hag (fun p hp m hb => hcl p hp (by simp) m hb) s).mpr ⟨s0, h4, h5⟩, by simp, h3⟩
        obtain ⟨k1, k2⟩ := done H3 hr2 hs v2 v6 (some (.ref mr)) v8 s23 he3 (by rw [m4]; omega) ga (s3 _ _ g3) g4 g5 ha1 (by omega) (fun z => by omega) qm
        exact ⟨_, rfl, .inl ⟨rfl, _, SqL.of he3⟩, _, rfl, se, hr2, _, _, rfl, rfl, he3, s3 _ _ g3, k1, k2⟩
      · have hpos : 1 ≤ ms.length := by
          rcases Nat.eq_zero_or_pos ms.length with z | z
          · exact absurd (List.eq_nil_of_length_eq_zero z) hms
          · exact z
        have c3 := gX _ hpos
        have c4 : (hs.length - ms.length) * X + ms.length * X = hs.length * X := by rw [← Nat.add_mul]; congr 1; omega
        have c5 : hs.length * X ≤ 61 * X := Nat.mul_le_mul_right _ lh
        rw [show (ms.map fun (q : Nat) => PyData.int (q : Int)).isEmpty = false by cases ms with | nil => exact absurd rfl hms | cons _ _ => rfl]
        refine iteT ?_
        refine ⟨fun σ H4 => ∃ m', m' < (62 - hs.length) * 2 + (if ms = [] then 0 else 1) ∧ ∃ hr2 mr v6 hs ms v2, σ = [some (.ref b), some (.ref t0), some (.ref st), some (.ref se), some (.ref hr2), some (.ref t), v6, some (.ref mr), v8] ∧ m' = (62 - hs.length) * 2 + (if ms = [] then 0 else 1) ∧ Sm [se] H H4 ∧ H4 se = some (.lst v2) ∧ ms.length ≤ hs.length ∧ v2.length ≤ ve'.length + (hs.length - ms.length) * X ∧ Add ve' v2 (fun p => ∃ s ∈ hs, s ∉ ms ∧ SnB l' u s p) ∧ H4 hr2 = some (.lst (nts hs)) ∧ hr2 ≠ se ∧ (hr2 = st ∨ H hr2 = none) ∧ H4 mr = some (.lst (nts ms)) ∧ mr ≠ se ∧ hs.Pairwise (· < ·) ∧ ms.Pairwise (· < ·) ∧ (∀ p ∈ ms, p ∈ hs) ∧ (∀ p ∈ ps, p ∈ hs) ∧ (∀ p ∈ hs, ∃ s ∈ ps, Again l' u s p) ∧ (∀ p ∈ hs, p ∉ ms → ∀ m, EnB l' u p m → m ∈ hs), fun σ' H' h => h, ?_⟩
        refine ⟨_, rfl, _, _, _, _, rfl, rfl, SqT.of (s23 _ _ hta h10), at_of (j := 1) rfl rfl, _, rfl, _, rfl, _, rfl, b', t0, mr, se, l', ns, u, ms, v2, rfl, ⟨ws, wo_some.mpr ⟨hb'a, s23 _ _ hb'a h20⟩, h3.keep (Kp.of s23.same)⟩, oki.2, by omega, by omega, s23 _ _ (by simpa using hts) ht, hul, hun, hnn, hts, s3 _ _ g6, g7, ha2, fun p hp => hle2 p (hsub p hp), s3 _ _ g1, by omega, fun r H4 qs v3 s4 k1 k2 k2a k3 k4 k5 k6 k7 => ?_⟩
        have s24 := s23.trans s4
        have g3' := s4 _ _ (by simpa using g4) (s3 _ _ g3)
        have qsl : qs.length ≤ 61 := few qs k6 fun p hp => by
          obtain ⟨s, hs, h⟩ := (k7 p).mp hp
          exact h.le.2
        refine ⟨r, rfl, ⟨_, SqL.of k3⟩, fun D hD => lcF (n := (nts qs).length) hD (by rw [nts_len]; omega) _ (fun j => match qs[j]? with | some q0 => if q0 ∈ hs then none else some q0 | none => none) (go_l (SqL.of k3)) (stop_l (SqL.of k3)) (yld_l (SqL.of k3)) ?_ ?_⟩
        · intro j y H5 body hj hy s5 kk
          obtain ⟨q0, e4, rfl⟩ := nts_get hy
          refine ⟨rfl, _, rfl, _, rfl, hr2, _, rfl, .inl (SqL.of (s5 _ _ g3')), rfl, nts_flat _, ?_⟩
          refine ⟨_, rfl, ?_⟩
          rw [inV_nts]
          by_cases z : q0 ∈ hs
          · rw [decide_eq_true z]
            exact (kk _ _ (fun _ _ e => e)).1 (by simp only [e4]; rw [if_pos z])
          · rw [decide_eq_false z]
            exact (kk _ _ (fun _ _ e => e)).2 q0 (by simp only [e4]; rw [if_neg z]) fun Q k => ⟨_, rfl, k⟩
        · intro H5 s5 hD5
          have pl := pre_len (fun j => match qs[j]? with | some q0 => if q0 ∈ hs then none else some q0 | none => none) (nts qs).length
          have pa : (pre (fun j => match qs[j]? with | some q0 => if q0 ∈ hs then none else some q0 | none => none) (nts qs).length).Pairwise (· < ·) := pre_asc fun i j a b hij hj ha hb => by
            rw [nts_len] at hj
            have e1' : qs[i]? = some qs[i] := List.getElem?_eq_getElem (by omega)
            have e2' : qs[j]? = some qs[j] := List.getElem?_eq_getElem hj
            have := List.pairwise_iff_getElem.mp k6 i j (by omega) hj hij
            simp only [e1'] at ha
            simp only [e2'] at hb
            split at ha
            · cases ha
            · split at hb
              · cases hb
              · cases ha; cases hb; exact this
          have pm : ∀ p, p ∈ pre (fun j => match qs[j]? with | some q0 => if q0 ∈ hs then none else some q0 | none => none) (nts qs).length ↔ (∃ m ∈ ms, EnB l' u m p) ∧ p ∉ hs := fun p => by
            rw [pre_mem, ← k7]
            constructor
            · rintro ⟨j, hj, hv⟩
              cases e : qs[j]? with
              | none => simp only [e] at hv; cases hv
              | some q0 =>
                simp only [e] at hv
                split at hv
                · cases hv
                · next z => cases hv; exact ⟨List.mem_of_getElem? e, z⟩
            · rintro ⟨h, z⟩
              obtain ⟨j, hj⟩ := List.mem_iff_getElem?.mp h
              refine ⟨j, ?_, by simp only [hj]; rw [if_neg z]⟩
              rw [nts_len]
              by_cases zz : j < qs.length
              · exact zz
              · rw [List.getElem?_eq_none (by omega)] at hj; cases hj
          generalize pre (fun j => match qs[j]? with | some q0 => if q0 ∈ hs then none else some q0 | none => none) (nts qs).length = qs2 at hD5 pl pa pm ⊢
          rw [nts_len] at pl
          have hD' : H4 D = none := hD
          obtain ⟨hDse, hDn⟩ := nse s24 ⟨_, k1⟩ hD'
          have he5 := s5 _ _ k1
          have g35 := s5 _ _ g3'
          refine ⟨_, rfl, _, rfl, hr2, D, _, _, rfl, rfl, g35, hD5, by rw [nts_len, nts_len]; exact Nat.le_of_lt (small1000 (by omega)), fun p hp => ?_⟩
          rw [← nts_app]
          have nd : (hs ++ qs2).Nodup := by
            rw [List.nodup_append]
            refine ⟨ha1.imp fun h => by omega, pa.imp fun h => by omega, fun x hx y hy e => ?_⟩
            subst e
            exact ((pm x).mp hy).2 hx
          have al : ∀ p ∈ hs ++ qs2, p < 61 := fun p hp => by
            rcases List.mem_append.mp hp with h | h
            · have := hle2 p h; omega
            · obtain ⟨⟨s, _, h⟩, _⟩ := (pm p).mp h
              have := h.le.2
              omega
          have l61 : (hs ++ qs2).length ≤ 61 := by
            have := nodup_len nd (m := List.range 61) fun q hq => List.mem_range.mpr (al q hq)
            rwa [List.length_range] at this
          dsimp only [tNil]
          refine sorted_nts (K := K) (l := hs ++ qs2) upd_same (by omega) nd fun c hs2 hc pw2 hm2 hl2 => ?_
          have s6 := same_upd0 hp (.lst (nts (hs ++ qs2)))
          have s7 := same_upd0 hc (.lst (nts hs2))
          have s17 : Same H5 (upd (upd H5 p (.lst (nts (hs ++ qs2)))) c (.lst (nts hs2))) := fun y o e => s7 _ _ (s6 _ _ e)
          have e7 : (upd (upd H5 p (.lst (nts (hs ++ qs2)))) c (.lst (nts hs2))) c = some (.lst (nts hs2)) := upd_same
          have hcn : H5 c = none := none_same s6 hc
          generalize upd (upd H5 p (.lst (nts (hs ++ qs2)))) c (.lst (nts hs2)) = H7 at s17 e7 ⊢
          have s25 := s24.trans (Sm.of_same s5)
          obtain ⟨hcse, hcn2⟩ := nse s25 ⟨_, he5⟩ hcn
          rw [List.length_append] at hl2 l61
          have t1 := again_turn hag hsub pm
          have t2 := closed_turn hcl pm
          refine ⟨_, ?_, c, D, _, hs2, qs2, v3, rfl, rfl, s25.trans (Sm.of_same s17), s17 _ _ he5, by omega, ?_, (g2a.trans k2a).iff fun p => ?_, e7, hcse, .inr hcn2, s17 _ _ hD5, hDse, pw2, pa, fun p hp => (hm2 p).mpr (List.mem_append_right _ hp), fun p hp => (hm2 p).mpr (List.mem_append_left _ (hps p hp)), fun p hp => t1 p ((hm2 p).mp hp), fun p hp hn m hb => (hm2 m).mpr (t2 p ((hm2 p).mp hp) hn m hb)⟩
          · rw [if_neg hms]
            by_cases z : qs2 = []
            · rw [if_pos z]
              have : qs2.length = 0 := by rw [z]; rfl
              omega
            · rw [if_neg z]
              have : qs2.length ≠ 0 := fun e => z (List.eq_nil_of_length_eq_zero e)
              omega
          · have : hs2.length - qs2.length = hs.length := by omega
            rw [this]
            omega
          · constructor
            · rintro (⟨s, h1, _, h3⟩ | ⟨s, h1, h3⟩)
              · exact ⟨s, (hm2 s).mpr (List.mem_append_left _ h1), fun z => ((pm s).mp z).2 h1, h3⟩
              · exact ⟨s, (hm2 s).mpr (List.mem_append_left _ (hsub s h1)), fun z => ((pm s).mp z).2 (hsub s h1), h3⟩
            · rintro ⟨s, h1, h2, h3⟩
              rcases List.mem_append.mp ((hm2 s).mp h1) with h | h
              · by_cases z : s ∈ ms
                · exact .inr ⟨s, z, h3⟩
                · exact .inl ⟨s, h, z, h3⟩
              · exact absurd h h2
  · rintro σ H1 ⟨hr1, v5, v6, v7, v8, ps, ve', rfl, sm, he1, hel, had, hp1, hrs, hrn, pw1, hd0, hm1⟩
    rw [hl, List.take_length] at hel hm1 had
    exact ⟨_, rfl, q hr1 H1 ps ve' sm he1 hel had hp1 hrs hrn pw1 hm1⟩
end K05


set_option Elab.async false
set_option linter.all false
set_option maxRecDepth 100000
set_option maxHeartbeats 8000000
namespace K05
open PySem PySem.Spec PyProof.Rows L2 FA
variable {P : Program} {w : World} {K : PySem.W.Frag} {mg : Str → Option Value} {base : Heap}
theorem iteN {c : Bool} {A B : Prop} (h : c = true) (b : B) : if (!c) = true then A else B := by subst h; exact b
theorem okLEnds (T : Txt K mg) : ∀ d : Nat, d ≤ 4 → FnOk P w K mg base CX0 (d + 1) T.aLEnds T.fLEnds ["body", "word", "starts", "seen"] (spLEnds d)
  | 0, _ => fn_never fun vs H Q E h => by
    obtain ⟨b, t, st, se, l, ns, u, ss, ve, _, _, _, h0, _⟩ := h
    have := dB_pos l
    omega
  | d + 1, hd => okLEnds1 T d (by omega) (okLEnds T d (by omega))
def spIsStart : Sp := fun vs H Q _ => ∃ (d l : Addr) (p : Pr) (x : Str) (b : FA.Bd) (u : List Str), vs = [.ref d, .str x, .ref l] ∧ PrAt H d p ∧ Valid p ∧ p.lookup x = some b ∧ H l = some (.lst (u.map V.str)) ∧ (∀ y ∈ u, y ∈ pNames p) ∧ u.length ≤ 300 ∧ ∀ H' c, Same H H' → (c = true ↔ SB b u) → Q (.bl c) H'
theorem okIsStart (T : Txt K mg) : FnOk P w K mg base CX0 14 T.aIsStart T.fIsStart ["program", "name", "word"] spIsStart := by
  have GCheckProgram : FnOk P w K mg base CX0 13 T.aCheckProgram T.fCheckProgram ["program"] spCheckProgram := okCheckProgram T
  have GCheckName : FnOk P w K mg base CX0 2 T.aCheckName T.fCheckName ["program", "name"] spCheckName := okCheckName T
  have GCheckWord : FnOk P w K mg base CX0 2 T.aCheckWord T.fCheckWord ["program", "word"] spCheckWord := okCheckWord T
  have GNetOf : FnOk P w K mg base CX0 12 T.aNetOf T.fNetOf ["body"] spNetOf := okNetOf T
  have GStatesBehind : FnOk P w K mg base CX0 2 T.aStatesBehind T.fStatesBehind ["net", "word"] spStatesBehind := okStatesBehind T
  refine T.FIsStart.ok scIsStart (fun vs H Q E h => ?_) (fun cdv A outer s H vs Q E hr h => ?_)
  · obtain ⟨d, l, p, x, b, u, rfl, _⟩ := h
    rfl
  obtain ⟨d, l, p, x, bd, u, rfl, hpa, va, hx, hl, hun, hul, q⟩ := h
  have hu := hu_of hr
  refine ⟨_, (pss_cons (ps_expr (pe_call GCheckProgram (hr.mono (by omega)) rfl T.gCheckProgram T.FCheckProgram.kp T.bCheckProgram .nil pass0 (pa_cons (pv 0) pa_nil)))
      (pss_cons (ps_expr (pe_call GCheckName (hr.mono (by omega)) rfl T.gCheckName T.FCheckName.kp T.bCheckName .nil pass0 (pa_cons (pv 0) (pa_cons (pv 1) pa_nil))))
      (pss_cons (ps_expr (pe_call GCheckWord (hr.mono (by omega)) rfl T.gCheckWord T.FCheckWord.kp T.bCheckWord .nil pass0 (pa_cons (pv 0) (pa_cons (pv 2) pa_nil))))
      (pss_one (ps_ret (pe_cmpR op_gt (pe_callB call_len_seq (by rfl) T.n_len PySem.boot_len (pa_cons (pe_call GStatesBehind (hr.mono (by omega)) rfl T.gStatesBehind T.FStatesBehind.kp T.bStatesBehind .nil pass0 (pa_cons (pe_call GNetOf (hr.mono (by omega)) rfl T.gNetOf T.FNetOf.kp T.bNetOf .nil pass0 (pa_cons (pe_dget hu (pv 0) (pv 1) (fun _ _ => rfl)) pa_nil)) (pa_cons (pv 2) pa_nil))) pa_nil)) pe_int (nomark _))))))), ?_⟩
  refine ⟨_, rfl, d, p, rfl, hpa, va, fun H1 s1 => ?_⟩
  have hp1 := PrAt.same s1 hpa
  have hxn : x ∈ pNames p := by
    have := mem_look hx
    exact List.mem_map.mpr ⟨_, this, rfl⟩
  refine ⟨_, rfl, _, rfl, d, p, x, rfl, hp1, hxn, ?_⟩
  refine ⟨_, rfl, _, rfl, d, l, p, u, rfl, hp1, s1 _ _ hl, hun, hul, fun H2 s2 => ?_⟩
  have s02 := s1.trans s2
  have hp2 := PrAt.same s2 hp1
  rcases hp2.look (x := x) with ⟨z1, _⟩ | ⟨l', b, z1, z2, z3⟩
  · rw [hx] at z1; cases z1
  rw [hx] at z1
  cases z1
  obtain ⟨o1, o2, o3, o4⟩ := va.ok x bd hx
  refine ⟨_, rfl, _, rfl, d, _, rfl, z2, b, bd, _, rfl, z3, o1, by omega, by omega, fun t H3 s3 hn => ?_⟩
  have inn : (planB bd .e0 1).In 1 := planB_in bd .e0 1 e0_in
  have few : (planB bd .e0 1).Few := planB_few (D := 5) (by omega) (by omega) (by omega)
  have s03 := s02.trans s3
  refine ⟨_, rfl, t, l, _, u, rfl, hn, inn, few.nm, s03 _ _ hl, hul, fun r H4 qs s4 hr4 hql hqm => ?_⟩
  refine ⟨r, _, rfl, .inl (SqL.of hr4), _, _, rfl, rfl, q H4 _ (s03.trans s4) ?_⟩
  rw [← plan_starts o1, decide_eq_true_eq, nts_len]
  constructor
  · intro h
    obtain ⟨q0, hq0⟩ : ∃ q0, q0 ∈ qs := List.exists_mem_of_length_pos (by omega)
    exact ⟨q0, (hqm q0).mp hq0⟩
  · rintro ⟨q0, h⟩
    have := List.length_pos_of_mem ((hqm q0).mpr h)
    omega
def spLDue : Sp := fun vs H Q _ => ∃ (b t : Addr) (l : FA.Bd) (ns u : List Str), vs = [.ref b, .ref t] ∧ BdAt H b l ∧ okB ns l ∧ dB l ≤ 4 ∧ nIB l ≤ 12 ∧ H t = some (.lst (u.map V.str)) ∧ u.length ≤ 60 ∧ (∀ y ∈ u, FA.okName y) ∧ (∀ y ∈ ns, FA.okName y) ∧ ∀ H' c, Same H H' → (c = true ↔ SB l u) → Q (.bl c) H'
theorem okLDue (T : Txt K mg) : FnOk P w K mg base CX0 13 T.aLDue T.fLDue ["body", "word"] spLDue := by
  have GLEnds : FnOk P w K mg base CX0 12 T.aLEnds T.fLEnds ["body", "word", "starts", "seen"] (spLEnds 4) := (okLEnds T 4 (by decide)).mono (by decide)
  refine T.FLDue.ok scLDue (fun vs H Q E h => ?_) (fun cdv A outer s H vs Q E hr h => ?_)
  · obtain ⟨b, t, l, ns, u, rfl, _⟩ := h
    rfl
  obtain ⟨b, t, bd, ns, u, rfl, hb, o1, o4, o3, ht, hul, hun, hnn, q⟩ := h
  have hu := hu_of hr
  refine ⟨_, (pss_cons (ps_set (i := 2) scLDue.nd rfl (by first | exact Or.inl rfl | exact Or.inr rfl) (pe_lst (pa_cons pe_int pa_nil)))
      (pss_cons (ps_set (i := 3) scLDue.nd rfl (by first | exact Or.inl rfl | exact Or.inr rfl) (pe_call GLEnds (hr.mono (by omega)) rfl T.gLEnds T.FLEnds.kp T.bLEnds .nil pass0 (pa_cons (pv 0) (pa_cons (pv 1) (pa_cons (pe_lst (pa_cons pe_int pa_nil)) (pa_cons (pv 2) pa_nil))))))
      (pss_one (ps_ret (pe_or (pe_cmpR op_in_seq (pe_callB call_len_seq (by rfl) T.n_len PySem.boot_len (pa_cons (pv 1) pa_nil)) (pv 2) (by rfl)) (pe_one (pe_cmpR op_in_seq (pe_callB call_len_seq (by rfl) T.n_len PySem.boot_len (pa_cons (pv 1) pa_nil)) (pv 3) (by rfl)))))))), ?_⟩
  refine ⟨Nat.le_of_lt (small1000 (by simp)), fun p3 hp3 => ?_⟩
  have s3 := same_upd0 hp3 (.lst [V.int 0])
  have e3 : (upd H p3 (.lst [V.int 0])) p3 = some (.lst (nts [0])) := upd_same
  generalize upd H p3 (.lst [V.int 0]) = H2 at s3 e3 ⊢
  refine ⟨_, rfl, _, rfl, Nat.le_of_lt (small1000 (by simp)), fun p2 hp2 => ?_⟩
  have s2 := same_upd0 hp2 (.lst [V.int 0])
  have e2 : (upd H2 p2 (.lst [V.int 0])) p2 = some (.lst (nts [0])) := upd_same
  have e3' := s2 _ _ e3
  have back : ∀ y o, H y = some o → y ≠ p3 := fun y o e z => by rw [z, hp3] at e; cases e
  have n2 : p2 ≠ p3 := fun e => by rw [e, e3] at hp2; cases hp2
  generalize upd H2 p2 (.lst [V.int 0]) = H3 at s2 e2 e3' ⊢
  have s03 := s3.trans s2
  have z4 : BdAt (wo [p3] H3) b bd := hb.keep ⟨fun y o e => wo_some.mpr ⟨by simpa using back y _ e, s03 _ _ e⟩, fun y o e => wo_some.mpr ⟨by simpa using back y _ e, s03 _ _ e⟩⟩
  have gr : grow 4 ([0] : List Nat).length * nIB bd ≤ 61 ^ 3 * 12 := Nat.mul_le_mul (Nat.le_refl _) o3
  refine ⟨_, rfl, b, t, p2, p3, bd, ns, u, [0], nts [0], rfl, z4, o1, o4, o3, s03 _ _ ht, hul, hun, hnn, back t _ ht, e2, n2, List.pairwise_singleton _ _, by simp, e3', ?_, fun r H4 ps ve' sm4 he4 hl4 had hr4 hre _ pw hm => ?_⟩
  · have : (61 : Nat) ^ 3 * 12 ≤ 15000000 := by decide
    have l1 : (nts [0]).length = 1 := rfl
    omega
  obtain ⟨ad, rfl, hadm⟩ := had
  have s04 : Same H H4 := fun y o e => sm4 _ _ (by simpa using back y o e) (s03 _ _ e)
  rw [← nts_app] at he4
  refine ⟨_, rfl, t, _, rfl, .inl (SqL.of (s04 _ _ ht)), _, rfl, p3, _, rfl, .inl (SqL.of he4), rfl, nts_flat _, _, rfl, ?_⟩
  have e1 : inV (.int ((u.map V.str).length : Int)) (nts ([0] ++ ad)) = decide (u.length ∈ [0] ++ ad) := by rw [inV_nts, List.length_map]
  have e5 : inV (.int ((u.map V.str).length : Int)) (nts ps) = decide (u.length ∈ ps) := by rw [inV_nts, List.length_map]
  have h1 : u.length ∈ [0] ++ ad ↔ (u.length = 0 ∨ SnB bd u 0 u.length) := by
    rw [List.mem_append, List.mem_singleton, hadm]
    simp
  have h5 : u.length ∈ ps ↔ EnB bd u 0 u.length := by
    rw [hm]
    simp
  have ss := seen_start (u := u) o1
  rw [e1]
  by_cases z : u.length ∈ [0] ++ ad
  · rw [decide_eq_true z]
    refine iteT ?_
    exact q H4 true s04 ⟨fun _ => ss.mp (.inl (h1.mp z)), fun _ => rfl⟩
  · rw [decide_eq_false z]
    refine iteF ?_
    refine ⟨_, rfl, t, _, rfl, .inl (SqL.of (s04 _ _ ht)), _, rfl, r, _, rfl, .inl (SqL.of hr4), rfl, nts_flat _, ?_⟩
    rw [e5]
    refine q H4 _ s04 ?_
    simp only [Bool.false_eq_true, if_false, decide_eq_true_eq]
    rw [h5, ← ss]
    exact ⟨fun h => .inr h, fun h => h.resolve_left fun k => z (h1.mpr k)⟩
def spLRight : Sp := fun vs H Q _ => ∃ (d t : Addr) (kvs : List (Key × V)) (p : Pr) (x : Str) (b : FA.Bd) (u : List Str), vs = [.ref d, .str x, .ref t] ∧ Rd H d (.dK kvs) ∧ PrKv H kvs p ∧ Valid p ∧ p.lookup x = some b ∧ H t = some (.lst (u.map V.str)) ∧ (∀ y ∈ u, y ∈ pNames p) ∧ u.length ≤ 60 ∧ ∀ H', Same H H' → Q (.bl true) H'
theorem okLRight (T : Txt K mg) (sy : FA.SysB base) : FnG P w K mg base 15 T.aLRight T.fLRight ["program", "name", "word"] spLRight := by
  have GIsWord : FnOk P w K mg base CX0 14 T.aIsWord T.fIsWord ["program", "name", "word"] spIsWord := okIsWord T
  have GIsStart : FnOk P w K mg base CX0 14 T.aIsStart T.fIsStart ["program", "name", "word"] spIsStart := okIsStart T
  have GLDue : FnOk P w K mg base CX0 13 T.aLDue T.fLDue ["body", "word"] spLDue := okLDue T
  refine okG T.FLRight scLRight (fun vs H Q E h => ?_) (fun cdv A gd outer s H vs Q E hr h => ?_)
  · obtain ⟨d, t, kvs, p, x, b, u, rfl, _⟩ := h
    rfl
  obtain ⟨d, t, kvs, p, x, bd, u, rfl, hd, hk, va, hx, ht, hun, hul, q⟩ := h
  have hu := hu_of hr
  refine ⟨_, (pss_cons (ps_par (i := 3) (j := 4) (by rfl) scLRight.nd rfl rfl (by decide) rfl rfl (pa_cons (pe_callB (call_reprD sy gd hr.units) (by rfl) T.n_repr (by decide +kernel) (pa_cons (pe_lst (pa_cons (pv 0) (pa_cons (pv 2) pa_nil))) pa_nil)) (pa_cons (pe_call GLDue (hr.mono (by omega)) rfl T.gLDue T.FLDue.kp T.bLDue .nil pass0 (pa_cons (pe_dget hu (pv 0) (pv 1) (fun _ _ => rfl)) (pa_cons (pv 2) pa_nil))) pa_nil)) (by rfl))
      (pss_cons (ps_if (PW.pt (pw_or (pt_cmpR op_ne (pe_callB call_repr_bool (by rfl) T.n_repr (by decide +kernel) (pa_cons (pe_call GIsStart (hr.mono (by omega)) rfl T.gIsStart T.FIsStart.kp T.bIsStart .nil pass0 (pa_cons (pv 0) (pa_cons (pv 1) (pa_cons (pv 2) pa_nil)))) pa_nil)) (pe_callB call_repr_bool (by rfl) T.n_repr (by decide +kernel) (pa_cons (pv 4) pa_nil)) (nomark _)) (pw_or1 (pt_cmpR op_ne (pe_callB (call_reprD sy gd hr.units) (by rfl) T.n_repr (by decide +kernel) (pa_cons (pe_lst (pa_cons (pv 0) (pa_cons (pv 2) pa_nil))) pa_nil)) (pv 3) (nomark _)))))
        (pss_one (ps_ret pe_bl)) pss_nil)
      (pss_cons (ps_if (PW.pt (pw_and (pt_val (pe_call GIsWord (hr.mono (by omega)) rfl T.gIsWord T.FIsWord.kp T.bIsWord .nil pass0 (pa_cons (pv 0) (pa_cons (pv 1) (pa_cons (pv 2) pa_nil))))) (pw_and1 (pt_not (pt_val (pv 4))))))
        (pss_one (ps_ret pe_bl)) pss_nil)
      (pss_one (ps_ret (pe_or (pe_not (pv 4)) (pe_or (pe_cmpR (op_eqD hr.units) (pv 2) (pe_lst pa_nil) (nomark _)) (pe_one (pe_cmpR op_isBl (pe_call GIsStart (hr.mono (by omega)) rfl T.gIsStart T.FIsStart.kp T.bIsStart .nil pass0 (pa_cons (pv 0) (pa_cons (pv 1) (pa_cons (pe_slice sl_list (pv 2) po_none (po_some (pe_un un_neg pe_int))) pa_nil)))) pe_bl (nomark _)))))))))), ?_⟩
  have pf := pair_fits va hun (by omega)
  have ddP : ∀ H' a, Same H H' → H' a = some (.lst [.ref d, .ref t]) → Dd K H' (.ref a) (dtK p u) := fun H' a sm e =>
    .lst e (.cons (PrKv.dt (Rd.same sm hd) (hk.keep (Kp.of sm))) (.cons (.lst (sm _ _ ht) (dd_strs _)) .nil))
  refine ⟨_, rfl, _, rfl, Nat.le_of_lt (small1000 (by simp)), fun p1 hp1 => ?_⟩
  have s1 := same_upd hp1 (.lst [V.ref d, V.ref t])
  have e1 : (upd H p1 (.lst [V.ref d, V.ref t])) p1 = some (.lst [V.ref d, V.ref t]) := upd_same
  generalize upd H p1 (.lst [V.ref d, V.ref t]) = H1 at s1 e1 ⊢
  refine ⟨p1, dtK p u, rfl, ddP H1 p1 s1 e1, pf.sh, pair_depth va u, pf.len (by omega), ?_⟩
  have hpa : PrAt H d p := ⟨kvs, hd, hk⟩
  rcases (PrAt.same s1 hpa).look (x := x) with ⟨z1, _⟩ | ⟨l', b, z1, z2, z3⟩
  · rw [hx] at z1; cases z1
  rw [hx] at z1
  cases z1
  obtain ⟨o1, o2, o3, o4⟩ := va.ok x bd hx
  refine ⟨_, rfl, _, rfl, d, _, rfl, z2, _, rfl, b, t, bd, _, u, rfl, z3, o1, o4, o3, s1 _ _ ht, hul, fun y hy => va.nm y (hun y hy), va.nm, fun H2 c s2 hc => ?_⟩
  have s02 := s1.trans s2
  refine ⟨_, _, rfl, ?_⟩
  refine ⟨_, rfl, _, rfl, _, rfl, d, t, p, x, bd, u, rfl, PrAt.same s02 hpa, va, hx, s02 _ _ ht, hun, by omega, fun H3 c3 s3 hc3 => ?_⟩
  have s03 := s02.trans s3
  have ec : c3 = c := by
    cases c <;> cases c3 <;> simp_all
  subst ec
  refine ⟨c3, rfl, _, rfl, _, rfl, rfl, _, rfl, ite2 (fun z => ?_) (fun _ => ?_)⟩
  · exact absurd z (by simp)
  refine ⟨_, rfl, _, rfl, Nat.le_of_lt (small1000 (by simp)), fun p6 hp6 => ?_⟩
  have s6 := same_upd0 hp6 (.lst [V.ref d, V.ref t])
  have e6 : (upd H3 p6 (.lst [V.ref d, V.ref t])) p6 = some (.lst [V.ref d, V.ref t]) := upd_same
  generalize upd H3 p6 (.lst [V.ref d, V.ref t]) = H6 at s6 e6 ⊢
  have s06 := s03.trans s6
  refine ⟨p6, dtK p u, rfl, ddP _ p6 s06 e6, pf.sh, pair_depth va u, pf.len (by omega), _, rfl, rfl, _, rfl, ite2 (fun z => absurd z (by simp)) (fun _ => ?_)⟩
  refine ⟨_, rfl, _, rfl, _, rfl, d, t, p, x, bd, u, rfl, PrAt.same s06 hpa, va, hx, s06 _ _ ht, hun, by omega, fun H7 c7 s7 hc7 => ?_⟩
  have wd : c7 = true → c3 = true := fun h => hc3.mpr (SB.word (hc7.mp h))
  have s07 := s06.trans s7
  refine ⟨c7, rfl, ite2 (fun z => ?_) (fun _ => ?_)⟩
  have z3 := wd z
  refine ⟨_, rfl, c3, rfl, iteN z3 ?_⟩
  clear z3 z
  rotate_left
  refine iteF ?_
  rotate_left
  all_goals
    refine ⟨_, rfl, c3, rfl, _, rfl, ite2 (fun z => ?_) (fun z => ?_)⟩
    · exact q _ s07
    · have z3 : c3 = true := by cases c3 <;> simp_all
      refine ⟨_, rfl, Nat.zero_le _, fun p8 hp8 => ?_⟩
      have s8 := same_upd0 hp8 (.lst [])
      have e8 : (upd H7 p8 (.lst [])) p8 = some (.lst []) := upd_same
      generalize upd H7 p8 (.lst []) = H8 at s8 e8 ⊢
      have s08 := s07.trans s8
      refine ⟨.list (u.map PyData.str), .list [], .lst (SqL.of (s08 _ _ ht)) (dp_strs u), .lst (SqL.of e8) .nil, strs_shaped fun y hy => va.nm y (hun y hy), by decide +kernel, _, rfl, ?_⟩
      rw [eqv_nil]
      by_cases hu0 : u = []
      · subst hu0
        refine iteT ?_
        exact q _ s08
      · rw [show (u.map PyData.str).isEmpty = false by cases u with | nil => exact absurd rfl hu0 | cons _ _ => rfl]
        refine iteF ?_
        refine ⟨_, rfl, _, rfl, _, rfl, _, rfl, _, rfl, t, _, rfl, SqL.of (s08 _ _ ht), fun p9 hp9 => ?_⟩
        have s9 := same_upd0 hp9 (.lst (cutV (u.map V.str) none (some (-1))))
        have e9 : (upd H8 p9 (.lst (cutV (u.map V.str) none (some (-1))))) p9 = some (.lst ((u.take (u.length - 1)).map V.str)) := by rw [upd_same, cut_last, List.length_map, List.map_take]
        generalize upd H8 p9 (.lst (cutV (u.map V.str) none (some (-1)))) = H9 at s9 e9 ⊢
        have s09 := s08.trans s9
        refine ⟨d, p9, p, x, bd, u.take (u.length - 1), rfl, PrAt.same s09 hpa, va, hx, e9, fun y hy => hun y (List.mem_of_mem_take hy), by rw [List.length_take]; omega, fun H10 c10 s10 hc10 => ?_⟩
        have e10 : c10 = true := hc10.mpr (SB.pre (v := u.drop (u.length - 1)) (by rw [List.take_append_drop]; exact hc3.mp z3))
        subst e10
        exact ⟨true, true, rfl, rfl, q _ (s09.trans s10)⟩
end K05


set_option Elab.async false
set_option linter.all false
set_option maxRecDepth 100000
set_option maxHeartbeats 4000000
namespace K05
open PySem PySem.Spec PyProof.Rows L2 FA
/-! ### the fixed programs of the law, and their words -/
theorem valid_list {p : Pr} (len : p.length ≤ 6) (main : ("main" : Str) ∈ pNames p) (nm : ∀ x ∈ pNames p, FA.okName x) (nd : (pNames p).Nodup) (ok : ∀ q ∈ p, okB (pNames p) q.2 ∧ nCB q.2 ≤ 5 ∧ nIB q.2 ≤ 12 ∧ dB q.2 ≤ 4) (ret : ∀ x ∈ pNames p, rnd 13 p p.length x ≤ 12) : Valid p :=
  ⟨len, main, nm, nd, fun x l e => ok (x, l) (mem_look e), ret⟩
theorem names_ok {ns : List Str} (h : (ns.all fun x => decide (1 ≤ x.cps.size) && decide (x.cps.size ≤ 8) && x.cps.toList.all fun c => decide (97 ≤ c) && decide (c ≤ 122)) = true) : ∀ x ∈ ns, FA.okName x := by
  intro x hx
  have := List.all_eq_true.mp h x hx
  simp only [Bool.and_eq_true, decide_eq_true_eq, List.all_eq_true] at this
  exact ⟨this.1.1, this.1.2, this.2⟩
def q1 : Pr := [("main", [.call "a", .one [[.call "b"], [.call "b", .call "b"]], .loop [.call "c"]]), ("a", []), ("b", []), ("c", [])]
def l1 : Bd := [.call "a", .one [[.call "b"], [.call "b", .call "b"]], .loop [.call "c"]]
theorem vq1 : Valid q1 := by
  refine valid_list (by decide) (by decide +kernel) (names_ok (by decide +kernel)) (by decide +kernel) ?_ (by decide +kernel)
  intro q hq
  simp only [q1, List.mem_cons, List.not_mem_nil, or_false] at hq
  rcases hq with rfl | rfl | rfl | rfl <;> exact ⟨by simp [okB, okI, okBs, pNames, q1], by decide +kernel, by decide +kernel, by decide +kernel⟩
theorem star_c {z : List Str} (h : Star (WB [.call "c"]) z) : ∀ y ∈ z, y = ("c" : Str) := by
  induction h with
  | nil => intro y hy; cases hy
  | snoc _ hv _ ih =>
    simp only [WB, WI] at hv
    obtain ⟨_, _, rfl, rfl, rfl⟩ := hv
    intro y hy
    rcases List.mem_append.mp hy with h | h
    · exact ih y h
    · simpa using h
theorem star_cs : ∀ n, Star (WB [.call "c"]) (List.replicate n ("c" : Str))
  | 0 => .nil
  | n + 1 => by
    rw [List.replicate_succ']
    exact .snoc (star_cs n) (by simp only [WB, WI]; exact ⟨["c"], [], rfl, rfl, rfl⟩) (by simp)
theorem wl1 {z : List Str} (h : WB l1 z) : ∃ v z', z = ("a" : Str) :: (v ++ z') ∧ (v = (["b"] : List Str) ∨ v = (["b", "b"] : List Str)) ∧ ∀ y ∈ z', y = ("c" : Str) := by
  simp only [l1, WB, WI, WBs] at h
  obtain ⟨_, _, rfl, rfl, v, _, rfl, hv, z', _, rfl, hz, rfl⟩ := h
  refine ⟨v, z', by simp, ?_, star_c (by simpa only [WB, WI] using hz)⟩
  rcases hv with ⟨_, _, rfl, rfl, rfl⟩ | ⟨_, _, rfl, rfl, _, _, rfl, rfl, rfl⟩ | hv
  · exact .inl rfl
  · exact .inr rfl
  · exact hv.elim
theorem wl1b (n : Nat) : WB l1 ((["a", "b"] : List Str) ++ List.replicate n ("c" : Str)) := by
  have := star_cs n
  simp only [WB, WI] at this
  simp only [l1, WB, WI, WBs]
  exact ⟨["a"], (["b"] : List Str) ++ List.replicate n ("c" : Str), rfl, rfl, ["b"], List.replicate n ("c" : Str), rfl, .inl ⟨["b"], [], rfl, rfl, rfl⟩, List.replicate n ("c" : Str), [], by simp, this, rfl⟩
theorem wl1bb (n : Nat) : WB l1 ((["a", "b", "b"] : List Str) ++ List.replicate n ("c" : Str)) := by
  have := star_cs n
  simp only [WB, WI] at this
  simp only [l1, WB, WI, WBs]
  exact ⟨["a"], (["b", "b"] : List Str) ++ List.replicate n ("c" : Str), rfl, rfl, ["b", "b"], List.replicate n ("c" : Str), rfl, .inr (.inl ⟨["b"], ["b"], rfl, rfl, ["b"], [], rfl, rfl, rfl⟩), List.replicate n ("c" : Str), [], by simp, this, rfl⟩
def us1 : List (List Str) := [[], ["a"], ["b"], ["a", "b"], ["a", "b", "b", "c"], ["a", "c"], ["a", "b", "c", "c"], ["a", "b", "b", "b"]]
def due1 : List Bool := [true, true, false, true, true, false, true, false]
theorem nab : ("b" : Str) ≠ "a" := by decide +kernel
theorem ncb : ("c" : Str) ≠ "b" := by decide +kernel
theorem wds1 (j : Nat) (u : List Str) (c : Bool) (e1 : us1[j]? = some u) (e2 : due1[j]? = some c) : c = true ↔ SB l1 u := by
  have yes : ∀ {u : List Str}, SB l1 u → ((true : Bool) = true ↔ SB l1 u) := fun h => ⟨fun _ => h, fun _ => rfl⟩
  have no : ∀ {u : List Str}, ¬ SB l1 u → ((false : Bool) = true ↔ SB l1 u) := fun {u} h => ⟨fun z => (by cases z), fun z => absurd z h⟩
  match j, e1, e2 with
  | 0, e1, e2 => cases e1; cases e2; exact yes ⟨_, wl1b 0⟩
  | 1, e1, e2 => cases e1; cases e2; exact yes ⟨["b"], wl1b 0⟩
  | 2, e1, e2 =>
    cases e1; cases e2
    refine no ?_
    rintro ⟨w, h⟩
    obtain ⟨v, z', e, _, _⟩ := wl1 h
    rw [List.cons_append, List.cons.injEq] at e
    exact nab e.1
  | 3, e1, e2 => cases e1; cases e2; exact yes ⟨[], wl1b 0⟩
  | 4, e1, e2 => cases e1; cases e2; exact yes ⟨[], wl1bb 1⟩
  | 5, e1, e2 =>
    cases e1; cases e2
    refine no ?_
    rintro ⟨w, h⟩
    obtain ⟨v, z', e, hv, _⟩ := wl1 h
    rcases hv with rfl | rfl
    · simp only [List.cons_append, List.cons.injEq, List.nil_append] at e
      exact ncb e.2.1
    · simp only [List.cons_append, List.cons.injEq, List.nil_append] at e
      exact ncb e.2.1
  | 6, e1, e2 => cases e1; cases e2; exact yes ⟨[], wl1b 2⟩
  | 7, e1, e2 =>
    cases e1; cases e2
    refine no ?_
    rintro ⟨w, h⟩
    obtain ⟨v, z', e, hv, hz⟩ := wl1 h
    rcases hv with rfl | rfl
    · simp only [List.cons_append, List.cons.injEq, List.nil_append] at e
      exact ncb (hz "b" (by rw [← e.2.2]; simp)).symm
    · simp only [List.cons_append, List.cons.injEq, List.nil_append] at e
      exact ncb (hz "b" (by rw [← e.2.2.2]; simp)).symm
  | n + 8, e1, e2 => cases e1
theorem us1_in : ∀ u ∈ us1, (∀ y ∈ u, y ∈ pNames q1) ∧ u.length ≤ 300 := by decide +kernel
theorem lk1 : List.lookup ("main" : Str) q1 = some l1 := rfl
theorem rep_one (n : Nat) (x : Str) : (List.replicate n [V.str x]).flatten = (List.replicate n x).map V.str := by
  induction n with
  | zero => rfl
  | succ n ih => rw [List.replicate_succ, List.flatten_cons, ih, List.replicate_succ]; rfl
theorem dp_bls {K : PySem.W.Frag} {H : Hp} : ∀ ls : List Bool, DpAll K H (ls.map V.bl) (ls.map PyData.bool)
  | [] => .nil
  | x :: r => .cons (.bl x) (dp_bls r)
theorem star_in {L : List Str → Prop} {ns : List Str} (h : ∀ v, L v → ∀ y ∈ v, y ∈ ns) {u : List Str} (hs : Star L u) : ∀ y ∈ u, y ∈ ns := by
  induction hs with
  | nil => intro y hy; cases hy
  | snoc _ hv _ ih =>
    intro y hy
    rcases List.mem_append.mp hy with z | z
    · exact ih y z
    · exact h _ hv y z
mutual
theorem wi_in {ns : List Str} : ∀ (i : FA.It), okI ns i → ∀ u, WI i u → ∀ y ∈ u, y ∈ ns
  | .call x, ok, u, h => by
    simp only [okI] at ok
    simp only [WI] at h
    subst h
    intro y hy
    rw [List.mem_singleton.mp hy]
    exact ok
  | .may b, ok, u, h => by
    simp only [okI] at ok
    simp only [WI] at h
    rcases h with rfl | h
    · intro y hy; cases hy
    · exact wb_in b ok.2 u h
  | .loop b, ok, u, h => by
    simp only [okI] at ok
    simp only [WI] at h
    exact star_in (fun v hv => wb_in b ok.2 v hv) h
  | .one bs, ok, u, h => by
    simp only [okI] at ok
    simp only [WI] at h
    exact wbs_in bs ok.2.2.2 u h
theorem wb_in {ns : List Str} : ∀ (l : List FA.It), okB ns l → ∀ u, WB l u → ∀ y ∈ u, y ∈ ns
  | [], _, u, h => by
    simp only [WB] at h
    subst h
    intro y hy; cases hy
  | i :: r, ok, u, h => by
    simp only [okB] at ok
    simp only [WB] at h
    obtain ⟨u1, u2, rfl, h1, h2⟩ := h
    intro y hy
    rcases List.mem_append.mp hy with z | z
    · exact wi_in i ok.1 u1 h1 y z
    · exact wb_in r ok.2 u2 h2 y z
theorem wbs_in {ns : List Str} : ∀ (bs : List (List FA.It)), okBs ns bs → ∀ u, WBs bs u → ∀ y ∈ u, y ∈ ns
  | [], _, u, h => by
    simp only [WBs] at h
  | b :: r, ok, u, h => by
    simp only [okBs] at ok
    simp only [WBs] at h
    rcases h with h | h
    · exact wb_in b ok.1 u h
    · exact wbs_in r ok.2 u h
end
theorem pick3 (t : Nat) (ht : t < 3) : ∃ mo : Int, ([V.int 5, V.int 2, V.int 4] : List V)[t]? = some (.int mo) ∧ 0 ≤ mo ∧ mo ≤ 5 :=
  match t, ht with
  | 0, _ => ⟨5, rfl, by decide, by decide⟩
  | 1, _ => ⟨2, rfl, by decide, by decide⟩
  | 2, _ => ⟨4, rfl, by decide, by decide⟩
section
/-- over a dict's keys, the dict locked -/
theorem for_keys {d : Addr} {od : Obj} {kvs : List (Key × V)} {g : TG} {tb : TS} {D : Ends} {σ : L2.St} {H : Hp} (Pv : Nat → L2.St → Hp → Prop) (h0 : Pv 0 σ H) (hl : ∀ i σ H, Pv i σ H → H d = some (.frz od (.dK kvs)))
    (hs : ∀ i k v σ H, kvs[i]? = some (k, v) → Pv i σ H → g (kV k) σ H fun σ2 H2 => tb { D with nx := Pv (i + 1), ct := Pv (i + 1), bk := D.nx } σ2 H2) (hd : ∀ σ H, Pv kvs.length σ H → D.nx σ H) :
    ∃ W : Nat → Nat → L2.St → Hp → Prop, (∃ m, W 0 m σ H) ∧ ∀ i m σ H, W i m σ H →
      ((Itk d od kvs).stop i H ∧ D.nx σ H) ∨ ((Itk d od kvs).go i H ∧ ∃ N : L2.St → Hp → Prop, (∀ σ' H', N σ' H' → ∃ m', m' < m ∧ W (i + 1) m' σ' H') ∧ ∀ x H', (Itk d od kvs).yld i H x H' → g x σ H' fun σ2 H2 => tb { D with nx := N, ct := N, bk := D.nx } σ2 H2) := by
  refine ⟨fun i m σ H => m = kvs.length - i ∧ i ≤ kvs.length ∧ Pv i σ H, ⟨kvs.length, by simp, Nat.zero_le _, h0⟩, ?_⟩
  rintro i m σ H ⟨rfl, hi, p⟩
  have q := hl i σ H p
  by_cases hlt : i < kvs.length
  · refine .inr ⟨⟨q, hlt⟩, Pv (i + 1), fun σ' H' p' => ⟨kvs.length - (i + 1), by omega, rfl, hlt, p'⟩, fun x H' y => ?_⟩
    obtain ⟨e, k, v, e2, e3⟩ := y
    subst e
    subst e3
    exact hs i k v σ _ e2 p
  · have e : i = kvs.length := by omega
    subst e
    exact .inl ⟨⟨q, Nat.le_refl _⟩, hd σ H p⟩
end
end K05


set_option Elab.async false
set_option linter.all false
set_option maxRecDepth 100000
set_option maxHeartbeats 8000000
namespace K05
open PySem PySem.Spec PyProof.Rows L2 FA
variable {P : Program} {w : World} {K : PySem.W.Frag} {mg : Str → Option Value} {base : Heap}
theorem kp_dk {H : Hp} {d : Addr} {k0 kvs : List (Key × V)} (h : H d = some (.dK k0)) : Kp H (upd H d (.dK kvs)) :=
  ⟨fun b xs e => by rw [upd_ne (by rintro rfl; rw [h] at e; cases e)]; exact e, fun b xs e => by rw [upd_ne (by rintro rfl; rw [h] at e; cases e)]; exact e⟩
section
variable {X : Cx}
/-- a statement over a dict that is walked: it is locked, or it is already -/
theorem ps_lock2 {st : Stmt} {t : TS} (h : PS X st t) : PS X st (fun D σ H => tLock t D σ H ∨ t D σ H) := ⟨fun pins s σ H D I hq => by
  rcases hq with hq | hq
  · exact (ps_lock h).run pins s σ H D I hq
  · exact h.run pins s σ H D I hq⟩
end
theorem cut_to60 {xs : List V} : cutV xs none (some (60 : Int)) = xs.take 60 := cut_to' xs 60
def spLaw : Sp := fun vs H Q _ => ∃ (s : Addr) (ns : List Int), vs = [.ref s] ∧ SqL K H s (ns.map V.int) ∧ ns.length ≤ 63 ∧ ∀ H', Q (.bl true) H'
theorem okLaw (T : Txt K mg) (sy : FA.SysB base) : FnG P w K mg base 17 T.aLaw T.fLaw ["script"] (spLaw (K := K)) := by
  have GLWell : FnOk P w K mg base CX0 1 T.aLWell T.fLWell ["script", "k"] (spWell (K := K)) := okWell T
  have GLPull : FnOk P w K mg base CX0 1 T.aLPull T.fLPull ["well", "many"] spPull := okPull T
  have GLProgram : FnOk P w K mg base CX0 10 T.aLProgram T.fLProgram ["well", "most"] spLProgram := okLProgram T
  have GLChosen : FnOk P w K mg base CX0 6 T.aLChosen T.fLChosen ["well", "body", "often"] (spLChosen 4) := okLChosen T 4 (by decide)
  have GLNear : FnOk P w K mg base CX0 2 T.aLNear T.fLNear ["well", "program", "word"] spLNear := okLNear T
  have GIsStart : FnOk P w K mg base CX0 14 T.aIsStart T.fIsStart ["program", "name", "word"] spIsStart := okIsStart T
  have GIsWord : FnOk P w K mg base CX0 14 T.aIsWord T.fIsWord ["program", "name", "word"] spIsWord := okIsWord T
  have GLRight : FnG P w K mg base 15 T.aLRight T.fLRight ["program", "name", "word"] spLRight := okLRight T sy
  refine okG T.FLaw scLaw (fun vs H Q E h => ?_) (fun cdv A gd outer st H vs Q E hr h => ?_)
  · obtain ⟨s, ns, rfl, _⟩ := h
    rfl
  obtain ⟨s, ns, rfl, hs, hns, q⟩ := h
  have hu := hu_of hr
  refine split_at 1 (fun D σ H' => D.rt = Q ∧ ∃ v1 v2 v3 v4 v5 v6 v7 v8, σ = [some (.ref s), v1, v2, v3, v4, v5, v6, v7, v8]) ?_ ?_
  · skip
    refine ⟨_, (pss_cons (ps_set (i := 2) scLaw.nd rfl (by first | exact Or.inl rfl | exact Or.inr rfl) (pe_disp (pps_cons pe_str (pe_lst (pa_cons pe_str (pa_cons (pe_tup (pa_cons pe_str (pa_cons (pe_lst (pa_cons (pe_lst (pa_cons pe_str pa_nil)) (pa_cons (pe_lst (pa_cons pe_str (pa_cons pe_str pa_nil))) pa_nil))) pa_nil))) (pa_cons (pe_tup (pa_cons pe_str (pa_cons (pe_lst (pa_cons pe_str pa_nil)) pa_nil))) pa_nil)))) (pps_cons pe_str (pe_lst pa_nil) (pps_cons pe_str (pe_lst pa_nil) (pps_cons pe_str (pe_lst pa_nil) pps_nil)))) (by rfl) (by rfl) (fun z => by cases z) (by decide)))
      (pss_cons (ps_set (i := 3) scLaw.nd rfl (by first | exact Or.inl rfl | exact Or.inr rfl) (pe_lst (pa_cons (pe_lst pa_nil) (pa_cons (pe_lst (pa_cons pe_str pa_nil)) (pa_cons (pe_lst (pa_cons pe_str pa_nil)) (pa_cons (pe_lst (pa_cons pe_str (pa_cons pe_str pa_nil))) (pa_cons (pe_lst (pa_cons pe_str (pa_cons pe_str (pa_cons pe_str (pa_cons pe_str pa_nil))))) (pa_cons (pe_lst (pa_cons pe_str (pa_cons pe_str pa_nil))) (pa_cons (pe_lst (pa_cons pe_str (pa_cons pe_str (pa_cons pe_str (pa_cons pe_str pa_nil))))) (pa_cons (pe_op op_cat (pe_lst (pa_cons pe_str pa_nil)) (pe_op op_rep (pe_lst (pa_cons pe_str pa_nil)) pe_int)) pa_nil))))))))))
      (pss_one (ps_ret (pe_cmpR (op_eqD hr.units) (pe_lc (own := [("word", 7)]) (g := gName 7) (tt := tYes) rfl scLaw.nd (pi_list (pv 3)) (blkOk_by (N := ["script", "k", "program", "words", "well", "turn", "name", "word", "again"]) (sc := defScope sLaw) (by decide +kernel)) (fun _ _ _ _ _ => (pg_name (i := 7) scLaw.nd rfl (by first | exact Or.inl rfl | exact Or.inr rfl))) (fun _ _ _ _ _ => pts_nil) (fun _ _ _ _ _ => (pe_call GIsStart (hr.mono (by omega)) rfl T.gIsStart T.FIsStart.kp T.bIsStart .nil pass0 (pa_cons (pv 2) (pa_cons pe_str (pa_cons (pv 7) pa_nil)))))) (pe_lst (pa_cons pe_bl (pa_cons pe_bl (pa_cons pe_bl (pa_cons pe_bl (pa_cons pe_bl (pa_cons pe_bl (pa_cons pe_bl (pa_cons pe_bl pa_nil))))))))) (nomark _)))))), ?_⟩
    rintro D σ H1 ⟨hD', v1, v2, v3, v4, v5, v6, v7, v8, rfl⟩
    intro b0 hb0
    have eb0 : (upd H1 b0 (.dK [])) b0 = some (.dK []) := upd_same
    have tb0 := same_upd hb0 (.dK [])
    generalize upd H1 b0 (.dK []) = Hb0 at eb0 tb0 ⊢
    refine ⟨Nat.le_of_lt (small1000 (by simp)), fun b1 hb1 => ?_⟩
    have eb1 : (upd Hb0 b1 (.lst [V.str "b"])) b1 = some (.lst [V.str "b"]) := upd_same
    have tb1 := same_upd hb1 (.lst [V.str "b"])
    generalize upd Hb0 b1 (.lst [V.str "b"]) = Hb1 at eb1 tb1 ⊢
    refine ⟨Nat.le_of_lt (small1000 (by simp)), fun b2 hb2 => ?_⟩
    have eb2 : (upd Hb1 b2 (.lst [V.str "b", V.str "b"])) b2 = some (.lst [V.str "b", V.str "b"]) := upd_same
    have tb2 := same_upd hb2 (.lst [V.str "b", V.str "b"])
    generalize upd Hb1 b2 (.lst [V.str "b", V.str "b"]) = Hb2 at eb2 tb2 ⊢
    refine ⟨Nat.le_of_lt (small1000 (by simp)), fun b3 hb3 => ?_⟩
    have eb3 : (upd Hb2 b3 (.lst [V.ref b1, V.ref b2])) b3 = some (.lst [V.ref b1, V.ref b2]) := upd_same
    have tb3 := same_upd hb3 (.lst [V.ref b1, V.ref b2])
    generalize upd Hb2 b3 (.lst [V.ref b1, V.ref b2]) = Hb3 at eb3 tb3 ⊢
    refine ⟨Nat.le_of_lt (small1000 (by simp)), fun b4 hb4 => ?_⟩
    have eb4 : (upd Hb3 b4 (.tup [V.str "one", V.ref b3])) b4 = some (.tup [V.str "one", V.ref b3]) := upd_same
    have tb4 := same_upd hb4 (.tup [V.str "one", V.ref b3])
    generalize upd Hb3 b4 (.tup [V.str "one", V.ref b3]) = Hb4 at eb4 tb4 ⊢
    refine ⟨Nat.le_of_lt (small1000 (by simp)), fun b5 hb5 => ?_⟩
    have eb5 : (upd Hb4 b5 (.lst [V.str "c"])) b5 = some (.lst [V.str "c"]) := upd_same
    have tb5 := same_upd hb5 (.lst [V.str "c"])
    generalize upd Hb4 b5 (.lst [V.str "c"]) = Hb5 at eb5 tb5 ⊢
    refine ⟨Nat.le_of_lt (small1000 (by simp)), fun b6 hb6 => ?_⟩
    have eb6 : (upd Hb5 b6 (.tup [V.str "loop", V.ref b5])) b6 = some (.tup [V.str "loop", V.ref b5]) := upd_same
    have tb6 := same_upd hb6 (.tup [V.str "loop", V.ref b5])
    generalize upd Hb5 b6 (.tup [V.str "loop", V.ref b5]) = Hb6 at eb6 tb6 ⊢
    refine ⟨Nat.le_of_lt (small1000 (by simp)), fun b7 hb7 => ?_⟩
    have eb7 : (upd Hb6 b7 (.lst [V.str "a", V.ref b4, V.ref b6])) b7 = some (.lst [V.str "a", V.ref b4, V.ref b6]) := upd_same
    have tb7 := same_upd hb7 (.lst [V.str "a", V.ref b4, V.ref b6])
    generalize upd Hb6 b7 (.lst [V.str "a", V.ref b4, V.ref b6]) = Hb7 at eb7 tb7 ⊢
    refine ⟨Nat.le_of_lt (small1000 (by simp)), fun b8 hb8 => ?_⟩
    have eb8 : (upd Hb7 b8 (.lst [])) b8 = some (.lst []) := upd_same
    have tb8 := same_upd hb8 (.lst [])
    generalize upd Hb7 b8 (.lst []) = Hb8 at eb8 tb8 ⊢
    refine ⟨Nat.le_of_lt (small1000 (by simp)), fun b9 hb9 => ?_⟩
    have eb9 : (upd Hb8 b9 (.lst [])) b9 = some (.lst []) := upd_same
    have tb9 := same_upd hb9 (.lst [])
    generalize upd Hb8 b9 (.lst []) = Hb9 at eb9 tb9 ⊢
    refine ⟨Nat.le_of_lt (small1000 (by simp)), fun b10 hb10 => ?_⟩
    have eb10 : (upd Hb9 b10 (.lst [])) b10 = some (.lst []) := upd_same
    have tb10 := same_upd hb10 (.lst [])
    generalize upd Hb9 b10 (.lst []) = Hb10 at eb10 tb10 ⊢
    have zb10 := Same.refl Hb10
    have zb9 := tb10.trans zb10
    have zb8 := tb9.trans zb9
    have zb7 := tb8.trans zb8
    have zb6 := tb7.trans zb7
    have zb5 := tb6.trans zb6
    have zb4 := tb5.trans zb5
    have zb3 := tb4.trans zb4
    have zb2 := tb3.trans zb3
    have zb1 := tb2.trans zb2
    have zb0 := tb1.trans zb1
    have pkb : PrKv Hb10 [(.inr "main", .ref b7), (.inr "a", .ref b8), (.inr "b", .ref b9), (.inr "c", .ref b10)] q1 := (.cons ⟨_, zb7 _ _ eb7, (.cons (.call _) (.cons (.one (zb4 _ _ eb4) (zb3 _ _ eb3) (.cons (zb1 _ _ eb1) (.cons (.call _) .nil) (.cons (zb2 _ _ eb2) (.cons (.call _) (.cons (.call _) .nil)) .nil))) (.cons (.loop (zb6 _ _ eb6) (zb5 _ _ eb5) (.cons (.call _) .nil)) .nil)))⟩ (.cons ⟨_, zb8 _ _ eb8, .nil⟩ (.cons ⟨_, zb9 _ _ eb9, .nil⟩ (.cons ⟨_, zb10 _ _ eb10, .nil⟩ .nil))))
    refine ⟨zb0 _ _ eb0, [(.inr "main", .ref b7), (.inr "a", .ref b8), (.inr "b", .ref b9), (.inr "c", .ref b10)], rfl, by simp, ?_⟩
    rw [mergeK_nd [(.inr "main", .ref b7), (.inr "a", .ref b8), (.inr "b", .ref b9), (.inr "c", .ref b10)] [] (keys_nd pkb vq1.nd), List.nil_append]
    have pab : PrAt (upd Hb10 b0 (.dK [(.inr "main", .ref b7), (.inr "a", .ref b8), (.inr "b", .ref b9), (.inr "c", .ref b10)])) b0 q1 := ⟨_, .inl upd_same, pkb.keep (kp_dk (zb0 _ _ eb0))⟩
    generalize upd Hb10 b0 (.dK [(.inr "main", .ref b7), (.inr "a", .ref b8), (.inr "b", .ref b9), (.inr "c", .ref b10)]) = Hdb at pab ⊢
    refine ⟨Nat.zero_le _, fun c0 hc0 => ?_⟩
    have sc0 := same_upd0 hc0 (.lst [])
    have ec0 : (upd Hdb c0 (.lst [])) c0 = some (.lst []) := upd_same
    generalize upd Hdb c0 (.lst []) = Hc0 at sc0 ec0 ⊢
    refine ⟨Nat.le_of_lt (small1000 (by simp)), fun c1 hc1 => ?_⟩
    have sc1 := same_upd0 hc1 (.lst [V.str "a"])
    have ec1 : (upd Hc0 c1 (.lst [V.str "a"])) c1 = some (.lst [V.str "a"]) := upd_same
    generalize upd Hc0 c1 (.lst [V.str "a"]) = Hc1 at sc1 ec1 ⊢
    refine ⟨Nat.le_of_lt (small1000 (by simp)), fun c2 hc2 => ?_⟩
    have sc2 := same_upd0 hc2 (.lst [V.str "b"])
    have ec2 : (upd Hc1 c2 (.lst [V.str "b"])) c2 = some (.lst [V.str "b"]) := upd_same
    generalize upd Hc1 c2 (.lst [V.str "b"]) = Hc2 at sc2 ec2 ⊢
    refine ⟨Nat.le_of_lt (small1000 (by simp)), fun c3 hc3 => ?_⟩
    have sc3 := same_upd0 hc3 (.lst [V.str "a", V.str "b"])
    have ec3 : (upd Hc2 c3 (.lst [V.str "a", V.str "b"])) c3 = some (.lst [V.str "a", V.str "b"]) := upd_same
    generalize upd Hc2 c3 (.lst [V.str "a", V.str "b"]) = Hc3 at sc3 ec3 ⊢
    refine ⟨Nat.le_of_lt (small1000 (by simp)), fun c4 hc4 => ?_⟩
    have sc4 := same_upd0 hc4 (.lst [V.str "a", V.str "b", V.str "b", V.str "c"])
    have ec4 : (upd Hc3 c4 (.lst [V.str "a", V.str "b", V.str "b", V.str "c"])) c4 = some (.lst [V.str "a", V.str "b", V.str "b", V.str "c"]) := upd_same
    generalize upd Hc3 c4 (.lst [V.str "a", V.str "b", V.str "b", V.str "c"]) = Hc4 at sc4 ec4 ⊢
    refine ⟨Nat.le_of_lt (small1000 (by simp)), fun c5 hc5 => ?_⟩
    have sc5 := same_upd0 hc5 (.lst [V.str "a", V.str "c"])
    have ec5 : (upd Hc4 c5 (.lst [V.str "a", V.str "c"])) c5 = some (.lst [V.str "a", V.str "c"]) := upd_same
    generalize upd Hc4 c5 (.lst [V.str "a", V.str "c"]) = Hc5 at sc5 ec5 ⊢
    refine ⟨Nat.le_of_lt (small1000 (by simp)), fun c6 hc6 => ?_⟩
    have sc6 := same_upd0 hc6 (.lst [V.str "a", V.str "b", V.str "c", V.str "c"])
    have ec6 : (upd Hc5 c6 (.lst [V.str "a", V.str "b", V.str "c", V.str "c"])) c6 = some (.lst [V.str "a", V.str "b", V.str "c", V.str "c"]) := upd_same
    generalize upd Hc5 c6 (.lst [V.str "a", V.str "b", V.str "c", V.str "c"]) = Hc6 at sc6 ec6 ⊢
    refine ⟨Nat.le_of_lt (small1000 (by simp)), fun c7 hc7 => ?_⟩
    have sc7 := same_upd0 hc7 (.lst [V.str "a"])
    have ec7 : (upd Hc6 c7 (.lst [V.str "a"])) c7 = some (.lst [V.str "a"]) := upd_same
    generalize upd Hc6 c7 (.lst [V.str "a"]) = Hc7 at sc7 ec7 ⊢
    refine ⟨Nat.le_of_lt (small1000 (by simp)), fun c8 hc8 => ?_⟩
    have sc8 := same_upd0 hc8 (.lst [V.str "b"])
    have ec8 : (upd Hc7 c8 (.lst [V.str "b"])) c8 = some (.lst [V.str "b"]) := upd_same
    generalize upd Hc7 c8 (.lst [V.str "b"]) = Hc8 at sc8 ec8 ⊢
    refine ⟨c8, 3, _, rfl, rfl, ec8, by decide, by decide, Nat.le_of_lt (small1000 (by decide)), fun c8r hc8r => ?_⟩
    have sc8r := same_upd0 hc8r (.lst (List.replicate (Int.toNat 3) [V.str "b"]).flatten)
    have ec8r : (upd Hc8 c8r (.lst (List.replicate (Int.toNat 3) [V.str "b"]).flatten)) c8r = some (.lst ((List.replicate 3 ("b" : Str)).map V.str)) := by rw [upd_same, rep_one]; rfl
    generalize upd Hc8 c8r (.lst (List.replicate (Int.toNat 3) [V.str "b"]).flatten) = Hc8r at sc8r ec8r ⊢
    refine ⟨c7, c8r, _, _, rfl, rfl, sc8r _ _ (sc8 _ _ ec7), ec8r, Nat.le_of_lt (small1000 (by simp)), fun c9 hc9 => ?_⟩
    have sc9 := same_upd0 hc9 (.lst ([V.str "a"] ++ (List.replicate 3 ("b" : Str)).map V.str))
    have ec9 : (upd Hc8r c9 (.lst ([V.str "a"] ++ (List.replicate 3 ("b" : Str)).map V.str))) c9 = some (.lst ((["a", "b", "b", "b"] : List Str).map V.str)) := upd_same
    generalize upd Hc8r c9 (.lst ([V.str "a"] ++ (List.replicate 3 ("b" : Str)).map V.str)) = Hc9 at sc9 ec9 ⊢
    refine ⟨Nat.le_of_lt (small1000 (by simp)), fun ca hca => ?_⟩
    have sca := same_upd0 hca (.lst [V.ref c0, V.ref c1, V.ref c2, V.ref c3, V.ref c4, V.ref c5, V.ref c6, V.ref c9])
    have eca : (upd Hc9 ca (.lst [V.ref c0, V.ref c1, V.ref c2, V.ref c3, V.ref c4, V.ref c5, V.ref c6, V.ref c9])) ca = some (.lst [V.ref c0, V.ref c1, V.ref c2, V.ref c3, V.ref c4, V.ref c5, V.ref c6, V.ref c9]) := upd_same
    generalize upd Hc9 ca (.lst [V.ref c0, V.ref c1, V.ref c2, V.ref c3, V.ref c4, V.ref c5, V.ref c6, V.ref c9]) = Hca at sca eca ⊢
    have zca := Same.refl Hca
    have zc9 := sca.trans zca
    have zc8r := sc9.trans zc9
    have zc8 := sc8r.trans zc8r
    have zc7 := sc8.trans zc8
    have zc6 := sc7.trans zc7
    have zc5 := sc6.trans zc6
    have zc4 := sc5.trans zc5
    have zc3 := sc4.trans zc4
    have zc2 := sc3.trans zc3
    have zc1 := sc2.trans zc2
    have zc0 := sc1.trans zc1
    have paw : PrAt Hca b0 q1 := PrAt.same (sc0.trans zc0) pab
    have wsat : ∀ (j : Nat) y, ([V.ref c0, V.ref c1, V.ref c2, V.ref c3, V.ref c4, V.ref c5, V.ref c6, V.ref c9] : List V)[j]? = some y → ∃ b u, y = V.ref b ∧ us1[j]? = some u ∧ Hca b = some (.lst (u.map V.str)) := fun j y hy => by
      match j, hy with
      | 0, hy => cases hy; exact ⟨c0, _, rfl, rfl, zc0 _ _ ec0⟩
      | 1, hy => cases hy; exact ⟨c1, _, rfl, rfl, zc1 _ _ ec1⟩
      | 2, hy => cases hy; exact ⟨c2, _, rfl, rfl, zc2 _ _ ec2⟩
      | 3, hy => cases hy; exact ⟨c3, _, rfl, rfl, zc3 _ _ ec3⟩
      | 4, hy => cases hy; exact ⟨c4, _, rfl, rfl, zc4 _ _ ec4⟩
      | 5, hy => cases hy; exact ⟨c5, _, rfl, rfl, zc5 _ _ ec5⟩
      | 6, hy => cases hy; exact ⟨c6, _, rfl, rfl, zc6 _ _ ec6⟩
      | 7, hy => cases hy; exact ⟨c9, _, rfl, rfl, zc9 _ _ ec9⟩
      | n + 8, hy => simp at hy
    refine ⟨_, rfl, ca, rfl, ⟨_, SqL.of eca⟩, fun D hD => lcS (n := 8) hD (small1000 (by decide)) _ (fun j v _ => ∃ c, due1[j]? = some c ∧ v = .bl c) (go_l (SqL.of eca)) (stop_l (SqL.of eca)) (yld_l (SqL.of eca)) (fun _ _ _ _ _ h => h) ?_ ?_⟩
    · intro j y H2 R hj hy s2 kk
      obtain ⟨b, u, rfl, e1, e2⟩ := wsat j y hy
      obtain ⟨i1, i2⟩ := us1_in u (List.mem_of_getElem? e1)
      obtain ⟨c, hc⟩ : ∃ c, due1[j]? = some c := ⟨_, List.getElem?_eq_getElem hj⟩
      refine ⟨rfl, _, rfl, _, rfl, b0, b, q1, "main", _, u, rfl, PrAt.same s2 paw, vq1, lk1, s2 _ _ e2, i1, i2, fun H3 c' s3 hc' => kk _ H3 s3 ⟨c, hc, ?_⟩⟩
      have := wds1 j u c e1 hc
      cases c <;> cases c' <;> simp_all
    · intro H2 ys s2 hys hyl hg
      have ey : ys = due1.map V.bl := ext_map (by rw [hyl]; rfl) hg
      rw [ey] at hys
      refine ⟨Nat.le_of_lt (small1000 (by simp)), fun f1 hf1 => ?_⟩
      have sf1 := same_upd0 hf1 (.lst [V.bl true, V.bl true, V.bl false, V.bl true, V.bl true, V.bl false, V.bl true, V.bl false])
      have ef1 : (upd H2 f1 (.lst [V.bl true, V.bl true, V.bl false, V.bl true, V.bl true, V.bl false, V.bl true, V.bl false])) f1 = some (.lst [V.bl true, V.bl true, V.bl false, V.bl true, V.bl true, V.bl false, V.bl true, V.bl false]) := upd_same
      generalize upd H2 f1 (.lst [V.bl true, V.bl true, V.bl false, V.bl true, V.bl true, V.bl false, V.bl true, V.bl false]) = Hf1 at sf1 ef1 ⊢
      refine ⟨.list (due1.map PyData.bool), .list (due1.map PyData.bool), .lst (SqL.of (sf1 _ _ hys)) (dp_bls due1), .lst (SqL.of (xs := due1.map V.bl) ef1) (dp_bls due1), by decide +kernel, by decide +kernel, ?_⟩
      have ev : PyData.eqv (.list (due1.map PyData.bool)) (.list (due1.map PyData.bool)) = true := by decide +kernel
      rw [ev, hD']
      exact q _
  intro u3 hu3 ru3
  refine ⟨_, (pss_cons (ps_for PassesOwn.never rfl (pi_range1 (by rfl) T.n_range (pa_cons (pe_callB (call_max2 rfl) (by rfl) T.n_max (by decide +kernel) (pa_cons pe_int (pa_cons (pe_callB (call_min2 rfl) (by rfl) T.n_min (by decide +kernel) (pa_cons pe_int (pa_cons (pe_callB call_len_seq (by rfl) T.n_len PySem.boot_len (pa_cons (pv 0) pa_nil)) pa_nil))) pa_nil))) pa_nil)) (pg_name (i := 1) scLaw.nd rfl (by first | exact Or.inl rfl | exact Or.inr rfl))
        (pss_cons (ps_set (i := 4) scLaw.nd rfl (by first | exact Or.inl rfl | exact Or.inr rfl) (pe_call GLWell (hr.mono (by omega)) rfl T.gLWell T.FLWell.kp T.bLWell .nil pass0 (pa_cons (pv 0) (pa_cons (pv 1) pa_nil))))
        (pss_one (ps_for PassesOwn.never rfl (pi_range1 (by rfl) T.n_range (pa_cons pe_int pa_nil)) (pg_name (i := 5) scLaw.nd rfl (by first | exact Or.inl rfl | exact Or.inr rfl))
          (pss_cons (ps_set (i := 2) scLaw.nd rfl (by first | exact Or.inl rfl | exact Or.inr rfl) (pe_call GLProgram (hr.mono (by omega)) rfl T.gLProgram T.FLProgram.kp T.bLProgram .nil pass0 (pa_cons (pv 4) (pa_cons (pe_ix ix_list (pe_lst (pa_cons pe_int (pa_cons pe_int (pa_cons pe_int pa_nil)))) (pv 5) (fun _ _ => rfl)) pa_nil))))
          (pss_one (ps_lock2 (ps_for PassesOwn.never rfl (pi_keys (pv 2)) (pg_name (i := 6) scLaw.nd rfl (by first | exact Or.inl rfl | exact Or.inr rfl))
            (pss_cons (ps_set (i := 7) scLaw.nd rfl (by first | exact Or.inl rfl | exact Or.inr rfl) (pe_slice sl_list (pe_call GLChosen (hr.mono (by omega)) rfl T.gLChosen T.FLChosen.kp T.bLChosen .nil pass0 (pa_cons (pv 4) (pa_cons (pe_dget hu (pv 2) (pv 6) (fun _ _ => rfl)) (pa_cons (pe_ix ix_list (pe_lst (pa_cons pe_int (pa_cons pe_int pa_nil))) (pe_call GLPull (hr.mono (by omega)) rfl T.gLPull T.FLPull.kp T.bLPull .nil pass0 (pa_cons (pv 4) (pa_cons pe_int pa_nil))) (fun _ _ => rfl)) pa_nil)))) po_none (po_some pe_int)))
            (pss_cons (ps_set (i := 7) scLaw.nd rfl (by first | exact Or.inl rfl | exact Or.inr rfl) (pe_slice sl_list (pv 7) po_none (po_some (pe_call GLPull (hr.mono (by omega)) rfl T.gLPull T.FLPull.kp T.bLPull .nil pass0 (pa_cons (pv 4) (pa_cons (pe_op op_add (pe_callB call_len_seq (by rfl) T.n_len PySem.boot_len (pa_cons (pv 7) pa_nil)) pe_int) pa_nil))))))
            (pss_cons (ps_if (PW.pt (pw_or (pt_not (pt_val (pe_callG GLRight gd (hr.mono (by omega)) rfl T.gLRight T.FLRight.kp T.bLRight (pa_cons (pv 2) (pa_cons (pv 6) (pa_cons (pv 7) pa_nil)))))) (pw_or1 (pt_cmpR op_notBl (pe_call GIsStart (hr.mono (by omega)) rfl T.gIsStart T.FIsStart.kp T.bIsStart .nil pass0 (pa_cons (pv 2) (pa_cons (pv 6) (pa_cons (pv 7) pa_nil)))) pe_bl (nomark _)))))
              (pss_one (ps_ret pe_bl)) pss_nil)
            (pss_one (ps_if (pt_cmpR (op_neD hr.units) (pe_lc (own := [("again", 8)]) (g := gName 8) rfl scLaw.nd (pi_range1 (by rfl) T.n_range (pa_cons pe_int pa_nil)) (blkOk_by (N := ["script", "k", "program", "words", "well", "turn", "name", "word", "again"]) (sc := defScope sLaw) (by decide +kernel)) (fun _ _ _ _ _ => (pg_name (i := 8) scLaw.nd rfl (by first | exact Or.inl rfl | exact Or.inr rfl))) (fun _ _ _ _ _ => (pts_one (pt_not (pt_val (pe_callG GLRight gd (hr.mono (by omega)) rfl T.gLRight T.FLRight.kp T.bLRight (pa_cons (pv 2) (pa_cons (pv 6) (pa_cons (pe_call GLNear (hr.mono (by omega)) rfl T.gLNear T.FLNear.kp T.bLNear .nil pass0 (pa_cons (pv 4) (pa_cons (pv 2) (pa_cons (pv 7) pa_nil)))) pa_nil)))))))) (fun _ _ _ _ _ => pe_int)) (pe_lst pa_nil) (nomark _))
              (pss_one (ps_ret pe_bl)) pss_nil)))))))))))))
      hu3), ?_⟩
  obtain ⟨m, hm0, hm6, em⟩ : ∃ m : Int, 0 ≤ m ∧ m ≤ 3 ∧ (if (if ((ns.map V.int).length : Int) < 3 then ((ns.map V.int).length : Int) else 3) > 1 then (if ((ns.map V.int).length : Int) < 3 then ((ns.map V.int).length : Int) else 3) else 1) = m := by
    refine ⟨_, ?_, ?_, rfl⟩ <;> repeat' split
    all_goals omega
  refine ⟨_, rfl, _, _, rfl, .inl hs, _, _, rfl, _, _, rfl, m, congrArg (fun z => [V.int z]) em, by omega, by omega, ?_⟩
  refine for_range (lo := 0) (n := m.toNat) (fun k σ H' => ∃ v1 v2 v4 v5 v6 v7, σ = [some (.ref s), v1, v2, none, v4, v5, v6, v7, none] ∧ Same H H') ⟨none, none, none, none, none, none, rfl, Same.refl _⟩ ?_ ?_
  · rintro k σ H1 hk ⟨v1, v2, v4, v5, v6, v7, rfl, s1⟩
    refine ⟨_, rfl, _, rfl, s, ns, k, congrArg (fun z => [V.ref s, V.int z]) (Int.zero_add _), s1.seq hs, by omega, fun a H2 s2 hna hw2 => ?_⟩
    have s02 := s1.trans s2
    refine ⟨3, rfl, by decide, by decide, ?_⟩
    refine for_range (lo := 0) (n := 3) (fun t σ H' => ∃ v2 v5 v6 v7, σ = [some (.ref s), some (.int (0 + (k : Int))), v2, none, some (.ref a), v5, v6, v7, none] ∧ Same H H' ∧ WellAt H' a (t * 100000000000000)) ⟨v2, v5, v6, v7, rfl, s02, hw2.mono (by omega)⟩ ?_ ?_
    · rintro t σ H3 ht ⟨v2, v5, v6, v7, rfl, s3, hw3⟩
      have hna0 : H a = none := none_back (W := []) (Sm.of_same s1) (fun _ z => by cases z) hna
      obtain ⟨mo, hmo, mo0, mo5⟩ := pick3 t ht
      refine ⟨_, rfl, Nat.le_of_lt (small1000 (by simp)), fun x1 hx1 => ?_⟩
      have sx1 := same_upd0 hx1 (.lst [V.int 5, V.int 2, V.int 4])
      have ex1 : (upd H3 x1 (.lst [V.int 5, V.int 2, V.int 4])) x1 = some (.lst [V.int 5, V.int 2, V.int 4]) := upd_same
      generalize upd H3 x1 (.lst [V.int 5, V.int 2, V.int 4]) = H3b at sx1 ex1 ⊢
      have hw3b := hw3.keep fun o e => sx1 _ _ e
      have hat : atI ([V.int 5, V.int 2, V.int 4] : List V) (0 + (t : Int)) = some (.int mo) := by rw [Int.zero_add]; exact atI_nat hmo
      refine ⟨_, rfl, x1, _, _, _, rfl, rfl, SqL.of ex1, hat, a, t * 100000000000000, mo, rfl, mo0, mo5, hw3b, by omega, fun d kvs p H4 sm4 hw4 hd4 hk4 va => ?_⟩
      have s4 : Same H H4 := fun b o e => sm4 b o (by simp; exact ne_of_none e hna0) (sx1 _ _ (s3 _ _ e))
      have hkl := hk4.length
      have hlen := va.len
      have hda : d ≠ a := by
        rintro rfl
        obtain ⟨x, y, z, e, _⟩ := hw4
        rw [hd4] at e; cases e
      refine .inl ⟨d, .dK kvs, hd4, trivial, fun od => ?_⟩
      have hd5 : (upd H4 d (.frz od (.dK kvs))) d = some (.frz od (.dK kvs)) := upd_same
      have of5 : ∀ y, y ≠ d → (upd H4 d (.frz od (.dK kvs))) y = H4 y := fun y hy => upd_ne hy
      generalize upd H4 d (.frz od (.dK kvs)) = H5 at hd5 of5 ⊢
      have hw5 : WellAt H5 a (t * 100000000000000 + 13000000) := hw4.keep fun o e => by rw [of5 a hda.symm]; exact e
      have hk5 : PrKv (wo [a] H5) kvs p := by
        refine hk4.keep ⟨fun b xs e => ?_, fun b xs e => ?_⟩
        · obtain ⟨e1, e2⟩ := wo_some.mp e
          exact wo_some.mpr ⟨e1, by rw [of5 b (by rintro rfl; rw [hd4] at e2; cases e2)]; exact e2⟩
        · obtain ⟨e1, e2⟩ := wo_some.mp e
          exact wo_some.mpr ⟨e1, by rw [of5 b (by rintro rfl; rw [hd4] at e2; cases e2)]; exact e2⟩
      refine ⟨_, rfl, d, od, rfl, .inl ⟨kvs, hd5, ?_⟩⟩
      refine for_keys (fun i σ H' => ∃ v6 v7, σ = [some (.ref s), some (.int (0 + (k : Int))), some (.ref d), none, some (.ref a), some (.int (0 + (t : Int))), v6, v7, none] ∧ Sm [a] H5 H' ∧ WellAt H' a (t * 100000000000000 + 13000000 + i * 2000000000000)) ⟨v6, v7, rfl, Sm.refl _ _, hw5.mono (by omega)⟩ ?_ ?_ ?_
      · rintro i σ H' ⟨_, _, _, sm, _⟩
        exact sm _ _ (by simp [hda]) hd5
      · rintro i ky vv σ H6 hi ⟨v6, v7, rfl, sm6, hw6⟩
        obtain ⟨x, rfl, hxi, hxn⟩ := key_at hk5 hi
        have hi6 : i < 6 := by
          by_cases z : i < kvs.length
          · omega
          · rw [List.getElem?_eq_none (by omega)] at hi; cases hi
        have hd6 := sm6 _ _ (by simp [hda]) hd5
        have hk6 := hk5.keep (Kp.of sm6.same)
        rcases hk6.look (x := x) with ⟨z1, _⟩ | ⟨bd, b, z1, z2, z3⟩
        · obtain ⟨l0, e0⟩ := lookup_mem hxn
          rw [e0] at z1; cases z1
        obtain ⟨o1, o2, o3, o4⟩ := va.ok x bd z1
        -- word = _law_chosen(..)
        refine ⟨_, rfl, _, rfl, _, rfl, d, _, rfl, .inl ⟨kvs, .inr x, .inr ⟨od, hd6⟩, rfl, z2.symm⟩, Nat.le_of_lt (small1000 (by simp)), fun x2 hx2 => ?_⟩
        have sx2 := same_upd0 hx2 (.lst [V.int 3, V.int 40])
        have ex2 : (upd H6 x2 (.lst [V.int 3, V.int 40])) x2 = some (.lst [V.int 3, V.int 40]) := upd_same
        generalize upd H6 x2 (.lst [V.int 3, V.int 40]) = H6b at sx2 ex2 ⊢
        refine ⟨_, rfl, a, 2, _, rfl, by decide, by decide, hw6.keep fun o e => sx2 _ _ e, by omega, fun r H7 r0 r1 sm7 hw7 => ?_⟩
        have hx2a : x2 ≠ a := by
          rintro rfl
          obtain ⟨_, _, _, e, _⟩ := hw6
          rw [e] at hx2
          cases hx2
        obtain ⟨of, hof, of2, of40⟩ : ∃ of : Int, atI ([V.int 3, V.int 40] : List V) r = some (.int of) ∧ 2 ≤ of ∧ of ≤ 40 := by
          rcases (by omega : r = 0 ∨ r = 1) with rfl | rfl
          · exact ⟨3, rfl, by decide, by decide⟩
          · exact ⟨40, rfl, by decide, by decide⟩
        have sm67 : Sm [a] H6 H7 := (Sm.of_same sx2).trans sm7
        have sm57 := sm6.trans sm67
        refine ⟨x2, _, r, _, rfl, rfl, SqL.of (sm7 _ _ (by simp [hx2a]) ex2), hof, a, b, bd, pNames p, of, _, rfl, z3.keep (Kp.of sm67.same), o1, o4, o3, of2, of40, hw7, by omega, fun r8 H8 u sm8 hw8 hn8 hr8 hwb hul => ?_⟩
        have sm58 := sm57.trans sm8
        have hd8 := sm58 _ _ (by simp [hda]) hd5
        have hk8 := hk5.keep (Kp.of sm58.same)
        have pa8 : PrAt H8 d p := ⟨kvs, .inr ⟨od, hd8⟩, hk8.keep kp_off⟩
        have hun : ∀ y ∈ u, y ∈ pNames p := wb_in bd o1 u hwb
        -- what follows behind the test
        have hr8a : r8 ≠ a := by
          rintro rfl
          obtain ⟨_, _, _, e, _⟩ := hw7
          rw [e] at hn8
          cases hn8
        have e4 : (1000 : Nat) ^ 4 = 1000000000000 := by decide
        rw [e4] at hw8
        refine ⟨_, rfl, r8, _, rfl, SqL.of hr8, fun t1 ht1 => ?_⟩
        have s9 := same_upd0 ht1 (.lst (cutV (u.map V.str) none (some 60)))
        have e9 : (upd H8 t1 (.lst (cutV (u.map V.str) none (some 60)))) t1 = some (.lst ((u.take 60).map V.str)) := by rw [upd_same, cut_to60, List.map_take]
        generalize upd H8 t1 (.lst (cutV (u.map V.str) none (some 60))) = H9 at s9 e9 ⊢
        have hw9 := hw8.keep fun o e => s9 _ _ e
        have sm59 : Sm [a] H5 H9 := sm58.trans (Sm.of_same s9)
        obtain ⟨z, hz⟩ : ∃ z, z = u.take 60 := ⟨_, rfl⟩
        rw [← hz] at e9
        have hzl : z.length ≤ 60 := by rw [hz, List.length_take]; omega
        have hzs : SB bd z := SB.pre (v := u.drop 60) (by rw [hz, List.take_append_drop]; exact SB.word hwb)
        have hzn : ∀ y ∈ z, y ∈ pNames p := fun y hy => hun y (List.mem_of_mem_take (by rw [hz] at hy; exact hy))
        clear hz
        have t1a : t1 ≠ a := by
          rintro rfl
          obtain ⟨_, _, _, e, _⟩ := hw9
          rw [e9] at e
          exact strs_ne (HO.lst.inj (Option.some.inj e))
        -- a beginning of it
        refine ⟨_, rfl, _, rfl, _, rfl, t1, _, rfl, .inl (SqL.of e9), _, _, rfl, rfl, a, _, _, rfl, by omega, by rw [List.length_map]; omega, hw9, by omega, fun r2 H10 r20 r21 sm10 hw10 => ?_⟩
        rw [List.length_map] at r21
        have e10 := sm10 _ _ (by simp [t1a]) e9
        refine ⟨_, rfl, t1, _, rfl, SqL.of e10, fun tt htt => ?_⟩
        have er2 : r2 = ((r2.toNat : Nat) : Int) := by omega
        have s11 := same_upd0 htt (.lst (cutV (z.map V.str) none (some r2)))
        have e11 : (upd H10 tt (.lst (cutV (z.map V.str) none (some r2)))) tt = some (.lst ((z.take r2.toNat).map V.str)) := by
          rw [upd_same, er2, cut_to', List.map_take, Int.toNat_natCast]
        generalize upd H10 tt (.lst (cutV (z.map V.str) none (some r2))) = H11 at s11 e11 ⊢
        have sm511 : Sm [a] H5 H11 := (sm59.trans sm10).trans (Sm.of_same s11)
        have hw11 := hw10.keep fun o e => s11 _ _ e
        obtain ⟨y, hy⟩ : ∃ y, y = z.take r2.toNat := ⟨_, rfl⟩
        rw [← hy] at e11
        have hyl : y.length ≤ 60 := by rw [hy, List.length_take]; omega
        have hys : SB bd y := SB.pre (v := z.drop r2.toNat) (by rw [hy, List.take_append_drop]; exact hzs)
        have hyn : ∀ x ∈ y, x ∈ pNames p := fun x hx => hzn x (List.mem_of_mem_take (by rw [hy] at hx; exact hx))
        clear hy er2
        have tta : tt ≠ a := by
          rintro rfl
          obtain ⟨_, _, _, e, _⟩ := hw11
          rw [e11] at e
          exact strs_ne (HO.lst.inj (Option.some.inj e))
        have hd11 := sm511 _ _ (by simp [hda]) hd5
        have hk11 := hk5.keep (Kp.of sm511.same)
        refine ⟨_, rfl, _, rfl, _, rfl, d, tt, kvs, p, x, bd, y, rfl, .inr ⟨od, hd11⟩, hk11.keep kp_off, va, z1, e11, hyn, hyl, fun H12 s12 => ?_⟩
        refine ⟨_, rfl, iteF ?_⟩
        have hd12 := s12 _ _ hd11
        have hk12 := hk11.keep (Kp.of (Sm.of_same (W := [a]) s12).same)
        refine ⟨_, rfl, _, rfl, _, rfl, d, tt, p, x, bd, y, rfl, ⟨kvs, .inr ⟨od, hd12⟩, hk12.keep kp_off⟩, va, z1, s12 _ _ e11, hyn, by omega, fun H13 c13 s13 hc13 => ?_⟩
        have ec : c13 = true := hc13.mpr hys
        subst ec
        refine ⟨true, true, rfl, rfl, _, rfl, ite2 (fun z => absurd z (by decide)) (fun _ => ?_)⟩
        have sm513 : Sm [a] H5 H13 := (sm511.trans (Sm.of_same s12)).trans (Sm.of_same s13)
        have hw13 := (hw11.keep fun o e => s12 _ _ e).keep fun o e => s13 _ _ e
        have e13 := s13 _ _ (s12 _ _ e11)
        refine ⟨4, rfl, by decide, by decide, fun D hD => ?_⟩
        have hDa : D ≠ a := by
          rintro rfl
          obtain ⟨_, _, _, e, _⟩ := hw13
          rw [e] at hD
          cases hD
        refine lc_range (lo := 0) (n := 4) (fun j H' => Sm [a] H13 H' ∧ WellAt H' a (t * 100000000000000 + 13000000 + i * 2000000000000 + 1 + 1000000000000 + 1 + j * 10) ∧ H' D = some (.lst [])) ⟨Sm.new hD, ((hw13.keep fun o e => by rw [upd_ne hDa.symm]; exact e).mono (by omega)), upd_same⟩ ?_ ?_
        · rintro j H14 hj ⟨sm14, hw14, hD14⟩
          have sm514 := sm513.trans sm14
          have hd14 := sm514 _ _ (by simp [hda]) hd5
          have hk14 := hk5.keep (Kp.of sm514.same)
          have e14 := sm14 _ _ (by simp [tta]) e13
          refine ⟨rfl, ?_⟩
          refine ⟨_, rfl, _, rfl, _, rfl, _, rfl, _, rfl, a, d, tt, p, _, rfl, hw14, by omega, ⟨kvs, .inr ⟨od, wo_some.mpr ⟨by simp [hda], hd14⟩⟩, hk14⟩, va, ⟨tt, y, rfl, e14, hyn, hyl⟩, fun r15 H15 sm15 hw15 hr15 st15 => ?_⟩
          obtain ⟨b2, y2, e15, hb2, hy2, hl2⟩ := st15
          cases e15
          have sm515 := sm514.trans sm15
          have hd15 := sm515 _ _ (by simp [hda]) hd5
          have hk15 := hk5.keep (Kp.of sm515.same)
          refine ⟨d, r15, kvs, p, x, bd, y2, rfl, .inr ⟨od, hd15⟩, hk15.keep kp_off, va, z1, hb2, hy2, hl2, fun H16 s16 => ?_⟩
          refine ⟨_, rfl, iteF ⟨(sm14.trans sm15).trans (Sm.of_same s16), ((hw15.keep fun o e => s16 _ _ e).mono (by omega)), s16 _ _ (sm15 _ _ (by simp [hDa]) hD14)⟩⟩
        · rintro H14 ⟨sm14, hw14, hD14⟩
          refine ⟨Nat.zero_le _, fun n1 hn1 => ?_⟩
          have sn := same_upd0 hn1 (.lst [])
          refine ⟨.list [], .list [], .lst (SqL.of (sn _ _ hD14)) .nil, .lst (SqL.of upd_same) .nil, by decide +kernel, by decide +kernel, _, rfl, ite2 (fun z => absurd z (by decide +kernel)) (fun _ => ?_)⟩
          exact ⟨_, _, rfl, (sm513.trans sm14).trans (Sm.of_same sn), ((hw14.keep fun o e => sn _ _ e).mono (by omega))⟩
      · rintro σ H6 ⟨v6, v7, rfl, sm6, hw6⟩
        refine ⟨sm6 _ _ (by simp [hda]) hd5, _, _, _, _, rfl, fun b o e => ?_, ((hw6.keep fun o e => ?_).mono ?_)⟩
        · by_cases hbd : b = d
          · subst hbd
            rw [upd_same]
            rw [← hd4]
            exact s4 _ _ e
          · rw [upd_ne hbd]
            refine sm6 _ _ (by simp; exact ne_of_none e hna0) ?_
            rw [of5 b hbd]
            exact s4 _ _ e
        · rw [upd_ne hda.symm]
          exact e
        · have h6 : kvs.length ≤ 6 := by omega
          clear hw6 hw3 hw3b hw4 hw5
          omega
    · rintro σ H3 ⟨v2, v5, v6, v7, rfl, s3, hw3⟩
      exact ⟨_, _, _, _, _, _, rfl, s3⟩
  · rintro σ H1 ⟨v1, v2, v4, v5, v6, v7, rfl, s1⟩
    exact ru3 _ _ _ ⟨rfl, _, _, _, _, _, _, _, _, rfl⟩
end K05


set_option Elab.async false
set_option linter.all false
set_option maxRecDepth 100000
set_option maxHeartbeats 4000000
namespace K05
open PySem PySem.Spec PyProof.Rows L2 FA LiI
theorem all_mk {P : Program} {w : World} {K : PySem.W.Frag} {h : Heap} {mg : Str → Option Value} {fa : Addr} (X : K.In h) (G : h.Ns mainGlobals mg) (hfa : mg "law" = some (.ref fa))
    {fBodiesWithin : Addr} {odBodiesWithin anBodiesWithin : Option Addr} {slBodiesWithin : Array (Option Value)} {ocBodiesWithin kVBodiesWithin dcBodiesWithin pmBodiesWithin cdBodiesWithin ctBodiesWithin : Value}
    {fOneBehindOther : Addr} {odOneBehindOther anOneBehindOther : Option Addr} {slOneBehindOther : Array (Option Value)} {ocOneBehindOther kVOneBehindOther dcOneBehindOther pmOneBehindOther cdOneBehindOther ctOneBehindOther : Value}
    {fOneOrOther : Addr} {odOneOrOther anOneOrOther : Option Addr} {slOneOrOther : Array (Option Value)} {ocOneOrOther kVOneOrOther dcOneOrOther pmOneOrOther cdOneOrOther ctOneOrOther : Value}
    {fPlanOfItem : Addr} {odPlanOfItem anPlanOfItem : Option Addr} {slPlanOfItem : Array (Option Value)} {ocPlanOfItem kVPlanOfItem dcPlanOfItem pmPlanOfItem cdPlanOfItem ctPlanOfItem : Value}
    {fPlanOfBody : Addr} {odPlanOfBody anPlanOfBody : Option Addr} {slPlanOfBody : Array (Option Value)} {ocPlanOfBody kVPlanOfBody dcPlanOfBody pmPlanOfBody cdPlanOfBody ctPlanOfBody : Value}
    {fNetOf : Addr} {odNetOf anNetOf : Option Addr} {slNetOf : Array (Option Value)} {ocNetOf kVNetOf dcNetOf pmNetOf cdNetOf ctNetOf : Value}
    {fStatesAfter : Addr} {odStatesAfter anStatesAfter : Option Addr} {slStatesAfter : Array (Option Value)} {ocStatesAfter kVStatesAfter dcStatesAfter pmStatesAfter cdStatesAfter ctStatesAfter : Value}
    {fStatesBehind : Addr} {odStatesBehind anStatesBehind : Option Addr} {slStatesBehind : Array (Option Value)} {ocStatesBehind kVStatesBehind dcStatesBehind pmStatesBehind cdStatesBehind ctStatesBehind : Value}
    {fIsName : Addr} {odIsName anIsName : Option Addr} {slIsName : Array (Option Value)} {ocIsName kVIsName dcIsName pmIsName cdIsName ctIsName : Value}
    {fIsFunction : Addr} {odIsFunction anIsFunction : Option Addr} {slIsFunction : Array (Option Value)} {ocIsFunction kVIsFunction dcIsFunction pmIsFunction cdIsFunction ctIsFunction : Value}
    {fChoices : Addr} {odChoices anChoices : Option Addr} {slChoices : Array (Option Value)} {ocChoices kVChoices dcChoices pmChoices cdChoices ctChoices : Value}
    {fItemSize : Addr} {odItemSize anItemSize : Option Addr} {slItemSize : Array (Option Value)} {ocItemSize kVItemSize dcItemSize pmItemSize cdItemSize ctItemSize : Value}
    {fBodySize : Addr} {odBodySize anBodySize : Option Addr} {slBodySize : Array (Option Value)} {ocBodySize kVBodySize dcBodySize pmBodySize cdBodySize ctBodySize : Value}
    {fLeastInItem : Addr} {odLeastInItem anLeastInItem : Option Addr} {slLeastInItem : Array (Option Value)} {ocLeastInItem kVLeastInItem dcLeastInItem pmLeastInItem cdLeastInItem ctLeastInItem : Value}
    {fLeastInBody : Addr} {odLeastInBody anLeastInBody : Option Addr} {slLeastInBody : Array (Option Value)} {ocLeastInBody kVLeastInBody dcLeastInBody pmLeastInBody cdLeastInBody ctLeastInBody : Value}
    {fLeastCalls : Addr} {odLeastCalls anLeastCalls : Option Addr} {slLeastCalls : Array (Option Value)} {ocLeastCalls kVLeastCalls dcLeastCalls pmLeastCalls cdLeastCalls ctLeastCalls : Value}
    {fIsProgram : Addr} {odIsProgram anIsProgram : Option Addr} {slIsProgram : Array (Option Value)} {ocIsProgram kVIsProgram dcIsProgram pmIsProgram cdIsProgram ctIsProgram : Value}
    {fCheckProgram : Addr} {odCheckProgram anCheckProgram : Option Addr} {slCheckProgram : Array (Option Value)} {ocCheckProgram kVCheckProgram dcCheckProgram pmCheckProgram cdCheckProgram ctCheckProgram : Value}
    {fCheckName : Addr} {odCheckName anCheckName : Option Addr} {slCheckName : Array (Option Value)} {ocCheckName kVCheckName dcCheckName pmCheckName cdCheckName ctCheckName : Value}
    {fCheckWord : Addr} {odCheckWord anCheckWord : Option Addr} {slCheckWord : Array (Option Value)} {ocCheckWord kVCheckWord dcCheckWord pmCheckWord cdCheckWord ctCheckWord : Value}
    {fIsWord : Addr} {odIsWord anIsWord : Option Addr} {slIsWord : Array (Option Value)} {ocIsWord kVIsWord dcIsWord pmIsWord cdIsWord ctIsWord : Value}
    {fIsStart : Addr} {odIsStart anIsStart : Option Addr} {slIsStart : Array (Option Value)} {ocIsStart kVIsStart dcIsStart pmIsStart cdIsStart ctIsStart : Value}
    {fLWell : Addr} {odLWell anLWell : Option Addr} {slLWell : Array (Option Value)} {ocLWell kVLWell dcLWell pmLWell cdLWell ctLWell : Value}
    {fLPull : Addr} {odLPull anLPull : Option Addr} {slLPull : Array (Option Value)} {ocLPull kVLPull dcLPull pmLPull cdLPull ctLPull : Value}
    {fLShuffled : Addr} {odLShuffled anLShuffled : Option Addr} {slLShuffled : Array (Option Value)} {ocLShuffled kVLShuffled dcLShuffled pmLShuffled cdLShuffled ctLShuffled : Value}
    {fLItem : Addr} {odLItem anLItem : Option Addr} {slLItem : Array (Option Value)} {ocLItem kVLItem dcLItem pmLItem cdLItem ctLItem : Value}
    {fLBody : Addr} {odLBody anLBody : Option Addr} {slLBody : Array (Option Value)} {ocLBody kVLBody dcLBody pmLBody cdLBody ctLBody : Value}
    {fLCost : Addr} {odLCost anLCost : Option Addr} {slLCost : Array (Option Value)} {ocLCost kVLCost dcLCost pmLCost cdLCost ctLCost : Value}
    {fLProgram : Addr} {odLProgram anLProgram : Option Addr} {slLProgram : Array (Option Value)} {ocLProgram kVLProgram dcLProgram pmLProgram cdLProgram ctLProgram : Value}
    {fLChosen : Addr} {odLChosen anLChosen : Option Addr} {slLChosen : Array (Option Value)} {ocLChosen kVLChosen dcLChosen pmLChosen cdLChosen ctLChosen : Value}
    {fLEnds : Addr} {odLEnds anLEnds : Option Addr} {slLEnds : Array (Option Value)} {ocLEnds kVLEnds dcLEnds pmLEnds cdLEnds ctLEnds : Value}
    {fLDue : Addr} {odLDue anLDue : Option Addr} {slLDue : Array (Option Value)} {ocLDue kVLDue dcLDue pmLDue cdLDue ctLDue : Value}
    {fLRight : Addr} {odLRight anLRight : Option Addr} {slLRight : Array (Option Value)} {ocLRight kVLRight dcLRight pmLRight cdLRight ctLRight : Value}
    {fLNear : Addr} {odLNear anLNear : Option Addr} {slLNear : Array (Option Value)} {ocLNear kVLNear dcLNear pmLNear cdLNear ctLNear : Value}
    {fLaw : Addr} {odLaw anLaw : Option Addr} {slLaw : Array (Option Value)} {ocLaw kVLaw dcLaw pmLaw cdLaw ctLaw : Value}
    {tFEWEST_CHOICES : Tok}
    {tMOST_CALLS : Tok}
    {tMOST_CALLS_TO_RETURN : Tok}
    {tMOST_CHOICES : Tok}
    {tMOST_FUNCTIONS : Tok}
    {tMOST_ITEMS : Tok}
    {tMOST_LETTERS : Tok}
    {tMOST_LEVELS : Tok}
    (aBodiesWithin : PySem.W.nsIn K mainGlobals "bodies_within" = some (some (.ref fBodiesWithin)))
    (lBodiesWithin : K.lookup fBodiesWithin = some ⟨ocBodiesWithin, odBodiesWithin, .func (PySem.W.fnOf "bodies_within" "bodies_within" (defArgs sBodiesWithin) (defBody sBodiesWithin) (defScope sBodiesWithin) .none kVBodiesWithin dcBodiesWithin pmBodiesWithin anBodiesWithin cdBodiesWithin ctBodiesWithin), slBodiesWithin⟩)
    (cBodiesWithin : PySem.W.codeIn K cdBodiesWithin "bodies_within" = true) (kBodiesWithin : PySem.W.keepIn K (.ref fBodiesWithin) = true)
    (aOneBehindOther : PySem.W.nsIn K mainGlobals "_one_behind_other" = some (some (.ref fOneBehindOther)))
    (lOneBehindOther : K.lookup fOneBehindOther = some ⟨ocOneBehindOther, odOneBehindOther, .func (PySem.W.fnOf "_one_behind_other" "_one_behind_other" (defArgs sOneBehindOther) (defBody sOneBehindOther) (defScope sOneBehindOther) .none kVOneBehindOther dcOneBehindOther pmOneBehindOther anOneBehindOther cdOneBehindOther ctOneBehindOther), slOneBehindOther⟩)
    (cOneBehindOther : PySem.W.codeIn K cdOneBehindOther "_one_behind_other" = true) (kOneBehindOther : PySem.W.keepIn K (.ref fOneBehindOther) = true)
    (aOneOrOther : PySem.W.nsIn K mainGlobals "_one_or_other" = some (some (.ref fOneOrOther)))
    (lOneOrOther : K.lookup fOneOrOther = some ⟨ocOneOrOther, odOneOrOther, .func (PySem.W.fnOf "_one_or_other" "_one_or_other" (defArgs sOneOrOther) (defBody sOneOrOther) (defScope sOneOrOther) .none kVOneOrOther dcOneOrOther pmOneOrOther anOneOrOther cdOneOrOther ctOneOrOther), slOneOrOther⟩)
    (cOneOrOther : PySem.W.codeIn K cdOneOrOther "_one_or_other" = true) (kOneOrOther : PySem.W.keepIn K (.ref fOneOrOther) = true)
    (aPlanOfItem : PySem.W.nsIn K mainGlobals "_plan_of_item" = some (some (.ref fPlanOfItem)))
    (lPlanOfItem : K.lookup fPlanOfItem = some ⟨ocPlanOfItem, odPlanOfItem, .func (PySem.W.fnOf "_plan_of_item" "_plan_of_item" (defArgs sPlanOfItem) (defBody sPlanOfItem) (defScope sPlanOfItem) .none kVPlanOfItem dcPlanOfItem pmPlanOfItem anPlanOfItem cdPlanOfItem ctPlanOfItem), slPlanOfItem⟩)
    (cPlanOfItem : PySem.W.codeIn K cdPlanOfItem "_plan_of_item" = true) (kPlanOfItem : PySem.W.keepIn K (.ref fPlanOfItem) = true)
    (aPlanOfBody : PySem.W.nsIn K mainGlobals "_plan_of_body" = some (some (.ref fPlanOfBody)))
    (lPlanOfBody : K.lookup fPlanOfBody = some ⟨ocPlanOfBody, odPlanOfBody, .func (PySem.W.fnOf "_plan_of_body" "_plan_of_body" (defArgs sPlanOfBody) (defBody sPlanOfBody) (defScope sPlanOfBody) .none kVPlanOfBody dcPlanOfBody pmPlanOfBody anPlanOfBody cdPlanOfBody ctPlanOfBody), slPlanOfBody⟩)
    (cPlanOfBody : PySem.W.codeIn K cdPlanOfBody "_plan_of_body" = true) (kPlanOfBody : PySem.W.keepIn K (.ref fPlanOfBody) = true)
    (aNetOf : PySem.W.nsIn K mainGlobals "net_of" = some (some (.ref fNetOf)))
    (lNetOf : K.lookup fNetOf = some ⟨ocNetOf, odNetOf, .func (PySem.W.fnOf "net_of" "net_of" (defArgs sNetOf) (defBody sNetOf) (defScope sNetOf) .none kVNetOf dcNetOf pmNetOf anNetOf cdNetOf ctNetOf), slNetOf⟩)
    (cNetOf : PySem.W.codeIn K cdNetOf "net_of" = true) (kNetOf : PySem.W.keepIn K (.ref fNetOf) = true)
    (aStatesAfter : PySem.W.nsIn K mainGlobals "states_after" = some (some (.ref fStatesAfter)))
    (lStatesAfter : K.lookup fStatesAfter = some ⟨ocStatesAfter, odStatesAfter, .func (PySem.W.fnOf "states_after" "states_after" (defArgs sStatesAfter) (defBody sStatesAfter) (defScope sStatesAfter) .none kVStatesAfter dcStatesAfter pmStatesAfter anStatesAfter cdStatesAfter ctStatesAfter), slStatesAfter⟩)
    (cStatesAfter : PySem.W.codeIn K cdStatesAfter "states_after" = true) (kStatesAfter : PySem.W.keepIn K (.ref fStatesAfter) = true)
    (aStatesBehind : PySem.W.nsIn K mainGlobals "states_behind" = some (some (.ref fStatesBehind)))
    (lStatesBehind : K.lookup fStatesBehind = some ⟨ocStatesBehind, odStatesBehind, .func (PySem.W.fnOf "states_behind" "states_behind" (defArgs sStatesBehind) (defBody sStatesBehind) (defScope sStatesBehind) .none kVStatesBehind dcStatesBehind pmStatesBehind anStatesBehind cdStatesBehind ctStatesBehind), slStatesBehind⟩)
    (cStatesBehind : PySem.W.codeIn K cdStatesBehind "states_behind" = true) (kStatesBehind : PySem.W.keepIn K (.ref fStatesBehind) = true)
    (aIsName : PySem.W.nsIn K mainGlobals "is_name" = some (some (.ref fIsName)))
    (lIsName : K.lookup fIsName = some ⟨ocIsName, odIsName, .func (PySem.W.fnOf "is_name" "is_name" (defArgs sIsName) (defBody sIsName) (defScope sIsName) .none kVIsName dcIsName pmIsName anIsName cdIsName ctIsName), slIsName⟩)
    (cIsName : PySem.W.codeIn K cdIsName "is_name" = true) (kIsName : PySem.W.keepIn K (.ref fIsName) = true)
    (aIsFunction : PySem.W.nsIn K mainGlobals "is_function" = some (some (.ref fIsFunction)))
    (lIsFunction : K.lookup fIsFunction = some ⟨ocIsFunction, odIsFunction, .func (PySem.W.fnOf "is_function" "is_function" (defArgs sIsFunction) (defBody sIsFunction) (defScope sIsFunction) .none kVIsFunction dcIsFunction pmIsFunction anIsFunction cdIsFunction ctIsFunction), slIsFunction⟩)
    (cIsFunction : PySem.W.codeIn K cdIsFunction "is_function" = true) (kIsFunction : PySem.W.keepIn K (.ref fIsFunction) = true)
    (aChoices : PySem.W.nsIn K mainGlobals "_choices" = some (some (.ref fChoices)))
    (lChoices : K.lookup fChoices = some ⟨ocChoices, odChoices, .func (PySem.W.fnOf "_choices" "_choices" (defArgs sChoices) (defBody sChoices) (defScope sChoices) .none kVChoices dcChoices pmChoices anChoices cdChoices ctChoices), slChoices⟩)
    (cChoices : PySem.W.codeIn K cdChoices "_choices" = true) (kChoices : PySem.W.keepIn K (.ref fChoices) = true)
    (aItemSize : PySem.W.nsIn K mainGlobals "_item_size" = some (some (.ref fItemSize)))
    (lItemSize : K.lookup fItemSize = some ⟨ocItemSize, odItemSize, .func (PySem.W.fnOf "_item_size" "_item_size" (defArgs sItemSize) (defBody sItemSize) (defScope sItemSize) .none kVItemSize dcItemSize pmItemSize anItemSize cdItemSize ctItemSize), slItemSize⟩)
    (cItemSize : PySem.W.codeIn K cdItemSize "_item_size" = true) (kItemSize : PySem.W.keepIn K (.ref fItemSize) = true)
    (aBodySize : PySem.W.nsIn K mainGlobals "_body_size" = some (some (.ref fBodySize)))
    (lBodySize : K.lookup fBodySize = some ⟨ocBodySize, odBodySize, .func (PySem.W.fnOf "_body_size" "_body_size" (defArgs sBodySize) (defBody sBodySize) (defScope sBodySize) .none kVBodySize dcBodySize pmBodySize anBodySize cdBodySize ctBodySize), slBodySize⟩)
    (cBodySize : PySem.W.codeIn K cdBodySize "_body_size" = true) (kBodySize : PySem.W.keepIn K (.ref fBodySize) = true)
    (aLeastInItem : PySem.W.nsIn K mainGlobals "_least_in_item" = some (some (.ref fLeastInItem)))
    (lLeastInItem : K.lookup fLeastInItem = some ⟨ocLeastInItem, odLeastInItem, .func (PySem.W.fnOf "_least_in_item" "_least_in_item" (defArgs sLeastInItem) (defBody sLeastInItem) (defScope sLeastInItem) .none kVLeastInItem dcLeastInItem pmLeastInItem anLeastInItem cdLeastInItem ctLeastInItem), slLeastInItem⟩)
    (cLeastInItem : PySem.W.codeIn K cdLeastInItem "_least_in_item" = true) (kLeastInItem : PySem.W.keepIn K (.ref fLeastInItem) = true)
    (aLeastInBody : PySem.W.nsIn K mainGlobals "_least_in_body" = some (some (.ref fLeastInBody)))
    (lLeastInBody : K.lookup fLeastInBody = some ⟨ocLeastInBody, odLeastInBody, .func (PySem.W.fnOf "_least_in_body" "_least_in_body" (defArgs sLeastInBody) (defBody sLeastInBody) (defScope sLeastInBody) .none kVLeastInBody dcLeastInBody pmLeastInBody anLeastInBody cdLeastInBody ctLeastInBody), slLeastInBody⟩)
    (cLeastInBody : PySem.W.codeIn K cdLeastInBody "_least_in_body" = true) (kLeastInBody : PySem.W.keepIn K (.ref fLeastInBody) = true)
    (aLeastCalls : PySem.W.nsIn K mainGlobals "_least_calls" = some (some (.ref fLeastCalls)))
    (lLeastCalls : K.lookup fLeastCalls = some ⟨ocLeastCalls, odLeastCalls, .func (PySem.W.fnOf "_least_calls" "_least_calls" (defArgs sLeastCalls) (defBody sLeastCalls) (defScope sLeastCalls) .none kVLeastCalls dcLeastCalls pmLeastCalls anLeastCalls cdLeastCalls ctLeastCalls), slLeastCalls⟩)
    (cLeastCalls : PySem.W.codeIn K cdLeastCalls "_least_calls" = true) (kLeastCalls : PySem.W.keepIn K (.ref fLeastCalls) = true)
    (aIsProgram : PySem.W.nsIn K mainGlobals "is_program" = some (some (.ref fIsProgram)))
    (lIsProgram : K.lookup fIsProgram = some ⟨ocIsProgram, odIsProgram, .func (PySem.W.fnOf "is_program" "is_program" (defArgs sIsProgram) (defBody sIsProgram) (defScope sIsProgram) .none kVIsProgram dcIsProgram pmIsProgram anIsProgram cdIsProgram ctIsProgram), slIsProgram⟩)
    (cIsProgram : PySem.W.codeIn K cdIsProgram "is_program" = true) (kIsProgram : PySem.W.keepIn K (.ref fIsProgram) = true)
    (aCheckProgram : PySem.W.nsIn K mainGlobals "check_program" = some (some (.ref fCheckProgram)))
    (lCheckProgram : K.lookup fCheckProgram = some ⟨ocCheckProgram, odCheckProgram, .func (PySem.W.fnOf "check_program" "check_program" (defArgs sCheckProgram) (defBody sCheckProgram) (defScope sCheckProgram) .none kVCheckProgram dcCheckProgram pmCheckProgram anCheckProgram cdCheckProgram ctCheckProgram), slCheckProgram⟩)
    (cCheckProgram : PySem.W.codeIn K cdCheckProgram "check_program" = true) (kCheckProgram : PySem.W.keepIn K (.ref fCheckProgram) = true)
    (aCheckName : PySem.W.nsIn K mainGlobals "check_name" = some (some (.ref fCheckName)))
    (lCheckName : K.lookup fCheckName = some ⟨ocCheckName, odCheckName, .func (PySem.W.fnOf "check_name" "check_name" (defArgs sCheckName) (defBody sCheckName) (defScope sCheckName) .none kVCheckName dcCheckName pmCheckName anCheckName cdCheckName ctCheckName), slCheckName⟩)
    (cCheckName : PySem.W.codeIn K cdCheckName "check_name" = true) (kCheckName : PySem.W.keepIn K (.ref fCheckName) = true)
    (aCheckWord : PySem.W.nsIn K mainGlobals "check_word" = some (some (.ref fCheckWord)))
    (lCheckWord : K.lookup fCheckWord = some ⟨ocCheckWord, odCheckWord, .func (PySem.W.fnOf "check_word" "check_word" (defArgs sCheckWord) (defBody sCheckWord) (defScope sCheckWord) .none kVCheckWord dcCheckWord pmCheckWord anCheckWord cdCheckWord ctCheckWord), slCheckWord⟩)
    (cCheckWord : PySem.W.codeIn K cdCheckWord "check_word" = true) (kCheckWord : PySem.W.keepIn K (.ref fCheckWord) = true)
    (aIsWord : PySem.W.nsIn K mainGlobals "is_word" = some (some (.ref fIsWord)))
    (lIsWord : K.lookup fIsWord = some ⟨ocIsWord, odIsWord, .func (PySem.W.fnOf "is_word" "is_word" (defArgs sIsWord) (defBody sIsWord) (defScope sIsWord) .none kVIsWord dcIsWord pmIsWord anIsWord cdIsWord ctIsWord), slIsWord⟩)
    (cIsWord : PySem.W.codeIn K cdIsWord "is_word" = true) (kIsWord : PySem.W.keepIn K (.ref fIsWord) = true)
    (aIsStart : PySem.W.nsIn K mainGlobals "is_start" = some (some (.ref fIsStart)))
    (lIsStart : K.lookup fIsStart = some ⟨ocIsStart, odIsStart, .func (PySem.W.fnOf "is_start" "is_start" (defArgs sIsStart) (defBody sIsStart) (defScope sIsStart) .none kVIsStart dcIsStart pmIsStart anIsStart cdIsStart ctIsStart), slIsStart⟩)
    (cIsStart : PySem.W.codeIn K cdIsStart "is_start" = true) (kIsStart : PySem.W.keepIn K (.ref fIsStart) = true)
    (aLWell : PySem.W.nsIn K mainGlobals "_law_well" = some (some (.ref fLWell)))
    (lLWell : K.lookup fLWell = some ⟨ocLWell, odLWell, .func (PySem.W.fnOf "_law_well" "_law_well" (defArgs sLWell) (defBody sLWell) (defScope sLWell) .none kVLWell dcLWell pmLWell anLWell cdLWell ctLWell), slLWell⟩)
    (cLWell : PySem.W.codeIn K cdLWell "_law_well" = true) (kLWell : PySem.W.keepIn K (.ref fLWell) = true)
    (aLPull : PySem.W.nsIn K mainGlobals "_law_pull" = some (some (.ref fLPull)))
    (lLPull : K.lookup fLPull = some ⟨ocLPull, odLPull, .func (PySem.W.fnOf "_law_pull" "_law_pull" (defArgs sLPull) (defBody sLPull) (defScope sLPull) .none kVLPull dcLPull pmLPull anLPull cdLPull ctLPull), slLPull⟩)
    (cLPull : PySem.W.codeIn K cdLPull "_law_pull" = true) (kLPull : PySem.W.keepIn K (.ref fLPull) = true)
    (aLShuffled : PySem.W.nsIn K mainGlobals "_law_shuffled" = some (some (.ref fLShuffled)))
    (lLShuffled : K.lookup fLShuffled = some ⟨ocLShuffled, odLShuffled, .func (PySem.W.fnOf "_law_shuffled" "_law_shuffled" (defArgs sLShuffled) (defBody sLShuffled) (defScope sLShuffled) .none kVLShuffled dcLShuffled pmLShuffled anLShuffled cdLShuffled ctLShuffled), slLShuffled⟩)
    (cLShuffled : PySem.W.codeIn K cdLShuffled "_law_shuffled" = true) (kLShuffled : PySem.W.keepIn K (.ref fLShuffled) = true)
    (aLItem : PySem.W.nsIn K mainGlobals "_law_item" = some (some (.ref fLItem)))
    (lLItem : K.lookup fLItem = some ⟨ocLItem, odLItem, .func (PySem.W.fnOf "_law_item" "_law_item" (defArgs sLItem) (defBody sLItem) (defScope sLItem) .none kVLItem dcLItem pmLItem anLItem cdLItem ctLItem), slLItem⟩)
    (cLItem : PySem.W.codeIn K cdLItem "_law_item" = true) (kLItem : PySem.W.keepIn K (.ref fLItem) = true)
    (aLBody : PySem.W.nsIn K mainGlobals "_law_body" = some (some (.ref fLBody)))
    (lLBody : K.lookup fLBody = some ⟨ocLBody, odLBody, .func (PySem.W.fnOf "_law_body" "_law_body" (defArgs sLBody) (defBody sLBody) (defScope sLBody) .none kVLBody dcLBody pmLBody anLBody cdLBody ctLBody), slLBody⟩)
    (cLBody : PySem.W.codeIn K cdLBody "_law_body" = true) (kLBody : PySem.W.keepIn K (.ref fLBody) = true)
    (aLCost : PySem.W.nsIn K mainGlobals "_law_cost" = some (some (.ref fLCost)))
    (lLCost : K.lookup fLCost = some ⟨ocLCost, odLCost, .func (PySem.W.fnOf "_law_cost" "_law_cost" (defArgs sLCost) (defBody sLCost) (defScope sLCost) .none kVLCost dcLCost pmLCost anLCost cdLCost ctLCost), slLCost⟩)
    (cLCost : PySem.W.codeIn K cdLCost "_law_cost" = true) (kLCost : PySem.W.keepIn K (.ref fLCost) = true)
    (aLProgram : PySem.W.nsIn K mainGlobals "_law_program" = some (some (.ref fLProgram)))
    (lLProgram : K.lookup fLProgram = some ⟨ocLProgram, odLProgram, .func (PySem.W.fnOf "_law_program" "_law_program" (defArgs sLProgram) (defBody sLProgram) (defScope sLProgram) .none kVLProgram dcLProgram pmLProgram anLProgram cdLProgram ctLProgram), slLProgram⟩)
    (cLProgram : PySem.W.codeIn K cdLProgram "_law_program" = true) (kLProgram : PySem.W.keepIn K (.ref fLProgram) = true)
    (aLChosen : PySem.W.nsIn K mainGlobals "_law_chosen" = some (some (.ref fLChosen)))
    (lLChosen : K.lookup fLChosen = some ⟨ocLChosen, odLChosen, .func (PySem.W.fnOf "_law_chosen" "_law_chosen" (defArgs sLChosen) (defBody sLChosen) (defScope sLChosen) .none kVLChosen dcLChosen pmLChosen anLChosen cdLChosen ctLChosen), slLChosen⟩)
    (cLChosen : PySem.W.codeIn K cdLChosen "_law_chosen" = true) (kLChosen : PySem.W.keepIn K (.ref fLChosen) = true)
    (aLEnds : PySem.W.nsIn K mainGlobals "_law_ends" = some (some (.ref fLEnds)))
    (lLEnds : K.lookup fLEnds = some ⟨ocLEnds, odLEnds, .func (PySem.W.fnOf "_law_ends" "_law_ends" (defArgs sLEnds) (defBody sLEnds) (defScope sLEnds) .none kVLEnds dcLEnds pmLEnds anLEnds cdLEnds ctLEnds), slLEnds⟩)
    (cLEnds : PySem.W.codeIn K cdLEnds "_law_ends" = true) (kLEnds : PySem.W.keepIn K (.ref fLEnds) = true)
    (aLDue : PySem.W.nsIn K mainGlobals "_law_due" = some (some (.ref fLDue)))
    (lLDue : K.lookup fLDue = some ⟨ocLDue, odLDue, .func (PySem.W.fnOf "_law_due" "_law_due" (defArgs sLDue) (defBody sLDue) (defScope sLDue) .none kVLDue dcLDue pmLDue anLDue cdLDue ctLDue), slLDue⟩)
    (cLDue : PySem.W.codeIn K cdLDue "_law_due" = true) (kLDue : PySem.W.keepIn K (.ref fLDue) = true)
    (aLRight : PySem.W.nsIn K mainGlobals "_law_right" = some (some (.ref fLRight)))
    (lLRight : K.lookup fLRight = some ⟨ocLRight, odLRight, .func (PySem.W.fnOf "_law_right" "_law_right" (defArgs sLRight) (defBody sLRight) (defScope sLRight) .none kVLRight dcLRight pmLRight anLRight cdLRight ctLRight), slLRight⟩)
    (cLRight : PySem.W.codeIn K cdLRight "_law_right" = true) (kLRight : PySem.W.keepIn K (.ref fLRight) = true)
    (aLNear : PySem.W.nsIn K mainGlobals "_law_near" = some (some (.ref fLNear)))
    (lLNear : K.lookup fLNear = some ⟨ocLNear, odLNear, .func (PySem.W.fnOf "_law_near" "_law_near" (defArgs sLNear) (defBody sLNear) (defScope sLNear) .none kVLNear dcLNear pmLNear anLNear cdLNear ctLNear), slLNear⟩)
    (cLNear : PySem.W.codeIn K cdLNear "_law_near" = true) (kLNear : PySem.W.keepIn K (.ref fLNear) = true)
    (aLaw : PySem.W.nsIn K mainGlobals "law" = some (some (.ref fLaw)))
    (lLaw : K.lookup fLaw = some ⟨ocLaw, odLaw, .func (PySem.W.fnOf "law" "law" (defArgs sLaw) (defBody sLaw) (defScope sLaw) .none kVLaw dcLaw pmLaw anLaw cdLaw ctLaw), slLaw⟩)
    (cLaw : PySem.W.codeIn K cdLaw "law" = true) (kLaw : PySem.W.keepIn K (.ref fLaw) = true)
    (z_all : PySem.W.nsIn K mainGlobals "all" = some none)
    (z_any : PySem.W.nsIn K mainGlobals "any" = some none)
    (z_dict : PySem.W.nsIn K mainGlobals "dict" = some none)
    (z_int : PySem.W.nsIn K mainGlobals "int" = some none)
    (z_isinstance : PySem.W.nsIn K mainGlobals "isinstance" = some none)
    (z_len : PySem.W.nsIn K mainGlobals "len" = some none)
    (z_list : PySem.W.nsIn K mainGlobals "list" = some none)
    (z_max : PySem.W.nsIn K mainGlobals "max" = some none)
    (z_min : PySem.W.nsIn K mainGlobals "min" = some none)
    (z_range : PySem.W.nsIn K mainGlobals "range" = some none)
    (z_repr : PySem.W.nsIn K mainGlobals "repr" = some none)
    (z_set : PySem.W.nsIn K mainGlobals "set" = some none)
    (z_sorted : PySem.W.nsIn K mainGlobals "sorted" = some none)
    (z_str : PySem.W.nsIn K mainGlobals "str" = some none)
    (z_sum : PySem.W.nsIn K mainGlobals "sum" = some none)
    (z_tuple : PySem.W.nsIn K mainGlobals "tuple" = some none)
    (q_FEWEST_CHOICES : PySem.W.nsIn K mainGlobals "FEWEST_CHOICES" = some (some (.int 2 tFEWEST_CHOICES)))
    (q_MOST_CALLS : PySem.W.nsIn K mainGlobals "MOST_CALLS" = some (some (.int 5 tMOST_CALLS)))
    (q_MOST_CALLS_TO_RETURN : PySem.W.nsIn K mainGlobals "MOST_CALLS_TO_RETURN" = some (some (.int 12 tMOST_CALLS_TO_RETURN)))
    (q_MOST_CHOICES : PySem.W.nsIn K mainGlobals "MOST_CHOICES" = some (some (.int 4 tMOST_CHOICES)))
    (q_MOST_FUNCTIONS : PySem.W.nsIn K mainGlobals "MOST_FUNCTIONS" = some (some (.int 6 tMOST_FUNCTIONS)))
    (q_MOST_ITEMS : PySem.W.nsIn K mainGlobals "MOST_ITEMS" = some (some (.int 12 tMOST_ITEMS)))
    (q_MOST_LETTERS : PySem.W.nsIn K mainGlobals "MOST_LETTERS" = some (some (.int 8 tMOST_LETTERS)))
    (q_MOST_LEVELS : PySem.W.nsIn K mainGlobals "MOST_LEVELS" = some (some (.int 4 tMOST_LEVELS))) :
    ∃ fd : FuncData, (∀ (s : Shared) (v : Value), BindsTo s fd ⟨[v], []⟩ [("script", v)]) ∧ ∀ base : Heap, FA.SysB base → K.In base → base.Ns mainGlobals mg → FnG P w K mg base 17 fa fd ["script"] (spLaw (K := K)) := by
  have e := hfa.symm.trans (PySem.W.mg_of X G aLaw)
  cases e
  have FBodiesWithin := fun_mk (st := sBodiesWithin) lBodiesWithin cBodiesWithin kBodiesWithin
  have bBodiesWithin := FBodiesWithin.binds (ps := ["item"]) fun _ _ _ _ _ _ us hl => match us, hl with | [_], _ => rfl
  have FOneBehindOther := fun_mk (st := sOneBehindOther) lOneBehindOther cOneBehindOther kOneBehindOther
  have bOneBehindOther := FOneBehindOther.binds (ps := ["plan", "other"]) fun _ _ _ _ _ _ us hl => match us, hl with | [_, _], _ => rfl
  have FOneOrOther := fun_mk (st := sOneOrOther) lOneOrOther cOneOrOther kOneOrOther
  have bOneOrOther := FOneOrOther.binds (ps := ["plan", "other"]) fun _ _ _ _ _ _ us hl => match us, hl with | [_, _], _ => rfl
  have FPlanOfItem := fun_mk (st := sPlanOfItem) lPlanOfItem cPlanOfItem kPlanOfItem
  have bPlanOfItem := FPlanOfItem.binds (ps := ["item", "number"]) fun _ _ _ _ _ _ us hl => match us, hl with | [_, _], _ => rfl
  have FPlanOfBody := fun_mk (st := sPlanOfBody) lPlanOfBody cPlanOfBody kPlanOfBody
  have bPlanOfBody := FPlanOfBody.binds (ps := ["body", "number"]) fun _ _ _ _ _ _ us hl => match us, hl with | [_, _], _ => rfl
  have FNetOf := fun_mk (st := sNetOf) lNetOf cNetOf kNetOf
  have bNetOf := FNetOf.binds (ps := ["body"]) fun _ _ _ _ _ _ us hl => match us, hl with | [_], _ => rfl
  have FStatesAfter := fun_mk (st := sStatesAfter) lStatesAfter cStatesAfter kStatesAfter
  have bStatesAfter := FStatesAfter.binds (ps := ["net", "states", "name"]) fun _ _ _ _ _ _ us hl => match us, hl with | [_, _, _], _ => rfl
  have FStatesBehind := fun_mk (st := sStatesBehind) lStatesBehind cStatesBehind kStatesBehind
  have bStatesBehind := FStatesBehind.binds (ps := ["net", "word"]) fun _ _ _ _ _ _ us hl => match us, hl with | [_, _], _ => rfl
  have FIsName := fun_mk (st := sIsName) lIsName cIsName kIsName
  have bIsName := FIsName.binds (ps := ["value"]) fun _ _ _ _ _ _ us hl => match us, hl with | [_], _ => rfl
  have FIsFunction := fun_mk (st := sIsFunction) lIsFunction cIsFunction kIsFunction
  have bIsFunction := FIsFunction.binds (ps := ["program", "value"]) fun _ _ _ _ _ _ us hl => match us, hl with | [_, _], _ => rfl
  have FChoices := fun_mk (st := sChoices) lChoices cChoices kChoices
  have bChoices := FChoices.binds (ps := ["item"]) fun _ _ _ _ _ _ us hl => match us, hl with | [_], _ => rfl
  have FItemSize := fun_mk (st := sItemSize) lItemSize cItemSize kItemSize
  have bItemSize := FItemSize.binds (ps := ["program", "item", "level"]) fun _ _ _ _ _ _ us hl => match us, hl with | [_, _, _], _ => rfl
  have FBodySize := fun_mk (st := sBodySize) lBodySize cBodySize kBodySize
  have bBodySize := FBodySize.binds (ps := ["program", "body", "level"]) fun _ _ _ _ _ _ us hl => match us, hl with | [_, _, _], _ => rfl
  have FLeastInItem := fun_mk (st := sLeastInItem) lLeastInItem cLeastInItem kLeastInItem
  have bLeastInItem := FLeastInItem.binds (ps := ["least", "item"]) fun _ _ _ _ _ _ us hl => match us, hl with | [_, _], _ => rfl
  have FLeastInBody := fun_mk (st := sLeastInBody) lLeastInBody cLeastInBody kLeastInBody
  have bLeastInBody := FLeastInBody.binds (ps := ["least", "body"]) fun _ _ _ _ _ _ us hl => match us, hl with | [_, _], _ => rfl
  have FLeastCalls := fun_mk (st := sLeastCalls) lLeastCalls cLeastCalls kLeastCalls
  have bLeastCalls := FLeastCalls.binds (ps := ["program"]) fun _ _ _ _ _ _ us hl => match us, hl with | [_], _ => rfl
  have FIsProgram := fun_mk (st := sIsProgram) lIsProgram cIsProgram kIsProgram
  have bIsProgram := FIsProgram.binds (ps := ["value"]) fun _ _ _ _ _ _ us hl => match us, hl with | [_], _ => rfl
  have FCheckProgram := fun_mk (st := sCheckProgram) lCheckProgram cCheckProgram kCheckProgram
  have bCheckProgram := FCheckProgram.binds (ps := ["program"]) fun _ _ _ _ _ _ us hl => match us, hl with | [_], _ => rfl
  have FCheckName := fun_mk (st := sCheckName) lCheckName cCheckName kCheckName
  have bCheckName := FCheckName.binds (ps := ["program", "name"]) fun _ _ _ _ _ _ us hl => match us, hl with | [_, _], _ => rfl
  have FCheckWord := fun_mk (st := sCheckWord) lCheckWord cCheckWord kCheckWord
  have bCheckWord := FCheckWord.binds (ps := ["program", "word"]) fun _ _ _ _ _ _ us hl => match us, hl with | [_, _], _ => rfl
  have FIsWord := fun_mk (st := sIsWord) lIsWord cIsWord kIsWord
  have bIsWord := FIsWord.binds (ps := ["program", "name", "word"]) fun _ _ _ _ _ _ us hl => match us, hl with | [_, _, _], _ => rfl
  have FIsStart := fun_mk (st := sIsStart) lIsStart cIsStart kIsStart
  have bIsStart := FIsStart.binds (ps := ["program", "name", "word"]) fun _ _ _ _ _ _ us hl => match us, hl with | [_, _, _], _ => rfl
  have FLWell := fun_mk (st := sLWell) lLWell cLWell kLWell
  have bLWell := FLWell.binds (ps := ["script", "k"]) fun _ _ _ _ _ _ us hl => match us, hl with | [_, _], _ => rfl
  have FLPull := fun_mk (st := sLPull) lLPull cLPull kLPull
  have bLPull := FLPull.binds (ps := ["well", "many"]) fun _ _ _ _ _ _ us hl => match us, hl with | [_, _], _ => rfl
  have FLShuffled := fun_mk (st := sLShuffled) lLShuffled cLShuffled kLShuffled
  have bLShuffled := FLShuffled.binds (ps := ["well", "items"]) fun _ _ _ _ _ _ us hl => match us, hl with | [_, _], _ => rfl
  have FLItem := fun_mk (st := sLItem) lLItem cLItem kLItem
  have bLItem := FLItem.binds (ps := ["well", "later", "every", "room", "deep"]) fun _ _ _ _ _ _ us hl => match us, hl with | [_, _, _, _, _], _ => rfl
  have FLBody := fun_mk (st := sLBody) lLBody cLBody kLBody
  have bLBody := FLBody.binds (ps := ["well", "later", "every", "room", "deep"]) fun _ _ _ _ _ _ us hl => match us, hl with | [_, _, _, _, _], _ => rfl
  have FLCost := fun_mk (st := sLCost) lLCost cLCost kLCost
  have bLCost := FLCost.binds (ps := ["body", "least"]) fun _ _ _ _ _ _ us hl => match us, hl with | [_, _], _ => rfl
  have FLProgram := fun_mk (st := sLProgram) lLProgram cLProgram kLProgram
  have bLProgram := FLProgram.binds (ps := ["well", "most"]) fun _ _ _ _ _ _ us hl => match us, hl with | [_, _], _ => rfl
  have FLChosen := fun_mk (st := sLChosen) lLChosen cLChosen kLChosen
  have bLChosen := FLChosen.binds (ps := ["well", "body", "often"]) fun _ _ _ _ _ _ us hl => match us, hl with | [_, _, _], _ => rfl
  have FLEnds := fun_mk (st := sLEnds) lLEnds cLEnds kLEnds
  have bLEnds := FLEnds.binds (ps := ["body", "word", "starts", "seen"]) fun _ _ _ _ _ _ us hl => match us, hl with | [_, _, _, _], _ => rfl
  have FLDue := fun_mk (st := sLDue) lLDue cLDue kLDue
  have bLDue := FLDue.binds (ps := ["body", "word"]) fun _ _ _ _ _ _ us hl => match us, hl with | [_, _], _ => rfl
  have FLRight := fun_mk (st := sLRight) lLRight cLRight kLRight
  have bLRight := FLRight.binds (ps := ["program", "name", "word"]) fun _ _ _ _ _ _ us hl => match us, hl with | [_, _, _], _ => rfl
  have FLNear := fun_mk (st := sLNear) lLNear cLNear kLNear
  have bLNear := FLNear.binds (ps := ["well", "program", "word"]) fun _ _ _ _ _ _ us hl => match us, hl with | [_, _, _], _ => rfl
  have FLaw := fun_mk (st := sLaw) lLaw cLaw kLaw
  have bLaw := FLaw.binds (ps := ["script"]) fun _ _ _ _ _ _ us hl => match us, hl with | [_], _ => rfl
  let T : Txt K mg := {
    aBodiesWithin := _, fBodiesWithin := _, FBodiesWithin := FBodiesWithin, bBodiesWithin := bBodiesWithin, gBodiesWithin := PySem.W.mg_of X G aBodiesWithin,
    aOneBehindOther := _, fOneBehindOther := _, FOneBehindOther := FOneBehindOther, bOneBehindOther := bOneBehindOther, gOneBehindOther := PySem.W.mg_of X G aOneBehindOther,
    aOneOrOther := _, fOneOrOther := _, FOneOrOther := FOneOrOther, bOneOrOther := bOneOrOther, gOneOrOther := PySem.W.mg_of X G aOneOrOther,
    aPlanOfItem := _, fPlanOfItem := _, FPlanOfItem := FPlanOfItem, bPlanOfItem := bPlanOfItem, gPlanOfItem := PySem.W.mg_of X G aPlanOfItem,
    aPlanOfBody := _, fPlanOfBody := _, FPlanOfBody := FPlanOfBody, bPlanOfBody := bPlanOfBody, gPlanOfBody := PySem.W.mg_of X G aPlanOfBody,
    aNetOf := _, fNetOf := _, FNetOf := FNetOf, bNetOf := bNetOf, gNetOf := PySem.W.mg_of X G aNetOf,
    aStatesAfter := _, fStatesAfter := _, FStatesAfter := FStatesAfter, bStatesAfter := bStatesAfter, gStatesAfter := PySem.W.mg_of X G aStatesAfter,
    aStatesBehind := _, fStatesBehind := _, FStatesBehind := FStatesBehind, bStatesBehind := bStatesBehind, gStatesBehind := PySem.W.mg_of X G aStatesBehind,
    aIsName := _, fIsName := _, FIsName := FIsName, bIsName := bIsName, gIsName := PySem.W.mg_of X G aIsName,
    aIsFunction := _, fIsFunction := _, FIsFunction := FIsFunction, bIsFunction := bIsFunction, gIsFunction := PySem.W.mg_of X G aIsFunction,
    aChoices := _, fChoices := _, FChoices := FChoices, bChoices := bChoices, gChoices := PySem.W.mg_of X G aChoices,
    aItemSize := _, fItemSize := _, FItemSize := FItemSize, bItemSize := bItemSize, gItemSize := PySem.W.mg_of X G aItemSize,
    aBodySize := _, fBodySize := _, FBodySize := FBodySize, bBodySize := bBodySize, gBodySize := PySem.W.mg_of X G aBodySize,
    aLeastInItem := _, fLeastInItem := _, FLeastInItem := FLeastInItem, bLeastInItem := bLeastInItem, gLeastInItem := PySem.W.mg_of X G aLeastInItem,
    aLeastInBody := _, fLeastInBody := _, FLeastInBody := FLeastInBody, bLeastInBody := bLeastInBody, gLeastInBody := PySem.W.mg_of X G aLeastInBody,
    aLeastCalls := _, fLeastCalls := _, FLeastCalls := FLeastCalls, bLeastCalls := bLeastCalls, gLeastCalls := PySem.W.mg_of X G aLeastCalls,
    aIsProgram := _, fIsProgram := _, FIsProgram := FIsProgram, bIsProgram := bIsProgram, gIsProgram := PySem.W.mg_of X G aIsProgram,
    aCheckProgram := _, fCheckProgram := _, FCheckProgram := FCheckProgram, bCheckProgram := bCheckProgram, gCheckProgram := PySem.W.mg_of X G aCheckProgram,
    aCheckName := _, fCheckName := _, FCheckName := FCheckName, bCheckName := bCheckName, gCheckName := PySem.W.mg_of X G aCheckName,
    aCheckWord := _, fCheckWord := _, FCheckWord := FCheckWord, bCheckWord := bCheckWord, gCheckWord := PySem.W.mg_of X G aCheckWord,
    aIsWord := _, fIsWord := _, FIsWord := FIsWord, bIsWord := bIsWord, gIsWord := PySem.W.mg_of X G aIsWord,
    aIsStart := _, fIsStart := _, FIsStart := FIsStart, bIsStart := bIsStart, gIsStart := PySem.W.mg_of X G aIsStart,
    aLWell := _, fLWell := _, FLWell := FLWell, bLWell := bLWell, gLWell := PySem.W.mg_of X G aLWell,
    aLPull := _, fLPull := _, FLPull := FLPull, bLPull := bLPull, gLPull := PySem.W.mg_of X G aLPull,
    aLShuffled := _, fLShuffled := _, FLShuffled := FLShuffled, bLShuffled := bLShuffled, gLShuffled := PySem.W.mg_of X G aLShuffled,
    aLItem := _, fLItem := _, FLItem := FLItem, bLItem := bLItem, gLItem := PySem.W.mg_of X G aLItem,
    aLBody := _, fLBody := _, FLBody := FLBody, bLBody := bLBody, gLBody := PySem.W.mg_of X G aLBody,
    aLCost := _, fLCost := _, FLCost := FLCost, bLCost := bLCost, gLCost := PySem.W.mg_of X G aLCost,
    aLProgram := _, fLProgram := _, FLProgram := FLProgram, bLProgram := bLProgram, gLProgram := PySem.W.mg_of X G aLProgram,
    aLChosen := _, fLChosen := _, FLChosen := FLChosen, bLChosen := bLChosen, gLChosen := PySem.W.mg_of X G aLChosen,
    aLEnds := _, fLEnds := _, FLEnds := FLEnds, bLEnds := bLEnds, gLEnds := PySem.W.mg_of X G aLEnds,
    aLDue := _, fLDue := _, FLDue := FLDue, bLDue := bLDue, gLDue := PySem.W.mg_of X G aLDue,
    aLRight := _, fLRight := _, FLRight := FLRight, bLRight := bLRight, gLRight := PySem.W.mg_of X G aLRight,
    aLNear := _, fLNear := _, FLNear := FLNear, bLNear := bLNear, gLNear := PySem.W.mg_of X G aLNear,
    aLaw := _, fLaw := _, FLaw := FLaw, bLaw := bLaw, gLaw := PySem.W.mg_of X G aLaw,
    n_all := PySem.W.mg_none_of X G z_all,
    n_any := PySem.W.mg_none_of X G z_any,
    n_dict := PySem.W.mg_none_of X G z_dict,
    n_int := PySem.W.mg_none_of X G z_int,
    n_isinstance := PySem.W.mg_none_of X G z_isinstance,
    n_len := PySem.W.mg_none_of X G z_len,
    n_list := PySem.W.mg_none_of X G z_list,
    n_max := PySem.W.mg_none_of X G z_max,
    n_min := PySem.W.mg_none_of X G z_min,
    n_range := PySem.W.mg_none_of X G z_range,
    n_repr := PySem.W.mg_none_of X G z_repr,
    n_set := PySem.W.mg_none_of X G z_set,
    n_sorted := PySem.W.mg_none_of X G z_sorted,
    n_str := PySem.W.mg_none_of X G z_str,
    n_sum := PySem.W.mg_none_of X G z_sum,
    n_tuple := PySem.W.mg_none_of X G z_tuple,
    t_FEWEST_CHOICES := tFEWEST_CHOICES, c_FEWEST_CHOICES := PySem.W.mg_of X G q_FEWEST_CHOICES,
    t_MOST_CALLS := tMOST_CALLS, c_MOST_CALLS := PySem.W.mg_of X G q_MOST_CALLS,
    t_MOST_CALLS_TO_RETURN := tMOST_CALLS_TO_RETURN, c_MOST_CALLS_TO_RETURN := PySem.W.mg_of X G q_MOST_CALLS_TO_RETURN,
    t_MOST_CHOICES := tMOST_CHOICES, c_MOST_CHOICES := PySem.W.mg_of X G q_MOST_CHOICES,
    t_MOST_FUNCTIONS := tMOST_FUNCTIONS, c_MOST_FUNCTIONS := PySem.W.mg_of X G q_MOST_FUNCTIONS,
    t_MOST_ITEMS := tMOST_ITEMS, c_MOST_ITEMS := PySem.W.mg_of X G q_MOST_ITEMS,
    t_MOST_LETTERS := tMOST_LETTERS, c_MOST_LETTERS := PySem.W.mg_of X G q_MOST_LETTERS,
    t_MOST_LEVELS := tMOST_LEVELS, c_MOST_LEVELS := PySem.W.mg_of X G q_MOST_LEVELS }
  refine ⟨PySem.W.fnOf "law" "law" (defArgs sLaw) (defBody sLaw) (defScope sLaw) .none kVLaw dcLaw pmLaw anLaw cdLaw ctLaw, fun s v => .of_eq rfl, fun base sy _ _ => ?_⟩
  exact okLaw (P := P) (w := w) (base := base) T sy
end K05
open PySem PySem.W PyProof.Rows
set_option maxRecDepth 100000 in
set_option maxHeartbeats 0 in
theorem PySem.Challenge.cw_stacksamples_k05_starts_of_functions_holds : PySem.Challenge.rw_stacksamples_k05_starts_of_functions.Holds := by
  w_on; o_law; k_head; (case hw => w_witness2)
  k_fill
  refine FA.walk_ofG (l := PySem.Challenge.rw_stacksamples_k05_starts_of_functions) (n := 63) (k := 17) (x := "script") (sp := fun K => K05.spLaw (K := K)) rfl (by decide) (by decide +kernel) rfl ⟨rfl, by decide, by decide⟩ (fun w h Y => PySem.W.kIn_of Y) ?F (fun _ _ a ns hl _ hS => ⟨a, ns, rfl, hS, hl, fun _ => rfl⟩)
  case F =>
    intro w mg fa h KX G hmg
    refine' K05.all_mk KX G hmg ?aBodiesWithin ?lBodiesWithin ?cBodiesWithin ?kBodiesWithin ?aOneBehindOther ?lOneBehindOther ?cOneBehindOther ?kOneBehindOther ?aOneOrOther ?lOneOrOther ?cOneOrOther ?kOneOrOther ?aPlanOfItem ?lPlanOfItem ?cPlanOfItem ?kPlanOfItem ?aPlanOfBody ?lPlanOfBody ?cPlanOfBody ?kPlanOfBody ?aNetOf ?lNetOf ?cNetOf ?kNetOf ?aStatesAfter ?lStatesAfter ?cStatesAfter ?kStatesAfter ?aStatesBehind ?lStatesBehind ?cStatesBehind ?kStatesBehind ?aIsName ?lIsName ?cIsName ?kIsName ?aIsFunction ?lIsFunction ?cIsFunction ?kIsFunction ?aChoices ?lChoices ?cChoices ?kChoices ?aItemSize ?lItemSize ?cItemSize ?kItemSize ?aBodySize ?lBodySize ?cBodySize ?kBodySize ?aLeastInItem ?lLeastInItem ?cLeastInItem ?kLeastInItem ?aLeastInBody ?lLeastInBody ?cLeastInBody ?kLeastInBody ?aLeastCalls ?lLeastCalls ?cLeastCalls ?kLeastCalls ?aIsProgram ?lIsProgram ?cIsProgram ?kIsProgram ?aCheckProgram ?lCheckProgram ?cCheckProgram ?kCheckProgram ?aCheckName ?lCheckName ?cCheckName ?kCheckName ?aCheckWord ?lCheckWord ?cCheckWord ?kCheckWord ?aIsWord ?lIsWord ?cIsWord ?kIsWord ?aIsStart ?lIsStart ?cIsStart ?kIsStart ?aLWell ?lLWell ?cLWell ?kLWell ?aLPull ?lLPull ?cLPull ?kLPull ?aLShuffled ?lLShuffled ?cLShuffled ?kLShuffled ?aLItem ?lLItem ?cLItem ?kLItem ?aLBody ?lLBody ?cLBody ?kLBody ?aLCost ?lLCost ?cLCost ?kLCost ?aLProgram ?lLProgram ?cLProgram ?kLProgram ?aLChosen ?lLChosen ?cLChosen ?kLChosen ?aLEnds ?lLEnds ?cLEnds ?kLEnds ?aLDue ?lLDue ?cLDue ?kLDue ?aLRight ?lLRight ?cLRight ?kLRight ?aLNear ?lLNear ?cLNear ?kLNear ?aLaw ?lLaw ?cLaw ?kLaw ?z_all ?z_any ?z_dict ?z_int ?z_isinstance ?z_len ?z_list ?z_max ?z_min ?z_range ?z_repr ?z_set ?z_sorted ?z_str ?z_sum ?z_tuple ?q_FEWEST_CHOICES ?q_MOST_CALLS ?q_MOST_CALLS_TO_RETURN ?q_MOST_CHOICES ?q_MOST_FUNCTIONS ?q_MOST_ITEMS ?q_MOST_LETTERS ?q_MOST_LEVELS
    (case aBodiesWithin => k_is); (case lBodiesWithin => k_is); (case cBodiesWithin => k_is); (case kBodiesWithin => k_is)
    (case aOneBehindOther => k_is); (case lOneBehindOther => k_is); (case cOneBehindOther => k_is); (case kOneBehindOther => k_is)
    (case aOneOrOther => k_is); (case lOneOrOther => k_is); (case cOneOrOther => k_is); (case kOneOrOther => k_is)
    (case aPlanOfItem => k_is); (case lPlanOfItem => k_is); (case cPlanOfItem => k_is); (case kPlanOfItem => k_is)
    (case aPlanOfBody => k_is); (case lPlanOfBody => k_is); (case cPlanOfBody => k_is); (case kPlanOfBody => k_is)
    (case aNetOf => k_is); (case lNetOf => k_is); (case cNetOf => k_is); (case kNetOf => k_is)
    (case aStatesAfter => k_is); (case lStatesAfter => k_is); (case cStatesAfter => k_is); (case kStatesAfter => k_is)
    (case aStatesBehind => k_is); (case lStatesBehind => k_is); (case cStatesBehind => k_is); (case kStatesBehind => k_is)
    (case aIsName => k_is); (case lIsName => k_is); (case cIsName => k_is); (case kIsName => k_is)
    (case aIsFunction => k_is); (case lIsFunction => k_is); (case cIsFunction => k_is); (case kIsFunction => k_is)
    (case aChoices => k_is); (case lChoices => k_is); (case cChoices => k_is); (case kChoices => k_is)
    (case aItemSize => k_is); (case lItemSize => k_is); (case cItemSize => k_is); (case kItemSize => k_is)
    (case aBodySize => k_is); (case lBodySize => k_is); (case cBodySize => k_is); (case kBodySize => k_is)
    (case aLeastInItem => k_is); (case lLeastInItem => k_is); (case cLeastInItem => k_is); (case kLeastInItem => k_is)
    (case aLeastInBody => k_is); (case lLeastInBody => k_is); (case cLeastInBody => k_is); (case kLeastInBody => k_is)
    (case aLeastCalls => k_is); (case lLeastCalls => k_is); (case cLeastCalls => k_is); (case kLeastCalls => k_is)
    (case aIsProgram => k_is); (case lIsProgram => k_is); (case cIsProgram => k_is); (case kIsProgram => k_is)
    (case aCheckProgram => k_is); (case lCheckProgram => k_is); (case cCheckProgram => k_is); (case kCheckProgram => k_is)
    (case aCheckName => k_is); (case lCheckName => k_is); (case cCheckName => k_is); (case kCheckName => k_is)
    (case aCheckWord => k_is); (case lCheckWord => k_is); (case cCheckWord => k_is); (case kCheckWord => k_is)
    (case aIsWord => k_is); (case lIsWord => k_is); (case cIsWord => k_is); (case kIsWord => k_is)
    (case aIsStart => k_is); (case lIsStart => k_is); (case cIsStart => k_is); (case kIsStart => k_is)
    (case aLWell => k_is); (case lLWell => k_is); (case cLWell => k_is); (case kLWell => k_is)
    (case aLPull => k_is); (case lLPull => k_is); (case cLPull => k_is); (case kLPull => k_is)
    (case aLShuffled => k_is); (case lLShuffled => k_is); (case cLShuffled => k_is); (case kLShuffled => k_is)
    (case aLItem => k_is); (case lLItem => k_is); (case cLItem => k_is); (case kLItem => k_is)
    (case aLBody => k_is); (case lLBody => k_is); (case cLBody => k_is); (case kLBody => k_is)
    (case aLCost => k_is); (case lLCost => k_is); (case cLCost => k_is); (case kLCost => k_is)
    (case aLProgram => k_is); (case lLProgram => k_is); (case cLProgram => k_is); (case kLProgram => k_is)
    (case aLChosen => k_is); (case lLChosen => k_is); (case cLChosen => k_is); (case kLChosen => k_is)
    (case aLEnds => k_is); (case lLEnds => k_is); (case cLEnds => k_is); (case kLEnds => k_is)
    (case aLDue => k_is); (case lLDue => k_is); (case cLDue => k_is); (case kLDue => k_is)
    (case aLRight => k_is); (case lLRight => k_is); (case cLRight => k_is); (case kLRight => k_is)
    (case aLNear => k_is); (case lLNear => k_is); (case cLNear => k_is); (case kLNear => k_is)
    (case aLaw => k_is); (case lLaw => k_is); (case cLaw => k_is); (case kLaw => k_is)
    (case z_all => k_is)
    (case z_any => k_is)
    (case z_dict => k_is)
    (case z_int => k_is)
    (case z_isinstance => k_is)
    (case z_len => k_is)
    (case z_list => k_is)
    (case z_max => k_is)
    (case z_min => k_is)
    (case z_range => k_is)
    (case z_repr => k_is)
    (case z_set => k_is)
    (case z_sorted => k_is)
    (case z_str => k_is)
    (case z_sum => k_is)
    (case z_tuple => k_is)
    (case q_FEWEST_CHOICES => k_is)
    (case q_MOST_CALLS => k_is)
    (case q_MOST_CALLS_TO_RETURN => k_is)
    (case q_MOST_CHOICES => k_is)
    (case q_MOST_FUNCTIONS => k_is)
    (case q_MOST_ITEMS => k_is)
    (case q_MOST_LETTERS => k_is)
    (case q_MOST_LEVELS => k_is)


