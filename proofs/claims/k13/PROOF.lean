import PyProof.Rows.All
import Wide.All
import OpenK.AllK
import Wide.FinOn
import HandS.ForMost
import HandS.Deep
import HandS.DictComp
import HandS.ListItems
import HandS.Wide
import HandS.IsInst
import HandS.Style
import HandS.SetFor
import PyProof.StrOps2
import PyProof.ReprRoads
import PyProof.ListStr
import HandS.TupAny
import PySem.Challenge.RW_stacksamples_k13_regions
set_option Elab.async false
set_option linter.all false
set_option maxRecDepth 100000
set_option maxHeartbeats 4000000
/-! What the hand layer lacked for these laws: powers of great numbers, a text repeated, list.count of data, repr of data (where nothing that shows itself is under way). -/
namespace FA
open PySem PySem.Spec PyProof.Rows L2

theorem bits_of {i : Int} {n : Nat} (h : i.natAbs < 2 ^ n) (h0 : 0 < n) : Builtin.Int.intBits i ≤ n := by
  have x := PySem.Flt.log2_lt_of h0 h
  unfold Builtin.Int.intBits
  split <;> omega
/-- i ** j, i below a million bits, j at most 100 -/
def CPowW (i j : Int) : Prop := 0 ≤ j ∧ j ≤ 100 ∧ i.natAbs < 2 ^ 1000000
/-- the text of n signs x -/
def exes (n : Nat) : Str := ⟨(List.replicate n 120).toArray⟩
section
variable {X : Cx}
theorem op_powW : OpR X (binaryOp .Pow) (rI CPowW fun i j => .int (i ^ j.toNat)) := opI fun i j _ _ _ _ _ hc q => by
  obtain ⟨h0, h1, h2⟩ := hc
  refine pow_int h0 ?_ q
  have b := bits_of h2 (by decide)
  have e : ((2 : Int) ^ 27) = 134217728 := by decide
  rw [e]
  have c : (Builtin.Int.intBits i : Int) * j ≤ 1000000 * 100 := Int.mul_le_mul (by omega) h1 h0 (by decide)
  omega
/-- 'x' * n -/
theorem op_mul_x : OpR X (binaryOp .Mult) (fun x y H Q => ∃ n : Nat, x = .str "x" ∧ y = .int (n : Int) ∧ 1 ≤ n ∧ n ≤ 4 ∧ Q (.str (exes n)) H) := by
  intro pins s σ H x y v u Q I rx ry h
  obtain ⟨n, rfl, rfl, h1, h2, q⟩ := h
  obtain ⟨t, rfl⟩ := rx
  obtain ⟨t', rfl⟩ := ry
  have hs := sizeLine_eq
  match n, h1, h2, q with
  | 1, _, _, q =>
    refine PySem.P.mul_str (by decide) (fun _ h => ?_) (fun _ h => ?_) ?_
    · exact absurd h (by decide)
    · exact absurd h (by decide)
    · rw [if_neg (by decide), if_pos (by decide)]
      exact ⟨.str "x", H, I, ⟨_, rfl⟩, q⟩
  | 2, _, _, q =>
    refine PySem.P.mul_str (by decide) (fun _ _ => by decide +kernel) (fun _ _ => by decide +kernel) ?_
    rw [if_neg (by decide), if_neg (by decide)]
    exact ⟨by decide +kernel, .str (exes 2), H, I.tok _, ⟨_, rfl⟩, q⟩
  | 3, _, _, q =>
    refine PySem.P.mul_str (by decide) (fun _ _ => by decide +kernel) (fun _ _ => by decide +kernel) ?_
    rw [if_neg (by decide), if_neg (by decide)]
    exact ⟨by decide +kernel, .str (exes 3), H, I.tok _, ⟨_, rfl⟩, q⟩
  | 4, _, _, q =>
    refine PySem.P.mul_str (by decide) (fun _ _ => by decide +kernel) (fun _ _ => by decide +kernel) ?_
    rw [if_neg (by decide), if_neg (by decide)]
    exact ⟨by decide +kernel, .str (exes 4), H, I.tok _, ⟨_, rfl⟩, q⟩
/-- xs.count(y), data of any depth -/
def rCountD (K : PySem.W.Frag) : V → List V → Hp → VK → Prop := fun x xs H Q => ∃ (a : Addr) (y : V) (d : PyData) (ds : List PyData), x = V.ref a ∧ xs = [y] ∧ Dp K H (V.ref a) (.list ds) ∧ Dp K H y d ∧
  SeqAt.shaped (.list ds) = true ∧ SeqAt.shaped d = true ∧ Q (.int (ds.countP (fun z => PyData.eqv z d) : Nat)) H
theorem mt_countD (hu : X.A.units + 65 < cLine) : MtR X "list.count" (rCountD X.K) := by
  intro pins s σ H x xs v us Q I rx rxs h
  obtain ⟨a, y, d, ds, rfl, rfl, hl, hy, sl, sd, q⟩ := h
  cases rx
  obtain ⟨uy, rfl, ry⟩ := rxs.one
  obtain ⟨bs, r1⟩ := Dp.reads I d y uy hy ry
  have lay : PyData.canLayAll0 ds = true := SeqAt.canLay_of_shaped sl
  have room : X.A.units + 1 + min (PyData.depthAll ds) d.depth < cLine := room_in_shaped sd hu
  cases hl with
  | lst hs ha =>
    obtain ⟨its, rv, ⟨⟨cls, dd, data, sls⟩, n, ho, hc, hdn, hdt⟩, hlen⟩ := I.list hs
    simp only at hc hdt
    subst hc hdt
    obtain ⟨as, h4⟩ := Dp.readsAll I ds _ its ha rv
    have hmap : its.map (SeqAt.readOf s.heap) = ds := SeqAt.readsAll_map ds its as lay h4
    refine call_meets PySem.F.slot_list_count ⟨_, ho, rfl⟩ PySem.F.entry_list_count (PySem.F.args_list_count_2 _ _)
      (SeqAt.list_countAt a its.toArray n dd sls uy (fun u => PyData.eqv (SeqAt.readOf s.heap u) d)) ⟨ho, SeqAt.items_eqAt (vs := its.toArray) (show ReadsAll s.heap its.toArray.toList ds as from h4) r1 lay (SeqAt.canLay_of_shaped sd) room, ?_⟩
    have e : its.toArray.toList.countP (fun u => PyData.eqv (SeqAt.readOf s.heap u) d) = ds.countP (fun z => PyData.eqv z d) := by
      rw [← hmap, List.countP_map]
      rfl
    rw [e]
    exact ⟨.int _, H, I.tok _, ⟨s.toks, rfl⟩, q⟩
end

/-! ### data with dicts within -/
def kD : Key → PyData
  | .inl i => .int i
  | .inr x => .str x
mutual
inductive Dd (K : PySem.W.Frag) (H : Hp) : V → PyData → Prop
  | non : Dd K H .non .none
  | bl (b : Bool) : Dd K H (.bl b) (.bool b)
  | int (i : Int) : Dd K H (.int i) (.int i)
  | str (x : Str) : Dd K H (.str x) (.str x)
  | lst {a : Addr} {xs : List V} {ds : List PyData} : H a = some (.lst xs) → DdAll K H xs ds → Dd K H (.ref a) (.list ds)
  | tup {a : Addr} {xs : List V} {ds : List PyData} : H a = some (.tup xs) → DdAll K H xs ds → Dd K H (.ref a) (.tuple ds)
  | dic {a : Addr} {kvs : List (Key × V)} {ds : List PyData} : Rd H a (.dK kvs) → DdAll K H (kvs.map (·.2)) ds → Dd K H (.ref a) (.dict ((kvs.map fun p => kD p.1).zip ds))
inductive DdAll (K : PySem.W.Frag) (H : Hp) : List V → List PyData → Prop
  | nil : DdAll K H [] []
  | cons {v : V} {vs : List V} {d : PyData} {ds : List PyData} : Dd K H v d → DdAll K H vs ds → DdAll K H (v :: vs) (d :: ds)
end
theorem DdAll.length {K : PySem.W.Frag} {H : Hp} : ∀ {vs : List V} {ds : List PyData}, DdAll K H vs ds → vs.length = ds.length
  | _, _, .nil => rfl
  | _, _, .cons _ t => congrArg (· + 1) t.length
/-- where the modules' own dict stands, something stands from the start -/
def SysB (base : Heap) : Prop := ∃ o : Obj, base.get? sysModules = some o
section
variable {X : Cx} {pins : List (Addr × Obj)} {σ : L2.St} {H : Hp} {s : Shared}
theorem key_reads (k : Key) {v : Value} (h : keyIs k v = true) (hp : Heap) : Reads hp v (kD k) [] := by
  rcases keyIs_shape h with ⟨i, t, rfl, rfl⟩ | ⟨x, t, rfl, rfl⟩
  · exact Reads.int i t
  · exact Reads.str x t
theorem pairs_split {P : Program} {w : World} : ∀ {kvs : List (Key × V)} {vs : List (Key × Value)} {es : List DictEntry}, KV kvs vs → Pairs (mixKind P w) es vs →
    Vals (kvs.map (·.2)) (es.map (·.val)) ∧ ∀ h : Heap, ReadsAll h (es.map (·.key)) (kvs.map fun p => kD p.1) []
  | _, _, _, .nil, .nil => ⟨.nil, fun _ => .nil⟩
  | p :: kvs, q :: vs, e :: es, .cons r rt, .cons hk hv ht => by
    obtain ⟨i1, i2⟩ := pairs_split rt ht
    refine ⟨.cons (by show L2.RelV p.2 e.val; rw [hv]; exact r.2) i1, fun hp => ?_⟩
    have a := key_reads p.1 (by rw [r.1]; exact hk) hp
    exact ReadsAll.cons (as := []) (bs := []) a (i2 hp)
theorem not_sys {a : Addr} {u : HO} (I : L2.Inv X pins σ H s) (S : SysB X.base) (e : H a = some u) : sysModules ≠ a := fun z => by
  obtain ⟨o, ho⟩ := S
  have q := (I.bs _ _ ho).2
  rw [z, e] at q
  cases q
mutual
theorem Dd.reads (I : L2.Inv X pins σ H s) (S : SysB X.base) : ∀ (v : V) (d : PyData) (u : Value), Dd X.K H v d → L2.RelV v u → ∃ as, Reads s.heap u d as ∧ sysModules ∉ as
  | _, _, _, .non, r => by cases r; exact ⟨_, Reads.none, by simp⟩
  | _, _, _, .bl b, r => by cases r; exact ⟨_, Reads.bool b, by simp⟩
  | _, _, _, .int i, r => by obtain ⟨t, rfl⟩ := r; exact ⟨_, Reads.int i t, by simp⟩
  | _, _, _, .str x, r => by obtain ⟨t, rfl⟩ := r; exact ⟨_, Reads.str x t, by simp⟩
  | _, _, _, .lst e ha, r => by
    cases r
    obtain ⟨its, rv, ⟨o, n, ho, hc, _, hd⟩, _⟩ := I.list (SqL.of e)
    obtain ⟨as, hr, hn⟩ := DdAll.reads I S _ _ its ha rv
    refine ⟨_, Reads.list ho hc hd hr, ?_⟩
    simp only [List.mem_cons, not_or]
    exact ⟨not_sys I S e, hn⟩
  | _, _, _, .tup e ha, r => by
    cases r
    obtain ⟨its, rv, ⟨o, ho, hc, n, hd⟩, _⟩ := I.tuple (SqT.of e)
    obtain ⟨as, hr, hn⟩ := DdAll.reads I S _ _ its ha rv
    exact ⟨_, Reads.tuple ho hc hd hr, hn⟩
  | _, _, _, @Dd.dic _ _ a kvs ds e ha, r => by
    cases r
    obtain ⟨hz, hs, vs, kv, o, es, ep, ho, hx, hd, hk, hp, hn⟩ := dk_rd I.hok e
    obtain ⟨q1, q2⟩ := pairs_split kv hp
    obtain ⟨bs, hr, hb⟩ := DdAll.reads I S _ _ _ ha q1
    have hl : (kvs.map fun p => kD p.1).length = ds.length := by
      have := ha.length
      simpa using this
    refine ⟨a :: [] ++ bs, Reads.dict ho hx.1 hd (by rw [List.map_fst_zip (Nat.le_of_eq hl)]; exact q2 s.heap) (by rw [List.map_snd_zip (Nat.le_of_eq hl.symm)]; exact hr), ?_⟩
    simp only [List.cons_append, List.nil_append, List.mem_cons, not_or]
    exact ⟨fun z => by rw [z] at hs; simp at hs, hb⟩
theorem DdAll.reads (I : L2.Inv X pins σ H s) (S : SysB X.base) : ∀ (vs : List V) (ds : List PyData) (us : List Value), DdAll X.K H vs ds → Vals vs us → ∃ as, ReadsAll s.heap us ds as ∧ sysModules ∉ as
  | _, _, _, .nil, r => by cases r; exact ⟨_, ReadsAll.nil, by simp⟩
  | _, _, _, .cons h1 h2, r => by
    cases r with
    | cons r1 r2 =>
      obtain ⟨as, q1, n1⟩ := Dd.reads I S _ _ _ h1 r1
      obtain ⟨bs, q2, n2⟩ := DdAll.reads I S _ _ _ h2 r2
      exact ⟨_, ReadsAll.cons q1 q2, by simp [n1, n2]⟩
end
end
section
variable {X : Cx}
/-- repr(x), x a list, a tuple, a dict: where nothing that shows itself is under way -/
def rReprD (K : PySem.W.Frag) : List V → Hp → VK → Prop := fun xs H Q => ∃ (a : Addr) (d : PyData), xs = [.ref a] ∧ Dd K H (.ref a) d ∧ d.showable = true ∧ d.depth ≤ 60 ∧ d.shown.length ≤ sizeLine ∧ Q (.str d.shown) H
theorem call_reprD (S : SysB X.base) (hg : X.A.guards = some []) (hu : X.A.units + 64 < cLine) : CallR X (.builtin "repr") (rReprD X.K) := by
  intro pins s σ H xs us Q I r h
  obtain ⟨a, d, rfl, hd, hs, hdp, hz, q⟩ := h
  obtain ⟨u, rfl, ru⟩ := r.one
  cases ru
  obtain ⟨as, hr, hn⟩ := Dd.reads I S _ _ _ hd rfl
  refine repr_of_reads' hr hs (fun _ => hn) hg (by omega) (fun _ _ e => e) (fun h' t tk hk => ?_) hz
  exact ⟨.str _, H, I.kept hk, ⟨_, rfl⟩, q⟩
end
end FA

set_option Elab.async false
set_option linter.all false
set_option maxRecDepth 100000
set_option maxHeartbeats 4000000
/-! Defs that are called where nothing shows itself (no repr is under way). -/
namespace FA
open PySem PySem.Spec PyProof.Rows L2
/-- the promise of a def that is called where no repr is under way -/
structure FnG (P : Program) (w : World) (K : PySem.W.Frag) (mg : Str → Option Value) (base : Heap) (k : Nat) (f : Addr) (fd : FuncData) (ps : List Str) (sp : Sp) : Prop where
  len : ∀ vs H Q E, sp vs H Q E → vs.length = ps.length
  run : ∀ (A : Around), A.guards = some [] → ∀ (outer : List Env) (s : Shared) (H : Hp) (args : Args) (us : List Value) (vs : List V) (Q : VK) (E : XK), Room k A → Env0 P w K mg base A outer s H → BindsTo s fd args (ps.zip us) →
    Vals vs us → sp vs H Q E → codeAny (model P w) A (.call (.ref f) args) (CR CX0 outer P w H s Q E) s
theorem FnG.mono {P : Program} {w : World} {K : PySem.W.Frag} {mg : Str → Option Value} {base : Heap} {j k : Nat} {f : Addr} {fd : FuncData} {ps : List Str} {sp : Sp} (F : FnG P w K mg base j f fd ps sp) (h : j ≤ k) : FnG P w K mg base k f fd ps sp :=
  ⟨F.len, fun A g outer s H args us vs Q E r => F.run A g outer s H args us vs Q E (r.mono h)⟩
section
variable {P : Program} {w : World} {K : PySem.W.Frag} {mg : Str → Option Value} {base : Heap}
theorem okG {x qual : Str} {st : Stmt} {f : Addr} {fd : FuncData} {N ps : List Str} {k : Nat} {sp : Sp} (F : Fun K x qual st f fd) (S : FnScope N ps (defScope st)) (len : ∀ vs H Q E, sp vs H Q E → vs.length = ps.length)
    (body : ∀ (cdv : Value) (A : Around), A.guards = some [] → ∀ (outer : List Env) (s : Shared) (H : Hp) (vs : List V) (Q : VK) (E : XK), Room k (A.deeper (envOfC qual (defScope st) s.heap.objs.size f cdv)) → sp vs H Q E →
      ∃ t, PSs (cxOf CX0 P w K mg base N qual (defScope st) f cdv A outer s H E).nox (defBody st) t ∧ t { nx := fun _ H' => Q .non H', rt := Q } (start N vs) H) : FnG P w K mg base (k + 1) f fd ps sp := by
  obtain ⟨oc, od, kV, doc, pm, an, cdv, ct, osl, rfl, lk, hcd⟩ := F.ex
  refine ⟨len, fun A g outer s H args us vs Q E hr e0 hb r hsp => ?_⟩
  have kin : K.In s.heap := e0.mod.kin.keeps fun b o e => (e0.bs b o e).1
  have nol : s.heap.NoLimit := e0.mod.nolimit.keeps fun b o e => (e0.bs b o e).1
  have pk : ∀ y ∈ ps.zip us, (defScope st).names.lookup y.1 = some .local ∨ ((defScope st).names.lookup y.1 = some .cell ∧ ((cellsFrom (s.heap.objs.size + 1) (defScope st).names []).lookup y.1).isSome = true) := by
    rintro ⟨n, v⟩ hy
    rcases S.par n (List.of_mem_zip hy).1 with q | q
    · exact .inl q
    · exact .inr ⟨q, PySem.W.cellsFrom_some _ _ _ (.inl q)⟩
  refine codeAny_call_function hr.depth (kin _ _ lk) rfl S.co S.gen rfl (PySem.W.codeRec_of kin hcd) (hb _ _ _ _ (wpAny_newFunctionEnv_cells S.kind pk fun env he s1 x => ?_))
  subst he
  refine ⟨nol.keeps x.toInCall.keep, codeAny_func ?_⟩
  obtain ⟨t, ht, hq⟩ := body cdv A g outer s H vs Q E (hr.deeper _) hsp
  have I := inv_start (CX := CX0) (E := E) S hr.hd e0 (len _ _ _ _ hsp) r x
  refine wpAny_mono (ht.nox.run [] s1 (start N vs) H _ I hq) (fun fl s' hs => ?_) fun e s' hs => hs
  cases fl with
  | ret u =>
    obtain ⟨v, σ', H', J, rv, q⟩ := hs
    exact ⟨v, H', J.os, J.bare, J.base, J.hok, rv, q⟩
  | next =>
    obtain ⟨σ', H', J, q⟩ := hs
    exact ⟨V.non, H', J.os, J.bare, J.base, J.hok, rfl, q⟩
  | brk =>
    obtain ⟨_, _, _, q⟩ := hs
    exact False.elim q
  | cont =>
    obtain ⟨_, _, _, q⟩ := hs
    exact False.elim q
end
section
variable {X : Cx} {k : Nat} {f : Addr} {fd : FuncData} {ps : List Str} {sp : Sp} {x : Str} {p pos : Pos} {e : Expr} {es : List Expr} {t : TA}
theorem pe_callG (F : FnG X.prog X.w X.K X.mg X.base k f fd ps sp) (g : X.A.guards = some []) (hr : Room k X.A) (hg : Gl X x) (hm : X.mg x = some (.ref f)) (hk : PySem.W.keepIn X.K (.ref f) = true) (hb : Binds X.K fd ps []) (ha : PA X (e :: es) t)
    (hdb : (x == ("__debug__" : Str)) = false := by decide) (he : starEach (e :: es) X.env = (false, eval e X.env) :: starEach es X.env := by rfl) (hpl : (backTo pos (starEach es X.env)).any (·.1) = false := by rfl) :
    PE X (.Call (.Name x p) (e :: es) [] pos) (tCall sp [] E0 t) := by
  refine ⟨fun pins s σ H Q I h => wpAny_Call_Name_kw (ld_glob I hg hm ?_ hdb)⟩
  refine PySem.W.callWith_K (h₀ := X.base) I.ok.mod.kin hk (thn (ha.run pos pins s σ H _ I h) fun us s1 hh => ?_) he hpl
  obtain ⟨vs, H1, I1, r, q⟩ := hh
  refine ⟨I1.kIn, ?_⟩
  rw [List.append_nil] at q
  have hl : us.length = ps.length := by rw [← r.length]; exact F.len _ _ _ _ q
  have bb := hb s1 us I1.kIn (by rw [List.append_nil]; exact hl)
  rw [List.append_nil] at bb
  refine wpAny_call (codeAny_mono (F.run X.A g X.stack s1 H1 ⟨us, []⟩ us vs Q E0 hr I1.env0 bb r q) fun r s' hq => ?_)
  cases r with
  | error e => exact False.elim hq
  | ok fl =>
    cases fl with
    | ret u => exact I1.after hq
    | next => exact False.elim hq
    | brk => exact False.elim hq
    | cont => exact False.elim hq
end
end FA

set_option Elab.async false
set_option linter.all false
set_option maxRecDepth 100000
set_option maxHeartbeats 4000000
/-! The law's end for such a def. -/
namespace FA
open PySem PySem.Spec PyProof.Rows L2
/-- the script, known to its object; nothing else -/
noncomputable def hpS (K : PySem.W.Frag) (a : Addr) (vs : List Value) (ns : List Int) : Hp := fun b =>
  if b = a ∧ K.lookup a = none then some (.frz { cls := .type "list", data := .seq vs.toArray } (.lst (ns.map V.int))) else none
section
variable {K : PySem.W.Frag} {a b : Addr} {vs : List Value} {ns : List Int}
theorem hpS_some {o : HO} (h : hpS K a vs ns b = some o) : b = a ∧ K.lookup a = none ∧ o = .frz { cls := .type "list", data := .seq vs.toArray } (.lst (ns.map V.int)) := by
  unfold hpS at h
  split at h
  · rename_i c
    cases h
    exact ⟨c.1, c.2, rfl⟩
  · cases h
theorem hpS_none (h : b ≠ a ∨ K.lookup a ≠ none) : hpS K a vs ns b = none := by
  cases q : hpS K a vs ns b with
  | none => rfl
  | some o =>
    obtain ⟨e1, e2, _⟩ := hpS_some q
    rcases h with h | h
    · exact absurd e1 h
    · exact absurd e2 h
theorem hpS_only : Only (hpS K a vs ns) := fun b => by
  cases q : hpS K a vs ns b with
  | none => exact .inl rfl
  | some o =>
    obtain ⟨_, _, e⟩ := hpS_some q
    exact .inr ⟨_, _, by rw [e]⟩
end
theorem law_callG {P : Program} {w : World} {K : PySem.W.Frag} {mg mb : Str → Option Value} {k : Nat} {fa a : Addr} {fd : FuncData} {x : Str} {sp : Sp} {s₁ : Shared} {vs : List Value} {ns : List Int}
    (KX : K.In s₁.heap) (hns : s₁.heap.Ns mainGlobals mg) (hb : s₁.heap.Ns builtinsNs mb) (hbb : ∀ x : Str, x ≠ "__name__" → mb x = bootBuiltins x) (hlim : s₁.heap.NoLimit) (hg : s₁.gens = #[])
    (hz : ∃ mm, s₁.heap.Ns sysModules mm) (ha : s₁.heap.get? a = some { cls := .type "list", data := .seq vs.toArray }) (hi : IntsAre vs ns) (hl : ns.length ≤ sizeLine) (hr : Room k callerA)
    (F : ∀ base : Heap, SysB base → K.In base → base.Ns mainGlobals mg → FnG P w K mg base k fa fd [x] sp) (hbind : ∀ (s : Shared) (u : Value), BindsTo s fd ⟨[u], []⟩ [(x, u)])
    (hsp : ∀ H : Hp, Only H → SqL K H a (ns.map V.int) → sp [.ref a] H (fun v _ => v = .bl true) fun _ _ _ => False) :
    codeAny (model P w) callerA (.call (.ref fa) ⟨[.ref a], []⟩) (fun r s' => r = .ok (.ret (.bool true)) ∧ OldK s₁.heap s'.heap ∧ s'.os = s₁.os ∧ AllBare s'.gens) s₁ := by
  have rv := vals_ints hi
  have lv := hi.length
  -- a dict of the heap is no list: it is not tracked
  have dictFree : ∀ {b : Addr} {o : Obj} {es : Array DictEntry} {ep : Nat}, s₁.heap.get? b = some o → o.data = .dict es ep → hpS K a vs ns b = none := fun {b o es ep} e d => by
    refine hpS_none (.inl fun z => ?_)
    rw [z, ha] at e
    cases e
    cases d
  have nsB : ∀ {b : Addr} {m : Str → Option Value}, s₁.heap.Ns b m → (hidT s₁.heap (hpS K a vs ns)).Ns b m := by
    rintro b m ⟨o, es, ep, e, d, r⟩
    exact ⟨o, es, ep, hidT_get e (dictFree e d), d, r⟩
  have kB : K.In (hidT s₁.heap (hpS K a vs ns)) := fun b o e => hidT_get (KX b o e) (by
    by_cases z : b = a
    · subst z
      exact hpS_none (.inr (by rw [e]; simp))
    · exact hpS_none (.inl z))
  have md : Mod K mg (hidT s₁.heap (hpS K a vs ns)) := by
    obtain ⟨mc, h1, h2⟩ := hlim
    exact ⟨kB, nsB hns, ⟨mb, nsB hb, hbb⟩, mc, nsB h1, h2⟩
  have ok : HOk P w (hpS K a vs ns) s₁.heap := fun b o e => by
    obtain ⟨rfl, _, rfl⟩ := hpS_some e
    exact ⟨ha, by rw [List.length_map]; exact hl, vs, _, rv, ha⟩
  have sq : SqL K (hpS K a vs ns) a (ns.map V.int) := by
    cases q : K.lookup a with
    | none => exact .inl (.inr ⟨_, if_pos ⟨rfl, q⟩⟩)
    | some o =>
      have e := KX a o q
      rw [ha] at e
      cases e
      exact .inr ⟨_, vs.toArray, _, q, rfl, rfl, rfl, by rw [List.size_toArray, lv]; exact hl, by simpa using rv⟩
  have e0 : Env0 P w K mg (hidT s₁.heap (hpS K a vs ns)) callerA [] s₁ (hpS K a vs ns) := by
    refine ⟨rfl, md, fun b o e => of_hidT e, Nat.le_of_eq (hidT_size _ _), trivial, fun b z => ?_, ok, .of_eq hg⟩
    cases z
  obtain ⟨mm, hz⟩ := hz
  have sB : SysB (hidT s₁.heap (hpS K a vs ns)) := let ⟨o, _, _, e, _⟩ := nsB hz; ⟨o, e⟩
  refine codeAny_mono ((F _ sB kB (nsB hns)).run callerA rfl [] s₁ _ ⟨[.ref a], []⟩ [.ref a] [.ref a] _ _ hr e0 (hbind s₁ (.ref a)) (.cons rfl .nil) (hsp _ hpS_only sq)) fun r s' h => ?_
  cases r with
  | error e => exact False.elim h
  | ok fl =>
    cases fl with
    | next => exact False.elim h
    | brk => exact False.elim h
    | cont => exact False.elim h
    | ret u =>
      obtain ⟨v, H', os, bare, un, ok', r', q⟩ := h
      have q' : v = .bl true := q
      subst q'
      cases r'
      refine ⟨rfl, OldK.of_keep fun b o e => ?_, os, bare⟩
      cases q : hpS K a vs ns b with
      | none => exact un.keep b o e q (by intro z; cases z) (by intro z; cases z)
      | some u =>
        obtain ⟨rfl, _, rfl⟩ := hpS_some q
        obtain ⟨e1, _⟩ := ok b _ q
        obtain ⟨e2, _⟩ := ok' b _ (un.frzs b _ _ q)
        rw [e] at e1
        cases e1
        exact e2
theorem walk_ofG {l : PySem.W.OpenLaw} {n k : Nat} {q : Program} {loose : List Str} {XP : (Str → Option Value) → Heap → Prop} {YP : World → Heap → Prop} {d : DefRec} {K : Params → PySem.W.Frag} {sp : PySem.W.Frag → Sp} {x : Str}
    (hn : l.most = some n) (hn2 : n ≤ sizeLine) (hq : importsNone q = true) (hdf : d.params.defaults = []) (hr : Room k callerA) (hY : ∀ (w : World) (h : Heap), YP w h → (K w.params).In h)
    (F : ∀ (w : World) (mg : Str → Option Value) (fa : Addr) (h : Heap), (K w.params).In h → h.Ns mainGlobals mg → mg d.name = some (.ref fa) →
      ∃ fd : FuncData, (∀ (s : Shared) (u : Value), BindsTo s fd ⟨[u], []⟩ [(x, u)]) ∧ ∀ base : Heap, SysB base → (K w.params).In base → base.Ns mainGlobals mg → FnG l.prog w (K w.params) mg base k fa fd [x] (sp (K w.params)))
    (hsp : ∀ (K : PySem.W.Frag) (H : Hp) (a : Addr) (ns : List Int), ns.length ≤ n → Only H → SqL K H a (ns.map V.int) → sp K [.ref a] H (fun v _ => v = .bl true) fun _ _ _ => False) :
    PySem.W.WalkO q loose XP YP l.row.toRowW d [] (fun f vs => PySem.call f vs) := by
  refine Att.attach_call hn hdf fun w s₀ s₁ mg mb fa o pm cd doc a vs ns G Y ho hd hcd hmg hobj hints hlen hg => ?_
  have KX := hY w _ Y
  obtain ⟨fd, hb, hF⟩ := F w mg fa _ KX G.T.g hmg
  exact law_callG KX G.T.g G.T.b G.T.builtins G.T.nolimit hg (let ⟨mm, h, _⟩ := (G.T.seer hq).mods; ⟨mm, h⟩) hobj hints (Nat.le_trans hlen hn2) hr hF hb fun H hO hS => hsp (K w.params) H a ns hlen hO hS
end FA

set_option Elab.async false
set_option linter.all false
set_option maxRecDepth 100000
/-! Bodies and programs as plain data, and their mathematics. -/
namespace FA
open PySem
/-- an item of a body -/
inductive It where
  | call (x : Str)
  | may (b : List It)
  | loop (b : List It)
  | one (bs : List (List It))
abbrev Bd := List It
mutual
def nC : It → Nat
  | .call _ => 1
  | .may b => nCB b
  | .loop b => nCB b
  | .one bs => nCBs bs
def nCB : List It → Nat
  | [] => 0
  | i :: r => nC i + nCB r
def nCBs : List (List It) → Nat
  | [] => 0
  | b :: r => nCB b + nCBs r
end
mutual
def nI : It → Nat
  | .call _ => 0
  | .may b => nIB b
  | .loop b => nIB b
  | .one bs => nIBs bs
def nIB : List It → Nat
  | [] => 0
  | i :: r => (1 + nI i) + nIB r
def nIBs : List (List It) → Nat
  | [] => 0
  | b :: r => nIB b + nIBs r
end
mutual
/-- how deep an item goes below the body in which it stands; how deep a body is, 1 at least -/
def dI : It → Nat
  | .call _ => 0
  | .may b => dB b
  | .loop b => dB b
  | .one bs => dBs bs
def dB : List It → Nat
  | [] => 1
  | i :: r => max (1 + dI i) (dB r)
def dBs : List (List It) → Nat
  | [] => 0
  | b :: r => max (dB b) (dBs r)
end
mutual
def okI (ns : List Str) : It → Prop
  | .call x => x ∈ ns
  | .may b => b ≠ [] ∧ okB ns b
  | .loop b => b ≠ [] ∧ okB ns b
  | .one bs => 2 ≤ bs.length ∧ bs.length ≤ 4 ∧ bs.countP (fun b => b.isEmpty) ≤ 1 ∧ okBs ns bs
def okB (ns : List Str) : List It → Prop
  | [] => True
  | i :: r => okI ns i ∧ okB ns r
def okBs (ns : List Str) : List (List It) → Prop
  | [] => True
  | b :: r => okB ns b ∧ okBs ns r
end
def minL : List Int → Int
  | [] => 0
  | [x] => x
  | x :: y :: r => min x (minL (y :: r))
mutual
/-- the least number of calls, f telling that of each function -/
def cost (f : Str → Int) : It → Int
  | .call x => f x
  | .may _ => 0
  | .loop _ => 0
  | .one bs => minL (costBs f bs)
def costB (f : Str → Int) : List It → Int
  | [] => 0
  | i :: r => cost f i + costB f r
def costBs (f : Str → Int) : List (List It) → List Int
  | [] => []
  | b :: r => costB f b :: costBs f r
end
theorem costBs_map (f : Str → Int) : ∀ bs : List (List It), costBs f bs = bs.map (costB f)
  | [] => by simp only [costBs, List.map_nil]
  | b :: r => by simp only [costBs, List.map_cons, costBs_map f r]
theorem costB_sum (f : Str → Int) : ∀ b : List It, costB f b = (b.map (cost f)).sum
  | [] => by simp only [costB, List.map_nil, List.sum_nil]
  | i :: r => by simp only [costB, List.map_cons, List.sum_cons, costB_sum f r]
theorem okB_all {ns : List Str} : ∀ {b : List It}, okB ns b ↔ ∀ i ∈ b, okI ns i
  | [] => by simp [okB]
  | i :: r => by simp only [okB, List.forall_mem_cons, okB_all]
theorem okBs_all {ns : List Str} : ∀ {bs : List (List It)}, okBs ns bs ↔ ∀ b ∈ bs, okB ns b
  | [] => by simp [okBs]
  | b :: r => by simp only [okBs, List.forall_mem_cons, okBs_all]
theorem minL_mem : ∀ {l : List Int}, l ≠ [] → minL l ∈ l
  | [x], _ => by simp [minL]
  | x :: y :: r, _ => by
    have ih := minL_mem (l := y :: r) (by simp)
    simp only [minL]
    by_cases h : x ≤ minL (y :: r)
    · rw [Int.min_eq_left h]; simp
    · rw [Int.min_eq_right (by omega)]; exact List.mem_cons_of_mem _ ih
theorem minL_le : ∀ {l : List Int} {y : Int}, y ∈ l → minL l ≤ y
  | [x], y, h => by simp at h; simp [minL, h]
  | x :: z :: r, y, h => by
    simp only [minL]
    rcases List.mem_cons.mp h with rfl | h
    · exact Int.min_le_left _ _
    · exact Int.le_trans (Int.min_le_right _ _) (minL_le h)
theorem minL_unique {l : List Int} {m : Int} (h1 : m ∈ l) (h2 : ∀ y ∈ l, m ≤ y) : m = minL l := by
  have hn : l ≠ [] := List.ne_nil_of_mem h1
  exact Int.le_antisymm (h2 _ (minL_mem hn)) (minL_le h1)
/-! ### costs: not negative, rising with f, and cut alike -/
mutual
theorem cost_nn {f : Str → Int} (hf : ∀ x, 0 ≤ f x) : ∀ i : It, 0 ≤ cost f i
  | .call x => by simp only [cost]; exact hf x
  | .may _ => by simp only [cost]; omega
  | .loop _ => by simp only [cost]; omega
  | .one bs => by
    simp only [cost]
    cases bs with
    | nil => simp [costBs, minL]
    | cons b r =>
      have h := minL_mem (l := costBs f (b :: r)) (by simp [costBs])
      exact costBs_nn hf (b :: r) _ h
theorem costB_nn {f : Str → Int} (hf : ∀ x, 0 ≤ f x) : ∀ b : List It, 0 ≤ costB f b
  | [] => by simp [costB]
  | i :: r => by
    have h1 := cost_nn hf i
    have h2 := costB_nn hf r
    simp only [costB]; omega
theorem costBs_nn {f : Str → Int} (hf : ∀ x, 0 ≤ f x) : ∀ bs : List (List It), ∀ y ∈ costBs f bs, 0 ≤ y
  | [], y, h => by simp [costBs] at h
  | b :: r, y, h => by
    simp only [costBs, List.mem_cons] at h
    rcases h with rfl | h
    · exact costB_nn hf b
    · exact costBs_nn hf r y h
end
/-- two lists, place by place -/
def le2 : List Int → List Int → Prop
  | [], [] => True
  | x :: r, y :: s => x ≤ y ∧ le2 r s
  | _, _ => False
theorem minL_le2 : ∀ {l m : List Int}, le2 l m → minL l ≤ minL m
  | [], [], _ => Int.le_refl _
  | [x], [y], h => h.1
  | x :: x' :: r, y :: y' :: s, h => by
    have ih := minL_le2 (l := x' :: r) (m := y' :: s) h.2
    have h1 := h.1
    simp only [minL]; omega
  | [_], _ :: _ :: _, h => h.2.elim
  | _ :: _ :: _, [_], h => h.2.elim
  | [], _ :: _, h => h.elim
  | _ :: _, [], h => h.elim
mutual
theorem cost_le {f g : Str → Int} (h : ∀ x, f x ≤ g x) : ∀ i : It, cost f i ≤ cost g i
  | .call x => by simp only [cost]; exact h x
  | .may _ => by simp only [cost]; omega
  | .loop _ => by simp only [cost]; omega
  | .one bs => by simp only [cost]; exact minL_le2 (costBs_le h bs)
theorem costB_le {f g : Str → Int} (h : ∀ x, f x ≤ g x) : ∀ b : List It, costB f b ≤ costB g b
  | [] => by simp [costB]
  | i :: r => by
    have h1 := cost_le h i
    have h2 := costB_le h r
    simp only [costB]; omega
theorem costBs_le {f g : Str → Int} (h : ∀ x, f x ≤ g x) : ∀ bs : List (List It), le2 (costBs f bs) (costBs g bs)
  | [] => by simp [costBs, le2]
  | b :: r => by simp only [costBs, le2]; exact ⟨costB_le h b, costBs_le h r⟩
end
/-- cut at c, place by place -/
def cut2 (c : Int) : List Int → List Int → Prop
  | [], [] => True
  | x :: r, y :: s => min c x = min c y ∧ cut2 c r s
  | _, _ => False
theorem minL_cut {c : Int} : ∀ {l m : List Int}, cut2 c l m → min c (minL l) = min c (minL m)
  | [], [], _ => rfl
  | [x], [y], h => h.1
  | x :: x' :: r, y :: y' :: s, h => by
    have ih := minL_cut (l := x' :: r) (m := y' :: s) h.2
    have h1 := h.1
    simp only [minL]; omega
  | [_], _ :: _ :: _, h => h.2.elim
  | _ :: _ :: _, [_], h => h.2.elim
  | [], _ :: _, h => h.elim
  | _ :: _, [], h => h.elim
mutual
theorem cost_cut {c : Int} {f g : Str → Int} (hf : ∀ x, 0 ≤ f x) (hg : ∀ x, 0 ≤ g x) (h : ∀ x, min c (f x) = min c (g x)) : ∀ i : It, min c (cost f i) = min c (cost g i)
  | .call x => by simp only [cost]; exact h x
  | .may _ => by simp only [cost]
  | .loop _ => by simp only [cost]
  | .one bs => by simp only [cost]; exact minL_cut (costBs_cut hf hg h bs)
theorem costB_cut {c : Int} {f g : Str → Int} (hf : ∀ x, 0 ≤ f x) (hg : ∀ x, 0 ≤ g x) (h : ∀ x, min c (f x) = min c (g x)) : ∀ b : List It, min c (costB f b) = min c (costB g b)
  | [] => by simp [costB]
  | i :: r => by
    have h1 := cost_cut hf hg h i
    have h2 := costB_cut hf hg h r
    have a1 := cost_nn hf i
    have a2 := cost_nn hg i
    have a3 := costB_nn hf r
    have a4 := costB_nn hg r
    simp only [costB]; omega
theorem costBs_cut {c : Int} {f g : Str → Int} (hf : ∀ x, 0 ≤ f x) (hg : ∀ x, 0 ≤ g x) (h : ∀ x, min c (f x) = min c (g x)) : ∀ bs : List (List It), cut2 c (costBs f bs) (costBs g bs)
  | [] => by simp [costBs, cut2]
  | b :: r => by simp only [costBs, cut2]; exact ⟨costB_cut hf hg h b, costBs_cut hf hg h r⟩
end
/-! ### programs -/
abbrev Pr := List (Str × Bd)
def bodyOf (p : Pr) (x : Str) : Bd := (p.lookup x).getD []
/-- the round k of the least calls, cut at c -/
def rnd (c : Int) (p : Pr) : Nat → Str → Int
  | 0, _ => c
  | k + 1, x => min c (1 + costB (rnd c p k) (bodyOf p x))
theorem rnd_nn {c : Int} (hc : 0 ≤ c) (p : Pr) : ∀ k x, 0 ≤ rnd c p k x
  | 0, _ => hc
  | k + 1, x => by
    have h := costB_nn (f := rnd c p k) (rnd_nn hc p k) (bodyOf p x)
    simp only [rnd]; omega
theorem rnd_le {c : Int} (p : Pr) : ∀ k x, rnd c p k x ≤ c
  | 0, _ => Int.le_refl _
  | k + 1, x => by simp only [rnd]; exact Int.min_le_left _ _
theorem rnd_cut {c d : Int} (hc : 0 ≤ c) (hcd : c ≤ d) (p : Pr) : ∀ k x, min c (rnd d p k x) = rnd c p k x
  | 0, x => by simp only [rnd]; omega
  | k + 1, x => by
    have h := costB_cut (c := c) (f := rnd d p k) (g := rnd c p k) (rnd_nn (by omega) p k) (rnd_nn hc p k) (fun y => by
      have := rnd_cut hc hcd p k y
      have := rnd_le (c := c) p k y
      omega) (bodyOf p x)
    have a1 := costB_nn (f := rnd d p k) (rnd_nn (by omega) p k) (bodyOf p x)
    have a2 := costB_nn (f := rnd c p k) (rnd_nn hc p k) (bodyOf p x)
    simp only [rnd]; omega
theorem rnd_down {c : Int} (p : Pr) : ∀ k x, rnd c p (k + 1) x ≤ rnd c p k x
  | 0, x => by simp only [rnd]; exact Int.min_le_left _ _
  | k + 1, x => by
    have h := costB_le (f := rnd c p (k + 1)) (g := rnd c p k) (rnd_down p k) (bodyOf p x)
    simp only [rnd] at h ⊢; omega
theorem rnd_downs {c : Int} (p : Pr) (x : Str) : ∀ {j k : Nat}, j ≤ k → rnd c p k x ≤ rnd c p j x
  | j, 0, h => by have : j = 0 := by omega
                  subst this; exact Int.le_refl _
  | j, k + 1, h => by
    by_cases e : j = k + 1
    · rw [e]; exact Int.le_refl _
    · exact Int.le_trans (rnd_down p k x) (rnd_downs p x (by omega))
end FA

set_option Elab.async false
set_option linter.all false
set_option maxRecDepth 100000
set_option maxHeartbeats 4000000
/-! How bodies and programs lie in the heap. -/
namespace FA
open PySem PySem.Spec PyProof.Rows L2
/-- the heap without some addresses -/
def wo (W : List Addr) (H : Hp) : Hp := fun b => if b ∈ W then none else H b
theorem wo_some {W : List Addr} {H : Hp} {b : Addr} {o : HO} : wo W H b = some o ↔ b ∉ W ∧ H b = some o := by
  unfold wo
  by_cases h : b ∈ W
  · simp [h]
  · simp [h]
theorem wo_nil {H : Hp} : wo [] H = H := by funext b; simp [wo]
/-- all but what stands at W is as it was -/
def Sm (W : List Addr) (H H' : Hp) : Prop := ∀ b o, b ∉ W → H b = some o → H' b = some o
theorem Sm.refl (W : List Addr) (H : Hp) : Sm W H H := fun _ _ _ h => h
theorem Sm.trans {W : List Addr} {H H1 H2 : Hp} (a : Sm W H H1) (b : Sm W H1 H2) : Sm W H H2 := fun c o n h => b c o n (a c o n h)
theorem Sm.of_same {W : List Addr} {H H' : Hp} (h : Same H H') : Sm W H H' := fun b o _ e => h b o e
theorem Sm.same {W : List Addr} {H H' : Hp} (h : Sm W H H') : Same (wo W H) (wo W H') := fun b o e => by
  rw [wo_some] at e ⊢
  exact ⟨e.1, h b o e.1 e.2⟩
theorem Sm.nil {H H' : Hp} (h : Sm [] H H') : Same H H' := fun b o e => h b o (by simp) e
theorem Sm.more {W W' : List Addr} {H H' : Hp} (h : Sm W H H') (s : ∀ b ∈ W, b ∈ W') : Sm W' H H' := fun b o n e => h b o (fun z => n (s b z)) e
/-- what is new needs no leave -/
theorem Sm.drop {r : Addr} {W : List Addr} {H H1 H2 : Hp} (h0 : Sm W H H1) (hr : H r = none) (h : Sm (r :: W) H1 H2) : Sm W H H2 := fun b o n e =>
  h b o (by
    simp only [List.mem_cons, not_or]
    exact ⟨ne_of_none e hr, n⟩) (h0 b o n e)
theorem Sm.new {W : List Addr} {H : Hp} {p : Addr} {o : HO} (h : H p = none) : Sm W H (upd H p o) := fun b u _ e => by rw [upd_ne (ne_of_none e h)]; exact e
theorem Sm.at {W : List Addr} {H : Hp} {p : Addr} {o : HO} (h : p ∈ W) : Sm W H (upd H p o) := fun b u n e => by
  rw [upd_ne (fun z => n (by rw [z]; exact h))]; exact e
theorem Sm.none {W : List Addr} {H H' : Hp} {b : Addr} (h : Sm W H H') (n : b ∉ W) (e : H' b = none) : H b = none := by
  cases q : H b with
  | none => rfl
  | some o => rw [h b o n q] at e; cases e
mutual
inductive ItAt (H : Hp) : V → It → Prop
  | call (x : Str) : ItAt H (.str x) (.call x)
  | may {t b : Addr} {vs : List V} {l : List It} : H t = some (.tup [.str "maybe", .ref b]) → H b = some (.lst vs) → ItsAt H vs l → ItAt H (.ref t) (.may l)
  | loop {t b : Addr} {vs : List V} {l : List It} : H t = some (.tup [.str "loop", .ref b]) → H b = some (.lst vs) → ItsAt H vs l → ItAt H (.ref t) (.loop l)
  | one {t b : Addr} {vs : List V} {ls : List (List It)} : H t = some (.tup [.str "one", .ref b]) → H b = some (.lst vs) → BdsAt H vs ls → ItAt H (.ref t) (.one ls)
inductive ItsAt (H : Hp) : List V → List It → Prop
  | nil : ItsAt H [] []
  | cons {v : V} {i : It} {vs : List V} {l : List It} : ItAt H v i → ItsAt H vs l → ItsAt H (v :: vs) (i :: l)
inductive BdsAt (H : Hp) : List V → List (List It) → Prop
  | nil : BdsAt H [] []
  | cons {b : Addr} {vs : List V} {l : List It} {r : List V} {ls : List (List It)} : H b = some (.lst vs) → ItsAt H vs l → BdsAt H r ls → BdsAt H (.ref b :: r) (l :: ls)
end
/-- a body at b -/
def BdAt (H : Hp) (b : Addr) (l : List It) : Prop := ∃ vs, H b = some (.lst vs) ∧ ItsAt H vs l
/-- lists and tuples are kept -/
structure Kp (H H' : Hp) : Prop where
  l : ∀ a xs, H a = some (.lst xs) → H' a = some (.lst xs)
  t : ∀ a xs, H a = some (.tup xs) → H' a = some (.tup xs)
theorem Kp.of {H H' : Hp} (h : Same H H') : Kp H H' := ⟨fun _ _ e => h _ _ e, fun _ _ e => h _ _ e⟩
section
variable {H H' : Hp}
mutual
theorem ItAt.keep (k : Kp H H') : ∀ {v : V} {i : It}, ItAt H v i → ItAt H' v i
  | _, _, .call x => .call x
  | _, _, .may h1 h2 h3 => .may (k.t _ _ h1) (k.l _ _ h2) (ItsAt.keep k h3)
  | _, _, .loop h1 h2 h3 => .loop (k.t _ _ h1) (k.l _ _ h2) (ItsAt.keep k h3)
  | _, _, .one h1 h2 h3 => .one (k.t _ _ h1) (k.l _ _ h2) (BdsAt.keep k h3)
theorem ItsAt.keep (k : Kp H H') : ∀ {vs : List V} {l : List It}, ItsAt H vs l → ItsAt H' vs l
  | _, _, .nil => .nil
  | _, _, .cons h t => .cons (ItAt.keep k h) (ItsAt.keep k t)
theorem BdsAt.keep (k : Kp H H') : ∀ {vs : List V} {l : List (List It)}, BdsAt H vs l → BdsAt H' vs l
  | _, _, .nil => .nil
  | _, _, .cons h h2 t => .cons (k.l _ _ h) (ItsAt.keep k h2) (BdsAt.keep k t)
end
theorem BdAt.keep (k : Kp H H') {b : Addr} {l : List It} (h : BdAt H b l) : BdAt H' b l := let ⟨vs, h1, h2⟩ := h; ⟨vs, k.l _ _ h1, h2.keep k⟩
theorem ItsAt.length : ∀ {vs : List V} {l : List It}, ItsAt H vs l → vs.length = l.length
  | _, _, .nil => rfl
  | _, _, .cons _ t => congrArg (· + 1) t.length
theorem BdsAt.length : ∀ {vs : List V} {l : List (List It)}, BdsAt H vs l → vs.length = l.length
  | _, _, .nil => rfl
  | _, _, .cons _ _ t => congrArg (· + 1) t.length
theorem ItsAt.get : ∀ {vs : List V} {l : List It} {i : Nat} {v : V}, ItsAt H vs l → vs[i]? = some v → ∃ it, l[i]? = some it ∧ ItAt H v it
  | _, _, _, _, .nil, e => by simp at e
  | _, _, 0, _, .cons h _, e => by simp at e; subst e; exact ⟨_, rfl, h⟩
  | _, _, i + 1, _, .cons _ t, e => by
    obtain ⟨it, a, b⟩ := ItsAt.get (i := i) t (by simpa using e)
    exact ⟨it, by simpa using a, b⟩
theorem BdsAt.get : ∀ {vs : List V} {l : List (List It)} {i : Nat} {v : V}, BdsAt H vs l → vs[i]? = some v → ∃ b bd, v = .ref b ∧ l[i]? = some bd ∧ BdAt H b bd
  | _, _, _, _, .nil, e => by simp at e
  | _, _, 0, _, .cons h h2 _, e => by simp at e; subst e; exact ⟨_, _, rfl, rfl, _, h, h2⟩
  | _, _, i + 1, _, .cons _ _ t, e => by
    obtain ⟨b, bd, a, c, d⟩ := BdsAt.get (i := i) t (by simpa using e)
    exact ⟨b, bd, a, by simpa using c, d⟩
theorem ItsAt.append : ∀ {vs ws : List V} {l m : List It}, ItsAt H vs l → ItsAt H ws m → ItsAt H (vs ++ ws) (l ++ m)
  | _, _, _, _, .nil, b => b
  | _, _, _, _, .cons h t, b => .cons h (t.append b)
theorem BdsAt.append : ∀ {vs ws : List V} {l m : List (List It)}, BdsAt H vs l → BdsAt H ws m → BdsAt H (vs ++ ws) (l ++ m)
  | _, _, _, _, .nil, b => b
  | _, _, _, _, .cons h h2 t, b => .cons h h2 (t.append b)
theorem ItsAt.take (n : Nat) : ∀ {vs : List V} {l : List It}, ItsAt H vs l → ItsAt H (vs.take n) (l.take n) := by
  induction n with
  | zero => intro vs l _; simp; exact .nil
  | succ n ih =>
    intro vs l h
    cases h with
    | nil => simp; exact .nil
    | cons h t => simp only [List.take_succ_cons]; exact .cons h (ih t)
theorem BdsAt.take (n : Nat) : ∀ {vs : List V} {l : List (List It)}, BdsAt H vs l → BdsAt H (vs.take n) (l.take n) := by
  induction n with
  | zero => intro vs l _; simp; exact .nil
  | succ n ih =>
    intro vs l h
    cases h with
    | nil => simp; exact .nil
    | cons h h2 t => simp only [List.take_succ_cons]; exact .cons h h2 (ih t)
theorem BdsAt.drop (n : Nat) : ∀ {vs : List V} {l : List (List It)}, BdsAt H vs l → BdsAt H (vs.drop n) (l.drop n) := by
  induction n with
  | zero => intro vs l h; simpa using h
  | succ n ih =>
    intro vs l h
    cases h with
    | nil => simp; exact .nil
    | cons h h2 t => simp only [List.drop_succ_cons]; exact ih t
end
/-- the rows of a program's dict -/
inductive PrKv (H : Hp) : List (Key × V) → Pr → Prop
  | nil : PrKv H [] []
  | cons {x : Str} {b : Addr} {l : List It} {kvs : List (Key × V)} {p : Pr} : BdAt H b l → PrKv H kvs p → PrKv H ((.inr x, .ref b) :: kvs) ((x, l) :: p)
/-- a program at d -/
def PrAt (H : Hp) (d : Addr) (p : Pr) : Prop := ∃ kvs, Rd H d (.dK kvs) ∧ PrKv H kvs p
theorem PrKv.keep {H H' : Hp} (k : Kp H H') : ∀ {kvs : List (Key × V)} {p : Pr}, PrKv H kvs p → PrKv H' kvs p
  | _, _, .nil => .nil
  | _, _, .cons h t => .cons (h.keep k) (t.keep k)
theorem PrKv.length {H : Hp} : ∀ {kvs : List (Key × V)} {p : Pr}, PrKv H kvs p → kvs.length = p.length
  | _, _, .nil => rfl
  | _, _, .cons _ t => congrArg (· + 1) t.length
theorem PrKv.keys {H : Hp} : ∀ {kvs : List (Key × V)} {p : Pr}, PrKv H kvs p → kvs.map (·.1) = p.map fun q => Sum.inr q.1
  | _, _, .nil => rfl
  | _, _, .cons _ t => by simp only [List.map_cons, t.keys]
theorem PrKv.look {H : Hp} {x : Str} : ∀ {kvs : List (Key × V)} {p : Pr}, PrKv H kvs p → (p.lookup x = none ∧ valV kvs (.inr x) = none) ∨ ∃ l b, p.lookup x = some l ∧ valV kvs (.inr x) = some (.ref b) ∧ BdAt H b l
  | _, _, .nil => .inl ⟨rfl, rfl⟩
  | (.inr y, .ref b) :: kvs, (_, l) :: p, .cons h t => by
    by_cases e : x = y
    · subst e
      refine .inr ⟨l, b, by simp [List.lookup], by simp [valV], h⟩
    · have e1 : (x == y) = false := beq_eq_false_iff_ne.mpr e
      have e2 : ¬ (Sum.inr y : Key) = Sum.inr x := fun z => e (Sum.inr.inj z).symm
      rcases t.look (x := x) with ⟨h1, h2⟩ | ⟨l', b', h1, h2, h3⟩
      · refine .inl ⟨by simp [List.lookup, e1, h1], ?_⟩
        unfold valV at h2 ⊢
        rw [List.find?_cons_of_neg (by simpa using e2)]
        exact h2
      · refine .inr ⟨l', b', by simp [List.lookup, e1, h1], ?_, h3⟩
        unfold valV at h2 ⊢
        rw [List.find?_cons_of_neg (by simpa using e2)]
        exact h2
theorem PrAt.look {H : Hp} {d : Addr} {p : Pr} {x : Str} (h : PrAt H d p) : (p.lookup x = none ∧ DGet H d (.str x) none) ∨ ∃ l b, p.lookup x = some l ∧ DGet H d (.str x) (some (.ref b)) ∧ BdAt H b l := by
  obtain ⟨kvs, hd, hk⟩ := h
  rcases hk.look (x := x) with ⟨h1, h2⟩ | ⟨l, b, h1, h2, h3⟩
  · exact .inl ⟨h1, .inl ⟨kvs, .inr x, hd, rfl, h2.symm⟩⟩
  · exact .inr ⟨l, b, h1, .inl ⟨kvs, .inr x, hd, rfl, h2.symm⟩, h3⟩
end FA

set_option Elab.async false
set_option linter.all false
set_option maxRecDepth 100000
set_option maxHeartbeats 4000000
/-! Words for readings: isinstance, dicts under a walk, comprehensions whose element changes nothing that was there. -/
namespace FA
open PySem PySem.Spec PyProof.Rows L2
theorem isi_ty {K : PySem.W.Frag} {H : Hp} {x : V} {m n : String} {b : Bool} {Q : VK} (ht : TyX K H x (.type m)) (q : Q (.bl b) H) (hk : kitB m n = some b := by decide +kernel) : rIsi K [x, .ty n] H Q :=
  ⟨x, .ty n, _, _, b, rfl, .ty n, ht, kit_ty hk, q⟩
theorem ty_str {K : PySem.W.Frag} {H : Hp} (x : Str) : TyX K H (.str x) (.type "str") := .base (.str x)
theorem ty_dict {K : PySem.W.Frag} {H : Hp} {d : Addr} {kvs : List (Key × V)} (h : Rd H d (.dK kvs)) : TyX K H (.ref d) (.type "dict") := by
  rcases h with h | ⟨o, h⟩
  · exact .base (.dK h)
  · exact .fDict h
theorem ty_lst {K : PySem.W.Frag} {H : Hp} {d : Addr} {xs : List V} (h : H d = some (.lst xs)) : TyX K H (.ref d) (.type "list") := .base (.lst h)
theorem ty_tup {K : PySem.W.Frag} {H : Hp} {d : Addr} {xs : List V} (h : H d = some (.tup xs)) : TyX K H (.ref d) (.type "tuple") := .base (.tup h)
section
variable {X : Cx}
/-- len(d), d a dict, also while it is walked -/
theorem call_lenR : CallR X (.builtin "len") (fun xs H Q => ∃ d kvs, xs = [.ref d] ∧ Rd H d (.dK kvs) ∧ Q (.int (kvs.length : Nat)) H) := by
  intro pins s σ H xs us Q I r h
  obtain ⟨d, kvs, rfl, hd, q⟩ := h
  obtain ⟨u, rfl, ru⟩ := r.one
  cases ru
  exact d_len I hd fun t s' I' => ⟨.int kvs.length, H, I', ⟨t, rfl⟩, q⟩
/-- a walk over a dict: it is locked, or it is already -/
theorem pe_lock2 {e : Expr} {t : TE} (h : PE X e t) : PE X e (fun σ H Q => tLockE t σ H Q ∨ t σ H Q) := ⟨fun pins s σ H Q I hq => by
  rcases hq with hq | hq
  · exact (pe_lock h).run pins s σ H Q I hq
  · exact h.run pins s σ H Q I hq⟩
end
theorem same_upd0 {H : Hp} {p : Addr} (h : H p = none) (o : HO) : Same H (upd H p o) := fun b u e => by rw [upd_ne (ne_of_none e h)]; exact e
/-- the reading of such a walk that changes nothing which was there; N tells the value by what stands off d -/
theorem lock2 {t : TE} {σ : L2.St} {H : Hp} {Q : VK} {d : Addr} {kvs : List (Key × V)} (hd : Rd H d (.dK kvs)) (N : V → Hp → Prop) (hN : ∀ v H2 H3, (∀ b, b ≠ d → H3 b = H2 b) → N v H2 → N v H3)
    (body : ∀ (H1 : Hp) (od : Obj) (R : VK), H1 d = some (.frz od (.dK kvs)) → (∀ b, b ≠ d → H1 b = H b) → (∀ v H2, Same H1 H2 → N v H2 → R v H2) → t σ H1 R)
    (q : ∀ v H3, Same H H3 → N v H3 → Q v H3) : tLockE t σ H Q ∨ t σ H Q := by
  rcases hd with hd | ⟨od, hd⟩
  · refine .inl ⟨d, _, hd, trivial, fun od => body _ od _ upd_same (fun b hb => upd_ne hb) fun v H2 sm n => ⟨sm _ _ upd_same, q v _ (fun b o e => ?_) (hN v H2 _ (fun b hb => upd_ne hb) n)⟩⟩
    by_cases hb : b = d
    · subst hb; rw [hd] at e; cases e; exact upd_same
    · rw [upd_ne hb]; exact sm _ _ (by rw [upd_ne hb]; exact e)
  · exact .inr (body H od Q hd (fun _ _ => rfl) fun v H2 sm n => q v H2 sm n)
/-- a list comprehension whose element changes nothing that was there: G tells the j-th item, by the tuples that stand -/
theorem lcS {J : L2.It} {n : Nat} {g : TG} {te : TE} {vs : List Nat} {σ : L2.St} {H1 : Hp} {D : Addr} {Qd : Hp → Prop} (hD : H1 D = none) (hn : n < sizeLine) (Y : Nat → V → Prop) (G : Nat → V → Hp → Prop)
    (go : ∀ i H, Same H1 H → i < n → J.go i H) (stop : ∀ H, Same H1 H → J.stop n H) (yld : ∀ i H x H', Same H1 H → i < n → J.yld i H x H' → H' = H ∧ Y i x)
    (mono : ∀ j v A B, (∀ a xs, A a = some (.tup xs) → B a = some (.tup xs)) → G j v A → G j v B)
    (step : ∀ i x H (R : VK), i < n → Y i x → Same H1 H → (∀ y H', Same H H' → G i y H' → R y H') → g x (wipe σ vs) H fun σ2 H2 => wipe σ2 vs = wipe σ vs ∧ te σ2 H2 R)
    (fin : ∀ H ys, Same H1 H → H D = some (.lst ys) → ys.length = n → (∀ j y, ys[j]? = some y → G j y H) → Qd H) :
    ∃ W : Nat → Nat → Hp → Prop, (∃ m, W 0 m (upd H1 D (.lst []))) ∧ ∀ i m H, W i m H →
      (J.stop i H ∧ Qd H) ∨ (J.go i H ∧ ∃ Nx : Hp → Prop, (∀ H', Nx H' → ∃ m', m' < m ∧ W (i + 1) m' H') ∧ ∀ x H', J.yld i H x H' → g x (wipe σ vs) H' fun σ2 H2 => wipe σ2 vs = wipe σ vs ∧ tYes σ2 H2 fun b H3 =>
        if b = true then te σ2 H3 fun y H4 => ∃ acc, H4 D = some (.lst acc) ∧ acc.length < sizeLine ∧ Nx (upd H4 D (.lst (acc ++ [y]))) else Nx H3) := by
  refine ⟨fun i m H => m = n - i ∧ i ≤ n ∧ Same H1 H ∧ ∃ ys, H D = some (.lst ys) ∧ ys.length = i ∧ ∀ j y, ys[j]? = some y → G j y H, ⟨n, by simp, Nat.zero_le _, fun b o e => ?_, [], upd_same, rfl, by simp⟩, ?_⟩
  · rw [upd_ne (ne_of_none e hD)]; exact e
  · rintro i m H ⟨rfl, hi, sm, ys, hy, hl, hG⟩
    by_cases hlt : i < n
    · refine .inr ⟨go i H sm hlt, fun H' => i + 1 ≤ n ∧ Same H1 H' ∧ ∃ ys, H' D = some (.lst ys) ∧ ys.length = i + 1 ∧ ∀ j y, ys[j]? = some y → G j y H', fun H' h => ⟨n - (i + 1), by omega, rfl, h⟩, fun x H' y => ?_⟩
      obtain ⟨rfl, hY⟩ := yld i H x H' sm hlt y
      have st := step i x H' (fun y H4 => ∃ acc, H4 D = some (.lst acc) ∧ acc.length < sizeLine ∧ (i + 1 ≤ n ∧ Same H1 (upd H4 D (.lst (acc ++ [y]))) ∧ ∃ ys, (upd H4 D (.lst (acc ++ [y]))) D = some (.lst ys) ∧ ys.length = i + 1 ∧ ∀ j y', ys[j]? = some y' → G j y' (upd H4 D (.lst (acc ++ [y]))))) hlt hY sm fun v H4 s4 g4 => ?_
      · exact st
      · have tk : ∀ o a xs, H4 a = some (.tup xs) → (upd H4 D o) a = some (.tup xs) := fun o a xs e => by
          rw [upd_ne]
          · exact e
          · rintro rfl
            rw [s4 _ _ hy] at e
            cases e
        refine ⟨ys, s4 _ _ hy, by omega, hlt, fun b o e => ?_, ys ++ [v], upd_same, by simp [hl], fun j y' hj => ?_⟩
        · rw [upd_ne (ne_of_none e hD)]; exact s4 _ _ (sm _ _ e)
        · by_cases hj2 : j < ys.length
          · rw [List.getElem?_append_left hj2] at hj
            exact mono j y' _ _ (tk _) (mono j y' _ _ (fun a xs e => s4 _ _ e) (hG j y' hj))
          · rw [List.getElem?_append_right (by omega)] at hj
            have e0 : j - ys.length = 0 := by
              rcases Nat.eq_zero_or_pos (j - ys.length) with z | z
              · exact z
              · rw [List.getElem?_eq_none (by simp; omega)] at hj; cases hj
            rw [e0] at hj
            cases hj
            have : j = i := by omega
            subst this
            exact mono _ _ _ _ (tk _) g4
    · have : i = n := by omega
      subst this
      exact .inl ⟨stop H sm, fin H ys sm hy hl hG⟩
theorem valV_out {kvs : List (Key × V)} {k : Key} (h : ∀ q ∈ kvs, q.1 ≠ k) : valV kvs k = none := by
  induction kvs with
  | nil => rfl
  | cons q r ih =>
    rw [valV_neg (h q (by simp))]
    exact ih fun q' hq => h q' (List.mem_cons_of_mem _ hq)
theorem wipe_back {σ : L2.St} {i : Nat} {x : Option V} : wipe ((wipe σ [i]).set i x) [i] = wipe σ [i] := by
  show ((σ.set i none).set i x).set i none = σ.set i none
  rw [List.set_set, List.set_set]
/-- {k: e for k in d}, e changing nothing that was there, its value told by the key -/
theorem dcS {d : Addr} {od : Obj} {kvs : List (Key × V)} {i0 : Nat} {tv : TE} {σ : L2.St} {H1 : Hp} {D : Addr} {Qd : Hp → Prop} (hD : H1 D = none) (hd : H1 d = some (.frz od (.dK kvs))) (hnd : (kvs.map (·.1)).Nodup) (hn : kvs.length < sizeLine) (hi0 : i0 < σ.length) (val : Key → V)
    (step : ∀ (i : Nat) k v H (R : VK), kvs[i]? = some (k, v) → Same H1 H → (∀ H', Same H H' → R (val k) H') → tv ((wipe σ [i0]).set i0 (some (kV k))) H R)
    (fin : ∀ H, Same H1 H → H D = some (.dK (kvs.map fun q => (q.1, val q.1))) → Qd H) :
    ∃ W : Nat → Nat → Hp → Prop, (∃ m, W 0 m (upd H1 D (.dK []))) ∧ ∀ i m H, W i m H →
      ((Itk d od kvs).stop i H ∧ Qd H) ∨ ((Itk d od kvs).go i H ∧ ∃ Nx : Hp → Prop, (∀ H', Nx H' → ∃ m', m' < m ∧ W (i + 1) m' H') ∧ ∀ x H', (Itk d od kvs).yld i H x H' → gName i0 x (wipe σ [i0]) H' fun σ2 H2 => wipe σ2 [i0] = wipe σ [i0] ∧ tYes σ2 H2 fun b H3 =>
        if b = true then tVar i0 σ2 H3 fun y H4 => tv σ2 H4 fun z H5 => ∃ kvs k, y = kV k ∧ H5 D = some (.dK kvs) ∧ kvs.length < sizeLine ∧ Nx (upd H5 D (.dK (putK kvs k z))) else Nx H3) := by
  refine ⟨fun i m H => m = kvs.length - i ∧ i ≤ kvs.length ∧ Same H1 H ∧ H D = some (.dK ((kvs.take i).map fun q => (q.1, val q.1))), ⟨kvs.length, by simp, Nat.zero_le _, same_upd0 hD _, upd_same⟩, ?_⟩
  rintro i m H ⟨rfl, hi, sm, hy⟩
  by_cases hlt : i < kvs.length
  · refine .inr ⟨⟨sm _ _ hd, hlt⟩, fun H' => Same H1 H' ∧ H' D = some (.dK ((kvs.take (i + 1)).map fun q => (q.1, val q.1))), fun H' h => ⟨kvs.length - (i + 1), by omega, rfl, hlt, h⟩, fun x H' y => ?_⟩
    obtain ⟨rfl, k, v, e, rfl⟩ := y
    refine ⟨wipe_back, ?_⟩
    unfold tYes
    dsimp only
    rw [if_pos rfl]
    refine ⟨kV k, ?_, ?_⟩
    · have : i0 < (wipe σ [i0]).length := by rw [wipe_length]; exact hi0
      rw [List.getElem?_set_self this]
    · refine step i k v H' _ e sm fun H5 s5 => ⟨_, k, rfl, s5 _ _ hy, ?_, ?_, ?_⟩
      · rw [List.length_map, List.length_take]; omega
      · intro b o hb
        rw [upd_ne (ne_of_none hb hD)]
        exact s5 _ _ (sm _ _ hb)
      · have ke : kvs[i] = (k, v) := by
          rw [List.getElem?_eq_getElem hlt] at e
          exact Option.some.inj e
        rw [upd_same, putK_new, List.take_add_one, e, List.map_append]
        · rfl
        · refine valV_out fun q hq => ?_
          obtain ⟨q0, hq0, rfl⟩ := List.mem_map.mp hq
          intro z
          obtain ⟨j, hj, ej⟩ := List.mem_take_iff_getElem.mp hq0
          have hj' : j < i := by omega
          have h1 := List.nodup_iff_pairwise_ne.mp hnd
          have h2 := List.pairwise_iff_getElem.mp h1 j i (by rw [List.length_map]; omega) (by rw [List.length_map]; exact hlt) hj'
          rw [List.getElem_map, List.getElem_map, ke] at h2
          exact h2 (by rw [← ej] at z; exact z)
  · have : i = kvs.length := by omega
    subst this
    refine .inl ⟨⟨sm _ _ hd, Nat.le_refl _⟩, fin H sm ?_⟩
    rw [List.take_length] at hy
    exact hy
/-! the walks that are met -/
section
variable {K : PySem.W.Frag} {H1 : Hp} {a : Addr} {xs : List V}
theorem go_l (h : SqL K H1 a xs) : ∀ i H, Same H1 H → i < xs.length → (Itl K a).go i H := fun i H sm hi => ⟨xs, xs[i], sm.seq h, by simp [hi]⟩
theorem stop_l (h : SqL K H1 a xs) : ∀ H, Same H1 H → (Itl K a).stop xs.length H := fun H sm => ⟨xs, sm.seq h, Nat.le_refl _⟩
theorem yld_l (h : SqL K H1 a xs) : ∀ i H x H', Same H1 H → i < xs.length → (Itl K a).yld i H x H' → H' = H ∧ xs[i]? = some x := fun i H x H' sm hi y => ⟨y.1, y.2 xs (sm.seq h)⟩
theorem go_s {z : Str} : ∀ i H, Same H1 H → i < z.cps.size → (Its z).go i H := fun i H _ hi => hi
theorem stop_s {z : Str} : ∀ H, Same H1 H → (Its z).stop z.cps.size H := fun H _ => Nat.le_refl _
theorem yld_s {z : Str} : ∀ i H x H', Same H1 H → i < z.cps.size → (Its z).yld i H x H' → H' = H ∧ ∃ c, z.cps[i]? = some c ∧ x = .str ⟨#[c]⟩ := fun i H x H' _ _ y => y
theorem go_k {d : Addr} {o : Obj} {kvs : List (Key × V)} (h : H1 d = some (.frz o (.dK kvs))) : ∀ i H, Same H1 H → i < kvs.length → (Itk d o kvs).go i H := fun i H sm hi => ⟨sm _ _ h, hi⟩
theorem stop_k {d : Addr} {o : Obj} {kvs : List (Key × V)} (h : H1 d = some (.frz o (.dK kvs))) : ∀ H, Same H1 H → (Itk d o kvs).stop kvs.length H := fun H sm => ⟨sm _ _ h, Nat.le_refl _⟩
theorem yld_k {d : Addr} {o : Obj} {kvs : List (Key × V)} : ∀ i H x H', Same H1 H → i < kvs.length → (Itk d o kvs).yld i H x H' → H' = H ∧ ∃ k v, kvs[i]? = some (k, v) ∧ x = kV k := fun i H x H' _ _ y => y
end
theorem ext_map {α : Type} {ys : List V} {l : List α} {f : α → V} (hl : ys.length = l.length) (h : ∀ (j : Nat) y, ys[j]? = some y → ∃ a, l[j]? = some a ∧ y = f a) : ys = l.map f := by
  refine List.ext_getElem? fun j => ?_
  by_cases hj : j < ys.length
  · obtain ⟨a, e1, e2⟩ := h j ys[j] (List.getElem?_eq_getElem hj)
    rw [List.getElem?_eq_getElem hj, List.getElem?_map, e1, e2]
    rfl
  · rw [List.getElem?_eq_none (by omega), List.getElem?_eq_none (by rw [List.length_map]; omega)]
theorem dpAll_map {K : PySem.W.Frag} {H : Hp} {α : Type} {f : α → PyData} : ∀ {ys : List V} {l : List α}, ys.length = l.length → (∀ (j : Nat) y, ys[j]? = some y → ∃ a, l[j]? = some a ∧ Dp K H y (f a)) → DpAll K H ys (l.map f)
  | [], [], _, _ => .nil
  | [], _ :: _, h, _ => by simp at h
  | _ :: _, [], h, _ => by simp at h
  | y :: ys, a :: l, hl, h => by
    obtain ⟨a', e1, e2⟩ := h 0 y rfl
    cases e1
    exact .cons e2 (dpAll_map (by simpa using hl) fun j y e => h (j + 1) y (by simpa using e))
theorem fn_never {P : Program} {w : World} {K : PySem.W.Frag} {mg : Str → Option Value} {base : Heap} {CX : CXT} {k : Nat} {f : Addr} {fd : FuncData} {ps : List Str} {sp : Sp} (no : ∀ vs H Q E, ¬ sp vs H Q E) : FnOk P w K mg base CX k f fd ps sp :=
  ⟨fun vs H Q E h => absurd h (no vs H Q E), fun A outer s H args us vs Q E _ _ _ _ h => absurd h (no vs H Q E)⟩
section
variable {X : Cx} {K : PySem.W.Frag}
theorem call_len_seqK (hK : X.K = K) : CallR X (.builtin "len") (fun xs H Q => ∃ p ys, xs = [.ref p] ∧ (SqL K H p ys ∨ SqT K H p ys) ∧ Q (.int ys.length) H) := by subst hK; exact call_len_seq
theorem ix_listK (hK : X.K = K) : IxR X (rIxL K) := by subst hK; exact ix_list
theorem ix_tupK (hK : X.K = K) : IxR X (rIxT K) := by subst hK; exact ix_tup
theorem call_isiK1 (hK : X.K = K) : CallR X (.builtin "isinstance") (rIsi K) := by subst hK; exact call_isi
theorem op_neDK (hK : X.K = K) (hu : X.A.units + 64 < cLine) : OpR X (compareOp .NotEq) (rNeD K) := by subst hK; exact op_neD hu
theorem op_eqDK (hK : X.K = K) (hu : X.A.units + 64 < cLine) : OpR X (compareOp .Eq) (rEqD K) := by subst hK; exact op_eqD hu
theorem sl_listK (hK : X.K = K) : SlR X (rSlL K) := by subst hK; exact sl_list
variable {o e : Expr} {es : List Expr} {to : TE} {t : TA} {name : Str} {apos cpos : Pos} {T id : String} {r : V → List V → Hp → VK → Prop}
theorem pe_bmK (hK : X.K = K) (pa : PlainAttrs T) (slot : Slot T name id) (hty : typeOf (.builtin id) = pure (.type "method_descriptor")) (hm : MtR X id r) (ho : PE X o to) (ha : PA X (e :: es) t)
    (hbase : attributeBase o name X.env (eval o X.env) = eval o X.env := by rfl)
    (hfew : ((backTo cpos (starEach (e :: es) X.env)).all (fun x => !x.1) && (backToKw cpos (keywordEach [] X.env)).all (fun x => x.1.isSome) && decide ((e :: es).length + ([] : List Keyword).length + (if ([] : List Keyword).isEmpty then 0 else 1) < 30)) = true := by rfl)
    (hline : (apos.endLine == cpos.line) = true := by rfl) (hs : starEach (e :: es) X.env = (false, eval e X.env) :: starEach es X.env := by rfl) (hplain : (backTo cpos (starEach es X.env)).any (·.1) = false := by rfl) :
    PE X (.Call (.Attribute o name apos) (e :: es) [] cpos) (tBM K T r to t) := by
  subst hK
  exact pe_bm pa slot hty hm ho ha hbase hfew hline hs hplain
end
theorem hu65_of {A : Around} {k : Nat} (hr : Room k A) : A.units + 65 < cLine := by have := hr.un; omega
theorem same_upd {H : Hp} {p : Addr} (h : H p = none) (o : HO) : Same H (upd H p o) := fun b u e => by rw [upd_ne (ne_of_none e h)]; exact e
end FA

set_option Elab.async false
set_option linter.all false
set_option maxRecDepth 100000
set_option maxHeartbeats 4000000
/-! Bodies and programs as Python's data: for ==, count and repr. -/
namespace FA
open PySem PySem.Spec PyProof.Rows L2
/-- a name: 1 to 8 small letters -/
def okName (x : Str) : Prop := 1 ≤ x.length ∧ x.length ≤ 8 ∧ ∀ c ∈ x.cps.toList, 97 ≤ c ∧ c ≤ 122
theorem okName.strOk {x : Str} (h : okName x) : PyData.strOk x = true := by
  unfold PyData.strOk
  rw [Array.all_eq_true']
  intro c hc
  have := h.2.2 c (by simpa using hc)
  exact decide_eq_true (by omega)
mutual
def dtI : It → PyData
  | .call x => .str x
  | .may b => .tuple [.str "maybe", .list (dtB b)]
  | .loop b => .tuple [.str "loop", .list (dtB b)]
  | .one bs => .tuple [.str "one", .list (dtBs bs)]
def dtB : List It → List PyData
  | [] => []
  | i :: r => dtI i :: dtB r
def dtBs : List (List It) → List PyData
  | [] => []
  | b :: r => .list (dtB b) :: dtBs r
end
section
variable {K : PySem.W.Frag} {H : Hp}
mutual
theorem ItAt.dp : ∀ {v : V} {i : It}, ItAt H v i → Dp K H v (dtI i)
  | _, _, .call x => by simp only [dtI]; exact .str x
  | _, _, .may h1 h2 h3 => by simp only [dtI]; exact .tup (SqT.of h1) (.cons (.str _) (.cons (.lst (SqL.of h2) (ItsAt.dp h3)) .nil))
  | _, _, .loop h1 h2 h3 => by simp only [dtI]; exact .tup (SqT.of h1) (.cons (.str _) (.cons (.lst (SqL.of h2) (ItsAt.dp h3)) .nil))
  | _, _, .one h1 h2 h3 => by simp only [dtI]; exact .tup (SqT.of h1) (.cons (.str _) (.cons (.lst (SqL.of h2) (BdsAt.dp h3)) .nil))
theorem ItsAt.dp : ∀ {vs : List V} {l : List It}, ItsAt H vs l → DpAll K H vs (dtB l)
  | _, _, .nil => by simp only [dtB]; exact .nil
  | _, _, .cons h t => by simp only [dtB]; exact .cons (ItAt.dp h) (ItsAt.dp t)
theorem BdsAt.dp : ∀ {vs : List V} {l : List (List It)}, BdsAt H vs l → DpAll K H vs (dtBs l)
  | _, _, .nil => by simp only [dtBs]; exact .nil
  | _, _, .cons h h2 t => by simp only [dtBs]; exact .cons (.lst (SqL.of h) (ItsAt.dp h2)) (BdsAt.dp t)
end
mutual
theorem ItAt.dd : ∀ {v : V} {i : It}, ItAt H v i → Dd K H v (dtI i)
  | _, _, .call x => by simp only [dtI]; exact .str x
  | _, _, .may h1 h2 h3 => by simp only [dtI]; exact .tup h1 (.cons (.str _) (.cons (.lst h2 (ItsAt.dd h3)) .nil))
  | _, _, .loop h1 h2 h3 => by simp only [dtI]; exact .tup h1 (.cons (.str _) (.cons (.lst h2 (ItsAt.dd h3)) .nil))
  | _, _, .one h1 h2 h3 => by simp only [dtI]; exact .tup h1 (.cons (.str _) (.cons (.lst h2 (BdsAt.dd h3)) .nil))
theorem ItsAt.dd : ∀ {vs : List V} {l : List It}, ItsAt H vs l → DdAll K H vs (dtB l)
  | _, _, .nil => by simp only [dtB]; exact .nil
  | _, _, .cons h t => by simp only [dtB]; exact .cons (ItAt.dd h) (ItsAt.dd t)
theorem BdsAt.dd : ∀ {vs : List V} {l : List (List It)}, BdsAt H vs l → DdAll K H vs (dtBs l)
  | _, _, .nil => by simp only [dtBs]; exact .nil
  | _, _, .cons h h2 t => by simp only [dtBs]; exact .cons (.lst h (ItsAt.dd h2)) (BdsAt.dd t)
end
theorem PrKv.dd : ∀ {kvs : List (Key × V)} {p : Pr}, PrKv H kvs p → DdAll K H (kvs.map (·.2)) (p.map fun q => PyData.list (dtB q.2))
  | _, _, .nil => .nil
  | _, _, .cons h t => by
    obtain ⟨vs, h1, h2⟩ := h
    exact .cons (.lst h1 (ItsAt.dd h2)) t.dd
end
/-- the program as data -/
def dtP (p : Pr) : PyData := .dict (p.map fun q => (.str q.1, .list (dtB q.2)))
theorem PrKv.dt {K : PySem.W.Frag} {H : Hp} {d : Addr} {kvs : List (Key × V)} {p : Pr} (hd : Rd H d (.dK kvs)) (h : PrKv H kvs p) : Dd K H (.ref d) (dtP p) := by
  have q := Dd.dic (K := K) hd h.dd
  have e : ((kvs.map fun p => kD p.1).zip (p.map fun q => PyData.list (dtB q.2))) = p.map fun q => (PyData.str q.1, PyData.list (dtB q.2)) := by
    have e2 : (kvs.map fun p => kD p.1) = p.map fun q => PyData.str q.1 := by
      have := congrArg (List.map kD) h.keys
      rw [List.map_map, List.map_map] at this
      exact this
    rw [e2, List.zip_map']
  rw [e] at q
  exact q
/-! ### sizes -/
mutual
theorem dtI_lay {ns : List Str} (hn : ∀ x ∈ ns, okName x) : ∀ i : It, okI ns i → (dtI i).canLay0 = true
  | .call x, h => by simp only [dtI, PyData.canLay0]; exact (hn x (by simpa [okI] using h)).strOk
  | .may b, h => by
    simp only [okI] at h
    simp only [dtI, PyData.canLay0, PyData.canLayAll0, dtB_lay hn b h.2, Bool.and_true]; decide +kernel
  | .loop b, h => by
    simp only [okI] at h
    simp only [dtI, PyData.canLay0, PyData.canLayAll0, dtB_lay hn b h.2, Bool.and_true]; decide +kernel
  | .one bs, h => by
    simp only [okI] at h
    simp only [dtI, PyData.canLay0, PyData.canLayAll0, dtBs_lay hn bs h.2.2.2, Bool.and_true]; decide +kernel
theorem dtB_lay {ns : List Str} (hn : ∀ x ∈ ns, okName x) : ∀ b : List It, okB ns b → PyData.canLayAll0 (dtB b) = true
  | [], _ => by simp only [dtB, PyData.canLayAll0]
  | i :: r, h => by
    simp only [okB] at h
    simp only [dtB, PyData.canLayAll0, dtI_lay hn i h.1, dtB_lay hn r h.2, Bool.and_true]
theorem dtBs_lay {ns : List Str} (hn : ∀ x ∈ ns, okName x) : ∀ bs : List (List It), okBs ns bs → PyData.canLayAll0 (dtBs bs) = true
  | [], _ => by simp only [dtBs, PyData.canLayAll0]
  | b :: r, h => by
    simp only [okBs] at h
    simp only [dtBs, PyData.canLayAll0, PyData.canLay0, dtB_lay hn b h.1, dtBs_lay hn r h.2, Bool.and_true]
end
mutual
theorem dtI_depth : ∀ i : It, (dtI i).depth ≤ 3 * dI i + 2
  | .call x => by simp only [dtI, PyData.depth]; omega
  | .may b => by
    have := dtB_depth b
    simp only [dtI, PyData.depth, PyData.depthAll, dI]; omega
  | .loop b => by
    have := dtB_depth b
    simp only [dtI, PyData.depth, PyData.depthAll, dI]; omega
  | .one bs => by
    have := dtBs_depth bs
    simp only [dtI, PyData.depth, PyData.depthAll, dI]; omega
theorem dtB_depth : ∀ b : List It, PyData.depthAll (dtB b) + 1 ≤ 3 * dB b
  | [] => by simp only [dtB, PyData.depthAll, dB]; omega
  | i :: r => by
    have h1 := dtI_depth i
    have h2 := dtB_depth r
    simp only [dtB, PyData.depthAll, dB]; omega
theorem dtBs_depth : ∀ bs : List (List It), PyData.depthAll (dtBs bs) ≤ 3 * dBs bs
  | [] => by simp only [dtBs, PyData.depthAll, dBs]; omega
  | b :: r => by
    have h1 := dtB_depth b
    have h2 := dtBs_depth r
    simp only [dtBs, PyData.depthAll, PyData.depth, dBs]; omega
end
mutual
theorem dtI_show : ∀ i : It, (dtI i).showable = true
  | .call x => by simp only [dtI, PyData.showable]
  | .may b => by simp only [dtI, PyData.showable, PyData.showableAll, dtB_show b, Bool.and_true]
  | .loop b => by simp only [dtI, PyData.showable, PyData.showableAll, dtB_show b, Bool.and_true]
  | .one bs => by simp only [dtI, PyData.showable, PyData.showableAll, dtBs_show bs, Bool.and_true]
theorem dtB_show : ∀ b : List It, PyData.showableAll (dtB b) = true
  | [] => by simp only [dtB, PyData.showableAll]
  | i :: r => by simp only [dtB, PyData.showableAll, dtI_show i, dtB_show r, Bool.and_true]
theorem dtBs_show : ∀ bs : List (List It), PyData.showableAll (dtBs bs) = true
  | [] => by simp only [dtBs, PyData.showableAll]
  | b :: r => by simp only [dtBs, PyData.showableAll, PyData.showable, dtB_show b, dtBs_show r, Bool.and_true]
end
theorem okName.short {x : Str} (h : okName x) : (x.cps.toList.all fun c => decide (c < 16 ^ 8)) = true := by
  rw [List.all_eq_true]
  intro c hc
  have := h.2.2 c hc
  exact decide_eq_true (by omega)
mutual
theorem dtI_short {ns : List Str} (hn : ∀ x ∈ ns, okName x) : ∀ i : It, okI ns i → (dtI i).leavesShort 13 = true
  | .call x, h => by simp only [dtI, PyData.leavesShort]; exact (hn x (by simpa [okI] using h)).short
  | .may b, h => by
    simp only [okI] at h
    simp only [dtI, PyData.leavesShort, PyData.leavesShortAll, dtB_short hn b h.2, Bool.and_true]; decide +kernel
  | .loop b, h => by
    simp only [okI] at h
    simp only [dtI, PyData.leavesShort, PyData.leavesShortAll, dtB_short hn b h.2, Bool.and_true]; decide +kernel
  | .one bs, h => by
    simp only [okI] at h
    simp only [dtI, PyData.leavesShort, PyData.leavesShortAll, dtBs_short hn bs h.2.2.2, Bool.and_true]; decide +kernel
theorem dtB_short {ns : List Str} (hn : ∀ x ∈ ns, okName x) : ∀ b : List It, okB ns b → PyData.leavesShortAll 13 (dtB b) = true
  | [], _ => by simp only [dtB, PyData.leavesShortAll]
  | i :: r, h => by
    simp only [okB] at h
    simp only [dtB, PyData.leavesShortAll, dtI_short hn i h.1, dtB_short hn r h.2, Bool.and_true]
theorem dtBs_short {ns : List Str} (hn : ∀ x ∈ ns, okName x) : ∀ bs : List (List It), okBs ns bs → PyData.leavesShortAll 13 (dtBs bs) = true
  | [], _ => by simp only [dtBs, PyData.leavesShortAll]
  | b :: r, h => by
    simp only [okBs] at h
    simp only [dtBs, PyData.leavesShortAll, PyData.leavesShort, dtB_short hn b h.1, dtBs_short hn r h.2, Bool.and_true]
end
mutual
theorem dtI_bulk {ns : List Str} (hn : ∀ x ∈ ns, okName x) : ∀ i : It, okI ns i → (dtI i).bulk ≤ 12 + 32 * nI i
  | .call x, h => by
    have h2 : x.cps.size ≤ 8 := (hn x (by simpa [okI] using h)).2.1
    simp only [dtI, PyData.bulk]; omega
  | .may b, h => by
    simp only [okI] at h
    have h1 := dtB_bulk hn b h.2
    have h2 : ("maybe" : Str).cps.size = 5 := by decide +kernel
    simp only [dtI, PyData.bulk, PyData.bulkAll, nI, h2]; omega
  | .loop b, h => by
    simp only [okI] at h
    have h1 := dtB_bulk hn b h.2
    have h2 : ("loop" : Str).cps.size = 4 := by decide +kernel
    simp only [dtI, PyData.bulk, PyData.bulkAll, nI, h2]; omega
  | .one bs, h => by
    simp only [okI] at h
    have h1 := dtBs_bulk hn bs h.2.2.2
    have h2 : ("one" : Str).cps.size = 3 := by decide +kernel
    have h3 := h.2.1
    simp only [dtI, PyData.bulk, PyData.bulkAll, nI, h2]; omega
theorem dtB_bulk {ns : List Str} (hn : ∀ x ∈ ns, okName x) : ∀ b : List It, okB ns b → PyData.bulkAll (dtB b) ≤ 32 * nIB b
  | [], _ => by simp only [dtB, PyData.bulkAll, nIB]; omega
  | i :: r, h => by
    simp only [okB] at h
    have h1 := dtI_bulk hn i h.1
    have h2 := dtB_bulk hn r h.2
    simp only [dtB, PyData.bulkAll, nIB]; omega
theorem dtBs_bulk {ns : List Str} (hn : ∀ x ∈ ns, okName x) : ∀ bs : List (List It), okBs ns bs → PyData.bulkAll (dtBs bs) ≤ 32 * nIBs bs + bs.length
  | [], _ => by simp only [dtBs, PyData.bulkAll, nIBs]; omega
  | b :: r, h => by
    simp only [okBs] at h
    have h1 := dtB_bulk hn b h.1
    have h2 := dtBs_bulk hn r h.2
    simp only [dtBs, PyData.bulkAll, PyData.bulk, nIBs, List.length_cons]; omega
end
theorem dt_shaped {ds : List PyData} (h : PyData.canLayAll0 ds = true) (h2 : PyData.depthAll ds ≤ 60) : SeqAt.shaped (.list ds) = true := by
  show (PyData.canLay0 (.list ds) && decide (PyData.depth (.list ds) ≤ 64)) = true
  rw [Bool.and_eq_true]
  exact ⟨by simp only [PyData.canLay0]; exact h, decide_eq_true (by simp only [PyData.depth]; omega)⟩
/-- how many of the bodies are empty -/
theorem count_empty : ∀ bs : List (List It), (dtBs bs).countP (fun z => PyData.eqv z (.list [])) = bs.countP (fun b => b.isEmpty)
  | [] => rfl
  | b :: r => by
    have e : PyData.eqv (.list (dtB b)) (.list []) = b.isEmpty := by
      cases b with
      | nil => simp [dtB, PyData.eqv, PyData.eqvAll]
      | cons i r => simp [dtB, PyData.eqv, PyData.eqvAll]
    simp only [dtBs, List.countP_cons, e, count_empty r]
end FA

set_option Elab.async false
set_option linter.all false
set_option maxRecDepth 100000
set_option maxHeartbeats 4000000
/-! list(text) -/
namespace FA
open PySem PySem.Spec PyProof.Rows L2
theorem vals_of : ∀ {xs : List V} {us : List Value}, xs.length = us.length → (∀ (j : Nat) u, us[j]? = some u → ∃ x, xs[j]? = some x ∧ L2.RelV x u) → Vals xs us
  | [], [], _, _ => .nil
  | [], _ :: _, h, _ => by simp at h
  | _ :: _, [], h, _ => by simp at h
  | x :: xs, u :: us, hl, h => by
    obtain ⟨x', e1, e2⟩ := h 0 u rfl
    cases e1
    exact .cons e2 (vals_of (by simpa using hl) fun j u e => h (j + 1) u (by simpa using e))
section
variable {X : Cx}
theorem call_strL (hc : X.calm = true) : CallR X (.type "list") (fun xs H Q => ∃ z : Str, xs = [.str z] ∧ z.cps.size ≤ sizeLine ∧ ∀ l, H l = none → Q (.ref l) (upd H l (.lst (z.cps.toList.map fun c => V.str ⟨#[c]⟩)))) := by
  intro pins s σ H xs us Q I r h
  obtain ⟨z, rfl, hz, q⟩ := h
  obtain ⟨u, rfl, ru⟩ := r.one
  obtain ⟨t, rfl⟩ := ru
  refine call_list_str (I.ok.hd hc) z t (fun h' tk acc' c' hk e hi => ?_) hz
  have hv : Vals (z.cps.toList.map fun c => V.str ⟨#[c]⟩) acc'.toList := vals_of (by rw [List.length_map, Array.length_toList, Array.length_toList, hi.1]) fun j u hj => by
    rw [Array.getElem?_toList] at hj
    obtain ⟨c, t', h1, rfl⟩ := hi.2 j u hj
    exact ⟨.str ⟨#[c]⟩, by rw [List.getElem?_map, Array.getElem?_toList, h1]; rfl, _, rfl⟩
  refine ⟨.ref s.heap.objs.size, _, I.laid (t' := tk) (o := .lst (z.cps.toList.map fun c => V.str ⟨#[c]⟩)) hk (Nat.le_refl _) ⟨by rw [List.length_map, Array.length_toList]; exact hz, acc'.toList, c', hv, ?_⟩, rfl, q _ (I.hok.fresh (Nat.le_refl _))⟩
  rw [e]
end
end FA

set_option Elab.async false
set_option linter.all false
set_option maxRecDepth 100000
set_option maxHeartbeats 4000000
/-! What several families of laws share: new objects, statements cut, slices, bodies put together, walks of enumerate and of tuples. -/
namespace FA
open PySem PySem.Spec PyProof.Rows L2
theorem yesT {σ : L2.St} {H : Hp} {Q : Bool → Hp → Prop} (h : Q true H) : tYes σ H Q := h
theorem ix_of {n : Nat} {i : Int} (h0 : 0 ≤ i) (h1 : i < n) : ixN n i = some i.toNat := by
  unfold ixN
  rw [if_pos h0, if_pos h1]
theorem erase_perm {α : Type} {l : List α} {i : Nat} (h : i < l.length) : (l[i] :: l.eraseIdx i).Perm l := by
  rw [List.eraseIdx_eq_take_drop_succ]
  have e : l.take i ++ l[i] :: l.drop (i + 1) = l := by rw [← List.drop_eq_getElem_cons h, List.take_append_drop]
  exact List.perm_middle.symm.trans (List.Perm.of_eq e)
/-- what is new in H' -/
def fr (H H' : Hp) : Hp := fun b => match H b with
  | none => H' b
  | some _ => none
theorem fr_some {H H' : Hp} {b : Addr} {o : HO} : fr H H' b = some o ↔ H b = none ∧ H' b = some o := by
  unfold fr
  cases H b with
  | none => simp
  | some u => simp
theorem none_back {W : List Addr} {H H1 : Hp} {b : Addr} (s : Sm W H H1) (k : ∀ a ∈ W, ∃ o, H1 a = some o) (h : H1 b = none) : H b = none := by
  by_cases hb : b ∈ W
  · obtain ⟨o, e⟩ := k b hb
    rw [e] at h; cases h
  · exact s.none hb h
/-- new behind H1: new behind H, and kept -/
theorem fr_step {W : List Addr} {H H1 H2 H3 : Hp} (s : Sm W H H1) (k : ∀ a ∈ W, ∃ o, H1 a = some o) (s2 : Sm W H2 H3) : Kp (fr H1 H2) (fr H H3) := by
  have key : ∀ a o, fr H1 H2 a = some o → fr H H3 a = some o := fun a o e => by
    rw [fr_some] at e ⊢
    refine ⟨none_back s k e.1, s2 a o (fun z => ?_) e.2⟩
    obtain ⟨u, e2⟩ := k a z
    rw [e2] at e
    cases e.1
  exact ⟨fun a xs e => key _ _ e, fun a xs e => key _ _ e⟩
theorem strs_ne {ls : List Str} {x : Int} {r : List V} (h : (ls.map V.str) = V.int x :: r) : False := by
  cases ls with
  | nil => cases h
  | cons a r => cases h
theorem okB_snoc {ns : List Str} {l : List It} {it : It} (h : okB ns l) (h2 : okI ns it) : okB ns (l ++ [it]) := by
  rw [okB_all] at h ⊢
  intro i hi
  rcases List.mem_append.mp hi with z | z
  · exact h i z
  · simp at z; rw [z]; exact h2
theorem nCB_snoc : ∀ (l : List It) (it : It), nCB (l ++ [it]) = nCB l + nC it
  | [], it => by simp [nCB]
  | i :: r, it => by simp only [List.cons_append, nCB, nCB_snoc r it]; omega
theorem nIB_snoc : ∀ (l : List It) (it : It), nIB (l ++ [it]) = nIB l + (1 + nI it)
  | [], it => by simp [nIB]
  | i :: r, it => by simp only [List.cons_append, nIB, nIB_snoc r it]; omega
theorem dB_snoc : ∀ (l : List It) (it : It), dB (l ++ [it]) = max (dB l) (1 + dI it)
  | [], it => by simp only [List.nil_append, dB]; omega
  | i :: r, it => by simp only [List.cons_append, dB, dB_snoc r it]; omega
theorem split_at {X : Cx} {body : List Stmt} {D0 : Ends} {σ0 : L2.St} {H0 : Hp} (k : Nat) (R : Ends → L2.St → Hp → Prop) (h2 : ∃ u, PSs X (body.drop k) u ∧ ∀ D σ H, R D σ H → u D σ H)
    (h1 : ∀ u, PSs X (body.drop k) u → (∀ D σ H, R D σ H → u D σ H) → ∃ t, PSs X body t ∧ t D0 σ0 H0) : ∃ t, PSs X body t ∧ t D0 σ0 H0 := by
  obtain ⟨u, a, b⟩ := h2
  exact h1 u a b
theorem dp_strs {K : PySem.W.Frag} {H : Hp} : ∀ ls : List Str, DpAll K H (ls.map V.str) (ls.map PyData.str)
  | [] => .nil
  | x :: r => .cons (.str x) (dp_strs r)
theorem strs_shaped {ls : List Str} (h : ∀ x ∈ ls, okName x) : SeqAt.shaped (.list (ls.map PyData.str)) = true := by
  refine dt_shaped ?_ ?_
  · induction ls with
    | nil => rfl
    | cons x r ih =>
      simp only [List.map_cons, PyData.canLayAll0, PyData.canLay0, (h x (by simp)).strOk, Bool.true_and]
      exact ih fun y hy => h y (List.mem_cons_of_mem _ hy)
  · have : ∀ ls : List Str, PyData.depthAll (ls.map PyData.str) = 0 := fun ls => by
      induction ls with
      | nil => rfl
      | cons x r ih => simp only [List.map_cons, PyData.depthAll, PyData.depth, ih]; rfl
    rw [this]; omega
theorem eqv_nil (ds : List PyData) : PyData.eqv (.list ds) (.list []) = ds.isEmpty := by
  cases ds with
  | nil => simp [PyData.eqv, PyData.eqvAll]
  | cons a r => simp [PyData.eqv, PyData.eqvAll]
theorem nCBs_app : ∀ a b : List (List It), nCBs (a ++ b) = nCBs a + nCBs b
  | [], b => by simp [nCBs]
  | x :: r, b => by simp only [List.cons_append, nCBs, nCBs_app r b]; omega
theorem nIBs_app : ∀ a b : List (List It), nIBs (a ++ b) = nIBs a + nIBs b
  | [], b => by simp [nIBs]
  | x :: r, b => by simp only [List.cons_append, nIBs, nIBs_app r b]; omega
theorem dBs_app : ∀ a b : List (List It), dBs (a ++ b) = max (dBs a) (dBs b)
  | [], b => by simp only [List.nil_append, dBs]; omega
  | x :: r, b => by simp only [List.cons_append, dBs, dBs_app r b]; omega
theorem okBs_app {ns : List Str} {a b : List (List It)} : okBs ns (a ++ b) ↔ okBs ns a ∧ okBs ns b := by
  simp only [okBs_all, List.mem_append]
  exact ⟨fun h => ⟨fun x hx => h x (.inl hx), fun x hx => h x (.inr hx)⟩, fun h x hx => hx.elim (h.1 x) (h.2 x)⟩
theorem kp_wo {D : Addr} {H H1 : Hp} : Kp (wo [D] (fr H H1)) (fr H H1) := ⟨fun x xs e => (wo_some.mp e).2, fun x xs e => (wo_some.mp e).2⟩
theorem kp_fr {H H1 : Hp} : Kp (fr H H1) H1 := ⟨fun x xs e => (fr_some.mp e).2, fun x xs e => (fr_some.mp e).2⟩
theorem cut_from {xs : List V} {k : Nat} (h : k ≤ xs.length) : cutV xs (some (k : Int)) none = xs.drop k := by
  unfold cutV
  rw [HT.sIx_nat, HT.sIx_none, Nat.min_eq_left h, List.take_of_length_le (by rw [List.length_drop]; omega)]
theorem cut_to {xs : List V} {k : Nat} (h : k ≤ xs.length) : cutV xs none (some (k : Int)) = xs.take k := by
  unfold cutV
  rw [HT.sIx_nat, HT.sIx_none, Nat.min_eq_left h, List.drop_zero, Nat.sub_zero]
theorem BdAt.toBds {H : Hp} {b : Addr} {l : List It} {vs : List V} {ls : List (List It)} (h : BdAt H b l) (t : BdsAt H vs ls) : BdsAt H (.ref b :: vs) (l :: ls) := let ⟨_, h1, h2⟩ := h; .cons h1 h2 t
theorem strs_perm : ∀ {ys : List V} {ns : List Str}, ys.Perm (ns.map V.str) → ∃ zs : List Str, ys = zs.map V.str ∧ zs.Perm ns := by
  intro ys ns h
  have key : ∀ {a b : List V}, a.Perm b → (∀ v ∈ b, ∃ z, v = V.str z) → (∀ v ∈ a, ∃ z, v = V.str z) := fun p hb v hv => hb v (p.mem_iff.mp hv)
  have h1 := key h (fun v hv => by obtain ⟨z, _, e⟩ := List.mem_map.mp hv; exact ⟨z, e.symm⟩)
  have ex : ∀ l : List V, (∀ v ∈ l, ∃ z, v = V.str z) → ∃ zs : List Str, l = zs.map V.str := by
    intro l
    induction l with
    | nil => exact fun _ => ⟨[], rfl⟩
    | cons v r ih =>
      intro hv
      obtain ⟨z, e⟩ := hv v (by simp)
      obtain ⟨zs, e2⟩ := ih fun u hu => hv u (List.mem_cons_of_mem _ hu)
      exact ⟨z :: zs, by rw [e, e2]; rfl⟩
  obtain ⟨zs, e⟩ := ex ys h1
  subst e
  refine ⟨zs, rfl, ?_⟩
  have inj : ∀ a b : Str, V.str a = V.str b → a = b := fun a b e => V.str.inj e
  let un : V → Str := fun v => match v with | .str z => z | _ => "main"
  have q := h.map un
  rw [List.map_map, List.map_map] at q
  have i1 : (un ∘ V.str) = id := rfl
  rw [i1, List.map_id, List.map_id] at q
  exact q
theorem mem_look : ∀ {p : Pr} {x : Str} {l : Bd}, p.lookup x = some l → (x, l) ∈ p
  | (y, m) :: p, x, l, h => by
    by_cases e : x = y
    · subst e
      simp [List.lookup] at h
      rw [h]; simp
    · have e1 : (x == y) = false := beq_eq_false_iff_ne.mpr e
      simp only [List.lookup, e1] at h
      exact List.mem_cons_of_mem _ (mem_look h)
theorem cut_last (xs : List V) : cutV xs none (some (-1)) = xs.take (xs.length - 1) := by
  have e : HT.sIx xs.length xs.length (some (-1)) = xs.length - 1 := by
    show (if (-1 : Int) < 0 then ((-1 : Int) + (xs.length : Int)).toNat else min (-1 : Int).toNat xs.length) = _
    rw [if_pos (by decide)]
    omega
  unfold cutV
  rw [e, HT.sIx_none, List.drop_zero, Nat.sub_zero]
mutual
theorem okI_more {ns ms : List Str} (s : ∀ x ∈ ns, x ∈ ms) : ∀ i : It, okI ns i → okI ms i
  | .call x, h => by simp only [okI] at h ⊢; exact s x h
  | .may b, h => by simp only [okI] at h ⊢; exact ⟨h.1, okB_more s b h.2⟩
  | .loop b, h => by simp only [okI] at h ⊢; exact ⟨h.1, okB_more s b h.2⟩
  | .one bs, h => by simp only [okI] at h ⊢; exact ⟨h.1, h.2.1, h.2.2.1, okBs_more s bs h.2.2.2⟩
theorem okB_more {ns ms : List Str} (s : ∀ x ∈ ns, x ∈ ms) : ∀ b : List It, okB ns b → okB ms b
  | [], _ => by simp [okB]
  | i :: r, h => by simp only [okB] at h ⊢; exact ⟨okI_more s i h.1, okB_more s r h.2⟩
theorem okBs_more {ns ms : List Str} (s : ∀ x ∈ ns, x ∈ ms) : ∀ bs : List (List It), okBs ns bs → okBs ms bs
  | [], _ => by simp [okBs]
  | b :: r, h => by simp only [okBs] at h ⊢; exact ⟨okB_more s b h.1, okBs_more s r h.2⟩
end
theorem mergeK_nd : ∀ (more kvs : List (Key × V)), ((kvs ++ more).map (·.1)).Nodup → mergeK kvs more = kvs ++ more
  | [], kvs, _ => by simp [mergeK]
  | q :: r, kvs, nd => by
    have e : mergeK kvs (q :: r) = mergeK (putK kvs q.1 q.2) r := rfl
    have hv : valV kvs q.1 = none := valV_out fun u hu z => by
      rw [List.map_append, List.nodup_append] at nd
      exact nd.2.2 u.1 (List.mem_map.mpr ⟨u, hu, rfl⟩) q.1 (by simp) z
    rw [e, putK_new _ hv, mergeK_nd r _ (by rw [List.append_assoc]; exact nd), List.append_assoc]
    rfl
theorem Sm.put {W : List Addr} {H H1 : Hp} {L : Addr} {o : HO} (h : H L = Option.none) (s : Sm W H H1) : Sm W H (upd H1 L o) := fun b u n e => by
  rw [upd_ne (ne_of_none e h)]
  exact s b u n e
theorem kp_off {W : List Addr} {H : Hp} : Kp (wo W H) H := ⟨fun x xs e => (wo_some.mp e).2, fun x xs e => (wo_some.mp e).2⟩
theorem cut_to' (xs : List V) (k : Nat) : cutV xs none (some (k : Int)) = xs.take k := by
  unfold cutV
  rw [HT.sIx_none, HT.sIx_nat, List.drop_zero, Nat.sub_zero]
  by_cases h : k ≤ xs.length
  · rw [Nat.min_eq_left h]
  · rw [Nat.min_eq_right (by omega), List.take_of_length_le (Nat.le_refl _), List.take_of_length_le (by omega)]
theorem Paired.weak {α β : Type} {F G : α → β → Prop} (h : ∀ a b, F a b → G a b) : ∀ {l : List α} {m : List β}, Paired F l m → Paired G l m
  | _, _, .nil => .nil
  | _, _, .cons a t => .cons (h _ _ a) (Paired.weak h t)
theorem paired_mem {α β : Type} {F G : α → β → Prop} : ∀ {l : List α} {m : List β}, Paired F l m → (∀ a ∈ l, ∀ b, F a b → G a b) → Paired G l m
  | _, _, .nil, _ => .nil
  | _, _, .cons a t, h => .cons (h _ (by simp) _ a) (paired_mem t fun x hx b hb => h x (List.mem_cons_of_mem _ hx) b hb)
theorem kp_dk {H : Hp} {d : Addr} {k0 kvs : List (Key × V)} (h : H d = some (.dK k0)) : Kp H (upd H d (.dK kvs)) :=
  ⟨fun b xs e => by rw [upd_ne (by rintro rfl; rw [h] at e; cases e)]; exact e, fun b xs e => by rw [upd_ne (by rintro rfl; rw [h] at e; cases e)]; exact e⟩
theorem str_get {ns : List Str} {j : Nat} {x : V} (h : (ns.map V.str)[j]? = some x) : ∃ y, ns[j]? = some y ∧ x = .str y := by
  rw [List.getElem?_map] at h
  cases e : ns[j]? with
  | none => rw [e] at h; cases h
  | some y => rw [e] at h; cases h; exact ⟨y, rfl, rfl⟩
/-! ### walks of enumerate, of tuples -/
theorem SqT.same {K : PySem.W.Frag} {H H' : Hp} {a : Addr} {xs : List V} (e : Same H H') (h : SqT K H a xs) : SqT K H' a xs := by
  rcases h with (h | ⟨o, h⟩) | h
  · exact .inl (.inl (e _ _ h))
  · exact .inl (.inr ⟨o, e _ _ h⟩)
  · exact .inr h
theorem for_enum {K : PySem.W.Frag} {a : Addr} {xs : List V} {g : TG} {tb : TS} {D : Ends} {σ : L2.St} {H : Hp} (Pv : Nat → L2.St → Hp → Prop) (h0 : Pv 0 σ H) (hl : ∀ i σ H, i ≤ xs.length → Pv i σ H → SqL K H a xs)
    (hs : ∀ i x σ H T, xs[i]? = some x → Pv i σ H → H T = none → g (.ref T) σ (upd H T (.tup [.int (i : Nat), x])) fun σ2 H2 => tb { D with nx := Pv (i + 1), ct := Pv (i + 1), bk := D.nx } σ2 H2) (hd : ∀ σ H, Pv xs.length σ H → D.nx σ H) :
    ∃ W : Nat → Nat → L2.St → Hp → Prop, (∃ m, W 0 m σ H) ∧ ∀ i m σ H, W i m σ H →
      ((Ite K a).stop i H ∧ D.nx σ H) ∨ ((Ite K a).go i H ∧ ∃ N : L2.St → Hp → Prop, (∀ σ' H', N σ' H' → ∃ m', m' < m ∧ W (i + 1) m' σ' H') ∧ ∀ x H', (Ite K a).yld i H x H' → g x σ H' fun σ2 H2 => tb { D with nx := N, ct := N, bk := D.nx } σ2 H2) := by
  refine ⟨fun i m σ H => m = xs.length - i ∧ i ≤ xs.length ∧ Pv i σ H, ⟨xs.length, by simp, Nat.zero_le _, h0⟩, ?_⟩
  rintro i m σ H ⟨rfl, hi, p⟩
  have q := hl i σ H hi p
  by_cases hlt : i < xs.length
  · refine .inr ⟨⟨xs, xs[i], q, by simp [hlt]⟩, Pv (i + 1), fun σ' H' p' => ⟨xs.length - (i + 1), by omega, rfl, hlt, p'⟩, fun x H' y => ?_⟩
    obtain ⟨T, x, rfl, hT, rfl, y⟩ := y
    exact hs i x σ _ T (y xs q) p hT
  · have e : i = xs.length := by omega
    subst e
    exact .inl ⟨⟨xs, q, Nat.le_refl _⟩, hd σ H p⟩
section
variable {K : PySem.W.Frag} {H1 : Hp} {a : Addr} {xs : List V}
theorem go_t (h : SqT K H1 a xs) : ∀ i H, Same H1 H → i < xs.length → (Itt K a).go i H := fun i H sm hi => ⟨xs, xs[i], SqT.same sm h, by simp [hi]⟩
theorem stop_t (h : SqT K H1 a xs) : ∀ H, Same H1 H → (Itt K a).stop xs.length H := fun H sm => ⟨xs, SqT.same sm h, Nat.le_refl _⟩
theorem yld_t (h : SqT K H1 a xs) : ∀ i H x H', Same H1 H → i < xs.length → (Itt K a).yld i H x H' → H' = H ∧ xs[i]? = some x := fun i H x H' sm hi y => ⟨y.1, y.2 xs (SqT.same sm h)⟩
end
section
variable {X : Cx}
/-- 'main' * 2 -/
theorem op_mul_main : OpR X (binaryOp .Mult) (fun x y H Q => x = .str "main" ∧ y = .int 2 ∧ Q (.str "mainmain") H) := by
  intro pins s σ H x y v u Q I rx ry h
  obtain ⟨rfl, rfl, q⟩ := h
  obtain ⟨t, rfl⟩ := rx
  obtain ⟨t', rfl⟩ := ry
  refine PySem.P.mul_str (by decide) (fun _ _ => by decide +kernel) (fun _ _ => by decide +kernel) ?_
  rw [if_neg (by decide), if_neg (by decide)]
  exact ⟨by decide +kernel, .str "mainmain", H, I.tok _, ⟨_, by first | rfl | decide +kernel⟩, q⟩
end
mutual
def nmI : It → List Str
  | .call x => [x]
  | .may b => nmB b
  | .loop b => nmB b
  | .one bs => nmBs bs
def nmB : List It → List Str
  | [] => []
  | i :: r => nmI i ++ nmB r
def nmBs : List (List It) → List Str
  | [] => []
  | b :: r => nmB b ++ nmBs r
end
mutual
theorem nmI_len : ∀ i : It, (nmI i).length = nC i
  | .call x => by simp [nmI, nC]
  | .may b => by simp only [nmI, nC, nmB_len b]
  | .loop b => by simp only [nmI, nC, nmB_len b]
  | .one bs => by simp only [nmI, nC, nmBs_len bs]
theorem nmB_len : ∀ b : List It, (nmB b).length = nCB b
  | [] => by simp [nmB, nCB]
  | i :: r => by simp only [nmB, nCB, List.length_append, nmI_len i, nmB_len r]
theorem nmBs_len : ∀ bs : List (List It), (nmBs bs).length = nCBs bs
  | [] => by simp [nmBs, nCBs]
  | b :: r => by simp only [nmBs, nCBs, List.length_append, nmB_len b, nmBs_len r]
end
mutual
theorem nmI_ok {ns : List Str} : ∀ i : It, okI ns i → ∀ x ∈ nmI i, x ∈ ns
  | .call y, h, x, hx => by simp only [okI] at h; simp only [nmI, List.mem_singleton] at hx; rw [hx]; exact h
  | .may b, h, x, hx => by simp only [okI] at h; simp only [nmI] at hx; exact nmB_ok b h.2 x hx
  | .loop b, h, x, hx => by simp only [okI] at h; simp only [nmI] at hx; exact nmB_ok b h.2 x hx
  | .one bs, h, x, hx => by simp only [okI] at h; simp only [nmI] at hx; exact nmBs_ok bs h.2.2.2 x hx
theorem nmB_ok {ns : List Str} : ∀ b : List It, okB ns b → ∀ x ∈ nmB b, x ∈ ns
  | [], _, x, hx => by simp [nmB] at hx
  | i :: r, h, x, hx => by
    simp only [okB] at h
    simp only [nmB, List.mem_append] at hx
    exact hx.elim (nmI_ok i h.1 x) (nmB_ok r h.2 x)
theorem nmBs_ok {ns : List Str} : ∀ bs : List (List It), okBs ns bs → ∀ x ∈ nmBs bs, x ∈ ns
  | [], _, x, hx => by simp [nmBs] at hx
  | b :: r, h, x, hx => by
    simp only [okBs] at h
    simp only [nmBs, List.mem_append] at hx
    exact hx.elim (nmB_ok b h.1 x) (nmBs_ok r h.2 x)
end
theorem nmB_take {l : List It} {i : Nat} {it : It} (h : l[i]? = some it) : nmB (l.take (i + 1)) = nmB (l.take i) ++ nmI it := by
  have app : ∀ a b : List It, nmB (a ++ b) = nmB a ++ nmB b := fun a b => by
    induction a with
    | nil => simp [nmB]
    | cons x r ih => simp only [List.cons_append, nmB, ih, List.append_assoc]
  rw [List.take_add_one, h, app]
  simp [nmB]
theorem nmBs_take {l : List (List It)} {i : Nat} {b : List It} (h : l[i]? = some b) : nmBs (l.take (i + 1)) = nmBs (l.take i) ++ nmB b := by
  have app : ∀ a b : List (List It), nmBs (a ++ b) = nmBs a ++ nmBs b := fun a b => by
    induction a with
    | nil => simp [nmBs]
    | cons x r ih => simp only [List.cons_append, nmBs, ih, List.append_assoc]
  rw [List.take_add_one, h, app]
  simp [nmBs]
/-- the bodies of an item that is no call -/
def bodies : It → List (List It)
  | .call _ => []
  | .may b => [b]
  | .loop b => [b]
  | .one bs => bs
theorem bodies_nm : ∀ i : It, (∀ x, i ≠ .call x) → nmBs (bodies i) = nmI i
  | .call x, h => absurd rfl (h x)
  | .may b, _ => by simp [bodies, nmBs, nmI]
  | .loop b, _ => by simp [bodies, nmBs, nmI]
  | .one bs, _ => rfl
theorem bodies_ok {ns : List Str} : ∀ i : It, okI ns i → okBs ns (bodies i)
  | .call x, _ => by simp [bodies, okBs]
  | .may b, h => by simp only [okI] at h; simp [bodies, okBs, h.2]
  | .loop b, h => by simp only [okI] at h; simp [bodies, okBs, h.2]
  | .one bs, h => by simp only [okI] at h; exact h.2.2.2
theorem bodies_d : ∀ i : It, dBs (bodies i) ≤ dI i
  | .call x => by simp [bodies, dBs, dI]
  | .may b => by simp only [bodies, dBs, dI]; omega
  | .loop b => by simp only [bodies, dBs, dI]; omega
  | .one bs => by simp only [bodies, dI]; omega
theorem strs_refs {ns : List Str} {b : Addr} {r : List V} (h : (ns.map V.str) = V.ref b :: r) : False := by
  cases ns with
  | nil => cases h
  | cons a r => cases h
theorem okB_take {ns : List Str} {l : Bd} (k : Nat) (h : okB ns l) : okB ns (l.take k) := by
  rw [okB_all] at h ⊢
  exact fun i hi => h i (List.mem_of_mem_take hi)
theorem nCB_take : ∀ (l : Bd) (k : Nat), nCB (l.take k) ≤ nCB l
  | [], k => by simp [nCB]
  | i :: r, 0 => by simp [nCB]
  | i :: r, k + 1 => by have := nCB_take r k; simp only [List.take_succ_cons, nCB]; omega
theorem nIB_take : ∀ (l : Bd) (k : Nat), nIB (l.take k) ≤ nIB l
  | [], k => by simp [nIB]
  | i :: r, 0 => by simp [nIB]
  | i :: r, k + 1 => by have := nIB_take r k; simp only [List.take_succ_cons, nIB]; omega
theorem dB_pos : ∀ b : List It, 1 ≤ dB b
  | [] => by simp [dB]
  | i :: r => by have := dB_pos r; simp only [dB]; omega
theorem dB_take : ∀ (l : Bd) (k : Nat), dB (l.take k) ≤ dB l
  | [], k => by simp [dB]
  | i :: r, 0 => by have := dB_pos (i :: r); simp only [List.take_zero, dB] at this ⊢; omega
  | i :: r, k + 1 => by have := dB_take r k; simp only [List.take_succ_cons, dB]; omega
theorem nCBs_mem : ∀ {bs : List (List It)} {b}, b ∈ bs → nCB b ≤ nCBs bs
  | b' :: r, b, h => by
    rcases List.mem_cons.mp h with rfl | h
    · simp only [nCBs]; omega
    · have := nCBs_mem h; simp only [nCBs]; omega
theorem nIBs_mem : ∀ {bs : List (List It)} {b}, b ∈ bs → nIB b ≤ nIBs bs
  | b' :: r, b, h => by
    rcases List.mem_cons.mp h with rfl | h
    · simp only [nIBs]; omega
    · have := nIBs_mem h; simp only [nIBs]; omega
theorem dBs_mem : ∀ {bs : List (List It)} {b}, b ∈ bs → dB b ≤ dBs bs
  | b' :: r, b, h => by
    rcases List.mem_cons.mp h with rfl | h
    · simp only [dBs]; omega
    · have := dBs_mem h; simp only [dBs]; omega
theorem dB_mem : ∀ {l : List It} {it : It}, it ∈ l → 1 + dI it ≤ dB l
  | i :: r, it, h => by
    simp only [dB]
    rcases List.mem_cons.mp h with rfl | h
    · omega
    · have := dB_mem h; omega
theorem nCB_mem {l : List It} {i : It} (h : i ∈ l) : nC i ≤ nCB l := by
  induction l with
  | nil => cases h
  | cons x r ih =>
    simp only [nCB]
    rcases List.mem_cons.mp h with e | h
    · rw [e]; omega
    · have := ih h; omega
theorem nI_bodies : ∀ i : It, nIBs (bodies i) = nI i
  | .call x => by simp [bodies, nIBs, nI]
  | .may b => by simp [bodies, nIBs, nI]
  | .loop b => by simp [bodies, nIBs, nI]
  | .one bs => by simp only [bodies, nI]
theorem nIB_mem {l : List It} {i : It} (h : i ∈ l) : nI i ≤ nIB l := by
  induction l with
  | nil => cases h
  | cons x r ih =>
    simp only [nIB]
    rcases List.mem_cons.mp h with e | h
    · rw [e]; omega
    · have := ih h; omega
theorem nC_bodies {i : It} (h : ∀ x, i ≠ .call x) : nCBs (bodies i) = nC i := by
  have := congrArg List.length (bodies_nm i h)
  rw [nmBs_len, nmI_len] at this
  exact this
theorem nmBs_pre {bs : List (List It)} (j : Nat) : (nmBs (bs.take j)).length ≤ nCBs bs := by
  have t := List.take_append_drop j bs
  have e : nCBs bs = nCBs (bs.take j) + nCBs (bs.drop j) := by rw [← t, nCBs_app, t]
  rw [nmBs_len]
  omega
theorem nmB_pre (l : List It) (i : Nat) : (nmB (l.take i)).length ≤ nCB l := by
  rw [nmB_len]
  exact nCB_take l i

theorem nIB_len : ∀ l : List It, l.length ≤ nIB l
  | [] => by simp [nIB]
  | i :: r => by have := nIB_len r; simp only [List.length_cons, nIB]; omega
/-- an item by its parts: a call, or a tuple of its kind and a list -/
theorem ItAt.parts {H : Hp} {v : V} {it : It} (h : ItAt H v it) : (∃ x, v = .str x ∧ it = .call x) ∨
    ∃ t k b vs, v = .ref t ∧ H t = some (.tup [.str k, .ref b]) ∧ H b = some (.lst vs) ∧ ((k = "one" ∧ ∃ ls, it = .one ls ∧ BdsAt H vs ls) ∨ (k ≠ ("one" : Str) ∧ ∃ l, (it = .may l ∨ it = .loop l) ∧ ItsAt H vs l)) := by
  cases h with
  | call x => exact .inl ⟨x, rfl, rfl⟩
  | may h1 h2 h3 => exact .inr ⟨_, _, _, _, rfl, h1, h2, .inr ⟨by decide, _, .inl rfl, h3⟩⟩
  | loop h1 h2 h3 => exact .inr ⟨_, _, _, _, rfl, h1, h2, .inr ⟨by decide, _, .inr rfl, h3⟩⟩
  | one h1 h2 h3 => exact .inr ⟨_, _, _, _, rfl, h1, h2, .inl ⟨rfl, _, rfl, h3⟩⟩
/-! ### what is new, but for one list that grows -/
theorem kp_turn {W : List Addr} {f : Addr} {H H1 H2 : Hp} (g : ∀ x ∈ W, ∃ o, H x = some o) (s : Sm W H1 H2) : Kp (wo [f] (fr H H1)) (wo [f] (fr H H2)) := by
  have key : ∀ x o, wo [f] (fr H H1) x = some o → wo [f] (fr H H2) x = some o := fun x o e => by
    rw [wo_some, fr_some] at e ⊢
    refine ⟨e.1, e.2.1, s x o (fun z => ?_) e.2.2⟩
    obtain ⟨u, e2⟩ := g x z
    rw [e2] at e
    cases e.2.1
  exact ⟨fun x xs e => key _ _ e, fun x xs e => key _ _ e⟩
theorem kp_put {f : Addr} {H H2 : Hp} {o : HO} : Kp (wo [f] (fr H H2)) (wo [f] (fr H (upd H2 f o))) := by
  have key : ∀ x u, wo [f] (fr H H2) x = some u → wo [f] (fr H (upd H2 f o)) x = some u := fun x u e => by
    rw [wo_some, fr_some] at e ⊢
    refine ⟨e.1, e.2.1, ?_⟩
    rw [upd_ne (by simpa using e.1)]
    exact e.2.2
  exact ⟨fun x xs e => key _ _ e, fun x xs e => key _ _ e⟩
theorem kp_in {W : List Addr} {f : Addr} {H H1 H2 : Hp} {u : HO} (s : Sm W H H1) (k : ∀ x ∈ W, ∃ o, H1 x = some o) (hf : H1 f = some u) : Kp (fr H1 H2) (wo [f] (fr H H2)) := by
  have key : ∀ x v, fr H1 H2 x = some v → wo [f] (fr H H2) x = some v := fun x v e => by
    rw [fr_some] at e
    have ne : x ≠ f := by
      rintro rfl
      rw [hf] at e
      cases e.1
    rw [wo_some, fr_some]
    exact ⟨by simpa using ne, none_back s k e.1, e.2⟩
  exact ⟨fun x xs e => key _ _ e, fun x xs e => key _ _ e⟩
theorem wof_new {W : List Addr} {f p : Addr} {H H1 H2 : Hp} {u o : HO} (s : Sm W H H1) (k : ∀ x ∈ W, ∃ o, H1 x = some o) (hf : H1 f = some u) (hp : H1 p = none) (h : H2 p = some o) : wo [f] (fr H H2) p = some o := by
  have ne : p ≠ f := by
    rintro rfl
    rw [hf] at hp
    cases hp
  rw [wo_some, fr_some]
  exact ⟨by simpa using ne, none_back s k hp, h⟩
theorem nCB_takeS {l : List It} {i : Nat} {it : It} (h : l[i]? = some it) : nCB (l.take (i + 1)) = nCB (l.take i) + nC it := by
  rw [List.take_add_one, h]
  exact nCB_snoc _ _
theorem nIB_takeS {l : List It} {i : Nat} {it : It} (h : l[i]? = some it) : nIB (l.take (i + 1)) = nIB (l.take i) + (1 + nI it) := by
  rw [List.take_add_one, h]
  exact nIB_snoc _ _
theorem sum_nCB : ∀ bs : List (List It), (bs.map fun b => (nCB b : Int)).sum = nCBs bs
  | [] => rfl
  | b :: r => by have := sum_nCB r; simp only [List.map_cons, List.sum_cons, nCBs]; omega
theorem sum_nIB : ∀ bs : List (List It), (bs.map fun b => (nIB b : Int)).sum = nIBs bs
  | [] => rfl
  | b :: r => by have := sum_nIB r; simp only [List.map_cons, List.sum_cons, nIBs]; omega
theorem dd_strs {K : PySem.W.Frag} {H : Hp} : ∀ ls : List Str, DdAll K H (ls.map V.str) (ls.map PyData.str)
  | [] => .nil
  | x :: r => .cons (.str x) (dd_strs r)
end FA

set_option Elab.async false
set_option linter.all false
set_option maxRecDepth 100000
set_option maxHeartbeats 4000000
/-! What repr needs of data, put together from parts. -/
namespace FA
open PySem PySem.Spec PyProof.Rows L2
/-- d can be shown, is at most k deep and of a bulk of at most b -/
structure Fits (d : PyData) (k b : Nat) : Prop where
  sh : d.showable = true
  lv : d.leavesShort 13 = true
  dp : d.depth ≤ k
  bk : d.bulk ≤ b
structure FitsAll (ds : List PyData) (k b : Nat) : Prop where
  sh : PyData.showableAll ds = true
  lv : PyData.leavesShortAll 13 ds = true
  dp : PyData.depthAll ds ≤ k
  bk : PyData.bulkAll ds ≤ b
theorem Fits.str {x : Str} (h : okName x) : Fits (.str x) 0 8 := ⟨rfl, by simp only [PyData.leavesShort]; exact h.short, by simp [PyData.depth], by simp only [PyData.bulk]; exact h.2.1⟩
theorem Fits.non : Fits .none 0 0 := ⟨rfl, rfl, by simp [PyData.depth], by simp [PyData.bulk]⟩
theorem Fits.bool (b : Bool) : Fits (.bool b) 0 0 := ⟨rfl, rfl, by simp [PyData.depth], by simp [PyData.bulk]⟩
theorem int_fits_ok : ∀ n : Fin 1000, (PyData.int ((n : Nat) : Int)).leavesShort 13 = true ∧ (PyData.int ((n : Nat) : Int)).showable = true := by decide +kernel
theorem Fits.int {n : Nat} (h : n < 1000) : Fits (.int (n : Nat)) 0 0 := by
  obtain ⟨h1, h2⟩ := int_fits_ok ⟨n, h⟩
  exact ⟨h2, h1, by simp [PyData.depth], by simp [PyData.bulk]⟩
theorem Fits.list {ds : List PyData} {k b : Nat} (h : FitsAll ds k b) : Fits (.list ds) (k + 1) b := ⟨by simp only [PyData.showable]; exact h.sh, by simp only [PyData.leavesShort]; exact h.lv, by have := h.dp; simp only [PyData.depth]; omega, by simp only [PyData.bulk]; exact h.bk⟩
theorem Fits.tup {ds : List PyData} {k b : Nat} (h : FitsAll ds k b) : Fits (.tuple ds) (k + 1) b := ⟨by simp only [PyData.showable]; exact h.sh, by simp only [PyData.leavesShort]; exact h.lv, by have := h.dp; simp only [PyData.depth]; omega, by simp only [PyData.bulk]; exact h.bk⟩
theorem FitsAll.nil {k b : Nat} : FitsAll [] k b := ⟨rfl, rfl, by simp [PyData.depthAll], by simp [PyData.bulkAll]⟩
theorem FitsAll.cons {d : PyData} {ds : List PyData} {k b c : Nat} (h : Fits d k b) (t : FitsAll ds k c) : FitsAll (d :: ds) k (b + 1 + c) := ⟨by simp only [PyData.showableAll, h.sh, t.sh, Bool.and_self], by simp only [PyData.leavesShortAll, h.lv, t.lv, Bool.and_self], by have := h.dp; have := t.dp; simp only [PyData.depthAll]; omega, by have := h.bk; have := t.bk; simp only [PyData.bulkAll]; omega⟩
theorem Fits.mono {d : PyData} {k b k' b' : Nat} (h : Fits d k b) (hk : k ≤ k') (hb : b ≤ b') : Fits d k' b' := ⟨h.sh, h.lv, by have := h.dp; omega, by have := h.bk; omega⟩
theorem FitsAll.mono {ds : List PyData} {k b k' b' : Nat} (h : FitsAll ds k b) (hk : k ≤ k') (hb : b ≤ b') : FitsAll ds k' b' := ⟨h.sh, h.lv, by have := h.dp; omega, by have := h.bk; omega⟩
/-- all alike -/
theorem FitsAll.map {α : Type} {f : α → PyData} {k b : Nat} : ∀ {l : List α}, (∀ a ∈ l, Fits (f a) k b) → FitsAll (l.map f) k ((b + 1) * l.length)
  | [], _ => .nil
  | a :: r, h => by
    have h1 := h a (by simp)
    have h2 := FitsAll.map (l := r) fun x hx => h x (List.mem_cons_of_mem _ hx)
    rw [List.map_cons]
    exact (FitsAll.cons h1 h2).mono (Nat.le_refl _) (by rw [List.length_cons, Nat.mul_succ]; omega)
theorem FitsAll.strs {ls : List Str} (h : ∀ x ∈ ls, okName x) : FitsAll (ls.map PyData.str) 0 (9 * ls.length) := FitsAll.map (b := 8) fun x hx => .str (h x hx)
theorem Fits.len {d : PyData} {k b : Nat} (h : Fits d k b) (hb : b ≤ 1000000) : d.shown.length ≤ sizeLine := by
  refine PyData.shown_fits_bulk (B := 13) (by decide) (by decide) h.lv ?_
  have h1 := h.bk
  have e : (2 : Nat) ^ 20 = 1048576 := by decide
  omega
end FA

set_option Elab.async false
set_option linter.all false
set_option maxRecDepth 100000
set_option maxHeartbeats 4000000
/-! The text of the law and the program, by places. -/
namespace K13
open PySem PySem.Spec PyProof.Rows L2 FA
def top (i : Nat) : Stmt := PySem.Challenge.pw_stacksamples_k13_regions.main.body.getD i (.Pass ⟨0, 0, 0, 0⟩)
abbrev sIsName : Stmt := top 14
theorem scIsName : FnScope ["value", "letter"] ["value"] (defScope sIsName) := ⟨rfl, rfl, rfl, by decide +kernel, rfl, by decide +kernel, by decide +kernel⟩
abbrev sIsFunction : Stmt := top 15
theorem scIsFunction : FnScope ["program", "value"] ["program", "value"] (defScope sIsFunction) := ⟨rfl, rfl, rfl, by decide +kernel, rfl, by decide +kernel, by decide +kernel⟩
abbrev sChoices : Stmt := top 16
theorem scChoices : FnScope ["item", "kind", "within"] ["item"] (defScope sChoices) := ⟨rfl, rfl, rfl, by decide +kernel, rfl, by decide +kernel, by decide +kernel⟩
abbrev sItemSize : Stmt := top 17
theorem scItemSize : FnScope ["program", "item", "level", "choices", "sizes", "body", "calls", "_", "items"] ["program", "item", "level"] (defScope sItemSize) := ⟨rfl, rfl, rfl, by decide +kernel, rfl, by decide +kernel, by decide +kernel⟩
abbrev sBodySize : Stmt := top 18
theorem scBodySize : FnScope ["program", "body", "level", "calls", "items", "item", "size"] ["program", "body", "level"] (defScope sBodySize) := ⟨rfl, rfl, rfl, by decide +kernel, rfl, by decide +kernel, by decide +kernel⟩
abbrev sLeastInItem : Stmt := top 19
theorem scLeastInItem : FnScope ["least", "item", "body"] ["least", "item"] (defScope sLeastInItem) := ⟨rfl, rfl, rfl, by decide +kernel, rfl, by decide +kernel, by decide +kernel⟩
abbrev sLeastInBody : Stmt := top 20
theorem scLeastInBody : FnScope ["least", "body", "item"] ["least", "body"] (defScope sLeastInBody) := ⟨rfl, rfl, rfl, by decide +kernel, rfl, by decide +kernel, by decide +kernel⟩
abbrev sLeastCalls : Stmt := top 21
theorem scLeastCalls : FnScope ["program", "too_many", "least", "_", "name"] ["program"] (defScope sLeastCalls) := ⟨rfl, rfl, rfl, by decide +kernel, rfl, by decide +kernel, by decide +kernel⟩
abbrev sIsProgram : Stmt := top 22
theorem scIsProgram : FnScope ["value", "least", "name"] ["value"] (defScope sIsProgram) := ⟨rfl, rfl, rfl, by decide +kernel, rfl, by decide +kernel, by decide +kernel⟩
abbrev sCheckProgram : Stmt := top 23
theorem scCheckProgram : FnScope ["program"] ["program"] (defScope sCheckProgram) := ⟨rfl, rfl, rfl, by decide +kernel, rfl, by decide +kernel, by decide +kernel⟩
abbrev sIsStack : Stmt := top 24
theorem scIsStack : FnScope ["program", "value", "name"] ["program", "value"] (defScope sIsStack) := ⟨rfl, rfl, rfl, by decide +kernel, rfl, by decide +kernel, by decide +kernel⟩
abbrev sCheckStacks : Stmt := top 25
theorem scCheckStacks : FnScope ["program", "stacks", "stack"] ["program", "stacks"] (defScope sCheckStacks) := ⟨rfl, rfl, rfl, by decide +kernel, rfl, by decide +kernel, by decide +kernel⟩
abbrev sRegions : Stmt := top 27
theorem scRegions : FnScope ["program", "stacks", "found", "number", "stack", "first"] ["program", "stacks"] (defScope sRegions) := ⟨rfl, rfl, rfl, by decide +kernel, rfl, by decide +kernel, by decide +kernel⟩
abbrev sLSpring : Stmt := top 29
theorem scLSpring : FnScope ["script", "cell", "digits", "mixed"] ["script"] (defScope sLSpring) := ⟨rfl, rfl, rfl, by decide +kernel, rfl, by decide +kernel, by decide +kernel⟩
abbrev sLDraw : Stmt := top 30
theorem scLDraw : FnScope ["spring", "many", "grain", "found"] ["spring", "many"] (defScope sLDraw) := ⟨rfl, rfl, rfl, by decide +kernel, rfl, by decide +kernel, by decide +kernel⟩
abbrev sLItems : Stmt := top 31
theorem scLItems : FnScope ["spring", "some", "calls", "deep", "turn", "found", "used", "way", "left", "inner", "more", "other"] ["spring", "some", "calls", "deep"] (defScope sLItems) := ⟨rfl, rfl, rfl, by decide +kernel, rfl, by decide +kernel, by decide +kernel⟩
abbrev sLCalls : Stmt := top 32
theorem scLCalls : FnScope ["body", "found", "item", "inner"] ["body"] (defScope sLCalls) := ⟨rfl, rfl, rfl, by decide +kernel, rfl, by decide +kernel, by decide +kernel⟩
abbrev sLCount : Stmt := top 33
theorem scLCount : FnScope ["body", "found", "item", "inner"] ["body"] (defScope sLCount) := ⟨rfl, rfl, rfl, by decide +kernel, rfl, by decide +kernel, by decide +kernel⟩
abbrev sLCost : Stmt := top 34
theorem scLCost : FnScope ["costs", "body", "found", "item", "inner"] ["costs", "body"] (defScope sLCost) := ⟨rfl, rfl, rfl, by decide +kernel, rfl, by decide +kernel, by decide +kernel⟩
abbrev sLProgram : Stmt := top 35
theorem scLProgram : FnScope ["spring", "most", "calls", "can_recur", "names", "costs", "turn", "name", "keys", "found", "place", "some", "body"] ["spring", "most", "calls", "can_recur"] (defScope sLProgram) := ⟨rfl, rfl, rfl, by decide +kernel, rfl, by decide +kernel, by decide +kernel⟩
abbrev sLCallees : Stmt := top 36
theorem scLCallees : FnScope ["body", "found", "item", "inner"] ["body"] (defScope sLCallees) := ⟨rfl, rfl, rfl, by decide +kernel, rfl, by decide +kernel, by decide +kernel⟩
abbrev sLStack : Stmt := top 37
theorem scLStack : FnScope ["spring", "program", "top", "deep", "odd", "found", "turn", "some"] ["spring", "program", "top", "deep", "odd"] (defScope sLStack) := ⟨rfl, rfl, rfl, by decide +kernel, rfl, by decide +kernel, by decide +kernel⟩
abbrev sLStacks : Stmt := top 38
theorem scLStacks : FnScope ["spring", "program", "top", "size", "odd", "turn", "found", "deep", "way", "last", "cut"] ["spring", "program", "top", "size", "odd"] (defScope sLStacks) := ⟨rfl, rfl, rfl, by decide +kernel, rfl, by decide +kernel, by decide +kernel⟩
abbrev sLDue : Stmt := top 39
theorem scLDue : FnScope ["stacks", "found", "place", "stack", "name"] ["stacks"] (defScope sLDue) := ⟨rfl, rfl, rfl, by decide +kernel, rfl, by decide +kernel, by decide +kernel⟩
abbrev sLRight : Stmt := top 40
theorem scLRight : FnScope ["program", "stacks", "turn", "kept", "due", "answer"] ["program", "stacks"] (defScope sLRight) := ⟨rfl, rfl, rfl, by decide +kernel, rfl, by decide +kernel, by decide +kernel⟩
abbrev sLaw : Stmt := top 41
theorem scLaw : FnScope ["script", "spring", "turn", "program", "top", "size", "stacks"] ["script"] (defScope sLaw) := ⟨rfl, rfl, rfl, by decide +kernel, rfl, by decide +kernel, by decide +kernel⟩
/-- what the top has left: the defs, the constants, and that the built-in names are the built-in ones -/
structure Txt (K : PySem.W.Frag) (mg : Str → Option Value) where
  aIsName : Addr
  fIsName : FuncData
  FIsName : Fun K "is_name" "is_name" sIsName aIsName fIsName
  bIsName : Binds K fIsName ["value"] []
  gIsName : mg "is_name" = some (.ref aIsName)
  aIsFunction : Addr
  fIsFunction : FuncData
  FIsFunction : Fun K "is_function" "is_function" sIsFunction aIsFunction fIsFunction
  bIsFunction : Binds K fIsFunction ["program", "value"] []
  gIsFunction : mg "is_function" = some (.ref aIsFunction)
  aChoices : Addr
  fChoices : FuncData
  FChoices : Fun K "_choices" "_choices" sChoices aChoices fChoices
  bChoices : Binds K fChoices ["item"] []
  gChoices : mg "_choices" = some (.ref aChoices)
  aItemSize : Addr
  fItemSize : FuncData
  FItemSize : Fun K "_item_size" "_item_size" sItemSize aItemSize fItemSize
  bItemSize : Binds K fItemSize ["program", "item", "level"] []
  gItemSize : mg "_item_size" = some (.ref aItemSize)
  aBodySize : Addr
  fBodySize : FuncData
  FBodySize : Fun K "_body_size" "_body_size" sBodySize aBodySize fBodySize
  bBodySize : Binds K fBodySize ["program", "body", "level"] []
  gBodySize : mg "_body_size" = some (.ref aBodySize)
  aLeastInItem : Addr
  fLeastInItem : FuncData
  FLeastInItem : Fun K "_least_in_item" "_least_in_item" sLeastInItem aLeastInItem fLeastInItem
  bLeastInItem : Binds K fLeastInItem ["least", "item"] []
  gLeastInItem : mg "_least_in_item" = some (.ref aLeastInItem)
  aLeastInBody : Addr
  fLeastInBody : FuncData
  FLeastInBody : Fun K "_least_in_body" "_least_in_body" sLeastInBody aLeastInBody fLeastInBody
  bLeastInBody : Binds K fLeastInBody ["least", "body"] []
  gLeastInBody : mg "_least_in_body" = some (.ref aLeastInBody)
  aLeastCalls : Addr
  fLeastCalls : FuncData
  FLeastCalls : Fun K "_least_calls" "_least_calls" sLeastCalls aLeastCalls fLeastCalls
  bLeastCalls : Binds K fLeastCalls ["program"] []
  gLeastCalls : mg "_least_calls" = some (.ref aLeastCalls)
  aIsProgram : Addr
  fIsProgram : FuncData
  FIsProgram : Fun K "is_program" "is_program" sIsProgram aIsProgram fIsProgram
  bIsProgram : Binds K fIsProgram ["value"] []
  gIsProgram : mg "is_program" = some (.ref aIsProgram)
  aCheckProgram : Addr
  fCheckProgram : FuncData
  FCheckProgram : Fun K "check_program" "check_program" sCheckProgram aCheckProgram fCheckProgram
  bCheckProgram : Binds K fCheckProgram ["program"] []
  gCheckProgram : mg "check_program" = some (.ref aCheckProgram)
  aIsStack : Addr
  fIsStack : FuncData
  FIsStack : Fun K "is_stack" "is_stack" sIsStack aIsStack fIsStack
  bIsStack : Binds K fIsStack ["program", "value"] []
  gIsStack : mg "is_stack" = some (.ref aIsStack)
  aCheckStacks : Addr
  fCheckStacks : FuncData
  FCheckStacks : Fun K "check_stacks" "check_stacks" sCheckStacks aCheckStacks fCheckStacks
  bCheckStacks : Binds K fCheckStacks ["program", "stacks"] []
  gCheckStacks : mg "check_stacks" = some (.ref aCheckStacks)
  aRegions : Addr
  fRegions : FuncData
  FRegions : Fun K "regions" "regions" sRegions aRegions fRegions
  bRegions : Binds K fRegions ["program", "stacks"] []
  gRegions : mg "regions" = some (.ref aRegions)
  aLSpring : Addr
  fLSpring : FuncData
  FLSpring : Fun K "_law_spring" "_law_spring" sLSpring aLSpring fLSpring
  bLSpring : Binds K fLSpring ["script"] []
  gLSpring : mg "_law_spring" = some (.ref aLSpring)
  aLDraw : Addr
  fLDraw : FuncData
  FLDraw : Fun K "_law_draw" "_law_draw" sLDraw aLDraw fLDraw
  bLDraw : Binds K fLDraw ["spring", "many"] []
  gLDraw : mg "_law_draw" = some (.ref aLDraw)
  aLItems : Addr
  fLItems : FuncData
  FLItems : Fun K "_law_items" "_law_items" sLItems aLItems fLItems
  bLItems : Binds K fLItems ["spring", "some", "calls", "deep"] []
  gLItems : mg "_law_items" = some (.ref aLItems)
  aLCalls : Addr
  fLCalls : FuncData
  FLCalls : Fun K "_law_calls" "_law_calls" sLCalls aLCalls fLCalls
  bLCalls : Binds K fLCalls ["body"] []
  gLCalls : mg "_law_calls" = some (.ref aLCalls)
  aLCount : Addr
  fLCount : FuncData
  FLCount : Fun K "_law_count" "_law_count" sLCount aLCount fLCount
  bLCount : Binds K fLCount ["body"] []
  gLCount : mg "_law_count" = some (.ref aLCount)
  aLCost : Addr
  fLCost : FuncData
  FLCost : Fun K "_law_cost" "_law_cost" sLCost aLCost fLCost
  bLCost : Binds K fLCost ["costs", "body"] []
  gLCost : mg "_law_cost" = some (.ref aLCost)
  aLProgram : Addr
  fLProgram : FuncData
  FLProgram : Fun K "_law_program" "_law_program" sLProgram aLProgram fLProgram
  bLProgram : Binds K fLProgram ["spring", "most", "calls", "can_recur"] []
  gLProgram : mg "_law_program" = some (.ref aLProgram)
  aLCallees : Addr
  fLCallees : FuncData
  FLCallees : Fun K "_law_callees" "_law_callees" sLCallees aLCallees fLCallees
  bLCallees : Binds K fLCallees ["body"] []
  gLCallees : mg "_law_callees" = some (.ref aLCallees)
  aLStack : Addr
  fLStack : FuncData
  FLStack : Fun K "_law_stack" "_law_stack" sLStack aLStack fLStack
  bLStack : Binds K fLStack ["spring", "program", "top", "deep", "odd"] []
  gLStack : mg "_law_stack" = some (.ref aLStack)
  aLStacks : Addr
  fLStacks : FuncData
  FLStacks : Fun K "_law_stacks" "_law_stacks" sLStacks aLStacks fLStacks
  bLStacks : Binds K fLStacks ["spring", "program", "top", "size", "odd"] []
  gLStacks : mg "_law_stacks" = some (.ref aLStacks)
  aLDue : Addr
  fLDue : FuncData
  FLDue : Fun K "_law_due" "_law_due" sLDue aLDue fLDue
  bLDue : Binds K fLDue ["stacks"] []
  gLDue : mg "_law_due" = some (.ref aLDue)
  aLRight : Addr
  fLRight : FuncData
  FLRight : Fun K "_law_right" "_law_right" sLRight aLRight fLRight
  bLRight : Binds K fLRight ["program", "stacks"] []
  gLRight : mg "_law_right" = some (.ref aLRight)
  aLaw : Addr
  fLaw : FuncData
  FLaw : Fun K "law" "law" sLaw aLaw fLaw
  bLaw : Binds K fLaw ["script"] []
  gLaw : mg "law" = some (.ref aLaw)
  n_abs : mg "abs" = none
  n_all : mg "all" = none
  n_dict : mg "dict" = none
  n_enumerate : mg "enumerate" = none
  n_int : mg "int" = none
  n_isinstance : mg "isinstance" = none
  n_len : mg "len" = none
  n_list : mg "list" = none
  n_max : mg "max" = none
  n_min : mg "min" = none
  n_range : mg "range" = none
  n_repr : mg "repr" = none
  n_str : mg "str" = none
  n_sum : mg "sum" = none
  n_tuple : mg "tuple" = none
  t_FEWEST_CHOICES : Tok
  c_FEWEST_CHOICES : mg "FEWEST_CHOICES" = some (.int 2 t_FEWEST_CHOICES)
  t_MOST_CALLS : Tok
  c_MOST_CALLS : mg "MOST_CALLS" = some (.int 5 t_MOST_CALLS)
  t_MOST_CALLS_TO_RETURN : Tok
  c_MOST_CALLS_TO_RETURN : mg "MOST_CALLS_TO_RETURN" = some (.int 12 t_MOST_CALLS_TO_RETURN)
  t_MOST_CHOICES : Tok
  c_MOST_CHOICES : mg "MOST_CHOICES" = some (.int 4 t_MOST_CHOICES)
  t_MOST_FUNCTIONS : Tok
  c_MOST_FUNCTIONS : mg "MOST_FUNCTIONS" = some (.int 6 t_MOST_FUNCTIONS)
  t_MOST_ITEMS : Tok
  c_MOST_ITEMS : mg "MOST_ITEMS" = some (.int 12 t_MOST_ITEMS)
  t_MOST_LETTERS : Tok
  c_MOST_LETTERS : mg "MOST_LETTERS" = some (.int 8 t_MOST_LETTERS)
  t_MOST_LEVELS : Tok
  c_MOST_LEVELS : mg "MOST_LEVELS" = some (.int 4 t_MOST_LEVELS)
  t_MOST_NAMES_IN_STACK : Tok
  c_MOST_NAMES_IN_STACK : mg "MOST_NAMES_IN_STACK" = some (.int 8 t_MOST_NAMES_IN_STACK)
end K13


set_option Elab.async false
set_option linter.all false
set_option maxRecDepth 100000
set_option maxHeartbeats 4000000
namespace K13
open PySem PySem.Spec PyProof.Rows L2 FA
variable {P : Program} {w : World} {K : PySem.W.Frag} {mg : Str → Option Value} {base : Heap}

theorem not_lt1 {a b : Nat} (h : b ≤ a) : ¬ [a] < [b] := fun z => by
  cases z with
  | rel z => omega
  | cons z => cases z
def spIsName : Sp := fun vs H Q _ => ∃ x : Str, vs = [.str x] ∧ okName x ∧ ∀ H', Same H H' → Q (.bl true) H'
theorem okIsName (T : Txt K mg) : FnOk P w K mg base CX0 1 T.aIsName T.fIsName ["value"] spIsName := by
  refine T.FIsName.ok scIsName (fun vs H Q E h => ?_) (fun cdv A outer s H vs Q E hr h => ?_)
  · obtain ⟨x, rfl, _⟩ := h
    rfl
  obtain ⟨x, rfl, ⟨h1, h2, h3⟩, q⟩ := h
  have hu := hu_of hr
  have hs := sizeLine_eq
  refine ⟨_, (pss_cons (ps_if (PW.pt (pw_or (pt_not (pt_val (pe_callB call_isi (by rfl) T.n_isinstance (by decide +kernel) (pa_cons (pv 0) (pa_cons (pe_bltn (v := .ty "str") (by rfl) T.n_str (by decide +kernel) rfl) pa_nil))))) (pw_or1 (pt_not (pt_chain op_le op_le pe_int (pe_callB call_len_str (by rfl) T.n_len PySem.boot_len (pa_cons (pv 0) pa_nil)) (pe_glob (v := .int 8) rfl T.c_MOST_LETTERS ⟨_, rfl⟩))))))
        (pss_one (ps_ret pe_bl)) pss_nil)
      (pss_one (ps_ret (pe_callB (cr_all rfl) (by rfl) T.n_all (by decide +kernel) (pa_cons (pe_lc (own := [("letter", 1)]) (g := gName 1) (tt := tYes) rfl scIsName.nd (pi_str (pv 0)) (blkOk_by (N := ["value", "letter"]) (sc := defScope sIsName) (by decide +kernel)) (fun _ _ _ _ _ => (pg_name (i := 1) scIsName.nd rfl (by first | exact Or.inl rfl | exact Or.inr rfl))) (fun _ _ _ _ _ => pts_nil) (fun _ _ _ _ _ => (pe_chain op_le_str op_le_str pe_str (pv 1) pe_str))) pa_nil))))), ?_⟩
  refine ⟨_, rfl, _, _, _, _, true, rfl, .ty _, ty_str x, kit_ty (by decide +kernel), _, rfl, iteF ?_⟩
  refine ⟨_, rfl, _, rfl, by omega, _, _, rfl, rfl, _, rfl, ?_⟩
  refine ite2 (fun c => ?_) (fun c => absurd (decide_eq_true (by omega)) c)
  refine ⟨_, _, rfl, rfl, _, rfl, ?_⟩
  refine ite2 (fun c => absurd (c.symm.trans (congrArg not (decide_eq_true (by omega)))) (by decide)) (fun c => ?_)
  refine ⟨_, rfl, _, rfl, fun D hD => lcS (n := x.cps.size) hD (by show x.cps.size < _; have : x.cps.size = x.length := rfl; omega) (fun i v => ∃ c, x.cps[i]? = some c ∧ v = .str ⟨#[c]⟩) (fun _ v _ => v = .bl true) go_s stop_s yld_s (fun _ _ _ _ _ e => e) ?_ ?_⟩
  · rintro i _ H1 R hi ⟨c, hc, rfl⟩ sm k
    have hc' := h3 c (by
      rw [← Array.getElem?_toList] at hc
      exact List.mem_of_getElem? hc)
    refine ⟨rfl, _, rfl, _, _, rfl, rfl, _, rfl, ?_⟩
    have e1 : (!decide ([c] < ("a" : Str).cps.toList)) = true := by
      have : ("a" : Str).cps.toList = [97] := by decide +kernel
      rw [this, decide_eq_false (not_lt1 hc'.1)]
      rfl
    have e2 : (!decide (("z" : Str).cps.toList < [c])) = true := by
      have : ("z" : Str).cps.toList = [122] := by decide +kernel
      rw [this, decide_eq_false (not_lt1 hc'.2)]
      rfl
    refine ite2 (fun _ => ⟨_, _, rfl, rfl, ?_⟩) (fun n => absurd e1 n)
    rw [e2]
    exact k _ _ (Same.refl _) rfl
  · intro H1 ys sm hy hl hg
    have ey : ys = (List.replicate x.cps.size true).map V.bl := by
      refine List.ext_getElem? fun j => ?_
      rw [List.map_replicate, List.getElem?_replicate]
      by_cases hj : j < ys.length
      · have := hg j ys[j] (List.getElem?_eq_getElem hj)
        rw [List.getElem?_eq_getElem hj, this, if_pos (by omega)]
      · rw [List.getElem?_eq_none (by omega), if_neg (by omega)]
    refine ⟨D, _, rfl, SqL.of (by rw [hy, ey]), ?_⟩
    have e : ((List.replicate x.cps.size true).all id) = true := by simp
    rw [e]
    exact q H1 sm
end K13


set_option Elab.async false
set_option linter.all false
set_option maxRecDepth 100000
set_option maxHeartbeats 4000000
namespace K13
open PySem PySem.Spec PyProof.Rows L2 FA
variable {P : Program} {w : World} {K : PySem.W.Frag} {mg : Str → Option Value} {base : Heap}
/-- the bodies within an item -/
def subs : FA.It → List (List FA.It)
  | .call _ => []
  | .may b => [b]
  | .loop b => [b]
  | .one bs => bs
def spChoices : Sp := fun vs H Q _ => ∃ (v : V) (it : FA.It) (ns : List Str), vs = [v] ∧ ItAt H v it ∧ (∀ x, it ≠ .call x) ∧ okI ns it ∧ (∀ x ∈ ns, FA.okName x) ∧ dI it ≤ 6 ∧
  ∀ c ws H', Same H H' → H' c = some (.lst ws) → BdsAt H' ws (subs it) → Q (.ref c) H'
theorem okChoices (T : Txt K mg) : FnOk P w K mg base CX0 1 T.aChoices T.fChoices ["item"] spChoices := by
  refine T.FChoices.ok scChoices (fun vs H Q E h => ?_) (fun cdv A outer s H vs Q E hr h => ?_)
  · obtain ⟨v, it, ns, rfl, _⟩ := h
    rfl
  obtain ⟨v, it, ns, rfl, hI, hc, hok, hns, hd, q⟩ := h
  have hu := hu_of hr
  have hu65 := hu65_of hr
  refine ⟨_, (pss_cons (ps_if (PW.pt (pw_or (pt_not (pt_val (pe_callB call_isi (by rfl) T.n_isinstance (by decide +kernel) (pa_cons (pv 0) (pa_cons (pe_bltn (v := .ty "tuple") (by rfl) T.n_tuple (by decide +kernel) rfl) pa_nil))))) (pw_or (pt_cmpR op_ne (pe_callB call_len_seq (by rfl) T.n_len PySem.boot_len (pa_cons (pv 0) pa_nil)) pe_int (nomark _)) (pw_or1 (pt_not (pt_val (pe_callB call_isi (by rfl) T.n_isinstance (by decide +kernel) (pa_cons (pe_ix ix_tup (pv 0) pe_int (fun _ _ => rfl)) (pa_cons (pe_bltn (v := .ty "list") (by rfl) T.n_list (by decide +kernel) rfl) pa_nil)))))))))
        (pss_one (ps_ret pe_non)) pss_nil)
      (pss_cons (ps_asg (pv 0) (pg_tup rfl (pgs_cons (pg_name (i := 1) scChoices.nd rfl (by first | exact Or.inl rfl | exact Or.inr rfl)) (pgs_cons (pg_name (i := 2) scChoices.nd rfl (by first | exact Or.inl rfl | exact Or.inr rfl)) pgs_nil))))
      (pss_cons (ps_if (PW.pt (pw_or (pt_cmpR op_eq (pv 1) pe_str (nomark _)) (pw_or1 (pt_cmpR op_eq (pv 1) pe_str (nomark _)))))
        (pss_one (ps_ret (pe_ifExp (pt_truth (pv 2) (by intro _; rfl)) (pe_lst (pa_cons (pv 2) pa_nil)) pe_non))) pss_nil)
      (pss_cons (ps_if (PW.pt (pw_and (pt_cmpR op_eq (pv 1) pe_str (nomark _)) (pw_and (pt_chain op_le op_le (pe_glob (v := .int 2) rfl T.c_FEWEST_CHOICES ⟨_, rfl⟩) (pe_callB call_len_seq (by rfl) T.n_len PySem.boot_len (pa_cons (pv 2) pa_nil)) (pe_glob (v := .int 4) rfl T.c_MOST_CHOICES ⟨_, rfl⟩)) (pw_and1 (pt_cmpR op_le (pe_bm PySem.F.plainAttrs_list PySem.F.slot_list_count PySem.F.type_list_count (mt_countD hu65) (pv 2) (pa_cons (pe_lst pa_nil) pa_nil)) pe_int (nomark _))))))
        (pss_one (ps_ret (pv 2))) pss_nil)
      (pss_one (ps_ret pe_non)))))), ?_⟩
  cases hI with
  | call x => exact absurd rfl (hc x)
  | @may t b vs l h1 h2 h3 =>
    simp only [okI] at hok
    have hne : vs.isEmpty = false := by
      have := h3.length
      cases vs with
      | nil => exact absurd (List.eq_nil_of_length_eq_zero this.symm) hok.1
      | cons _ _ => rfl
    refine ⟨_, rfl, _, _, _, _, true, rfl, .ty _, ty_tup h1, kit_ty (by decide +kernel), _, rfl, iteF ?_⟩
    refine ⟨_, rfl, _, _, rfl, .inr (SqT.of h1), rfl, _, rfl, ite2 (fun c => absurd c (by simp)) (fun _ => ?_)⟩
    refine ⟨_, rfl, _, _, _, _, rfl, rfl, SqT.of h1, at_of (j := 1) rfl rfl, _, _, _, _, true, rfl, .ty _, ty_lst h2, kit_ty (by decide +kernel), _, rfl, iteF ?_⟩
    refine ⟨_, rfl, _, _, rfl, SqT.of h1, rfl, _, _, rfl, _, _, rfl, rfl, ?_⟩
    refine ⟨_, rfl, rfl, _, rfl, ite2 (fun _ => ?_) (fun c => absurd (decide_eq_true rfl) c)⟩
    refine ⟨_, rfl, true, .inl ⟨vs, SqL.of h2, by rw [hne]; rfl⟩, iteT ?_⟩
    refine ⟨_, rfl, Nat.le_of_lt (small1000 (by simp)), fun p hp => ?_⟩
    have sm := same_upd hp (.lst [.ref b])
    exact q p _ _ sm upd_same (.cons (sm _ _ h2) (h3.keep (Kp.of sm)) .nil)
  | @loop t b vs l h1 h2 h3 =>
    simp only [okI] at hok
    have hne : vs.isEmpty = false := by
      have := h3.length
      cases vs with
      | nil => exact absurd (List.eq_nil_of_length_eq_zero this.symm) hok.1
      | cons _ _ => rfl
    refine ⟨_, rfl, _, _, _, _, true, rfl, .ty _, ty_tup h1, kit_ty (by decide +kernel), _, rfl, iteF ?_⟩
    refine ⟨_, rfl, _, _, rfl, .inr (SqT.of h1), rfl, _, rfl, ite2 (fun c => absurd c (by simp)) (fun _ => ?_)⟩
    refine ⟨_, rfl, _, _, _, _, rfl, rfl, SqT.of h1, at_of (j := 1) rfl rfl, _, _, _, _, true, rfl, .ty _, ty_lst h2, kit_ty (by decide +kernel), _, rfl, iteF ?_⟩
    refine ⟨_, rfl, _, _, rfl, SqT.of h1, rfl, _, _, rfl, _, _, rfl, rfl, ?_⟩
    refine ⟨_, rfl, rfl, _, rfl, ite2 (fun c => absurd (of_decide_eq_true c) (by decide)) (fun _ => ?_)⟩
    refine ⟨_, rfl, rfl, _, rfl, ite2 (fun _ => ?_) (fun c => absurd (decide_eq_true rfl) c)⟩
    refine ⟨_, rfl, true, .inl ⟨vs, SqL.of h2, by rw [hne]; rfl⟩, iteT ?_⟩
    refine ⟨_, rfl, Nat.le_of_lt (small1000 (by simp)), fun p hp => ?_⟩
    have sm := same_upd hp (.lst [.ref b])
    exact q p _ _ sm upd_same (.cons (sm _ _ h2) (h3.keep (Kp.of sm)) .nil)
  | @one t b vs ls h1 h2 h3 =>
    simp only [okI] at hok
    simp only [dI] at hd
    obtain ⟨k1, k2, k3, k4⟩ := hok
    refine ⟨_, rfl, _, _, _, _, true, rfl, .ty _, ty_tup h1, kit_ty (by decide +kernel), _, rfl, iteF ?_⟩
    refine ⟨_, rfl, _, _, rfl, .inr (SqT.of h1), rfl, _, rfl, ite2 (fun c => absurd c (by simp)) (fun _ => ?_)⟩
    refine ⟨_, rfl, _, _, _, _, rfl, rfl, SqT.of h1, at_of (j := 1) rfl rfl, _, _, _, _, true, rfl, .ty _, ty_lst h2, kit_ty (by decide +kernel), _, rfl, iteF ?_⟩
    refine ⟨_, rfl, _, _, rfl, SqT.of h1, rfl, _, _, rfl, _, _, rfl, rfl, ?_⟩
    refine ⟨_, rfl, rfl, _, rfl, ite2 (fun c => absurd (of_decide_eq_true c) (by decide)) (fun _ => ?_)⟩
    refine ⟨_, rfl, rfl, _, rfl, ite2 (fun c => absurd (of_decide_eq_true c) (by decide)) (fun _ => ?_)⟩
    refine ⟨_, rfl, rfl, _, rfl, ite2 (fun _ => ?_) (fun c => absurd (decide_eq_true rfl) c)⟩
    have hl := h3.length
    refine ⟨_, rfl, _, _, rfl, .inl (SqL.of h2), _, _, rfl, rfl, _, rfl, ?_⟩
    refine ite2 (fun _ => ?_) (fun c => absurd (decide_eq_true (by omega)) c)
    refine ⟨_, _, rfl, rfl, _, rfl, ?_⟩
    refine ite2 (fun _ => ?_) (fun c => absurd (decide_eq_true (by omega)) c)
    refine ⟨_, rfl, .inl ⟨rfl, _, SqL.of h2⟩, by decide, fun p hp => ?_⟩
    have sm := same_upd hp (.lst [])
    have k := Kp.of sm
    have dps := (h3.keep k).dp (K := K)
    refine ⟨b, .ref p, .list [], dtBs ls, rfl, rfl, .lst (SqL.of (sm _ _ h2)) dps, .lst (SqL.of upd_same) .nil, dt_shaped (dtBs_lay hns ls k4) (by have := dtBs_depth ls; omega), dt_shaped rfl (by decide), ?_⟩
    rw [count_empty]
    refine ⟨_, _, rfl, rfl, _, rfl, ite2 (fun _ => ?_) (fun c => absurd (decide_eq_true (by omega)) c)⟩
    exact ⟨_, rfl, q b vs _ sm (sm _ _ h2) (h3.keep k)⟩
end K13


set_option Elab.async false
set_option linter.all false
set_option maxRecDepth 100000
set_option maxHeartbeats 4000000
namespace K13
open PySem PySem.Spec PyProof.Rows L2 FA
variable {P : Program} {w : World} {K : PySem.W.Frag} {mg : Str → Option Value} {base : Heap}
def pNames (p : Pr) : List Str := p.map (·.1)
theorem sum_nC : ∀ bs : List (List FA.It), (bs.map fun b => (nCB b : Int)).sum = nCBs bs
  | [] => rfl
  | b :: r => by have := sum_nC r; simp only [List.map_cons, List.sum_cons, nCBs]; omega
theorem sum_nI : ∀ bs : List (List FA.It), (bs.map fun b => (nIB b : Int)).sum = nIBs bs
  | [] => rfl
  | b :: r => by have := sum_nI r; simp only [List.map_cons, List.sum_cons, nIBs]; omega
theorem subs_nC : ∀ {it : FA.It}, (∀ x, it ≠ .call x) → ((subs it).map fun b => (nCB b : Int)).sum = nC it
  | .call x, h => absurd rfl (h x)
  | .may b, _ => by simp [subs, nC]
  | .loop b, _ => by simp [subs, nC]
  | .one bs, _ => by simp only [subs, nC]; exact sum_nC bs
theorem subs_nI : ∀ {it : FA.It}, (∀ x, it ≠ .call x) → ((subs it).map fun b => (nIB b : Int)).sum = nI it
  | .call x, h => absurd rfl (h x)
  | .may b, _ => by simp [subs, nI]
  | .loop b, _ => by simp [subs, nI]
  | .one bs, _ => by simp only [subs, nI]; exact sum_nI bs
theorem subs_ok {ns : List Str} : ∀ {it : FA.It}, okI ns it → ∀ b ∈ subs it, okB ns b
  | .call x, _, b, hb => by simp [subs] at hb
  | .may b', h, b, hb => by simp only [okI] at h; simp [subs] at hb; rw [hb]; exact h.2
  | .loop b', h, b, hb => by simp only [okI] at h; simp [subs] at hb; rw [hb]; exact h.2
  | .one bs, h, b, hb => by simp only [okI] at h; exact okBs_all.mp h.2.2.2 b hb
theorem nCBs_mem : ∀ {bs : List (List FA.It)} {b}, b ∈ bs → nCB b ≤ nCBs bs
  | b' :: r, b, h => by
    rcases List.mem_cons.mp h with rfl | h
    · simp only [nCBs]; omega
    · have := nCBs_mem h; simp only [nCBs]; omega
theorem nIBs_mem : ∀ {bs : List (List FA.It)} {b}, b ∈ bs → nIB b ≤ nIBs bs
  | b' :: r, b, h => by
    rcases List.mem_cons.mp h with rfl | h
    · simp only [nIBs]; omega
    · have := nIBs_mem h; simp only [nIBs]; omega
theorem dBs_mem : ∀ {bs : List (List FA.It)} {b}, b ∈ bs → dB b ≤ dBs bs
  | b' :: r, b, h => by
    rcases List.mem_cons.mp h with rfl | h
    · simp only [dBs]; omega
    · have := dBs_mem h; simp only [dBs]; omega
theorem subs_le : ∀ {it : FA.It} {b}, b ∈ subs it → nCB b ≤ nC it ∧ nIB b ≤ nI it ∧ dB b ≤ dI it
  | .call x, b, hb => by simp [subs] at hb
  | .may b', b, hb => by simp [subs] at hb; rw [hb]; simp only [nC, nI, dI]; omega
  | .loop b', b, hb => by simp [subs] at hb; rw [hb]; simp only [nC, nI, dI]; omega
  | .one bs, b, hb => by
    have hb : b ∈ bs := hb
    have h1 := nCBs_mem hb
    have h2 := nIBs_mem hb
    have h3 := dBs_mem hb
    simp only [nC, nI, dI]; omega
theorem dB_pos : ∀ b : List FA.It, 1 ≤ dB b
  | [] => by simp [dB]
  | i :: r => by have := dB_pos r; simp only [dB]; omega
theorem subs_len : ∀ {ns : List Str} {it : FA.It}, okI ns it → (subs it).length ≤ 4
  | _, .call x, _ => by simp [subs]
  | _, .may b, _ => by simp [subs]
  | _, .loop b, _ => by simp [subs]
  | _, .one bs, h => by simp only [okI] at h; exact h.2.1
/-- what the judged program is known to be -/
structure Known (H : Hp) (d : Addr) (p : Pr) : Prop where
  at_ : PrAt H d p
  nm : ∀ x ∈ pNames p, FA.okName x
theorem PrAt.same {H H' : Hp} {d : Addr} {p : Pr} (sm : Same H H') (h : PrAt H d p) : PrAt H' d p := by
  obtain ⟨kvs, hd, hk⟩ := h
  refine ⟨kvs, ?_, hk.keep (Kp.of sm)⟩
  rcases hd with hd | ⟨o, hd⟩
  · exact .inl (sm _ _ hd)
  · exact .inr ⟨o, sm _ _ hd⟩
theorem Known.same {H H' : Hp} {d : Addr} {p : Pr} (sm : Same H H') (h : Known H d p) : Known H' d p := ⟨PrAt.same sm h.at_, h.nm⟩
theorem lookup_mem {x : Str} : ∀ {p : Pr}, x ∈ pNames p → ∃ l, p.lookup x = some l
  | (y, l) :: p, h => by
    by_cases e : x = y
    · subst e; exact ⟨l, by simp [List.lookup]⟩
    · have e1 : (x == y) = false := beq_eq_false_iff_ne.mpr e
      rcases List.mem_cons.mp (show x ∈ y :: pNames p from h) with z | z
      · exact absurd z e
      · obtain ⟨l', q⟩ := lookup_mem z
        exact ⟨l', by simp [List.lookup, e1, q]⟩
theorem Known.has {H : Hp} {d : Addr} {p : Pr} {x : Str} (h : Known H d p) (hx : x ∈ pNames p) : ∃ l b, p.lookup x = some l ∧ DGet H d (.str x) (some (.ref b)) ∧ BdAt H b l := by
  obtain ⟨l0, e⟩ := lookup_mem hx
  rcases h.at_.look (x := x) with ⟨h1, _⟩ | ⟨l, b, h1, h2, h3⟩
  · rw [e] at h1; cases h1
  · exact ⟨l, b, h1, h2, h3⟩
def spItemSize (n : Nat) : Sp := fun vs H Q _ => ∃ (d : Addr) (p : Pr) (v : V) (it : FA.It) (lv : Int), vs = [.ref d, v, .int lv] ∧ Known H d p ∧ ItAt H v it ∧ okI (pNames p) it ∧ dI it ≤ n ∧ lv + dI it ≤ 4 ∧ nC it ≤ 5 ∧ nI it ≤ 12 ∧
  ∀ t H', Same H H' → H' t = some (.tup [.int (nC it), .int (nI it)]) → Q (.ref t) H'
def spBodySize (n : Nat) : Sp := fun vs H Q _ => ∃ (d : Addr) (p : Pr) (b : Addr) (l : List FA.It) (lv : Int), vs = [.ref d, .ref b, .int lv] ∧ Known H d p ∧ BdAt H b l ∧ okB (pNames p) l ∧ dB l ≤ n ∧ lv + dB l ≤ 5 ∧ nCB l ≤ 5 ∧ nIB l ≤ 12 ∧
  ∀ t H', Same H H' → H' t = some (.tup [.int (nCB l), .int (nIB l)]) → Q (.ref t) H'
theorem okItemSize (T : Txt K mg) (n : Nat) (hn : n ≤ 5) (GBodySize : FnOk P w K mg base CX0 (2 * n + 1) T.aBodySize T.fBodySize ["program", "body", "level"] (spBodySize n)) :
    FnOk P w K mg base CX0 (2 * n + 2) T.aItemSize T.fItemSize ["program", "item", "level"] (spItemSize n) := by
  have GChoices : FnOk P w K mg base CX0 1 T.aChoices T.fChoices ["item"] spChoices := okChoices T
  refine T.FItemSize.ok scItemSize (fun vs H Q E h => ?_) (fun cdv A outer s H vs Q E hr h => ?_)
  · obtain ⟨d, p, v, it, lv, rfl, _⟩ := h
    rfl
  obtain ⟨d, p, v, it, lv, rfl, kn, hI, hok, hn, hlv, hC, hN, q⟩ := h
  have hu := hu_of hr
  have hu65 := hu65_of hr
  refine ⟨_, (pss_cons (ps_if (pt_val (pe_callB call_isi (by rfl) T.n_isinstance (by decide +kernel) (pa_cons (pv 1) (pa_cons (pe_bltn (v := .ty "str") (by rfl) T.n_str (by decide +kernel) rfl) pa_nil))))
        (pss_one (ps_ret (pe_ifExp (pt_cmp (pc_din hu (pv 1) (pv 0))) (pe_tup (pa_cons pe_int (pa_cons pe_int pa_nil))) pe_non))) pss_nil)
      (pss_cons (ps_set (i := 3) scItemSize.nd rfl (by first | exact Or.inl rfl | exact Or.inr rfl) (pe_call GChoices (hr.mono (by omega)) rfl T.gChoices T.FChoices.kp T.bChoices .nil pass0 (pa_cons (pv 1) pa_nil)))
      (pss_cons (ps_if (pt_cmpR op_isN (pv 3) pe_non (nomark _))
        (pss_one (ps_ret pe_non)) pss_nil)
      (pss_cons (ps_setLc (i := 4) (own := [("body", 5)]) (g := gName 5) (tt := tYes) rfl scItemSize.nd rfl rfl (sw_true rfl rfl rfl (by decide +kernel)) (pi_list (pv 3)) (blkOk_by (N := ["program", "item", "level", "choices", "sizes", "body", "calls", "_", "items"]) (sc := defScope sItemSize) (by decide +kernel)) (fun _ _ _ _ _ => (pg_name (i := 5) scItemSize.nd rfl (by first | exact Or.inl rfl | exact Or.inr rfl))) (fun _ _ _ _ _ => pts_nil) (fun _ _ _ _ _ => (pe_call GBodySize (hr.mono (by omega)) rfl T.gBodySize T.FBodySize.kp T.bBodySize .nil pass0 (pa_cons (pv 0) (pa_cons (pv 5) (pa_cons (pe_op op_add (pv 2) pe_int) pa_nil))))))
      (pss_cons (ps_if (pt_cmpR (op_inD hu65) pe_non (pv 4) (by rfl))
        (pss_one (ps_ret pe_non)) pss_nil)
      (pss_one (ps_ret (pe_tup (pa_cons (pe_callB (cr_sum rfl) (by rfl) T.n_sum (by decide +kernel) (pa_cons (pe_lc (own := [("calls", 6), ("_", 7)]) (g := gTup K 2 (gCons (gName 6) (gCons (gName 7) gNil))) (tt := tYes) rfl scItemSize.nd (pi_list (pv 4)) (blkOk_by (N := ["program", "item", "level", "choices", "sizes", "body", "calls", "_", "items"]) (sc := defScope sItemSize) (by decide +kernel)) (fun _ _ _ _ _ => (pg_tup rfl (pgs_cons (pg_name (i := 6) scItemSize.nd rfl (by first | exact Or.inl rfl | exact Or.inr rfl)) (pgs_cons (pg_name (i := 7) scItemSize.nd rfl (by first | exact Or.inl rfl | exact Or.inr rfl)) pgs_nil)))) (fun _ _ _ _ _ => pts_nil) (fun _ _ _ _ _ => (pv 6))) pa_nil)) (pa_cons (pe_callB (cr_sum rfl) (by rfl) T.n_sum (by decide +kernel) (pa_cons (pe_lc (own := [("_", 7), ("items", 8)]) (g := gTup K 2 (gCons (gName 7) (gCons (gName 8) gNil))) (tt := tYes) rfl scItemSize.nd (pi_list (pv 4)) (blkOk_by (N := ["program", "item", "level", "choices", "sizes", "body", "calls", "_", "items"]) (sc := defScope sItemSize) (by decide +kernel)) (fun _ _ _ _ _ => (pg_tup rfl (pgs_cons (pg_name (i := 7) scItemSize.nd rfl (by first | exact Or.inl rfl | exact Or.inr rfl)) (pgs_cons (pg_name (i := 8) scItemSize.nd rfl (by first | exact Or.inl rfl | exact Or.inr rfl)) pgs_nil)))) (fun _ _ _ _ _ => pts_nil) (fun _ _ _ _ _ => (pv 8))) pa_nil)) pa_nil)))))))))), ?_⟩
  by_cases hcall : ∃ x, it = .call x
  · obtain ⟨x, rfl⟩ := hcall
    cases hI
    obtain ⟨l, b, _, hg, _⟩ := kn.has (x := x) (by simpa [okI] using hok)
    refine ⟨_, rfl, _, _, _, _, true, rfl, .ty _, ty_str x, kit_ty (by decide +kernel), _, rfl, iteT ?_⟩
    refine ⟨_, rfl, _, rfl, _, _, rfl, hg, _, rfl, iteT ?_⟩
    refine ⟨Nat.le_of_lt (small1000 (by simp)), fun t ht => ?_⟩
    exact q t _ (same_upd ht _) (by rw [upd_same]; rfl)
  · have hcall : ∀ x, it ≠ .call x := fun x e => hcall ⟨x, e⟩
    have hty : ∃ t ws, v = .ref t ∧ H t = some (.tup ws) := by
      cases hI with
      | call x => exact absurd rfl (hcall x)
      | may h1 _ _ => exact ⟨_, _, rfl, h1⟩
      | loop h1 _ _ => exact ⟨_, _, rfl, h1⟩
      | one h1 _ _ => exact ⟨_, _, rfl, h1⟩
    obtain ⟨t0, ws0, rfl, ht0⟩ := hty
    refine ⟨_, rfl, _, _, _, _, false, rfl, .ty _, ty_tup ht0, kit_ty (by decide +kernel), _, rfl, iteF ?_⟩
    refine ⟨_, rfl, _, _, _, rfl, hI, hcall, hok, kn.nm, by omega, fun c ws H1 s1 hc hb => ?_⟩
    refine ⟨_, rfl, rfl, _, rfl, ite2 (fun z => absurd (of_decide_eq_true z) (by simp)) (fun _ => ?_)⟩
    have kn1 := kn.same s1
    have hlen := hb.length
    have h4 := subs_len hok
    refine ⟨_, rfl, c, rfl, ⟨_, SqL.of hc⟩, fun D hD => lcS (n := ws.length) hD (small1000 (by omega)) _ (fun j v H => ∃ bd t, (subs it)[j]? = some bd ∧ v = .ref t ∧ H t = some (.tup [.int (nCB bd), .int (nIB bd)]))
      (go_l (SqL.of hc)) (stop_l (SqL.of hc)) (yld_l (SqL.of hc)) (fun j v A B k ⟨bd, t, e1, e2, e3⟩ => ⟨bd, t, e1, e2, k _ _ e3⟩) ?_ ?_⟩
    · intro i x H2 R hi hx s2 k
      obtain ⟨b, bd, rfl, e1, e2⟩ := hb.get hx
      have hm : bd ∈ subs it := List.mem_of_getElem? e1
      have le := subs_le hm
      refine ⟨rfl, _, rfl, _, rfl, _, rfl, _, _, rfl, rfl, d, p, b, bd, lv + 1, rfl, kn1.same s2, e2.keep (Kp.of s2), subs_ok hok bd hm, by omega, by omega, by omega, by omega, fun t H3 s3 ht => ?_⟩
      exact k _ H3 s3 ⟨bd, t, e1, rfl, ht⟩
    · intro H2 ys s2 hy hl hg
      have dps : DpAll K H2 ys ((subs it).map fun b => PyData.tuple [.int (nCB b), .int (nIB b)]) := dpAll_map (by omega) fun j y e => by
        obtain ⟨bd, t, e1, rfl, e3⟩ := hg j y e
        exact ⟨bd, e1, .tup (SqT.of e3) (.cons (.int _) (.cons (.int _) .nil))⟩
      have lay : PyData.canLayAll0 ((subs it).map fun b => PyData.tuple [.int (nCB b), .int (nIB b)]) = true := by
        generalize subs it = l
        induction l with
        | nil => rfl
        | cons b r ih => simp only [List.map_cons, PyData.canLayAll0, PyData.canLay0, ih, Bool.and_true]
      have dep : PyData.depthAll ((subs it).map fun b => PyData.tuple [.int (nCB b), .int (nIB b)]) ≤ 60 := by
        have : ∀ l : List (List FA.It), PyData.depthAll (l.map fun b => PyData.tuple [.int (nCB b), .int (nIB b)]) ≤ 1 := fun l => by
          induction l with
          | nil => simp [PyData.depthAll]
          | cons b r ih => simp only [List.map_cons, PyData.depthAll, PyData.depth]; omega
        have := this (subs it)
        omega
      have nov : (((subs it).map fun b => PyData.tuple [.int (nCB b), .int (nIB b)]).any fun z => PyData.eqv z .none) = false := by
        generalize subs it = l
        induction l with
        | nil => rfl
        | cons b r ih => simp only [List.map_cons, List.any_cons, PyData.eqv, ih, Bool.or_false]
      refine ⟨_, rfl, .none, _, .non, .lst (SqL.of hy) dps, rfl, dt_shaped lay dep, ?_⟩
      rw [nov]
      refine ⟨_, rfl, iteF ?_⟩
      have sumOf : ∀ (f : List FA.It → Int) (H3 : Hp) (D3 : Addr) (zs : List V), H3 D3 = some (.lst zs) → zs.length = ys.length → (∀ j z, zs[j]? = some z → ∃ bd, (subs it)[j]? = some bd ∧ z = V.int (f bd)) → SqL K H3 D3 (((subs it).map f).map V.int) := fun f H3 D3 zs h1 h2 h3 => by
        have e := ext_map (ys := zs) (l := subs it) (f := fun b => V.int (f b)) (by omega) h3
        rw [List.map_map]
        exact SqL.of (by rw [h1, e]; rfl)
      refine ⟨_, rfl, D, rfl, ⟨_, SqL.of hy⟩, fun D1 hD1 => lcS (n := ys.length) hD1 (small1000 (by omega)) _ (fun j v _ => ∃ bd, (subs it)[j]? = some bd ∧ v = .int (nCB bd))
        (go_l (SqL.of hy)) (stop_l (SqL.of hy)) (yld_l (SqL.of hy)) (fun j v A B _ h => h) ?_ ?_⟩
      · intro i x H3 R hi hx s3 k
        obtain ⟨bd, t, e1, rfl, e3⟩ := hg i x hx
        exact ⟨t, _, rfl, SqT.of (s3 _ _ e3), rfl, _, _, rfl, _, _, rfl, rfl, rfl, _, rfl, k _ H3 (Same.refl _) ⟨bd, e1, rfl⟩⟩
      · intro H3 zs s3 hz hzl hzg
        refine ⟨D1, _, rfl, sumOf (fun b => nCB b) H3 D1 zs hz hzl hzg, ?_⟩
        rw [subs_nC hcall]
        have hy3 : H3 D = some (.lst ys) := s3 _ _ hy
        refine ⟨_, rfl, D, rfl, ⟨_, SqL.of hy3⟩, fun D2 hD2 => lcS (n := ys.length) hD2 (small1000 (by omega)) _ (fun j v _ => ∃ bd, (subs it)[j]? = some bd ∧ v = .int (nIB bd))
          (go_l (SqL.of hy3)) (stop_l (SqL.of hy3)) (yld_l (SqL.of hy3)) (fun j v A B _ h => h) ?_ ?_⟩
        · intro i x H4 R hi hx s4 k
          obtain ⟨bd, t, e1, rfl, e3⟩ := hg i x hx
          exact ⟨t, _, rfl, SqT.of (s4 _ _ (s3 _ _ e3)), rfl, _, _, rfl, _, _, rfl, rfl, rfl, _, rfl, k _ H4 (Same.refl _) ⟨bd, e1, rfl⟩⟩
        · intro H4 zs2 s4 hz2 hzl2 hzg2
          refine ⟨D2, _, rfl, sumOf (fun b => nIB b) H4 D2 zs2 hz2 hzl2 hzg2, ?_⟩
          rw [subs_nI hcall]
          refine ⟨Nat.le_of_lt (small1000 (by simp)), fun t ht => ?_⟩
          exact q t _ (s1.trans (s2.trans (s3.trans (s4.trans (same_upd ht _))))) upd_same
end K13


set_option Elab.async false
set_option linter.all false
set_option maxRecDepth 100000
set_option maxHeartbeats 4000000
namespace K13
open PySem PySem.Spec PyProof.Rows L2 FA
variable {P : Program} {w : World} {K : PySem.W.Frag} {mg : Str → Option Value} {base : Heap}
def sI (l : List FA.It) : Nat := (l.map nI).sum
def sC (l : List FA.It) : Nat := (l.map nC).sum
theorem nIB_eq : ∀ l : List FA.It, nIB l = l.length + sI l
  | [] => by simp [nIB, sI]
  | i :: r => by
    have := nIB_eq r
    simp only [nIB, sI, List.length_cons, List.map_cons, List.sum_cons] at *
    omega
theorem nCB_eq : ∀ l : List FA.It, nCB l = sC l
  | [] => by simp [nCB, sC]
  | i :: r => by
    have := nCB_eq r
    simp only [nCB, sC, List.map_cons, List.sum_cons] at *
    omega
theorem sI_take {l : List FA.It} {i : Nat} {it : FA.It} (h : l[i]? = some it) : sI (l.take (i + 1)) = sI (l.take i) + nI it := by
  unfold sI
  rw [List.take_add_one, h, List.map_append, List.sum_append]
  simp
theorem sC_take {l : List FA.It} {i : Nat} {it : FA.It} (h : l[i]? = some it) : sC (l.take (i + 1)) = sC (l.take i) + nC it := by
  unfold sC
  rw [List.take_add_one, h, List.map_append, List.sum_append]
  simp
theorem sI_take_le (l : List FA.It) (i : Nat) : sI (l.take i) ≤ sI l := by
  unfold sI
  have e : ((l.take i ++ l.drop i).map nI).sum = (l.map nI).sum := by rw [List.take_append_drop]
  rw [List.map_append, List.sum_append] at e
  omega
theorem sC_take_le (l : List FA.It) (i : Nat) : sC (l.take i) ≤ sC l := by
  unfold sC
  have e : ((l.take i ++ l.drop i).map nC).sum = (l.map nC).sum := by rw [List.take_append_drop]
  rw [List.map_append, List.sum_append] at e
  omega
theorem dB_mem : ∀ {l : List FA.It} {it : FA.It}, it ∈ l → 1 + dI it ≤ dB l
  | i :: r, it, h => by
    simp only [dB]
    rcases List.mem_cons.mp h with rfl | h
    · omega
    · have := dB_mem h; omega
theorem okBodySize (T : Txt K mg) (n : Nat) (GItemSize : FnOk P w K mg base CX0 (2 * n + 2) T.aItemSize T.fItemSize ["program", "item", "level"] (spItemSize n)) :
    FnOk P w K mg base CX0 (2 * n + 3) T.aBodySize T.fBodySize ["program", "body", "level"] (spBodySize (n + 1)) := by
  refine T.FBodySize.ok scBodySize (fun vs H Q E h => ?_) (fun cdv A outer s H vs Q E hr h => ?_)
  · obtain ⟨d, p, b, l, lv, rfl, _⟩ := h
    rfl
  obtain ⟨d, p, b, l, lv, rfl, kn, ⟨vs, hb, hits⟩, hok, hn, hlv, hC, hN, q⟩ := h
  have hu := hu_of hr
  refine ⟨_, (pss_cons (ps_if (PW.pt (pw_or (pt_not (pt_val (pe_callB call_isi (by rfl) T.n_isinstance (by decide +kernel) (pa_cons (pv 1) (pa_cons (pe_bltn (v := .ty "list") (by rfl) T.n_list (by decide +kernel) rfl) pa_nil))))) (pw_or1 (pt_cmpR op_gt (pv 2) (pe_glob (v := .int 4) rfl T.c_MOST_LEVELS ⟨_, rfl⟩) (nomark _)))))
        (pss_one (ps_ret pe_non)) pss_nil)
      (pss_cons (ps_set (i := 3) scBodySize.nd rfl (by first | exact Or.inl rfl | exact Or.inr rfl) pe_int)
      (pss_cons (ps_set (i := 4) scBodySize.nd rfl (by first | exact Or.inl rfl | exact Or.inr rfl) (pe_callB call_len_seq (by rfl) T.n_len PySem.boot_len (pa_cons (pv 1) pa_nil)))
      (pss_cons (ps_for PassesOwn.never rfl (pi_list (pv 1)) (pg_name (i := 5) scBodySize.nd rfl (by first | exact Or.inl rfl | exact Or.inr rfl))
        (pss_cons (ps_set (i := 6) scBodySize.nd rfl (by first | exact Or.inl rfl | exact Or.inr rfl) (pe_call GItemSize (hr.mono (by omega)) rfl T.gItemSize T.FItemSize.kp T.bItemSize .nil pass0 (pa_cons (pv 0) (pa_cons (pv 5) (pa_cons (pv 2) pa_nil)))))
        (pss_cons (ps_if (pt_cmpR op_isN (pv 6) pe_non (nomark _))
          (pss_one (ps_ret pe_non)) pss_nil)
        (pss_cons (ps_set (i := 3) scBodySize.nd rfl (by first | exact Or.inl rfl | exact Or.inr rfl) (pe_op op_add (pv 3) (pe_ix ix_tup (pv 6) pe_int (fun _ _ => rfl))))
        (pss_cons (ps_set (i := 4) scBodySize.nd rfl (by first | exact Or.inl rfl | exact Or.inr rfl) (pe_op op_add (pv 4) (pe_ix ix_tup (pv 6) pe_int (fun _ _ => rfl))))
        (pss_one (ps_if (PW.pt (pw_or (pt_cmpR op_gt (pv 3) (pe_glob (v := .int 5) rfl T.c_MOST_CALLS ⟨_, rfl⟩) (nomark _)) (pw_or1 (pt_cmpR op_gt (pv 4) (pe_glob (v := .int 12) rfl T.c_MOST_ITEMS ⟨_, rfl⟩) (nomark _)))))
          (pss_one (ps_ret pe_non)) pss_nil)))))))
      (pss_one (ps_ret (pe_tup (pa_cons (pv 3) (pa_cons (pv 4) pa_nil))))))))), ?_⟩
  have hp := dB_pos l
  have hl := hits.length
  refine ⟨_, rfl, _, _, _, _, true, rfl, .ty _, ty_lst hb, kit_ty (by decide +kernel), _, rfl, iteF ?_⟩
  refine ⟨_, rfl, _, _, rfl, rfl, _, rfl, ite2 (fun c => absurd (of_decide_eq_true c) (by omega)) (fun _ => ?_)⟩
  refine ⟨_, rfl, _, _, rfl, .inl (SqL.of hb), ?_⟩
  refine ⟨_, rfl, b, rfl, ⟨_, SqL.of hb⟩, for_list (K := K) (a := b) (xs := vs) (fun i σ H' => ∃ v5 v6, σ = [some (.ref d), some (.ref b), some (.int lv), some (.int (sC (l.take i))), some (.int ((l.length : Int) + sI (l.take i))), v5, v6] ∧ Same H H') ?_ ?_ ?_ ?_⟩
  · refine ⟨none, none, ?_, Same.refl _⟩
    rw [hl]
    simp [sC, sI]
    rfl
  · rintro i σ H' _ ⟨_, _, _, sm⟩
    exact SqL.of (sm _ _ hb)
  · rintro i y σ H' hi ⟨v5, v6, rfl, sm⟩
    obtain ⟨it, e1, e2⟩ := hits.get hi
    have hm : it ∈ l := List.mem_of_getElem? e1
    have c1 := sC_take e1
    have c2 := sI_take e1
    have c3 := sC_take_le l (i + 1)
    have c4 := sI_take_le l (i + 1)
    have c5 := nCB_eq l
    have c6 := nIB_eq l
    have c7 := dB_mem hm
    refine ⟨_, rfl, _, rfl, _, rfl, d, p, y, it, lv, rfl, kn.same sm, e2.keep (Kp.of sm), okB_all.mp hok it hm, by omega, by omega, by omega, by omega, fun t H2 s2 ht => ?_⟩
    refine ⟨_, rfl, rfl, _, rfl, ite2 (fun z => absurd (of_decide_eq_true z) (by simp)) (fun _ => ?_)⟩
    refine ⟨_, rfl, _, rfl, _, _, _, _, rfl, rfl, SqT.of ht, at_of (j := 0) rfl rfl, _, _, rfl, rfl, ?_⟩
    refine ⟨_, rfl, _, rfl, _, _, _, _, rfl, rfl, SqT.of ht, at_of (j := 1) rfl rfl, _, _, rfl, rfl, ?_⟩
    refine ⟨_, rfl, _, _, rfl, rfl, _, rfl, ite2 (fun c => absurd (of_decide_eq_true c) (by omega)) (fun _ => ?_)⟩
    refine ⟨_, rfl, _, _, rfl, rfl, _, rfl, ite2 (fun c => absurd (of_decide_eq_true c) (by omega)) (fun _ => ?_)⟩
    refine ⟨some y, some (.ref t), ?_, sm.trans s2⟩
    have e3 : ((sC (l.take i) : Nat) : Int) + (nC it : Int) = (sC (l.take (i + 1)) : Nat) := by omega
    have e4 : ((l.length : Int) + (sI (l.take i) : Nat)) + (nI it : Int) = (l.length : Int) + (sI (l.take (i + 1)) : Nat) := by omega
    rw [← e3, ← e4]
    rfl
  · rintro σ H' ⟨v5, v6, rfl, sm⟩
    refine ⟨_, rfl, _, rfl, Nat.le_of_lt (small1000 (by simp)), fun t ht => ?_⟩
    refine q t _ (sm.trans (same_upd ht _)) ?_
    rw [upd_same, List.take_of_length_le (by omega), nCB_eq, nIB_eq, Int.natCast_add]
theorem okSizes (T : Txt K mg) : ∀ n : Nat, n ≤ 5 → FnOk P w K mg base CX0 (2 * n + 1) T.aBodySize T.fBodySize ["program", "body", "level"] (spBodySize n)
  | 0, _ => fn_never fun vs H Q E h => by
    obtain ⟨d, p, b, l, lv, _, _, _, _, h0, _⟩ := h
    have := dB_pos l
    omega
  | n + 1, h => okBodySize T n (okItemSize T n (by omega) (okSizes T n (by omega)))
/-! ### the least numbers of calls -/
/-- at L a dict that tells f of the names ns -/
def LsAt (H : Hp) (L : Addr) (ns : List Str) (f : Str → Int) : Prop := ∃ kvs, Rd H L (.dK kvs) ∧ ∀ x ∈ ns, valV kvs (.inr x) = some (.int (f x))
theorem Rd.same {H H' : Hp} {a : Addr} {u : HO} (sm : Same H H') (h : Rd H a u) : Rd H' a u := by
  rcases h with h | ⟨o, h⟩
  · exact .inl (sm _ _ h)
  · exact .inr ⟨o, sm _ _ h⟩
theorem LsAt.same {H H' : Hp} {L : Addr} {ns : List Str} {f : Str → Int} (sm : Same H H') (h : LsAt H L ns f) : LsAt H' L ns f := by
  obtain ⟨kvs, h1, h2⟩ := h
  exact ⟨kvs, Rd.same sm h1, h2⟩
def spLeastItem (n : Nat) : Sp := fun vs H Q _ => ∃ (L : Addr) (ns : List Str) (f : Str → Int) (v : V) (it : FA.It), vs = [.ref L, v] ∧ LsAt H L ns f ∧ ItAt H v it ∧ okI ns it ∧ nI it ≤ 12 ∧ dI it ≤ n ∧
  ∀ H', Same H H' → Q (.int (cost f it)) H'
def spLeastBody (n : Nat) : Sp := fun vs H Q _ => ∃ (L : Addr) (ns : List Str) (f : Str → Int) (b : Addr) (l : List FA.It), vs = [.ref L, .ref b] ∧ LsAt H L ns f ∧ BdAt H b l ∧ okB ns l ∧ nIB l ≤ 12 ∧ dB l ≤ n ∧
  ∀ H', Same H H' → Q (.int (costB f l)) H'
theorem okLeastItem (T : Txt K mg) (n : Nat) (GLeastInBody : FnOk P w K mg base CX0 (2 * n + 1) T.aLeastInBody T.fLeastInBody ["least", "body"] (spLeastBody n)) :
    FnOk P w K mg base CX0 (2 * n + 2) T.aLeastInItem T.fLeastInItem ["least", "item"] (spLeastItem n) := by
  refine T.FLeastInItem.ok scLeastInItem (fun vs H Q E h => ?_) (fun cdv A outer s H vs Q E hr h => ?_)
  · obtain ⟨L, ns, f, v, it, rfl, _⟩ := h
    rfl
  obtain ⟨L, ns, f, v, it, rfl, hL, hI, hok, hN, hn, q⟩ := h
  have hu := hu_of hr
  refine ⟨_, (pss_cons (ps_if (pt_val (pe_callB call_isi (by rfl) T.n_isinstance (by decide +kernel) (pa_cons (pv 1) (pa_cons (pe_bltn (v := .ty "str") (by rfl) T.n_str (by decide +kernel) rfl) pa_nil))))
        (pss_one (ps_ret (pe_dget hu (pv 0) (pv 1) (fun _ _ => rfl)))) pss_nil)
      (pss_cons (ps_if (pt_cmpR op_eq (pe_ix ix_tup (pv 1) pe_int (fun _ _ => rfl)) pe_str (nomark _))
        (pss_one (ps_ret (pe_callB (cr_min rfl) (by rfl) T.n_min (by decide +kernel) (pa_cons (pe_lc (own := [("body", 2)]) (g := gName 2) (tt := tYes) rfl scLeastInItem.nd (pi_list (pe_ix ix_tup (pv 1) pe_int (fun _ _ => rfl))) (blkOk_by (N := ["least", "item", "body"]) (sc := defScope sLeastInItem) (by decide +kernel)) (fun _ _ _ _ _ => (pg_name (i := 2) scLeastInItem.nd rfl (by first | exact Or.inl rfl | exact Or.inr rfl))) (fun _ _ _ _ _ => pts_nil) (fun _ _ _ _ _ => (pe_call GLeastInBody (hr.mono (by omega)) rfl T.gLeastInBody T.FLeastInBody.kp T.bLeastInBody .nil pass0 (pa_cons (pv 0) (pa_cons (pv 2) pa_nil))))) pa_nil)))) pss_nil)
      (pss_one (ps_ret pe_int)))), ?_⟩
  cases hI with
  | call x =>
    obtain ⟨kvs, h1, h2⟩ := hL
    refine ⟨_, rfl, _, _, _, _, true, rfl, .ty _, ty_str x, kit_ty (by decide +kernel), _, rfl, iteT ?_⟩
    refine ⟨_, rfl, _, rfl, L, _, rfl, .inl ⟨kvs, .inr x, h1, rfl, (h2 x (by simpa [okI] using hok)).symm⟩, ?_⟩
    have := q H (Same.refl _)
    simp only [cost] at this
    exact this
  | @may t b vs l h1 h2 h3 =>
    refine ⟨_, rfl, _, _, _, _, false, rfl, .ty _, ty_tup h1, kit_ty (by decide +kernel), _, rfl, iteF ?_⟩
    refine ⟨_, rfl, _, _, _, _, rfl, rfl, SqT.of h1, at_of (j := 0) rfl rfl, rfl, _, rfl, ite2 (fun c => absurd (of_decide_eq_true c) (by decide)) (fun _ => ?_)⟩
    have := q H (Same.refl _)
    simp only [cost] at this
    exact this
  | @loop t b vs l h1 h2 h3 =>
    refine ⟨_, rfl, _, _, _, _, false, rfl, .ty _, ty_tup h1, kit_ty (by decide +kernel), _, rfl, iteF ?_⟩
    refine ⟨_, rfl, _, _, _, _, rfl, rfl, SqT.of h1, at_of (j := 0) rfl rfl, rfl, _, rfl, ite2 (fun c => absurd (of_decide_eq_true c) (by decide)) (fun _ => ?_)⟩
    have := q H (Same.refl _)
    simp only [cost] at this
    exact this
  | @one t b vs ls h1 h2 h3 =>
    simp only [okI] at hok
    obtain ⟨k1, k2, k3, k4⟩ := hok
    have hl := h3.length
    refine ⟨_, rfl, _, _, _, _, false, rfl, .ty _, ty_tup h1, kit_ty (by decide +kernel), _, rfl, iteF ?_⟩
    refine ⟨_, rfl, _, _, _, _, rfl, rfl, SqT.of h1, at_of (j := 0) rfl rfl, rfl, _, rfl, ite2 (fun _ => ?_) (fun c => absurd (decide_eq_true rfl) c)⟩
    refine ⟨_, rfl, _, _, _, _, rfl, rfl, SqT.of h1, at_of (j := 1) rfl rfl, b, rfl, ⟨_, SqL.of h2⟩, fun D hD => lcS (n := vs.length) hD (small1000 (by omega)) _ (fun j v _ => ∃ bd, ls[j]? = some bd ∧ v = .int (costB f bd))
      (go_l (SqL.of h2)) (stop_l (SqL.of h2)) (yld_l (SqL.of h2)) (fun j v A B _ h => h) ?_ ?_⟩
    · intro i x H2 R hi hx s2 k
      obtain ⟨b', bd, rfl, e1, e2⟩ := h3.get hx
      have hm : bd ∈ ls := List.mem_of_getElem? e1
      have m1 := nIBs_mem hm
      have m2 := dBs_mem hm
      simp only [nI] at hN
      simp only [dI] at hn
      exact ⟨rfl, _, rfl, _, rfl, L, ns, f, b', bd, rfl, hL.same s2, e2.keep (Kp.of s2), okBs_all.mp k4 bd hm, by omega, by omega, fun H3 s3 => k _ H3 s3 ⟨bd, e1, rfl⟩⟩
    · intro H2 ys s2 hy hyl hg
      have e := ext_map (ys := ys) (l := ls) (f := fun b => V.int (costB f b)) (by omega) hg
      refine ⟨D, ls.map (costB f), rfl, SqL.of (by rw [hy, e, List.map_map]; rfl), by rw [List.length_map]; omega, fun m hm hle => ?_⟩
      have := minL_unique hm hle
      rw [this]
      have := q H2 s2
      simp only [cost, costBs_map] at this
      exact this
theorem okLeastBody (T : Txt K mg) (n : Nat) (GLeastInItem : FnOk P w K mg base CX0 (2 * n + 2) T.aLeastInItem T.fLeastInItem ["least", "item"] (spLeastItem n)) :
    FnOk P w K mg base CX0 (2 * n + 3) T.aLeastInBody T.fLeastInBody ["least", "body"] (spLeastBody (n + 1)) := by
  refine T.FLeastInBody.ok scLeastInBody (fun vs H Q E h => ?_) (fun cdv A outer s H vs Q E hr h => ?_)
  · obtain ⟨L, ns, f, b, l, rfl, _⟩ := h
    rfl
  obtain ⟨L, ns, f, b, l, rfl, hL, ⟨vs, hb, hits⟩, hok, hN, hn, q⟩ := h
  have hu := hu_of hr
  refine ⟨_, (pss_one (ps_ret (pe_callB (cr_sum rfl) (by rfl) T.n_sum (by decide +kernel) (pa_cons (pe_lc (own := [("item", 2)]) (g := gName 2) (tt := tYes) rfl scLeastInBody.nd (pi_list (pv 1)) (blkOk_by (N := ["least", "body", "item"]) (sc := defScope sLeastInBody) (by decide +kernel)) (fun _ _ _ _ _ => (pg_name (i := 2) scLeastInBody.nd rfl (by first | exact Or.inl rfl | exact Or.inr rfl))) (fun _ _ _ _ _ => pts_nil) (fun _ _ _ _ _ => (pe_call GLeastInItem (hr.mono (by omega)) rfl T.gLeastInItem T.FLeastInItem.kp T.bLeastInItem .nil pass0 (pa_cons (pv 0) (pa_cons (pv 2) pa_nil))))) pa_nil)))), ?_⟩
  have hl := hits.length
  have c6 := nIB_eq l
  refine ⟨_, rfl, b, rfl, ⟨_, SqL.of hb⟩, fun D hD => lcS (n := vs.length) hD (small1000 (by omega)) _ (fun j v _ => ∃ it, l[j]? = some it ∧ v = .int (cost f it))
    (go_l (SqL.of hb)) (stop_l (SqL.of hb)) (yld_l (SqL.of hb)) (fun j v A B _ h => h) ?_ ?_⟩
  · intro i x H2 R hi hx s2 k
    obtain ⟨it, e1, e2⟩ := hits.get hx
    have hm : it ∈ l := List.mem_of_getElem? e1
    have c7 := dB_mem hm
    have c8 : nI it ≤ sI l := by
      have c2 := sI_take e1
      have c4 := sI_take_le l (i + 1)
      omega
    exact ⟨rfl, _, rfl, _, rfl, L, ns, f, x, it, rfl, hL.same s2, e2.keep (Kp.of s2), okB_all.mp hok it hm, by omega, by omega, fun H3 s3 => k _ H3 s3 ⟨it, e1, rfl⟩⟩
  · intro H2 ys s2 hy hyl hg
    have e := ext_map (ys := ys) (l := l) (f := fun it => V.int (cost f it)) (by omega) hg
    refine ⟨D, l.map (cost f), rfl, SqL.of (by rw [hy, e, List.map_map]; rfl), ?_⟩
    rw [← costB_sum]
    exact q H2 s2
theorem okLeast (T : Txt K mg) : ∀ n : Nat, FnOk P w K mg base CX0 (2 * n + 1) T.aLeastInBody T.fLeastInBody ["least", "body"] (spLeastBody n)
  | 0 => fn_never fun vs H Q E h => by
    obtain ⟨L, ns, f, b, l, _, _, _, _, _, h0, _⟩ := h
    have := dB_pos l
    omega
  | n + 1 => okLeastBody T n (okLeastItem T n (okLeast T n))
end K13


set_option Elab.async false
set_option linter.all false
set_option maxRecDepth 100000
set_option maxHeartbeats 4000000
namespace K13
open PySem PySem.Spec PyProof.Rows L2 FA
variable {P : Program} {w : World} {K : PySem.W.Frag} {mg : Str → Option Value} {base : Heap}
/-- a program, by point 5 -/
structure Valid (p : Pr) : Prop where
  len : p.length ≤ 6
  main : ("main" : Str) ∈ pNames p
  nm : ∀ x ∈ pNames p, FA.okName x
  nd : (pNames p).Nodup
  ok : ∀ x l, p.lookup x = some l → okB (pNames p) l ∧ nCB l ≤ 5 ∧ nIB l ≤ 12 ∧ dB l ≤ 4
  ret : ∀ x ∈ pNames p, rnd 13 p p.length x ≤ 12
theorem Rd.lock {H H1 : Hp} {d L : Addr} {od : Obj} {kvs kvs' : List (Key × V)} (hL : Rd H L (.dK kvs')) (hd : Rd H d (.dK kvs)) (e : H1 d = some (.frz od (.dK kvs))) (k : ∀ b, b ≠ d → H1 b = H b) : Rd H1 L (.dK kvs') := by
  by_cases h : L = d
  · subst h
    have : kvs' = kvs := by
      rcases hL with h1 | ⟨o, h1⟩
      · rcases hd with h2 | ⟨o', h2⟩
        · rw [h1] at h2; cases h2; rfl
        · rw [h1] at h2; cases h2
      · rcases hd with h2 | ⟨o', h2⟩
        · rw [h1] at h2; cases h2
        · rw [h1] at h2; cases h2; rfl
    subst this
    exact .inr ⟨od, e⟩
  · unfold Rd
    rw [k L h]
    exact hL
theorem Kp.lock {H H1 : Hp} {d : Addr} {kvs : List (Key × V)} (hd : Rd H d (.dK kvs)) (k : ∀ b, b ≠ d → H1 b = H b) : Kp H H1 := by
  refine ⟨fun a xs e => ?_, fun a xs e => ?_⟩
  · rw [k a]; exact e
    rintro rfl
    rcases hd with h | ⟨o, h⟩ <;> rw [h] at e <;> cases e
  · rw [k a]; exact e
    rintro rfl
    rcases hd with h | ⟨o, h⟩ <;> rw [h] at e <;> cases e
/-- the least numbers as they stand in the dict -/
def lsKv (p : Pr) (f : Str → Int) : List (Key × V) := p.map fun q => (.inr q.1, .int (f q.1))
theorem lsKv_look {f : Str → Int} {x : Str} : ∀ {p : Pr}, x ∈ pNames p → valV (lsKv p f) (.inr x) = some (.int (f x))
  | (y, l) :: p, h => by
    by_cases e : y = x
    · subst e; exact valV_pos rfl
    · rcases List.mem_cons.mp (show x ∈ y :: pNames p from h) with z | z
      · exact absurd z.symm e
      · have q := lsKv_look (f := f) z
        unfold lsKv at q ⊢
        rw [List.map_cons, valV_neg (fun z => e (Sum.inr.inj z))]
        exact q
theorem lsKv_at {H : Hp} {L : Addr} {p : Pr} {f : Str → Int} (h : H L = some (.dK (lsKv p f))) : LsAt H L (pNames p) f := ⟨_, .inl h, fun x hx => lsKv_look hx⟩
def keyF (f : Str → Int) : Key → V
  | .inl _ => .non
  | .inr x => .int (f x)
theorem kvs_keyF {H : Hp} {f : Str → Int} : ∀ {kvs : List (Key × V)} {p : Pr}, PrKv H kvs p → (kvs.map fun q => (q.1, keyF f q.1)) = lsKv p f
  | _, _, .nil => rfl
  | _, _, .cons h t => by
    have := kvs_keyF (f := f) t
    unfold lsKv at this ⊢
    rw [List.map_cons, List.map_cons, this]
    rfl
theorem key_at {H : Hp} {kvs : List (Key × V)} {p : Pr} (h : PrKv H kvs p) {i : Nat} {k : Key} {v : V} (e : kvs[i]? = some (k, v)) : ∃ x, k = .inr x ∧ (pNames p)[i]? = some x ∧ x ∈ pNames p := by
  have q := h.keys
  have e2 : (kvs.map (·.1))[i]? = some k := by rw [List.getElem?_map, e]; rfl
  rw [q] at e2
  rw [List.getElem?_map] at e2
  cases e3 : p[i]? with
  | none => rw [e3] at e2; cases e2
  | some r =>
    rw [e3] at e2
    cases e2
    have e4 : (pNames p)[i]? = some r.1 := by unfold pNames; rw [List.getElem?_map, e3]; rfl
    exact ⟨r.1, rfl, e4, List.mem_of_getElem? e4⟩
theorem keys_nd {H : Hp} {kvs : List (Key × V)} {p : Pr} (h : PrKv H kvs p) (nd : (pNames p).Nodup) : (kvs.map (·.1)).Nodup := by
  rw [h.keys]
  have : (p.map fun q => (Sum.inr q.1 : Key)) = (pNames p).map Sum.inr := by unfold pNames; rw [List.map_map]; rfl
  rw [this]
  exact List.Pairwise.map _ (fun a b hab z => hab (Sum.inr.inj z)) nd
def spLeastCalls : Sp := fun vs H Q _ => ∃ (d : Addr) (p : Pr), vs = [.ref d] ∧ PrAt H d p ∧ (pNames p).Nodup ∧ p.length ≤ 6 ∧ (∀ x l, p.lookup x = some l → okB (pNames p) l ∧ nIB l ≤ 12 ∧ dB l ≤ 4) ∧
  ∀ L H', Same H H' → H' L = some (.dK (lsKv p (rnd 13 p p.length))) → Q (.ref L) H'
theorem okLeastCalls (T : Txt K mg) : FnOk P w K mg base CX0 10 T.aLeastCalls T.fLeastCalls ["program"] spLeastCalls := by
  have GLeastInBody := okLeast (P := P) (w := w) (base := base) T 4
  refine T.FLeastCalls.ok scLeastCalls (fun vs H Q E h => ?_) (fun cdv A outer s H vs Q E hr h => ?_)
  · obtain ⟨d, p, rfl, _⟩ := h
    rfl
  obtain ⟨d, p, rfl, ⟨kvs, hd, hk⟩, nd, hlen, hok, q⟩ := h
  have hu := hu_of hr
  refine ⟨_, (pss_cons (ps_set (i := 1) scLeastCalls.nd rfl (by first | exact Or.inl rfl | exact Or.inr rfl) (pe_op op_add (pe_glob (v := .int 12) rfl T.c_MOST_CALLS_TO_RETURN ⟨_, rfl⟩) pe_int))
      (pss_cons (ps_set (i := 2) scLeastCalls.nd rfl (by first | exact Or.inl rfl | exact Or.inr rfl) (pe_lock2 (pe_dc (own := [("name", 4)]) (g := gName 4) (tt := tYes) rfl scLeastCalls.nd (pi_keys (pv 0)) (blkOk_by (N := ["program", "too_many", "least", "_", "name"]) (sc := defScope sLeastCalls) (by decide +kernel)) (fun _ _ _ _ _ => (pg_name (i := 4) scLeastCalls.nd rfl (by first | exact Or.inl rfl | exact Or.inr rfl))) (fun _ _ _ _ _ => pts_nil) (fun _ _ _ _ _ => (pv 4)) (fun _ _ _ _ _ => (pv 1)))))
      (pss_cons (ps_for PassesOwn.never rfl (pi_range1 (by rfl) T.n_range (pa_cons (pe_callB call_lenR (by rfl) T.n_len PySem.boot_len (pa_cons (pv 0) pa_nil)) pa_nil)) (pg_name (i := 3) scLeastCalls.nd rfl (by first | exact Or.inl rfl | exact Or.inr rfl))
        (pss_one (ps_set (i := 2) scLeastCalls.nd rfl (by first | exact Or.inl rfl | exact Or.inr rfl) (pe_lock2 (pe_dc (own := [("name", 4)]) (g := gName 4) (tt := tYes) rfl scLeastCalls.nd (pi_keys (pv 0)) (blkOk_by (N := ["program", "too_many", "least", "_", "name"]) (sc := defScope sLeastCalls) (by decide +kernel)) (fun _ _ _ _ _ => (pg_name (i := 4) scLeastCalls.nd rfl (by first | exact Or.inl rfl | exact Or.inr rfl))) (fun _ _ _ _ _ => pts_nil) (fun _ _ _ _ _ => (pv 4)) (fun _ _ _ _ _ => (pe_callB (call_min2 rfl) (by rfl) T.n_min (by decide +kernel) (pa_cons (pv 1) (pa_cons (pe_op op_add pe_int (pe_call GLeastInBody (hr.mono (by omega)) rfl T.gLeastInBody T.FLeastInBody.kp T.bLeastInBody .nil pass0 (pa_cons (pv 2) (pa_cons (pe_dget hu (pv 0) (pv 4) (fun _ _ => rfl)) pa_nil)))) pa_nil)))))))))
      (pss_one (ps_ret (pv 2)))))), ?_⟩
  have hkl := hk.length
  have knd := keys_nd hk nd
  refine ⟨_, _, rfl, rfl, ?_⟩
  refine lock2 hd (fun v H => ∃ D, v = .ref D ∧ D ≠ d ∧ H D = some (.dK (lsKv p (rnd 13 p 0)))) (fun v H2 H3 k ⟨D, e1, e2, e3⟩ => ⟨D, e1, e2, by rw [k D e2]; exact e3⟩) ?_ ?_
  · intro H1 od R h1 k1 kR
    refine ⟨_, rfl, d, od, rfl, .inl ⟨kvs, h1, fun D hD => dcS hD h1 knd (small1000 (by omega)) (by show 4 < 5; decide) (keyF (rnd 13 p 0)) ?_ ?_⟩⟩
    · intro i k v H2 R2 e sm kk
      obtain ⟨x, rfl, _, _⟩ := key_at hk e
      exact ⟨_, rfl, kk H2 (Same.refl _)⟩
    · intro H2 sm hD2
      rw [kvs_keyF hk] at hD2
      exact kR _ H2 sm ⟨D, rfl, (fun z => by rw [z, h1] at hD; cases hD), hD2⟩
  · rintro _ H1 sm ⟨D, rfl, hDd, hD⟩
    refine ⟨_, rfl, d, kvs, rfl, Rd.same sm hd, (kvs.length : Nat), rfl, by omega, by have := small1000 (n := kvs.length) (by omega); have := sizeLine_eq; omega, ?_⟩
    have en : ((kvs.length : Nat) : Int).toNat = p.length := by omega
    rw [en]
    refine for_range (lo := 0) (n := p.length) (fun i σ H' => ∃ L v3, σ = [some (.ref d), some (.int 13), some (.ref L), v3, none] ∧ Same H H' ∧ H' L = some (.dK (lsKv p (rnd 13 p i)))) ⟨D, none, rfl, sm, hD⟩ ?_ ?_
    · rintro i σ H2 hi ⟨L, v3, rfl, s2, hL⟩
      have hd2 := Rd.same s2 hd
      refine lock2 hd2 (fun v H => ∃ D, v = .ref D ∧ D ≠ d ∧ H D = some (.dK (lsKv p (rnd 13 p (i + 1))))) (fun v H2 H3 k ⟨D, e1, e2, e3⟩ => ⟨D, e1, e2, by rw [k D e2]; exact e3⟩) ?_ ?_
      · intro H3 od R h1 k1 kR
        have kp : Kp H2 H3 := Kp.lock hd2 k1
        have hk3 : PrKv H3 kvs p := (hk.keep (Kp.of s2)).keep kp
        have hL3 : LsAt H3 L (pNames p) (rnd 13 p i) := ⟨_, Rd.lock (.inl hL) hd2 h1 k1, fun x hx => lsKv_look hx⟩
        refine ⟨_, rfl, d, od, rfl, .inl ⟨kvs, h1, fun D hD => dcS hD h1 knd (small1000 (by omega)) (by show 4 < 5; decide) (keyF (rnd 13 p (i + 1))) ?_ ?_⟩⟩
        · intro j k v H4 R2 e s4 kk
          obtain ⟨x, rfl, _, hx⟩ := key_at hk e
          have pa : PrAt H4 d p := PrAt.same s4 ⟨kvs, .inr ⟨od, h1⟩, hk3⟩
          obtain ⟨l0, e0⟩ := lookup_mem hx
          rcases pa.look (x := x) with ⟨z1, _⟩ | ⟨l, b, z1, z2, z3⟩
          · rw [e0] at z1; cases z1
          · obtain ⟨o1, o2, o3⟩ := hok x l z1
            refine ⟨_, rfl, _, rfl, _, rfl, _, rfl, d, _, rfl, z2, L, pNames p, rnd 13 p i, b, l, rfl, hL3.same s4, z3, o1, o2, o3, fun H5 s5 => ?_⟩
            refine ⟨_, _, rfl, rfl, _, _, rfl, ?_⟩
            have ev : (if (1 : Int) + costB (rnd 13 p i) l < 13 then (1 : Int) + costB (rnd 13 p i) l else 13) = rnd 13 p (i + 1) x := by
              have eb : bodyOf p x = l := by unfold bodyOf; rw [z1]; rfl
              simp only [rnd, eb]
              split <;> omega
            rw [ev]
            exact kk H5 s5
        · intro H4 s4 hD4
          rw [kvs_keyF hk] at hD4
          exact kR _ H4 s4 ⟨D, rfl, (fun z => by rw [z, h1] at hD; cases hD), hD4⟩
      · rintro _ H3 s3 ⟨D', rfl, hDd', hD'⟩
        exact ⟨D', _, rfl, s2.trans s3, hD'⟩
    · rintro σ H2 ⟨L, v3, rfl, s2, hL⟩
      exact ⟨_, rfl, q L H2 s2 hL⟩
end K13


set_option Elab.async false
set_option linter.all false
set_option maxRecDepth 100000
set_option maxHeartbeats 4000000
namespace K13
open PySem PySem.Spec PyProof.Rows L2 FA
variable {P : Program} {w : World} {K : PySem.W.Frag} {mg : Str → Option Value} {base : Heap}
def spIsProgram : Sp := fun vs H Q _ => ∃ (d : Addr) (p : Pr), vs = [.ref d] ∧ PrAt H d p ∧ Valid p ∧ ∀ H', Same H H' → Q (.bl true) H'
theorem all_true (n : Nat) : ((List.replicate n true).all id) = true := by simp
theorem trues {ys : List V} {n : Nat} (hl : ys.length = n) (h : ∀ (j : Nat) y, ys[j]? = some y → y = .bl true) : ys = (List.replicate n true).map V.bl := by
  refine List.ext_getElem? fun j => ?_
  rw [List.map_replicate, List.getElem?_replicate]
  by_cases hj : j < ys.length
  · rw [List.getElem?_eq_getElem hj, h j ys[j] (List.getElem?_eq_getElem hj), if_pos (by omega)]
  · rw [List.getElem?_eq_none (by omega), if_neg (by omega)]
theorem okIsProgram (T : Txt K mg) : FnOk P w K mg base CX0 12 T.aIsProgram T.fIsProgram ["value"] spIsProgram := by
  have GIsName : FnOk P w K mg base CX0 1 T.aIsName T.fIsName ["value"] spIsName := okIsName T
  have GBodySize := okSizes (P := P) (w := w) (base := base) T 4 (by omega)
  have GLeastCalls : FnOk P w K mg base CX0 10 T.aLeastCalls T.fLeastCalls ["program"] spLeastCalls := okLeastCalls T
  refine T.FIsProgram.ok scIsProgram (fun vs H Q E h => ?_) (fun cdv A outer s H vs Q E hr h => ?_)
  · obtain ⟨d, p, rfl, _⟩ := h
    rfl
  obtain ⟨d, p, rfl, hpa, va, q⟩ := h
  have hu := hu_of hr
  obtain ⟨kvs, hd, hk⟩ := id hpa
  have hkl := hk.length
  have hlen := va.len
  refine ⟨_, (pss_cons (ps_if (PW.pt (pw_or (pt_not (pt_val (pe_callB call_isi (by rfl) T.n_isinstance (by decide +kernel) (pa_cons (pv 0) (pa_cons (pe_bltn (v := .ty "dict") (by rfl) T.n_dict (by decide +kernel) rfl) pa_nil))))) (pw_or (pt_cmpR op_gt (pe_callB call_lenR (by rfl) T.n_len PySem.boot_len (pa_cons (pv 0) pa_nil)) (pe_glob (v := .int 6) rfl T.c_MOST_FUNCTIONS ⟨_, rfl⟩) (nomark _)) (pw_or1 (pt_cmp (pc_dnotin hu pe_str (pv 0)))))))
        (pss_one (ps_ret pe_bl)) pss_nil)
      (pss_cons (ps_if (pt_not (pt_val (pe_callB (cr_all rfl) (by rfl) T.n_all (by decide +kernel) (pa_cons (pe_lock2 (pe_lc (own := [("name", 2)]) (g := gName 2) (tt := tYes) rfl scIsProgram.nd (pi_keys (pv 0)) (blkOk_by (N := ["value", "least", "name"]) (sc := defScope sIsProgram) (by decide +kernel)) (fun _ _ _ _ _ => (pg_name (i := 2) scIsProgram.nd rfl (by first | exact Or.inl rfl | exact Or.inr rfl))) (fun _ _ _ _ _ => pts_nil) (fun _ _ _ _ _ => (pe_call GIsName (hr.mono (by omega)) rfl T.gIsName T.FIsName.kp T.bIsName .nil pass0 (pa_cons (pv 2) pa_nil))))) pa_nil))))
        (pss_one (ps_ret pe_bl)) pss_nil)
      (pss_cons (ps_if (pt_not (pt_val (pe_callB (cr_all rfl) (by rfl) T.n_all (by decide +kernel) (pa_cons (pe_lock2 (pe_lc (own := [("name", 2)]) (g := gName 2) (tt := tYes) rfl scIsProgram.nd (pi_keys (pv 0)) (blkOk_by (N := ["value", "least", "name"]) (sc := defScope sIsProgram) (by decide +kernel)) (fun _ _ _ _ _ => (pg_name (i := 2) scIsProgram.nd rfl (by first | exact Or.inl rfl | exact Or.inr rfl))) (fun _ _ _ _ _ => pts_nil) (fun _ _ _ _ _ => (pe_cmpR op_notN (pe_call GBodySize (hr.mono (by omega)) rfl T.gBodySize T.FBodySize.kp T.bBodySize .nil pass0 (pa_cons (pv 0) (pa_cons (pe_dget hu (pv 0) (pv 2) (fun _ _ => rfl)) (pa_cons pe_int pa_nil)))) pe_non (nomark _))))) pa_nil))))
        (pss_one (ps_ret pe_bl)) pss_nil)
      (pss_cons (ps_set (i := 1) scIsProgram.nd rfl (by first | exact Or.inl rfl | exact Or.inr rfl) (pe_call GLeastCalls (hr.mono (by omega)) rfl T.gLeastCalls T.FLeastCalls.kp T.bLeastCalls .nil pass0 (pa_cons (pv 0) pa_nil)))
      (pss_one (ps_ret (pe_callB (cr_all rfl) (by rfl) T.n_all (by decide +kernel) (pa_cons (pe_lock2 (pe_lc (own := [("name", 2)]) (g := gName 2) (tt := tYes) rfl scIsProgram.nd (pi_keys (pv 1)) (blkOk_by (N := ["value", "least", "name"]) (sc := defScope sIsProgram) (by decide +kernel)) (fun _ _ _ _ _ => (pg_name (i := 2) scIsProgram.nd rfl (by first | exact Or.inl rfl | exact Or.inr rfl))) (fun _ _ _ _ _ => pts_nil) (fun _ _ _ _ _ => (pe_cmpR op_le (pe_dget hu (pv 1) (pv 2) (fun _ _ => rfl)) (pe_glob (v := .int 12) rfl T.c_MOST_CALLS_TO_RETURN ⟨_, rfl⟩) (nomark _))))) pa_nil)))))))), ?_⟩
  -- a dict, not too long, with a main
  refine ⟨_, rfl, _, _, _, _, true, rfl, .ty _, ty_dict hd, kit_ty (by decide +kernel), _, rfl, iteF ?_⟩
  refine ⟨_, rfl, d, kvs, rfl, hd, _, _, rfl, rfl, _, rfl, ite2 (fun c => absurd (of_decide_eq_true c) (by omega)) (fun _ => ?_)⟩
  obtain ⟨l0, e0⟩ := lookup_mem va.main
  rcases hpa.look (x := "main") with ⟨z1, _⟩ | ⟨l, b, z1, z2, z3⟩
  · rw [e0] at z1; cases z1
  refine ⟨_, rfl, d, _, rfl, z2, _, rfl, iteF ?_⟩
  -- all names
  refine lock2 hd (fun v H => ∃ D, v = .ref D ∧ D ≠ d ∧ H D = some (.lst ((List.replicate kvs.length true).map V.bl))) (fun v H2 H3 k ⟨D, e1, e2, e3⟩ => ⟨D, e1, e2, by rw [k D e2]; exact e3⟩) ?_ ?_
  · intro H1 od R h1 k1 kR
    refine ⟨_, rfl, d, od, rfl, .inl ⟨kvs, h1, fun D hD => lcS (n := kvs.length) hD (small1000 (by omega)) _ (fun _ v _ => v = .bl true) (go_k h1) (stop_k h1) yld_k (fun _ _ _ _ _ e => e) ?_ ?_⟩⟩
    · rintro i _ H2 R2 hi ⟨k, v, e, rfl⟩ sm kk
      obtain ⟨x, rfl, _, hx⟩ := key_at hk e
      exact ⟨rfl, _, rfl, x, rfl, va.nm x hx, fun H3 s3 => kk _ H3 s3 rfl⟩
    · intro H2 ys s2 hy hl hg
      rw [trues hl hg] at hy
      exact kR _ H2 s2 ⟨D, rfl, (fun z => by rw [z, h1] at hD; cases hD), hy⟩
  rintro _ H1 s1 ⟨D1, rfl, _, hD1⟩
  refine ⟨D1, _, rfl, SqL.of hD1, ?_⟩
  rw [all_true]
  refine ⟨_, rfl, iteF ?_⟩
  have hd1 := Rd.same s1 hd
  have hk1 := hk.keep (Kp.of s1)
  -- all bodies
  refine lock2 hd1 (fun v H => ∃ D, v = .ref D ∧ D ≠ d ∧ H D = some (.lst ((List.replicate kvs.length true).map V.bl))) (fun v H2 H3 k ⟨D, e1, e2, e3⟩ => ⟨D, e1, e2, by rw [k D e2]; exact e3⟩) ?_ ?_
  · intro H2 od R h1 k1 kR
    have hk2 : PrKv H2 kvs p := hk1.keep (Kp.lock hd1 k1)
    have kn : Known H2 d p := ⟨⟨kvs, .inr ⟨od, h1⟩, hk2⟩, va.nm⟩
    refine ⟨_, rfl, d, od, rfl, .inl ⟨kvs, h1, fun D hD => lcS (n := kvs.length) hD (small1000 (by omega)) _ (fun _ v _ => v = .bl true) (go_k h1) (stop_k h1) yld_k (fun _ _ _ _ _ e => e) ?_ ?_⟩⟩
    · rintro i _ H3 R2 hi ⟨k, v, e, rfl⟩ s3 kk
      obtain ⟨x, rfl, _, hx⟩ := key_at hk e
      obtain ⟨l, b, z1, z2, z3⟩ := (kn.same s3).has hx
      obtain ⟨o1, o2, o3, o4⟩ := va.ok x l z1
      refine ⟨rfl, _, rfl, _, rfl, _, rfl, d, _, rfl, z2, d, p, b, l, 1, rfl, kn.same s3, z3, o1, o4, by omega, o2, o3, fun t H4 s4 ht => ?_⟩
      exact ⟨rfl, kk _ H4 s4 (by rfl)⟩
    · intro H3 ys s3 hy hl hg
      rw [trues hl hg] at hy
      exact kR _ H3 s3 ⟨D, rfl, (fun z => by rw [z, h1] at hD; cases hD), hy⟩
  rintro _ H2 s2 ⟨D2, rfl, _, hD2⟩
  refine ⟨D2, _, rfl, SqL.of hD2, ?_⟩
  rw [all_true]
  refine ⟨_, rfl, iteF ?_⟩
  -- the least calls
  have s12 := s1.trans s2
  refine ⟨_, rfl, d, p, rfl, PrAt.same s12 hpa, va.nd, va.len, fun x l e => ⟨(va.ok x l e).1, (va.ok x l e).2.2.1, (va.ok x l e).2.2.2⟩, fun L H3 s3 hL => ?_⟩
  refine lock2 (d := L) (.inl hL) (fun v H => ∃ D, v = .ref D ∧ D ≠ L ∧ H D = some (.lst ((List.replicate (lsKv p (rnd 13 p p.length)).length true).map V.bl))) (fun v H2 H3 k ⟨D, e1, e2, e3⟩ => ⟨D, e1, e2, by rw [k D e2]; exact e3⟩) ?_ ?_
  · intro H4 od R h1 k1 kR
    have hll : (lsKv p (rnd 13 p p.length)).length = p.length := by unfold lsKv; rw [List.length_map]
    refine ⟨_, rfl, L, od, rfl, .inl ⟨_, h1, fun D hD => lcS (n := (lsKv p (rnd 13 p p.length)).length) hD (small1000 (by omega)) _ (fun _ v _ => v = .bl true) (go_k h1) (stop_k h1) yld_k (fun _ _ _ _ _ e => e) ?_ ?_⟩⟩
    · rintro i _ H5 R2 hi ⟨k, v, e, rfl⟩ s5 kk
      have ek : ∃ x ∈ pNames p, k = .inr x := by
        unfold lsKv at e
        rw [List.getElem?_map] at e
        cases e3 : p[i]? with
        | none => rw [e3] at e; cases e
        | some r =>
          rw [e3] at e
          cases e
          exact ⟨r.1, List.mem_map.mpr ⟨r, List.mem_of_getElem? e3, rfl⟩, rfl⟩
      obtain ⟨x, hx, rfl⟩ := ek
      have le := va.ret x hx
      refine ⟨rfl, _, rfl, _, rfl, L, _, rfl, .inl ⟨_, .inr x, .inr ⟨od, s5 _ _ h1⟩, rfl, (lsKv_look hx).symm⟩, _, _, rfl, rfl, ?_⟩
      exact kk _ H5 (Same.refl _) (congrArg V.bl (decide_eq_true le))
    · intro H5 ys s5 hy hl hg
      rw [trues hl hg] at hy
      exact kR _ H5 s5 ⟨D, rfl, (fun z => by rw [z, h1] at hD; cases hD), hy⟩
  rintro _ H5 s5 ⟨D3, rfl, _, hD3⟩
  refine ⟨D3, _, rfl, SqL.of hD3, ?_⟩
  rw [all_true]
  exact q H5 (s12.trans (s3.trans s5))
def spIsFunction : Sp := fun vs H Q _ => ∃ (d : Addr) (p : Pr) (x : Str), vs = [.ref d, .str x] ∧ PrAt H d p ∧ x ∈ pNames p ∧ Q (.bl true) H
theorem okIsFunction (T : Txt K mg) : FnOk P w K mg base CX0 1 T.aIsFunction T.fIsFunction ["program", "value"] spIsFunction := by
  refine T.FIsFunction.ok scIsFunction (fun vs H Q E h => ?_) (fun cdv A outer s H vs Q E hr h => ?_)
  · obtain ⟨d, p, x, rfl, _⟩ := h
    rfl
  obtain ⟨d, p, x, rfl, hpa, hx, q⟩ := h
  have hu := hu_of hr
  refine ⟨_, (pss_one (ps_ret (pe_and (pe_callB call_isi (by rfl) T.n_isinstance (by decide +kernel) (pa_cons (pv 1) (pa_cons (pe_bltn (v := .ty "str") (by rfl) T.n_str (by decide +kernel) rfl) pa_nil))) (pe_one (pe_cmp (pc_din hu (pv 1) (pv 0))))))), ?_⟩
  obtain ⟨l0, e0⟩ := lookup_mem hx
  rcases hpa.look (x := x) with ⟨z1, _⟩ | ⟨l, b, z1, z2, z3⟩
  · rw [e0] at z1; cases z1
  refine ⟨_, rfl, _, _, _, _, true, rfl, .ty _, ty_str x, kit_ty (by decide +kernel), _, rfl, iteT ?_⟩
  exact ⟨_, rfl, _, rfl, d, _, rfl, z2, q⟩
def spCheckProgram : Sp := fun vs H Q _ => ∃ (d : Addr) (p : Pr), vs = [.ref d] ∧ PrAt H d p ∧ Valid p ∧ ∀ H', Same H H' → Q .non H'
theorem okCheckProgram (T : Txt K mg) : FnOk P w K mg base CX0 13 T.aCheckProgram T.fCheckProgram ["program"] spCheckProgram := by
  have GIsProgram : FnOk P w K mg base CX0 12 T.aIsProgram T.fIsProgram ["value"] spIsProgram := okIsProgram T
  refine T.FCheckProgram.ok scCheckProgram (fun vs H Q E h => ?_) (fun cdv A outer s H vs Q E hr h => ?_)
  · obtain ⟨d, p, rfl, _⟩ := h
    rfl
  obtain ⟨d, p, rfl, hpa, va, q⟩ := h
  refine ⟨_, (pss_one (ps_if (pt_not (pt_val (pe_call GIsProgram (hr.mono (by omega)) rfl T.gIsProgram T.FIsProgram.kp T.bIsProgram .nil pass0 (pa_cons (pv 0) pa_nil))))
        (pss_one ps_never) pss_nil)), ?_⟩
  exact ⟨_, rfl, d, p, rfl, hpa, va, fun H1 s1 => ⟨_, rfl, iteF (q H1 s1)⟩⟩
/-! ### stacks -/
/-- a stack, as a tuple of names -/
def StAt (H : Hp) (v : V) (st : List Str) : Prop := ∃ t, v = .ref t ∧ H t = some (.tup (st.map V.str))
inductive SksAt (H : Hp) : List V → List (List Str) → Prop
  | nil : SksAt H [] []
  | cons {t : Addr} {st : List Str} {vs : List V} {l : List (List Str)} : H t = some (.tup (st.map V.str)) → SksAt H vs l → SksAt H (.ref t :: vs) (st :: l)
section
variable {H H' : Hp}
theorem SksAt.keep (k : ∀ t xs, H t = some (.tup xs) → H' t = some (.tup xs)) : ∀ {vs : List V} {l : List (List Str)}, SksAt H vs l → SksAt H' vs l
  | _, _, .nil => .nil
  | _, _, .cons h t => .cons (k _ _ h) (t.keep k)
theorem SksAt.length : ∀ {vs : List V} {l : List (List Str)}, SksAt H vs l → vs.length = l.length
  | _, _, .nil => rfl
  | _, _, .cons _ t => congrArg (· + 1) t.length
theorem SksAt.get : ∀ {vs : List V} {l : List (List Str)} {i : Nat} {v : V}, SksAt H vs l → vs[i]? = some v → ∃ t st, v = .ref t ∧ l[i]? = some st ∧ H t = some (.tup (st.map V.str))
  | _, _, _, _, .nil, e => by simp at e
  | _, _, 0, _, .cons h _, e => by simp at e; subst e; exact ⟨_, _, rfl, rfl, h⟩
  | _, _, i + 1, _, .cons _ t, e => by
    obtain ⟨t', st, a, c, d⟩ := SksAt.get (i := i) t (by simpa using e)
    exact ⟨t', st, a, by simpa using c, d⟩
theorem SksAt.snoc : ∀ {vs : List V} {l : List (List Str)} {t : Addr} {st : List Str}, SksAt H vs l → H t = some (.tup (st.map V.str)) → SksAt H (vs ++ [.ref t]) (l ++ [st])
  | _, _, _, _, .nil, h => .cons h .nil
  | _, _, _, _, .cons h t, h2 => .cons h (t.snoc h2)
theorem SksAt.set : ∀ {vs : List V} {l : List (List Str)} {i : Nat} {t : Addr} {st : List Str}, SksAt H vs l → H t = some (.tup (st.map V.str)) → SksAt H (vs.set i (.ref t)) (l.set i st)
  | _, _, _, _, _, .nil, h => .nil
  | _, _, 0, _, _, .cons h t, h2 => .cons h2 t
  | _, _, i + 1, _, _, .cons h t, h2 => .cons h (t.set h2)
theorem SksAt.tail : ∀ {vs : List V} {l : List (List Str)}, SksAt H vs l → SksAt H vs.tail l.tail
  | _, _, .nil => .nil
  | _, _, .cons _ t => t
end
/-- stacks of functions of a program that all begin with top -/
structure Sks (ns : List Str) (top : Str) (l : List (List Str)) : Prop where
  nm : ∀ st ∈ l, ∀ x ∈ st, x ∈ ns
  hd : ∀ st ∈ l, ∃ r, st = top :: r
  len : ∀ st ∈ l, st.length ≤ 8
def spIsStack : Sp := fun vs H Q _ => ∃ (d t : Addr) (p : Pr) (st : List Str), vs = [.ref d, .ref t] ∧ PrAt H d p ∧ H t = some (.tup (st.map V.str)) ∧ (∀ x ∈ st, x ∈ pNames p) ∧ 1 ≤ st.length ∧ st.length ≤ 8 ∧ ∀ H', Same H H' → Q (.bl true) H'
theorem okIsStack (T : Txt K mg) : FnOk P w K mg base CX0 2 T.aIsStack T.fIsStack ["program", "value"] spIsStack := by
  have GIsFunction : FnOk P w K mg base CX0 1 T.aIsFunction T.fIsFunction ["program", "value"] spIsFunction := okIsFunction T
  refine T.FIsStack.ok scIsStack (fun vs H Q E h => ?_) (fun cdv A outer s H vs Q E hr h => ?_)
  · obtain ⟨d, t, p, st, rfl, _⟩ := h
    rfl
  obtain ⟨d, t, p, st, rfl, hpa, ht, hn, h1, h8, q⟩ := h
  have hu := hu_of hr
  refine ⟨_, (pss_cons (ps_if (PW.pt (pw_or (pt_not (pt_val (pe_callB call_isi (by rfl) T.n_isinstance (by decide +kernel) (pa_cons (pv 1) (pa_cons (pe_bltn (v := .ty "tuple") (by rfl) T.n_tuple (by decide +kernel) rfl) pa_nil))))) (pw_or1 (pt_not (pt_chain op_le op_le pe_int (pe_callB call_len_seq (by rfl) T.n_len PySem.boot_len (pa_cons (pv 1) pa_nil)) (pe_glob (v := .int 8) rfl T.c_MOST_NAMES_IN_STACK ⟨_, rfl⟩))))))
        (pss_one (ps_ret pe_bl)) pss_nil)
      (pss_one (ps_ret (pe_callB (cr_all rfl) (by rfl) T.n_all (by decide +kernel) (pa_cons (pe_lc (own := [("name", 2)]) (g := gName 2) (tt := tYes) rfl scIsStack.nd (pi_tup (pv 1)) (blkOk_by (N := ["program", "value", "name"]) (sc := defScope sIsStack) (by decide +kernel)) (fun _ _ _ _ _ => (pg_name (i := 2) scIsStack.nd rfl (by first | exact Or.inl rfl | exact Or.inr rfl))) (fun _ _ _ _ _ => pts_nil) (fun _ _ _ _ _ => (pe_call GIsFunction (hr.mono (by omega)) rfl T.gIsFunction T.FIsFunction.kp T.bIsFunction .nil pass0 (pa_cons (pv 0) (pa_cons (pv 2) pa_nil))))) pa_nil))))), ?_⟩
  have hl : (st.map V.str).length = st.length := List.length_map ..
  refine ⟨_, rfl, _, _, _, _, true, rfl, .ty _, ty_tup ht, kit_ty (by decide +kernel), _, rfl, iteF ?_⟩
  refine ⟨_, rfl, _, _, rfl, .inr (SqT.of ht), _, _, rfl, rfl, _, rfl, ite2 (fun _ => ?_) (fun c => absurd (decide_eq_true (by omega)) c)⟩
  refine ⟨_, _, rfl, rfl, _, rfl, ite2 (fun c => absurd (c.symm.trans (congrArg not (decide_eq_true (by omega)))) (by decide)) (fun _ => ?_)⟩
  refine ⟨_, rfl, t, rfl, ⟨_, SqT.of ht⟩, fun D hD => lcS (n := (st.map V.str).length) hD (small1000 (by omega)) _ (fun _ v _ => v = .bl true) (go_t (SqT.of ht)) (stop_t (SqT.of ht)) (yld_t (SqT.of ht)) (fun _ _ _ _ _ e => e) ?_ ?_⟩
  · intro i x H1 R hi hx s1 k
    obtain ⟨y, hy, rfl⟩ := str_get hx
    exact ⟨rfl, _, rfl, _, rfl, d, p, y, rfl, PrAt.same s1 hpa, hn y (List.mem_of_getElem? hy), k _ _ (Same.refl _) rfl⟩
  · intro H1 ys s1 hy hyl hg
    rw [trues hyl hg] at hy
    refine ⟨D, _, rfl, SqL.of hy, ?_⟩
    rw [all_true]
    exact q H1 s1
def spCheckStacks : Sp := fun vs H Q _ => ∃ (d l : Addr) (p : Pr) (ws : List V) (sks : List (List Str)) (top : Str), vs = [.ref d, .ref l] ∧ PrAt H d p ∧ H l = some (.lst ws) ∧ SksAt H ws sks ∧ Sks (pNames p) top sks ∧ ws.length ≤ 300 ∧ ∀ H', Same H H' → Q .non H'
theorem okCheckStacks (T : Txt K mg) : FnOk P w K mg base CX0 3 T.aCheckStacks T.fCheckStacks ["program", "stacks"] spCheckStacks := by
  have GIsStack : FnOk P w K mg base CX0 2 T.aIsStack T.fIsStack ["program", "value"] spIsStack := okIsStack T
  refine T.FCheckStacks.ok scCheckStacks (fun vs H Q E h => ?_) (fun cdv A outer s H vs Q E hr h => ?_)
  · obtain ⟨d, l, p, ws, sks, top, rfl, _⟩ := h
    rfl
  obtain ⟨d, l, p, ws, sks, top, rfl, hpa, hl, hs, ok, hlen, q⟩ := h
  have hu := hu_of hr
  refine ⟨_, (pss_cons (ps_if (PW.pt (pw_or (pt_not (pt_val (pe_callB call_isi (by rfl) T.n_isinstance (by decide +kernel) (pa_cons (pv 1) (pa_cons (pe_bltn (v := .ty "list") (by rfl) T.n_list (by decide +kernel) rfl) pa_nil))))) (pw_or1 (pt_not (pt_val (pe_callB (cr_all rfl) (by rfl) T.n_all (by decide +kernel) (pa_cons (pe_lc (own := [("stack", 2)]) (g := gName 2) (tt := tYes) rfl scCheckStacks.nd (pi_list (pv 1)) (blkOk_by (N := ["program", "stacks", "stack"]) (sc := defScope sCheckStacks) (by decide +kernel)) (fun _ _ _ _ _ => (pg_name (i := 2) scCheckStacks.nd rfl (by first | exact Or.inl rfl | exact Or.inr rfl))) (fun _ _ _ _ _ => pts_nil) (fun _ _ _ _ _ => (pe_call GIsStack (hr.mono (by omega)) rfl T.gIsStack T.FIsStack.kp T.bIsStack .nil pass0 (pa_cons (pv 0) (pa_cons (pv 2) pa_nil))))) pa_nil)))))))
        (pss_one ps_never) pss_nil)
      (pss_one (ps_if (pt_not (pt_val (pe_callB (cr_all rfl) (by rfl) T.n_all (by decide +kernel) (pa_cons (pe_lc (own := [("stack", 2)]) (g := gName 2) (tt := tYes) rfl scCheckStacks.nd (pi_list (pv 1)) (blkOk_by (N := ["program", "stacks", "stack"]) (sc := defScope sCheckStacks) (by decide +kernel)) (fun _ _ _ _ _ => (pg_name (i := 2) scCheckStacks.nd rfl (by first | exact Or.inl rfl | exact Or.inr rfl))) (fun _ _ _ _ _ => pts_nil) (fun _ _ _ _ _ => (pe_cmpR op_eq (pe_ix (ix_tupK (K := K) rfl) (pv 2) pe_int (fun _ _ => rfl)) (pe_ix (ix_tupK (K := K) rfl) (pe_ix (ix_listK (K := K) rfl) (pv 1) pe_int (fun _ _ => rfl)) pe_int (fun _ _ => rfl)) (nomark _)))) pa_nil))))
        (pss_one ps_never) pss_nil))), ?_⟩
  refine ⟨_, rfl, _, _, _, _, true, rfl, .ty _, ty_lst hl, kit_ty (by decide +kernel), _, rfl, iteF ?_⟩
  refine ⟨_, rfl, l, rfl, ⟨_, SqL.of hl⟩, fun D hD => lcS (n := ws.length) hD (small1000 (by omega)) _ (fun _ v _ => v = .bl true) (go_l (SqL.of hl)) (stop_l (SqL.of hl)) (yld_l (SqL.of hl)) (fun _ _ _ _ _ e => e) ?_ ?_⟩
  · intro i x H1 R hi hx s1 k
    obtain ⟨t, st, rfl, e1, e2⟩ := hs.get hx
    have hm := List.mem_of_getElem? e1
    have h1 : 1 ≤ st.length := by
      obtain ⟨r, e⟩ := ok.hd st hm
      rw [e]; simp
    exact ⟨rfl, _, rfl, _, rfl, d, t, p, st, rfl, PrAt.same s1 hpa, s1 _ _ e2, ok.nm st hm, h1, ok.len st hm, fun H2 s2 => k _ _ s2 rfl⟩
  · intro H1 ys s1 hy hyl hg
    rw [trues hyl hg] at hy
    refine ⟨D, _, rfl, SqL.of hy, ?_⟩
    rw [all_true]
    refine ⟨_, rfl, iteF ?_⟩
    have hl1 := s1 _ _ hl
    refine ⟨_, rfl, l, rfl, ⟨_, SqL.of hl1⟩, fun D2 hD2 => lcS (n := ws.length) hD2 (small1000 (by omega)) _ (fun _ v _ => v = .bl true) (go_l (SqL.of hl1)) (stop_l (SqL.of hl1)) (yld_l (SqL.of hl1)) (fun _ _ _ _ _ e => e) ?_ ?_⟩
    · intro i x H2 R hi hx s2 k
      obtain ⟨t, st, rfl, e1, e2⟩ := hs.get hx
      have hm := List.mem_of_getElem? e1
      obtain ⟨r, er⟩ := ok.hd st hm
      have e2' := s2 _ _ (s1 _ _ e2)
      -- the first stack
      have hws : 0 < ws.length := by omega
      have hx0 : ws[0]? = some ws[0] := List.getElem?_eq_getElem hws
      obtain ⟨t0, st0, z0, e3, e4⟩ := hs.get hx0
      rw [z0] at hx0
      obtain ⟨r0, er0⟩ := ok.hd st0 (List.mem_of_getElem? e3)
      have e4' := s2 _ _ (s1 _ _ e4)
      rw [er, List.map_cons] at e2'
      rw [er0, List.map_cons] at e4'
      refine ⟨rfl, _, rfl, _, _, _, _, rfl, rfl, SqT.of e2', at_of (j := 0) rfl rfl, ?_⟩
      refine ⟨_, rfl, _, _, _, _, rfl, rfl, SqL.of (s2 _ _ hl1), at_of (j := 0) rfl hx0, ?_⟩
      refine ⟨_, _, _, _, rfl, rfl, SqT.of e4', at_of (j := 0) rfl rfl, rfl, ?_⟩
      exact k _ _ (Same.refl _) (congrArg V.bl (decide_eq_true rfl))
    · intro H2 ys2 s2 hy2 hyl2 hg2
      rw [trues hyl2 hg2] at hy2
      refine ⟨D2, _, rfl, SqL.of hy2, ?_⟩
      rw [all_true]
      exact ⟨_, rfl, iteF (q H2 (s1.trans s2))⟩
end K13


set_option Elab.async false
set_option linter.all false
set_option maxRecDepth 100000
set_option maxHeartbeats 4000000
namespace K13
open PySem PySem.Spec PyProof.Rows L2 FA
variable {P : Program} {w : World} {K : PySem.W.Frag} {mg : Str → Option Value} {base : Heap}
/-- a source of draws at a: at most n numbers were mixed -/
def WellAt (H : Hp) (a : Addr) (n : Nat) : Prop := ∃ x y z : Int, H a = some (.lst [.int x, .int y, .int z]) ∧ 0 ≤ x ∧ x.natAbs < 2 ^ 20000 ∧ 0 ≤ y ∧ y.natAbs < 2 ^ 100 ∧ 0 ≤ z ∧ z ≤ n
theorem WellAt.mono {H : Hp} {a : Addr} {n m : Nat} (h : WellAt H a n) (hm : n ≤ m) : WellAt H a m := by
  obtain ⟨x, y, z, h1, h2, h3, h4, h5, h6, h7⟩ := h
  exact ⟨x, y, z, h1, h2, h3, h4, h5, h6, by omega⟩
theorem WellAt.keep {H H' : Hp} {a : Addr} {n : Nat} (h : WellAt H a n) (k : ∀ o, H a = some o → H' a = some o) : WellAt H' a n := by
  obtain ⟨x, y, z, h1, h⟩ := h
  exact ⟨x, y, z, k _ h1, h⟩
theorem WellAt.some {H : Hp} {a : Addr} {n : Nat} (h : WellAt H a n) : ∃ o, H a = some o := by
  obtain ⟨x, y, z, h1, _⟩ := h
  exact ⟨_, h1⟩
theorem e18 : ((10 : Int) ^ Int.toNat 18) = 1000000000000000000 := by decide
theorem e60 : ((10 : Int) ^ Int.toNat 60) = 1000000000000000000000000000000000000000000000000000000000000 := by decide
theorem abs_small {i : Int} {n : Nat} (h : i.natAbs < 2 ^ n) (hn : n ≤ 1000000) : i.natAbs < 2 ^ 1000000 := Nat.lt_of_lt_of_le h (Nat.pow_le_pow_right (by decide) hn)
/-- one more cell: 200 more bits -/
theorem digits_more {d c : Int} {k : Nat} (h0 : 0 ≤ d) (h : d.natAbs < 2 ^ (1 + 202 * k)) (c0 : 0 ≤ c) (hc : c < (10 : Int) ^ Int.toNat 60) : 0 ≤ d * (10 : Int) ^ Int.toNat 60 + c ∧ (d * (10 : Int) ^ Int.toNat 60 + c).natAbs < 2 ^ (1 + 202 * (k + 1)) := by
  have hp : (0 : Int) ≤ (10 : Int) ^ Int.toNat 60 := by rw [e60]; decide
  have hm := Int.mul_nonneg h0 hp
  refine ⟨by omega, ?_⟩
  have h1 : (d * (10 : Int) ^ Int.toNat 60 + c).natAbs ≤ d.natAbs * 1000000000000000000000000000000000000000000000000000000000000 + 1000000000000000000000000000000000000000000000000000000000000 := by
    rw [e60] at hc ⊢
    have : (d * 1000000000000000000000000000000000000000000000000000000000000).natAbs = d.natAbs * 1000000000000000000000000000000000000000000000000000000000000 := by rw [Int.natAbs_mul]; rfl
    omega
  have h2 : (2 : Nat) ^ (1 + 202 * (k + 1)) = 2 ^ (1 + 202 * k) * 2 ^ 202 := by rw [← Nat.pow_add]; congr 1
  have h3 : (2 : Nat) ^ 202 = 6427752177035961102167848369364650410088811975131171341205504 := by decide
  rw [h2, h3]
  have h4 : 1 ≤ (2 : Nat) ^ (1 + 202 * k) := Nat.one_le_two_pow
  generalize (2 : Nat) ^ (1 + 202 * k) = z at *
  generalize d.natAbs = y at *
  omega
def spSpring : Sp := fun vs H Q _ => ∃ (s : Addr) (ns : List Int), vs = [.ref s] ∧ SqL K H s (ns.map V.int) ∧ ∀ a H', Same H H' → H a = none → WellAt H' a 0 → Q (.ref a) H'
theorem okSpring (T : Txt K mg) : FnOk P w K mg base CX0 1 T.aLSpring T.fLSpring ["script"] (spSpring (K := K)) := by
  refine T.FLSpring.ok scLSpring (fun vs H Q E h => ?_) (fun cdv A outer s H vs Q E hr h => ?_)
  · obtain ⟨s, ns, rfl, _⟩ := h
    rfl
  obtain ⟨a, ns, rfl, hs, q⟩ := h
  have hu := hu_of hr
  refine ⟨_, (pss_cons (ps_asg (pe_tup (pa_cons pe_int (pa_cons pe_int pa_nil))) (pg_tup rfl (pgs_cons (pg_name (i := 2) scLSpring.nd rfl (by first | exact Or.inl rfl | exact Or.inr rfl)) (pgs_cons (pg_name (i := 3) scLSpring.nd rfl (by first | exact Or.inl rfl | exact Or.inr rfl)) pgs_nil))))
      (pss_cons (ps_for PassesOwn.never rfl (pi_list (pe_slice sl_list (pv 0) po_none (po_some pe_int))) (pg_name (i := 1) scLSpring.nd rfl (by first | exact Or.inl rfl | exact Or.inr rfl))
        (pss_cons (ps_if (pt_cmpR op_ge (pe_callB call_abs (by rfl) T.n_abs (by decide +kernel) (pa_cons (pv 1) pa_nil)) (pe_op op_pow pe_int pe_int) (nomark _))
          (pss_one (ps_set (i := 2) scLSpring.nd rfl (by first | exact Or.inl rfl | exact Or.inr rfl) (pe_op op_add (pe_op op_mulW (pv 2) (pe_op op_pow pe_int pe_int)) (pe_op op_mod (pe_callB call_abs (by rfl) T.n_abs (by decide +kernel) (pa_cons (pv 1) pa_nil)) (pe_op op_pow pe_int pe_int))))) pss_nil)
        (pss_one (ps_set (i := 3) scLSpring.nd rfl (by first | exact Or.inl rfl | exact Or.inr rfl) (pe_op op_mod (pe_op op_add (pe_op op_add (pe_op op_mul (pv 3) pe_int) (pe_op op_mod (pv 1) pe_int)) pe_int) pe_int)))))
      (pss_one (ps_ret (pe_lst (pa_cons (pv 2) (pa_cons (pv 3) (pa_cons pe_int pa_nil)))))))), ?_⟩
  have ecut : cutV (ns.map V.int) none (some (40 : Int)) = (ns.take 40).map V.int := by
    rw [show (40 : Int) = ((40 : Nat) : Int) from rfl, cut_to', List.map_take]
  refine ⟨Nat.le_of_lt (small1000 (by simp)), fun tp htp => ?_⟩
  refine ⟨tp, _, rfl, SqT.of upd_same, rfl, _, _, rfl, _, _, rfl, rfl, ?_⟩
  have s0 := same_upd htp (.tup [V.int 0, V.int 70612954409])
  have hs := s0.seq hs
  generalize upd H tp (.tup [V.int 0, V.int 70612954409]) = H0 at s0 hs ⊢
  refine ⟨_, rfl, _, rfl, a, _, rfl, hs, fun p hp => ?_⟩
  rw [ecut]
  have s1 := s0.trans (same_upd hp (.lst ((ns.take 40).map V.int)))
  have hp1 : (upd H0 p (.lst ((ns.take 40).map V.int))) p = some (.lst ((ns.take 40).map V.int)) := upd_same
  generalize upd H0 p (.lst ((ns.take 40).map V.int)) = H1 at s1 hp1 ⊢
  refine ⟨p, rfl, ⟨_, SqL.of hp1⟩, for_list (K := K) (a := p) (xs := (ns.take 40).map V.int) (fun i σ H' => ∃ v1 d y, σ = [some (.ref a), v1, some (.int d), some (.int y)] ∧ H' = H1 ∧ 0 ≤ d ∧ d.natAbs < 2 ^ (1 + 202 * i) ∧ 0 ≤ y ∧ y.natAbs < 2 ^ 100) ⟨none, 0, 70612954409, rfl, rfl, by decide, by decide, by decide, by decide⟩ ?_ ?_ ?_⟩
  · rintro i σ H' _ ⟨_, _, _, _, rfl, _⟩
    exact SqL.of hp1
  · rintro i x σ H' hi ⟨v1, d, y, rfl, rfl, d0, d1, y0, y1⟩
    rw [List.getElem?_map] at hi
    cases hc : (ns.take 40)[i]? with
    | none => rw [hc] at hi; cases hi
    | some cell =>
      rw [hc] at hi
      cases hi
      have rest : ∀ d' : Int, 0 ≤ d' → d'.natAbs < 2 ^ (1 + 202 * (i + 1)) → ∃ v1 d y', ([some (V.ref a), some (V.int cell), some (V.int d'), some (V.int ((y * 1000213 + cell % 2305843009213693951 + 29) % 618970019642690137449562111))] : L2.St) = [some (.ref a), v1, some (.int d), some (.int y')] ∧ H' = H' ∧ 0 ≤ d ∧ d.natAbs < 2 ^ (1 + 202 * (i + 1)) ∧ 0 ≤ y' ∧ y'.natAbs < 2 ^ 100 := fun d' h0 h1 => by
        refine ⟨_, d', _, rfl, rfl, h0, h1, Int.emod_nonneg _ (by decide), ?_⟩
        have m0 := Int.emod_nonneg (y * 1000213 + cell % 2305843009213693951 + 29) (b := 618970019642690137449562111) (by decide)
        have m1 := Int.emod_lt_of_pos (y * 1000213 + cell % 2305843009213693951 + 29) (b := 618970019642690137449562111) (by decide)
        omega
      have hb0 : ∀ z : Int, 0 ≤ (if z < 0 then -z else z) := fun z => by split <;> omega
      refine ⟨_, rfl, _, rfl, _, _, rfl, rfl, ⟨by decide, by decide, by decide⟩, _, _, rfl, rfl, _, rfl, ite2 (fun c => ?_) (fun c => ?_)⟩
      · have m0 := Int.emod_nonneg (if cell < 0 then -cell else cell) (b := (10 : Int) ^ Int.toNat 60) (by rw [e60]; decide)
        have m1 := Int.emod_lt_of_pos (if cell < 0 then -cell else cell) (b := (10 : Int) ^ Int.toNat 60) (by rw [e60]; decide)
        have dm := digits_more d0 d1 m0 m1
        have hi40 : i < 40 := by
          have := (List.getElem?_eq_some_iff.mp hc).1
          rw [List.length_take] at this
          omega
        refine ⟨_, rfl, _, _, rfl, rfl, ⟨by decide, by decide, by decide⟩, _, _, rfl, rfl, wide_mul (a := 1 + 202 * i) (b := 300) d1 (by rw [e60]; decide) (by omega) (by decide) (by omega), ?_⟩
        refine ⟨_, rfl, _, rfl, _, _, rfl, rfl, ⟨by decide, by decide, by decide⟩, _, _, rfl, rfl, (by show (0 : Int) < _; rw [e60]; decide), _, _, rfl, rfl, ?_⟩
        refine ⟨_, rfl, _, _, rfl, rfl, .inr ⟨by decide, by decide⟩, _, rfl, _, _, rfl, rfl, (by show (0 : Int) < _; decide), _, _, rfl, rfl, _, _, rfl, rfl, _, _, rfl, rfl, (by show (0 : Int) < _; decide), ?_⟩
        exact rest _ dm.1 dm.2
      · refine ⟨_, rfl, _, _, rfl, rfl, .inr ⟨by decide, by decide⟩, _, rfl, _, _, rfl, rfl, (by show (0 : Int) < _; decide), _, _, rfl, rfl, _, _, rfl, rfl, _, _, rfl, rfl, (by show (0 : Int) < _; decide), ?_⟩
        exact rest d d0 (Nat.lt_of_lt_of_le d1 (Nat.pow_le_pow_right (by decide) (by omega)))
  · rintro σ H' ⟨v1, d, y, rfl, rfl, d0, d1, y0, y1⟩
    refine ⟨_, rfl, _, rfl, Nat.le_of_lt (small1000 (by simp)), fun r hr2 => ?_⟩
    have hl : ((ns.take 40).map V.int).length ≤ 40 := by rw [List.length_map, List.length_take]; omega
    refine q r _ (s1.trans (same_upd hr2 _)) (s1.free hr2) ⟨d, y, 0, upd_same, d0, Nat.lt_of_lt_of_le d1 (Nat.pow_le_pow_right (by decide) (by omega)), y0, y1, Int.le_refl _, Int.le_refl _⟩
def spDraw : Sp := fun vs H Q _ => ∃ (a : Addr) (m : Int) (n : Nat), vs = [.ref a, .int m] ∧ 1 ≤ m ∧ m < 1000000 ∧ WellAt H a n ∧ n < 2 ^ 90 ∧
  ∀ r H', 0 ≤ r → r < m → Sm [a] H H' → WellAt H' a (n + 1) → Q (.int r) H'
theorem okDraw (T : Txt K mg) : FnOk P w K mg base CX0 1 T.aLDraw T.fLDraw ["spring", "many"] spDraw := by
  refine T.FLDraw.ok scLDraw (fun vs H Q E h => ?_) (fun cdv A outer s H vs Q E hr h => ?_)
  · obtain ⟨a, m, n, rfl, _⟩ := h
    rfl
  obtain ⟨a, m, n, rfl, h1, h2, ⟨x, y, z, hw, hx0, hx, hy0, hy, hz0, hz⟩, hn, q⟩ := h
  have hu := hu_of hr
  refine ⟨_, (pss_cons (ps_if (pt_cmpR op_gt (pe_ix ix_list (pv 0) pe_int (fun _ _ => rfl)) pe_int (nomark _))
        (pss_cons (ps_set (i := 3) scLDraw.nd rfl (by first | exact Or.inl rfl | exact Or.inr rfl) (pe_op op_mod (pe_ix ix_list (pv 0) pe_int (fun _ _ => rfl)) (pv 1)))
        (pss_cons (ps_asg (pe_op op_fdivW (pe_ix ix_list (pv 0) pe_int (fun _ _ => rfl)) (pv 1)) (pg_sub (pv 0) pe_int set_list))
        (pss_one (ps_ret (pv 3))))) pss_nil)
      (pss_cons (ps_asg (pe_op op_add (pe_ix ix_list (pv 0) pe_int (fun _ _ => rfl)) pe_int) (pg_sub (pv 0) pe_int set_list))
      (pss_cons (ps_set (i := 2) scLDraw.nd rfl (by first | exact Or.inl rfl | exact Or.inr rfl) (pe_op op_add (pe_ix ix_list (pv 0) pe_int (fun _ _ => rfl)) (pe_op op_mul pe_int (pe_ix ix_list (pv 0) pe_int (fun _ _ => rfl)))))
      (pss_cons (ps_set (i := 2) scLDraw.nd rfl (by first | exact Or.inl rfl | exact Or.inr rfl) (pe_op op_add (pe_op op_mod (pe_op op_powW (pv 2) pe_int) pe_int) (pe_op op_mul pe_int (pe_ix ix_list (pv 0) pe_int (fun _ _ => rfl)))))
      (pss_one (ps_ret (pe_op op_mod (pe_op op_fdivW (pe_op op_mod (pe_op op_powW (pv 2) pe_int) pe_int) pe_int) (pv 1)))))))), ?_⟩
  have hm : m.natAbs < 2 ^ 20 := by omega
  refine ⟨_, rfl, _, _, _, _, rfl, rfl, SqL.of hw, at_of (j := 0) rfl rfl, _, _, rfl, rfl, _, rfl, ite2 (fun c => ?_) (fun c => ?_)⟩
  · have c := of_decide_eq_true c
    have hd0 : 0 ≤ x / m := Int.ediv_nonneg hx0 (by omega)
    have hd1 : x / m ≤ x := Int.ediv_le_self m hx0
    refine ⟨_, rfl, _, _, _, _, rfl, rfl, SqL.of hw, at_of (j := 0) rfl rfl, _, rfl, _, _, rfl, rfl, (by show (0 : Int) < m; omega), ?_⟩
    refine ⟨_, rfl, _, _, _, _, rfl, rfl, SqL.of hw, at_of (j := 0) rfl rfl, _, rfl, _, _, rfl, rfl, wide_div (by omega) hm (by decide) (by decide), ?_⟩
    refine ⟨_, rfl, a, _, 0, 0, rfl, rfl, hw, rfl, ?_⟩
    refine ⟨_, rfl, q _ _ (Int.emod_nonneg _ (by omega)) (Int.emod_lt_of_pos _ (by omega)) (Sm.at (by simp)) ⟨_, y, z, upd_same, hd0, wide_le hd0 hd1 hx, hy0, hy, hz0, by omega⟩⟩
  · refine ⟨_, rfl, _, _, _, _, rfl, rfl, SqL.of hw, at_of (j := 2) rfl rfl, _, _, rfl, rfl, ?_⟩
    refine ⟨_, rfl, a, _, 2, 2, rfl, rfl, hw, rfl, ?_⟩
    obtain ⟨H2, eH⟩ : ∃ H2, H2 = upd H a (.lst ([V.int x, V.int y, V.int z].set 2 (.int (z + 1)))) := ⟨_, rfl⟩
    have hw2 : H2 a = some (.lst [.int x, .int y, .int (z + 1)]) := by rw [eH]; exact upd_same
    have s2 : Sm [a] H H2 := by rw [eH]; exact Sm.at (by simp)
    rw [← eH]
    have hb : (y + 2305843009213693951 * (z + 1)).natAbs < 2 ^ 201 := by omega
    refine ⟨_, rfl, _, _, _, _, rfl, rfl, SqL.of hw2, at_of (j := 1) rfl rfl, _, rfl, _, _, _, _, rfl, rfl, SqL.of hw2, at_of (j := 2) rfl rfl, _, _, rfl, rfl, .inl ⟨by decide, by decide⟩, _, _, rfl, rfl, ?_⟩
    have m0 := Int.emod_nonneg ((y + 2305843009213693951 * (z + 1)) ^ Int.toNat 3) (b := 162259276829213363391578010288127) (by decide)
    have m1 := Int.emod_lt_of_pos ((y + 2305843009213693951 * (z + 1)) ^ Int.toNat 3) (b := 162259276829213363391578010288127) (by decide)
    have hb2 : ∀ u : Int, 0 ≤ u → u < 162259276829213363391578010288127 → (u + 999999000001 * (z + 1)).natAbs < 2 ^ 201 := fun u h0 h1 => by omega
    refine ⟨_, rfl, _, _, rfl, rfl, ⟨by decide, by decide, abs_small hb (by decide)⟩, _, _, rfl, rfl, (by show (0 : Int) < _; decide), ?_⟩
    refine ⟨_, rfl, _, _, _, _, rfl, rfl, SqL.of hw2, at_of (j := 2) rfl rfl, _, _, rfl, rfl, .inl ⟨by decide, by decide⟩, _, _, rfl, rfl, ?_⟩
    refine ⟨_, rfl, _, _, rfl, rfl, ⟨by decide, by decide, abs_small (hb2 _ m0 m1) (by decide)⟩, _, _, rfl, rfl, (by show (0 : Int) < _; decide), ?_⟩
    refine ⟨_, _, rfl, rfl, ⟨by decide, by decide⟩, _, rfl, _, _, rfl, rfl, (by show (0 : Int) < m; omega), ?_⟩
    exact q _ _ (Int.emod_nonneg _ (by omega)) (Int.emod_lt_of_pos _ (by omega)) s2 ⟨x, y, z + 1, hw2, hx0, hx, hy0, hy, by omega, by omega⟩
end K13


set_option Elab.async false
set_option linter.all false
set_option maxRecDepth 100000
set_option maxHeartbeats 4000000
namespace K13
open PySem PySem.Spec PyProof.Rows L2 FA
variable {P : Program} {w : World} {K : PySem.W.Frag} {mg : Str → Option Value} {base : Heap}
def spLCalls (n : Nat) : Sp := fun vs H Q _ => ∃ (b : Addr) (ns : List Str) (l : List FA.It), vs = [.ref b] ∧ BdAt H b l ∧ okB ns l ∧ nIB l ≤ 200 ∧ dB l ≤ n ∧ ∀ H', Same H H' → Q (.int (nCB l : Nat)) H'
theorem okLCalls1 (T : Txt K mg) (n : Nat) (GLCalls : FnOk P w K mg base CX0 (n + 1) T.aLCalls T.fLCalls ["body"] (spLCalls n)) : FnOk P w K mg base CX0 (n + 2) T.aLCalls T.fLCalls ["body"] (spLCalls (n + 1)) := by
  refine T.FLCalls.ok scLCalls (fun vs H Q E h => ?_) (fun cdv A outer s H vs Q E hr h => ?_)
  · obtain ⟨b, ns, l, rfl, _⟩ := h
    rfl
  obtain ⟨b, ns, l, rfl, ⟨vs, hb, hits⟩, hok, hN, hn, q⟩ := h
  have hu := hu_of hr
  refine ⟨_, (pss_cons (ps_set (i := 1) scLCalls.nd rfl (by first | exact Or.inl rfl | exact Or.inr rfl) pe_int)
      (pss_cons (ps_for PassesOwn.never rfl (pi_list (pv 0)) (pg_name (i := 2) scLCalls.nd rfl (by first | exact Or.inl rfl | exact Or.inr rfl))
        (pss_one (ps_if (pt_val (pe_callB call_isi (by rfl) T.n_isinstance (by decide +kernel) (pa_cons (pv 2) (pa_cons (pe_bltn (v := .ty "str") (by rfl) T.n_str (by decide +kernel) rfl) pa_nil))))
          (pss_one (ps_set (i := 1) scLCalls.nd rfl (by first | exact Or.inl rfl | exact Or.inr rfl) (pe_op op_add (pv 1) pe_int))) (pss_one (ps_if (pt_cmpR op_eq (pe_ix ix_tup (pv 2) pe_int (fun _ _ => rfl)) pe_str (nomark _))
            (pss_one (ps_set (i := 1) scLCalls.nd rfl (by first | exact Or.inl rfl | exact Or.inr rfl) (pe_op op_add (pv 1) (pe_callB (cr_sum rfl) (by rfl) T.n_sum (by decide +kernel) (pa_cons (pe_lc (own := [("inner", 3)]) (g := gName 3) (tt := tYes) rfl scLCalls.nd (pi_list (pe_ix ix_tup (pv 2) pe_int (fun _ _ => rfl))) (blkOk_by (N := ["body", "found", "item", "inner"]) (sc := defScope sLCalls) (by decide +kernel)) (fun _ _ _ _ _ => (pg_name (i := 3) scLCalls.nd rfl (by first | exact Or.inl rfl | exact Or.inr rfl))) (fun _ _ _ _ _ => pts_nil) (fun _ _ _ _ _ => (pe_call GLCalls (hr.mono (by omega)) rfl T.gLCalls T.FLCalls.kp T.bLCalls .nil pass0 (pa_cons (pv 3) pa_nil)))) pa_nil))))) (pss_one (ps_set (i := 1) scLCalls.nd rfl (by first | exact Or.inl rfl | exact Or.inr rfl) (pe_op op_add (pv 1) (pe_call GLCalls (hr.mono (by omega)) rfl T.gLCalls T.FLCalls.kp T.bLCalls .nil pass0 (pa_cons (pe_ix ix_tup (pv 2) pe_int (fun _ _ => rfl)) pa_nil))))))))))
      (pss_one (ps_ret (pv 1))))), ?_⟩
  have hl := hits.length
  have hll := nIB_len l
  refine ⟨_, rfl, b, rfl, ⟨_, SqL.of hb⟩, for_list (K := K) (a := b) (xs := vs) (fun i σ H' => ∃ v2 v3, σ = [some (.ref b), some (.int (nCB (l.take i) : Nat)), v2, v3] ∧ Same H H') ⟨none, none, rfl, Same.refl _⟩ ?_ ?_ ?_⟩
  · rintro i σ H' _ ⟨_, _, _, sm⟩
    exact SqL.of (sm _ _ hb)
  · rintro i y σ H1 hi ⟨v2, v3, rfl, sm⟩
    obtain ⟨it, e1, e2⟩ := hits.get hi
    have hm : it ∈ l := List.mem_of_getElem? e1
    have e3 := e2.keep (Kp.of sm)
    have ec := nCB_takeS e1
    have c7 := dB_mem hm
    have c8 := nIB_mem hm
    have oki := okB_all.mp hok it hm
    rcases e3.parts with ⟨x, rfl, rfl⟩ | ⟨t, k, b', ws, rfl, h1, h2, ⟨rfl, ls, rfl, h3⟩ | ⟨hk, l', hit, h3⟩⟩
    · refine ⟨_, rfl, _, _, _, _, true, rfl, .ty _, ty_str x, kit_ty (by decide +kernel), _, rfl, iteT ?_⟩
      refine ⟨_, rfl, _, _, rfl, rfl, some (.str x), v3, ?_, sm⟩
      rw [ec]
      simp only [nC, Int.natCast_add]
      rfl
    · simp only [okI] at oki
      obtain ⟨k1, k2, k3, k4⟩ := oki
      simp only [nI] at c8
      simp only [dI] at c7
      have hl3 := h3.length
      refine ⟨_, rfl, _, _, _, _, false, rfl, .ty _, ty_tup h1, kit_ty (by decide +kernel), _, rfl, iteF ?_⟩
      refine ⟨_, rfl, _, _, _, _, rfl, rfl, SqT.of h1, at_of (j := 0) rfl rfl, rfl, _, rfl, ite2 (fun _ => ?_) (fun c => absurd (decide_eq_true rfl) c)⟩
      refine ⟨_, rfl, _, rfl, _, _, _, _, rfl, rfl, SqT.of h1, at_of (j := 1) rfl rfl, b', rfl, ⟨_, SqL.of h2⟩, fun D hD => lcS (n := ws.length) hD (small1000 (by omega)) _ (fun j v _ => ∃ bd, ls[j]? = some bd ∧ v = .int (nCB bd : Nat))
        (go_l (SqL.of h2)) (stop_l (SqL.of h2)) (yld_l (SqL.of h2)) (fun j v A B _ h => h) ?_ ?_⟩
      · intro j x H2 R hj hx s2 k
        obtain ⟨b2, bd, rfl, q1, q2⟩ := h3.get hx
        have hm : bd ∈ ls := List.mem_of_getElem? q1
        have m1 := nIBs_mem hm
        have m2 := dBs_mem hm
        exact ⟨rfl, _, rfl, b2, ns, bd, rfl, q2.keep (Kp.of s2), okBs_all.mp k4 bd hm, by omega, by omega, fun H3 s3 => k _ H3 s3 ⟨bd, q1, rfl⟩⟩
      · intro H2 ys s2 hy hyl hg
        have e := ext_map (ys := ys) (l := ls) (f := fun b => V.int (nCB b : Nat)) (by omega) hg
        refine ⟨D, ls.map fun b => (nCB b : Int), rfl, SqL.of (by rw [hy, e, List.map_map]; rfl), ?_⟩
        refine ⟨_, _, rfl, rfl, some (.ref t), v3, ?_, sm.trans s2⟩
        rw [ec, sum_nCB]
        simp only [nC, Int.natCast_add]
        rfl
    · refine ⟨_, rfl, _, _, _, _, false, rfl, .ty _, ty_tup h1, kit_ty (by decide +kernel), _, rfl, iteF ?_⟩
      have f1 : okB ns l' ∧ dI it = dB l' ∧ nI it = nIB l' ∧ nC it = nCB l' := by
        rcases hit with rfl | rfl <;> simp only [okI] at oki <;> exact ⟨oki.2, by simp only [dI], by simp only [nI], by simp only [nC]⟩
      refine ⟨_, rfl, _, _, _, _, rfl, rfl, SqT.of h1, at_of (j := 0) rfl rfl, rfl, _, rfl, ite2 (fun c => absurd (V.str.inj (of_decide_eq_true c)) hk) (fun _ => ?_)⟩
      refine ⟨_, rfl, _, rfl, _, _, _, _, rfl, rfl, SqT.of h1, at_of (j := 1) rfl rfl, b', ns, l', rfl, ⟨ws, h2, h3⟩, f1.1, by omega, by omega, fun H2 s2 => ?_⟩
      refine ⟨_, _, rfl, rfl, some (.ref t), v3, ?_, sm.trans s2⟩
      rw [ec, f1.2.2.2]
      simp only [Int.natCast_add]
      rfl
  · rintro σ H1 ⟨v2, v3, rfl, sm⟩
    refine ⟨_, rfl, ?_⟩
    have := q H1 sm
    rw [List.take_of_length_le (by omega)]
    exact this
theorem okLCalls (T : Txt K mg) : ∀ n : Nat, FnOk P w K mg base CX0 (n + 1) T.aLCalls T.fLCalls ["body"] (spLCalls n)
  | 0 => fn_never fun vs H Q E h => by
    obtain ⟨b, ns, l, _, _, _, _, h0, _⟩ := h
    have := dB_pos l
    omega
  | n + 1 => okLCalls1 T n (okLCalls T n)
def spLCount (n : Nat) : Sp := fun vs H Q _ => ∃ (b : Addr) (ns : List Str) (l : List FA.It), vs = [.ref b] ∧ BdAt H b l ∧ okB ns l ∧ nIB l ≤ 200 ∧ dB l ≤ n ∧ ∀ H', Same H H' → Q (.int (nIB l : Nat)) H'
theorem okLCount1 (T : Txt K mg) (n : Nat) (GLCount : FnOk P w K mg base CX0 (n + 1) T.aLCount T.fLCount ["body"] (spLCount n)) : FnOk P w K mg base CX0 (n + 2) T.aLCount T.fLCount ["body"] (spLCount (n + 1)) := by
  refine T.FLCount.ok scLCount (fun vs H Q E h => ?_) (fun cdv A outer s H vs Q E hr h => ?_)
  · obtain ⟨b, ns, l, rfl, _⟩ := h
    rfl
  obtain ⟨b, ns, l, rfl, ⟨vs, hb, hits⟩, hok, hN, hn, q⟩ := h
  have hu := hu_of hr
  refine ⟨_, (pss_cons (ps_set (i := 1) scLCount.nd rfl (by first | exact Or.inl rfl | exact Or.inr rfl) (pe_callB call_len_seq (by rfl) T.n_len PySem.boot_len (pa_cons (pv 0) pa_nil)))
      (pss_cons (ps_for PassesOwn.never rfl (pi_list (pv 0)) (pg_name (i := 2) scLCount.nd rfl (by first | exact Or.inl rfl | exact Or.inr rfl))
        (pss_one (ps_if (pt_not (pt_val (pe_callB call_isi (by rfl) T.n_isinstance (by decide +kernel) (pa_cons (pv 2) (pa_cons (pe_bltn (v := .ty "str") (by rfl) T.n_str (by decide +kernel) rfl) pa_nil)))))
          (pss_one (ps_set (i := 1) scLCount.nd rfl (by first | exact Or.inl rfl | exact Or.inr rfl) (pe_op op_add (pv 1) (pe_callB (cr_sum rfl) (by rfl) T.n_sum (by decide +kernel) (pa_cons (pe_lc (own := [("inner", 3)]) (g := gName 3) (tt := tYes) rfl scLCount.nd (pi_list (pe_ifExp (pt_cmpR op_eq (pe_ix ix_tup (pv 2) pe_int (fun _ _ => rfl)) pe_str (nomark _)) (pe_ix ix_tup (pv 2) pe_int (fun _ _ => rfl)) (pe_lst (pa_cons (pe_ix ix_tup (pv 2) pe_int (fun _ _ => rfl)) pa_nil)))) (blkOk_by (N := ["body", "found", "item", "inner"]) (sc := defScope sLCount) (by decide +kernel)) (fun _ _ _ _ _ => (pg_name (i := 3) scLCount.nd rfl (by first | exact Or.inl rfl | exact Or.inr rfl))) (fun _ _ _ _ _ => pts_nil) (fun _ _ _ _ _ => (pe_call GLCount (hr.mono (by omega)) rfl T.gLCount T.FLCount.kp T.bLCount .nil pass0 (pa_cons (pv 3) pa_nil)))) pa_nil))))) pss_nil)))
      (pss_one (ps_ret (pv 1))))), ?_⟩
  have hl := hits.length
  have hll := nIB_len l
  refine ⟨_, rfl, _, _, rfl, .inl (SqL.of hb), ?_⟩
  have lenI : ∀ m : Nat, nIB l = l.length + (nIB l - l.length) := fun _ => by omega
  refine ⟨_, rfl, b, rfl, ⟨_, SqL.of hb⟩, for_list (K := K) (a := b) (xs := vs) (fun i σ H' => ∃ v2 v3, σ = [some (.ref b), some (.int ((l.length : Int) + ((nIB (l.take i) : Nat) - (i : Nat)))), v2, v3] ∧ Same H H') ⟨none, none, ?_, Same.refl _⟩ ?_ ?_ ?_⟩
  · simp only [List.take_zero, nIB, hl]
    rfl
  · rintro i σ H' _ ⟨_, _, _, sm⟩
    exact SqL.of (sm _ _ hb)
  · rintro i y σ H1 hi ⟨v2, v3, rfl, sm⟩
    obtain ⟨it, e1, e2⟩ := hits.get hi
    have hm : it ∈ l := List.mem_of_getElem? e1
    have e3 := e2.keep (Kp.of sm)
    have ec := nIB_takeS e1
    have c7 := dB_mem hm
    have c8 := nIB_mem hm
    have oki := okB_all.mp hok it hm
    have fin : ∀ (z : Int) (v : V), z = (nI it : Nat) → ([some (V.ref b), some (V.int ((l.length : Int) + ((nIB (l.take i) : Nat) - (i : Nat)) + z)), some v, v3] : L2.St) = [some (.ref b), some (.int ((l.length : Int) + ((nIB (l.take (i + 1)) : Nat) - ((i + 1 : Nat) : Int)))), some v, v3] := fun z v e => by
      rw [e, ec]
      congr 4
      omega
    rcases e3.parts with ⟨x, rfl, rfl⟩ | ⟨t, k, b', ws, rfl, h1, h2, ⟨rfl, ls, rfl, h3⟩ | ⟨hk, l', hit, h3⟩⟩
    · refine ⟨_, rfl, _, _, _, _, true, rfl, .ty _, ty_str x, kit_ty (by decide +kernel), _, rfl, iteF ?_⟩
      refine ⟨some (.str x), v3, ?_, sm⟩
      have := fin 0 (.str x) (by simp [nI])
      rw [Int.add_zero] at this
      exact this
    · simp only [okI] at oki
      obtain ⟨k1, k2, k3, k4⟩ := oki
      simp only [nI] at c8
      simp only [dI] at c7
      have hl3 := h3.length
      refine ⟨_, rfl, _, _, _, _, false, rfl, .ty _, ty_tup h1, kit_ty (by decide +kernel), _, rfl, iteT ?_⟩
      refine ⟨_, rfl, _, rfl, _, _, _, _, rfl, rfl, SqT.of h1, at_of (j := 0) rfl rfl, rfl, _, rfl, ite2 (fun _ => ?_) (fun c => absurd (decide_eq_true rfl) c)⟩
      refine ⟨_, rfl, _, _, _, _, rfl, rfl, SqT.of h1, at_of (j := 1) rfl rfl, b', rfl, ⟨_, SqL.of h2⟩, fun D hD => lcS (n := ws.length) hD (small1000 (by omega)) _ (fun j v _ => ∃ bd, ls[j]? = some bd ∧ v = .int (nIB bd : Nat))
        (go_l (SqL.of h2)) (stop_l (SqL.of h2)) (yld_l (SqL.of h2)) (fun j v A B _ h => h) ?_ ?_⟩
      · intro j x H2 R hj hx s2 k
        obtain ⟨b2, bd, rfl, q1, q2⟩ := h3.get hx
        have hm : bd ∈ ls := List.mem_of_getElem? q1
        have m1 := nIBs_mem hm
        have m2 := dBs_mem hm
        exact ⟨rfl, _, rfl, b2, ns, bd, rfl, q2.keep (Kp.of s2), okBs_all.mp k4 bd hm, by omega, by omega, fun H3 s3 => k _ H3 s3 ⟨bd, q1, rfl⟩⟩
      · intro H2 ys s2 hy hyl hg
        have e := ext_map (ys := ys) (l := ls) (f := fun b => V.int (nIB b : Nat)) (by omega) hg
        refine ⟨D, ls.map fun b => (nIB b : Int), rfl, SqL.of (by rw [hy, e, List.map_map]; rfl), ?_⟩
        exact ⟨_, _, rfl, rfl, some (.ref t), v3, fin _ _ (by rw [sum_nIB]; simp only [nI]), sm.trans s2⟩
    · refine ⟨_, rfl, _, _, _, _, false, rfl, .ty _, ty_tup h1, kit_ty (by decide +kernel), _, rfl, iteT ?_⟩
      have f1 : okB ns l' ∧ dI it = dB l' ∧ nI it = nIB l' := by
        rcases hit with rfl | rfl <;> simp only [okI] at oki <;> exact ⟨oki.2, by simp only [dI], by simp only [nI]⟩
      refine ⟨_, rfl, _, rfl, _, _, _, _, rfl, rfl, SqT.of h1, at_of (j := 0) rfl rfl, rfl, _, rfl, ite2 (fun c => absurd (V.str.inj (of_decide_eq_true c)) hk) (fun _ => ?_)⟩
      refine ⟨_, rfl, _, _, _, _, rfl, rfl, SqT.of h1, at_of (j := 1) rfl rfl, Nat.le_of_lt (small1000 (by simp)), fun p hp => ?_⟩
      have s2 := same_upd hp (.lst [V.ref b'])
      have hp2 : (upd H1 p (.lst [V.ref b'])) p = some (.lst [V.ref b']) := upd_same
      generalize upd H1 p (.lst [V.ref b']) = H2 at s2 hp2 ⊢
      refine ⟨p, rfl, ⟨_, SqL.of hp2⟩, fun D hD => lcS (n := 1) hD (small1000 (by omega)) _ (fun j v _ => v = .int (nIB l' : Nat))
        (go_l (SqL.of hp2)) (stop_l (SqL.of hp2)) (yld_l (SqL.of hp2)) (fun j v A B _ h => h) ?_ ?_⟩
      · intro j x H3 R hj hx s3 k
        have : j = 0 := by omega
        subst this
        cases hx
        exact ⟨rfl, _, rfl, b', ns, l', rfl, ⟨ws, s3 _ _ (s2 _ _ h2), h3.keep (Kp.of (s2.trans s3))⟩, f1.1, by omega, by omega, fun H4 s4 => k _ H4 s4 rfl⟩
      · intro H3 ys s3 hy hyl hg
        have ey : ys = [V.int (nIB l' : Nat)] := by
          match ys, hyl with
          | [y], _ => rw [hg 0 y rfl]
        refine ⟨D, [(nIB l' : Int)], rfl, SqL.of (by rw [hy, ey]; rfl), ?_⟩
        exact ⟨_, _, rfl, rfl, some (.ref t), v3, fin _ _ (by rw [f1.2.2]; simp), (sm.trans s2).trans s3⟩
  · rintro σ H1 ⟨v2, v3, rfl, sm⟩
    refine ⟨_, rfl, ?_⟩
    have := q H1 sm
    rw [List.take_of_length_le (by omega), show (l.length : Int) + ((nIB l : Nat) - (vs.length : Nat)) = (nIB l : Nat) by omega]
    exact this
theorem okLCount (T : Txt K mg) : ∀ n : Nat, FnOk P w K mg base CX0 (n + 1) T.aLCount T.fLCount ["body"] (spLCount n)
  | 0 => fn_never fun vs H Q E h => by
    obtain ⟨b, ns, l, _, _, _, _, h0, _⟩ := h
    have := dB_pos l
    omega
  | n + 1 => okLCount1 T n (okLCount T n)
end K13


set_option Elab.async false
set_option linter.all false
set_option maxRecDepth 100000
set_option maxHeartbeats 8000000
namespace K13
open PySem PySem.Spec PyProof.Rows L2 FA
variable {P : Program} {w : World} {K : PySem.W.Frag} {mg : Str → Option Value} {base : Heap}
/-- how many draws, how many items, by how deep -/
def cW : Nat → Nat
  | 0 => 0
  | j + 1 => 1 + 3 * (5 + 2 * cW j)
def cN : Nat → Nat
  | 0 => 0
  | j + 1 => 3 * (1 + 2 * cN j)
/-- what the def is handed -/
structure Giv (H : Hp) (a sa : Addr) (n : Nat) (ss : List Str) : Prop where
  w : WellAt H a n
  s : H sa = some (.lst (ss.map V.str))
  len : 1 ≤ ss.length ∧ ss.length ≤ 6
  nm : ∀ x ∈ ss, FA.okName x
theorem Giv.ne {H : Hp} {a sa : Addr} {n : Nat} {ss : List Str} (g : Giv H a sa n ss) : sa ≠ a := by
  obtain ⟨x, y, z, hw, _⟩ := g.w
  rintro rfl
  have := g.s
  rw [hw] at this
  exact strs_ne (HO.lst.inj (Option.some.inj this)).symm
theorem Giv.on {H H' : Hp} {a sa : Addr} {n m : Nat} {ss : List Str} (g : Giv H a sa n ss) (sm : Sm [a] H H') (hw : WellAt H' a m) : Giv H' a sa m ss :=
  ⟨hw, sm _ _ (by simp [g.ne]) g.s, g.len, g.nm⟩
theorem Giv.kept {H : Hp} {a sa : Addr} {n : Nat} {ss : List Str} (g : Giv H a sa n ss) : ∀ b ∈ [a], ∃ o, H b = some o := fun b hb => by
  rw [List.mem_singleton.mp hb]
  exact g.w.some
/-- what was drawn -/
structure Got (ss : List Str) (c : Int) (j : Nat) (l : List FA.It) : Prop where
  ok : okB ss l
  lo : 1 ≤ nCB l
  hi : (nCB l : Int) ≤ c
  i : nIB l ≤ cN j
  d : dB l ≤ j
theorem Got.ne {ss : List Str} {c : Int} {j : Nat} {l : List FA.It} (g : Got ss c j l) : l ≠ [] := by
  rintro rfl
  have := g.lo
  simp [nCB] at this
def spLItems (j : Nat) : Sp := fun vs H Q _ => ∃ (a sa : Addr) (n : Nat) (ss : List Str) (c : Int), vs = [.ref a, .ref sa, .int c, .int (j : Nat)] ∧ 1 ≤ j ∧ j ≤ 3 ∧ Giv H a sa n ss ∧ n + cW j ≤ 2 ^ 80 ∧ 1 ≤ c ∧ c ≤ 5 ∧
  ∀ b l H', Sm [a] H H' → WellAt H' a (n + cW j) → BdAt (fr H H') b l → Got ss c j l → Q (.ref b) H'
theorem cN3 (j : Nat) (h : j ≤ 3) : cN j ≤ 129 := by
  match j, h with
  | 0, _ => decide
  | 1, _ => decide
  | 2, _ => decide
  | 3, _ => decide
theorem okLItems1 (T : Txt K mg) (j : Nat) (GLItems : FnOk P w K mg base CX0 (4 + j) T.aLItems T.fLItems ["spring", "some", "calls", "deep"] (spLItems j)) :
    FnOk P w K mg base CX0 (5 + j) T.aLItems T.fLItems ["spring", "some", "calls", "deep"] (spLItems (j + 1)) := by
  have GLDraw : FnOk P w K mg base CX0 1 T.aLDraw T.fLDraw ["spring", "many"] spDraw := okDraw T
  have GLCalls : FnOk P w K mg base CX0 4 T.aLCalls T.fLCalls ["body"] (spLCalls 3) := okLCalls T 3
  rw [show 5 + j = (4 + j) + 1 by omega]
  refine T.FLItems.ok scLItems (fun vs H Q E h => ?_) (fun cdv A outer s H vs Q E hr h => ?_)
  · obtain ⟨a, sa, n, ss, c, rfl, _⟩ := h
    rfl
  obtain ⟨a, sa, n, ss, c, rfl, hj1, hj3, g, hn, hc1, hc5, q⟩ := h
  have hu := hu_of hr
  refine ⟨_, (pss_cons (ps_par (i := 5) (j := 6) (by rfl) scLItems.nd rfl rfl (by decide) rfl rfl (pa_cons (pe_lst pa_nil) (pa_cons pe_int pa_nil)) (by rfl))
      (pss_cons (ps_for PassesOwn.never rfl (pi_range1 (by rfl) T.n_range (pa_cons (pe_op op_add pe_int (pe_call GLDraw (hr.mono (by omega)) rfl T.gLDraw T.FLDraw.kp T.bLDraw .nil pass0 (pa_cons (pv 0) (pa_cons pe_int pa_nil)))) pa_nil)) (pg_name (i := 4) scLItems.nd rfl (by first | exact Or.inl rfl | exact Or.inr rfl))
        (pss_cons (ps_par (i := 7) (j := 8) (by rfl) scLItems.nd rfl rfl (by decide) rfl rfl (pa_cons (pe_call GLDraw (hr.mono (by omega)) rfl T.gLDraw T.FLDraw.kp T.bLDraw .nil pass0 (pa_cons (pv 0) (pa_cons pe_int pa_nil))) (pa_cons (pe_op op_sub (pv 2) (pv 6)) pa_nil)) (by rfl))
        (pss_one (ps_if (PW.pt (pw_and (pt_cmpR op_gt (pv 8) pe_int (nomark _)) (pw_and1 (PW.pt (pw_or (pt_cmpR op_lt (pv 7) pe_int (nomark _)) (pw_or1 (pt_cmpR op_eq (pv 3) pe_int (nomark _))))))))
          (pss_cons (ps_expr (pe_bm PySem.F.plainAttrs_list PySem.F.slot_list_append PySem.F.type_list_append mt_append (pv 5) (pa_cons (pe_ix ix_list (pv 1) (pe_call GLDraw (hr.mono (by omega)) rfl T.gLDraw T.FLDraw.kp T.bLDraw .nil pass0 (pa_cons (pv 0) (pa_cons (pe_callB call_len_seq (by rfl) T.n_len PySem.boot_len (pa_cons (pv 1) pa_nil)) pa_nil))) (fun _ _ => rfl)) pa_nil)))
          (pss_one (ps_set (i := 6) scLItems.nd rfl (by first | exact Or.inl rfl | exact Or.inr rfl) (pe_op op_add (pv 6) pe_int)))) (pss_one (ps_if (pt_cmpR op_gt (pv 8) pe_int (nomark _))
            (pss_cons (ps_set (i := 9) scLItems.nd rfl (by first | exact Or.inl rfl | exact Or.inr rfl) (pe_call GLItems (hr.mono (by omega)) rfl T.gLItems T.FLItems.kp T.bLItems .nil pass0 (pa_cons (pv 0) (pa_cons (pv 1) (pa_cons (pe_op op_add pe_int (pe_call GLDraw (hr.mono (by omega)) rfl T.gLDraw T.FLDraw.kp T.bLDraw .nil pass0 (pa_cons (pv 0) (pa_cons (pv 8) pa_nil)))) (pa_cons (pe_op op_sub (pv 3) pe_int) pa_nil))))))
            (pss_cons (ps_set (i := 6) scLItems.nd rfl (by first | exact Or.inl rfl | exact Or.inr rfl) (pe_op op_add (pv 6) (pe_call GLCalls (hr.mono (by omega)) rfl T.gLCalls T.FLCalls.kp T.bLCalls .nil pass0 (pa_cons (pv 9) pa_nil))))
            (pss_one (ps_if (pt_cmpR op_lt (pv 7) pe_int (nomark _))
              (pss_one (ps_expr (pe_bm PySem.F.plainAttrs_list PySem.F.slot_list_append PySem.F.type_list_append mt_append (pv 5) (pa_cons (pe_tup (pa_cons (pe_ix ix_list (pe_lst (pa_cons pe_str (pa_cons pe_str pa_nil))) (pe_op op_sub (pv 7) pe_int) (fun _ _ => rfl)) (pa_cons (pv 9) pa_nil))) pa_nil)))) (pss_cons (ps_set (i := 8) scLItems.nd rfl (by first | exact Or.inl rfl | exact Or.inr rfl) (pe_op op_sub (pv 2) (pv 6)))
              (pss_cons (ps_set (i := 10) scLItems.nd rfl (by first | exact Or.inl rfl | exact Or.inr rfl) (pe_lst pa_nil))
              (pss_cons (ps_if (pt_cmpR op_gt (pv 8) pe_int (nomark _))
                (pss_one (ps_set (i := 10) scLItems.nd rfl (by first | exact Or.inl rfl | exact Or.inr rfl) (pe_call GLItems (hr.mono (by omega)) rfl T.gLItems T.FLItems.kp T.bLItems .nil pass0 (pa_cons (pv 0) (pa_cons (pv 1) (pa_cons (pe_op op_add pe_int (pe_call GLDraw (hr.mono (by omega)) rfl T.gLDraw T.FLDraw.kp T.bLDraw .nil pass0 (pa_cons (pv 0) (pa_cons (pv 8) pa_nil)))) (pa_cons (pe_op op_sub (pv 3) pe_int) pa_nil))))))) pss_nil)
              (pss_cons (ps_set (i := 6) scLItems.nd rfl (by first | exact Or.inl rfl | exact Or.inr rfl) (pe_op op_add (pv 6) (pe_call GLCalls (hr.mono (by omega)) rfl T.gLCalls T.FLCalls.kp T.bLCalls .nil pass0 (pa_cons (pv 10) pa_nil))))
              (pss_cons (ps_set (i := 11) scLItems.nd rfl (by first | exact Or.inl rfl | exact Or.inr rfl) (pe_ix ix_list (pe_lst (pa_cons (pe_lst (pa_cons (pv 9) (pa_cons (pv 10) pa_nil))) (pa_cons (pe_lst (pa_cons (pv 10) (pa_cons (pv 9) pa_nil))) (pa_cons (pe_lst (pa_cons (pv 9) (pa_cons (pv 10) (pa_cons (pe_lst pa_nil) pa_nil)))) pa_nil)))) (pe_call GLDraw (hr.mono (by omega)) rfl T.gLDraw T.FLDraw.kp T.bLDraw .nil pass0 (pa_cons (pv 0) (pa_cons (pe_ix ix_list (pe_lst (pa_cons pe_int (pa_cons pe_int pa_nil))) (pe_callTy call_int1 (by rfl) T.n_int (by decide +kernel) (pa_cons (pe_cmpR (op_neD hr.units) (pv 10) (pe_lst pa_nil) (nomark _)) pa_nil)) (fun _ _ => rfl)) pa_nil))) (fun _ _ => rfl)))
              (pss_one (ps_expr (pe_bm PySem.F.plainAttrs_list PySem.F.slot_list_append PySem.F.type_list_append mt_append (pv 5) (pa_cons (pe_tup (pa_cons pe_str (pa_cons (pv 11) pa_nil))) pa_nil))))))))))))) pss_nil))))))
      (pss_one (ps_ret (pv 5))))), ?_⟩
  have hne := g.ne
  obtain ⟨Wd, hWd⟩ : ∃ x, x = 5 + 2 * cW j := ⟨_, rfl⟩
  obtain ⟨Nd, hNd⟩ : ∃ x, x = 1 + 2 * cN j := ⟨_, rfl⟩
  have hcW : cW (j + 1) = 1 + 3 * Wd := by rw [hWd]; rfl
  have hcN : cN (j + 1) = 3 * Nd := by rw [hNd]; rfl
  have hcN3 := cN3 j (by omega)
  obtain ⟨ow, how⟩ := g.w.some
  refine ⟨Nat.zero_le _, fun f hf => ⟨_, _, rfl, ?_⟩⟩
  have hfa : f ≠ a := (ne_of_none how hf).symm
  have hfs : f ≠ sa := (ne_of_none g.s hf).symm
  have s1 := same_upd hf (.lst [])
  refine ⟨_, rfl, a, 3, n, rfl, by decide, by decide, g.w.keep fun o e => s1 _ _ e, by omega, fun r1 H2 r1a r1b sm2 hw2 => ?_⟩
  refine ⟨_, _, rfl, rfl, ?_⟩
  refine ⟨_, rfl, by omega, by omega, ?_⟩
  have hf2 : H2 f = some (.lst []) := sm2 _ _ (by simp [hfa]) upd_same
  have sm02 : Sm [a] H H2 := (Sm.of_same s1).trans sm2
  refine for_range (lo := 0) (n := (1 + r1).toNat) (fun k σ H' => ∃ l vs v4 v7 v8 v9 v10 v11, σ = [some (.ref a), some (.ref sa), some (.int c), some (.int ((j + 1 : Nat) : Int)), v4, some (.ref f), some (.int (nCB l : Nat)), v7, v8, v9, v10, v11] ∧ Sm [a] H H' ∧ H' f = some (.lst vs) ∧ vs.length ≤ k ∧
    ItsAt (wo [f] (fr H H')) vs l ∧ WellAt H' a (n + 1 + k * Wd) ∧ okB ss l ∧ (nCB l : Int) ≤ c ∧ (1 ≤ k → 1 ≤ nCB l) ∧ nIB l ≤ k * Nd ∧ dB l ≤ j + 1) ?_ ?_ ?_
  · exact ⟨[], [], none, none, none, none, none, none, rfl, sm02, hf2, Nat.le_refl _, .nil, hw2.mono (by omega), by simp [okB], by simp only [nCB]; omega, fun h => by omega, by simp [nIB], by simp only [dB]; omega⟩
  · rintro k σ H3 hk ⟨l, vs, v4, v7, v8, v9, v10, v11, rfl, sm3, hf3, hvl, its, hw3, ok, hcc, hc0, hni, hd⟩
    have hk3 : k ≤ 2 := by omega
    have hkW : n + 1 + (k + 1) * Wd ≤ n + cW (j + 1) := by
      have : (k + 1) * Wd ≤ 3 * Wd := Nat.mul_le_mul_right _ (by omega)
      omega
    have hkW' : n + 1 + k * Wd + Wd = n + 1 + (k + 1) * Wd := by rw [Nat.succ_mul]; omega
    have hkN : k * Nd + Nd = (k + 1) * Nd := by rw [Nat.succ_mul]
    obtain ⟨m0, hm0⟩ : ∃ m0, m0 = n + 1 + k * Wd := ⟨_, rfl⟩
    rw [← hm0] at hw3 hkW'
    -- an item more
    have more : ∀ (z : Int) (H4 : Hp) (v : V) (it : FA.It) (v4 v7 v8 v9 v10 v11 : Option V) (m : Nat), z = (nCB l : Int) + nC it → Sm [a] H3 H4 → ItAt (wo [f] (fr H H4)) v it → WellAt H4 a m → m ≤ n + 1 + (k + 1) * Wd → okI ss it → (nCB l : Int) + nC it ≤ c → 1 ≤ nC it → 1 + nI it ≤ Nd → 1 + dI it ≤ j + 1 →
        ∃ l' vs' v4' v7' v8' v9' v10' v11', ([some (.ref a), some (.ref sa), some (.int c), some (.int ((j + 1 : Nat) : Int)), v4, some (.ref f), some (.int z), v7, v8, v9, v10, v11] : L2.St) = [some (.ref a), some (.ref sa), some (.int c), some (.int ((j + 1 : Nat) : Int)), v4', some (.ref f), some (.int (nCB l' : Nat)), v7', v8', v9', v10', v11'] ∧ Sm [a] H (upd H4 f (.lst (vs ++ [v]))) ∧ (upd H4 f (.lst (vs ++ [v]))) f = some (.lst vs') ∧ vs'.length ≤ k + 1 ∧
          ItsAt (wo [f] (fr H (upd H4 f (.lst (vs ++ [v]))))) vs' l' ∧ WellAt (upd H4 f (.lst (vs ++ [v]))) a (n + 1 + (k + 1) * Wd) ∧ okB ss l' ∧ (nCB l' : Int) ≤ c ∧ (1 ≤ k + 1 → 1 ≤ nCB l') ∧ nIB l' ≤ (k + 1) * Nd ∧ dB l' ≤ j + 1 := by
      intro z H4 v it v4 v7 v8 v9 v10 v11 m hz sm4 hit hw hm oki hcI hc1' hnI hdI
      refine ⟨l ++ [it], vs ++ [v], v4, v7, v8, v9, v10, v11, ?_, fun b o hb e => ?_, upd_same, by simp; omega, ?_, ?_, okB_snoc ok oki, by rw [nCB_snoc]; omega, fun _ => by rw [nCB_snoc]; omega, by rw [nIB_snoc]; omega, by rw [dB_snoc]; omega⟩
      · rw [hz, nCB_snoc]; rfl
      · rw [upd_ne (ne_of_none e hf)]
        exact sm4 _ _ hb (sm3 _ _ hb e)
      · exact (((its.keep (kp_turn g.kept sm4)).keep kp_put).append (.cons (hit.keep kp_put) .nil))
      · exact (hw.keep fun o e => by rw [upd_ne hfa.symm]; exact e).mono hm
    refine ⟨_, rfl, a, 7, m0, rfl, by decide, by decide, hw3, by omega, fun way H4 wy0 wy1 sm4 hw4 => ?_⟩
    refine ⟨_, rfl, _, rfl, _, _, rfl, rfl, _, _, rfl, ?_⟩
    have hf4 : H4 f = some (.lst vs) := sm4 _ _ (by simp [hfa]) hf3
    have g4 : Giv H4 a sa (m0 + 1) ss := g.on (sm3.trans sm4) hw4
    have sm04 := sm3.trans sm4
    refine ⟨_, rfl, _, _, rfl, rfl, _, rfl, ite2 (fun hl => ?_) (fun hl => ?_)⟩
    · have hl := of_decide_eq_true hl
      refine ⟨_, rfl, _, _, rfl, rfl, _, rfl, ite2 (fun h4 => ?A) (fun h4 => ⟨_, rfl, rfl, _, rfl, ite2 (fun h1 => ?A2) (fun h1 => ?B)⟩)⟩
      case A | A2 =>
        refine ⟨_, rfl, .inl ⟨rfl, _, SqL.of hf4⟩, _, rfl, _, rfl, _, rfl, _, _, rfl, .inl (SqL.of g4.s), a, _, m0 + 1, rfl, by rw [List.length_map]; have := g4.len; omega, by rw [List.length_map]; have := g4.len; omega, hw4, by omega, fun x H5 x0 x1 sm5 hw5 => ?_⟩
        rw [List.length_map] at x1
        have hx : x.toNat < ss.length := by omega
        have hf5 : H5 f = some (.lst vs) := sm5 _ _ (by simp [hfa]) hf4
        refine ⟨sa, _, _, .str ss[x.toNat], rfl, rfl, SqL.of (sm5 _ _ (by simp [hne]) g4.s), at_of (j := x.toNat) (by omega) (by rw [List.getElem?_map, List.getElem?_eq_getElem hx]; rfl), ?_⟩
        refine ⟨f, _, _, rfl, rfl, hf5, small1000 (by omega), ?_⟩
        refine ⟨_, rfl, _, _, rfl, rfl, ?_⟩
        exact more _ H5 (.str ss[x.toNat]) (.call ss[x.toNat]) _ _ _ _ _ _ (m0 + 1 + 1) (by simp only [nC]; rfl) (sm4.trans sm5) (.call _) hw5 (by omega) (by simp only [okI]; exact List.getElem_mem hx) (by simp only [nC]; omega) (by simp only [nC]; omega) (by simp only [nI]; omega) (by simp only [dI]; omega)
      case B =>
        have hj : 1 ≤ j := by
          have h1 : ¬ (V.int ((j + 1 : Nat) : Int) = V.int 1) := fun z => h1 (decide_eq_true z)
          rcases Nat.eq_zero_or_pos j with z | z
          · subst z; exact absurd rfl h1
          · exact z
        refine ⟨_, rfl, _, _, rfl, rfl, _, rfl, ite2 (fun _ => ?_) (fun z => absurd (decide_eq_true hl) z)⟩
        -- the inner body
        refine ⟨_, rfl, _, rfl, _, rfl, _, rfl, a, _, m0 + 1, rfl, by omega, by omega, hw4, by omega, fun x H5 x0 x1 sm5 hw5 => ?_⟩
        refine ⟨_, _, rfl, rfl, _, rfl, _, _, rfl, rfl, a, sa, m0 + 2, ss, 1 + x, ?_, hj, by omega, g4.on sm5 hw5, by omega, by omega, by omega, fun ib il H6 sm6 hw6 hib gi => ?_⟩
        · show [V.ref a, V.ref sa, V.int (1 + x), V.int (((j + 1 : Nat) : Int) - 1)] = _
          rw [show ((j + 1 : Nat) : Int) - 1 = (j : Nat) by omega]
        have gi1 := gi.lo
        have gi2 := gi.hi
        have gi3 := gi.i
        have gi4 := gi.d
        have hf5 : H5 f = some (.lst vs) := sm5 _ _ (by simp [hfa]) hf4
        have sm05 := sm04.trans sm5
        have sm06 := sm05.trans sm6
        have k5 := (g4.on sm5 hw5).kept
        have hib6 := hib.keep (kp_in sm05 k5 hf5)
        have hf6 : H6 f = some (.lst vs) := sm6 _ _ (by simp [hfa]) hf5
        refine ⟨_, rfl, _, rfl, ib, ss, il, rfl, hib.keep kp_fr, gi.ok, by omega, by omega, fun H7 s7 => ⟨_, _, rfl, rfl, ?_⟩⟩
        have hw7 : WellAt H7 a (m0 + 2 + cW j) := hw6.keep fun o e => s7 _ _ e
        have hf7 := s7 _ _ hf6
        have sm57 : Sm [a] H H7 := sm06.trans (Sm.of_same s7)
        have sm37 : Sm [a] H3 H7 := ((sm4.trans sm5).trans sm6).trans (Sm.of_same s7)
        have hib7 := hib6.keep (kp_turn g.kept (Sm.of_same (W := [a]) s7))
        have k7 : ∀ b ∈ [a], ∃ o, H7 b = some o := fun b hb => by rw [List.mem_singleton.mp hb]; exact hw7.some
        clear hib hib6 hw6 hf6 sm6 s7 sm06
        refine ⟨_, rfl, _, _, rfl, rfl, _, rfl, ite2 (fun h6 => ?_) (fun h6 => ?_)⟩
        · -- a maybe, a loop
          have h6 := of_decide_eq_true h6
          have h4' : ¬ (way < 4) := fun z => h4 (decide_eq_true z)
          refine ⟨_, rfl, .inl ⟨rfl, _, SqL.of hf7⟩, Nat.le_of_lt (small1000 (by simp)), fun p hp => ?_⟩
          have s8 := same_upd hp (.lst [V.str "maybe", V.str "loop"])
          have hp8 : (upd H7 p (.lst [V.str "maybe", V.str "loop"])) p = some (.lst [V.str "maybe", V.str "loop"]) := upd_same
          generalize upd H7 p (.lst [V.str "maybe", V.str "loop"]) = H8 at s8 hp8 ⊢
          obtain ⟨kd, hkd, hat⟩ : ∃ kd : Str, (kd = "maybe" ∨ kd = "loop") ∧ atI [V.str "maybe", V.str "loop"] (way - 4) = some (.str kd) := by
            rcases (by omega : way = 4 ∨ way = 5) with rfl | rfl
            · exact ⟨_, .inl rfl, rfl⟩
            · exact ⟨_, .inr rfl, rfl⟩
          refine ⟨_, rfl, _, _, rfl, rfl, p, _, _, .str kd, rfl, rfl, SqL.of hp8, hat, _, rfl, Nat.le_of_lt (small1000 (by simp)), fun t ht => ?_⟩
          have s9 := same_upd ht (.tup [V.str kd, V.ref ib])
          have ht9 : (upd H8 t (.tup [V.str kd, V.ref ib])) t = some (.tup [V.str kd, V.ref ib]) := upd_same
          have hf8 := s8 _ _ hf7
          have sm8 : Sm [a] H H8 := sm57.trans (Sm.of_same s8)
          have htn := ht
          generalize upd H8 t (.tup [V.str kd, V.ref ib]) = H9 at s9 ht9 ⊢
          refine ⟨f, _, _, rfl, rfl, s9 _ _ hf8, small1000 (by omega), ?_⟩
          have s79 : Sm [a] H7 H9 := Sm.of_same (s8.trans s9)
          have hib9 := hib7.keep (kp_turn g.kept s79)
          have k8 : ∀ b ∈ [a], ∃ o, H8 b = some o := fun b hb => by obtain ⟨o, e⟩ := k7 b hb; exact ⟨o, s8 _ _ e⟩
          have htw : wo [f] (fr H H9) t = some (.tup [V.str kd, V.ref ib]) := wof_new sm8 k8 hf8 htn ht9
          obtain ⟨iv, i1, i2⟩ := hib9
          have hit : ∃ it, ItAt (wo [f] (fr H H9)) (.ref t) it ∧ okI ss it ∧ nC it = nCB il ∧ nI it = nIB il ∧ dI it = dB il := by
            rcases hkd with rfl | rfl
            · exact ⟨.may il, .may htw i1 i2, by simp only [okI]; exact ⟨gi.ne, gi.ok⟩, by simp only [nC], by simp only [nI], by simp only [dI]⟩
            · exact ⟨.loop il, .loop htw i1 i2, by simp only [okI]; exact ⟨gi.ne, gi.ok⟩, by simp only [nC], by simp only [nI], by simp only [dI]⟩
          obtain ⟨it, hit, o1, o2, o3, o4⟩ := hit
          exact more _ H9 (.ref t) it _ _ _ _ _ _ (m0 + 2 + cW j) (by rw [o2]) (sm37.trans s79) hit (hw7.keep fun o e => s9 _ _ (s8 _ _ e)) (by omega) o1 (by omega) (by omega) (by omega) (by omega)
        · -- a one
          refine ⟨_, rfl, _, rfl, _, _, rfl, rfl, ?_⟩
          refine ⟨Nat.zero_le _, fun mb0 hmb0 => ?_⟩
          have s8 := same_upd hmb0 (.lst [])
          have hm8 : (upd H7 mb0 (.lst [])) mb0 = some (.lst []) := upd_same
          have mbw : wo [f] (fr H (upd H7 mb0 (.lst []))) mb0 = some (.lst []) := wof_new sm57 k7 hf7 hmb0 upd_same
          generalize upd H7 mb0 (.lst []) = H8 at s8 hm8 mbw ⊢
          have hf8 := s8 _ _ hf7
          have hw8 : WellAt H8 a (m0 + 2 + cW j) := hw7.keep fun o e => s8 _ _ e
          have sm8 : Sm [a] H H8 := sm57.trans (Sm.of_same s8)
          have sm38 : Sm [a] H3 H8 := sm37.trans (Sm.of_same s8)
          have hib8 := hib7.keep (kp_turn g.kept (Sm.of_same (W := [a]) s8))
          have g8 : Giv H8 a sa (m0 + 2 + cW j) ss := g.on sm8 hw8
          refine ⟨_, rfl, _, _, rfl, rfl, _, rfl, ite2 (fun h7 => ?C1) (fun h7 => ?C2)⟩
          case' C1 =>
            have h7 := of_decide_eq_true h7
            refine ⟨_, rfl, _, rfl, _, rfl, _, rfl, a, _, m0 + 2 + cW j, rfl, by omega, by omega, hw8, by omega, fun x H10 x0 x1 sm10 hw10 => ?_⟩
            refine ⟨_, _, rfl, rfl, _, rfl, _, _, rfl, rfl, a, sa, m0 + 3 + cW j, ss, 1 + x, ?_, hj, by omega, g8.on sm10 (hw10.mono (by omega)), by omega, by omega, by omega, fun mb lm H11 sm11 hw11 hmb gm => ?_⟩
            · show [V.ref a, V.ref sa, V.int (1 + x), V.int (((j + 1 : Nat) : Int) - 1)] = _
              rw [show ((j + 1 : Nat) : Int) - 1 = (j : Nat) by omega]
            have hf10 : H10 f = some (.lst vs) := sm10 _ _ (by simp [hfa]) hf8
            have k10 := (g8.on sm10 (hw10.mono (by omega : m0 + 2 + cW j + 1 ≤ m0 + 3 + cW j))).kept
            have hmb9 := hmb.keep (kp_in (sm8.trans sm10) k10 hf10)
            have hf9 : H11 f = some (.lst vs) := sm11 _ _ (by simp [hfa]) hf10
            have sm9 := (sm8.trans sm10).trans sm11
            have sm39 := (sm38.trans sm10).trans sm11
            have hib9 := hib8.keep (kp_turn g.kept (sm10.trans sm11))
            have hw9 : WellAt H11 a (m0 + 3 + 2 * cW j) := hw11.mono (by omega)
            have gm1 := gm.ok
            have gm2 : (nCB l : Int) + nCB il + nCB lm ≤ c := by have := gm.hi; omega
            have gm3 := gm.i
            have gm4 := gm.d
            clear gm hmb hw11 hw10 sm10 sm11 k10 hf10 hib8 hf8 hw8 sm8 sm38 g8 mbw hm8 s8
            obtain ⟨H9, eq9⟩ : ∃ z, z = H11 := ⟨_, rfl⟩
            subst eq9
          case' C2 =>
            obtain ⟨lm, hlm⟩ : ∃ lm : List FA.It, lm = [] := ⟨_, rfl⟩
            have hmb9 : BdAt (wo [f] (fr H H8)) mb0 lm := ⟨_, mbw, by rw [hlm]; exact .nil⟩
            have hf9 := hf8
            have sm9 := sm8
            have sm39 := sm38
            have hib9 := hib8
            have hw9 : WellAt H8 a (m0 + 3 + 2 * cW j) := hw8.mono (by omega)
            have gm1 : okB ss lm := by rw [hlm]; simp [okB]
            have gm2 : (nCB l : Int) + nCB il + nCB lm ≤ c := by rw [hlm]; simp only [nCB]; omega
            have gm3 : nIB lm ≤ cN j := by rw [hlm]; simp [nIB]
            have gm4 : dB lm ≤ j := by rw [hlm]; simp only [dB]; exact hj
            clear hlm hib8 hf8 hw8 sm8 sm38 g8 mbw hm8 s8
            obtain ⟨H9, eq9⟩ : ∃ z, z = H8 := ⟨_, rfl⟩
            subst eq9
            obtain ⟨mb, eqm⟩ : ∃ z, z = mb0 := ⟨_, rfl⟩
            subst eqm
          all_goals
            have k9 : ∀ b ∈ [a], ∃ o, H9 b = some o := fun b hb => by rw [List.mem_singleton.mp hb]; exact hw9.some
            refine ⟨_, rfl, _, rfl, mb, ss, lm, rfl, (hmb9.keep kp_wo).keep kp_fr, gm1, by omega, by omega, fun H12 s12 => ⟨_, _, rfl, rfl, ?_⟩⟩
            have hw12 : WellAt H12 a (m0 + 3 + 2 * cW j) := hw9.keep fun o e => s12 _ _ e
            have hf12 := s12 _ _ hf9
            have sm12 := sm9.trans (Sm.of_same (W := [a]) s12)
            have sm312 := sm39.trans (Sm.of_same (W := [a]) s12)
            have hib12 := hib9.keep (kp_turn g.kept (Sm.of_same (W := [a]) s12))
            have hmb12 := hmb9.keep (kp_turn g.kept (Sm.of_same (W := [a]) s12))
            have k12 : ∀ b ∈ [a], ∃ o, H12 b = some o := fun b hb => by rw [List.mem_singleton.mp hb]; exact hw12.some
            clear hw9 hf9 sm9 sm39 hib9 hmb9 k9 s12
            -- the three ways to order them
            refine ⟨_, rfl, _, rfl, Nat.le_of_lt (small1000 (by simp)), fun p1 hp1 => ?_⟩
            have t1 := same_upd hp1 (.lst [V.ref ib, V.ref mb])
            have e1 : (upd H12 p1 (.lst [V.ref ib, V.ref mb])) p1 = some (.lst [V.ref ib, V.ref mb]) := upd_same
            generalize upd H12 p1 (.lst [V.ref ib, V.ref mb]) = J1 at t1 e1 ⊢
            refine ⟨_, rfl, _, rfl, Nat.le_of_lt (small1000 (by simp)), fun p2 hp2 => ?_⟩
            have t2 := t1.trans (same_upd hp2 (.lst [V.ref mb, V.ref ib]))
            have e21 := same_upd hp2 (.lst [V.ref mb, V.ref ib]) _ _ e1
            have e2 : (upd J1 p2 (.lst [V.ref mb, V.ref ib])) p2 = some (.lst [V.ref mb, V.ref ib]) := upd_same
            have n2 := t1.free hp2
            generalize upd J1 p2 (.lst [V.ref mb, V.ref ib]) = J2 at t2 e21 e2 ⊢
            refine ⟨_, rfl, _, rfl, Nat.zero_le _, fun p0 hp0 => ?_⟩
            have t3 := t2.trans (same_upd hp0 (.lst []))
            have e31 := same_upd hp0 (.lst []) _ _ e21
            have e32 := same_upd hp0 (.lst []) _ _ e2
            have e30 : (upd J2 p0 (.lst [])) p0 = some (.lst []) := upd_same
            have n0 := t2.free hp0
            generalize upd J2 p0 (.lst []) = J3 at t3 e31 e32 e30 ⊢
            refine ⟨Nat.le_of_lt (small1000 (by simp)), fun p3 hp3 => ?_⟩
            have x4 := same_upd hp3 (.lst [V.ref ib, V.ref mb, V.ref p0])
            have t4 := t3.trans x4
            have e43 : (upd J3 p3 (.lst [V.ref ib, V.ref mb, V.ref p0])) p3 = some (.lst [V.ref ib, V.ref mb, V.ref p0]) := upd_same
            have n3 := t3.free hp3
            have e41 := x4 _ _ e31
            have e42 := x4 _ _ e32
            have e40 := x4 _ _ e30
            generalize upd J3 p3 (.lst [V.ref ib, V.ref mb, V.ref p0]) = J4 at x4 t4 e43 e41 e42 e40 ⊢
            refine ⟨Nat.le_of_lt (small1000 (by simp)), fun po hpo => ?_⟩
            have x5 := same_upd hpo (.lst [V.ref p1, V.ref p2, V.ref p3])
            have eo : (upd J4 po (.lst [V.ref p1, V.ref p2, V.ref p3])) po = some (.lst [V.ref p1, V.ref p2, V.ref p3]) := upd_same
            generalize upd J4 po (.lst [V.ref p1, V.ref p2, V.ref p3]) = J5 at x5 eo ⊢
            refine ⟨_, rfl, Nat.le_of_lt (small1000 (by simp)), fun pq hpq => ?_⟩
            have x6 := same_upd hpq (.lst [V.int 2, V.int 3])
            have eq6 : (upd J5 pq (.lst [V.int 2, V.int 3])) pq = some (.lst [V.int 2, V.int 3]) := upd_same
            generalize upd J5 pq (.lst [V.int 2, V.int 3]) = J6 at x6 eq6 ⊢
            refine ⟨_, rfl, Nat.zero_le _, fun pe hpe => ?_⟩
            have x7 := same_upd hpe (.lst [])
            have ee7 : (upd J6 pe (.lst [])) pe = some (.lst []) := upd_same
            generalize upd J6 pe (.lst []) = J7 at x7 ee7 ⊢
            have t7 := ((t4.trans x5).trans x6).trans x7
            have x47 := (x5.trans x6).trans x7
            have x67 := x6.trans x7
            obtain ⟨mv, m1, m2⟩ := ((hmb12.keep kp_wo).keep kp_fr).keep (Kp.of t7)
            have dmx := dtB_depth lm
            refine ⟨_, _, .lst (SqL.of m1) m2.dp, .lst (SqL.of ee7) .nil, dt_shaped (dtB_lay g.nm lm gm1) (by omega), dt_shaped rfl (by decide), ?_⟩
            rw [eqv_nil]
            refine .inr ⟨_, rfl, ?_⟩
            obtain ⟨mm, hat, hmm⟩ : ∃ mm : Int, atI [V.int 2, V.int 3] (if (!(dtB lm).isEmpty) = true then 1 else 0) = some (.int mm) ∧ (mm = 2 ∨ mm = 3 ∧ lm ≠ []) := by
              cases lm with
              | nil => exact ⟨2, rfl, .inl rfl⟩
              | cons i r => exact ⟨3, by simp only [dtB]; rfl, .inr ⟨rfl, by simp⟩⟩
            refine ⟨pq, _, _, .int mm, rfl, rfl, SqL.of (x7 _ _ eq6), hat, a, mm, m0 + 3 + 2 * cW j, rfl, by omega, by omega, hw12.keep fun o e => t7 _ _ e, by omega, fun r H13 r0 r1 sm13 hw13 => ?_⟩
            have sm713 := sm13
            have aJ : ∀ (x : Addr) (xs : List V), J4 x = some (.lst xs) → x ≠ a → H13 x = some (.lst xs) := fun x xs e ne => sm13 _ _ (by simp [ne]) (x47 _ _ e)
            have na : ∀ (x : Addr) (Hx : Hp), Same H12 Hx → Hx x = none → x ≠ a := fun x Hx sx hx => by
              rintro rfl
              obtain ⟨o, e⟩ := hw12.some
              rw [sx _ _ e] at hx
              cases hx
            have hpoH := na po J4 t4 hpo
            have sm1213 : Sm [a] H12 H13 := (Sm.of_same t7).trans sm13
            have sm013 := sm12.trans sm1213
            have w1 : wo [f] (fr H H13) p1 = some (.lst [V.ref ib, V.ref mb]) := wof_new sm12 k12 hf12 hp1 (aJ _ _ e41 (na p1 _ (Same.refl _) hp1))
            have w2 : wo [f] (fr H H13) p2 = some (.lst [V.ref mb, V.ref ib]) := wof_new sm12 k12 hf12 n2 (aJ _ _ e42 (na p2 _ (Same.refl _) n2))
            have w0 : wo [f] (fr H H13) p0 = some (.lst []) := wof_new sm12 k12 hf12 n0 (aJ _ _ e40 (na p0 _ (Same.refl _) n0))
            have w3 : wo [f] (fr H H13) p3 = some (.lst [V.ref ib, V.ref mb, V.ref p0]) := wof_new sm12 k12 hf12 n3 (aJ _ _ e43 (na p3 _ (Same.refl _) n3))
            have hib13 := hib12.keep (kp_turn g.kept sm1213)
            have hmb13 := hmb12.keep (kp_turn g.kept sm1213)
            have hf13 : H13 f = some (.lst vs) := sm13 _ _ (by simp [hfa]) (t7 _ _ hf12)
            have gin := gi.ne
            have ile : il.isEmpty = false := by
              cases il with
              | nil => exact absurd rfl gin
              | cons _ _ => rfl
            obtain ⟨px, bs, ws, hpx, wx, hbs, b1, b2, b3, b4⟩ : ∃ (px : Addr) (bs : List (List FA.It)) (ws : List V), atI [V.ref p1, V.ref p2, V.ref p3] r = some (.ref px) ∧ wo [f] (fr H H13) px = some (.lst ws) ∧ BdsAt (wo [f] (fr H H13)) ws bs ∧ okI ss (.one bs) ∧ nCBs bs = nCB il + nCB lm ∧ nIBs bs = nIB il + nIB lm ∧ dBs bs ≤ j := by
              rcases (by omega : r = 0 ∨ r = 1 ∨ r = 2) with rfl | rfl | rfl
              · refine ⟨p1, [il, lm], _, rfl, w1, hib13.toBds (hmb13.toBds .nil), ?_, by simp only [nCBs]; omega, by simp only [nIBs]; omega, by simp only [dBs]; omega⟩
                simp only [okI, okBs]
                refine ⟨by simp, by simp, ?_, gi.ok, gm1, trivial⟩
                simp only [List.countP_cons, List.countP_nil, ile]
                cases lm.isEmpty <;> decide
              · refine ⟨p2, [lm, il], _, rfl, w2, hmb13.toBds (hib13.toBds .nil), ?_, by simp only [nCBs]; omega, by simp only [nIBs]; omega, by simp only [dBs]; omega⟩
                simp only [okI, okBs]
                refine ⟨by simp, by simp, ?_, gm1, gi.ok, trivial⟩
                simp only [List.countP_cons, List.countP_nil, ile]
                cases lm.isEmpty <;> decide
              · have hlm : lm ≠ [] := by
                  rcases hmm with rfl | ⟨_, z⟩
                  · omega
                  · exact z
                have lme : lm.isEmpty = false := by
                  cases lm with
                  | nil => exact absurd rfl hlm
                  | cons _ _ => rfl
                refine ⟨p3, [il, lm, []], _, rfl, w3, hib13.toBds (hmb13.toBds (.cons w0 .nil .nil)), ?_, by simp only [nCBs, nCB]; omega, by simp only [nIBs, nIB]; omega, by simp only [dBs, dB]; omega⟩
                simp only [okI, okBs, okB]
                refine ⟨by simp, by simp, ?_, gi.ok, gm1, trivial, trivial⟩
                simp only [List.countP_cons, List.countP_nil, ile, lme]
                simp
            refine ⟨po, _, _, .ref px, rfl, rfl, SqL.of (sm13 _ _ (by simp [hpoH]) (x67 _ _ eo)), hpx, ?_⟩
            refine ⟨_, rfl, .inl ⟨rfl, _, SqL.of hf13⟩, _, rfl, Nat.le_of_lt (small1000 (by simp)), fun t ht => ?_⟩
            have s14 := same_upd ht (.tup [V.str "one", V.ref px])
            have ht14 : (upd H13 t (.tup [V.str "one", V.ref px])) t = some (.tup [V.str "one", V.ref px]) := upd_same
            have htn := ht
            generalize upd H13 t (.tup [V.str "one", V.ref px]) = H14 at s14 ht14 ⊢
            refine ⟨f, _, _, rfl, rfl, s14 _ _ hf13, small1000 (by omega), ?_⟩
            have k13 : ∀ b ∈ [a], ∃ o, H13 b = some o := fun b hb => by rw [List.mem_singleton.mp hb]; exact hw13.some
            have tw : wo [f] (fr H H14) t = some (.tup [V.str "one", V.ref px]) := wof_new sm013 k13 hf13 htn ht14
            have kp14 : Kp (wo [f] (fr H H13)) (wo [f] (fr H H14)) := kp_turn g.kept (Sm.of_same (W := [a]) s14)
            exact more _ H14 (.ref t) (.one bs) _ _ _ _ _ _ (m0 + 4 + 2 * cW j) (by simp only [nC]; omega) (sm312.trans (sm1213.trans (Sm.of_same s14))) (.one tw (kp14.l _ _ wx) (hbs.keep kp14)) ((hw13.mono (by omega)).keep fun o e => s14 _ _ e) (by omega) b1 (by simp only [nC]; omega) (by simp only [nC]; omega) (by simp only [nI]; omega) (by simp only [dI]; omega)
    · refine ⟨_, rfl, _, _, rfl, rfl, _, rfl, ite2 (fun z => absurd z hl) (fun _ => ?_)⟩
      refine ⟨l, vs, _, _, _, _, _, _, rfl, sm04, hf4, by omega, its.keep (kp_turn g.kept sm4), hw4.mono (by omega), ok, hcc, fun _ => ?_, by omega, hd⟩
      have : ¬ (c - (nCB l : Nat) > 0) := fun z => hl (decide_eq_true z)
      omega
  · rintro σ H3 ⟨l, vs, v4, v7, v8, v9, v10, v11, rfl, sm3, hf3, hvl, its, hw3, ok, hcc, hc0, hni, hd⟩
    have hm : (1 + r1).toNat * Wd ≤ 3 * Wd := Nat.mul_le_mul_right _ (by omega)
    have hm2 : (1 + r1).toNat * Nd ≤ 3 * Nd := Nat.mul_le_mul_right _ (by omega)
    exact ⟨_, rfl, q f l H3 sm3 (hw3.mono (by omega)) ⟨vs, fr_some.mpr ⟨hf, hf3⟩, its.keep kp_wo⟩ ⟨ok, hc0 (by omega), hcc, by omega, hd⟩⟩
theorem okLItems (T : Txt K mg) : ∀ j : Nat, FnOk P w K mg base CX0 (4 + j) T.aLItems T.fLItems ["spring", "some", "calls", "deep"] (spLItems j)
  | 0 => fn_never fun vs H Q E h => by
    obtain ⟨_, _, _, _, _, _, h1, _⟩ := h
    omega
  | j + 1 => by
    have := okLItems1 (P := P) (w := w) (base := base) T j (okLItems T j)
    rw [show 4 + (j + 1) = 5 + j by omega]
    exact this
end K13


set_option Elab.async false
set_option linter.all false
set_option maxRecDepth 100000
set_option maxHeartbeats 8000000
namespace K13
open PySem PySem.Spec PyProof.Rows L2 FA
variable {P : Program} {w : World} {K : PySem.W.Frag} {mg : Str → Option Value} {base : Heap}
/-! ### the law's costs: each body's is cut at 99 -/
mutual
def capI (f : Str → Int) : FA.It → Int
  | .call x => f x
  | .may _ => 0
  | .loop _ => 0
  | .one bs => minL (capBs f bs)
def capS (f : Str → Int) : List FA.It → Int
  | [] => 0
  | i :: r => capI f i + capS f r
def capBs (f : Str → Int) : List (List FA.It) → List Int
  | [] => []
  | b :: r => min 99 (capS f b) :: capBs f r
end
def capB (f : Str → Int) (b : List FA.It) : Int := min 99 (capS f b)
theorem capBs_map (f : Str → Int) : ∀ bs : List (List FA.It), capBs f bs = bs.map (capB f)
  | [] => by simp only [capBs, List.map_nil]
  | b :: r => by simp only [capBs, List.map_cons, capBs_map f r, capB]
theorem capS_app (f : Str → Int) : ∀ a b : List FA.It, capS f (a ++ b) = capS f a + capS f b
  | [], b => by simp [capS]
  | i :: r, b => by simp only [List.cons_append, capS, capS_app f r b]; omega
theorem capS_take {f : Str → Int} {l : List FA.It} {i : Nat} {it : FA.It} (h : l[i]? = some it) : capS f (l.take (i + 1)) = capS f (l.take i) + capI f it := by
  rw [List.take_add_one, h, capS_app]
  simp [capS]
mutual
theorem capI_nn {f : Str → Int} (hf : ∀ x, 0 ≤ f x) : ∀ i : FA.It, 0 ≤ capI f i
  | .call x => by simp only [capI]; exact hf x
  | .may _ => by simp only [capI]; omega
  | .loop _ => by simp only [capI]; omega
  | .one bs => by
    simp only [capI]
    cases bs with
    | nil => simp [capBs, minL]
    | cons b r =>
      have h := minL_mem (l := capBs f (b :: r)) (by simp [capBs])
      exact capBs_nn hf (b :: r) _ h
theorem capS_nn {f : Str → Int} (hf : ∀ x, 0 ≤ f x) : ∀ b : List FA.It, 0 ≤ capS f b
  | [] => by simp [capS]
  | i :: r => by
    have h1 := capI_nn hf i
    have h2 := capS_nn hf r
    simp only [capS]; omega
theorem capBs_nn {f : Str → Int} (hf : ∀ x, 0 ≤ f x) : ∀ bs : List (List FA.It), ∀ y ∈ capBs f bs, 0 ≤ y
  | [], y, h => by simp [capBs] at h
  | b :: r, y, h => by
    simp only [capBs, List.mem_cons] at h
    rcases h with rfl | h
    · have := capS_nn hf b; omega
    · exact capBs_nn hf r y h
end
mutual
theorem capI_congr {ns : List Str} {f g : Str → Int} (h : ∀ x ∈ ns, f x = g x) : ∀ i : FA.It, okI ns i → capI f i = capI g i
  | .call x, k => by simp only [okI] at k; simp only [capI]; exact h x k
  | .may _, _ => by simp only [capI]
  | .loop _, _ => by simp only [capI]
  | .one bs, k => by simp only [okI] at k; simp only [capI]; rw [capBs_congr h bs k.2.2.2]
theorem capS_congr {ns : List Str} {f g : Str → Int} (h : ∀ x ∈ ns, f x = g x) : ∀ b : List FA.It, okB ns b → capS f b = capS g b
  | [], _ => by simp [capS]
  | i :: r, k => by simp only [okB] at k; simp only [capS]; rw [capI_congr h i k.1, capS_congr h r k.2]
theorem capBs_congr {ns : List Str} {f g : Str → Int} (h : ∀ x ∈ ns, f x = g x) : ∀ bs : List (List FA.It), okBs ns bs → capBs f bs = capBs g bs
  | [], _ => by simp [capBs]
  | b :: r, k => by simp only [okBs] at k; simp only [capBs]; rw [capS_congr h b k.1, capBs_congr h r k.2]
end
theorem capB_congr {ns : List Str} {f g : Str → Int} (h : ∀ x ∈ ns, f x = g x) {b : List FA.It} (k : okB ns b) : capB f b = capB g b := by
  unfold capB
  rw [capS_congr h b k]
/-- place by place -/
def le12 : List Int → List Int → Prop
  | [], [] => True
  | x :: r, y :: s => min 12 x ≤ y ∧ le12 r s
  | _, _ => False
theorem minL_le12 : ∀ {l m : List Int}, le12 l m → min 12 (minL l) ≤ minL m
  | [], [], _ => by decide
  | [x], [y], h => h.1
  | x :: x' :: r, y :: y' :: s, h => by
    have ih := minL_le12 (l := x' :: r) (m := y' :: s) h.2
    have h1 := h.1
    simp only [minL]; omega
  | [_], _ :: _ :: _, h => h.2.elim
  | _ :: _ :: _, [_], h => h.2.elim
  | [], _ :: _, h => h.elim
  | _ :: _, [], h => h.elim
mutual
theorem capI_ge {ns : List Str} {r g : Str → Int} (hr : ∀ x, 0 ≤ r x) (h : ∀ x ∈ ns, r x ≤ g x) : ∀ i : FA.It, okI ns i → min 12 (cost r i) ≤ capI g i
  | .call x, k => by simp only [okI] at k; have := h x k; simp only [cost, capI]; omega
  | .may _, _ => by simp only [cost, capI]; omega
  | .loop _, _ => by simp only [cost, capI]; omega
  | .one bs, k => by simp only [okI] at k; simp only [cost, capI]; exact minL_le12 (capBs_ge hr h bs k.2.2.2)
theorem capS_ge {ns : List Str} {r g : Str → Int} (hr : ∀ x, 0 ≤ r x) (h : ∀ x ∈ ns, r x ≤ g x) : ∀ b : List FA.It, okB ns b → min 12 (costB r b) ≤ capS g b
  | [], _ => by simp only [costB, capS]; omega
  | i :: t, k => by
    simp only [okB] at k
    have h1 := capI_ge hr h i k.1
    have h2 := capS_ge hr h t k.2
    have h3 := cost_nn hr i
    have h4 := costB_nn hr t
    simp only [costB, capS]; omega
theorem capBs_ge {ns : List Str} {r g : Str → Int} (hr : ∀ x, 0 ≤ r x) (h : ∀ x ∈ ns, r x ≤ g x) : ∀ bs : List (List FA.It), okBs ns bs → le12 (costBs r bs) (capBs g bs)
  | [], _ => by simp [costBs, capBs, le12]
  | b :: t, k => by
    simp only [okBs] at k
    have h1 := capS_ge hr h b k.1
    simp only [costBs, capBs, le12]
    exact ⟨by omega, capBs_ge hr h t k.2⟩
end
theorem capB_ge {ns : List Str} {r g : Str → Int} (hr : ∀ x, 0 ≤ r x) (h : ∀ x ∈ ns, r x ≤ g x) {b : List FA.It} (k : okB ns b) : min 12 (costB r b) ≤ capB g b := by
  have := capS_ge hr h b k
  unfold capB; omega
/-- the law's round k -/
def grd (p : Pr) : Nat → Str → Int
  | 0, _ => 99
  | k + 1, x => 1 + capB (grd p k) (bodyOf p x)
theorem grd_pos (p : Pr) : ∀ k x, 1 ≤ grd p k x
  | 0, _ => by simp only [grd]; omega
  | k + 1, x => by
    have := capS_nn (f := grd p k) (fun y => by have := grd_pos p k y; omega) (bodyOf p x)
    simp only [grd, capB]; omega
/-- with some bodies made optional the program's round is no greater -/
theorem rnd_grd {p q : Pr} (h : ∀ x ∈ pNames p, (bodyOf q x = bodyOf p x ∧ okB (pNames p) (bodyOf p x)) ∨ ∀ f, costB f (bodyOf q x) = 0) : ∀ k, ∀ x ∈ pNames p, rnd 13 q k x ≤ grd p k x
  | 0, x, _ => by simp only [rnd, grd]; decide
  | k + 1, x, hx => by
    have ih := rnd_grd h k
    rcases h x hx with ⟨e, ok⟩ | e
    · have := capB_ge (rnd_nn (c := 13) (by decide) q k) ih ok
      simp only [rnd, grd, e]; omega
    · have := grd_pos p (k + 1) x
      simp only [rnd, e]; omega
/-! ### as many rounds as functions are enough -/
mutual
theorem cost_sel {ns : List Str} {f g : Str → Int} {m : Int} (hf : ∀ x, 0 ≤ f x) (h : ∀ x ∈ ns, f x ≤ m → g x ≤ f x) : ∀ i : FA.It, okI ns i → cost f i ≤ m → cost g i ≤ cost f i
  | .call x, k, c => by simp only [okI] at k; simp only [cost] at c ⊢; exact h x k c
  | .may _, _, _ => by simp only [cost]; omega
  | .loop _, _, _ => by simp only [cost]; omega
  | .one bs, k, c => by
    simp only [okI] at k
    simp only [cost] at c ⊢
    have hne : costBs f bs ≠ [] := fun z => by
      rw [costBs_map, List.map_eq_nil_iff] at z
      rw [z] at k
      simp at k
    have hm := minL_mem hne
    rw [costBs_map, List.mem_map] at hm
    obtain ⟨b, hb, e⟩ := hm
    rw [← costBs_map] at e
    have h1 := costBs_sel hf h bs k.2.2.2 b hb (by omega)
    have h2 : minL (costBs g bs) ≤ costB g b := minL_le (by rw [costBs_map]; exact List.mem_map.mpr ⟨b, hb, rfl⟩)
    omega
theorem costB_sel {ns : List Str} {f g : Str → Int} {m : Int} (hf : ∀ x, 0 ≤ f x) (h : ∀ x ∈ ns, f x ≤ m → g x ≤ f x) : ∀ b : List FA.It, okB ns b → costB f b ≤ m → costB g b ≤ costB f b
  | [], _, _ => by simp only [costB]; omega
  | i :: r, k, c => by
    simp only [okB] at k
    simp only [costB] at c ⊢
    have n1 := cost_nn hf i
    have n2 := costB_nn hf r
    have h1 := cost_sel hf h i k.1 (by omega)
    have h2 := costB_sel hf h r k.2 (by omega)
    omega
theorem costBs_sel {ns : List Str} {f g : Str → Int} {m : Int} (hf : ∀ x, 0 ≤ f x) (h : ∀ x ∈ ns, f x ≤ m → g x ≤ f x) : ∀ bs : List (List FA.It), okBs ns bs → ∀ b ∈ bs, costB f b ≤ m → costB g b ≤ costB f b
  | [], _, b, hb, _ => by simp at hb
  | b' :: r, k, b, hb, c => by
    simp only [okBs] at k
    rcases List.mem_cons.mp hb with e | hb
    · rw [e] at c ⊢
      exact costB_sel hf h b' k.1 c
    · exact costBs_sel hf h r k.2 b hb c
end
theorem countP_lt {α : Type} {P Q : α → Bool} (h : ∀ x, P x = true → Q x = true) : ∀ {l : List α} {y : α}, y ∈ l → Q y = true → P y = false → l.countP P < l.countP Q
  | x :: r, y, hy, q, n => by
    have mono : ∀ l : List α, l.countP P ≤ l.countP Q := fun l => by
      induction l with
      | nil => simp
      | cons a t ih =>
        simp only [List.countP_cons]
        cases hp : P a with
        | true => rw [h a hp]; simp; omega
        | false => simp; omega
    simp only [List.countP_cons]
    rcases List.mem_cons.mp hy with rfl | hy
    · have := mono r
      rw [q, n]; simp; omega
    · have := countP_lt h hy q n
      cases hp : P x with
      | true => rw [h x hp]; simp; omega
      | false => simp; omega
theorem rnd_settle {p : Pr} (ok : ∀ x ∈ pNames p, okB (pNames p) (bodyOf p x)) (M : Nat) : ∀ (n : Nat) (x : Str), x ∈ pNames p → rnd 13 p M x < 13 → (pNames p).countP (fun y => decide (rnd 13 p M y < rnd 13 p M x)) ≤ n → ∀ j, n + 1 ≤ j → rnd 13 p j x ≤ rnd 13 p M x := by
  intro n
  induction n with
  | zero =>
    intro x hx hv hn j hj
    obtain ⟨j', rfl⟩ : ∃ j', j = j' + 1 := ⟨j - 1, by omega⟩
    cases M with
    | zero => simp only [rnd] at hv; omega
    | succ M' =>
      have e : rnd 13 p (M' + 1) x = 1 + costB (rnd 13 p M') (bodyOf p x) := by simp only [rnd] at hv ⊢; omega
      have := costB_sel (m := rnd 13 p (M' + 1) x - 1) (g := rnd 13 p j') (rnd_nn (c := 13) (by decide) p M') (fun y hy hle => by
        exfalso
        have h1 := rnd_down (c := 13) p M' y
        have h2 : 0 < (pNames p).countP (fun y => decide (rnd 13 p (M' + 1) y < rnd 13 p (M' + 1) x)) := List.countP_pos_iff.mpr ⟨y, hy, decide_eq_true (by omega)⟩
        omega) _ (ok x hx) (by omega)
      simp only [rnd] at e ⊢; omega
  | succ n ih =>
    intro x hx hv hn j hj
    obtain ⟨j', rfl⟩ : ∃ j', j = j' + 1 := ⟨j - 1, by omega⟩
    cases M with
    | zero => simp only [rnd] at hv; omega
    | succ M' =>
      have e : rnd 13 p (M' + 1) x = 1 + costB (rnd 13 p M') (bodyOf p x) := by simp only [rnd] at hv ⊢; omega
      have := costB_sel (m := rnd 13 p (M' + 1) x - 1) (g := rnd 13 p j') (rnd_nn (c := 13) (by decide) p M') (fun y hy hle => by
        have h1 := rnd_down (c := 13) p M' y
        have h2 := countP_lt (P := fun z => decide (rnd 13 p (M' + 1) z < rnd 13 p (M' + 1) y)) (Q := fun z => decide (rnd 13 p (M' + 1) z < rnd 13 p (M' + 1) x)) (fun z hz => decide_eq_true (by have := of_decide_eq_true hz; omega)) hy (decide_eq_true (by omega)) (decide_eq_false (by omega))
        have := ih y hy (by omega) (by omega) j' (by omega)
        omega) _ (ok x hx) (by omega)
      simp only [rnd] at e ⊢; omega
theorem rnd_enough {p : Pr} (ok : ∀ x ∈ pNames p, okB (pNames p) (bodyOf p x)) {M : Nat} {x : Str} (hx : x ∈ pNames p) (h : rnd 13 p M x ≤ 12) : rnd 13 p p.length x ≤ 12 := by
  have h1 := countP_lt (P := fun y => decide (rnd 13 p M y < rnd 13 p M x)) (Q := fun _ => true) (fun _ _ => rfl) hx rfl (decide_eq_false (by omega))
  have h2 : (pNames p).countP (fun _ => true) = p.length := by
    rw [List.countP_true]
    unfold pNames
    rw [List.length_map]
  have := rnd_settle ok M _ x hx (by omega) (Nat.le_refl _) p.length (by omega)
  omega
/-! ### the def -/
def LgAt (H : Hp) (L : Addr) (f : Str → Int) : Prop := ∃ kvs, Rd H L (.dK kvs) ∧ ∀ x, (valV kvs (.inr x)).getD (.int 99) = .int (f x)
theorem LgAt.same {H H' : Hp} {L : Addr} {f : Str → Int} (sm : Same H H') (h : LgAt H L f) : LgAt H' L f := by
  obtain ⟨kvs, h1, h2⟩ := h
  exact ⟨kvs, Rd.same sm h1, h2⟩
def spLCost (n : Nat) : Sp := fun vs H Q _ => ∃ (b L : Addr) (ns : List Str) (f : Str → Int) (l : List FA.It), vs = [.ref L, .ref b] ∧ BdAt H b l ∧ LgAt H L f ∧ okB ns l ∧ nIB l ≤ 12 ∧ dB l ≤ n ∧ ∀ H', Same H H' → Q (.int (capB f l)) H'
theorem okLCost1 (T : Txt K mg) (n : Nat) (GLCost : FnOk P w K mg base CX0 (n + 1) T.aLCost T.fLCost ["costs", "body"] (spLCost n)) : FnOk P w K mg base CX0 (n + 2) T.aLCost T.fLCost ["costs", "body"] (spLCost (n + 1)) := by
  refine T.FLCost.ok scLCost (fun vs H Q E h => ?_) (fun cdv A outer s H vs Q E hr h => ?_)
  · obtain ⟨b, L, ns, f, l, rfl, _⟩ := h
    rfl
  obtain ⟨b, L, ns, f, l, rfl, ⟨vs, hb, hits⟩, hL, hok, hN, hn, q⟩ := h
  have hu := hu_of hr
  refine ⟨_, (pss_cons (ps_set (i := 2) scLCost.nd rfl (by first | exact Or.inl rfl | exact Or.inr rfl) pe_int)
      (pss_cons (ps_for PassesOwn.never rfl (pi_list (pv 1)) (pg_name (i := 3) scLCost.nd rfl (by first | exact Or.inl rfl | exact Or.inr rfl))
        (pss_one (ps_if (pt_val (pe_callB call_isi (by rfl) T.n_isinstance (by decide +kernel) (pa_cons (pv 3) (pa_cons (pe_bltn (v := .ty "str") (by rfl) T.n_str (by decide +kernel) rfl) pa_nil))))
          (pss_one (ps_set (i := 2) scLCost.nd rfl (by first | exact Or.inl rfl | exact Or.inr rfl) (pe_op op_add (pv 2) (pe_dget2 hu (pv 0) (pv 3) pe_int (by exact ⟨rfl, rfl, rfl, rfl⟩))))) (pss_one (ps_if (pt_cmpR op_eq (pe_ix ix_tup (pv 3) pe_int (fun _ _ => rfl)) pe_str (nomark _))
            (pss_one (ps_set (i := 2) scLCost.nd rfl (by first | exact Or.inl rfl | exact Or.inr rfl) (pe_op op_add (pv 2) (pe_callB (cr_min rfl) (by rfl) T.n_min (by decide +kernel) (pa_cons (pe_lc (own := [("inner", 4)]) (g := gName 4) (tt := tYes) rfl scLCost.nd (pi_list (pe_ix ix_tup (pv 3) pe_int (fun _ _ => rfl))) (blkOk_by (N := ["costs", "body", "found", "item", "inner"]) (sc := defScope sLCost) (by decide +kernel)) (fun _ _ _ _ _ => (pg_name (i := 4) scLCost.nd rfl (by first | exact Or.inl rfl | exact Or.inr rfl))) (fun _ _ _ _ _ => pts_nil) (fun _ _ _ _ _ => (pe_call GLCost (hr.mono (by omega)) rfl T.gLCost T.FLCost.kp T.bLCost .nil pass0 (pa_cons (pv 0) (pa_cons (pv 4) pa_nil))))) pa_nil))))) pss_nil)))))
      (pss_one (ps_ret (pe_callB (call_min2 rfl) (by rfl) T.n_min (by decide +kernel) (pa_cons pe_int (pa_cons (pv 2) pa_nil))))))), ?_⟩
  have hl := hits.length
  have hll := nIB_len l
  refine ⟨_, rfl, b, rfl, ⟨_, SqL.of hb⟩, for_list (K := K) (a := b) (xs := vs) (fun i σ H' => ∃ v3 v4, σ = [some (.ref L), some (.ref b), some (.int (capS f (l.take i))), v3, v4] ∧ Same H H') ⟨none, none, rfl, Same.refl _⟩ ?_ ?_ ?_⟩
  · rintro i σ H' _ ⟨_, _, _, sm⟩
    exact SqL.of (sm _ _ hb)
  · rintro i y σ H1 hi ⟨v3, v4, rfl, sm⟩
    obtain ⟨it, e1, e2⟩ := hits.get hi
    have hm : it ∈ l := List.mem_of_getElem? e1
    have e3 := e2.keep (Kp.of sm)
    have ec := capS_take (f := f) e1
    have c7 := dB_mem hm
    have c8 := nIB_mem hm
    have oki := okB_all.mp hok it hm
    rcases e3.parts with ⟨x, rfl, rfl⟩ | ⟨t, k, b', ws, rfl, h1, h2, ⟨rfl, ls, rfl, h3⟩ | ⟨hk, l', hit, h3⟩⟩
    · obtain ⟨kvs, h1, h2⟩ := hL.same sm
      refine ⟨_, rfl, _, _, _, _, true, rfl, .ty _, ty_str x, kit_ty (by decide +kernel), _, rfl, iteT ?_⟩
      refine ⟨_, rfl, _, rfl, L, rfl, .inl ⟨kvs, h1⟩, _, rfl, _, .inl ⟨kvs, .inr x, h1, rfl, rfl⟩, _, _, rfl, h2 x, ?_⟩
      refine ⟨some (.str x), v4, ?_, sm⟩
      rw [ec]
      simp only [capI]
      rfl
    · simp only [okI] at oki
      obtain ⟨k1, k2, k3, k4⟩ := oki
      simp only [nI] at c8
      simp only [dI] at c7
      have hl3 := h3.length
      refine ⟨_, rfl, _, _, _, _, false, rfl, .ty _, ty_tup h1, kit_ty (by decide +kernel), _, rfl, iteF ?_⟩
      refine ⟨_, rfl, _, _, _, _, rfl, rfl, SqT.of h1, at_of (j := 0) rfl rfl, rfl, _, rfl, ite2 (fun _ => ?_) (fun c => absurd (decide_eq_true rfl) c)⟩
      refine ⟨_, rfl, _, rfl, _, _, _, _, rfl, rfl, SqT.of h1, at_of (j := 1) rfl rfl, b', rfl, ⟨_, SqL.of h2⟩, fun D hD => lcS (n := ws.length) hD (small1000 (by omega)) _ (fun j v _ => ∃ bd, ls[j]? = some bd ∧ v = .int (capB f bd))
        (go_l (SqL.of h2)) (stop_l (SqL.of h2)) (yld_l (SqL.of h2)) (fun j v A B _ h => h) ?_ ?_⟩
      · intro j x H2 R hj hx s2 k
        obtain ⟨b2, bd, rfl, q1, q2⟩ := h3.get hx
        have hm : bd ∈ ls := List.mem_of_getElem? q1
        have m1 := nIBs_mem hm
        have m2 := dBs_mem hm
        exact ⟨rfl, _, rfl, _, rfl, b2, L, ns, f, bd, rfl, q2.keep (Kp.of s2), (hL.same sm).same s2, okBs_all.mp k4 bd hm, by omega, by omega, fun H3 s3 => k _ H3 s3 ⟨bd, q1, rfl⟩⟩
      · intro H2 ys s2 hy hyl hg
        have e := ext_map (ys := ys) (l := ls) (f := fun b => V.int (capB f b)) (by omega) hg
        refine ⟨D, ls.map (capB f), rfl, SqL.of (by rw [hy, e, List.map_map]; rfl), by rw [List.length_map]; omega, fun m hm hle => ?_⟩
        have em := minL_unique hm hle
        refine ⟨_, _, rfl, rfl, some (.ref t), v4, ?_, sm.trans s2⟩
        rw [ec, em]
        simp only [capI, capBs_map]
        rfl
    · refine ⟨_, rfl, _, _, _, _, false, rfl, .ty _, ty_tup h1, kit_ty (by decide +kernel), _, rfl, iteF ?_⟩
      refine ⟨_, rfl, _, _, _, _, rfl, rfl, SqT.of h1, at_of (j := 0) rfl rfl, rfl, _, rfl, ite2 (fun c => absurd (V.str.inj (of_decide_eq_true c)) hk) (fun _ => ?_)⟩
      refine ⟨some (.ref t), v4, ?_, sm⟩
      rw [ec]
      rcases hit with rfl | rfl <;> simp only [capI, Int.add_zero] <;> rfl
  · rintro σ H1 ⟨v3, v4, rfl, sm⟩
    refine ⟨_, rfl, _, _, rfl, ?_⟩
    have := q H1 sm
    rw [List.take_of_length_le (by omega)]
    have e : (if capS f l < 99 then capS f l else 99) = capB f l := by unfold capB; split <;> omega
    rw [e]
    exact this
theorem okLCost (T : Txt K mg) : ∀ n : Nat, FnOk P w K mg base CX0 (n + 1) T.aLCost T.fLCost ["costs", "body"] (spLCost n)
  | 0 => fn_never fun vs H Q E h => by
    obtain ⟨b, L, ns, f, l, _, _, _, _, _, h0, _⟩ := h
    have := dB_pos l
    omega
  | n + 1 => okLCost1 T n (okLCost T n)
end K13


set_option Elab.async false
set_option linter.all false
set_option maxRecDepth 100000
set_option maxHeartbeats 8000000
namespace K13
open PySem PySem.Spec PyProof.Rows L2 FA
variable {P : Program} {w : World} {K : PySem.W.Frag} {mg : Str → Option Value} {base : Heap}
/-! ### the order of the names -/
structure Ord (ord : List Str) : Prop where
  nm : ∀ x ∈ ord, FA.okName x
  nd : ord.Nodup
  main : ("main" : Str) ∈ ord
  len : ord.length ≤ 6
theorem main_ok : FA.okName "main" := ⟨by decide +kernel, by decide +kernel, by decide +kernel⟩
theorem look_nd : ∀ {p : Pr} {x : Str} {l : Bd}, (pNames p).Nodup → (x, l) ∈ p → p.lookup x = some l
  | (y, m) :: p, x, l, nd, h => by
    have nd' : y ∉ pNames p ∧ (pNames p).Nodup := List.nodup_cons.mp nd
    rcases List.mem_cons.mp h with e | h
    · cases e
      simp [List.lookup]
    · have hx : x ∈ pNames p := List.mem_map.mpr ⟨_, h, rfl⟩
      have e : (x == y) = false := beq_eq_false_iff_ne.mpr fun z => nd'.1 (by rw [← z]; exact hx)
      simp only [List.lookup, e]
      exact look_nd nd'.2 h
inductive RwAt (H : Hp) : List V → Pr → Prop
  | nil : RwAt H [] []
  | cons {t b : Addr} {x : Str} {l : Bd} {vs : List V} {p : Pr} : H t = some (.tup [.str x, .ref b]) → BdAt H b l → RwAt H vs p → RwAt H (.ref t :: vs) ((x, l) :: p)
theorem RwAt.keep {H H' : Hp} (k : Kp H H') {vs : List V} {p : Pr} (h : RwAt H vs p) : RwAt H' vs p := by
  induction h with
  | nil => exact .nil
  | cons h1 h2 _ ih => exact .cons (k.t _ _ h1) (h2.keep k) ih
theorem RwAt.length {H : Hp} {vs : List V} {p : Pr} (h : RwAt H vs p) : vs.length = p.length := by
  induction h with
  | nil => rfl
  | cons _ _ _ ih => rw [List.length_cons, List.length_cons, ih]
theorem RwAt.snoc {H : Hp} {vs : List V} {p : Pr} {t b : Addr} {x : Str} {l : Bd} (h : RwAt H vs p) (h1 : H t = some (.tup [.str x, .ref b])) (h2 : BdAt H b l) : RwAt H (vs ++ [.ref t]) (p ++ [(x, l)]) := by
  induction h with
  | nil => exact .cons h1 h2 .nil
  | cons g1 g2 _ ih => exact .cons g1 g2 ih
/-- the rows as dict(..) takes them -/
theorem RwAt.paired {H H' : Hp} (k : Kp H H') {ys : List V} {p : Pr} (h : RwAt H ys p) : ∃ (ps : List Addr) (kvs : List (Key × V)), ys = ps.map V.ref ∧ Paired (fun p kv => SqT K H' p [kV kv.1, kv.2]) ps kvs ∧ PrKv H kvs p := by
  induction h with
  | nil => exact ⟨[], [], rfl, .nil, .nil⟩
  | @cons t b x l vs p h1 h2 _ ih =>
    obtain ⟨ps, kvs, e, q1, q2⟩ := ih
    exact ⟨t :: ps, (.inr x, .ref b) :: kvs, by rw [e]; rfl, .cons (SqT.of (k.t _ _ h1)) q1, .cons h2 q2⟩
theorem rnd_body {c : Int} {p q : Pr} (h : ∀ x, bodyOf p x = bodyOf q x) : ∀ k, rnd c p k = rnd c q k
  | 0 => by funext x; rfl
  | k + 1 => by funext x; simp only [rnd, rnd_body h k, h x]
theorem names_perm {p q : Pr} (h : q.Perm p) : (pNames q).Perm (pNames p) := List.Perm.map (fun x : Str × Bd => x.1) h
theorem body_perm {p q : Pr} (h : q.Perm p) (nd : (pNames p).Nodup) : ∀ x, bodyOf q x = bodyOf p x := fun x => by
  have nq : (pNames q).Nodup := (names_perm h).symm.nodup nd
  unfold bodyOf
  cases e : p.lookup x with
  | some l => rw [look_nd nq (h.mem_iff.mpr (mem_look e))]
  | none =>
    cases e2 : q.lookup x with
    | none => rfl
    | some l =>
      have := look_nd nd (h.mem_iff.mp (mem_look e2))
      rw [e] at this
      cases this
theorem Valid.perm {p q : Pr} (h : q.Perm p) (va : Valid p) : Valid q := by
  have pn : (pNames q).Perm (pNames p) := names_perm h
  refine ⟨by rw [h.length_eq]; exact va.len, pn.mem_iff.mpr va.main, fun x hx => va.nm x (pn.mem_iff.mp hx), pn.symm.nodup va.nd, fun x l e => ?_, fun x hx => ?_⟩
  · obtain ⟨o1, o2, o3, o4⟩ := va.ok x l (look_nd va.nd (h.mem_iff.mp (mem_look e)))
    exact ⟨okB_more (fun y hy => pn.mem_iff.mpr hy) l o1, o2, o3, o4⟩
  · rw [rnd_body (body_perm h va.nd), h.length_eq]
    exact va.ret x (pn.mem_iff.mp hx)
theorem valid_list {p : Pr} (len : p.length ≤ 6) (main : ("main" : Str) ∈ pNames p) (nm : ∀ x ∈ pNames p, FA.okName x) (nd : (pNames p).Nodup) (ok : ∀ q ∈ p, okB (pNames p) q.2 ∧ nCB q.2 ≤ 5 ∧ nIB q.2 ≤ 12 ∧ dB q.2 ≤ 4) (ret : ∀ x ∈ pNames p, rnd 13 p p.length x ≤ 12) : Valid p :=
  ⟨len, main, nm, nd, fun x l e => ok (x, l) (mem_look e), ret⟩
theorem lgAt_ls {H : Hp} {L : Addr} {p : Pr} {f : Str → Int} (hL : Rd H L (.dK (lsKv p f))) : LgAt H L (fun x => if x ∈ pNames p then f x else 99) := by
  refine ⟨_, hL, fun x => ?_⟩
  by_cases hx : x ∈ pNames p
  · dsimp only
    rw [lsKv_look hx, if_pos hx]; rfl
  · dsimp only
    rw [valV_out, if_neg hx]
    · rfl
    · intro q hq e
      unfold lsKv at hq
      obtain ⟨r, hr, rfl⟩ := List.mem_map.mp hq
      exact hx (List.mem_map.mpr ⟨r, hr, Sum.inr.inj e⟩)
theorem lsKv_nd {p : Pr} {f : Str → Int} (h : (pNames p).Nodup) : ((lsKv p f).map (·.1)).Nodup := by
  unfold lsKv
  rw [List.map_map]
  have : (p.map ((fun q => q.1) ∘ fun q => ((Sum.inr q.1 : Key), V.int (f q.1)))) = (pNames p).map Sum.inr := by unfold pNames; rw [List.map_map]; rfl
  rw [this]
  exact List.Pairwise.map _ (fun a b hab z => hab (Sum.inr.inj z)) h
/-! ### the menus of names -/
def mB0 : List Str := ["main", "a", "b", "c", "d", "e"]
def mB1 : List Str := ["main", "zz", "mainmain", "aa", "q", "abcdefgh"]
def mB2 : List Str := ["main", "one", "loop", "maybe", "call", "a"]
def menusB : List (List Str) := [mB0, mB1, mB2]
theorem menusB_ok : ∀ ns ∈ menusB, ((∀ x ∈ ns, 1 ≤ x.cps.size ∧ x.cps.size ≤ 8 ∧ ∀ c ∈ x.cps.toList, 97 ≤ c ∧ c ≤ 122) ∧ ns.Nodup ∧ ns.head? = some ("main" : Str) ∧ ns.length = 6) := by decide +kernel
theorem ordB_of {ns : List Str} {k : Nat} (h : ns ∈ menusB) (h1 : 1 ≤ k) : Ord (ns.take k) := by
  obtain ⟨a1, a2, a3, a4⟩ := menusB_ok ns h
  refine ⟨fun x hx => a1 x (List.mem_of_mem_take hx), (List.take_sublist k ns).nodup a2, ?_, by rw [List.length_take]; omega⟩
  obtain ⟨k', rfl⟩ : ∃ k', k = k' + 1 := ⟨k - 1, by omega⟩
  cases ns with
  | nil => simp at a4
  | cons x r =>
    simp only [List.head?_cons, Option.some.injEq] at a3
    simp [a3]
/-! ### bodies made optional -/
def fixP (g : Str → Int) (S : List Str) (p : Pr) : Pr := p.map fun q => if q.1 ∈ S ∧ 12 < g q.1 then (q.1, [.may q.2]) else q
theorem fixP_names (g : Str → Int) (S : List Str) (p : Pr) : pNames (fixP g S p) = pNames p := by
  unfold fixP pNames
  rw [List.map_map]
  refine List.map_congr_left fun q _ => ?_
  show (if q.1 ∈ S ∧ 12 < g q.1 then (q.1, [FA.It.may q.2]) else q).1 = q.1
  split <;> rfl
theorem fixP_nil (g : Str → Int) (p : Pr) : fixP g [] p = p := by
  unfold fixP
  conv => rhs; rw [← List.map_id p]
  refine List.map_congr_left fun q _ => ?_
  simp
theorem fixP_look {g : Str → Int} {S : List Str} {p : Pr} {x : Str} {l : Bd} (nd : (pNames p).Nodup) (h : p.lookup x = some l) : (fixP g S p).lookup x = some (if x ∈ S ∧ 12 < g x then [.may l] else l) := by
  refine look_nd (by rw [fixP_names]; exact nd) ?_
  unfold fixP
  refine List.mem_map.mpr ⟨(x, l), mem_look h, ?_⟩
  dsimp only
  split <;> rfl
theorem fixP_step {g : Str → Int} {S : List Str} {p : Pr} {x : Str} {l : Bd} (nd : (pNames p).Nodup) (h : p.lookup x = some l) (hx : x ∉ S) (hg : 12 < g x) : (fixP g S p).map (fun q => if q.1 = x then (q.1, [FA.It.may l]) else q) = fixP g (S ++ [x]) p := by
  unfold fixP
  rw [List.map_map]
  refine List.map_congr_left fun q hq => ?_
  show (if (if q.1 ∈ S ∧ 12 < g q.1 then (q.1, [FA.It.may q.2]) else q).1 = x then ((if q.1 ∈ S ∧ 12 < g q.1 then (q.1, [FA.It.may q.2]) else q).1, [FA.It.may l]) else (if q.1 ∈ S ∧ 12 < g q.1 then (q.1, [FA.It.may q.2]) else q)) = if q.1 ∈ S ++ [x] ∧ 12 < g q.1 then (q.1, [FA.It.may q.2]) else q
  have e1 : (if q.1 ∈ S ∧ 12 < g q.1 then (q.1, [FA.It.may q.2]) else q).1 = q.1 := by split <;> rfl
  rw [e1]
  by_cases c : q.1 = x
  · have := look_nd nd hq
    rw [c, h] at this
    cases this
    rw [if_pos c, if_pos ⟨by rw [c]; simp, by rw [c]; exact hg⟩]
  · rw [if_neg c]
    have : q.1 ∈ S ++ [x] ↔ q.1 ∈ S := by simp [c]
    simp only [this]
theorem fixP_same {g : Str → Int} {S : List Str} {p : Pr} {x : Str} (hg : ¬ 12 < g x) : fixP g S p = fixP g (S ++ [x]) p := by
  unfold fixP
  refine List.map_congr_left fun q hq => ?_
  by_cases c : q.1 = x
  · rw [c, if_neg (fun z => hg z.2), if_neg (fun z => hg z.2)]
  · have : q.1 ∈ S ++ [x] ↔ q.1 ∈ S := by simp [c]
    simp only [this]
theorem PrKv.put {H : Hp} {x : Str} {b : Addr} {l : Bd} (hb : BdAt H b l) : ∀ {kvs : List (Key × V)} {p : Pr}, PrKv H kvs p → x ∈ pNames p → PrKv H (putK kvs (.inr x) (.ref b)) (p.map fun q => if q.1 = x then (q.1, l) else q) := by
  have key : ∀ {kvs : List (Key × V)} {p : Pr}, PrKv H kvs p → PrKv H (kvs.map fun kv => if kv.1 = .inr x then (kv.1, V.ref b) else kv) (p.map fun q => if q.1 = x then (q.1, l) else q) := by
    intro kvs p h
    induction h with
    | nil => exact .nil
    | @cons y b' l' kvs p h1 h2 ih =>
      simp only [List.map_cons]
      by_cases c : y = x
      · subst c
        rw [if_pos rfl, if_pos rfl]
        exact .cons hb ih
      · rw [if_neg (fun z => c (Sum.inr.inj z)), if_neg c]
        exact .cons h1 ih
  intro kvs p h hx
  unfold putK
  rw [if_pos]
  · exact key h
  · rw [List.any_eq_true]
    have hk := h.keys
    have : (Sum.inr x : Key) ∈ kvs.map (·.1) := by
      rw [hk]
      obtain ⟨q, hq, e⟩ := List.mem_map.mp hx
      exact List.mem_map.mpr ⟨q, hq, by rw [e]⟩
    obtain ⟨kv, h1, h2⟩ := List.mem_map.mp this
    exact ⟨kv, h1, decide_eq_true h2⟩
theorem PrKv.snoc {H : Hp} {x : Str} {b : Addr} {l : Bd} (hb : BdAt H b l) : ∀ {kvs : List (Key × V)} {p : Pr}, PrKv H kvs p → PrKv H (kvs ++ [(.inr x, .ref b)]) (p ++ [(x, l)]) := by
  intro kvs p h
  induction h with
  | nil => exact .cons hb .nil
  | cons h1 _ ih => exact .cons h1 ih
/-- a body as it was drawn -/
structure BOk (ord : List Str) (l : Bd) : Prop where
  ok : okB ord l
  c : nCB l ≤ 5
  i : nIB l ≤ 11
  d : dB l ≤ 3
theorem bodyOf_look {p : Pr} {x : Str} {l : Bd} (h : p.lookup x = some l) : bodyOf p x = l := by unfold bodyOf; rw [h]; rfl
theorem valid_fix {p : Pr} {ord : List Str} (ho : Ord ord) (hn : pNames p = ord) (hb : ∀ x l, p.lookup x = some l → BOk ord l) : Valid (fixP (grd p (p.length + 1)) ord p) := by
  have nd : (pNames p).Nodup := by rw [hn]; exact ho.nd
  have pl : p.length = ord.length := by rw [← hn]; unfold pNames; rw [List.length_map]
  have hfl : (fixP (grd p (p.length + 1)) ord p).length = p.length := by unfold fixP; rw [List.length_map]
  have key : ∀ x ∈ pNames p, ∃ l, p.lookup x = some l ∧ BOk ord l ∧ (12 < grd p (p.length + 1) x → l ≠ []) := fun x hx => by
    obtain ⟨l, e⟩ := lookup_mem hx
    refine ⟨l, e, hb x l e, fun h => ?_⟩
    rintro rfl
    simp only [grd, bodyOf_look e, capB, capS] at h
    omega
  have okp : ∀ x ∈ pNames (fixP (grd p (p.length + 1)) ord p), okB (pNames (fixP (grd p (p.length + 1)) ord p)) (bodyOf (fixP (grd p (p.length + 1)) ord p) x) := fun x hx => by
    rw [fixP_names] at hx ⊢
    obtain ⟨l, e, b, ne⟩ := key x hx
    rw [bodyOf_look (fixP_look nd e), hn]
    split
    · rename_i h
      simp only [okB, okI]
      exact ⟨⟨ne h.2, b.ok⟩, trivial⟩
    · exact b.ok
  refine ⟨by rw [hfl, pl]; exact ho.len, by rw [fixP_names, hn]; exact ho.main, fun x hx => ho.nm x (by rw [fixP_names, hn] at hx; exact hx), by rw [fixP_names]; exact nd, fun x l e => ?_, fun x hx => ?_⟩
  · have hx : x ∈ pNames p := by
      have h2 : x ∈ pNames (fixP (grd p (p.length + 1)) ord p) := List.mem_map.mpr ⟨(x, l), mem_look e, rfl⟩
      rw [fixP_names] at h2
      exact h2
    obtain ⟨l0, e0, b, ne⟩ := key x hx
    have h1 := okp x (by rw [fixP_names]; exact hx)
    rw [bodyOf_look e] at h1
    refine ⟨h1, ?_⟩
    rw [fixP_look nd e0] at e
    have b1 := b.c
    have b2 := b.i
    have b3 := b.d
    split at e
    · cases e
      simp only [nCB, nC, nIB, nI, dB, dI]
      omega
    · cases e
      omega
  · rw [fixP_names] at hx
    refine rnd_enough (M := p.length + 1) okp (by rw [fixP_names]; exact hx) ?_
    obtain ⟨l, e, b, ne⟩ := key x hx
    by_cases c : 12 < grd p (p.length + 1) x
    · have : bodyOf (fixP (grd p (p.length + 1)) ord p) x = [.may l] := by
        rw [bodyOf_look (fixP_look nd e), if_pos ⟨by rw [← hn]; exact hx, c⟩]
      simp only [rnd, this, costB, cost]
      omega
    · refine Int.le_trans (rnd_grd (p := p) (fun y hy => ?_) (p.length + 1) x hx) (by omega)
      obtain ⟨l', e', b', ne'⟩ := key y hy
      rw [bodyOf_look (fixP_look nd e'), bodyOf_look e', hn]
      by_cases c' : y ∈ ord ∧ 12 < grd p (p.length + 1) y
      · rw [if_pos c']
        exact .inr fun f => by simp only [costB, cost]; rfl
      · rw [if_neg c']
        exact .inl ⟨rfl, b'.ok⟩
/-! ### rows of a name and a number, of a name and a body -/
theorem rows_int {H : Hp} {f : Str → Int} : ∀ {ys : List V} {p : Pr}, ys.length = p.length → (∀ (j : Nat) y, ys[j]? = some y → ∃ x t, (pNames p)[j]? = some x ∧ y = .ref t ∧ H t = some (.tup [.str x, .int (f x)])) →
    ∃ ps : List Addr, ys = ps.map V.ref ∧ Paired (fun t kv => H t = some (.tup [kV kv.1, kv.2])) ps (lsKv p f)
  | [], [], _, _ => ⟨[], rfl, .nil⟩
  | [], _ :: _, h, _ => by simp at h
  | _ :: _, [], h, _ => by simp at h
  | y :: ys, (x, l) :: p, hl, h => by
    obtain ⟨x', t, e1, e2, e4⟩ := h 0 y rfl
    cases e1
    obtain ⟨ps, g1, g2⟩ := rows_int (ys := ys) (p := p) (by simpa using hl) fun j y e => by
      obtain ⟨x, t, a1, a2⟩ := h (j + 1) y (by simpa using e)
      exact ⟨x, t, by simpa [pNames] using a1, a2⟩
    exact ⟨t :: ps, by rw [e2, g1]; rfl, .cons e4 g2⟩
theorem rows_body {H : Hp} {G : Hp} {p : Pr} : ∀ {ys : List V} {zs : List Str}, ys.length = zs.length → (∀ (j : Nat) y, ys[j]? = some y → ∃ x t b, zs[j]? = some x ∧ y = .ref t ∧ H t = some (.tup [.str x, .ref b]) ∧ BdAt G b (bodyOf p x)) →
    ∃ (ps : List Addr) (kvs : List (Key × V)), ys = ps.map V.ref ∧ Paired (fun t kv => H t = some (.tup [kV kv.1, kv.2])) ps kvs ∧ PrKv G kvs (zs.map fun x => (x, bodyOf p x))
  | [], [], _, _ => ⟨[], [], rfl, .nil, .nil⟩
  | [], _ :: _, h, _ => by simp at h
  | _ :: _, [], h, _ => by simp at h
  | y :: ys, x :: zs, hl, h => by
    obtain ⟨x', t, b, e1, e2, e4, e5⟩ := h 0 y rfl
    cases e1
    obtain ⟨ps, kvs, g1, g2, g3⟩ := rows_body (ys := ys) (zs := zs) (by simpa using hl) fun j y e => by
      obtain ⟨x, t, b, a1, a2⟩ := h (j + 1) y (by simpa using e)
      exact ⟨x, t, b, by simpa using a1, a2⟩
    exact ⟨t :: ps, (.inr x, .ref b) :: kvs, by rw [e2, g1]; rfl, .cons e4 g2, .cons e5 g3⟩
theorem map_bodies {p : Pr} (nd : (pNames p).Nodup) : (pNames p).map (fun x => (x, bodyOf p x)) = p := by
  unfold pNames
  rw [List.map_map]
  conv => rhs; rw [← List.map_id p]
  refine List.map_congr_left fun q hq => ?_
  show (q.1, bodyOf p q.1) = q
  rw [bodyOf_look (look_nd nd (show (q.1, q.2) ∈ p from hq))]
theorem lgAt_nil {H : Hp} {L : Addr} (h : H L = some (.dK [])) : LgAt H L (fun _ => 99) := ⟨[], .inl h, fun _ => rfl⟩
end K13


set_option Elab.async false
set_option linter.all false
set_option maxRecDepth 100000
set_option maxHeartbeats 8000000
namespace K13
open PySem PySem.Spec PyProof.Rows L2 FA
variable {P : Program} {w : World} {K : PySem.W.Frag} {mg : Str → Option Value} {base : Heap}
def spLProgram : Sp := fun vs H Q _ => ∃ (a : Addr) (most cl : Int) (n : Nat), vs = [.ref a, .int most, .int cl, .bl true] ∧ 1 ≤ most ∧ most ≤ 6 ∧ 1 ≤ cl ∧ cl ≤ 5 ∧ WellAt H a n ∧ n + 10000 ≤ 2 ^ 80 ∧
  ∀ d kvs p H', Sm [a] H H' → WellAt H' a (n + 10000) → H d = none → H' d = some (.dK kvs) → PrKv (wo [a] H') kvs p → Valid p → Q (.ref d) H'
theorem okLProgram (T : Txt K mg) : FnOk P w K mg base CX0 8 T.aLProgram T.fLProgram ["spring", "most", "calls", "can_recur"] spLProgram := by
  have GLDraw : FnOk P w K mg base CX0 1 T.aLDraw T.fLDraw ["spring", "many"] spDraw := okDraw T
  have GLItems : FnOk P w K mg base CX0 7 T.aLItems T.fLItems ["spring", "some", "calls", "deep"] (spLItems 3) := okLItems T 3
  have GLCalls : FnOk P w K mg base CX0 4 T.aLCalls T.fLCalls ["body"] (spLCalls 3) := okLCalls T 3
  have GLCount : FnOk P w K mg base CX0 4 T.aLCount T.fLCount ["body"] (spLCount 3) := okLCount T 3
  have GLCost : FnOk P w K mg base CX0 4 T.aLCost T.fLCost ["costs", "body"] (spLCost 3) := okLCost T 3
  refine T.FLProgram.ok scLProgram (fun vs H Q E h => ?_) (fun cdv A outer s H vs Q E hr h => ?_)
  · obtain ⟨a, most, cl, n, rfl, _⟩ := h
    rfl
  obtain ⟨a, most, cl, n, rfl, hm1, hm6, hcl1, hcl5, hw, hn, q⟩ := h
  have hu := hu_of hr
  obtain ⟨ow, how⟩ := hw.some
  have kept0 : ∀ b ∈ [a], ∃ o, H b = some o := fun b hb => by rw [List.mem_singleton.mp hb]; exact hw.some
  have hcw : cW 3 = 688 := by decide
  -- 7, 8: the keys in order or turned, the dict
  refine split_at 7 (fun D σ H' => D.rt = Q ∧ ∃ v5 v6 v7 v8 v10 v11 v12 na F ord p kvs m, σ = [some (.ref a), some (.int most), some (.int cl), some (.bl true), some (.ref na), v5, v6, v7, v8, some (.ref F), v10, v11, v12] ∧ Sm [a] H H' ∧ WellAt H' a m ∧ m + 1 ≤ n + 10000 ∧
    H' na = some (.lst (ord.map V.str)) ∧ H' F = some (.dK kvs) ∧ PrKv (wo [a, F] H') kvs p ∧ pNames p = ord ∧ Valid p ∧ na ≠ a ∧ F ≠ a) ?_ ?_
  · skip
    refine ⟨_, (pss_cons (ps_set (i := 8) scLProgram.nd rfl (by first | exact Or.inl rfl | exact Or.inr rfl) (pe_ix ix_list (pe_lst (pa_cons (pv 4) (pa_cons (pe_revL (pv 4)) pa_nil))) (pe_call GLDraw (hr.mono (by omega)) rfl T.gLDraw T.FLDraw.kp T.bLDraw .nil pass0 (pa_cons (pv 0) (pa_cons pe_int pa_nil))) (fun _ _ => rfl)))
      (pss_one (ps_ret (pe_callTy (call_dictP rfl) (by rfl) T.n_dict (by decide +kernel) (pa_cons (pe_lc (own := [("name", 7)]) (g := gName 7) (tt := tYes) rfl scLProgram.nd (pi_list (pv 8)) (blkOk_by (N := ["spring", "most", "calls", "can_recur", "names", "costs", "turn", "name", "keys", "found", "place", "some", "body"]) (sc := defScope sLProgram) (by decide +kernel)) (fun _ _ _ _ _ => (pg_name (i := 7) scLProgram.nd rfl (by first | exact Or.inl rfl | exact Or.inr rfl))) (fun _ _ _ _ _ => pts_nil) (fun _ _ _ _ _ => (pe_tup (pa_cons (pv 7) (pa_cons (pe_dget hu (pv 9) (pv 7) (fun _ _ => rfl)) pa_nil))))) pa_nil))))), ?_⟩
    rintro D σ H1 ⟨hD, v5, v6, v7, v8, v10, v11, v12, na, F, ord, p, kvs, m, rfl, sm1, hw1, hm, hna, hF, hk, hpn, va, hnaa, hFa⟩
    obtain ⟨nx, rt, bk, ct⟩ := D
    cases hD
    have hlen := va.len
    have hol : ord.length = p.length := by rw [← hpn]; unfold pNames; rw [List.length_map]
    refine ⟨_, rfl, _, rfl, _, _, rfl, SqL.of hna, fun pr hpr => ?_⟩
    have s2 := same_upd hpr (.lst (ord.map V.str).reverse)
    have hr2 : (upd H1 pr (.lst (ord.map V.str).reverse)) pr = some (.lst (ord.map V.str).reverse) := upd_same
    generalize upd H1 pr (.lst (ord.map V.str).reverse) = H2 at s2 hr2 ⊢
    refine ⟨Nat.le_of_lt (small1000 (by simp)), fun po hpo => ?_⟩
    have s3 := same_upd hpo (.lst [V.ref na, V.ref pr])
    have ho3 : (upd H2 po (.lst [V.ref na, V.ref pr])) po = some (.lst [V.ref na, V.ref pr]) := upd_same
    generalize upd H2 po (.lst [V.ref na, V.ref pr]) = H3 at s3 ho3 ⊢
    have s13 := s2.trans s3
    refine ⟨_, rfl, a, 2, m, rfl, by decide, by decide, hw1.keep fun o e => s13 _ _ e, by omega, fun r H4 r0 r1 sm4 hw4 => ?_⟩
    have nea : ∀ x, H1 x = none → x ≠ a := fun x hx => by
      rintro rfl
      obtain ⟨o, e⟩ := hw1.some
      rw [e] at hx; cases hx
    have hpra := nea pr hpr
    have hpoa := nea po (s2.free hpo)
    have hna4 : H4 na = some (.lst (ord.map V.str)) := sm4 _ _ (by simp [hnaa]) (s13 _ _ hna)
    have hpr4 : H4 pr = some (.lst (ord.map V.str).reverse) := sm4 _ _ (by simp [hpra]) (s3 _ _ hr2)
    have hpo4 : H4 po = some (.lst [V.ref na, V.ref pr]) := sm4 _ _ (by simp [hpoa]) ho3
    have hF4 : H4 F = some (.dK kvs) := sm4 _ _ (by simp [hFa]) (s13 _ _ hF)
    have sm14 : Sm [a] H1 H4 := (Sm.of_same s13).trans sm4
    have hk4 : PrKv (wo [a, F] H4) kvs p := hk.keep (Kp.of (sm14.more (W' := [a, F]) (by simp)).same)
    obtain ⟨kx, zs, hkx, hz4, hzp⟩ : ∃ (kx : Addr) (zs : List Str), atI [V.ref na, V.ref pr] r = some (.ref kx) ∧ H4 kx = some (.lst (zs.map V.str)) ∧ zs.Perm ord := by
      rcases (by omega : r = 0 ∨ r = 1) with rfl | rfl
      · exact ⟨na, ord, rfl, hna4, List.Perm.refl _⟩
      · exact ⟨pr, ord.reverse, rfl, by rw [hpr4, List.map_reverse], ord.reverse_perm⟩
    refine ⟨po, _, _, .ref kx, rfl, rfl, SqL.of hpo4, hkx, ?_⟩
    have zl : zs.length = p.length := by rw [hzp.length_eq, hol]
    have pa4 : PrAt H4 F p := ⟨kvs, .inl hF4, hk4.keep kp_off⟩
    refine ⟨_, rfl, kx, rfl, ⟨_, SqL.of hz4⟩, fun D hD => lcS (n := (zs.map V.str).length) hD (small1000 (by rw [List.length_map]; omega)) _ (fun j v H => ∃ x t b, zs[j]? = some x ∧ v = .ref t ∧ H t = some (.tup [.str x, .ref b]) ∧ BdAt (wo [a, F] H4) b (bodyOf p x))
      (go_l (SqL.of hz4)) (stop_l (SqL.of hz4)) (yld_l (SqL.of hz4)) (fun j v A B ht ⟨x, t, b, a1, a2, a3, a4⟩ => ⟨x, t, b, a1, a2, ht _ _ a3, a4⟩) ?_ ?_⟩
    · intro j x H5 R hj hx s5 kk
      obtain ⟨y, hy, rfl⟩ := str_get hx
      have hyp : y ∈ pNames p := by rw [hpn]; exact hzp.mem_iff.mp (List.mem_of_getElem? hy)
      obtain ⟨l0, e0⟩ := lookup_mem hyp
      rcases hk4.look (x := y) with ⟨z1, _⟩ | ⟨l, b, z1, z2, z3⟩
      · rw [e0] at z1; cases z1
      refine ⟨rfl, _, rfl, _, rfl, _, rfl, F, _, rfl, .inl ⟨kvs, .inr y, .inl (s5 _ _ hF4), rfl, z2.symm⟩, Nat.le_of_lt (small1000 (by simp)), fun t ht => ?_⟩
      exact kk _ _ (same_upd ht _) ⟨y, t, b, hy, rfl, upd_same, by rw [bodyOf_look z1]; exact z3⟩
    · intro H5 ys s5 hD5 hl5 hg5
      rw [List.length_map] at hl5
      obtain ⟨ps, kvs2, g1, g2, g3⟩ := rows_body (G := wo [a, F] H4) hl5 hg5
      rw [g1] at hD5
      refine ⟨D, ps, kvs2, rfl, SqL.of hD5, Paired.weak (fun t kv h => SqT.of h) g2, fun d hd => ?_⟩
      have pp : (zs.map fun x => (x, bodyOf p x)).Perm p := by
        have := hzp.map fun x => (x, bodyOf p x)
        rw [← hpn, map_bodies va.nd] at this
        exact this
      have va2 := va.perm pp
      rw [mergeK_nd kvs2 [] (keys_nd g3 va2.nd), List.nil_append]
      have s6 := same_upd hd (.dK kvs2)
      have sm06 : Sm [a] H (upd H5 d (.dK kvs2)) := (sm1.trans sm14).trans (Sm.of_same (s5.trans s6))
      have hw6 : WellAt (upd H5 d (.dK kvs2)) a (m + 1) := hw4.keep fun o e => s6 _ _ (s5 _ _ e)
      have k4 : ∀ b ∈ [a], ∃ o, H5 b = some o := fun b hb => by
        rw [List.mem_singleton.mp hb]
        obtain ⟨o, e⟩ := hw4.some
        exact ⟨o, s5 _ _ e⟩
      refine q d kvs2 _ _ sm06 (hw6.mono hm) (none_back ((sm1.trans sm14).trans (Sm.of_same s5)) k4 hd) upd_same (g3.keep ?_) va2
      have key : ∀ x o, wo [a, F] H4 x = some o → wo [a] (upd H5 d (.dK kvs2)) x = some o := fun x o e => by
        rw [wo_some] at e ⊢
        simp only [List.mem_cons, List.not_mem_nil, or_false, not_or] at e ⊢
        exact ⟨e.1.1, s6 _ _ (s5 _ _ e.2)⟩
      exact ⟨fun x xs e => key _ _ e, fun x xs e => key _ _ e⟩
  intro u7 hu7 ru7
  -- 6: what cannot return is made optional
  refine split_at 6 (fun D σ H' => D.rt = Q ∧ ∃ v6 v7 v8 v10 v11 v12 na F C ord p kvs m, σ = [some (.ref a), some (.int most), some (.int cl), some (.bl true), some (.ref na), some (.ref C), v6, v7, v8, some (.ref F), v10, v11, v12] ∧ Sm [a] H H' ∧ WellAt H' a m ∧ m + 1 ≤ n + 10000 ∧
    H' na = some (.lst (ord.map V.str)) ∧ H' F = some (.dK kvs) ∧ PrKv (wo [a, F] H') kvs p ∧ pNames p = ord ∧ Ord ord ∧ (∀ x l, p.lookup x = some l → BOk ord l) ∧ H' C = some (.dK (lsKv p (grd p (p.length + 1)))) ∧ na ≠ a ∧ F ≠ a ∧ C ≠ F ∧ na ≠ F ∧ H F = none) ?_ ?_
  · skip
    refine ⟨_, (pss_cons (ps_for PassesOwn.never rfl (pi_list (pv 4)) (pg_name (i := 7) scLProgram.nd rfl (by first | exact Or.inl rfl | exact Or.inr rfl))
        (pss_one (ps_if (pt_cmpR op_gt (pe_dget hu (pv 5) (pv 7) (fun _ _ => rfl)) pe_int (nomark _))
          (pss_one (ps_dput hu (pv 9) (pv 7) (pe_lst (pa_cons (pe_tup (pa_cons pe_str (pa_cons (pe_dget hu (pv 9) (pv 7) (fun _ _ => rfl)) pa_nil))) pa_nil)) rfl)) pss_nil)))
      hu7), ?_⟩
    rintro D σ H1 ⟨hD, v6, v7, v8, v10, v11, v12, na, F, C, ord, p, kvs, m, rfl, sm1, hw1, hm, hna, hF, hk, hpn, ho, hbok, hC, hnaa, hFa, hCF, hnF, hFn⟩
    have nd : (pNames p).Nodup := by rw [hpn]; exact ho.nd
    have hol : ord.length = p.length := by rw [← hpn]; unfold pNames; rw [List.length_map]
    refine ⟨_, rfl, na, rfl, ⟨_, SqL.of hna⟩, for_list (K := K) (a := na) (xs := ord.map V.str) (fun i σ H' => ∃ v7 kvs', σ = [some (.ref a), some (.int most), some (.int cl), some (.bl true), some (.ref na), some (.ref C), v6, v7, v8, some (.ref F), v10, v11, v12] ∧ Sm [a, F] H1 H' ∧ H' F = some (.dK kvs') ∧ PrKv (wo [a, F] H') kvs' (fixP (grd p (p.length + 1)) (ord.take i) p) ∧ Sm [a] H H' ∧ WellAt H' a m) ⟨v7, kvs, rfl, Sm.refl _ _, hF, by rw [List.take_zero, fixP_nil]; exact hk, sm1, hw1⟩ ?_ ?_ ?_⟩
    · rintro i σ H' _ ⟨_, _, _, sm, _⟩
      exact SqL.of (sm _ _ (by simp [hnaa, hnF]) hna)
    · rintro i y σ H2 hi ⟨v7, kvs', rfl, sm2, hF2, hk2, sm02, hw2⟩
      obtain ⟨x, hx, rfl⟩ := str_get hi
      have hxo : x ∈ ord := List.mem_of_getElem? hx
      have hxp : x ∈ pNames p := by rw [hpn]; exact hxo
      have hxt : x ∉ ord.take i := fun z => by
        obtain ⟨j, hj, ej⟩ := List.mem_take_iff_getElem.mp z
        have h1 := List.pairwise_iff_getElem.mp (List.nodup_iff_pairwise_ne.mp ho.nd) j i (by omega) (List.getElem?_eq_some_iff.mp hx).1 (by omega)
        exact h1 (by rw [ej, (List.getElem?_eq_some_iff.mp hx).2])
      have etk : ord.take (i + 1) = ord.take i ++ [x] := by rw [List.take_add_one, hx]; rfl
      have hC2 : H2 C = some (.dK (lsKv p (grd p (p.length + 1)))) := sm2 _ _ (by
        simp only [List.mem_cons, List.not_mem_nil, or_false, not_or]
        refine ⟨?_, hCF⟩
        rintro rfl
        obtain ⟨x, y, z, e, _⟩ := hw1
        rw [hC] at e; cases e) hC
      refine ⟨_, rfl, _, rfl, C, _, rfl, .inl ⟨_, .inr x, .inl hC2, rfl, (lsKv_look hxp).symm⟩, _, _, rfl, rfl, _, rfl, ite2 (fun h => ?_) (fun h => ?_)⟩
      · have h := of_decide_eq_true h
        obtain ⟨l0, e0⟩ := lookup_mem hxp
        have e1 := fixP_look (g := grd p (p.length + 1)) (S := ord.take i) nd e0
        rw [if_neg (fun z => hxt z.1)] at e1
        rcases hk2.look (x := x) with ⟨z1, _⟩ | ⟨l, b, z1, z2, z3⟩
        · rw [e1] at z1; cases z1
        rw [e1] at z1
        cases z1
        refine ⟨_, rfl, _, rfl, F, _, rfl, .inl ⟨kvs', .inr x, .inl hF2, rfl, z2.symm⟩, Nat.le_of_lt (small1000 (by simp)), fun t ht => ?_⟩
        have s3 := same_upd ht (.tup [V.str "maybe", V.ref b])
        have ht3 : (upd H2 t (.tup [V.str "maybe", V.ref b])) t = some (.tup [V.str "maybe", V.ref b]) := upd_same
        generalize upd H2 t (.tup [V.str "maybe", V.ref b]) = H3 at s3 ht3 ⊢
        refine ⟨Nat.le_of_lt (small1000 (by simp)), fun nb hnb => ?_⟩
        have s4 := same_upd hnb (.lst [V.ref t])
        have hb4 : (upd H3 nb (.lst [V.ref t])) nb = some (.lst [V.ref t]) := upd_same
        generalize upd H3 nb (.lst [V.ref t]) = H4 at s4 hb4 ⊢
        have s24 := s3.trans s4
        have hF4 := s24 _ _ hF2
        have ht4 := s4 _ _ ht3
        have hkl := hk2.length
        have hfl : (fixP (grd p (p.length + 1)) (ord.take i) p).length = p.length := by unfold fixP; rw [List.length_map]
        have hol6 := ho.len
        refine ⟨_, rfl, _, rfl, F, _, rfl, DPut.k (k := .inr x) hF4 (small1000 (by omega)), ?_⟩
        have nea : ∀ x, H2 x = none → x ≠ a := fun x hx => by
          rintro rfl
          obtain ⟨o, e⟩ := hw2.some
          rw [e] at hx; cases hx
        have neF : ∀ x, H2 x = none → x ≠ F := fun x hx => by
          rintro rfl
          rw [hF2] at hx; cases hx
        have key : ∀ y o, wo [a, F] H2 y = some o → wo [a, F] (upd H4 F (.dK (putK kvs' (.inr x) (.ref nb)))) y = some o := fun y o e => by
          rw [wo_some] at e ⊢
          refine ⟨e.1, ?_⟩
          simp only [List.mem_cons, List.not_mem_nil, or_false, not_or] at e
          rw [upd_ne e.1.2]
          exact s24 _ _ e.2
        have kp : Kp (wo [a, F] H2) (wo [a, F] (upd H4 F (.dK (putK kvs' (.inr x) (.ref nb))))) := ⟨fun x xs e => key _ _ e, fun x xs e => key _ _ e⟩
        have wt : (wo [a, F] (upd H4 F (.dK (putK kvs' (.inr x) (.ref nb))))) t = some (.tup [V.str "maybe", V.ref b]) := by
          rw [wo_some]
          refine ⟨by simp [nea t ht, neF t ht], ?_⟩
          rw [upd_ne (neF t ht)]
          exact ht4
        have hnb2 : H2 nb = none := s3.free hnb
        have wb : (wo [a, F] (upd H4 F (.dK (putK kvs' (.inr x) (.ref nb))))) nb = some (.lst [V.ref t]) := by
          rw [wo_some]
          refine ⟨by simp [nea nb hnb2, neF nb hnb2], ?_⟩
          rw [upd_ne (neF nb hnb2)]
          exact hb4
        obtain ⟨bv, b1, b2⟩ := z3.keep kp
        have hbd : BdAt (wo [a, F] (upd H4 F (.dK (putK kvs' (.inr x) (.ref nb))))) nb [.may l0] := ⟨_, wb, .cons (.may wt b1 b2) .nil⟩
        have hput := PrKv.put hbd (hk2.keep kp) (by rw [fixP_names]; exact hxp)
        rw [fixP_step nd e0 hxt h, ← etk] at hput
        refine ⟨_, _, rfl, ?_, upd_same, hput, ?_, ?_⟩
        · intro y o hy e
          rw [upd_ne (fun z => hy (by simp [z]))]
          exact s24 _ _ (sm2 _ _ hy e)
        · intro y o hy e
          rw [upd_ne (ne_of_none e hFn)]
          exact s24 _ _ (sm02 _ _ hy e)
        · exact hw2.keep fun o e => by rw [upd_ne hFa.symm]; exact s24 _ _ e
      · have h : ¬ 12 < grd p (p.length + 1) x := fun z => h (decide_eq_true z)
        exact ⟨_, kvs', rfl, sm2, hF2, by rw [etk, ← fixP_same h]; exact hk2, sm02, hw2⟩
    · rintro σ H2 ⟨v7, kvs', rfl, sm2, hF2, hk2, sm02, hw2⟩
      rw [List.take_of_length_le (by rw [List.length_map]; exact Nat.le_refl _)] at hk2
      exact ru7 _ _ _ ⟨hD, _, _, _, _, _, _, _, na, F, ord, _, kvs', m, rfl, sm02, hw2, hm, sm2 _ _ (by simp [hnaa, hnF]) hna, hF2, hk2, by rw [fixP_names]; exact hpn, valid_fix ho hpn hbok, hnaa, hFa⟩
  intro u6 hu6 ru6
  -- 4, 5: the costs
  refine split_at 4 (fun D σ H' => D.rt = Q ∧ ∃ v5 v6 v7 v8 v10 v11 v12 na F ord p kvs m, σ = [some (.ref a), some (.int most), some (.int cl), some (.bl true), some (.ref na), v5, v6, v7, v8, some (.ref F), v10, v11, v12] ∧ Sm [a] H H' ∧ WellAt H' a m ∧ m + 1 ≤ n + 10000 ∧
    H' na = some (.lst (ord.map V.str)) ∧ H' F = some (.dK kvs) ∧ PrKv (wo [a, F] H') kvs p ∧ pNames p = ord ∧ Ord ord ∧ (∀ x l, p.lookup x = some l → BOk ord l) ∧ na ≠ a ∧ F ≠ a ∧ na ≠ F ∧ H F = none) ?_ ?_
  · skip
    refine ⟨_, (pss_cons (ps_set (i := 5) scLProgram.nd rfl (by first | exact Or.inl rfl | exact Or.inr rfl) pe_dnewK)
      (pss_cons (ps_for PassesOwn.never rfl (pi_range1 (by rfl) T.n_range (pa_cons (pe_op op_add (pe_callB call_len_seq (by rfl) T.n_len PySem.boot_len (pa_cons (pv 4) pa_nil)) pe_int) pa_nil)) (pg_name (i := 6) scLProgram.nd rfl (by first | exact Or.inl rfl | exact Or.inr rfl))
        (pss_one (ps_set (i := 5) scLProgram.nd rfl (by first | exact Or.inl rfl | exact Or.inr rfl) (pe_callTy (call_dictP rfl) (by rfl) T.n_dict (by decide +kernel) (pa_cons (pe_lc (own := [("name", 7)]) (g := gName 7) (tt := tYes) rfl scLProgram.nd (pi_list (pv 4)) (blkOk_by (N := ["spring", "most", "calls", "can_recur", "names", "costs", "turn", "name", "keys", "found", "place", "some", "body"]) (sc := defScope sLProgram) (by decide +kernel)) (fun _ _ _ _ _ => (pg_name (i := 7) scLProgram.nd rfl (by first | exact Or.inl rfl | exact Or.inr rfl))) (fun _ _ _ _ _ => pts_nil) (fun _ _ _ _ _ => (pe_tup (pa_cons (pv 7) (pa_cons (pe_op op_add pe_int (pe_call GLCost (hr.mono (by omega)) rfl T.gLCost T.FLCost.kp T.bLCost .nil pass0 (pa_cons (pv 5) (pa_cons (pe_dget hu (pv 9) (pv 7) (fun _ _ => rfl)) pa_nil)))) pa_nil))))) pa_nil)))))
      hu6)), ?_⟩
    rintro D σ H1 ⟨hD, v5, v6, v7, v8, v10, v11, v12, na, F, ord, p, kvs, m, rfl, sm1, hw1, hm, hna, hF, hk, hpn, ho, hbok, hnaa, hFa, hnF, hFn⟩
    have nd : (pNames p).Nodup := by rw [hpn]; exact ho.nd
    have hol : ord.length = p.length := by rw [← hpn]; unfold pNames; rw [List.length_map]
    have hol6 := ho.len
    intro C0 hC0
    have s2 := same_upd hC0 (.dK [])
    have hc2 : (upd H1 C0 (.dK [])) C0 = some (.dK []) := upd_same
    generalize upd H1 C0 (.dK []) = H2 at s2 hc2 ⊢
    have hCF0 : C0 ≠ F := by
      rintro rfl
      rw [hF] at hC0; cases hC0
    refine ⟨_, rfl, _, _, rfl, .inl (SqL.of (s2 _ _ hna)), _, _, rfl, rfl, ?_⟩
    have en : (((ord.map V.str).length : Nat) : Int) + 1 = ((p.length + 1 : Nat) : Int) := by rw [List.length_map]; omega
    refine ⟨((p.length + 1 : Nat) : Int), congrArg (fun z => [V.int z]) en, by omega, by omega, ?_⟩
    have en2 : ((p.length + 1 : Nat) : Int).toNat = p.length + 1 := by omega
    rw [en2]
    refine for_range (lo := 0) (n := p.length + 1) (fun i σ H' => ∃ C v6 kvC, σ = [some (.ref a), some (.int most), some (.int cl), some (.bl true), some (.ref na), some (.ref C), v6, v7, v8, some (.ref F), v10, v11, v12] ∧ Same H1 H' ∧ C ≠ F ∧ H' C = some (.dK kvC) ∧ (i = 0 ∧ kvC = [] ∨ kvC = lsKv p (grd p i))) ⟨C0, v6, [], rfl, s2, hCF0, hc2, .inl ⟨rfl, rfl⟩⟩ ?_ ?_
    · rintro i σ H3 hi ⟨C, v6, kvC, rfl, s3, hCF, hC, hor⟩
      have lg3 : LgAt H3 C (fun x => if x ∈ pNames p then grd p i x else 99) := by
        rcases hor with ⟨rfl, rfl⟩ | rfl
        · have := lgAt_nil hC
          have e : (fun x => if x ∈ pNames p then grd p 0 x else 99) = fun _ => (99 : Int) := by funext x; split <;> rfl
          rw [e]; exact this
        · exact lgAt_ls (.inl hC)
      have pa3 : PrAt H3 F p := ⟨kvs, .inl (s3 _ _ hF), (hk.keep kp_off).keep (Kp.of s3)⟩
      have hna3 := s3 _ _ hna
      refine ⟨_, rfl, na, rfl, ⟨_, SqL.of hna3⟩, fun D2 hD2 => lcS (n := (ord.map V.str).length) hD2 (small1000 (by rw [List.length_map]; omega)) _ (fun j v H => ∃ x t, (pNames p)[j]? = some x ∧ v = .ref t ∧ H t = some (.tup [.str x, .int (grd p (i + 1) x)]))
        (go_l (SqL.of hna3)) (stop_l (SqL.of hna3)) (yld_l (SqL.of hna3)) (fun j v A B ht ⟨x, t, a1, a2, a3⟩ => ⟨x, t, a1, a2, ht _ _ a3⟩) ?_ ?_⟩
      · intro j x H4 R hj hx s4 kk
        obtain ⟨y, hy, rfl⟩ := str_get hx
        have hyp : y ∈ pNames p := by rw [hpn]; exact List.mem_of_getElem? hy
        obtain ⟨l0, e0⟩ := lookup_mem hyp
        rcases (PrAt.same s4 pa3).look (x := y) with ⟨z1, _⟩ | ⟨l, b, z1, z2, z3⟩
        · rw [e0] at z1; cases z1
        have bk := hbok y l z1
        refine ⟨rfl, _, rfl, _, rfl, _, rfl, _, rfl, F, _, rfl, z2, b, C, ord, _, l, rfl, z3, lg3.same s4, bk.ok, by have := bk.i; omega, bk.d, fun H5 s5 => ?_⟩
        refine ⟨_, _, rfl, rfl, Nat.le_of_lt (small1000 (by simp)), fun t ht => ?_⟩
        refine kk _ _ (s5.trans (same_upd ht _)) ⟨y, t, by rw [hpn]; exact hy, rfl, ?_⟩
        have ev : (1 : Int) + capB (fun x => if x ∈ pNames p then grd p i x else 99) l = grd p (i + 1) y := by
          simp only [grd, bodyOf_look z1]
          have : capB (fun x => if x ∈ pNames p then grd p i x else 99) l = capB (grd p i) l := capB_congr (ns := ord) (fun x hx => if_pos (by rw [hpn]; exact hx)) bk.ok
          rw [this]
        rw [← ev]
        exact upd_same
      · intro H4 ys s4 hD4 hl4 hg4
        rw [List.length_map, hol] at hl4
        obtain ⟨ps, g1, g2⟩ := rows_int hl4 hg4
        rw [g1] at hD4
        refine ⟨D2, ps, _, rfl, SqL.of hD4, Paired.weak (fun t kv h => SqT.of h) g2, fun C' hC' => ?_⟩
        rw [mergeK_nd (lsKv p (grd p (i + 1))) [] (lsKv_nd nd), List.nil_append]
        refine ⟨C', _, _, rfl, (s3.trans s4).trans (same_upd hC' _), ?_, upd_same, .inr rfl⟩
        rintro rfl
        rw [s4 _ _ (s3 _ _ hF)] at hC'
        cases hC'
    · rintro σ H3 ⟨C, v6, kvC, rfl, s3, hCF, hC, hor⟩
      rcases hor with ⟨z, _⟩ | rfl
      · omega
      exact ru6 _ _ _ ⟨hD, _, _, _, _, _, _, na, F, C, ord, p, kvs, m, rfl, sm1.trans (Sm.of_same s3), hw1.keep fun o e => s3 _ _ e, hm, s3 _ _ hna, s3 _ _ hF, hk.keep (Kp.of (Sm.of_same (W := [a, F]) s3).same), hpn, ho, hbok, hC, hnaa, hFa, hCF, hnF, hFn⟩
  intro u4 hu4 ru4
  -- 3: a body for each name
  refine split_at 3 (fun D σ H' => D.rt = Q ∧ ∃ v5 v6 v7 v8 v10 v11 v12 na F ord m, σ = [some (.ref a), some (.int most), some (.int cl), some (.bl true), some (.ref na), v5, v6, v7, v8, some (.ref F), v10, v11, v12] ∧ Sm [a] H H' ∧ WellAt H' a m ∧ m ≤ n + 2 ∧
    H' na = some (.lst (ord.map V.str)) ∧ H' F = some (.dK []) ∧ Ord ord ∧ na ≠ a ∧ F ≠ a ∧ na ≠ F ∧ H F = none) ?_ ?_
  · skip
    refine ⟨_, (pss_cons (ps_for PassesOwn.never rfl (pi_enum (by rfl) T.n_enumerate (pa_cons (pv 4) pa_nil)) (pg_tup rfl (pgs_cons (pg_name (i := 10) scLProgram.nd rfl (by first | exact Or.inl rfl | exact Or.inr rfl)) (pgs_cons (pg_name (i := 7) scLProgram.nd rfl (by first | exact Or.inl rfl | exact Or.inr rfl)) pgs_nil)))
        (pss_cons (ps_set (i := 11) scLProgram.nd rfl (by first | exact Or.inl rfl | exact Or.inr rfl) (pe_ifExp (pt_val (pv 3)) (pv 4) (pe_slice sl_list (pv 4) (po_some (pe_op op_add (pv 10) pe_int)) po_none)))
        (pss_cons (ps_set (i := 12) scLProgram.nd rfl (by first | exact Or.inl rfl | exact Or.inr rfl) (pe_ifExp (PW.pt (pw_and (pt_cmpR (op_neD hr.units) (pv 11) (pe_lst pa_nil) (nomark _)) (pw_and1 (pt_cmpR op_gt (pe_call GLDraw (hr.mono (by omega)) rfl T.gLDraw T.FLDraw.kp T.bLDraw .nil pass0 (pa_cons (pv 0) (pa_cons pe_int pa_nil))) pe_int (nomark _))))) (pe_call GLItems (hr.mono (by omega)) rfl T.gLItems T.FLItems.kp T.bLItems .nil pass0 (pa_cons (pv 0) (pa_cons (pv 11) (pa_cons (pv 2) (pa_cons pe_int pa_nil))))) (pe_lst pa_nil)))
        (pss_one (ps_dput hu (pv 9) (pv 7) (pe_ifExp (pt_cmpR op_lt (pe_call GLCount (hr.mono (by omega)) rfl T.gLCount T.FLCount.kp T.bLCount .nil pass0 (pa_cons (pv 12) pa_nil)) pe_int (nomark _)) (pv 12) (pe_op op_rep (pe_lst (pa_cons (pe_ix ix_list (pv 11) pe_int (fun _ _ => rfl)) pa_nil)) (pe_call GLCalls (hr.mono (by omega)) rfl T.gLCalls T.FLCalls.kp T.bLCalls .nil pass0 (pa_cons (pv 12) pa_nil)))) rfl)))))
      hu4), ?_⟩
    rintro D σ H1 ⟨hD, v5, v6, v7, v8, v10, v11, v12, na, F, ord, m, rfl, sm1, hw1, hm, hna, hF, ho, hnaa, hFa, hnF, hFn⟩
    have hol6 := ho.len
    have hpos : 0 < ord.length := List.length_pos_of_mem ho.main
    refine ⟨_, rfl, na, _, rfl, SqL.of hna, ?_⟩
    refine for_enum (K := K) (a := na) (xs := ord.map V.str) (fun i σ H' => ∃ v7 v10 v11 v12 p kvs, σ = [some (.ref a), some (.int most), some (.int cl), some (.bl true), some (.ref na), v5, v6, v7, v8, some (.ref F), v10, v11, v12] ∧ Sm [a, F] H1 H' ∧ Sm [a] H H' ∧ WellAt H' a (m + i * 700) ∧ H' F = some (.dK kvs) ∧ PrKv (wo [a, F] H') kvs p ∧ pNames p = ord.take i ∧ (∀ x l, (x, l) ∈ p → BOk ord l)) ⟨v7, v10, v11, v12, [], [], rfl, Sm.refl _ _, sm1, hw1.mono (by omega), hF, .nil, rfl, fun x l h => by cases h⟩ ?_ ?_ ?_
    · rintro i σ H' _ ⟨_, _, _, _, _, _, _, sm, _⟩
      exact SqL.of (sm _ _ (by simp [hnaa, hnF]) hna)
    · rintro i y σ H2 T hi ⟨v7, v10, v11, v12, p, kvs, rfl, sm2, sm02, hw2, hF2, hk2, hpn, hbok⟩ hT
      obtain ⟨x, hx, rfl⟩ := str_get hi
      have hi6 : i < ord.length := (List.getElem?_eq_some_iff.mp hx).1
      have hxt : x ∉ ord.take i := fun z => by
        obtain ⟨j, hj, ej⟩ := List.mem_take_iff_getElem.mp z
        have h1 := List.pairwise_iff_getElem.mp (List.nodup_iff_pairwise_ne.mp ho.nd) j i (by omega) hi6 (by omega)
        exact h1 (by rw [ej, (List.getElem?_eq_some_iff.mp hx).2])
      have etk : ord.take (i + 1) = ord.take i ++ [x] := by rw [List.take_add_one, hx]; rfl
      refine ⟨T, _, rfl, SqT.of upd_same, rfl, _, _, rfl, _, _, rfl, rfl, ?_⟩
      have s3 := same_upd hT (.tup [V.int (i : Nat), V.str x])
      generalize upd H2 T (.tup [V.int (i : Nat), V.str x]) = H3 at s3 ⊢
      have hF3 := s3 _ _ hF2
      have hk3 := hk2.keep (Kp.of (Sm.of_same (W := [a, F]) s3).same)
      have sm3 := sm2.trans (Sm.of_same (W := [a, F]) s3)
      have sm03 := sm02.trans (Sm.of_same (W := [a]) s3)
      have hw3 : WellAt H3 a (m + i * 700) := hw2.keep fun o e => s3 _ _ e
      have hna3 := sm3 _ _ (by simp [hnaa, hnF]) hna
      clear hF2 hk2 sm2 sm02 hw2 s3 hT
      obtain ⟨m0, hm0⟩ : ∃ m0, m0 = m + i * 700 := ⟨_, rfl⟩
      have hms : m0 + 700 = m + (i + 1) * 700 := by rw [hm0, Nat.succ_mul]; omega
      have him : (i + 1) * 700 ≤ 6 * 700 := Nat.mul_le_mul_right _ (by omega)
      rw [← hm0] at hw3
      refine ⟨_, rfl, _, rfl, iteT ?_⟩
      refine ⟨_, rfl, ?_⟩
      refine ⟨_, rfl, Nat.zero_le _, fun e he => ?_⟩
      have s4 := same_upd he (.lst [])
      have he4 : (upd H3 e (.lst [])) e = some (.lst []) := upd_same
      generalize upd H3 e (.lst []) = H4 at s4 he4 ⊢
      have hna4 := s4 _ _ hna3
      refine ⟨_, _, .lst (SqL.of hna4) (dp_strs ord), .lst (SqL.of he4) .nil, strs_shaped ho.nm, dt_shaped rfl (by decide), ?_⟩
      rw [eqv_nil]
      have hoe : (ord.map PyData.str).isEmpty = false := by
        cases ord with
        | nil => simp at hpos
        | cons _ _ => rfl
      rw [hoe]
      refine ⟨_, rfl, iteT ?_⟩
      have hw4 : WellAt H4 a m0 := hw3.keep fun o e => s4 _ _ e
      refine ⟨_, rfl, a, 6, m0, rfl, by decide, by decide, hw4, by omega, fun r H5 r0 r1 sm5 hw5 => ?_⟩
      have sm35 : Sm [a] H3 H5 := (Sm.of_same s4).trans sm5
      have hF5 : H5 F = some (.dK kvs) := sm35 _ _ (by simp [hFa]) hF3
      have sm05 := sm03.trans sm35
      have sm15 := sm3.trans (sm35.more (W' := [a, F]) (by simp))
      have hk5 := hk3.keep (Kp.of (sm35.more (W' := [a, F]) (by simp)).same)
      have hna5 : H5 na = some (.lst (ord.map V.str)) := sm35 _ _ (by simp [hnaa]) hna3
      clear hF3 hk3 sm3 sm03 hw3 hna3 s4 he4 hna4 hw4 sm5 sm35 he
      refine ⟨_, _, rfl, rfl, _, rfl, ite2 (fun hr0 => ?A) (fun hr0 => ?B)⟩
      case' A =>
        refine ⟨_, rfl, _, rfl, _, rfl, a, na, m0 + 1, ord, cl, rfl, by decide, by decide, ⟨hw5, hna5, ⟨by omega, hol6⟩, ho.nm⟩, by omega, hcl1, hcl5, fun b l H6 sm6 hw6 hb6 got => ?_⟩
        have gok := got.ok
        have gc : nCB l ≤ 5 := by have := got.hi; omega
        have gi : nIB l ≤ 129 := got.i
        have gd := got.d
        have sm06 := sm05.trans sm6
        have sm16 := sm15.trans (sm6.more (W' := [a, F]) (by simp))
        have hF6 : H6 F = some (.dK kvs) := sm6 _ _ (by simp [hFa]) hF5
        have hk6 := hk5.keep (Kp.of (sm6.more (W' := [a, F]) (by simp)).same)
        have hw6' : WellAt H6 a (m0 + 700) := hw6.mono (by omega)
        have hna6 : H6 na = some (.lst (ord.map V.str)) := sm6 _ _ (by simp [hnaa]) hna5
        have hb6' : BdAt (wo [a, F] H6) b l := hb6.keep (by
          have key : ∀ x o, fr H5 H6 x = some o → wo [a, F] H6 x = some o := fun x o e => by
            rw [fr_some] at e
            rw [wo_some]
            refine ⟨?_, e.2⟩
            simp only [List.mem_cons, List.not_mem_nil, or_false, not_or]
            constructor
            · rintro rfl
              obtain ⟨o, e2⟩ := hw5.some
              rw [e2] at e; cases e.1
            · rintro rfl
              rw [hF5] at e; cases e.1
          exact ⟨fun x xs e => key _ _ e, fun x xs e => key _ _ e⟩)
        clear got hb6 hw6 sm6 hF5 hk5 sm05 sm15 hw5 hna5
      case' B =>
        refine ⟨Nat.zero_le _, fun b hb => ?_⟩
        obtain ⟨l, hl⟩ : ∃ l : List FA.It, l = [] := ⟨_, rfl⟩
        have gok : okB ord l := by rw [hl]; simp [okB]
        have gc : nCB l ≤ 5 := by rw [hl]; simp [nCB]
        have gi : nIB l ≤ 129 := by rw [hl]; simp [nIB]
        have gd : dB l ≤ 3 := by rw [hl]; simp [dB]
        have s6 := same_upd hb (.lst [])
        have hb6 : (upd H5 b (.lst [])) b = some (.lst []) := upd_same
        generalize upd H5 b (.lst []) = H6 at s6 hb6 ⊢
        have sm06 := sm05.trans (Sm.of_same (W := [a]) s6)
        have sm16 := sm15.trans (Sm.of_same (W := [a, F]) s6)
        have hF6 := s6 _ _ hF5
        have hk6 := hk5.keep (Kp.of (Sm.of_same (W := [a, F]) s6).same)
        have hw6' : WellAt H6 a (m0 + 700) := (hw5.keep fun o e => s6 _ _ e).mono (by omega)
        have hna6 := s6 _ _ hna5
        have hb6' : BdAt (wo [a, F] H6) b l := by
          refine ⟨[], wo_some.mpr ⟨?_, hb6⟩, by rw [hl]; exact .nil⟩
          simp only [List.mem_cons, List.not_mem_nil, or_false, not_or]
          constructor
          · rintro rfl
            obtain ⟨o, e2⟩ := hw5.some
            rw [e2] at hb; cases hb
          · rintro rfl
            rw [hF5] at hb; cases hb
        clear hl hb6 hb s6 hF5 hk5 sm05 sm15 hw5 hna5
      all_goals
        refine ⟨_, rfl, b, ord, l, rfl, hb6'.keep kp_off, gok, by omega, gd, fun H7 s7 => ?_⟩
        have hF7 := s7 _ _ hF6
        have sm07 := sm06.trans (Sm.of_same (W := [a]) s7)
        have sm17 := sm16.trans (Sm.of_same (W := [a, F]) s7)
        have hk7 := hk6.keep (Kp.of (Sm.of_same (W := [a, F]) s7).same)
        have hw7 : WellAt H7 a (m0 + 700) := hw6'.keep fun o e => s7 _ _ e
        have hb7 := hb6'.keep (Kp.of (Sm.of_same (W := [a, F]) s7).same)
        have hna7 := s7 _ _ hna6
        clear hF6 sm06 sm16 hk6 hw6' hb6' hna6 s7
        have hkl := hk7.length
        have hpl : p.length ≤ 6 := by
          have := congrArg List.length hpn
          unfold pNames at this
          rw [List.length_map, List.length_take] at this
          omega
        have hxn : x ∉ pNames p := by rw [hpn]; exact hxt
        -- the row is put in
        have done : ∀ (H8 : Hp) (nb : Addr) (l' : List FA.It) (v10 v11 v12 : Option V), Same H7 H8 → BdAt (wo [a, F] H8) nb l' → BOk ord l' →
            ∃ v7 v10' v11' v12' p kvs', ([some (.ref a), some (.int most), some (.int cl), some (.bl true), some (.ref na), v5, v6, some (.str x), v8, some (.ref F), v10, v11, v12] : L2.St) = [some (.ref a), some (.int most), some (.int cl), some (.bl true), some (.ref na), v5, v6, v7, v8, some (.ref F), v10', v11', v12'] ∧ Sm [a, F] H1 (upd H8 F (.dK (putK kvs (.inr x) (.ref nb)))) ∧ Sm [a] H (upd H8 F (.dK (putK kvs (.inr x) (.ref nb)))) ∧ WellAt (upd H8 F (.dK (putK kvs (.inr x) (.ref nb)))) a (m + (i + 1) * 700) ∧
              (upd H8 F (.dK (putK kvs (.inr x) (.ref nb)))) F = some (.dK kvs') ∧ PrKv (wo [a, F] (upd H8 F (.dK (putK kvs (.inr x) (.ref nb))))) kvs' p ∧ pNames p = ord.take (i + 1) ∧ (∀ x l, (x, l) ∈ p → BOk ord l) := by
          intro H8 nb l' v10 v11 v12 s8 hb8 bok
          have eput : putK kvs (.inr x) (.ref nb) = kvs ++ [(.inr x, .ref nb)] := putK_new _ (by
            rcases hk7.look (x := x) with ⟨_, z⟩ | ⟨l, b, z1, _⟩
            · exact z
            · exact absurd (List.mem_map.mpr ⟨(x, l), mem_look z1, rfl⟩) hxn)
          have kpo : Kp (wo [a, F] H8) (wo [a, F] (upd H8 F (.dK (kvs ++ [(.inr x, .ref nb)])))) := by
            have key : ∀ y o, wo [a, F] H8 y = some o → wo [a, F] (upd H8 F (.dK (kvs ++ [(.inr x, .ref nb)]))) y = some o := fun y o e => by
              rw [wo_some] at e ⊢
              refine ⟨e.1, ?_⟩
              simp only [List.mem_cons, List.not_mem_nil, or_false, not_or] at e
              rw [upd_ne e.1.2]
              exact e.2
            exact ⟨fun x xs e => key _ _ e, fun x xs e => key _ _ e⟩
          rw [eput]
          refine ⟨_, v10, v11, v12, p ++ [(x, l')], kvs ++ [(.inr x, .ref nb)], rfl, ?_, ?_, ?_, upd_same, PrKv.snoc (hb8.keep kpo) ((hk7.keep (Kp.of (Sm.of_same (W := [a, F]) s8).same)).keep kpo), ?_, ?_⟩
          · intro y o hy e
            rw [upd_ne (fun z => hy (by simp [z]))]
            exact s8 _ _ (sm17 _ _ hy e)
          · intro y o hy e
            rw [upd_ne (ne_of_none e hFn)]
            exact s8 _ _ (sm07 _ _ hy e)
          · rw [← hms]
            exact hw7.keep fun o e => by rw [upd_ne hFa.symm]; exact s8 _ _ e
          · rw [etk, ← hpn]
            unfold pNames
            rw [List.map_append]
            rfl
          · intro y l0 h
            rcases List.mem_append.mp h with h | h
            · exact hbok y l0 h
            · cases List.mem_singleton.mp h
              exact bok
        refine ⟨_, _, rfl, rfl, _, rfl, ite2 (fun hc => ?_) (fun hc => ?_)⟩
        · have hc := of_decide_eq_true hc
          refine ⟨_, rfl, _, rfl, _, rfl, F, _, rfl, DPut.k (k := .inr x) hF7 (small1000 (by omega)), ?_⟩
          exact done H7 b l _ _ _ (Same.refl _) hb7 ⟨gok, gc, by omega, gd⟩
        · obtain ⟨x0, hx0⟩ : ∃ x0, ord[0]? = some x0 := ⟨ord[0], List.getElem?_eq_getElem hpos⟩
          refine ⟨_, rfl, na, _, _, .str x0, rfl, rfl, SqL.of hna7, at_of (j := 0) rfl (by rw [List.getElem?_map, hx0]; rfl), Nat.le_of_lt (small1000 (by simp)), fun p1 hp1 => ?_⟩
          have s8 := same_upd hp1 (.lst [V.str x0])
          have hp8 : (upd H7 p1 (.lst [V.str x0])) p1 = some (.lst [V.str x0]) := upd_same
          generalize upd H7 p1 (.lst [V.str x0]) = H8 at s8 hp8 ⊢
          refine ⟨_, rfl, b, ord, l, rfl, (hb7.keep kp_off).keep (Kp.of s8), gok, by omega, gd, fun H9 s9 => ?_⟩
          refine ⟨p1, (nCB l : Nat), _, rfl, rfl, s9 _ _ hp8, by omega, by omega, ?_, fun p2 hp2 => ?_⟩
          · have := small1000 (n := [V.str x0].length * ((nCB l : Nat) : Int).toNat) (by simp; omega)
            omega
          have efl : (List.replicate ((nCB l : Nat) : Int).toNat [V.str x0]).flatten = (List.replicate (nCB l) x0).map V.str := by
            rw [Int.toNat_natCast]
            induction nCB l with
            | zero => rfl
            | succ k ih => rw [List.replicate_succ, List.flatten_cons, ih, List.replicate_succ]; rfl
          rw [efl]
          have s10 := same_upd hp2 (.lst ((List.replicate (nCB l) x0).map V.str))
          have hp10 : (upd H9 p2 (.lst ((List.replicate (nCB l) x0).map V.str))) p2 = some (.lst ((List.replicate (nCB l) x0).map V.str)) := upd_same
          have s710 := (s8.trans s9).trans s10
          have hp2n : H7 p2 = none := (s8.trans s9).free hp2
          generalize upd H9 p2 (.lst ((List.replicate (nCB l) x0).map V.str)) = H10 at s710 hp10 ⊢
          refine ⟨_, rfl, _, rfl, F, _, rfl, DPut.k (k := .inr x) (s710 _ _ hF7) (small1000 (by omega)), ?_⟩
          have hrep : ∀ k : Nat, ItsAt (wo [a, F] H10) ((List.replicate k x0).map V.str) (List.replicate k (.call x0)) ∧ okB ord (List.replicate k (FA.It.call x0)) ∧ nCB (List.replicate k (FA.It.call x0)) = k ∧ nIB (List.replicate k (FA.It.call x0)) = k ∧ dB (List.replicate k (FA.It.call x0)) ≤ 1 := fun k => by
            induction k with
            | zero => exact ⟨.nil, by simp [okB], by simp [nCB], by simp [nIB], by simp [dB]⟩
            | succ k ih =>
              obtain ⟨i1, i2, i3, i4, i5⟩ := ih
              rw [List.replicate_succ, List.replicate_succ]
              exact ⟨.cons (.call _) i1, by simp only [okB, okI]; exact ⟨List.mem_of_getElem? hx0, i2⟩, by simp only [nCB, nC]; omega, by simp only [nIB, nI]; omega, by simp only [dB, dI]; omega⟩
          obtain ⟨i1, i2, i3, i4, i5⟩ := hrep (nCB l)
          refine done H10 p2 (List.replicate (nCB l) (.call x0)) _ _ _ s710 ⟨_, wo_some.mpr ⟨?_, hp10⟩, i1⟩ ⟨i2, by omega, by omega, by omega⟩
          simp only [List.mem_cons, List.not_mem_nil, or_false, not_or]
          constructor
          · rintro rfl
            obtain ⟨o, e2⟩ := hw7.some
            rw [e2] at hp2n; cases hp2n
          · rintro rfl
            rw [hF7] at hp2n; cases hp2n
    · rintro σ H2 ⟨v7, v10, v11, v12, p, kvs, rfl, sm2, sm02, hw2, hF2, hk2, hpn, hbok⟩
      rw [List.take_of_length_le (by rw [List.length_map]; exact Nat.le_refl _)] at hpn
      have hm2 : (ord.map V.str).length * 700 ≤ 6 * 700 := Nat.mul_le_mul_right _ (by rw [List.length_map]; omega)
      exact ru4 _ _ _ ⟨hD, _, _, _, _, _, _, _, na, F, ord, p, kvs, _, rfl, sm02, hw2, by omega, sm2 _ _ (by simp [hnaa, hnF]) hna, hF2, hk2, hpn, ho, fun x l e => hbok x l (mem_look e), hnaa, hFa, hnF, hFn⟩
  intro u3 hu3 ru3
  refine ⟨_, (pss_cons (ps_set (i := 4) scLProgram.nd rfl (by first | exact Or.inl rfl | exact Or.inr rfl) (pe_lst (pa_cons (pe_lst (pa_cons pe_str (pa_cons pe_str (pa_cons pe_str (pa_cons pe_str (pa_cons pe_str (pa_cons pe_str pa_nil))))))) (pa_cons (pe_lst (pa_cons pe_str (pa_cons pe_str (pa_cons (pe_op op_mul_main pe_str pe_int) (pa_cons pe_str (pa_cons pe_str (pa_cons pe_str pa_nil))))))) pa_nil))))
      (pss_cons (ps_set (i := 4) scLProgram.nd rfl (by first | exact Or.inl rfl | exact Or.inr rfl) (pe_ix ix_list (pe_op op_cat (pv 4) (pe_lst (pa_cons (pe_lst (pa_cons pe_str (pa_cons pe_str (pa_cons pe_str (pa_cons pe_str (pa_cons pe_str (pa_cons pe_str pa_nil))))))) pa_nil))) (pe_call GLDraw (hr.mono (by omega)) rfl T.gLDraw T.FLDraw.kp T.bLDraw .nil pass0 (pa_cons (pv 0) (pa_cons pe_int pa_nil))) (fun _ _ => rfl)))
      (pss_cons (ps_asg (pe_tup (pa_cons (pe_slice sl_list (pv 4) po_none (po_some (pe_op op_add pe_int (pe_call GLDraw (hr.mono (by omega)) rfl T.gLDraw T.FLDraw.kp T.bLDraw .nil pass0 (pa_cons (pv 0) (pa_cons (pv 1) pa_nil)))))) (pa_cons pe_dnewK pa_nil))) (pg_tup rfl (pgs_cons (pg_name (i := 4) scLProgram.nd rfl (by first | exact Or.inl rfl | exact Or.inr rfl)) (pgs_cons (pg_name (i := 9) scLProgram.nd rfl (by first | exact Or.inl rfl | exact Or.inr rfl)) pgs_nil))))
      hu3))), ?_⟩
  refine ⟨Nat.le_of_lt (small1000 (by simp)), fun q1 hq1 => ?_⟩
  have s1 := same_upd hq1 (.lst [V.str "main", V.str "a", V.str "b", V.str "c", V.str "d", V.str "e"])
  have e1 : (upd H q1 (.lst [V.str "main", V.str "a", V.str "b", V.str "c", V.str "d", V.str "e"])) q1 = some (.lst (mB0.map V.str)) := upd_same
  generalize upd H q1 (.lst [V.str "main", V.str "a", V.str "b", V.str "c", V.str "d", V.str "e"]) = H1 at s1 e1 ⊢
  refine ⟨rfl, rfl, Nat.le_of_lt (small1000 (by simp)), fun q2 hq2 => ?_⟩
  have x2 := same_upd hq2 (.lst [V.str "main", V.str "zz", V.str "mainmain", V.str "aa", V.str "q", V.str "abcdefgh"])
  have e2 : (upd H1 q2 (.lst [V.str "main", V.str "zz", V.str "mainmain", V.str "aa", V.str "q", V.str "abcdefgh"])) q2 = some (.lst (mB1.map V.str)) := upd_same
  generalize upd H1 q2 (.lst [V.str "main", V.str "zz", V.str "mainmain", V.str "aa", V.str "q", V.str "abcdefgh"]) = H2 at x2 e2 ⊢
  refine ⟨Nat.le_of_lt (small1000 (by simp)), fun q3 hq3 => ?_⟩
  have x3 := same_upd hq3 (.lst [V.ref q1, V.ref q2])
  have e3 : (upd H2 q3 (.lst [V.ref q1, V.ref q2])) q3 = some (.lst [V.ref q1, V.ref q2]) := upd_same
  generalize upd H2 q3 (.lst [V.ref q1, V.ref q2]) = H3 at x3 e3 ⊢
  refine ⟨_, rfl, Nat.le_of_lt (small1000 (by simp)), fun q4 hq4 => ?_⟩
  have x4 := same_upd hq4 (.lst [V.str "main", V.str "one", V.str "loop", V.str "maybe", V.str "call", V.str "a"])
  have e4 : (upd H3 q4 (.lst [V.str "main", V.str "one", V.str "loop", V.str "maybe", V.str "call", V.str "a"])) q4 = some (.lst (mB2.map V.str)) := upd_same
  generalize upd H3 q4 (.lst [V.str "main", V.str "one", V.str "loop", V.str "maybe", V.str "call", V.str "a"]) = H4 at x4 e4 ⊢
  refine ⟨Nat.le_of_lt (small1000 (by simp)), fun q5 hq5 => ?_⟩
  have x5 := same_upd hq5 (.lst [V.ref q4])
  have e5 : (upd H4 q5 (.lst [V.ref q4])) q5 = some (.lst [V.ref q4]) := upd_same
  generalize upd H4 q5 (.lst [V.ref q4]) = H5 at x5 e5 ⊢
  refine ⟨q3, q5, _, _, rfl, rfl, x5 _ _ (x4 _ _ e3), e5, by have := sizeLine_eq; simp; omega, fun q6 hq6 => ?_⟩
  have x6 := same_upd hq6 (.lst ([V.ref q1, V.ref q2] ++ [V.ref q4]))
  have e6 : (upd H5 q6 (.lst ([V.ref q1, V.ref q2] ++ [V.ref q4]))) q6 = some (.lst ([V.ref q1, V.ref q2] ++ [V.ref q4])) := upd_same
  generalize upd H5 q6 (.lst ([V.ref q1, V.ref q2] ++ [V.ref q4])) = H6 at x6 e6 ⊢
  have s06 := ((((s1.trans x2).trans x3).trans x4).trans x5).trans x6
  have e1' := x6 _ _ (x5 _ _ (x4 _ _ (x3 _ _ (x2 _ _ e1))))
  have e2' := x6 _ _ (x5 _ _ (x4 _ _ (x3 _ _ e2)))
  have e4' := x6 _ _ (x5 _ _ e4)
  refine ⟨_, rfl, a, 3, n, rfl, by decide, by decide, hw.keep fun o e => s06 _ _ e, by omega, fun r H7 r0 r1 sm7 hw7 => ?_⟩
  have nea : ∀ x o, H6 x = some o → H x = none → x ≠ a := fun x o e hx => by
    rintro rfl
    rw [how] at hx; cases hx
  have nq1 := ne_of_none how hq1
  have n2 : H q2 = none := s1.free hq2
  have n4 : H q4 = none := ((s1.trans x2).trans x3).free hq4
  have n6 : H q6 = none := ((((s1.trans x2).trans x3).trans x4).trans x5).free hq6
  have e1'' := sm7 _ _ (by simp [(ne_of_none how hq1).symm]) e1'
  have e2'' := sm7 _ _ (by simp [(ne_of_none how n2).symm]) e2'
  have e4'' := sm7 _ _ (by simp [(ne_of_none how n4).symm]) e4'
  have e6'' := sm7 _ _ (by simp [(ne_of_none how n6).symm]) e6
  obtain ⟨qx, ns, hat, hns, hmn⟩ : ∃ (qx : Addr) (ns : List Str), atI ([V.ref q1, V.ref q2] ++ [V.ref q4]) r = some (.ref qx) ∧ H7 qx = some (.lst (ns.map V.str)) ∧ ns ∈ menusB := by
    rcases (by omega : r = 0 ∨ r = 1 ∨ r = 2) with rfl | rfl | rfl
    · exact ⟨q1, mB0, rfl, e1'', by simp [menusB]⟩
    · exact ⟨q2, mB1, rfl, e2'', by simp [menusB]⟩
    · exact ⟨q4, mB2, rfl, e4'', by simp [menusB]⟩
  refine ⟨q6, _, _, .ref qx, rfl, rfl, SqL.of e6'', hat, ?_⟩
  refine ⟨_, rfl, _, rfl, _, rfl, a, most, n + 1, rfl, hm1, by omega, hw7, by omega, fun k H8 k0 k1 sm8 hw8 => ?_⟩
  have sm08 : Sm [a] H H8 := ((Sm.of_same s06).trans sm7).trans sm8
  have hqa : qx ≠ a := by
    rintro rfl
    obtain ⟨x, y, z, e, _⟩ := hw7
    rw [hns] at e
    exact strs_ne (HO.lst.inj (Option.some.inj e))
  have hns8 := sm8 _ _ (by simp [hqa]) hns
  refine ⟨_, _, rfl, rfl, _, rfl, _, _, rfl, SqL.of hns8, fun na hna => ?_⟩
  have ecut : cutV (ns.map V.str) none (some (1 + k)) = (ns.take (1 + k).toNat).map V.str := by
    rw [show (1 : Int) + k = (((1 + k).toNat : Nat) : Int) by omega, cut_to', List.map_take, Int.toNat_natCast]
  have s9 := same_upd hna (.lst (cutV (ns.map V.str) none (some (1 + k))))
  have e9 : (upd H8 na (.lst (cutV (ns.map V.str) none (some (1 + k))))) na = some (.lst ((ns.take (1 + k).toNat).map V.str)) := by rw [upd_same, ecut]
  generalize upd H8 na (.lst (cutV (ns.map V.str) none (some (1 + k)))) = H9 at s9 e9 ⊢
  intro F hF
  have s10 := same_upd hF (.dK [])
  have e10 : (upd H9 F (.dK [])) F = some (.dK []) := upd_same
  generalize upd H9 F (.dK []) = H10 at s10 e10 ⊢
  refine ⟨Nat.le_of_lt (small1000 (by simp)), fun t ht => ?_⟩
  have s11 := same_upd ht (.tup [V.ref na, V.ref F])
  refine ⟨t, _, rfl, SqT.of upd_same, rfl, _, _, rfl, _, _, rfl, rfl, ?_⟩
  generalize upd H10 t (.tup [V.ref na, V.ref F]) = H11 at s11 ⊢
  have k8 : ∀ b ∈ [a], ∃ o, H8 b = some o := fun b hb => by rw [List.mem_singleton.mp hb]; exact hw8.some
  have hnaH : H na = none := none_back sm08 k8 hna
  have hFH : H F = none := none_back sm08 k8 (s9.free hF)
  have s811 := (s9.trans s10).trans s11
  refine ru3 _ _ _ ⟨rfl, _, _, _, _, _, _, _, na, F, _, n + 2, rfl, sm08.trans (Sm.of_same s811), hw8.keep fun o e => s811 _ _ e, Nat.le_refl _, s11 _ _ (s10 _ _ e9), s11 _ _ e10, ordB_of hmn (by omega), (ne_of_none how hnaH).symm, (ne_of_none how hFH).symm, ?_, hFH⟩
  rintro rfl
  rw [e9] at hF; cases hF
end K13


set_option Elab.async false
set_option linter.all false
set_option maxRecDepth 100000
set_option maxHeartbeats 8000000
namespace K13
open PySem PySem.Spec PyProof.Rows L2 FA
variable {P : Program} {w : World} {K : PySem.W.Frag} {mg : Str → Option Value} {base : Heap}
/-! ### the names in a body -/
def spLCallees (n : Nat) : Sp := fun vs H Q _ => ∃ (b : Addr) (l : List FA.It) (ns : List Str), vs = [.ref b] ∧ BdAt H b l ∧ okB ns l ∧ nCB l ≤ 100 ∧ nIB l ≤ 12 ∧ dB l ≤ n ∧ ∀ r H', Same H H' → H r = none → H' r = some (.lst ((nmB l).map V.str)) → Q (.ref r) H'
theorem okLCallees1 (T : Txt K mg) (n : Nat) (GLCallees : FnOk P w K mg base CX0 (n + 1) T.aLCallees T.fLCallees ["body"] (spLCallees n)) : FnOk P w K mg base CX0 (n + 2) T.aLCallees T.fLCallees ["body"] (spLCallees (n + 1)) := by
  refine T.FLCallees.ok scLCallees (fun vs H Q E h => ?_) (fun cdv A outer s H vs Q E hr h => ?_)
  · obtain ⟨b, l, ns, rfl, _⟩ := h
    rfl
  obtain ⟨b, l, ns, rfl, ⟨vs, hb, hits⟩, ok, hc, hni, hd, q⟩ := h
  have hu := hu_of hr
  refine ⟨_, (pss_cons (ps_set (i := 1) scLCallees.nd rfl (by first | exact Or.inl rfl | exact Or.inr rfl) (pe_lst pa_nil))
      (pss_cons (ps_for PassesOwn.never rfl (pi_list (pv 0)) (pg_name (i := 2) scLCallees.nd rfl (by first | exact Or.inl rfl | exact Or.inr rfl))
        (pss_one (ps_if (pt_val (pe_callB call_isi (by rfl) T.n_isinstance (by decide +kernel) (pa_cons (pv 2) (pa_cons (pe_bltn (v := .ty "str") (by rfl) T.n_str (by decide +kernel) rfl) pa_nil))))
          (pss_one (ps_expr (pe_bm PySem.F.plainAttrs_list PySem.F.slot_list_append PySem.F.type_list_append mt_append (pv 1) (pa_cons (pv 2) pa_nil)))) (pss_one (ps_for PassesOwn.never rfl (pi_list (pe_ifExp (pt_cmpR op_eq (pe_ix ix_tup (pv 2) pe_int (fun _ _ => rfl)) pe_str (nomark _)) (pe_ix ix_tup (pv 2) pe_int (fun _ _ => rfl)) (pe_lst (pa_cons (pe_ix ix_tup (pv 2) pe_int (fun _ _ => rfl)) pa_nil)))) (pg_name (i := 3) scLCallees.nd rfl (by first | exact Or.inl rfl | exact Or.inr rfl))
            (pss_one (ps_set (i := 1) scLCallees.nd rfl (by first | exact Or.inl rfl | exact Or.inr rfl) (pe_op op_cat (pv 1) (pe_call GLCallees (hr.mono (by omega)) rfl T.gLCallees T.FLCallees.kp T.bLCallees .nil pass0 (pa_cons (pv 3) pa_nil))))))))))
      (pss_one (ps_ret (pv 1))))), ?_⟩
  have hl := hits.length
  refine ⟨Nat.zero_le _, fun f0 hf0 => ?_⟩
  have s0 := same_upd hf0 (.lst [])
  refine ⟨_, rfl, b, rfl, ⟨_, SqL.of (s0 _ _ hb)⟩, for_list (K := K) (a := b) (xs := vs) (fun i σ H' => ∃ v2 v3 f, σ = [some (.ref b), some (.ref f), v2, v3] ∧ Same H H' ∧ H f = none ∧ H' f = some (.lst ((nmB (l.take i)).map V.str))) ⟨none, none, f0, rfl, s0, hf0, upd_same⟩ ?_ ?_ ?_⟩
  · rintro i σ H' _ ⟨_, _, _, _, sm, _⟩
    exact SqL.of (sm _ _ hb)
  · rintro i y σ H1 hi ⟨v2, v3, f, rfl, sm, hf, hf1⟩
    obtain ⟨it, e1, e2⟩ := hits.get hi
    have hm : it ∈ l := List.mem_of_getElem? e1
    have e3 := e2.keep (Kp.of sm)
    have c1 := nCB_mem hm
    have c2 := nIB_mem hm
    have c3 := dB_mem hm
    have oki := okB_all.mp ok it hm
    have pre := nmB_pre l i
    rcases e3.parts with ⟨x, rfl, rfl⟩ | ⟨t, k, b', ws, rfl, h1, h2, h3⟩
    · refine ⟨_, rfl, _, _, _, _, true, rfl, .ty _, ty_str x, kit_ty (by decide +kernel), _, rfl, iteT ?_⟩
      refine ⟨_, rfl, .inl ⟨rfl, _, SqL.of hf1⟩, _, rfl, f, _, .str x, rfl, rfl, hf1, small1000 (by rw [List.length_map]; omega), ?_⟩
      refine ⟨_, _, f, rfl, fun b o e => by rw [upd_ne (ne_of_none e hf)]; exact sm _ _ e, hf, ?_⟩
      rw [upd_same, nmB_take e1, List.map_append]
      rfl
    · -- the bodies within
      have nocall : ∀ x, it ≠ .call x := by
        rcases h3 with ⟨_, ls, rfl, _⟩ | ⟨_, l', rfl | rfl, _⟩ <;> intro x z <;> cases z
      refine ⟨_, rfl, _, _, _, _, false, rfl, .ty _, ty_tup h1, kit_ty (by decide +kernel), _, rfl, iteF ?_⟩
      obtain ⟨bsl, hbsl⟩ : ∃ bs, bs = bodies it := ⟨_, rfl⟩
      have eb := bodies_nm it nocall
      have oks := bodies_ok it oki
      have ebd := bodies_d it
      have ebi := nI_bodies it
      have ebc := nC_bodies nocall
      rw [← hbsl] at eb oks ebd ebi ebc
      have fin : ∀ (H3 : Hp) (f' : Addr) (v3 : Option V), Same H H3 → H f' = none → H3 f' = some (.lst ((nmB (l.take i) ++ nmBs bsl).map V.str)) → ∃ v2 v3' f, ([some (V.ref b), some (.ref f'), some (V.ref t), v3] : L2.St) = [some (V.ref b), some (.ref f), v2, v3'] ∧ Same H H3 ∧ H f = none ∧ H3 f = some (.lst ((nmB (l.take (i + 1))).map V.str)) := fun H3 f' v3 s3 hn h => by
        refine ⟨_, _, f', rfl, s3, hn, ?_⟩
        rw [h, nmB_take e1, eb]
      refine ⟨_, rfl, _, _, _, _, rfl, rfl, SqT.of h1, at_of (j := 0) rfl rfl, rfl, _, rfl, ite2 (fun z => ?A) (fun z => ?B)⟩
      case' A =>
        have hk : k = ("one" : Str) := V.str.inj (of_decide_eq_true z)
        have hbs : BdsAt H1 ws bsl := by
          rcases h3 with ⟨_, ls, rfl, h4⟩ | ⟨hk', _⟩
          · rw [hbsl]; exact h4
          · exact absurd hk hk'
        refine ⟨_, rfl, _, _, _, _, rfl, rfl, SqT.of h1, at_of (j := 1) rfl rfl, ?_⟩
        have s2 : Same H1 H1 := Same.refl _
        have hW := h2
        obtain ⟨W, eW⟩ : ∃ z, z = b' := ⟨_, rfl⟩
        subst eW
        clear h2
      case' B =>
        have hk : k ≠ ("one" : Str) := fun h => z (decide_eq_true (by rw [h]))
        refine ⟨_, rfl, _, _, _, _, rfl, rfl, SqT.of h1, at_of (j := 1) rfl rfl, Nat.le_of_lt (small1000 (by simp)), fun W hWn => ?_⟩
        have s2 := same_upd hWn (.lst [V.ref b'])
        have hW : (upd H1 W (.lst [V.ref b'])) W = some (.lst [V.ref b']) := upd_same
        have hbs : BdsAt (upd H1 W (.lst [V.ref b'])) [V.ref b'] bsl := by
          rcases h3 with ⟨hk', _⟩ | ⟨_, l', hl', h4⟩
          · exact absurd hk' hk
          · have e : bsl = [l'] := by rw [hbsl]; rcases hl' with rfl | rfl <;> rfl
            rw [e]
            exact .cons (s2 _ _ h2) (h4.keep (Kp.of s2)) .nil
        have sm' := sm.trans s2
        have hf1' := s2 _ _ hf1
        clear hf1 sm h1 h2 e3
        generalize upd H1 W (.lst [V.ref b']) = H1 at hW hbs sm' hf1' ⊢
        have sm := sm'
        have hf1 := hf1'
        clear sm' hf1' s2
        have s2 : Same H1 H1 := Same.refl _
        obtain ⟨ws, ews⟩ : ∃ z, z = [V.ref b'] := ⟨_, rfl⟩
        rw [← ews] at hW hbs
      all_goals
        have hbl := hbs.length
        refine ⟨W, rfl, ⟨_, SqL.of hW⟩, for_list (K := K) (a := W) (xs := ws) (fun j σ H' => ∃ v3 f', σ = [some (.ref b), some (.ref f'), some (.ref t), v3] ∧ Same H1 H' ∧ H f' = none ∧ H' f' = some (.lst ((nmB (l.take i) ++ nmBs (bsl.take j)).map V.str))) ⟨v3, f, rfl, Same.refl _, hf, by rw [hf1]; simp [nmBs]⟩ ?_ ?_ ?_⟩
        · rintro j σ H' _ ⟨_, _, _, h, _⟩
          exact SqL.of (h _ _ hW)
        · rintro j y σ H3 hj ⟨v3, f', rfl, s3, hfn, hf3⟩
          obtain ⟨b2, bd, rfl, q1, q2⟩ := hbs.get hj
          have hmb : bd ∈ bsl := List.mem_of_getElem? q1
          have d1 := nCBs_mem hmb
          have d2 := nIBs_mem hmb
          have d3 := dBs_mem hmb
          refine ⟨_, rfl, _, rfl, b2, bd, ns, rfl, q2.keep (Kp.of s3), okBs_all.mp oks bd hmb, by omega, by omega, by omega, fun r2 H4 s4 hn4 hr4 => ?_⟩
          have hf4 := s4 _ _ hf3
          have p2 := nmBs_pre (bs := bsl) j
          have p3 := nmB_len bd
          refine ⟨f', r2, _, _, rfl, rfl, hf4, hr4, Nat.le_of_lt (small1000 (by simp only [List.length_map, List.length_append]; omega)), fun p hp => ?_⟩
          have s5 := same_upd hp (.lst ((nmB (l.take i) ++ nmBs (bsl.take j)).map V.str ++ (nmB bd).map V.str))
          refine ⟨_, p, rfl, (s3.trans s4).trans s5, ((sm.trans s3).trans s4).free hp, ?_⟩
          rw [upd_same, nmBs_take q1]
          simp only [List.map_append, List.append_assoc]
        · rintro σ H3 ⟨v3, f', rfl, s3, hfn, hf3⟩
          rw [List.take_of_length_le (l := bsl) (by omega)] at hf3
          exact fin H3 f' v3 (sm.trans s3) hfn hf3
  · rintro σ H1 ⟨v2, v3, f, rfl, sm, hf, hf1⟩
    refine ⟨_, rfl, q f H1 sm hf ?_⟩
    rw [hf1, List.take_of_length_le (by omega)]
theorem okLCallees (T : Txt K mg) : ∀ n : Nat, FnOk P w K mg base CX0 (n + 1) T.aLCallees T.fLCallees ["body"] (spLCallees n)
  | 0 => fn_never fun vs H Q E h => by
    obtain ⟨b, l, ns, _, _, _, _, _, h0, _⟩ := h
    have := dB_pos l
    omega
  | n + 1 => okLCallees1 T n (okLCallees T n)
/-! ### a stack -/
/-- the program stands at d, off the source of draws -/
def PrW (H : Hp) (a d : Addr) (p : Pr) : Prop := ∃ kvs, H d = some (.dK kvs) ∧ PrKv (wo [a] H) kvs p
theorem PrW.on {H H' : Hp} {a d : Addr} {p : Pr} {n : Nat} (h : PrW H a d p) (hw : WellAt H a n) (s : Sm [a] H H') : PrW H' a d p := by
  obtain ⟨kvs, h1, h2⟩ := h
  refine ⟨kvs, s _ _ ?_ h1, h2.keep (Kp.of s.same)⟩
  simp only [List.mem_singleton]
  rintro rfl
  obtain ⟨x, y, z, e, _⟩ := hw
  rw [h1] at e; cases e
theorem PrW.at {H : Hp} {a d : Addr} {p : Pr} (h : PrW H a d p) : PrAt H d p := by
  obtain ⟨kvs, h1, h2⟩ := h
  exact ⟨kvs, .inl h1, h2.keep kp_off⟩
theorem PrKv.names {H : Hp} : ∀ {kvs : List (Key × V)} {p : Pr}, PrKv H kvs p → (kvs.map fun kv => kV kv.1) = (pNames p).map V.str
  | _, _, .nil => rfl
  | _, _, .cons _ t => by simp only [List.map_cons, PrKv.names t, pNames]; rfl
def spLStack : Sp := fun vs H Q _ => ∃ (a d : Addr) (p : Pr) (top : Str) (deep odd : Int) (n : Nat), vs = [.ref a, .ref d, .str top, .int deep, .int odd] ∧ WellAt H a n ∧ n + 100 ≤ 2 ^ 80 ∧ PrW H a d p ∧ Valid p ∧ top ∈ pNames p ∧ 1 ≤ deep ∧ deep ≤ 8 ∧ 1 ≤ odd ∧ odd ≤ 100 ∧
  ∀ t st H', Sm [a] H H' → WellAt H' a (n + 100) → H' t = some (.tup ((top :: st).map V.str)) → (st.length : Int) < deep → (∀ x ∈ st, x ∈ pNames p) → Q (.ref t) H'
theorem okLStack (T : Txt K mg) : FnOk P w K mg base CX0 6 T.aLStack T.fLStack ["spring", "program", "top", "deep", "odd"] spLStack := by
  have GLDraw : FnOk P w K mg base CX0 1 T.aLDraw T.fLDraw ["spring", "many"] spDraw := okDraw T
  have GLCallees : FnOk P w K mg base CX0 5 T.aLCallees T.fLCallees ["body"] (spLCallees 4) := okLCallees T 4
  refine T.FLStack.ok scLStack (fun vs H Q E h => ?_) (fun cdv A outer s H vs Q E hr h => ?_)
  · obtain ⟨a, d, p, top, deep, odd, n, rfl, _⟩ := h
    rfl
  obtain ⟨a, d, p, top, deep, odd, n, rfl, hw, hn, hp, va, htop, hd1, hd8, ho1, ho9, q⟩ := h
  have hu := hu_of hr
  refine ⟨_, (pss_cons (ps_set (i := 5) scLStack.nd rfl (by first | exact Or.inl rfl | exact Or.inr rfl) (pe_lst (pa_cons (pv 2) pa_nil)))
      (pss_cons (ps_for PassesOwn.never rfl (pi_range1 (by rfl) T.n_range (pa_cons (pe_call GLDraw (hr.mono (by omega)) rfl T.gLDraw T.FLDraw.kp T.bLDraw .nil pass0 (pa_cons (pv 0) (pa_cons (pv 3) pa_nil))) pa_nil)) (pg_name (i := 6) scLStack.nd rfl (by first | exact Or.inl rfl | exact Or.inr rfl))
        (pss_cons (ps_set (i := 7) scLStack.nd rfl (by first | exact Or.inl rfl | exact Or.inr rfl) (pe_call GLCallees (hr.mono (by omega)) rfl T.gLCallees T.FLCallees.kp T.bLCallees .nil pass0 (pa_cons (pe_dget hu (pv 1) (pe_ix ix_list (pv 5) (pe_un un_neg pe_int) (fun _ _ => rfl)) (fun _ _ => rfl)) pa_nil)))
        (pss_cons (ps_if (pt_cmpR op_eq (pe_call GLDraw (hr.mono (by omega)) rfl T.gLDraw T.FLDraw.kp T.bLDraw .nil pass0 (pa_cons (pv 0) (pa_cons (pv 4) pa_nil))) pe_int (nomark _))
          (pss_one (ps_set (i := 7) scLStack.nd rfl (by first | exact Or.inl rfl | exact Or.inr rfl) (pe_callTy (call_listD rfl) (by rfl) T.n_list (by decide +kernel) (pa_cons (pv 1) pa_nil)))) pss_nil)
        (pss_one (ps_if (pt_cmpR (op_neD hr.units) (pv 7) (pe_lst pa_nil) (nomark _))
          (pss_one (ps_expr (pe_bm PySem.F.plainAttrs_list PySem.F.slot_list_append PySem.F.type_list_append mt_append (pv 5) (pa_cons (pe_ix ix_list (pv 7) (pe_call GLDraw (hr.mono (by omega)) rfl T.gLDraw T.FLDraw.kp T.bLDraw .nil pass0 (pa_cons (pv 0) (pa_cons (pe_callB call_len_seq (by rfl) T.n_len PySem.boot_len (pa_cons (pv 7) pa_nil)) pa_nil))) (fun _ _ => rfl)) pa_nil)))) pss_nil)))))
      (pss_one (ps_ret (pe_callTy call_tuple_of (by rfl) T.n_tuple (by decide +kernel) (pa_cons (pv 5) pa_nil)))))), ?_⟩
  obtain ⟨ow, how⟩ := hw.some
  refine ⟨_, rfl, Nat.le_of_lt (small1000 (by simp)), fun f hf => ?_⟩
  have s1 := same_upd hf (.lst [V.str top])
  have hfa : f ≠ a := (ne_of_none how hf).symm
  refine ⟨_, rfl, _, rfl, a, deep, n, rfl, hd1, by omega, hw.keep fun o e => s1 _ _ e, by omega, fun m H2 m0 m1 sm2 hw2 => ?_⟩
  have hf2 : H2 f = some (.lst (([top] : List Str).map V.str)) := sm2 _ _ (by simp [hfa]) upd_same
  have sm02 : Sm [a] H H2 := (Sm.of_same s1).trans sm2
  refine ⟨m, rfl, by omega, by omega, ?_⟩
  refine for_range (lo := 0) (n := m.toNat) (fun k σ H' => ∃ v6 v7 st, σ = [some (.ref a), some (.ref d), some (.str top), some (.int deep), some (.int odd), some (.ref f), v6, v7] ∧ Sm [a] H H' ∧ WellAt H' a (n + 1 + k * 2) ∧ H' f = some (.lst ((top :: st).map V.str)) ∧ st.length ≤ k ∧ (∀ x ∈ st, x ∈ pNames p)) ⟨none, none, [], rfl, sm02, hw2.mono (by omega), hf2, Nat.le_refl _, by simp⟩ ?_ ?_
  · rintro k σ H3 hk ⟨v6, v7, st, rfl, sm3, hw3, hf3, hst, hin⟩
    have hk8 : k < 8 := by omega
    -- the last name
    obtain ⟨z, hz, hzin⟩ : ∃ z, atI ((top :: st).map V.str) (-1) = some (.str z) ∧ z ∈ pNames p := by
      rcases (List.eq_nil_or_concat (top :: st)).imp id (fun ⟨a, b, e⟩ => (⟨a, b, e.trans List.concat_eq_append⟩ : ∃ a b, top :: st = a ++ [b])) with h | ⟨u, z, e⟩
      · cases h
      · rw [e, List.map_append]
        refine ⟨z, atI_last _ _, ?_⟩
        have : z ∈ top :: st := by rw [e]; simp
        rcases List.mem_cons.mp this with rfl | h
        · exact htop
        · exact hin z h
    have hp3 := hp.on hw sm3
    obtain ⟨l0, e0⟩ := lookup_mem hzin
    rcases hp3.at.look (x := z) with ⟨z1, _⟩ | ⟨l, b, z1, z2, z3⟩
    · rw [e0] at z1; cases z1
    obtain ⟨o1, o2, o3, o4⟩ := va.ok z l z1
    refine ⟨_, rfl, _, rfl, _, rfl, _, _, _, _, rfl, rfl, SqL.of hf3, hz, d, _, rfl, z2, b, l, pNames p, rfl, z3, o1, by omega, o3, o4, fun r H4 s4 hrn hr4 => ?_⟩
    have hw4 : WellAt H4 a (n + 1 + k * 2) := hw3.keep fun o e => s4 _ _ e
    refine ⟨_, rfl, _, rfl, a, odd, _, rfl, ho1, by omega, hw4, by omega, fun x H5 x0 x1 sm5 hw5 => ?_⟩
    have nra : r ≠ a := fun e => by
      obtain ⟨o, e2⟩ := hw3.some
      rw [e, e2] at hrn; cases hrn
    have hr5 : H5 r = some (.lst ((nmB l).map V.str)) := sm5 _ _ (by simp [nra]) hr4
    have sm05 : Sm [a] H H5 := (sm3.trans (Sm.of_same s4)).trans sm5
    have hf5 : H5 f = some (.lst ((top :: st).map V.str)) := sm5 _ _ (by simp [hfa]) (s4 _ _ hf3)
    have hp5 := hp.on hw sm05
    have nl := nmB_len l
    have ni := nmB_ok l o1
    -- some: the callees or all functions
    refine ⟨rfl, _, rfl, ite2 (fun c => ?A) (fun c => ?B)⟩
    case' A =>
      obtain ⟨kvs, k1, k2⟩ := hp5
      refine ⟨_, rfl, d, kvs, rfl, .inl k1, fun r2 hr2 => ?_⟩
      rw [PrKv.names k2]
      have s6 := same_upd hr2 (.lst ((pNames p).map V.str))
      have hr6 : (upd H5 r2 (.lst ((pNames p).map V.str))) r2 = some (.lst ((pNames p).map V.str)) := upd_same
      have hpl := va.len
      have hnl : (pNames p).length ≤ 6 := by unfold pNames; rw [List.length_map]; exact hpl
      generalize upd H5 r2 (.lst ((pNames p).map V.str)) = H6 at s6 hr6 ⊢
      have sm06 := sm05.trans (Sm.of_same (W := [a]) s6)
      have hf6 := s6 _ _ hf5
      have hw6 : WellAt H6 a (n + 1 + k * 2 + 1) := hw5.keep fun o e => s6 _ _ e
      obtain ⟨some', hso⟩ : ∃ z, z = pNames p := ⟨_, rfl⟩
      have hni : ∀ x ∈ some', x ∈ pNames p := by rw [hso]; exact fun _ h => h
      rw [← hso] at hr6 hnl
      have nra2 : r2 ≠ a := fun e => by
        obtain ⟨o, e2⟩ := hw5.some
        rw [e, e2] at hr2; cases hr2
      clear hr5 nra hrn hr4
      obtain ⟨r, er⟩ : ∃ z, z = r2 := ⟨_, rfl⟩
      subst er
      have nra := nra2
    case' B =>
      obtain ⟨H6, eH6⟩ : ∃ z, z = H5 := ⟨_, rfl⟩
      have hr6 : H6 r = some (.lst ((nmB l).map V.str)) := by rw [eH6]; exact hr5
      have sm06 : Sm [a] H H6 := by rw [eH6]; exact sm05
      have hf6 : H6 f = some (.lst ((top :: st).map V.str)) := by rw [eH6]; exact hf5
      have hw6 : WellAt H6 a (n + 1 + k * 2 + 1) := by rw [eH6]; exact hw5
      have hnl : (nmB l).length ≤ 6 := by omega
      obtain ⟨some', hso⟩ : ∃ z, z = nmB l := ⟨_, rfl⟩
      have hni : ∀ x ∈ some', x ∈ pNames p := by rw [hso]; exact ni
      rw [← hso] at hr6 hnl
      rw [← eH6]
    all_goals
      refine ⟨_, rfl, Nat.zero_le _, fun e he => ?_⟩
      have s7 := same_upd he (.lst [])
      have he7 : (upd H6 e (.lst [])) e = some (.lst []) := upd_same
      generalize upd H6 e (.lst []) = H7 at s7 he7 ⊢
      have hr7 := s7 _ _ hr6
      have hf7 := s7 _ _ hf6
      have sm07 := sm06.trans (Sm.of_same (W := [a]) s7)
      have hw7 : WellAt H7 a (n + 1 + k * 2 + 1) := hw6.keep fun o e => s7 _ _ e
      have hkk : n + 1 + k * 2 + 1 + 1 = n + 1 + (k + 1) * 2 := by omega
      refine ⟨_, _, .lst (SqL.of hr7) (dp_strs some'), .lst (SqL.of he7) .nil, strs_shaped fun x hx => va.nm x (hni x hx), dt_shaped rfl (by decide), ?_⟩
      rw [eqv_nil]
      refine ⟨_, rfl, ite2 (fun c2 => ?_) (fun c2 => ?_)⟩
      · have hpos : 1 ≤ some'.length := by
          cases some' with
          | nil => exact absurd c2 (by simp)
          | cons _ _ => simp
        refine ⟨_, rfl, .inl ⟨rfl, _, SqL.of hf7⟩, _, rfl, _, rfl, _, rfl, _, _, rfl, .inl (SqL.of hr7), a, _, _, rfl, by rw [List.length_map]; omega, by rw [List.length_map]; omega, hw7, by omega, fun y H8 y0 y1 sm8 hw8 => ?_⟩
        rw [List.length_map] at y1
        have hy : y.toNat < some'.length := by omega
        have hr8 : H8 r = some (.lst (some'.map V.str)) := sm8 _ _ (by simp [nra]) hr7
        have hf8 : H8 f = some (.lst ((top :: st).map V.str)) := sm8 _ _ (by simp [hfa]) hf7
        refine ⟨r, _, _, .str some'[y.toNat], rfl, rfl, SqL.of hr8, at_of (j := y.toNat) (by omega) (by rw [List.getElem?_map, List.getElem?_eq_getElem hy]; rfl), ?_⟩
        refine ⟨f, _, _, rfl, rfl, hf8, small1000 (by rw [List.length_map, List.length_cons]; omega), ?_⟩
        refine ⟨_, _, st ++ [some'[y.toNat]], rfl, ?_, ?_, ?_, by rw [List.length_append, List.length_singleton]; omega, fun x hx => ?_⟩
        · intro z o hz e
          rw [upd_ne (ne_of_none e hf)]
          exact sm8 _ _ hz (sm07 _ _ hz e)
        · exact (hw8.keep fun o e => by rw [upd_ne hfa.symm]; exact e).mono (by omega)
        · rw [upd_same, ← List.cons_append, List.map_append]; rfl
        · rcases List.mem_append.mp hx with h | h
          · exact hin x h
          · rw [List.mem_singleton.mp h]
            exact hni _ (List.getElem_mem hy)
      · exact ⟨_, _, st, rfl, sm07, hw7.mono (by omega), hf7, by omega, hin⟩
  · rintro σ H3 ⟨v6, v7, st, rfl, sm3, hw3, hf3, hst, hin⟩
    refine ⟨_, rfl, _, _, rfl, .inl ⟨SqL.of hf3, fun t ht => ?_⟩⟩
    have s4 := same_upd ht (.tup ((top :: st).map V.str))
    exact q t st _ (sm3.trans (Sm.of_same s4)) ((hw3.keep fun o e => s4 _ _ e).mono (by omega)) upd_same (by omega) hin
end K13


set_option Elab.async false
set_option linter.all false
set_option maxRecDepth 100000
set_option maxHeartbeats 8000000
namespace K13
open PySem PySem.Spec PyProof.Rows L2 FA
variable {P : Program} {w : World} {K : PySem.W.Frag} {mg : Str → Option Value} {base : Heap}
/-! ### stacks as data -/
def dtS (st : List Str) : PyData := .tuple (st.map PyData.str)
theorem SksAt.dp {H : Hp} : ∀ {vs : List V} {l : List (List Str)}, SksAt H vs l → DpAll K H vs (l.map dtS)
  | _, _, .nil => .nil
  | _, _, .cons h t => .cons (.tup (SqT.of h) (dp_strs _)) t.dp
theorem dtS_lay {st : List Str} (h : ∀ x ∈ st, FA.okName x) : (dtS st).canLay0 = true := by
  simp only [dtS, PyData.canLay0]
  induction st with
  | nil => rfl
  | cons x r ih =>
    simp only [List.map_cons, PyData.canLayAll0, PyData.canLay0, (h x (by simp)).strOk, Bool.true_and]
    exact ih fun y hy => h y (List.mem_cons_of_mem _ hy)
theorem dtS_depth (st : List Str) : (dtS st).depth ≤ 1 := by
  have : ∀ ls : List Str, PyData.depthAll (ls.map PyData.str) = 0 := fun ls => by
    induction ls with
    | nil => rfl
    | cons x r ih => simp only [List.map_cons, PyData.depthAll, PyData.depth, ih]; rfl
  simp only [dtS, PyData.depth, this]
  omega
theorem sks_lay {l : List (List Str)} (h : ∀ st ∈ l, ∀ x ∈ st, FA.okName x) : PyData.canLayAll0 (l.map dtS) = true := by
  induction l with
  | nil => rfl
  | cons x r ih =>
    simp only [List.map_cons, PyData.canLayAll0, dtS_lay (h x (by simp)), Bool.true_and]
    exact ih fun y hy => h y (List.mem_cons_of_mem _ hy)
theorem sks_depth : ∀ l : List (List Str), PyData.depthAll (l.map dtS) ≤ 1
  | [] => by simp [PyData.depthAll]
  | x :: r => by
    have h1 := dtS_depth x
    have h2 := sks_depth r
    simp only [List.map_cons, PyData.depthAll]; omega
theorem sks_shaped {l : List (List Str)} (h : ∀ st ∈ l, ∀ x ∈ st, FA.okName x) : SeqAt.shaped (.list (l.map dtS)) = true := dt_shaped (sks_lay h) (by have := sks_depth l; omega)
/-! ### a slice, a sum of tuples, as new ones or not -/
theorem slA_of {H : Hp} {a : Addr} {xs : List V} {lo hi : Option Int} {Q : VK} (h : H a = some (.tup xs)) (q : ∀ t H', Same H H' → H' t = some (.tup (cutV xs lo hi)) → Q (.ref t) H') : rSlA K (.ref a) lo hi H Q := by
  refine ⟨a, xs, rfl, SqT.of h, fun z => q a H (Same.refl _) ?_, fun _ p hp => q p _ (same_upd hp _) upd_same⟩
  have e : cutV xs lo hi = xs := by
    unfold cutV
    rw [z.1, z.2, List.drop_zero, Nat.sub_zero, List.take_length]
  rw [e]; exact h
theorem catT_of {H : Hp} {a b : Addr} {xs ys : List V} {Q : VK} (h1 : H a = some (.tup xs)) (h2 : H b = some (.tup ys)) (hx : xs ≠ []) (hl : xs.length + ys.length ≤ 1000) (q : ∀ t H', Same H H' → H' t = some (.tup (xs ++ ys)) → Q (.ref t) H') : rCatT K (.ref a) (.ref b) H Q :=
  ⟨a, b, xs, ys, rfl, rfl, SqT.of h1, SqT.of h2, hx, Nat.le_of_lt (small1000 hl), fun z => q a H (Same.refl _) (by rw [z, List.append_nil]; exact h1), fun _ p hp => q p _ (same_upd hp _) upd_same⟩
theorem Sm.tups {W : List Addr} {H H' : Hp} (s : Sm W H H') (k : ∀ x ∈ W, ∃ xs, H x = some (.lst xs)) : ∀ t xs, H t = some (.tup xs) → H' t = some (.tup xs) := fun t xs e => s t _ (fun z => by
  obtain ⟨ys, e2⟩ := k t z
  rw [e] at e2; cases e2) e
theorem WellAt.lst {H : Hp} {a : Addr} {n : Nat} (h : WellAt H a n) : ∀ x ∈ [a], ∃ xs, H x = Option.some (HO.lst xs) := fun x hx => by
  rw [List.mem_singleton.mp hx]
  obtain ⟨x, y, z, h1, _⟩ := h
  exact ⟨_, h1⟩
theorem cut1 {z : Str} {st : List Str} (h : st.length ≤ 900) : cutV ((z :: st).map V.str) (some 1) none = st.map V.str := by
  rw [show (1 : Int) = ((1 : Nat) : Int) from rfl, cut_from (by simp)]
  rfl
/-- what was drawn -/
structure Drawn (p : Pr) (top : Str) (l : List (List Str)) : Prop where
  nm : ∀ st ∈ l, ∀ x ∈ st, x ∈ pNames p
  hd : ∀ st ∈ l, ∃ r, st = top :: r
  len : ∀ st ∈ l, st.length ≤ 5
theorem Drawn.snoc {p : Pr} {top : Str} {l : List (List Str)} {r : List Str} (h : Drawn p top l) (h1 : top ∈ pNames p) (h2 : ∀ x ∈ r, x ∈ pNames p) (h3 : r.length ≤ 4) : Drawn p top (l ++ [top :: r]) := by
  refine ⟨fun st hs x hx => ?_, fun st hs => ?_, fun st hs => ?_⟩
  all_goals rcases List.mem_append.mp hs with hs | hs
  · exact h.nm st hs x hx
  · rw [List.mem_singleton.mp hs] at hx
    rcases List.mem_cons.mp hx with rfl | hx
    · exact h1
    · exact h2 x hx
  · exact h.hd st hs
  · exact ⟨r, List.mem_singleton.mp hs⟩
  · exact h.len st hs
  · rw [List.mem_singleton.mp hs, List.length_cons]; omega
def spLStacks : Sp := fun vs H Q _ => ∃ (a d : Addr) (p : Pr) (top : Str) (size odd : Int) (n : Nat), vs = [.ref a, .ref d, .str top, .int size, .int odd] ∧ WellAt H a n ∧ n + 30000 ≤ 2 ^ 80 ∧ PrW H a d p ∧ Valid p ∧ top ∈ pNames p ∧ 0 ≤ size ∧ size ≤ 200 ∧ 1 ≤ odd ∧ odd ≤ 100 ∧
  ∀ r ws sks H', Sm [a] H H' → WellAt H' a (n + 30000) → H r = none → H' r = some (.lst ws) → SksAt H' ws sks → Drawn p top sks → (sks.length : Int) = size → Q (.ref r) H'
theorem okLStacks (T : Txt K mg) : FnOk P w K mg base CX0 7 T.aLStacks T.fLStacks ["spring", "program", "top", "size", "odd"] spLStacks := by
  have GLDraw : FnOk P w K mg base CX0 1 T.aLDraw T.fLDraw ["spring", "many"] spDraw := okDraw T
  have GLStack : FnOk P w K mg base CX0 6 T.aLStack T.fLStack ["spring", "program", "top", "deep", "odd"] spLStack := okLStack T
  refine T.FLStacks.ok scLStacks (fun vs H Q E h => ?_) (fun cdv A outer s H vs Q E hr h => ?_)
  · obtain ⟨a, d, p, top, size, odd, n, rfl, _⟩ := h
    rfl
  obtain ⟨a, d, p, top, size, odd, n, rfl, hw, hn, hp, va, htop, hs0, hs2, ho1, ho9, q⟩ := h
  have hu := hu_of hr
  refine ⟨_, (pss_cons (ps_par (i := 6) (j := 7) (by rfl) scLStacks.nd rfl rfl (by decide) rfl rfl (pa_cons (pe_lst pa_nil) (pa_cons (pe_op op_add pe_int (pe_call GLDraw (hr.mono (by omega)) rfl T.gLDraw T.FLDraw.kp T.bLDraw .nil pass0 (pa_cons (pv 0) (pa_cons pe_int pa_nil)))) pa_nil)) (by rfl))
      (pss_cons (ps_for PassesOwn.never rfl (pi_range1 (by rfl) T.n_range (pa_cons (pv 3) pa_nil)) (pg_name (i := 5) scLStacks.nd rfl (by first | exact Or.inl rfl | exact Or.inr rfl))
        (pss_cons (ps_par (i := 8) (j := 9) (by rfl) scLStacks.nd rfl rfl (by decide) rfl rfl (pa_cons (pe_call GLDraw (hr.mono (by omega)) rfl T.gLDraw T.FLDraw.kp T.bLDraw .nil pass0 (pa_cons (pv 0) (pa_cons pe_int pa_nil))) (pa_cons (pe_ifExp (pt_cmpR (op_neD hr.units) (pv 6) (pe_lst pa_nil) (nomark _)) (pe_ix ix_list (pv 6) (pe_un un_neg pe_int) (fun _ _ => rfl)) (pe_tup (pa_cons (pv 2) pa_nil))) pa_nil)) (by rfl))
        (pss_one (ps_if (PW.pt (pw_or (pt_cmpR op_eq (pv 8) pe_int (nomark _)) (pw_or1 (pt_cmpR (op_eqD hr.units) (pv 6) (pe_lst pa_nil) (nomark _)))))
          (pss_one (ps_expr (pe_bm PySem.F.plainAttrs_list PySem.F.slot_list_append PySem.F.type_list_append mt_append (pv 6) (pa_cons (pe_call GLStack (hr.mono (by omega)) rfl T.gLStack T.FLStack.kp T.bLStack .nil pass0 (pa_cons (pv 0) (pa_cons (pv 1) (pa_cons (pv 2) (pa_cons (pv 7) (pa_cons (pv 4) pa_nil)))))) pa_nil)))) (pss_one (ps_if (pt_cmpR op_eq (pv 8) pe_int (nomark _))
            (pss_one (ps_expr (pe_bm PySem.F.plainAttrs_list PySem.F.slot_list_append PySem.F.type_list_append mt_append (pv 6) (pa_cons (pe_slice sl_tupA (pv 9) po_none (po_some (pe_op op_add pe_int (pe_call GLDraw (hr.mono (by omega)) rfl T.gLDraw T.FLDraw.kp T.bLDraw .nil pass0 (pa_cons (pv 0) (pa_cons (pe_callB call_len_seq (by rfl) T.n_len PySem.boot_len (pa_cons (pv 9) pa_nil)) pa_nil)))))) pa_nil)))) (pss_one (ps_if (PW.pt (pw_and (pt_cmpR op_eq (pv 8) pe_int (nomark _)) (pw_and1 (pt_cmpR op_lt (pe_callB call_len_seq (by rfl) T.n_len PySem.boot_len (pa_cons (pv 9) pa_nil)) pe_int (nomark _)))))
              (pss_one (ps_expr (pe_bm PySem.F.plainAttrs_list PySem.F.slot_list_append PySem.F.type_list_append mt_append (pv 6) (pa_cons (pe_op op_catT (pv 9) (pe_slice sl_tupA (pe_call GLStack (hr.mono (by omega)) rfl T.gLStack T.FLStack.kp T.bLStack .nil pass0 (pa_cons (pv 0) (pa_cons (pv 1) (pa_cons (pe_ix ix_tup (pv 9) (pe_un un_neg pe_int) (fun _ _ => rfl)) (pa_cons pe_int (pa_cons (pv 4) pa_nil)))))) (po_some pe_int) po_none)) pa_nil)))) (pss_cons (ps_set (i := 10) scLStacks.nd rfl (by first | exact Or.inl rfl | exact Or.inr rfl) (pe_op op_add pe_int (pe_call GLDraw (hr.mono (by omega)) rfl T.gLDraw T.FLDraw.kp T.bLDraw .nil pass0 (pa_cons (pv 0) (pa_cons (pe_callB call_len_seq (by rfl) T.n_len PySem.boot_len (pa_cons (pv 9) pa_nil)) pa_nil)))))
              (pss_one (ps_expr (pe_bm PySem.F.plainAttrs_list PySem.F.slot_list_append PySem.F.type_list_append mt_append (pv 6) (pa_cons (pe_op op_catT (pe_slice sl_tupA (pv 9) po_none (po_some (pv 10))) (pe_slice sl_tupA (pe_call GLStack (hr.mono (by omega)) rfl T.gLStack T.FLStack.kp T.bLStack .nil pass0 (pa_cons (pv 0) (pa_cons (pv 1) (pa_cons (pe_ix ix_tup (pv 9) (pe_op op_sub (pv 10) pe_int) (fun _ _ => rfl)) (pa_cons (pe_callB (call_max2 rfl) (by rfl) T.n_max (by decide +kernel) (pa_cons pe_int (pa_cons (pe_op op_sub pe_int (pv 10)) pa_nil))) (pa_cons (pv 4) pa_nil)))))) (po_some pe_int) po_none)) pa_nil)))))))))))))
      (pss_one (ps_ret (pv 6))))), ?_⟩
  obtain ⟨ow, how⟩ := hw.some
  refine ⟨Nat.zero_le _, fun f hf => ?_⟩
  have s1 := same_upd hf (.lst [])
  have hfa : f ≠ a := (ne_of_none how hf).symm
  refine ⟨_, rfl, a, 4, n, rfl, by decide, by decide, hw.keep fun o e => s1 _ _ e, by omega, fun dp H2 dp0 dp1 sm2 hw2 => ?_⟩
  refine ⟨_, _, rfl, rfl, _, _, rfl, ?_⟩
  have hf2 : H2 f = some (.lst []) := sm2 _ _ (by simp [hfa]) upd_same
  have sm02 : Sm [a] H H2 := (Sm.of_same s1).trans sm2
  refine ⟨_, rfl, size, rfl, by omega, by omega, ?_⟩
  refine for_range (lo := 0) (n := size.toNat) (fun k σ H' => ∃ v5 v8 v9 v10 ws sks, σ = [some (.ref a), some (.ref d), some (.str top), some (.int size), some (.int odd), v5, some (.ref f), some (.int (1 + dp)), v8, v9, v10] ∧ Sm [a] H H' ∧ WellAt H' a (n + 1 + k * 110) ∧ H' f = some (.lst ws) ∧ SksAt H' ws sks ∧ Drawn p top sks ∧ sks.length = k) ⟨none, none, none, none, [], [], rfl, sm02, hw2.mono (by omega), hf2, .nil, ⟨by simp, by simp, by simp⟩, rfl⟩ ?_ ?_
  · rintro k σ H3 hk ⟨v5, v8, v9, v10, ws, sks, rfl, sm3, hw3, hf3, hsk3, dr, hkl⟩
    have hk2 : k < 200 := by omega
    obtain ⟨m0, hm0⟩ : ∃ m0, m0 = n + 1 + k * 110 := ⟨_, rfl⟩
    have hms : m0 + 110 = n + 1 + (k + 1) * 110 := by omega
    rw [← hm0] at hw3
    have hwl := hsk3.length
    -- one more
    have more : ∀ (H5 : Hp) (t : Addr) (st : List Str) (v5 v8 v9 v10 : Option V), Sm [a] H3 H5 → WellAt H5 a (m0 + 110) → H5 t = some (.tup ((top :: st).map V.str)) → (∀ x ∈ st, x ∈ pNames p) → st.length ≤ 4 →
        ∃ v5' v8' v9' v10' ws' sks', ([some (.ref a), some (.ref d), some (.str top), some (.int size), some (.int odd), v5, some (.ref f), some (.int (1 + dp)), v8, v9, v10] : L2.St) = [some (.ref a), some (.ref d), some (.str top), some (.int size), some (.int odd), v5', some (.ref f), some (.int (1 + dp)), v8', v9', v10'] ∧ Sm [a] H (upd H5 f (.lst (ws ++ [.ref t]))) ∧ WellAt (upd H5 f (.lst (ws ++ [.ref t]))) a (n + 1 + (k + 1) * 110) ∧
          (upd H5 f (.lst (ws ++ [.ref t]))) f = some (.lst ws') ∧ SksAt (upd H5 f (.lst (ws ++ [.ref t]))) ws' sks' ∧ Drawn p top sks' ∧ sks'.length = k + 1 := by
      intro H5 t st v5 v8 v9 v10 sm5 hw5 ht hin hl4
      have tk : ∀ x xs, H5 x = some (.tup xs) → (upd H5 f (.lst (ws ++ [.ref t]))) x = some (.tup xs) := fun x xs e => by
        rw [upd_ne]
        · exact e
        · rintro rfl
          rw [sm5 _ _ (by simp [hfa]) hf3] at e; cases e
      refine ⟨v5, v8, v9, v10, ws ++ [.ref t], sks ++ [top :: st], rfl, fun b o hb e => ?_, ?_, upd_same, ((hsk3.keep (Sm.tups sm5 hw3.lst)).snoc ht).keep tk, dr.snoc htop hin hl4, by rw [List.length_append, List.length_singleton, hkl]⟩
      · rw [upd_ne (ne_of_none e hf)]
        exact sm5 _ _ hb (sm3 _ _ hb e)
      · rw [← hms]
        exact hw5.keep fun o e => by rw [upd_ne hfa.symm]; exact e
    refine ⟨_, rfl, a, 4, m0, rfl, by decide, by decide, hw3, by omega, fun way H4 wy0 wy1 sm4 hw4 => ?_⟩
    have hf4 : H4 f = some (.lst ws) := sm4 _ _ (by simp [hfa]) hf3
    have hsk4 := hsk3.keep (Sm.tups sm4 hw3.lst)
    refine ⟨_, rfl, Nat.zero_le _, fun e he => ?_⟩
    have s5 := same_upd he (.lst [])
    have he5 : (upd H4 e (.lst [])) e = some (.lst []) := upd_same
    generalize upd H4 e (.lst []) = H5 at s5 he5 ⊢
    have hf5 := s5 _ _ hf4
    have hsk5 := hsk4.keep fun t xs e => s5 t _ e
    have okn : ∀ st ∈ sks, ∀ x ∈ st, FA.okName x := fun st hst x hx => va.nm x (dr.nm st hst x hx)
    refine ⟨_, _, .lst (SqL.of hf5) hsk5.dp, .lst (SqL.of he5) .nil, sks_shaped okn, dt_shaped rfl (by decide), ?_⟩
    rw [eqv_nil]
    have sm35 : Sm [a] H3 H5 := sm4.trans (Sm.of_same s5)
    have hw5 : WellAt H5 a (m0 + 1) := hw4.keep fun o e => s5 _ _ e
    clear hf4 hsk4 sm4 hw4 s5 he5 he
    refine ⟨_, rfl, ite2 (fun c => ?A) (fun c => ?B)⟩
    case' A =>
      obtain ⟨t, st, hlast, ht, hin, hl⟩ : ∃ (t : Addr) (st : List Str), atI ws (-1) = some (.ref t) ∧ H5 t = some (.tup ((top :: st).map V.str)) ∧ (∀ x ∈ st, x ∈ pNames p) ∧ st.length ≤ 4 := by
        rcases (List.eq_nil_or_concat ws).imp id (fun ⟨a, b, e⟩ => (⟨a, b, e.trans List.concat_eq_append⟩ : ∃ a b, ws = a ++ [b])) with h | ⟨u, z, e⟩
        · rw [h] at hwl
          have : sks = [] := List.eq_nil_of_length_eq_zero (by simpa using hwl.symm)
          rw [this] at c
          exact absurd c (by simp)
        · obtain ⟨t, st, h1, h2, h3⟩ := hsk5.get (i := ws.length - 1) (v := z) (by rw [e]; simp)
          have hm := List.mem_of_getElem? h2
          obtain ⟨r, hr⟩ := dr.hd st hm
          have h5 := dr.len st hm
          rw [hr] at h3 h5
          refine ⟨t, r, by rw [e, h1]; exact atI_last _ _, h3, fun x hx => dr.nm st hm x (by rw [hr]; exact List.mem_cons_of_mem _ hx), ?_⟩
          rw [List.length_cons] at h5; omega
      refine ⟨_, rfl, _, rfl, _, _, _, .ref t, rfl, rfl, SqL.of hf5, hlast, ?_⟩
      obtain ⟨H6, eH6⟩ : ∃ z, z = H5 := ⟨_, rfl⟩
      subst eH6
      clear hlast
    case' B =>
      refine ⟨_, rfl, Nat.le_of_lt (small1000 (by simp)), fun t ht0 => ?_⟩
      have s6 := same_upd ht0 (.tup [V.str top])
      have ht : (upd H5 t (.tup [V.str top])) t = some (.tup ((([top] : List Str)).map V.str)) := upd_same
      generalize upd H5 t (.tup [V.str top]) = H6 at s6 ht ⊢
      obtain ⟨st, hst⟩ : ∃ z : List Str, z = [] := ⟨_, rfl⟩
      rw [← hst] at ht
      have hin : ∀ x ∈ st, x ∈ pNames p := by rw [hst]; simp
      have hl : st.length ≤ 4 := by rw [hst]; simp
      have hf6 := s6 _ _ hf5
      have hsk6 := hsk5.keep fun t xs e => s6 t _ e
      have sm36 := sm35.trans (Sm.of_same (W := [a]) s6)
      have hw6 : WellAt H6 a (m0 + 1) := hw5.keep fun o e => s6 _ _ e
      clear hf5 hsk5 sm35 hw5 s6 ht0 hst
      have hf5 := hf6
      have hsk5 := hsk6
      have sm35 := sm36
      have hw5 := hw6
      clear hf6 hsk6 sm36 hw6
    all_goals
      have hlm : ((top :: st).map V.str).length = st.length + 1 := by rw [List.length_map, List.length_cons]
      refine ⟨_, _, rfl, ?_⟩
      refine ⟨_, rfl, rfl, _, rfl, ite2 (fun c0 => ?_) (fun c0 => ?_)⟩
      rotate_left
      refine ⟨_, rfl, Nat.zero_le _, fun e he => ?_⟩
      have s7 := same_upd he (.lst [])
      have he7 : (upd H6 e (.lst [])) e = some (.lst []) := upd_same
      generalize upd H6 e (.lst []) = H7 at s7 he7 ⊢
      have hf7 := s7 _ _ hf5
      have hsk7 := hsk5.keep fun t xs e => s7 t _ e
      have sm37 := sm35.trans (Sm.of_same (W := [a]) s7)
      have hw7 : WellAt H7 a (m0 + 1) := hw5.keep fun o e => s7 _ _ e
      have ht7 := s7 _ _ ht
      refine ⟨_, _, .lst (SqL.of hf7) hsk7.dp, .lst (SqL.of he7) .nil, sks_shaped okn, dt_shaped rfl (by decide), ?_⟩
      rw [eqv_nil]
      refine ⟨_, rfl, ite2 (fun c1 => ?_) (fun c1 => ?_)⟩
      rotate_right
      · have hp6 := hp.on hw (sm3.trans sm35)
        refine ⟨_, rfl, .inl ⟨rfl, _, SqL.of hf5⟩, _, rfl, _, rfl, _, rfl, _, rfl, _, rfl, a, d, p, top, 1 + dp, odd, m0 + 1, rfl, hw5, by omega, hp6, va, htop, by omega, by omega, ho1, ho9, fun t2 st2 H8 sm8 hw8 ht8 hl8 hin8 => ?_⟩
        have hf8 : H8 f = some (.lst ws) := sm8 _ _ (by simp [hfa]) hf5
        refine ⟨f, _, _, rfl, rfl, hf8, small1000 (by omega), ?_⟩
        exact more H8 t2 st2 _ _ _ _ (sm35.trans sm8) (hw8.mono (by omega)) ht8 hin8 (by omega)
      · have hp6 := hp.on hw (sm3.trans sm37)
        refine ⟨_, rfl, .inl ⟨rfl, _, SqL.of hf7⟩, _, rfl, _, rfl, _, rfl, _, rfl, _, rfl, a, d, p, top, 1 + dp, odd, m0 + 1, rfl, hw7, by omega, hp6, va, htop, by omega, by omega, ho1, ho9, fun t2 st2 H8 sm8 hw8 ht8 hl8 hin8 => ?_⟩
        have hf8 : H8 f = some (.lst ws) := sm8 _ _ (by simp [hfa]) hf7
        refine ⟨f, _, _, rfl, rfl, hf8, small1000 (by omega), ?_⟩
        exact more H8 t2 st2 _ _ _ _ (sm37.trans sm8) (hw8.mono (by omega)) ht8 hin8 (by omega)
      · refine ⟨_, rfl, rfl, _, rfl, ite2 (fun c2 => ?_) (fun c2 => ?_)⟩
        · -- a beginning of the last one
          refine ⟨_, rfl, .inl ⟨rfl, _, SqL.of hf7⟩, _, rfl, _, rfl, _, rfl, _, _, rfl, .inr (SqT.of ht7), a, _, m0 + 1, rfl, by omega, by omega, hw7, by omega, fun x H8 x0 x1 sm8 hw8 => ?_⟩
          have ht8 := Sm.tups sm8 hw7.lst _ _ ht7
          have hf8 : H8 f = some (.lst ws) := sm8 _ _ (by simp [hfa]) hf7
          refine ⟨_, _, rfl, rfl, _, rfl, slA_of ht8 fun t2 H9 s9 ht9 => ?_⟩
          refine ⟨f, _, _, rfl, rfl, s9 _ _ hf8, small1000 (by omega), ?_⟩
          have ec : cutV ((top :: st).map V.str) none (some (1 + x)) = (top :: st.take x.toNat).map V.str := by
            rw [show (1 : Int) + x = ((x.toNat + 1 : Nat) : Int) by omega, cut_to', ← List.map_take, List.take_succ_cons]
          rw [ec] at ht9
          exact more H9 t2 (st.take x.toNat) _ _ _ _ (sm37.trans (sm8.trans (Sm.of_same s9))) ((hw8.mono (by omega)).keep fun o e => s9 _ _ e) ht9 (fun y hy => hin y (List.mem_of_mem_take hy)) (by rw [List.length_take]; omega)
        · refine ⟨_, rfl, rfl, _, rfl, ite2 (fun c3 => ?_) (fun c3 => iteF ?_)⟩
          refine ⟨_, rfl, _, _, rfl, .inr (SqT.of ht7), _, _, rfl, rfl, _, rfl, ite2 (fun c4 => ?_) (fun c4 => ?_)⟩
          · -- one deeper than the last one
            have c4 := of_decide_eq_true c4
            have hp7 := hp.on hw (sm3.trans sm37)
            obtain ⟨z, hz, hzin⟩ : ∃ z, atI ((top :: st).map V.str) (-1) = some (.str z) ∧ z ∈ pNames p := by
              rcases (List.eq_nil_or_concat (top :: st)).imp id (fun ⟨a, b, e⟩ => (⟨a, b, e.trans List.concat_eq_append⟩ : ∃ a b, top :: st = a ++ [b])) with h | ⟨u, z, e⟩
              · cases h
              · rw [e, List.map_append]
                refine ⟨z, atI_last _ _, ?_⟩
                have : z ∈ top :: st := by rw [e]; simp
                rcases List.mem_cons.mp this with rfl | h
                · exact htop
                · exact hin z h
            refine ⟨_, rfl, .inl ⟨rfl, _, SqL.of hf7⟩, _, rfl, _, rfl, _, rfl, _, rfl, _, rfl, _, _, _, .str z, rfl, rfl, SqT.of ht7, hz, _, rfl, a, d, p, z, 2, odd, m0 + 1, rfl, hw7, by omega, hp7, va, hzin, by omega, by omega, ho1, ho9, fun t2 st2 H8 sm8 hw8 ht8 hl8 hin8 => ?_⟩
            have ht7' := Sm.tups sm8 hw7.lst _ _ ht7
            have hf8 : H8 f = some (.lst ws) := sm8 _ _ (by simp [hfa]) hf7
            refine ⟨_, rfl, ?_⟩
            dsimp only [tNoPart]
            refine slA_of ht8 fun t3 H9 s9 ht9 => ?_
            rw [cut1 (by omega)] at ht9
            refine catT_of (s9 _ _ ht7') ht9 (by simp) (by rw [hlm, List.length_map]; omega) fun t4 H10 s10 ht10 => ?_
            have s810 := s9.trans s10
            refine ⟨f, _, _, rfl, rfl, s810 _ _ hf8, small1000 (by omega), ?_⟩
            rw [← List.map_append, List.cons_append] at ht10
            exact more H10 t4 (st ++ st2) _ _ _ _ (sm37.trans (sm8.trans (Sm.of_same s810))) ((hw8.mono (by omega)).keep fun o e => s810 _ _ e) ht10 (fun y hy => (List.mem_append.mp hy).elim (hin y) (hin8 y)) (by rw [List.length_append]; omega)
          all_goals
            -- a beginning of it and something else
            refine ⟨_, rfl, _, rfl, _, _, rfl, .inr (SqT.of ht7), a, _, m0 + 1, rfl, by omega, by omega, hw7, by omega, fun x H8 x0 x1 sm8 hw8 => ?_⟩
            have ht8 := Sm.tups sm8 hw7.lst _ _ ht7
            have hf8 : H8 f = some (.lst ws) := sm8 _ _ (by simp [hfa]) hf7
            have sm38 := sm37.trans sm8
            have hp8 := hp.on hw (sm3.trans sm38)
            refine ⟨_, _, rfl, rfl, ?_⟩
            refine ⟨_, rfl, .inl ⟨rfl, _, SqL.of hf8⟩, _, rfl, _, rfl, _, rfl, slA_of ht8 fun t2 H9 s9 ht9 => ?_⟩
            have ec : cutV ((top :: st).map V.str) none (some (1 + x)) = (top :: st.take x.toNat).map V.str := by
              rw [show (1 : Int) + x = ((x.toNat + 1 : Nat) : Int) by omega, cut_to', ← List.map_take, List.take_succ_cons]
            rw [ec] at ht9
            have hxl : x.toNat < (top :: st).length := by rw [List.length_cons]; omega
            have hzin : (top :: st)[x.toNat] ∈ pNames p := by
              rcases List.mem_cons.mp (List.getElem_mem hxl) with h | h
              · rw [h]; exact htop
              · exact hin _ h
            have hw9 : WellAt H9 a (m0 + 2) := hw8.keep fun o e => s9 _ _ e
            have hp9 := hp8.on hw8 (Sm.of_same s9)
            have emax : ∃ dd : Int, (if 5 - (1 + x) > 1 then 5 - (1 + x) else 1) = dd ∧ 1 ≤ dd ∧ dd ≤ 5 ∧ dd ≤ max 1 (4 - x) := by
              refine ⟨_, rfl, ?_, ?_, ?_⟩ <;> split <;> omega
            obtain ⟨dd, edd, dd1, dd5, ddm⟩ := emax
            refine ⟨_, rfl, _, rfl, _, rfl, _, rfl, _, _, rfl, rfl, _, _, _, .str (top :: st)[x.toNat], rfl, rfl, SqT.of (s9 _ _ ht8), at_of (j := x.toNat) (by omega) (by rw [List.getElem?_map, List.getElem?_eq_getElem hxl]; rfl), _, rfl, _, _, rfl, rfl, _, _, rfl, _, rfl, a, d, p, _, dd, odd, m0 + 2, congrArg (fun z => [V.ref a, V.ref d, V.str (top :: st)[x.toNat], V.int z, V.int odd]) edd, hw9, by omega, hp9, va, hzin, by omega, by omega, ho1, ho9, fun t3 st3 H10 sm10 hw10 ht10 hl10 hin10 => ?_⟩
            have ht9' := Sm.tups sm10 hw9.lst _ _ ht9
            have hf10 : H10 f = some (.lst ws) := sm10 _ _ (by simp [hfa]) (s9 _ _ hf8)
            refine ⟨_, rfl, ?_⟩
            dsimp only [tNoPart]
            refine slA_of ht10 fun t4 H11 s11 ht11 => ?_
            rw [cut1 (by omega)] at ht11
            have htl : (st.take x.toNat).length ≤ 4 := by rw [List.length_take]; omega
            refine catT_of (s11 _ _ ht9') ht11 (by simp) (by rw [List.length_map, List.length_map, List.length_cons]; omega) fun t5 H12 s12 ht12 => ?_
            have s1012 := s11.trans s12
            refine ⟨f, _, _, rfl, rfl, s1012 _ _ hf10, small1000 (by omega), ?_⟩
            rw [← List.map_append, List.cons_append] at ht12
            exact more H12 t5 (st.take x.toNat ++ st3) _ _ _ _ (sm38.trans ((Sm.of_same s9).trans (sm10.trans (Sm.of_same s1012)))) ((hw10.mono (by omega)).keep fun o e => s1012 _ _ e) ht12 (fun y hy => (List.mem_append.mp hy).elim (fun h => hin y (List.mem_of_mem_take h)) (hin10 y)) (by rw [List.length_append, List.length_take]; omega)
  · rintro σ H3 ⟨v5, v8, v9, v10, ws, sks, rfl, sm3, hw3, hf3, hsk3, dr, hkl⟩
    exact ⟨_, rfl, q f ws sks H3 sm3 (hw3.mono (by omega)) hf hf3 hsk3 dr (by omega)⟩
end K13


set_option Elab.async false
set_option linter.all false
set_option maxRecDepth 100000
set_option maxHeartbeats 8000000
namespace K13
open PySem PySem.Spec PyProof.Rows L2 FA
variable {P : Program} {w : World} {K : PySem.W.Frag} {mg : Str → Option Value} {base : Heap}
/-! ### stacks as data -/
theorem dtP_show (p : Pr) : (dtP p).showable = true := by
  have h : ∀ p : Pr, PyData.showableKv (p.map fun q => (PyData.str q.1, PyData.list (dtB q.2))) = true := fun p => by
    induction p with
    | nil => rfl
    | cons q r ih => simp only [List.map_cons, PyData.showableKv, PyData.showable, dtB_show q.2, ih, Bool.and_self]
  simp only [dtP, PyData.showable]
  exact h p
theorem dtP_depth {p : Pr} (h : ∀ q ∈ p, dB q.2 ≤ 4) : (dtP p).depth ≤ 60 := by
  have key : ∀ p : Pr, (∀ q ∈ p, dB q.2 ≤ 4) → PyData.depthKv (p.map fun q => (PyData.str q.1, PyData.list (dtB q.2))) ≤ 20 := fun p => by
    induction p with
    | nil => intro _; simp [PyData.depthKv]
    | cons q r ih =>
      intro h
      have h1 := dtB_depth q.2
      have h2 := h q (by simp)
      have h3 := ih fun u hu => h u (List.mem_cons_of_mem _ hu)
      simp only [List.map_cons, PyData.depthKv, PyData.depth]
      omega
  have := key p h
  simp only [dtP, PyData.depth]
  omega
theorem dtP_short {ns : List Str} (hn : ∀ x ∈ ns, FA.okName x) {p : Pr} (h : ∀ q ∈ p, q.1 ∈ ns ∧ okB ns q.2) : (dtP p).leavesShort 13 = true := by
  have key : ∀ p : Pr, (∀ q ∈ p, q.1 ∈ ns ∧ okB ns q.2) → PyData.leavesShortKv 13 (p.map fun q => (PyData.str q.1, PyData.list (dtB q.2))) = true := fun p => by
    induction p with
    | nil => intro _; rfl
    | cons q r ih =>
      intro h
      have h2 := h q (by simp)
      have h3 := ih fun u hu => h u (List.mem_cons_of_mem _ hu)
      have h4 := (hn _ h2.1).short
      have h5 := dtB_short hn q.2 h2.2
      simp only [List.map_cons, PyData.leavesShortKv, PyData.leavesShort, h3, h4, h5, Bool.and_self]
  simp only [dtP, PyData.leavesShort]
  exact key p h
theorem dtP_bulk {ns : List Str} (hn : ∀ x ∈ ns, FA.okName x) {p : Pr} (h : ∀ q ∈ p, q.1 ∈ ns ∧ okB ns q.2 ∧ nIB q.2 ≤ 12) : (dtP p).bulk ≤ 500 * p.length := by
  have key : ∀ p : Pr, (∀ q ∈ p, q.1 ∈ ns ∧ okB ns q.2 ∧ nIB q.2 ≤ 12) → PyData.bulkKv (p.map fun q => (PyData.str q.1, PyData.list (dtB q.2))) ≤ 500 * p.length := fun p => by
    induction p with
    | nil => intro _; simp [PyData.bulkKv]
    | cons q r ih =>
      intro h
      have h2 := h q (by simp)
      have h3 := ih fun u hu => h u (List.mem_cons_of_mem _ hu)
      have h4 : q.1.cps.size ≤ 8 := (hn _ h2.1).2.1
      have h5 := dtB_bulk hn q.2 h2.2.1
      simp only [List.map_cons, PyData.bulkKv, PyData.bulk, List.length_cons]
      omega
  simp only [dtP, PyData.bulk]
  exact key p h
theorem Valid.mem {p : Pr} (va : Valid p) {q : Str × Bd} (h : q ∈ p) : q.1 ∈ pNames p ∧ okB (pNames p) q.2 ∧ nIB q.2 ≤ 12 ∧ dB q.2 ≤ 4 := by
  obtain ⟨o1, o2, o3, o4⟩ := va.ok q.1 q.2 (look_nd va.nd h)
  exact ⟨List.mem_map.mpr ⟨q, h, rfl⟩, o1, o3, o4⟩
theorem dtP_fits {p : Pr} (va : Valid p) : (dtP p).shown.length ≤ sizeLine := by
  refine PyData.shown_fits_bulk (B := 13) (by decide) (by decide) (dtP_short va.nm fun q hq => ⟨(va.mem hq).1, (va.mem hq).2.1⟩) ?_
  have h1 := dtP_bulk va.nm (p := p) fun q hq => ⟨(va.mem hq).1, (va.mem hq).2.1, (va.mem hq).2.2.1⟩
  have h2 := va.len
  have h3 : (2 : Nat) ^ 20 = 1048576 := by decide
  omega
end K13


set_option Elab.async false
set_option linter.all false
set_option maxRecDepth 100000
set_option maxHeartbeats 8000000
namespace K13
open PySem PySem.Spec PyProof.Rows L2 FA
variable {P : Program} {w : World} {K : PySem.W.Frag} {mg : Str → Option Value} {base : Heap}
/-! ### regions -/
abbrev Rg := Str × Nat × Nat
/-- does the last region go on? -/
def goesOn (acc : List Rg) (i : Nat) (y : Str) : Option Rg := match acc.getLast? with
  | some r => if r.1 = y ∧ r.2.2 + 1 = i then some r else none
  | none => none
def rgStep (acc : List Rg) (i : Nat) (st : List Str) : List Rg := match st with
  | _ :: y :: _ => match goesOn acc i y with
    | some r => acc.dropLast ++ [(y, r.2.1, i)]
    | none => acc ++ [(y, i, i)]
  | _ => acc
def rgTo (sks : List (List Str)) : Nat → List Rg
  | 0 => []
  | i + 1 => match sks[i]? with
    | some st => rgStep (rgTo sks i) i st
    | none => rgTo sks i
theorem rgTo_succ {sks : List (List Str)} {i : Nat} {st : List Str} (h : sks[i]? = some st) : rgTo sks (i + 1) = rgStep (rgTo sks i) i st := by
  simp only [rgTo, h]
theorem rgTo_len (sks : List (List Str)) : ∀ i, (rgTo sks i).length ≤ i
  | 0 => by simp [rgTo]
  | i + 1 => by
    have ih := rgTo_len sks i
    simp only [rgTo]
    split
    · rename_i st _
      unfold rgStep
      split
      · split
        · rename_i r hr
          have : (rgTo sks i) ≠ [] := by
            intro z
            rw [z] at hr
            simp [goesOn] at hr
          have := List.length_pos_iff.mpr this
          simp; omega
        · simp; omega
      · omega
    · omega
theorem rgTo_mem {sks : List (List Str)} {ns : List Str} (hn : ∀ st ∈ sks, ∀ x ∈ st, x ∈ ns) : ∀ i, ∀ r ∈ rgTo sks i, r.1 ∈ ns ∧ r.2.1 ≤ i ∧ r.2.2 ≤ i
  | 0, r, h => by simp [rgTo] at h
  | i + 1, r, h => by
    have ih := rgTo_mem hn i
    have old : ∀ r ∈ rgTo sks i, r.1 ∈ ns ∧ r.2.1 ≤ i + 1 ∧ r.2.2 ≤ i + 1 := fun r hr => by
      obtain ⟨a, b, c⟩ := ih r hr
      exact ⟨a, by omega, by omega⟩
    cases hs : sks[i]? with
    | none => simp only [rgTo, hs] at h; exact old r h
    | some st =>
      rw [rgTo_succ hs] at h
      unfold rgStep at h
      split at h
      · rename_i z y t
        have hy : y ∈ ns := hn _ (List.mem_of_getElem? hs) y (by simp)
        split at h
        · rename_i r0 hr0
          have hr0m : r0 ∈ rgTo sks i := by
            unfold goesOn at hr0
            split at hr0
            · rename_i r1 h1
              split at hr0
              · cases hr0; exact List.mem_of_getLast? h1
              · cases hr0
            · cases hr0
          rcases List.mem_append.mp h with h | h
          · exact old r (List.dropLast_subset _ h)
          · rw [List.mem_singleton.mp h]
            have := ih r0 hr0m
            exact ⟨hy, by dsimp only; omega, by dsimp only; omega⟩
        · rcases List.mem_append.mp h with h | h
          · exact old r h
          · rw [List.mem_singleton.mp h]
            exact ⟨hy, by dsimp only; omega, by dsimp only; omega⟩
      · exact old r h
inductive RgAt (H : Hp) : List V → List Rg → Prop
  | nil : RgAt H [] []
  | cons {t : Addr} {r : Rg} {vs : List V} {l : List Rg} : H t = some (.tup [.str r.1, .int (r.2.1 : Nat), .int (r.2.2 : Nat)]) → RgAt H vs l → RgAt H (.ref t :: vs) (r :: l)
section
variable {H H' : Hp}
theorem RgAt.keep (k : ∀ t xs, H t = some (.tup xs) → H' t = some (.tup xs)) : ∀ {vs : List V} {l : List Rg}, RgAt H vs l → RgAt H' vs l
  | _, _, .nil => .nil
  | _, _, .cons h t => .cons (k _ _ h) (t.keep k)
theorem RgAt.length : ∀ {vs : List V} {l : List Rg}, RgAt H vs l → vs.length = l.length
  | _, _, .nil => rfl
  | _, _, .cons _ t => congrArg (· + 1) t.length
theorem RgAt.snoc : ∀ {vs : List V} {l : List Rg} {t : Addr} {r : Rg}, RgAt H vs l → H t = some (.tup [.str r.1, .int (r.2.1 : Nat), .int (r.2.2 : Nat)]) → RgAt H (vs ++ [.ref t]) (l ++ [r])
  | _, _, _, _, .nil, h => .cons h .nil
  | _, _, _, _, .cons h t, h2 => .cons h (t.snoc h2)
/-- the last one, if there is one -/
theorem RgAt.last : ∀ {vs : List V} {l : List Rg}, RgAt H vs l → (vs = [] ∧ l = []) ∨ ∃ vs' l' t r, vs = vs' ++ [.ref t] ∧ l = l' ++ [r] ∧ RgAt H vs' l' ∧ H t = some (.tup [.str r.1, .int (r.2.1 : Nat), .int (r.2.2 : Nat)])
  | _, _, .nil => .inl ⟨rfl, rfl⟩
  | _, _, @RgAt.cons _ t r vs l h tl => by
    rcases tl.last with ⟨rfl, rfl⟩ | ⟨vs', l', t', r', rfl, rfl, h1, h2⟩
    · exact .inr ⟨[], [], t, r, rfl, rfl, .nil, h⟩
    · exact .inr ⟨.ref t :: vs', r :: l', t', r', rfl, rfl, .cons h h1, h2⟩
end
def dtG (r : Rg) : PyData := .tuple [.str r.1, .int (r.2.1 : Nat), .int (r.2.2 : Nat)]
theorem RgAt.dp {H : Hp} : ∀ {vs : List V} {l : List Rg}, RgAt H vs l → DpAll K H vs (l.map dtG)
  | _, _, .nil => .nil
  | _, _, .cons h t => .cons (.tup (SqT.of h) (.cons (.str _) (.cons (.int _) (.cons (.int _) .nil)))) t.dp
theorem RgAt.dd {H : Hp} : ∀ {vs : List V} {l : List Rg}, RgAt H vs l → DdAll K H vs (l.map dtG)
  | _, _, .nil => .nil
  | _, _, .cons h t => .cons (.tup h (.cons (.str _) (.cons (.int _) (.cons (.int _) .nil)))) t.dd
theorem rg_shaped {l : List Rg} (h : ∀ r ∈ l, FA.okName r.1) : SeqAt.shaped (.list (l.map dtG)) = true := by
  refine dt_shaped ?_ ?_
  · induction l with
    | nil => rfl
    | cons r t ih =>
      simp only [List.map_cons, PyData.canLayAll0, dtG, PyData.canLay0, (h r (by simp)).strOk, Bool.true_and]
      exact ih fun x hx => h x (List.mem_cons_of_mem _ hx)
  · have : PyData.depthAll (l.map dtG) ≤ 1 := by
      induction l with
      | nil => simp [PyData.depthAll]
      | cons r t ih =>
        have := ih fun x hx => h x (List.mem_cons_of_mem _ hx)
        simp only [List.map_cons, PyData.depthAll, dtG, PyData.depth]; omega
    omega
theorem set_last {vs : List V} {v u : V} : (vs ++ [u]).set vs.length v = vs ++ [v] := by
  rw [List.set_append_right _ _ (Nat.le_refl _), Nat.sub_self]
  rfl
theorem ixN_last {n : Nat} : ixN (n + 1) (-1) = some n := by
  unfold ixN
  rw [if_neg (by decide), if_pos (by omega)]
  congr 1
  omega
def spLDue : Sp := fun vs H Q _ => ∃ (l : Addr) (ws : List V) (sks : List (List Str)), vs = [.ref l] ∧ H l = some (.lst ws) ∧ SksAt H ws sks ∧ (∀ st ∈ sks, ∀ x ∈ st, FA.okName x) ∧ (∀ st ∈ sks, st ≠ []) ∧ ws.length ≤ 300 ∧
  ∀ r us H', Same H H' → H r = none → H' r = some (.lst us) → RgAt H' us (rgTo sks sks.length) → Q (.ref r) H'
theorem okLDue (T : Txt K mg) : FnOk P w K mg base CX0 1 T.aLDue T.fLDue ["stacks"] spLDue := by
  refine T.FLDue.ok scLDue (fun vs H Q E h => ?_) (fun cdv A outer s H vs Q E hr h => ?_)
  · obtain ⟨l, ws, sks, rfl, _⟩ := h
    rfl
  obtain ⟨l, ws, sks, rfl, hl, hs, ok, hne, hlen, q⟩ := h
  have hu := hu_of hr
  refine ⟨_, (pss_cons (ps_set (i := 1) scLDue.nd rfl (by first | exact Or.inl rfl | exact Or.inr rfl) (pe_lst pa_nil))
      (pss_cons (ps_for PassesOwn.never rfl (pi_enum (by rfl) T.n_enumerate (pa_cons (pv 0) pa_nil)) (pg_tup rfl (pgs_cons (pg_name (i := 2) scLDue.nd rfl (by first | exact Or.inl rfl | exact Or.inr rfl)) (pgs_cons (pg_name (i := 3) scLDue.nd rfl (by first | exact Or.inl rfl | exact Or.inr rfl)) pgs_nil)))
        (pss_cons (ps_set (i := 4) scLDue.nd rfl (by first | exact Or.inl rfl | exact Or.inr rfl) (pe_ifExp (pt_cmpR op_gt (pe_callB call_len_seq (by rfl) T.n_len PySem.boot_len (pa_cons (pv 3) pa_nil)) pe_int (nomark _)) (pe_ix ix_tup (pv 3) pe_int (fun _ _ => rfl)) pe_non))
        (pss_one (ps_if (PW.pt (pw_and (pt_cmpR op_notN (pv 4) pe_non (nomark _)) (pw_and (pt_cmpR (op_neD hr.units) (pv 1) (pe_lst pa_nil) (nomark _)) (pw_and (pt_cmpR op_eq (pe_ix ix_tup (pe_ix ix_list (pv 1) (pe_un un_neg pe_int) (fun _ _ => rfl)) pe_int (fun _ _ => rfl)) (pv 4) (nomark _)) (pw_and1 (pt_cmpR op_eq (pe_ix ix_tup (pe_ix ix_list (pv 1) (pe_un un_neg pe_int) (fun _ _ => rfl)) pe_int (fun _ _ => rfl)) (pe_op op_sub (pv 2) pe_int) (nomark _)))))))
          (pss_one (ps_asg (pe_tup (pa_cons (pv 4) (pa_cons (pe_ix ix_tup (pe_ix ix_list (pv 1) (pe_un un_neg pe_int) (fun _ _ => rfl)) pe_int (fun _ _ => rfl)) (pa_cons (pv 2) pa_nil)))) (pg_sub (pv 1) (pe_un un_neg pe_int) set_list))) (pss_one (ps_if (pt_cmpR op_notN (pv 4) pe_non (nomark _))
            (pss_one (ps_expr (pe_bm PySem.F.plainAttrs_list PySem.F.slot_list_append PySem.F.type_list_append mt_append (pv 1) (pa_cons (pe_tup (pa_cons (pv 4) (pa_cons (pv 2) (pa_cons (pv 2) pa_nil)))) pa_nil)))) pss_nil))))))
      (pss_one (ps_ret (pv 1))))), ?_⟩
  have hwl := hs.length
  refine ⟨Nat.zero_le _, fun f hf => ?_⟩
  have s1 := same_upd hf (.lst [])
  refine ⟨_, rfl, l, _, rfl, SqL.of (s1 _ _ hl), ?_⟩
  refine for_enum (K := K) (a := l) (xs := ws) (fun i σ H' => ∃ v2 v3 v4 us, σ = [some (.ref l), some (.ref f), v2, v3, v4] ∧ Same H H' ∧ H' f = some (.lst us) ∧ RgAt H' us (rgTo sks i)) ⟨none, none, none, [], rfl, s1, upd_same, .nil⟩ ?_ ?_ ?_
  · rintro i σ H' _ ⟨_, _, _, _, _, sm, _⟩
    exact SqL.of (sm _ _ hl)
  · rintro i x σ H2 T hi ⟨v2, v3, v4, us, rfl, s2, hf2, hr2⟩ hT
    obtain ⟨t, st, rfl, e1, e2⟩ := hs.get hi
    have hi3 : i < ws.length := (List.getElem?_eq_some_iff.mp hi).1
    have ht2 := s2 _ _ e2
    have est := rgTo_succ e1
    have rlen := rgTo_len sks i
    have rmem := rgTo_mem (ns := sks.flatten) (fun st hst x hx => List.mem_flatten.mpr ⟨st, hst, hx⟩) i
    have rok : ∀ r ∈ rgTo sks i, FA.okName r.1 := fun r hr => by
      obtain ⟨st, h1, h2⟩ := List.mem_flatten.mp (rmem r hr).1
      exact ok st h1 _ h2
    refine ⟨T, _, rfl, SqT.of upd_same, rfl, _, _, rfl, _, _, rfl, rfl, ?_⟩
    have s3 := same_upd hT (.tup [V.int (i : Nat), V.ref t])
    generalize upd H2 T (.tup [V.int (i : Nat), V.ref t]) = H3 at s3 ⊢
    have ht3 := s3 _ _ ht2
    have hf3 := s3 _ _ hf2
    have hr3 := hr2.keep fun t xs e => s3 t _ e
    have s03 := s2.trans s3
    clear hf2 hr2 s2 s3 ht2 hT
    have hul := hr3.length
    -- one more region
    have put : ∀ (H5 : Hp) (us' : List V) (acc' : List Rg) (t2 : Addr) (y : Str) (fi : Nat) (v2 v3 v4 : Option V), Same H3 H5 → RgAt H3 us' acc' → H5 t2 = some (.tup [.str y, .int (fi : Nat), .int (i : Nat)]) → acc' ++ [(y, fi, i)] = rgStep (rgTo sks i) i st →
        ∃ v2' v3' v4' us'', ([some (.ref l), some (.ref f), v2, v3, v4] : L2.St) = [some (.ref l), some (.ref f), v2', v3', v4'] ∧ Same H (upd H5 f (.lst (us' ++ [.ref t2]))) ∧ (upd H5 f (.lst (us' ++ [.ref t2]))) f = some (.lst us'') ∧ RgAt (upd H5 f (.lst (us' ++ [.ref t2]))) us'' (rgTo sks (i + 1)) := by
      intro H5 us' acc' t2 y fi v2 v3 v4 s5 hr5 ht2 e
      have tk : ∀ x xs, H5 x = some (.tup xs) → (upd H5 f (.lst (us' ++ [.ref t2]))) x = some (.tup xs) := fun x xs e => by
        rw [upd_ne]
        · exact e
        · rintro rfl
          rw [s5 _ _ hf3] at e; cases e
      refine ⟨v2, v3, v4, us' ++ [.ref t2], rfl, fun b o e => ?_, upd_same, ?_⟩
      · rw [upd_ne (ne_of_none e hf)]
        exact s5 _ _ (s03 _ _ e)
      · rw [est, ← e]
        exact ((hr5.keep fun t xs e => s5 t _ e).snoc (r := (y, fi, i)) ht2).keep tk
    have hl1 : (st.map V.str).length = st.length := List.length_map ..
    refine ⟨_, rfl, _, _, rfl, .inr (SqT.of ht3), _, _, rfl, rfl, _, rfl, ite2 (fun c => ?_) (fun c => ?_)⟩
    · have c := of_decide_eq_true c
      obtain ⟨z, y, rest, rfl⟩ : ∃ z y rest, st = z :: y :: rest := by
        match st, c with
        | [], c => simp at c
        | [z], c => simp at c
        | z :: y :: rest, _ => exact ⟨z, y, rest, rfl⟩
      refine ⟨_, rfl, _, _, _, .str y, rfl, rfl, SqT.of ht3, at_of (j := 1) rfl rfl, ?_⟩
      refine ⟨_, rfl, rfl, _, rfl, iteT ?_⟩
      refine ⟨_, rfl, Nat.zero_le _, fun e he => ?_⟩
      have s4 := same_upd he (.lst [])
      have he4 : (upd H3 e (.lst [])) e = some (.lst []) := upd_same
      generalize upd H3 e (.lst []) = H4 at s4 he4 ⊢
      have hf4 := s4 _ _ hf3
      have hr4 := hr3.keep fun t xs e => s4 t _ e
      refine ⟨_, _, .lst (SqL.of hf4) hr4.dp, .lst (SqL.of he4) .nil, rg_shaped rok, dt_shaped rfl (by decide), ?_⟩
      rw [eqv_nil]
      -- a new region
      rcases hr3.last with ⟨rfl, en⟩ | ⟨us', acc', tt, r, rfl, ea, hr', htt⟩
      · rw [en]
        refine ⟨_, rfl, ite2 (fun c => absurd c (by simp)) (fun _ => iteF ?_)⟩
        refine ⟨_, rfl, rfl, _, rfl, iteT ?_⟩
        refine ⟨_, rfl, .inl ⟨rfl, _, SqL.of hf4⟩, _, rfl, _, rfl, _, rfl, Nat.le_of_lt (small1000 (by simp)), fun t2 ht2 => ?_⟩
        have s5 := same_upd ht2 (.tup [V.str y, V.int (i : Nat), V.int (i : Nat)])
        refine ⟨f, _, _, rfl, rfl, s5 _ _ hf4, small1000 (by simp), ?_⟩
        refine put _ [] [] t2 y i _ _ _ (s4.trans s5) .nil upd_same ?_
        rw [en]
        rfl
      · have hlast : atI (us' ++ [V.ref tt]) (-1) = some (.ref tt) := atI_last _ _
        have htt4 := s4 _ _ htt
        have eln : ((rgTo sks i).map dtG).isEmpty = false := by rw [ea]; simp
        rw [eln]
        have egl : (rgTo sks i).getLast? = some r := by rw [ea]; simp
        refine ⟨_, rfl, iteT ?_⟩
        refine ⟨_, rfl, _, rfl, _, _, _, .ref tt, rfl, rfl, SqL.of hf4, hlast, _, _, _, .str r.1, rfl, rfl, SqT.of htt4, at_of (j := 0) rfl rfl, _, rfl, rfl, _, rfl, ite2 (fun c1 => ?_) (fun c1 => iteF ?_)⟩
        · have c1 : r.1 = y := V.str.inj (of_decide_eq_true c1)
          refine ⟨_, rfl, _, rfl, _, _, _, .ref tt, rfl, rfl, SqL.of hf4, hlast, _, _, _, .int (r.2.2 : Nat), rfl, rfl, SqT.of htt4, at_of (j := 2) rfl rfl, _, rfl, _, _, rfl, rfl, rfl, _, rfl, ite2 (fun c2 => ?_) (fun c2 => ?_)⟩
          · have c2 : ((r.2.2 : Nat) : Int) = (i : Nat) - 1 := V.int.inj (of_decide_eq_true c2)
            refine ⟨_, rfl, _, rfl, _, rfl, _, _, _, .ref tt, rfl, rfl, SqL.of hf4, hlast, _, _, _, .int (r.2.1 : Nat), rfl, rfl, SqT.of htt4, at_of (j := 1) rfl rfl, _, rfl, Nat.le_of_lt (small1000 (by simp)), fun t2 ht2 => ?_⟩
            have s5 := same_upd ht2 (.tup [V.str y, V.int (r.2.1 : Nat), V.int (i : Nat)])
            refine ⟨_, rfl, _, rfl, f, _, -1, us'.length, rfl, rfl, s5 _ _ hf4, by rw [List.length_append, List.length_singleton]; exact ixN_last, ?_⟩
            rw [set_last]
            refine put _ us' acc' t2 y r.2.1 _ _ _ (s4.trans s5) hr' upd_same ?_
            have eg : goesOn (rgTo sks i) i y = some r := by
              unfold goesOn
              rw [egl]
              dsimp only
              rw [if_pos ⟨c1, by omega⟩]
            simp only [rgStep, eg]
            rw [ea]
            simp
          · have c2 : ¬ ((r.2.2 : Nat) : Int) = (i : Nat) - 1 := fun h => c2 (decide_eq_true (by rw [h]))
            refine ⟨_, rfl, rfl, _, rfl, iteT ?_⟩
            refine ⟨_, rfl, .inl ⟨rfl, _, SqL.of hf4⟩, _, rfl, _, rfl, _, rfl, Nat.le_of_lt (small1000 (by simp)), fun t2 ht2 => ?_⟩
            have s5 := same_upd ht2 (.tup [V.str y, V.int (i : Nat), V.int (i : Nat)])
            refine ⟨f, _, _, rfl, rfl, s5 _ _ hf4, small1000 (by omega), ?_⟩
            refine put _ _ _ t2 y i _ _ _ (s4.trans s5) hr3 upd_same ?_
            have eg : goesOn (rgTo sks i) i y = none := by
              unfold goesOn
              rw [egl]
              dsimp only
              rw [if_neg (fun h => c2 (by have := h.2; omega))]
            simp only [rgStep, eg]
        · have c1 : ¬ r.1 = y := fun h => c1 (decide_eq_true (by rw [h]))
          refine ⟨_, rfl, rfl, _, rfl, iteT ?_⟩
          refine ⟨_, rfl, .inl ⟨rfl, _, SqL.of hf4⟩, _, rfl, _, rfl, _, rfl, Nat.le_of_lt (small1000 (by simp)), fun t2 ht2 => ?_⟩
          have s5 := same_upd ht2 (.tup [V.str y, V.int (i : Nat), V.int (i : Nat)])
          refine ⟨f, _, _, rfl, rfl, s5 _ _ hf4, small1000 (by omega), ?_⟩
          refine put _ _ _ t2 y i _ _ _ (s4.trans s5) hr3 upd_same ?_
          have eg : goesOn (rgTo sks i) i y = none := by
            unfold goesOn
            rw [egl]
            dsimp only
            rw [if_neg (fun h => c1 h.1)]
          simp only [rgStep, eg]
    · have c : ¬ (1 < st.length) := fun h => c (decide_eq_true (by omega))
      have es : rgStep (rgTo sks i) i st = rgTo sks i := by
        match st, c with
        | [], _ => rfl
        | [z], _ => rfl
        | z :: y :: rest, c => simp at c
      refine ⟨_, rfl, rfl, _, rfl, iteF ?_⟩
      refine ⟨_, rfl, rfl, _, rfl, iteF ?_⟩
      exact ⟨_, _, _, us, rfl, s03, hf3, by rw [est, es]; exact hr3⟩
  · rintro σ H2 ⟨v2, v3, v4, us, rfl, s2, hf2, hr2⟩
    exact ⟨_, rfl, q f us H2 s2 hf hf2 (by rw [← hwl]; exact hr2)⟩
end K13


set_option Elab.async false
set_option linter.all false
set_option maxRecDepth 100000
set_option maxHeartbeats 8000000
namespace K13
open PySem PySem.Spec PyProof.Rows L2 FA
variable {P : Program} {w : World} {K : PySem.W.Frag} {mg : Str → Option Value} {base : Heap}
def spRegions : Sp := fun vs H Q _ => ∃ (d l : Addr) (p : Pr) (ws : List V) (sks : List (List Str)) (top : Str), vs = [.ref d, .ref l] ∧ PrAt H d p ∧ Valid p ∧ H l = some (.lst ws) ∧ SksAt H ws sks ∧ Sks (pNames p) top sks ∧ ws.length ≤ 300 ∧
  ∀ r us H', Same H H' → H r = none → H' r = some (.lst us) → RgAt H' us (rgTo sks sks.length) → Q (.ref r) H'
theorem okRegions (T : Txt K mg) : FnOk P w K mg base CX0 14 T.aRegions T.fRegions ["program", "stacks"] spRegions := by
  have GCheckProgram : FnOk P w K mg base CX0 13 T.aCheckProgram T.fCheckProgram ["program"] spCheckProgram := okCheckProgram T
  have GCheckStacks : FnOk P w K mg base CX0 3 T.aCheckStacks T.fCheckStacks ["program", "stacks"] spCheckStacks := okCheckStacks T
  refine T.FRegions.ok scRegions (fun vs H Q E h => ?_) (fun cdv A outer s H vs Q E hr h => ?_)
  · obtain ⟨d, l, p, ws, sks, top, rfl, _⟩ := h
    rfl
  obtain ⟨d, l, p, ws, sks, top, rfl, hpa, va, hl, hs, ok, hlen, q⟩ := h
  have hu := hu_of hr
  refine ⟨_, (pss_cons (ps_expr (pe_call GCheckProgram (hr.mono (by omega)) rfl T.gCheckProgram T.FCheckProgram.kp T.bCheckProgram .nil pass0 (pa_cons (pv 0) pa_nil)))
      (pss_cons (ps_expr (pe_call GCheckStacks (hr.mono (by omega)) rfl T.gCheckStacks T.FCheckStacks.kp T.bCheckStacks .nil pass0 (pa_cons (pv 0) (pa_cons (pv 1) pa_nil))))
      (pss_cons (ps_set (i := 2) scRegions.nd rfl (by first | exact Or.inl rfl | exact Or.inr rfl) (pe_lst pa_nil))
      (pss_cons (ps_for PassesOwn.never rfl (pi_enum (by rfl) T.n_enumerate (pa_cons (pv 1) pa_nil)) (pg_tup rfl (pgs_cons (pg_name (i := 3) scRegions.nd rfl (by first | exact Or.inl rfl | exact Or.inr rfl)) (pgs_cons (pg_name (i := 4) scRegions.nd rfl (by first | exact Or.inl rfl | exact Or.inr rfl)) pgs_nil)))
        (pss_cons (ps_if (pt_cmpR op_eq (pe_callB call_len_seq (by rfl) T.n_len PySem.boot_len (pa_cons (pv 4) pa_nil)) pe_int (nomark _))
          (pss_one ps_continue) pss_nil)
        (pss_cons (ps_set (i := 5) scRegions.nd rfl (by first | exact Or.inl rfl | exact Or.inr rfl) (pv 3))
        (pss_cons (ps_if (PW.pt (pw_and (pt_truth (pv 2) (by intro _; rfl)) (pw_and (pt_cmpR op_eq (pe_ix ix_tup (pe_ix ix_list (pv 2) (pe_un un_neg pe_int) (fun _ _ => rfl)) pe_int (fun _ _ => rfl)) (pe_ix ix_tup (pv 4) pe_int (fun _ _ => rfl)) (nomark _)) (pw_and1 (pt_cmpR op_eq (pe_ix ix_tup (pe_ix ix_list (pv 2) (pe_un un_neg pe_int) (fun _ _ => rfl)) pe_int (fun _ _ => rfl)) (pe_op op_sub (pv 3) pe_int) (nomark _))))))
          (pss_one (ps_set (i := 5) scRegions.nd rfl (by first | exact Or.inl rfl | exact Or.inr rfl) (pe_ix ix_tup (pe_bm0 PySem.F.plainAttrs_list PySem.F.slot_list_pop PySem.F.type_list_pop mt_pop (pv 2)) pe_int (fun _ _ => rfl)))) pss_nil)
        (pss_one (ps_expr (pe_bm PySem.F.plainAttrs_list PySem.F.slot_list_append PySem.F.type_list_append mt_append (pv 2) (pa_cons (pe_tup (pa_cons (pe_ix ix_tup (pv 4) pe_int (fun _ _ => rfl)) (pa_cons (pv 5) (pa_cons (pv 3) pa_nil)))) pa_nil))))))))
      (pss_one (ps_ret (pv 2))))))), ?_⟩
  have hwl := hs.length
  refine ⟨_, rfl, d, p, rfl, hpa, va, fun H1 s1 => ?_⟩
  refine ⟨_, rfl, _, rfl, d, l, p, ws, sks, top, rfl, PrAt.same s1 hpa, s1 _ _ hl, hs.keep fun t xs e => s1 t _ e, ok, hlen, fun H2 s2 => ?_⟩
  have s02 := s1.trans s2
  refine ⟨Nat.zero_le _, fun f hf => ?_⟩
  have hf0 : H f = none := s02.free hf
  have s03 := s02.trans (same_upd hf (.lst []))
  refine ⟨_, rfl, l, _, rfl, SqL.of (s03 _ _ hl), ?_⟩
  refine for_enum (K := K) (a := l) (xs := ws) (fun i σ H' => ∃ v3 v4 v5 us, σ = [some (.ref d), some (.ref l), some (.ref f), v3, v4, v5] ∧ Same H H' ∧ H' f = some (.lst us) ∧ RgAt H' us (rgTo sks i)) ⟨none, none, none, [], rfl, s03, upd_same, .nil⟩ ?_ ?_ ?_
  · rintro i σ H' _ ⟨_, _, _, _, _, sm, _⟩
    exact SqL.of (sm _ _ hl)
  · rintro i x σ H2 T hi ⟨v3, v4, v5, us, rfl, s2, hf2, hr2⟩ hT
    obtain ⟨t, st, rfl, e1, e2⟩ := hs.get hi
    have hi3 : i < ws.length := (List.getElem?_eq_some_iff.mp hi).1
    have ht2 := s2 _ _ e2
    have est := rgTo_succ e1
    have rlen := rgTo_len sks i
    refine ⟨T, _, rfl, SqT.of upd_same, rfl, _, _, rfl, _, _, rfl, rfl, ?_⟩
    have s3 := same_upd hT (.tup [V.int (i : Nat), V.ref t])
    generalize upd H2 T (.tup [V.int (i : Nat), V.ref t]) = H3 at s3 ⊢
    have ht3 := s3 _ _ ht2
    have hf3 := s3 _ _ hf2
    have hr3 := hr2.keep fun t xs e => s3 t _ e
    have s03 := s2.trans s3
    clear hf2 hr2 s2 s3 ht2 hT
    have hul := hr3.length
    have hl1 : (st.map V.str).length = st.length := List.length_map ..
    refine ⟨_, rfl, _, _, rfl, .inr (SqT.of ht3), rfl, _, rfl, ite2 (fun c => ?_) (fun c => ?_)⟩
    · have c : st.length = 1 := by
        have := V.int.inj (of_decide_eq_true c)
        omega
      have es : rgStep (rgTo sks i) i st = rgTo sks i := by
        match st, c with
        | [z], _ => rfl
      exact ⟨_, _, _, us, rfl, s03, hf3, by rw [est, es]; exact hr3⟩
    · have c : ¬ st.length = 1 := fun h => c (decide_eq_true (by rw [hl1, h]; rfl))
      obtain ⟨z, y, rest, rfl⟩ : ∃ z y rest, st = z :: y :: rest := by
        obtain ⟨r, e⟩ := ok.hd st (List.mem_of_getElem? e1)
        match r, e with
        | [], e => rw [e] at c; simp at c
        | y :: rest, e => exact ⟨top, y, rest, e⟩
      refine ⟨_, rfl, ?_⟩
      refine ⟨_, rfl, !us.isEmpty, .inl ⟨_, SqL.of hf3, rfl⟩, ?_⟩
      -- the list before, the number of the first stack
      rcases hr3.last with ⟨rfl, en⟩ | ⟨us', acc', tt, r, rfl, ea, hr', htt⟩
      · refine ite2 (fun c => absurd c (by simp)) (fun _ => iteF ?_)
        refine ⟨_, rfl, .inl ⟨rfl, _, SqL.of hf3⟩, _, rfl, _, _, _, .str y, rfl, rfl, SqT.of ht3, at_of (j := 1) rfl rfl, _, rfl, _, rfl, Nat.le_of_lt (small1000 (by simp)), fun t2 ht2 => ?_⟩
        have s5 := same_upd ht2 (.tup [V.str y, V.int (i : Nat), V.int (i : Nat)])
        refine ⟨f, _, _, rfl, rfl, s5 _ _ hf3, small1000 (by simp), ?_⟩
        refine ⟨_, _, _, _, rfl, fun b o e => ?_, upd_same, ?_⟩
        · rw [upd_ne (ne_of_none e hf0)]
          exact s5 _ _ (s03 _ _ e)
        · rw [est, en]
          refine .cons (r := (y, i, i)) ?_ .nil
          rw [upd_ne (fun z => by rw [z] at ht2; rw [hf3] at ht2; cases ht2)]
          exact upd_same
      · have hlast : atI (us' ++ [V.ref tt]) (-1) = some (.ref tt) := atI_last _ _
        have egl : (rgTo sks i).getLast? = some r := by rw [ea]; simp
        refine ite2 (fun _ => ?_) (fun c => absurd (by simp) c)
        -- what is put behind an old list
        have put : ∀ (H4 H5 : Hp) (vs2 : List V) (acc2 : List Rg) (t2 : Addr) (fi : Nat) (v3 v4 v5 : Option V), (∀ b o, b ≠ f → H3 b = some o → H4 b = some o) → Same H4 H5 → H4 f = some (.lst vs2) → RgAt H3 vs2 acc2 → H5 t2 = some (.tup [.str y, .int (fi : Nat), .int (i : Nat)]) → acc2 ++ [(y, fi, i)] = rgStep (rgTo sks i) i (z :: y :: rest) →
            ∃ v3' v4' v5' us'', ([some (.ref d), some (.ref l), some (.ref f), v3, v4, v5] : L2.St) = [some (.ref d), some (.ref l), some (.ref f), v3', v4', v5'] ∧ Same H (upd H5 f (.lst (vs2 ++ [.ref t2]))) ∧ (upd H5 f (.lst (vs2 ++ [.ref t2]))) f = some (.lst us'') ∧ RgAt (upd H5 f (.lst (vs2 ++ [.ref t2]))) us'' (rgTo sks (i + 1)) := by
          intro H4 H5 vs2 acc2 t2 fi v3 v4 v5 k4 s5 hf4 hr4 ht2 e
          have tk : ∀ x xs, H5 x = some (.tup xs) → (upd H5 f (.lst (vs2 ++ [.ref t2]))) x = some (.tup xs) := fun x xs e => by
            rw [upd_ne]
            · exact e
            · rintro rfl
              rw [s5 _ _ hf4] at e; cases e
          have tk3 : ∀ x xs, H3 x = some (.tup xs) → H5 x = some (.tup xs) := fun x xs e => s5 _ _ (k4 x _ (by
            rintro rfl
            rw [hf3] at e; cases e) e)
          refine ⟨v3, v4, v5, vs2 ++ [.ref t2], rfl, fun b o e => ?_, upd_same, ?_⟩
          · rw [upd_ne (ne_of_none e hf0)]
            exact s5 _ _ (k4 b o (ne_of_none e hf0) (s03 _ _ e))
          · rw [est, ← e]
            exact ((hr4.keep tk3).snoc (r := (y, fi, i)) ht2).keep tk
        refine ⟨_, rfl, _, rfl, _, _, _, .ref tt, rfl, rfl, SqL.of hf3, hlast, _, _, _, .str r.1, rfl, rfl, SqT.of htt, at_of (j := 0) rfl rfl, ?_⟩
        refine ⟨_, rfl, _, _, _, .str y, rfl, rfl, SqT.of ht3, at_of (j := 1) rfl rfl, rfl, _, rfl, ite2 (fun c1 => ?_) (fun c1 => iteF ?_)⟩
        · have c1 : r.1 = y := V.str.inj (of_decide_eq_true c1)
          refine ⟨_, rfl, _, rfl, _, _, _, .ref tt, rfl, rfl, SqL.of hf3, hlast, _, _, _, .int (r.2.2 : Nat), rfl, rfl, SqT.of htt, at_of (j := 2) rfl rfl, _, rfl, _, _, rfl, rfl, rfl, _, rfl, ite2 (fun c2 => ?_) (fun c2 => ?_)⟩
          · have c2 : ((r.2.2 : Nat) : Int) = (i : Nat) - 1 := V.int.inj (of_decide_eq_true c2)
            refine ⟨_, rfl, .inl ⟨rfl, _, SqL.of hf3⟩, f, _, .ref tt, rfl, rfl, hf3, by simp, ?_⟩
            have edl : (us' ++ [V.ref tt]).dropLast = us' := by simp
            rw [edl]
            have k4 : ∀ b o, b ≠ f → H3 b = some o → (upd H3 f (.lst us')) b = some o := fun b o ne e => by rw [upd_ne ne]; exact e
            have hf4 : (upd H3 f (.lst us')) f = some (.lst us') := upd_same
            generalize upd H3 f (.lst us') = H4 at k4 hf4 ⊢
            have ntf : tt ≠ f := by
              rintro rfl
              rw [hf3] at htt; cases htt
            have ntf2 : t ≠ f := by
              rintro rfl
              rw [hf3] at ht3; cases ht3
            refine ⟨_, _, _, .int (r.2.1 : Nat), rfl, rfl, SqT.of (k4 _ _ ntf htt), at_of (j := 1) rfl rfl, ?_⟩
            refine ⟨_, rfl, .inl ⟨rfl, _, SqL.of hf4⟩, _, rfl, _, _, _, .str y, rfl, rfl, SqT.of (k4 _ _ ntf2 ht3), at_of (j := 1) rfl rfl, _, rfl, _, rfl, Nat.le_of_lt (small1000 (by simp)), fun t2 ht2 => ?_⟩
            have s5 := same_upd ht2 (.tup [V.str y, V.int (r.2.1 : Nat), V.int (i : Nat)])
            refine ⟨f, _, _, rfl, rfl, s5 _ _ hf4, small1000 (by rw [List.length_append, List.length_singleton] at hul; omega), ?_⟩
            refine put H4 _ us' acc' t2 r.2.1 _ _ _ k4 s5 hf4 hr' upd_same ?_
            have eg : goesOn (rgTo sks i) i y = some r := by
              unfold goesOn
              rw [egl]
              dsimp only
              rw [if_pos ⟨c1, by omega⟩]
            simp only [rgStep, eg]
            rw [ea]
            simp
          · have c2 : ¬ ((r.2.2 : Nat) : Int) = (i : Nat) - 1 := fun h => c2 (decide_eq_true (by rw [h]))
            refine ⟨_, rfl, .inl ⟨rfl, _, SqL.of hf3⟩, _, rfl, _, _, _, .str y, rfl, rfl, SqT.of ht3, at_of (j := 1) rfl rfl, _, rfl, _, rfl, Nat.le_of_lt (small1000 (by simp)), fun t2 ht2 => ?_⟩
            have s5 := same_upd ht2 (.tup [V.str y, V.int (i : Nat), V.int (i : Nat)])
            refine ⟨f, _, _, rfl, rfl, s5 _ _ hf3, small1000 (by omega), ?_⟩
            refine put H3 _ _ _ t2 i _ _ _ (fun _ _ _ e => e) s5 hf3 hr3 upd_same ?_
            have eg : goesOn (rgTo sks i) i y = none := by
              unfold goesOn
              rw [egl]
              dsimp only
              rw [if_neg (fun h => c2 (by have := h.2; omega))]
            simp only [rgStep, eg]
        · have c1 : ¬ r.1 = y := fun h => c1 (decide_eq_true (by rw [h]))
          refine ⟨_, rfl, .inl ⟨rfl, _, SqL.of hf3⟩, _, rfl, _, _, _, .str y, rfl, rfl, SqT.of ht3, at_of (j := 1) rfl rfl, _, rfl, _, rfl, Nat.le_of_lt (small1000 (by simp)), fun t2 ht2 => ?_⟩
          have s5 := same_upd ht2 (.tup [V.str y, V.int (i : Nat), V.int (i : Nat)])
          refine ⟨f, _, _, rfl, rfl, s5 _ _ hf3, small1000 (by omega), ?_⟩
          refine put H3 _ _ _ t2 i _ _ _ (fun _ _ _ e => e) s5 hf3 hr3 upd_same ?_
          have eg : goesOn (rgTo sks i) i y = none := by
            unfold goesOn
            rw [egl]
            dsimp only
            rw [if_neg (fun h => c1 h.1)]
          simp only [rgStep, eg]
  · rintro σ H2 ⟨v3, v4, v5, us, rfl, s2, hf2, hr2⟩
    exact ⟨_, rfl, q f us H2 s2 hf0 hf2 (by rw [← hwl]; exact hr2)⟩
end K13


set_option Elab.async false
set_option linter.all false
set_option maxRecDepth 100000
set_option maxHeartbeats 8000000
namespace K13
open PySem PySem.Spec PyProof.Rows L2 FA
variable {P : Program} {w : World} {K : PySem.W.Frag} {mg : Str → Option Value} {base : Heap}
theorem SksAt.dd {H : Hp} : ∀ {vs : List V} {l : List (List Str)}, SksAt H vs l → DdAll K H vs (l.map dtS)
  | _, _, .nil => .nil
  | _, _, .cons h t => .cons (.tup h (dd_strs _)) t.dd
theorem stack_fits {st : List Str} (h : ∀ x ∈ st, FA.okName x) (hl : st.length ≤ 8) : Fits (dtS st) 1 72 := (Fits.tup (FitsAll.strs h)).mono (by omega) (by omega)
theorem rg_fits {r : Rg} (h : FA.okName r.1) (h1 : r.2.1 < 1000) (h2 : r.2.2 < 1000) : Fits (dtG r) 1 20 := (Fits.tup (.cons (Fits.str h) (.cons (.int h1) (.cons (.int h2) (FitsAll.nil (b := 0)))))).mono (by omega) (by omega)
theorem prog_fits {p : Pr} (va : Valid p) : Fits (dtP p) 60 3000 := ⟨dtP_show p, dtP_short va.nm fun q hq => ⟨(va.mem hq).1, (va.mem hq).2.1⟩, dtP_depth fun q hq => (va.mem hq).2.2.2, by
  have h1 := dtP_bulk va.nm (p := p) fun q hq => ⟨(va.mem hq).1, (va.mem hq).2.1, (va.mem hq).2.2.1⟩
  have h2 := va.len
  omega⟩
/-- [program, stacks] as data -/
def dtK (p : Pr) (sks : List (List Str)) : PyData := .list [dtP p, .list (sks.map dtS)]
theorem pair_fits {p : Pr} (va : Valid p) {sks : List (List Str)} {top : Str} (ok : Sks (pNames p) top sks) (hl : sks.length ≤ 300) : Fits (dtK p sks) 61 100000 := by
  have h1 : FitsAll (sks.map dtS) 1 (73 * sks.length) := FitsAll.map (b := 72) fun st hst => stack_fits (fun x hx => va.nm x (ok.nm st hst x hx)) (ok.len st hst)
  exact (Fits.list (.cons (prog_fits va) (.cons ((Fits.list h1).mono (by omega) (Nat.le_refl _)) (FitsAll.nil (b := 0))))).mono (Nat.le_refl _) (by omega)
theorem dtP_depth2 {p : Pr} (h : ∀ q ∈ p, dB q.2 ≤ 4) : (dtP p).depth ≤ 30 := by
  have key : ∀ p : Pr, (∀ q ∈ p, dB q.2 ≤ 4) → PyData.depthKv (p.map fun q => (PyData.str q.1, PyData.list (dtB q.2))) ≤ 20 := fun p => by
    induction p with
    | nil => intro _; simp [PyData.depthKv]
    | cons q r ih =>
      intro h
      have h1 := dtB_depth q.2
      have h2 := h q (by simp)
      have h3 := ih fun u hu => h u (List.mem_cons_of_mem _ hu)
      simp only [List.map_cons, PyData.depthKv, PyData.depth]
      omega
  have := key p h
  simp only [dtP, PyData.depth]
  omega
theorem pair_depth {p : Pr} (va : Valid p) (sks : List (List Str)) : (dtK p sks).depth ≤ 60 := by
  have h1 := dtP_depth2 (p := p) fun q hq => (va.mem hq).2.2.2
  have h2 := sks_depth sks
  simp only [dtK, PyData.depth, PyData.depthAll]
  omega
theorem rgs_fits {p : Pr} (va : Valid p) {sks : List (List Str)} {top : Str} (ok : Sks (pNames p) top sks) (hl : sks.length ≤ 300) : Fits (.list ((rgTo sks sks.length).map dtG)) 2 10000 := by
  have m := rgTo_mem ok.nm sks.length
  have l := rgTo_len sks sks.length
  have h1 : FitsAll ((rgTo sks sks.length).map dtG) 1 (21 * (rgTo sks sks.length).length) := FitsAll.map (b := 20) fun r hr => rg_fits (va.nm _ (m r hr).1) (by have := (m r hr).2.1; omega) (by have := (m r hr).2.2; omega)
  exact (Fits.list h1).mono (by omega) (by omega)
def spLRight : Sp := fun vs H Q _ => ∃ (d l : Addr) (kvs : List (Key × V)) (p : Pr) (ws : List V) (sks : List (List Str)) (top : Str), vs = [.ref d, .ref l] ∧ H d = some (.dK kvs) ∧ PrKv H kvs p ∧ Valid p ∧ H l = some (.lst ws) ∧ SksAt H ws sks ∧ Sks (pNames p) top sks ∧ ws.length ≤ 300 ∧
  ∀ H', Same H H' → Q (.bl true) H'
theorem okLRight (T : Txt K mg) (sy : FA.SysB base) : FnG P w K mg base 15 T.aLRight T.fLRight ["program", "stacks"] spLRight := by
  have GLDue : FnOk P w K mg base CX0 1 T.aLDue T.fLDue ["stacks"] spLDue := okLDue T
  have GRegions : FnOk P w K mg base CX0 14 T.aRegions T.fRegions ["program", "stacks"] spRegions := okRegions T
  refine okG T.FLRight scLRight (fun vs H Q E h => ?_) (fun cdv A gd outer s H vs Q E hr h => ?_)
  · obtain ⟨d, l, kvs, p, ws, sks, top, rfl, _⟩ := h
    rfl
  obtain ⟨d, l, kvs, p, ws, sks, top, rfl, hd, hk, va, hl, hs, ok, hlen, q⟩ := h
  have hu := hu_of hr
  refine ⟨_, (pss_cons (ps_par (i := 3) (j := 4) (by rfl) scLRight.nd rfl rfl (by decide) rfl rfl (pa_cons (pe_callB (call_reprD sy gd hr.units) (by rfl) T.n_repr (by decide +kernel) (pa_cons (pe_lst (pa_cons (pv 0) (pa_cons (pv 1) pa_nil))) pa_nil)) (pa_cons (pe_call GLDue (hr.mono (by omega)) rfl T.gLDue T.FLDue.kp T.bLDue .nil pass0 (pa_cons (pv 1) pa_nil)) pa_nil)) (by rfl))
      (pss_cons (ps_for PassesOwn.never rfl (pi_range1 (by rfl) T.n_range (pa_cons pe_int pa_nil)) (pg_name (i := 2) scLRight.nd rfl (by first | exact Or.inl rfl | exact Or.inr rfl))
        (pss_cons (ps_set (i := 5) scLRight.nd rfl (by first | exact Or.inl rfl | exact Or.inr rfl) (pe_call GRegions (hr.mono (by omega)) rfl T.gRegions T.FRegions.kp T.bRegions .nil pass0 (pa_cons (pv 0) (pa_cons (pv 1) pa_nil))))
        (pss_cons (ps_if (PW.pt (pw_or (pt_cmpR op_ne (pe_callB (call_reprD sy gd hr.units) (by rfl) T.n_repr (by decide +kernel) (pa_cons (pv 5) pa_nil)) (pe_callB (call_reprD sy gd hr.units) (by rfl) T.n_repr (by decide +kernel) (pa_cons (pv 4) pa_nil)) (nomark _)) (pw_or1 (pt_cmpR op_ne (pe_callB (call_reprD sy gd hr.units) (by rfl) T.n_repr (by decide +kernel) (pa_cons (pe_lst (pa_cons (pv 0) (pa_cons (pv 1) pa_nil))) pa_nil)) (pv 3) (nomark _)))))
          (pss_one (ps_ret pe_bl)) pss_nil)
        (pss_cons (ps_expr (pe_bm PySem.F.plainAttrs_list PySem.F.slot_list_append PySem.F.type_list_append mt_append (pv 5) (pa_cons pe_non pa_nil)))
        (pss_one (ps_expr (pe_bm0 PySem.F.plainAttrs_list PySem.F.slot_list_reverse PySem.F.type_list_reverse mt_reverse (pv 5))))))))
      (pss_one (ps_ret pe_bl)))), ?_⟩
  have hwl := hs.length
  have pf := pair_fits va ok (by omega)
  have rf := rgs_fits va ok (by omega)
  have ddP : ∀ H' a, Same H H' → H' a = some (.lst [.ref d, .ref l]) → Dd K H' (.ref a) (dtK p sks) := fun H' a sm e =>
    .lst e (.cons (PrKv.dt (.inl (sm _ _ hd)) (hk.keep (Kp.of sm))) (.cons (.lst (sm _ _ hl) (hs.keep fun t xs e => sm t _ e).dd) .nil))
  refine ⟨_, rfl, _, rfl, Nat.le_of_lt (small1000 (by simp)), fun p1 hp1 => ?_⟩
  have s1 := same_upd hp1 (.lst [V.ref d, V.ref l])
  have e1 : (upd H p1 (.lst [V.ref d, V.ref l])) p1 = some (.lst [V.ref d, V.ref l]) := upd_same
  generalize upd H p1 (.lst [V.ref d, V.ref l]) = H1 at s1 e1 ⊢
  refine ⟨p1, dtK p sks, rfl, ddP H1 p1 s1 e1, pf.sh, pair_depth va sks, pf.len (by omega), ?_⟩
  refine ⟨_, rfl, l, ws, sks, rfl, s1 _ _ hl, hs.keep fun t xs e => s1 t _ e, fun st hst x hx => va.nm x (ok.nm st hst x hx), fun st hst => ?_, by omega, fun r us H2 s2 hrn hr2 hrg => ?_⟩
  · obtain ⟨z, e⟩ := ok.hd st hst
    rw [e]; simp
  refine ⟨_, _, rfl, ?_⟩
  have s02 := s1.trans s2
  refine ⟨2, rfl, by decide, by decide, ?_⟩
  refine for_range (lo := 0) (n := 2) (fun k σ H' => ∃ v2 v5, σ = [some (.ref d), some (.ref l), v2, some (.str (dtK p sks).shown), some (.ref r), v5] ∧ Same H2 H') ⟨none, none, rfl, Same.refl _⟩ ?_ ?_
  · rintro k σ H3 hk2 ⟨v2, v5, rfl, s3⟩
    have s03 := s02.trans s3
    refine ⟨_, rfl, _, rfl, d, l, p, ws, sks, top, rfl, ⟨kvs, .inl (s03 _ _ hd), hk.keep (Kp.of s03)⟩, va, s03 _ _ hl, hs.keep fun t xs e => s03 t _ e, ok, hlen, fun r2 us2 H4 s4 hrn2 hr4 hrg4 => ?_⟩
    have s04 := s03.trans s4
    have s24 := s3.trans s4
    -- the answers are alike
    refine ⟨_, rfl, r2, _, rfl, .lst hr4 hrg4.dd, rf.sh, Nat.le_trans rf.dp (by decide), rf.len (by omega), ?_⟩
    refine ⟨_, rfl, r, _, rfl, .lst (s24 _ _ hr2) (hrg.keep fun t xs e => s24 t _ e).dd, rf.sh, Nat.le_trans rf.dp (by decide), rf.len (by omega), rfl, _, rfl, ite2 (fun z => absurd z (by simp)) (fun _ => ?_)⟩
    refine ⟨_, rfl, _, rfl, Nat.le_of_lt (small1000 (by simp)), fun p2 hp2 => ?_⟩
    have s5 := same_upd hp2 (.lst [V.ref d, V.ref l])
    have e5 : (upd H4 p2 (.lst [V.ref d, V.ref l])) p2 = some (.lst [V.ref d, V.ref l]) := upd_same
    generalize upd H4 p2 (.lst [V.ref d, V.ref l]) = H5 at s5 e5 ⊢
    refine ⟨p2, dtK p sks, rfl, ddP H5 p2 (s04.trans s5) e5, pf.sh, pair_depth va sks, pf.len (by omega), _, rfl, rfl, _, rfl, ite2 (fun z => absurd z (by simp)) (fun _ => ?_)⟩
    -- the answer is changed
    have hr5 := s5 _ _ hr4
    have hrH3 : H3 r2 = none := hrn2
    refine ⟨_, rfl, .inl ⟨rfl, _, SqL.of hr5⟩, r2, _, .non, rfl, rfl, hr5, small1000 (by have := hrg4.length; have := rgTo_len sks sks.length; omega), ?_⟩
    refine ⟨_, rfl, .inl ⟨rfl, _, SqL.of upd_same⟩, r2, _, rfl, rfl, upd_same, ?_⟩
    refine ⟨_, _, rfl, fun b o e => ?_⟩
    have e3 := s3 _ _ e
    rw [upd_ne (ne_of_none e3 hrH3), upd_ne (ne_of_none e3 hrH3)]
    exact s5 _ _ (s4 _ _ e3)
  · rintro σ H3 ⟨v2, v5, rfl, s3⟩
    exact q H3 (s02.trans s3)
end K13


set_option Elab.async false
set_option linter.all false
set_option maxRecDepth 100000
set_option maxHeartbeats 8000000
namespace K13
open PySem PySem.Spec PyProof.Rows L2 FA
variable {P : Program} {w : World} {K : PySem.W.Frag} {mg : Str → Option Value} {base : Heap}
def p0 : Pr := [("main", [])]
theorem v0 : Valid p0 := valid_list (by decide) (by decide +kernel) (by
  intro x hx
  rw [List.mem_singleton.mp (show x ∈ [("main" : Str)] from hx)]
  exact main_ok) (by decide +kernel) (by
  intro q hq
  rw [List.mem_singleton.mp hq]
  exact ⟨by simp [okB], by simp [nCB], by simp [nIB], by simp [dB]⟩) (by decide +kernel)
def k0 : List (List Str) := [["main", "main"], ["main"]]
theorem rg0 : rgTo k0 k0.length = [(("main" : Str), (0 : Nat), (0 : Nat))] := by decide +kernel
theorem Drawn.sks {p : Pr} {top : Str} {l : List (List Str)} (h : Drawn p top l) : Sks (pNames p) top l := ⟨h.nm, h.hd, fun st hst => by have := h.len st hst; omega⟩
theorem Sks.set {ns : List Str} {top : Str} {l : List (List Str)} {i : Nat} (h : Sks ns top l) (ht : top ∈ ns) : Sks ns top (l.set i [top]) := by
  refine ⟨fun st hst x hx => ?_, fun st hst => ?_, fun st hst => ?_⟩
  all_goals rcases List.mem_or_eq_of_mem_set hst with h1 | h1
  · exact h.nm st h1 x hx
  · rw [h1] at hx
    rw [List.mem_singleton.mp hx]; exact ht
  · exact h.hd st h1
  · exact ⟨[], h1⟩
  · exact h.len st h1
  · rw [h1]; simp
theorem Sks.tail {ns : List Str} {top : Str} {l : List (List Str)} (h : Sks ns top l) : Sks ns top l.tail :=
  ⟨fun st hst => h.nm st (List.mem_of_mem_tail hst), fun st hst => h.hd st (List.mem_of_mem_tail hst), fun st hst => h.len st (List.mem_of_mem_tail hst)⟩
def spLaw : Sp := fun vs H Q _ => ∃ (s : Addr) (ns : List Int), vs = [.ref s] ∧ SqL K H s (ns.map V.int) ∧ ns.length ≤ 63 ∧ ∀ H', Q (.bl true) H'
theorem okLaw (T : Txt K mg) (sy : FA.SysB base) : FnG P w K mg base 16 T.aLaw T.fLaw ["script"] (spLaw (K := K)) := by
  have GLSpring : FnOk P w K mg base CX0 1 T.aLSpring T.fLSpring ["script"] (spSpring (K := K)) := okSpring T
  have GLDraw : FnOk P w K mg base CX0 1 T.aLDraw T.fLDraw ["spring", "many"] spDraw := okDraw T
  have GLProgram : FnOk P w K mg base CX0 8 T.aLProgram T.fLProgram ["spring", "most", "calls", "can_recur"] spLProgram := okLProgram T
  have GLStacks : FnOk P w K mg base CX0 7 T.aLStacks T.fLStacks ["spring", "program", "top", "size", "odd"] spLStacks := okLStacks T
  have GLRight : FnG P w K mg base 15 T.aLRight T.fLRight ["program", "stacks"] spLRight := okLRight T sy
  have GRegions : FnOk P w K mg base CX0 14 T.aRegions T.fRegions ["program", "stacks"] spRegions := okRegions T
  refine okG T.FLaw scLaw (fun vs H Q E h => ?_) (fun cdv A gd outer st H vs Q E hr h => ?_)
  · obtain ⟨s, ns, rfl, _⟩ := h
    rfl
  obtain ⟨s, ns, rfl, hs, hns, q⟩ := h
  have hu := hu_of hr
  refine split_at 2 (fun D σ H' => D.rt = Q ∧ ∃ v1 v2 v3 v4 v5 v6, σ = [some (.ref s), v1, v2, v3, v4, v5, v6]) ?_ ?_
  · skip
    refine ⟨_, (pss_one (ps_ret (pe_cmpR (op_eqD hr.units) (pe_call GRegions (hr.mono (by omega)) rfl T.gRegions T.FRegions.kp T.bRegions .nil pass0 (pa_cons (pe_disp (pps_cons pe_str (pe_lst pa_nil) pps_nil) (by rfl) (by rfl) (fun z => by cases z) (by decide)) (pa_cons (pe_lst (pa_cons (pe_tup (pa_cons pe_str (pa_cons pe_str pa_nil))) (pa_cons (pe_tup (pa_cons pe_str pa_nil)) pa_nil))) pa_nil))) (pe_lst (pa_cons (pe_tup (pa_cons pe_str (pa_cons pe_int (pa_cons pe_int pa_nil)))) pa_nil)) (nomark _)))), ?_⟩
    rintro D σ H1 ⟨hD', v1, v2, v3, v4, v5, v6, rfl⟩
    intro b0 hb0
    have e0 : (upd H1 b0 (.dK [])) b0 = some (.dK []) := upd_same
    generalize upd H1 b0 (.dK []) = H2 at e0 ⊢
    refine ⟨Nat.zero_le _, fun b1 hb1 => ?_⟩
    have e1 : (upd H2 b1 (.lst [])) b1 = some (.lst []) := upd_same
    have e01 := same_upd hb1 (.lst []) _ _ e0
    generalize upd H2 b1 (.lst []) = H3 at e1 e01 ⊢
    refine ⟨e01, [(.inr "main", .ref b1)], rfl, by simp, ?_⟩
    have pk3 : PrKv H3 [(.inr "main", .ref b1)] p0 := .cons ⟨[], e1, .nil⟩ .nil
    have emg : mergeK [] [((.inr "main" : Key), V.ref b1)] = [(.inr "main", .ref b1)] := rfl
    rw [emg]
    have pk4 := pk3.keep (kp_dk (kvs := [((.inr "main" : Key), V.ref b1)]) e01)
    have e4 : (upd H3 b0 (.dK [(.inr "main", .ref b1)])) b0 = some (.dK [(.inr "main", .ref b1)]) := upd_same
    generalize upd H3 b0 (.dK [(.inr "main", .ref b1)]) = H4 at pk4 e4 ⊢
    refine ⟨Nat.le_of_lt (small1000 (by simp)), fun t1 ht1 => ?_⟩
    have s5 := same_upd ht1 (.tup [V.str "main", V.str "main"])
    have e5 : (upd H4 t1 (.tup [V.str "main", V.str "main"])) t1 = some (.tup ((["main", "main"] : List Str).map V.str)) := upd_same
    generalize upd H4 t1 (.tup [V.str "main", V.str "main"]) = H5 at s5 e5 ⊢
    refine ⟨Nat.le_of_lt (small1000 (by simp)), fun t2 ht2 => ?_⟩
    have s6 := same_upd ht2 (.tup [V.str "main"])
    have e6 : (upd H5 t2 (.tup [V.str "main"])) t2 = some (.tup ((["main"] : List Str).map V.str)) := upd_same
    generalize upd H5 t2 (.tup [V.str "main"]) = H6 at s6 e6 ⊢
    refine ⟨Nat.le_of_lt (small1000 (by simp)), fun l hl => ?_⟩
    have s7 := same_upd hl (.lst [V.ref t1, V.ref t2])
    have e7 : (upd H6 l (.lst [V.ref t1, V.ref t2])) l = some (.lst [V.ref t1, V.ref t2]) := upd_same
    generalize upd H6 l (.lst [V.ref t1, V.ref t2]) = H7 at s7 e7 ⊢
    have s47 := (s5.trans s6).trans s7
    have sk7 : SksAt H7 [V.ref t1, V.ref t2] k0 := .cons (s7 _ _ (s6 _ _ e5)) (.cons (s7 _ _ e6) .nil)
    have ok0 : Sks (pNames p0) "main" k0 := by
      refine ⟨?_, ?_, ?_⟩
      · decide +kernel
      · intro st hst
        simp only [k0, List.mem_cons, List.not_mem_nil, or_false] at hst
        rcases hst with rfl | rfl
        · exact ⟨_, rfl⟩
        · exact ⟨_, rfl⟩
      · decide +kernel
    refine ⟨b0, l, p0, _, k0, "main", rfl, ⟨_, .inl (s47 _ _ e4), pk4.keep (Kp.of s47)⟩, v0, e7, sk7, ok0, by simp, fun r us H8 s8 hrn hr8 hrg => ?_⟩
    rw [rg0] at hrg
    refine ⟨Nat.le_of_lt (small1000 (by simp)), fun t3 ht3 => ?_⟩
    have s9 := same_upd ht3 (.tup [V.str "main", V.int 0, V.int 0])
    have e9 : (upd H8 t3 (.tup [V.str "main", V.int 0, V.int 0])) t3 = some (.tup [V.str "main", V.int 0, V.int 0]) := upd_same
    generalize upd H8 t3 (.tup [V.str "main", V.int 0, V.int 0]) = H9 at s9 e9 ⊢
    refine ⟨Nat.le_of_lt (small1000 (by simp)), fun l2 hl2 => ?_⟩
    have s10 := same_upd hl2 (.lst [V.ref t3])
    have e10 : (upd H9 l2 (.lst [V.ref t3])) l2 = some (.lst [V.ref t3]) := upd_same
    generalize upd H9 l2 (.lst [V.ref t3]) = H10 at s10 e10 ⊢
    have s810 := s9.trans s10
    refine ⟨.list [.tuple [.str "main", .int 0, .int 0]], .list [.tuple [.str "main", .int 0, .int 0]], .lst (SqL.of (s810 _ _ hr8)) (hrg.keep fun t xs e => s810 t _ e).dp, .lst (SqL.of e10) (.cons (.tup (SqT.of (s10 _ _ e9)) (.cons (.str _) (.cons (.int _) (.cons (.int _) .nil)))) .nil), by decide +kernel, by decide +kernel, ?_⟩
    have ev : PyData.eqv (.list [.tuple [.str "main", .int 0, .int 0]]) (.list [.tuple [.str "main", .int 0, .int 0]]) = true := by decide +kernel
    rw [ev, hD']
    exact q _
  intro u hu1 ru
  refine ⟨_, (pss_cons (ps_set (i := 1) scLaw.nd rfl (by first | exact Or.inl rfl | exact Or.inr rfl) (pe_call GLSpring (hr.mono (by omega)) rfl T.gLSpring T.FLSpring.kp T.bLSpring .nil pass0 (pa_cons (pv 0) pa_nil)))
      (pss_cons (ps_for PassesOwn.never rfl (pi_range1 (by rfl) T.n_range (pa_cons (pe_op op_add pe_int (pe_callB (call_min2 rfl) (by rfl) T.n_min (by decide +kernel) (pa_cons pe_int (pa_cons (pe_callB call_len_seq (by rfl) T.n_len PySem.boot_len (pa_cons (pv 0) pa_nil)) pa_nil)))) pa_nil)) (pg_name (i := 2) scLaw.nd rfl (by first | exact Or.inl rfl | exact Or.inr rfl))
        (pss_cons (ps_set (i := 3) scLaw.nd rfl (by first | exact Or.inl rfl | exact Or.inr rfl) (pe_call GLProgram (hr.mono (by omega)) rfl T.gLProgram T.FLProgram.kp T.bLProgram .nil pass0 (pa_cons (pv 1) (pa_cons pe_int (pa_cons pe_int (pa_cons pe_bl pa_nil))))))
        (pss_cons (ps_set (i := 4) scLaw.nd rfl (by first | exact Or.inl rfl | exact Or.inr rfl) (pe_ix ix_list (pe_callTy (call_listD rfl) (by rfl) T.n_list (by decide +kernel) (pa_cons (pv 3) pa_nil)) (pe_call GLDraw (hr.mono (by omega)) rfl T.gLDraw T.FLDraw.kp T.bLDraw .nil pass0 (pa_cons (pv 1) (pa_cons (pe_callB call_lenR (by rfl) T.n_len PySem.boot_len (pa_cons (pv 3) pa_nil)) pa_nil))) (fun _ _ => rfl)))
        (pss_cons (ps_set (i := 5) scLaw.nd rfl (by first | exact Or.inl rfl | exact Or.inr rfl) (pe_ifExp (pt_cmpR op_eq (pv 2) pe_int (nomark _)) (pe_ix ix_list (pe_lst (pa_cons (pe_call GLDraw (hr.mono (by omega)) rfl T.gLDraw T.FLDraw.kp T.bLDraw .nil pass0 (pa_cons (pv 1) (pa_cons pe_int pa_nil))) (pa_cons pe_int pa_nil))) (pe_call GLDraw (hr.mono (by omega)) rfl T.gLDraw T.FLDraw.kp T.bLDraw .nil pass0 (pa_cons (pv 1) (pa_cons pe_int pa_nil))) (fun _ _ => rfl)) (pe_call GLDraw (hr.mono (by omega)) rfl T.gLDraw T.FLDraw.kp T.bLDraw .nil pass0 (pa_cons (pv 1) (pa_cons pe_int pa_nil)))))
        (pss_cons (ps_set (i := 6) scLaw.nd rfl (by first | exact Or.inl rfl | exact Or.inr rfl) (pe_call GLStacks (hr.mono (by omega)) rfl T.gLStacks T.FLStacks.kp T.bLStacks .nil pass0 (pa_cons (pv 1) (pa_cons (pv 3) (pa_cons (pv 4) (pa_cons (pv 5) (pa_cons pe_int pa_nil)))))))
        (pss_cons (ps_if (pt_not (pt_val (pe_callG GLRight gd (hr.mono (by omega)) rfl T.gLRight T.FLRight.kp T.bLRight (pa_cons (pv 3) (pa_cons (pv 6) pa_nil)))))
          (pss_one (ps_ret pe_bl)) pss_nil)
        (pss_one (ps_if (pt_cmpR op_gt (pe_callB call_len_seq (by rfl) T.n_len PySem.boot_len (pa_cons (pv 6) pa_nil)) pe_int (nomark _))
          (pss_cons (ps_asg (pe_tup (pa_cons (pv 4) pa_nil)) (pg_sub (pv 6) (pe_call GLDraw (hr.mono (by omega)) rfl T.gLDraw T.FLDraw.kp T.bLDraw .nil pass0 (pa_cons (pv 1) (pa_cons (pe_callB call_len_seq (by rfl) T.n_len PySem.boot_len (pa_cons (pv 6) pa_nil)) pa_nil))) set_list))
          (pss_cons (ps_if (pt_not (pt_val (pe_callG GLRight gd (hr.mono (by omega)) rfl T.gLRight T.FLRight.kp T.bLRight (pa_cons (pv 3) (pa_cons (pv 6) pa_nil)))))
            (pss_one (ps_ret pe_bl)) pss_nil)
          (pss_cons (ps_expr (pe_bm PySem.F.plainAttrs_list PySem.F.slot_list_pop PySem.F.type_list_pop mt_popAt (pv 6) (pa_cons pe_int pa_nil)))
          (pss_one (ps_if (pt_not (pt_val (pe_callG GLRight gd (hr.mono (by omega)) rfl T.gLRight T.FLRight.kp T.bLRight (pa_cons (pv 3) (pa_cons (pv 6) pa_nil)))))
            (pss_one (ps_ret pe_bl)) pss_nil))))) pss_nil))))))))
      hu1)), ?_⟩
  refine ⟨_, rfl, s, ns, rfl, hs, fun a H1 s1 hna hw1 => ?_⟩
  obtain ⟨m, hm0, hm6, em⟩ : ∃ m : Int, 0 ≤ m ∧ m ≤ 6 ∧ 3 + (if ((ns.map V.int).length : Int) < 3 then ((ns.map V.int).length : Int) else 3) = m := by
    refine ⟨_, ?_, ?_, rfl⟩ <;> split <;> omega
  refine ⟨_, rfl, _, _, rfl, .inl (s1.seq hs), _, _, rfl, _, _, rfl, rfl, m, congrArg (fun z => [V.int z]) em, by omega, by omega, ?_⟩
  refine for_range (lo := 0) (n := m.toNat) (fun k σ H' => ∃ v2 v3 v4 v5 v6, σ = [some (.ref s), some (.ref a), v2, v3, v4, v5, v6] ∧ Same H H' ∧ WellAt H' a (k * 50000)) ⟨none, none, none, none, none, rfl, s1, hw1.mono (by omega)⟩ ?_ ?_
  · rintro k σ H3 hk ⟨v2, v3, v4, v5, v6, rfl, s3, hw3⟩
    have hk6 : k < 6 := by omega
    have far : ∀ {H' : Hp}, Sm [a] H3 H' → Same H H' := fun sm b o e => sm b o (by simp; exact ne_of_none e hna) (s3 _ _ e)
    obtain ⟨m0, hm0'⟩ : ∃ m0, m0 = k * 50000 := ⟨_, rfl⟩
    have hms : m0 + 50000 = (k + 1) * 50000 := by omega
    rw [← hm0'] at hw3
    refine ⟨_, rfl, a, 6, 5, m0, rfl, by decide, by decide, by decide, by decide, hw3, by omega, fun d kvs p H4 sm4 hw4 hdn hd4 hk4 va => ?_⟩
    have prw4 : PrW H4 a d p := ⟨kvs, hd4, hk4⟩
    have hkl := hk4.length
    have hlen := va.len
    have hpos : 0 < p.length := by
      have := List.length_pos_of_mem va.main
      unfold pNames at this
      rwa [List.length_map] at this
    -- a function to begin with
    refine ⟨_, rfl, d, kvs, rfl, .inl hd4, fun L hL => ?_⟩
    rw [PrKv.names hk4]
    have s5 := same_upd hL (.lst ((pNames p).map V.str))
    have hL5 : (upd H4 L (.lst ((pNames p).map V.str))) L = some (.lst ((pNames p).map V.str)) := upd_same
    generalize upd H4 L (.lst ((pNames p).map V.str)) = H5 at s5 hL5 ⊢
    have hw5 : WellAt H5 a (m0 + 10000) := hw4.keep fun o e => s5 _ _ e
    refine ⟨_, rfl, _, rfl, d, kvs, rfl, .inl (s5 _ _ hd4), a, (kvs.length : Nat), m0 + 10000, rfl, by omega, by omega, hw5, by omega, fun x H6 x0 x1 sm6 hw6 => ?_⟩
    have hx : x.toNat < (pNames p).length := by unfold pNames; rw [List.length_map]; omega
    have hLa : L ≠ a := by
      rintro rfl
      obtain ⟨o, e⟩ := hw4.some
      rw [e] at hL; cases hL
    refine ⟨L, _, _, .str (pNames p)[x.toNat], rfl, rfl, SqL.of (sm6 _ _ (by simp [hLa]) hL5), at_of (j := x.toNat) (by omega) (by rw [List.getElem?_map, List.getElem?_eq_getElem hx]; rfl), ?_⟩
    obtain ⟨tp, htp⟩ : ∃ tp, tp = (pNames p)[x.toNat] := ⟨_, rfl⟩
    have htop : tp ∈ pNames p := by rw [htp]; exact List.getElem_mem hx
    rw [← htp]
    have sm46 : Sm [a] H4 H6 := (Sm.of_same s5).trans sm6
    have sm36 : Sm [a] H3 H6 := sm4.trans sm46
    have prw6 := prw4.on hw4 sm46
    clear prw4 hk4 hd4 sm4 hw4 hL s5 hL5 hw5 sm6 sm46 hx htp hLa
    have hw6' : WellAt H6 a (m0 + 10001) := hw6
    clear hw6
    -- how many stacks
    refine ⟨_, rfl, rfl, _, rfl, ite2 (fun c => ?_) (fun c => ?_)⟩
    rotate_left
    refine ⟨_, rfl, a, 13, m0 + 10001, rfl, by decide, by decide, hw6', by omega, fun sz H7 z0 z1 sm7 hw7 => ?_⟩
    have z2 : sz ≤ 200 := by omega
    have hw8 : WellAt H7 a (m0 + 10003) := hw7.mono (by omega)
    have sm37 := sm36.trans sm7
    have prw7 := prw6.on hw6' sm7
    clear z1 hw7 sm7 prw6 sm36 hw6' c
    rotate_right
    refine ⟨_, rfl, a, 201, m0 + 10001, rfl, by decide, by decide, hw6', by omega, fun y H8 y0 y1 sm8 hw8 => ?_⟩
    refine ⟨Nat.le_of_lt (small1000 (by simp)), fun qq hqq => ?_⟩
    have s9 := same_upd hqq (.lst [V.int y, V.int 200])
    have hq9 : (upd H8 qq (.lst [V.int y, V.int 200])) qq = some (.lst [V.int y, V.int 200]) := upd_same
    generalize upd H8 qq (.lst [V.int y, V.int 200]) = H9 at s9 hq9 ⊢
    have hw9 : WellAt H9 a (m0 + 10002) := hw8.keep fun o e => s9 _ _ e
    refine ⟨_, rfl, a, 2, m0 + 10002, rfl, by decide, by decide, hw9, by omega, fun z H7 zz0 zz1 sm7 hw7 => ?_⟩
    have hqa : qq ≠ a := by
      rintro rfl
      obtain ⟨o, e⟩ := hw8.some
      rw [e] at hqq; cases hqq
    obtain ⟨sz, hat, z0, z2⟩ : ∃ sz : Int, atI [V.int y, V.int 200] z = some (.int sz) ∧ 0 ≤ sz ∧ sz ≤ 200 := by
      rcases (by omega : z = 0 ∨ z = 1) with rfl | rfl
      · exact ⟨y, rfl, y0, by omega⟩
      · exact ⟨200, rfl, by decide, by decide⟩
    refine ⟨qq, _, _, .int sz, rfl, rfl, SqL.of (sm7 _ _ (by simp [hqa]) hq9), hat, ?_⟩
    have sm67 : Sm [a] H6 H7 := (sm8.trans (Sm.of_same s9)).trans sm7
    have sm37 := sm36.trans sm67
    have prw7 := prw6.on hw6' sm67
    have hw8' : WellAt H7 a (m0 + 10003) := hw7
    clear hw8 hw7 hw9 hqq s9 hq9 sm7 sm8 prw6 sm36 hw6' sm67 hat y0 y1 hqa c zz0 zz1
    have hw8 := hw8'
    clear hw8'
    all_goals
      refine ⟨_, rfl, _, rfl, _, rfl, _, rfl, a, d, p, tp, sz, 5, m0 + 10003, rfl, hw8, by omega, prw7, va, htop, z0, z2, by decide, by decide, fun r ws sks H10 sm10 hw10 hrn hr10 hsk10 dr hl10 => ?_⟩
      have hrH : ∀ {b : Addr} {o : HO}, H b = some o → b ≠ r := fun e z => by
        have := far sm37 _ _ e
        rw [z, hrn] at this; cases this
      have far10 := far (sm37.trans sm10)
      have hra : r ≠ a := by
        rintro rfl
        obtain ⟨o, e⟩ := hw8.some
        rw [e] at hrn; cases hrn
      have hwl := hsk10.length
      have sk := dr.sks
      obtain ⟨kvs2, pd7, pk7⟩ := prw7
      have hda : d ≠ a := by
        rintro rfl
        obtain ⟨x, y, z, e, _⟩ := hw8
        rw [pd7] at e; cases e
      have hdr : d ≠ r := by
        rintro rfl
        rw [pd7] at hrn; cases hrn
      -- the program stays while the stacks are drawn and changed
      have dpr : ∀ {H' : Hp}, Sm [a, r] H7 H' → H' d = some (.dK kvs2) := fun sm => sm _ _ (by simp [hda, hdr]) pd7
      have kpr : ∀ {H' : Hp}, Sm [a, r] H7 H' → PrKv H' kvs2 p := fun {H'} sm => pk7.keep (by
        have key : ∀ x o, wo [a] H7 x = some o → H' x = some o := fun x o e => by
          rw [wo_some] at e
          refine sm x o ?_ e.2
          have h1 : x ≠ a := by simpa using e.1
          have h2 : x ≠ r := by
            rintro rfl
            rw [hrn] at e; cases e.2
          simp [h1, h2]
        exact ⟨fun x xs e => key _ _ e, fun x xs e => key _ _ e⟩)
      have sm710 : Sm [a, r] H7 H10 := sm10.more (by simp)
      refine ⟨_, rfl, _, rfl, d, r, kvs2, p, ws, sks, tp, rfl, dpr sm710, kpr sm710, va, hr10, hsk10, sk, by omega, fun H11 s11 => ?_⟩
      refine ⟨_, rfl, iteF ?_⟩
      have far11 := far10.trans s11
      have hw11 : WellAt H11 a (m0 + 10003 + 30000) := hw10.keep fun o e => s11 _ _ e
      have hr11 := s11 _ _ hr10
      have hsk11 := hsk10.keep fun t xs e => s11 t _ e
      have sm711 : Sm [a, r] H7 H11 := sm710.trans (Sm.of_same s11)
      refine ⟨_, rfl, _, _, rfl, .inl (SqL.of hr11), _, _, rfl, rfl, _, rfl, ite2 (fun c => ?_) (fun c => ?_)⟩
      · have c := of_decide_eq_true c
        refine ⟨_, rfl, Nat.le_of_lt (small1000 (by simp)), fun t ht => ?_⟩
        have s12 := same_upd ht (.tup [V.str tp])
        have ht12 : (upd H11 t (.tup [V.str tp])) t = some (.tup (([tp] : List Str).map V.str)) := upd_same
        generalize upd H11 t (.tup [V.str tp]) = H12 at s12 ht12 ⊢
        have hw12 : WellAt H12 a (m0 + 10003 + 30000) := hw11.keep fun o e => s12 _ _ e
        refine ⟨_, rfl, _, rfl, _, rfl, _, _, rfl, .inl (SqL.of (s12 _ _ hr11)), a, _, _, rfl, by omega, by omega, hw12, by omega, fun y H13 y0 y1 sm13 hw13 => ?_⟩
        have sm1113 : Sm [a] H11 H13 := (Sm.of_same s12).trans sm13
        have hr13 : H13 r = some (.lst ws) := sm1113 _ _ (by simp [hra]) hr11
        have hsk13 := hsk11.keep (Sm.tups sm1113 hw11.lst)
        have ht13 := Sm.tups sm13 hw12.lst _ _ ht12
        have sm713 : Sm [a, r] H7 H13 := sm711.trans (sm1113.more (by simp))
        refine ⟨r, _, y, y.toNat, rfl, rfl, hr13, ix_of y0 y1, ?_⟩
        have far13 : Same H H13 := fun b o e => sm1113 b o (by simp; exact ne_of_none e hna) (far11 _ _ e)
        -- the list is changed: what stays
        have chg : ∀ (K1 : Hp) (us us2 : List V) (n1 : Nat), K1 r = some (.lst us) → Same H K1 → WellAt K1 a n1 → Sm [a, r] H7 K1 → (∀ x xs, K1 x = some (.tup xs) → (upd K1 r (.lst us2)) x = some (.tup xs)) ∧ (upd K1 r (.lst us2)) r = some (.lst us2) ∧ Same H (upd K1 r (.lst us2)) ∧ WellAt (upd K1 r (.lst us2)) a n1 ∧ Sm [a, r] H7 (upd K1 r (.lst us2)) := by
          intro K1 us us2 n1 h1 h2 h3 h4
          refine ⟨fun x xs e => ?_, upd_same, fun b o e => ?_, h3.keep fun o e => ?_, h4.trans (Sm.at (by simp))⟩
          · rw [upd_ne]
            · exact e
            · rintro rfl
              rw [h1] at e; cases e
          · rw [upd_ne (hrH e)]; exact h2 _ _ e
          · rw [upd_ne hra.symm]; exact e
        obtain ⟨c1, c2, c3, c4, c5⟩ := chg H13 ws (ws.set y.toNat (.ref t)) _ hr13 far13 hw13 sm713
        have hsk14 := (hsk13.keep c1).set (i := y.toNat) (c1 _ _ ht13)
        generalize upd H13 r (.lst (ws.set y.toNat (.ref t))) = H14 at c1 c2 c3 c4 c5 hsk14 ⊢
        have sk14 := sk.set (i := y.toNat) htop
        have hl14 : (ws.set y.toNat (V.ref t)).length = ws.length := List.length_set
        refine ⟨_, rfl, _, rfl, d, r, kvs2, p, _, _, tp, rfl, dpr c5, kpr c5, va, c2, hsk14, sk14, by omega, fun H15 s15 => ?_⟩
        refine ⟨_, rfl, iteF ?_⟩
        have hr15 := s15 _ _ c2
        have far15 := c3.trans s15
        have hw15 : WellAt H15 a (m0 + 10003 + 30000 + 1) := c4.keep fun o e => s15 _ _ e
        have sm715 := c5.trans (Sm.of_same (W := [a, r]) s15)
        have hsk15 := hsk14.keep fun t xs e => s15 t _ e
        generalize ws.set y.toNat (V.ref t) = ws2 at hr15 hsk15 hl14 ⊢
        have hpos2 : 0 < ws2.length := by omega
        refine ⟨_, rfl, .inl ⟨rfl, _, SqL.of hr15⟩, r, ws2, 0, 0, ws2[0], rfl, rfl, hr15, by decide, by decide, (ixN_seq (ix_of (Int.le_refl 0) (by omega))).1, List.getElem?_eq_getElem hpos2, ?_⟩
        rw [List.eraseIdx_zero]
        obtain ⟨d1, d2, d3, d4, d5⟩ := chg H15 ws2 ws2.tail _ hr15 far15 hw15 sm715
        have hsk16 := (hsk15.keep d1).tail
        generalize upd H15 r (.lst ws2.tail) = H16 at d1 d2 d3 d4 d5 hsk16 ⊢
        refine ⟨_, rfl, _, rfl, d, r, kvs2, p, _, _, tp, rfl, dpr d5, kpr d5, va, d2, hsk16, sk14.tail, by rw [List.length_tail]; omega, fun H17 s17 => ?_⟩
        refine ⟨_, rfl, iteF ?_⟩
        exact ⟨_, _, _, _, _, rfl, d3.trans s17, (d4.keep fun o e => s17 _ _ e).mono (by omega)⟩
      · exact ⟨_, _, _, _, _, rfl, far11, hw11.mono (by omega)⟩
  · rintro σ H3 ⟨v2, v3, v4, v5, v6, rfl, s3, hw3⟩
    exact ru _ _ _ ⟨rfl, _, _, _, _, _, _, rfl⟩
end K13


set_option Elab.async false
set_option linter.all false
set_option maxRecDepth 100000
set_option maxHeartbeats 4000000
namespace K13
open PySem PySem.Spec PyProof.Rows L2 FA LiI
theorem all_mk {P : Program} {w : World} {K : PySem.W.Frag} {h : Heap} {mg : Str → Option Value} {fa : Addr} (X : K.In h) (G : h.Ns mainGlobals mg) (hfa : mg "law" = some (.ref fa))
    {fIsName : Addr} {odIsName anIsName : Option Addr} {slIsName : Array (Option Value)} {ocIsName kVIsName dcIsName pmIsName cdIsName ctIsName : Value}
    {fIsFunction : Addr} {odIsFunction anIsFunction : Option Addr} {slIsFunction : Array (Option Value)} {ocIsFunction kVIsFunction dcIsFunction pmIsFunction cdIsFunction ctIsFunction : Value}
    {fChoices : Addr} {odChoices anChoices : Option Addr} {slChoices : Array (Option Value)} {ocChoices kVChoices dcChoices pmChoices cdChoices ctChoices : Value}
    {fItemSize : Addr} {odItemSize anItemSize : Option Addr} {slItemSize : Array (Option Value)} {ocItemSize kVItemSize dcItemSize pmItemSize cdItemSize ctItemSize : Value}
    {fBodySize : Addr} {odBodySize anBodySize : Option Addr} {slBodySize : Array (Option Value)} {ocBodySize kVBodySize dcBodySize pmBodySize cdBodySize ctBodySize : Value}
    {fLeastInItem : Addr} {odLeastInItem anLeastInItem : Option Addr} {slLeastInItem : Array (Option Value)} {ocLeastInItem kVLeastInItem dcLeastInItem pmLeastInItem cdLeastInItem ctLeastInItem : Value}
    {fLeastInBody : Addr} {odLeastInBody anLeastInBody : Option Addr} {slLeastInBody : Array (Option Value)} {ocLeastInBody kVLeastInBody dcLeastInBody pmLeastInBody cdLeastInBody ctLeastInBody : Value}
    {fLeastCalls : Addr} {odLeastCalls anLeastCalls : Option Addr} {slLeastCalls : Array (Option Value)} {ocLeastCalls kVLeastCalls dcLeastCalls pmLeastCalls cdLeastCalls ctLeastCalls : Value}
    {fIsProgram : Addr} {odIsProgram anIsProgram : Option Addr} {slIsProgram : Array (Option Value)} {ocIsProgram kVIsProgram dcIsProgram pmIsProgram cdIsProgram ctIsProgram : Value}
    {fCheckProgram : Addr} {odCheckProgram anCheckProgram : Option Addr} {slCheckProgram : Array (Option Value)} {ocCheckProgram kVCheckProgram dcCheckProgram pmCheckProgram cdCheckProgram ctCheckProgram : Value}
    {fIsStack : Addr} {odIsStack anIsStack : Option Addr} {slIsStack : Array (Option Value)} {ocIsStack kVIsStack dcIsStack pmIsStack cdIsStack ctIsStack : Value}
    {fCheckStacks : Addr} {odCheckStacks anCheckStacks : Option Addr} {slCheckStacks : Array (Option Value)} {ocCheckStacks kVCheckStacks dcCheckStacks pmCheckStacks cdCheckStacks ctCheckStacks : Value}
    {fRegions : Addr} {odRegions anRegions : Option Addr} {slRegions : Array (Option Value)} {ocRegions kVRegions dcRegions pmRegions cdRegions ctRegions : Value}
    {fLSpring : Addr} {odLSpring anLSpring : Option Addr} {slLSpring : Array (Option Value)} {ocLSpring kVLSpring dcLSpring pmLSpring cdLSpring ctLSpring : Value}
    {fLDraw : Addr} {odLDraw anLDraw : Option Addr} {slLDraw : Array (Option Value)} {ocLDraw kVLDraw dcLDraw pmLDraw cdLDraw ctLDraw : Value}
    {fLItems : Addr} {odLItems anLItems : Option Addr} {slLItems : Array (Option Value)} {ocLItems kVLItems dcLItems pmLItems cdLItems ctLItems : Value}
    {fLCalls : Addr} {odLCalls anLCalls : Option Addr} {slLCalls : Array (Option Value)} {ocLCalls kVLCalls dcLCalls pmLCalls cdLCalls ctLCalls : Value}
    {fLCount : Addr} {odLCount anLCount : Option Addr} {slLCount : Array (Option Value)} {ocLCount kVLCount dcLCount pmLCount cdLCount ctLCount : Value}
    {fLCost : Addr} {odLCost anLCost : Option Addr} {slLCost : Array (Option Value)} {ocLCost kVLCost dcLCost pmLCost cdLCost ctLCost : Value}
    {fLProgram : Addr} {odLProgram anLProgram : Option Addr} {slLProgram : Array (Option Value)} {ocLProgram kVLProgram dcLProgram pmLProgram cdLProgram ctLProgram : Value}
    {fLCallees : Addr} {odLCallees anLCallees : Option Addr} {slLCallees : Array (Option Value)} {ocLCallees kVLCallees dcLCallees pmLCallees cdLCallees ctLCallees : Value}
    {fLStack : Addr} {odLStack anLStack : Option Addr} {slLStack : Array (Option Value)} {ocLStack kVLStack dcLStack pmLStack cdLStack ctLStack : Value}
    {fLStacks : Addr} {odLStacks anLStacks : Option Addr} {slLStacks : Array (Option Value)} {ocLStacks kVLStacks dcLStacks pmLStacks cdLStacks ctLStacks : Value}
    {fLDue : Addr} {odLDue anLDue : Option Addr} {slLDue : Array (Option Value)} {ocLDue kVLDue dcLDue pmLDue cdLDue ctLDue : Value}
    {fLRight : Addr} {odLRight anLRight : Option Addr} {slLRight : Array (Option Value)} {ocLRight kVLRight dcLRight pmLRight cdLRight ctLRight : Value}
    {fLaw : Addr} {odLaw anLaw : Option Addr} {slLaw : Array (Option Value)} {ocLaw kVLaw dcLaw pmLaw cdLaw ctLaw : Value}
    {tFEWEST_CHOICES : Tok}
    {tMOST_CALLS : Tok}
    {tMOST_CALLS_TO_RETURN : Tok}
    {tMOST_CHOICES : Tok}
    {tMOST_FUNCTIONS : Tok}
    {tMOST_ITEMS : Tok}
    {tMOST_LETTERS : Tok}
    {tMOST_LEVELS : Tok}
    {tMOST_NAMES_IN_STACK : Tok}
    (aIsName : PySem.W.nsIn K mainGlobals "is_name" = some (some (.ref fIsName)))
    (lIsName : K.lookup fIsName = some ⟨ocIsName, odIsName, .func (PySem.W.fnOf "is_name" "is_name" (defArgs sIsName) (defBody sIsName) (defScope sIsName) .none kVIsName dcIsName pmIsName anIsName cdIsName ctIsName), slIsName⟩)
    (cIsName : PySem.W.codeIn K cdIsName "is_name" = true) (kIsName : PySem.W.keepIn K (.ref fIsName) = true)
    (aIsFunction : PySem.W.nsIn K mainGlobals "is_function" = some (some (.ref fIsFunction)))
    (lIsFunction : K.lookup fIsFunction = some ⟨ocIsFunction, odIsFunction, .func (PySem.W.fnOf "is_function" "is_function" (defArgs sIsFunction) (defBody sIsFunction) (defScope sIsFunction) .none kVIsFunction dcIsFunction pmIsFunction anIsFunction cdIsFunction ctIsFunction), slIsFunction⟩)
    (cIsFunction : PySem.W.codeIn K cdIsFunction "is_function" = true) (kIsFunction : PySem.W.keepIn K (.ref fIsFunction) = true)
    (aChoices : PySem.W.nsIn K mainGlobals "_choices" = some (some (.ref fChoices)))
    (lChoices : K.lookup fChoices = some ⟨ocChoices, odChoices, .func (PySem.W.fnOf "_choices" "_choices" (defArgs sChoices) (defBody sChoices) (defScope sChoices) .none kVChoices dcChoices pmChoices anChoices cdChoices ctChoices), slChoices⟩)
    (cChoices : PySem.W.codeIn K cdChoices "_choices" = true) (kChoices : PySem.W.keepIn K (.ref fChoices) = true)
    (aItemSize : PySem.W.nsIn K mainGlobals "_item_size" = some (some (.ref fItemSize)))
    (lItemSize : K.lookup fItemSize = some ⟨ocItemSize, odItemSize, .func (PySem.W.fnOf "_item_size" "_item_size" (defArgs sItemSize) (defBody sItemSize) (defScope sItemSize) .none kVItemSize dcItemSize pmItemSize anItemSize cdItemSize ctItemSize), slItemSize⟩)
    (cItemSize : PySem.W.codeIn K cdItemSize "_item_size" = true) (kItemSize : PySem.W.keepIn K (.ref fItemSize) = true)
    (aBodySize : PySem.W.nsIn K mainGlobals "_body_size" = some (some (.ref fBodySize)))
    (lBodySize : K.lookup fBodySize = some ⟨ocBodySize, odBodySize, .func (PySem.W.fnOf "_body_size" "_body_size" (defArgs sBodySize) (defBody sBodySize) (defScope sBodySize) .none kVBodySize dcBodySize pmBodySize anBodySize cdBodySize ctBodySize), slBodySize⟩)
    (cBodySize : PySem.W.codeIn K cdBodySize "_body_size" = true) (kBodySize : PySem.W.keepIn K (.ref fBodySize) = true)
    (aLeastInItem : PySem.W.nsIn K mainGlobals "_least_in_item" = some (some (.ref fLeastInItem)))
    (lLeastInItem : K.lookup fLeastInItem = some ⟨ocLeastInItem, odLeastInItem, .func (PySem.W.fnOf "_least_in_item" "_least_in_item" (defArgs sLeastInItem) (defBody sLeastInItem) (defScope sLeastInItem) .none kVLeastInItem dcLeastInItem pmLeastInItem anLeastInItem cdLeastInItem ctLeastInItem), slLeastInItem⟩)
    (cLeastInItem : PySem.W.codeIn K cdLeastInItem "_least_in_item" = true) (kLeastInItem : PySem.W.keepIn K (.ref fLeastInItem) = true)
    (aLeastInBody : PySem.W.nsIn K mainGlobals "_least_in_body" = some (some (.ref fLeastInBody)))
    (lLeastInBody : K.lookup fLeastInBody = some ⟨ocLeastInBody, odLeastInBody, .func (PySem.W.fnOf "_least_in_body" "_least_in_body" (defArgs sLeastInBody) (defBody sLeastInBody) (defScope sLeastInBody) .none kVLeastInBody dcLeastInBody pmLeastInBody anLeastInBody cdLeastInBody ctLeastInBody), slLeastInBody⟩)
    (cLeastInBody : PySem.W.codeIn K cdLeastInBody "_least_in_body" = true) (kLeastInBody : PySem.W.keepIn K (.ref fLeastInBody) = true)
    (aLeastCalls : PySem.W.nsIn K mainGlobals "_least_calls" = some (some (.ref fLeastCalls)))
    (lLeastCalls : K.lookup fLeastCalls = some ⟨ocLeastCalls, odLeastCalls, .func (PySem.W.fnOf "_least_calls" "_least_calls" (defArgs sLeastCalls) (defBody sLeastCalls) (defScope sLeastCalls) .none kVLeastCalls dcLeastCalls pmLeastCalls anLeastCalls cdLeastCalls ctLeastCalls), slLeastCalls⟩)
    (cLeastCalls : PySem.W.codeIn K cdLeastCalls "_least_calls" = true) (kLeastCalls : PySem.W.keepIn K (.ref fLeastCalls) = true)
    (aIsProgram : PySem.W.nsIn K mainGlobals "is_program" = some (some (.ref fIsProgram)))
    (lIsProgram : K.lookup fIsProgram = some ⟨ocIsProgram, odIsProgram, .func (PySem.W.fnOf "is_program" "is_program" (defArgs sIsProgram) (defBody sIsProgram) (defScope sIsProgram) .none kVIsProgram dcIsProgram pmIsProgram anIsProgram cdIsProgram ctIsProgram), slIsProgram⟩)
    (cIsProgram : PySem.W.codeIn K cdIsProgram "is_program" = true) (kIsProgram : PySem.W.keepIn K (.ref fIsProgram) = true)
    (aCheckProgram : PySem.W.nsIn K mainGlobals "check_program" = some (some (.ref fCheckProgram)))
    (lCheckProgram : K.lookup fCheckProgram = some ⟨ocCheckProgram, odCheckProgram, .func (PySem.W.fnOf "check_program" "check_program" (defArgs sCheckProgram) (defBody sCheckProgram) (defScope sCheckProgram) .none kVCheckProgram dcCheckProgram pmCheckProgram anCheckProgram cdCheckProgram ctCheckProgram), slCheckProgram⟩)
    (cCheckProgram : PySem.W.codeIn K cdCheckProgram "check_program" = true) (kCheckProgram : PySem.W.keepIn K (.ref fCheckProgram) = true)
    (aIsStack : PySem.W.nsIn K mainGlobals "is_stack" = some (some (.ref fIsStack)))
    (lIsStack : K.lookup fIsStack = some ⟨ocIsStack, odIsStack, .func (PySem.W.fnOf "is_stack" "is_stack" (defArgs sIsStack) (defBody sIsStack) (defScope sIsStack) .none kVIsStack dcIsStack pmIsStack anIsStack cdIsStack ctIsStack), slIsStack⟩)
    (cIsStack : PySem.W.codeIn K cdIsStack "is_stack" = true) (kIsStack : PySem.W.keepIn K (.ref fIsStack) = true)
    (aCheckStacks : PySem.W.nsIn K mainGlobals "check_stacks" = some (some (.ref fCheckStacks)))
    (lCheckStacks : K.lookup fCheckStacks = some ⟨ocCheckStacks, odCheckStacks, .func (PySem.W.fnOf "check_stacks" "check_stacks" (defArgs sCheckStacks) (defBody sCheckStacks) (defScope sCheckStacks) .none kVCheckStacks dcCheckStacks pmCheckStacks anCheckStacks cdCheckStacks ctCheckStacks), slCheckStacks⟩)
    (cCheckStacks : PySem.W.codeIn K cdCheckStacks "check_stacks" = true) (kCheckStacks : PySem.W.keepIn K (.ref fCheckStacks) = true)
    (aRegions : PySem.W.nsIn K mainGlobals "regions" = some (some (.ref fRegions)))
    (lRegions : K.lookup fRegions = some ⟨ocRegions, odRegions, .func (PySem.W.fnOf "regions" "regions" (defArgs sRegions) (defBody sRegions) (defScope sRegions) .none kVRegions dcRegions pmRegions anRegions cdRegions ctRegions), slRegions⟩)
    (cRegions : PySem.W.codeIn K cdRegions "regions" = true) (kRegions : PySem.W.keepIn K (.ref fRegions) = true)
    (aLSpring : PySem.W.nsIn K mainGlobals "_law_spring" = some (some (.ref fLSpring)))
    (lLSpring : K.lookup fLSpring = some ⟨ocLSpring, odLSpring, .func (PySem.W.fnOf "_law_spring" "_law_spring" (defArgs sLSpring) (defBody sLSpring) (defScope sLSpring) .none kVLSpring dcLSpring pmLSpring anLSpring cdLSpring ctLSpring), slLSpring⟩)
    (cLSpring : PySem.W.codeIn K cdLSpring "_law_spring" = true) (kLSpring : PySem.W.keepIn K (.ref fLSpring) = true)
    (aLDraw : PySem.W.nsIn K mainGlobals "_law_draw" = some (some (.ref fLDraw)))
    (lLDraw : K.lookup fLDraw = some ⟨ocLDraw, odLDraw, .func (PySem.W.fnOf "_law_draw" "_law_draw" (defArgs sLDraw) (defBody sLDraw) (defScope sLDraw) .none kVLDraw dcLDraw pmLDraw anLDraw cdLDraw ctLDraw), slLDraw⟩)
    (cLDraw : PySem.W.codeIn K cdLDraw "_law_draw" = true) (kLDraw : PySem.W.keepIn K (.ref fLDraw) = true)
    (aLItems : PySem.W.nsIn K mainGlobals "_law_items" = some (some (.ref fLItems)))
    (lLItems : K.lookup fLItems = some ⟨ocLItems, odLItems, .func (PySem.W.fnOf "_law_items" "_law_items" (defArgs sLItems) (defBody sLItems) (defScope sLItems) .none kVLItems dcLItems pmLItems anLItems cdLItems ctLItems), slLItems⟩)
    (cLItems : PySem.W.codeIn K cdLItems "_law_items" = true) (kLItems : PySem.W.keepIn K (.ref fLItems) = true)
    (aLCalls : PySem.W.nsIn K mainGlobals "_law_calls" = some (some (.ref fLCalls)))
    (lLCalls : K.lookup fLCalls = some ⟨ocLCalls, odLCalls, .func (PySem.W.fnOf "_law_calls" "_law_calls" (defArgs sLCalls) (defBody sLCalls) (defScope sLCalls) .none kVLCalls dcLCalls pmLCalls anLCalls cdLCalls ctLCalls), slLCalls⟩)
    (cLCalls : PySem.W.codeIn K cdLCalls "_law_calls" = true) (kLCalls : PySem.W.keepIn K (.ref fLCalls) = true)
    (aLCount : PySem.W.nsIn K mainGlobals "_law_count" = some (some (.ref fLCount)))
    (lLCount : K.lookup fLCount = some ⟨ocLCount, odLCount, .func (PySem.W.fnOf "_law_count" "_law_count" (defArgs sLCount) (defBody sLCount) (defScope sLCount) .none kVLCount dcLCount pmLCount anLCount cdLCount ctLCount), slLCount⟩)
    (cLCount : PySem.W.codeIn K cdLCount "_law_count" = true) (kLCount : PySem.W.keepIn K (.ref fLCount) = true)
    (aLCost : PySem.W.nsIn K mainGlobals "_law_cost" = some (some (.ref fLCost)))
    (lLCost : K.lookup fLCost = some ⟨ocLCost, odLCost, .func (PySem.W.fnOf "_law_cost" "_law_cost" (defArgs sLCost) (defBody sLCost) (defScope sLCost) .none kVLCost dcLCost pmLCost anLCost cdLCost ctLCost), slLCost⟩)
    (cLCost : PySem.W.codeIn K cdLCost "_law_cost" = true) (kLCost : PySem.W.keepIn K (.ref fLCost) = true)
    (aLProgram : PySem.W.nsIn K mainGlobals "_law_program" = some (some (.ref fLProgram)))
    (lLProgram : K.lookup fLProgram = some ⟨ocLProgram, odLProgram, .func (PySem.W.fnOf "_law_program" "_law_program" (defArgs sLProgram) (defBody sLProgram) (defScope sLProgram) .none kVLProgram dcLProgram pmLProgram anLProgram cdLProgram ctLProgram), slLProgram⟩)
    (cLProgram : PySem.W.codeIn K cdLProgram "_law_program" = true) (kLProgram : PySem.W.keepIn K (.ref fLProgram) = true)
    (aLCallees : PySem.W.nsIn K mainGlobals "_law_callees" = some (some (.ref fLCallees)))
    (lLCallees : K.lookup fLCallees = some ⟨ocLCallees, odLCallees, .func (PySem.W.fnOf "_law_callees" "_law_callees" (defArgs sLCallees) (defBody sLCallees) (defScope sLCallees) .none kVLCallees dcLCallees pmLCallees anLCallees cdLCallees ctLCallees), slLCallees⟩)
    (cLCallees : PySem.W.codeIn K cdLCallees "_law_callees" = true) (kLCallees : PySem.W.keepIn K (.ref fLCallees) = true)
    (aLStack : PySem.W.nsIn K mainGlobals "_law_stack" = some (some (.ref fLStack)))
    (lLStack : K.lookup fLStack = some ⟨ocLStack, odLStack, .func (PySem.W.fnOf "_law_stack" "_law_stack" (defArgs sLStack) (defBody sLStack) (defScope sLStack) .none kVLStack dcLStack pmLStack anLStack cdLStack ctLStack), slLStack⟩)
    (cLStack : PySem.W.codeIn K cdLStack "_law_stack" = true) (kLStack : PySem.W.keepIn K (.ref fLStack) = true)
    (aLStacks : PySem.W.nsIn K mainGlobals "_law_stacks" = some (some (.ref fLStacks)))
    (lLStacks : K.lookup fLStacks = some ⟨ocLStacks, odLStacks, .func (PySem.W.fnOf "_law_stacks" "_law_stacks" (defArgs sLStacks) (defBody sLStacks) (defScope sLStacks) .none kVLStacks dcLStacks pmLStacks anLStacks cdLStacks ctLStacks), slLStacks⟩)
    (cLStacks : PySem.W.codeIn K cdLStacks "_law_stacks" = true) (kLStacks : PySem.W.keepIn K (.ref fLStacks) = true)
    (aLDue : PySem.W.nsIn K mainGlobals "_law_due" = some (some (.ref fLDue)))
    (lLDue : K.lookup fLDue = some ⟨ocLDue, odLDue, .func (PySem.W.fnOf "_law_due" "_law_due" (defArgs sLDue) (defBody sLDue) (defScope sLDue) .none kVLDue dcLDue pmLDue anLDue cdLDue ctLDue), slLDue⟩)
    (cLDue : PySem.W.codeIn K cdLDue "_law_due" = true) (kLDue : PySem.W.keepIn K (.ref fLDue) = true)
    (aLRight : PySem.W.nsIn K mainGlobals "_law_right" = some (some (.ref fLRight)))
    (lLRight : K.lookup fLRight = some ⟨ocLRight, odLRight, .func (PySem.W.fnOf "_law_right" "_law_right" (defArgs sLRight) (defBody sLRight) (defScope sLRight) .none kVLRight dcLRight pmLRight anLRight cdLRight ctLRight), slLRight⟩)
    (cLRight : PySem.W.codeIn K cdLRight "_law_right" = true) (kLRight : PySem.W.keepIn K (.ref fLRight) = true)
    (aLaw : PySem.W.nsIn K mainGlobals "law" = some (some (.ref fLaw)))
    (lLaw : K.lookup fLaw = some ⟨ocLaw, odLaw, .func (PySem.W.fnOf "law" "law" (defArgs sLaw) (defBody sLaw) (defScope sLaw) .none kVLaw dcLaw pmLaw anLaw cdLaw ctLaw), slLaw⟩)
    (cLaw : PySem.W.codeIn K cdLaw "law" = true) (kLaw : PySem.W.keepIn K (.ref fLaw) = true)
    (z_abs : PySem.W.nsIn K mainGlobals "abs" = some none)
    (z_all : PySem.W.nsIn K mainGlobals "all" = some none)
    (z_dict : PySem.W.nsIn K mainGlobals "dict" = some none)
    (z_enumerate : PySem.W.nsIn K mainGlobals "enumerate" = some none)
    (z_int : PySem.W.nsIn K mainGlobals "int" = some none)
    (z_isinstance : PySem.W.nsIn K mainGlobals "isinstance" = some none)
    (z_len : PySem.W.nsIn K mainGlobals "len" = some none)
    (z_list : PySem.W.nsIn K mainGlobals "list" = some none)
    (z_max : PySem.W.nsIn K mainGlobals "max" = some none)
    (z_min : PySem.W.nsIn K mainGlobals "min" = some none)
    (z_range : PySem.W.nsIn K mainGlobals "range" = some none)
    (z_repr : PySem.W.nsIn K mainGlobals "repr" = some none)
    (z_str : PySem.W.nsIn K mainGlobals "str" = some none)
    (z_sum : PySem.W.nsIn K mainGlobals "sum" = some none)
    (z_tuple : PySem.W.nsIn K mainGlobals "tuple" = some none)
    (q_FEWEST_CHOICES : PySem.W.nsIn K mainGlobals "FEWEST_CHOICES" = some (some (.int 2 tFEWEST_CHOICES)))
    (q_MOST_CALLS : PySem.W.nsIn K mainGlobals "MOST_CALLS" = some (some (.int 5 tMOST_CALLS)))
    (q_MOST_CALLS_TO_RETURN : PySem.W.nsIn K mainGlobals "MOST_CALLS_TO_RETURN" = some (some (.int 12 tMOST_CALLS_TO_RETURN)))
    (q_MOST_CHOICES : PySem.W.nsIn K mainGlobals "MOST_CHOICES" = some (some (.int 4 tMOST_CHOICES)))
    (q_MOST_FUNCTIONS : PySem.W.nsIn K mainGlobals "MOST_FUNCTIONS" = some (some (.int 6 tMOST_FUNCTIONS)))
    (q_MOST_ITEMS : PySem.W.nsIn K mainGlobals "MOST_ITEMS" = some (some (.int 12 tMOST_ITEMS)))
    (q_MOST_LETTERS : PySem.W.nsIn K mainGlobals "MOST_LETTERS" = some (some (.int 8 tMOST_LETTERS)))
    (q_MOST_LEVELS : PySem.W.nsIn K mainGlobals "MOST_LEVELS" = some (some (.int 4 tMOST_LEVELS)))
    (q_MOST_NAMES_IN_STACK : PySem.W.nsIn K mainGlobals "MOST_NAMES_IN_STACK" = some (some (.int 8 tMOST_NAMES_IN_STACK))) :
    ∃ fd : FuncData, (∀ (s : Shared) (v : Value), BindsTo s fd ⟨[v], []⟩ [("script", v)]) ∧ ∀ base : Heap, FA.SysB base → K.In base → base.Ns mainGlobals mg → FnG P w K mg base 16 fa fd ["script"] (spLaw (K := K)) := by
  have e := hfa.symm.trans (PySem.W.mg_of X G aLaw)
  cases e
  have FIsName := fun_mk (st := sIsName) lIsName cIsName kIsName
  have bIsName := FIsName.binds (ps := ["value"]) fun _ _ _ _ _ _ us hl => match us, hl with | [_], _ => rfl
  have FIsFunction := fun_mk (st := sIsFunction) lIsFunction cIsFunction kIsFunction
  have bIsFunction := FIsFunction.binds (ps := ["program", "value"]) fun _ _ _ _ _ _ us hl => match us, hl with | [_, _], _ => rfl
  have FChoices := fun_mk (st := sChoices) lChoices cChoices kChoices
  have bChoices := FChoices.binds (ps := ["item"]) fun _ _ _ _ _ _ us hl => match us, hl with | [_], _ => rfl
  have FItemSize := fun_mk (st := sItemSize) lItemSize cItemSize kItemSize
  have bItemSize := FItemSize.binds (ps := ["program", "item", "level"]) fun _ _ _ _ _ _ us hl => match us, hl with | [_, _, _], _ => rfl
  have FBodySize := fun_mk (st := sBodySize) lBodySize cBodySize kBodySize
  have bBodySize := FBodySize.binds (ps := ["program", "body", "level"]) fun _ _ _ _ _ _ us hl => match us, hl with | [_, _, _], _ => rfl
  have FLeastInItem := fun_mk (st := sLeastInItem) lLeastInItem cLeastInItem kLeastInItem
  have bLeastInItem := FLeastInItem.binds (ps := ["least", "item"]) fun _ _ _ _ _ _ us hl => match us, hl with | [_, _], _ => rfl
  have FLeastInBody := fun_mk (st := sLeastInBody) lLeastInBody cLeastInBody kLeastInBody
  have bLeastInBody := FLeastInBody.binds (ps := ["least", "body"]) fun _ _ _ _ _ _ us hl => match us, hl with | [_, _], _ => rfl
  have FLeastCalls := fun_mk (st := sLeastCalls) lLeastCalls cLeastCalls kLeastCalls
  have bLeastCalls := FLeastCalls.binds (ps := ["program"]) fun _ _ _ _ _ _ us hl => match us, hl with | [_], _ => rfl
  have FIsProgram := fun_mk (st := sIsProgram) lIsProgram cIsProgram kIsProgram
  have bIsProgram := FIsProgram.binds (ps := ["value"]) fun _ _ _ _ _ _ us hl => match us, hl with | [_], _ => rfl
  have FCheckProgram := fun_mk (st := sCheckProgram) lCheckProgram cCheckProgram kCheckProgram
  have bCheckProgram := FCheckProgram.binds (ps := ["program"]) fun _ _ _ _ _ _ us hl => match us, hl with | [_], _ => rfl
  have FIsStack := fun_mk (st := sIsStack) lIsStack cIsStack kIsStack
  have bIsStack := FIsStack.binds (ps := ["program", "value"]) fun _ _ _ _ _ _ us hl => match us, hl with | [_, _], _ => rfl
  have FCheckStacks := fun_mk (st := sCheckStacks) lCheckStacks cCheckStacks kCheckStacks
  have bCheckStacks := FCheckStacks.binds (ps := ["program", "stacks"]) fun _ _ _ _ _ _ us hl => match us, hl with | [_, _], _ => rfl
  have FRegions := fun_mk (st := sRegions) lRegions cRegions kRegions
  have bRegions := FRegions.binds (ps := ["program", "stacks"]) fun _ _ _ _ _ _ us hl => match us, hl with | [_, _], _ => rfl
  have FLSpring := fun_mk (st := sLSpring) lLSpring cLSpring kLSpring
  have bLSpring := FLSpring.binds (ps := ["script"]) fun _ _ _ _ _ _ us hl => match us, hl with | [_], _ => rfl
  have FLDraw := fun_mk (st := sLDraw) lLDraw cLDraw kLDraw
  have bLDraw := FLDraw.binds (ps := ["spring", "many"]) fun _ _ _ _ _ _ us hl => match us, hl with | [_, _], _ => rfl
  have FLItems := fun_mk (st := sLItems) lLItems cLItems kLItems
  have bLItems := FLItems.binds (ps := ["spring", "some", "calls", "deep"]) fun _ _ _ _ _ _ us hl => match us, hl with | [_, _, _, _], _ => rfl
  have FLCalls := fun_mk (st := sLCalls) lLCalls cLCalls kLCalls
  have bLCalls := FLCalls.binds (ps := ["body"]) fun _ _ _ _ _ _ us hl => match us, hl with | [_], _ => rfl
  have FLCount := fun_mk (st := sLCount) lLCount cLCount kLCount
  have bLCount := FLCount.binds (ps := ["body"]) fun _ _ _ _ _ _ us hl => match us, hl with | [_], _ => rfl
  have FLCost := fun_mk (st := sLCost) lLCost cLCost kLCost
  have bLCost := FLCost.binds (ps := ["costs", "body"]) fun _ _ _ _ _ _ us hl => match us, hl with | [_, _], _ => rfl
  have FLProgram := fun_mk (st := sLProgram) lLProgram cLProgram kLProgram
  have bLProgram := FLProgram.binds (ps := ["spring", "most", "calls", "can_recur"]) fun _ _ _ _ _ _ us hl => match us, hl with | [_, _, _, _], _ => rfl
  have FLCallees := fun_mk (st := sLCallees) lLCallees cLCallees kLCallees
  have bLCallees := FLCallees.binds (ps := ["body"]) fun _ _ _ _ _ _ us hl => match us, hl with | [_], _ => rfl
  have FLStack := fun_mk (st := sLStack) lLStack cLStack kLStack
  have bLStack := FLStack.binds (ps := ["spring", "program", "top", "deep", "odd"]) fun _ _ _ _ _ _ us hl => match us, hl with | [_, _, _, _, _], _ => rfl
  have FLStacks := fun_mk (st := sLStacks) lLStacks cLStacks kLStacks
  have bLStacks := FLStacks.binds (ps := ["spring", "program", "top", "size", "odd"]) fun _ _ _ _ _ _ us hl => match us, hl with | [_, _, _, _, _], _ => rfl
  have FLDue := fun_mk (st := sLDue) lLDue cLDue kLDue
  have bLDue := FLDue.binds (ps := ["stacks"]) fun _ _ _ _ _ _ us hl => match us, hl with | [_], _ => rfl
  have FLRight := fun_mk (st := sLRight) lLRight cLRight kLRight
  have bLRight := FLRight.binds (ps := ["program", "stacks"]) fun _ _ _ _ _ _ us hl => match us, hl with | [_, _], _ => rfl
  have FLaw := fun_mk (st := sLaw) lLaw cLaw kLaw
  have bLaw := FLaw.binds (ps := ["script"]) fun _ _ _ _ _ _ us hl => match us, hl with | [_], _ => rfl
  let T : Txt K mg := {
    aIsName := _, fIsName := _, FIsName := FIsName, bIsName := bIsName, gIsName := PySem.W.mg_of X G aIsName,
    aIsFunction := _, fIsFunction := _, FIsFunction := FIsFunction, bIsFunction := bIsFunction, gIsFunction := PySem.W.mg_of X G aIsFunction,
    aChoices := _, fChoices := _, FChoices := FChoices, bChoices := bChoices, gChoices := PySem.W.mg_of X G aChoices,
    aItemSize := _, fItemSize := _, FItemSize := FItemSize, bItemSize := bItemSize, gItemSize := PySem.W.mg_of X G aItemSize,
    aBodySize := _, fBodySize := _, FBodySize := FBodySize, bBodySize := bBodySize, gBodySize := PySem.W.mg_of X G aBodySize,
    aLeastInItem := _, fLeastInItem := _, FLeastInItem := FLeastInItem, bLeastInItem := bLeastInItem, gLeastInItem := PySem.W.mg_of X G aLeastInItem,
    aLeastInBody := _, fLeastInBody := _, FLeastInBody := FLeastInBody, bLeastInBody := bLeastInBody, gLeastInBody := PySem.W.mg_of X G aLeastInBody,
    aLeastCalls := _, fLeastCalls := _, FLeastCalls := FLeastCalls, bLeastCalls := bLeastCalls, gLeastCalls := PySem.W.mg_of X G aLeastCalls,
    aIsProgram := _, fIsProgram := _, FIsProgram := FIsProgram, bIsProgram := bIsProgram, gIsProgram := PySem.W.mg_of X G aIsProgram,
    aCheckProgram := _, fCheckProgram := _, FCheckProgram := FCheckProgram, bCheckProgram := bCheckProgram, gCheckProgram := PySem.W.mg_of X G aCheckProgram,
    aIsStack := _, fIsStack := _, FIsStack := FIsStack, bIsStack := bIsStack, gIsStack := PySem.W.mg_of X G aIsStack,
    aCheckStacks := _, fCheckStacks := _, FCheckStacks := FCheckStacks, bCheckStacks := bCheckStacks, gCheckStacks := PySem.W.mg_of X G aCheckStacks,
    aRegions := _, fRegions := _, FRegions := FRegions, bRegions := bRegions, gRegions := PySem.W.mg_of X G aRegions,
    aLSpring := _, fLSpring := _, FLSpring := FLSpring, bLSpring := bLSpring, gLSpring := PySem.W.mg_of X G aLSpring,
    aLDraw := _, fLDraw := _, FLDraw := FLDraw, bLDraw := bLDraw, gLDraw := PySem.W.mg_of X G aLDraw,
    aLItems := _, fLItems := _, FLItems := FLItems, bLItems := bLItems, gLItems := PySem.W.mg_of X G aLItems,
    aLCalls := _, fLCalls := _, FLCalls := FLCalls, bLCalls := bLCalls, gLCalls := PySem.W.mg_of X G aLCalls,
    aLCount := _, fLCount := _, FLCount := FLCount, bLCount := bLCount, gLCount := PySem.W.mg_of X G aLCount,
    aLCost := _, fLCost := _, FLCost := FLCost, bLCost := bLCost, gLCost := PySem.W.mg_of X G aLCost,
    aLProgram := _, fLProgram := _, FLProgram := FLProgram, bLProgram := bLProgram, gLProgram := PySem.W.mg_of X G aLProgram,
    aLCallees := _, fLCallees := _, FLCallees := FLCallees, bLCallees := bLCallees, gLCallees := PySem.W.mg_of X G aLCallees,
    aLStack := _, fLStack := _, FLStack := FLStack, bLStack := bLStack, gLStack := PySem.W.mg_of X G aLStack,
    aLStacks := _, fLStacks := _, FLStacks := FLStacks, bLStacks := bLStacks, gLStacks := PySem.W.mg_of X G aLStacks,
    aLDue := _, fLDue := _, FLDue := FLDue, bLDue := bLDue, gLDue := PySem.W.mg_of X G aLDue,
    aLRight := _, fLRight := _, FLRight := FLRight, bLRight := bLRight, gLRight := PySem.W.mg_of X G aLRight,
    aLaw := _, fLaw := _, FLaw := FLaw, bLaw := bLaw, gLaw := PySem.W.mg_of X G aLaw,
    n_abs := PySem.W.mg_none_of X G z_abs,
    n_all := PySem.W.mg_none_of X G z_all,
    n_dict := PySem.W.mg_none_of X G z_dict,
    n_enumerate := PySem.W.mg_none_of X G z_enumerate,
    n_int := PySem.W.mg_none_of X G z_int,
    n_isinstance := PySem.W.mg_none_of X G z_isinstance,
    n_len := PySem.W.mg_none_of X G z_len,
    n_list := PySem.W.mg_none_of X G z_list,
    n_max := PySem.W.mg_none_of X G z_max,
    n_min := PySem.W.mg_none_of X G z_min,
    n_range := PySem.W.mg_none_of X G z_range,
    n_repr := PySem.W.mg_none_of X G z_repr,
    n_str := PySem.W.mg_none_of X G z_str,
    n_sum := PySem.W.mg_none_of X G z_sum,
    n_tuple := PySem.W.mg_none_of X G z_tuple,
    t_FEWEST_CHOICES := tFEWEST_CHOICES, c_FEWEST_CHOICES := PySem.W.mg_of X G q_FEWEST_CHOICES,
    t_MOST_CALLS := tMOST_CALLS, c_MOST_CALLS := PySem.W.mg_of X G q_MOST_CALLS,
    t_MOST_CALLS_TO_RETURN := tMOST_CALLS_TO_RETURN, c_MOST_CALLS_TO_RETURN := PySem.W.mg_of X G q_MOST_CALLS_TO_RETURN,
    t_MOST_CHOICES := tMOST_CHOICES, c_MOST_CHOICES := PySem.W.mg_of X G q_MOST_CHOICES,
    t_MOST_FUNCTIONS := tMOST_FUNCTIONS, c_MOST_FUNCTIONS := PySem.W.mg_of X G q_MOST_FUNCTIONS,
    t_MOST_ITEMS := tMOST_ITEMS, c_MOST_ITEMS := PySem.W.mg_of X G q_MOST_ITEMS,
    t_MOST_LETTERS := tMOST_LETTERS, c_MOST_LETTERS := PySem.W.mg_of X G q_MOST_LETTERS,
    t_MOST_LEVELS := tMOST_LEVELS, c_MOST_LEVELS := PySem.W.mg_of X G q_MOST_LEVELS,
    t_MOST_NAMES_IN_STACK := tMOST_NAMES_IN_STACK, c_MOST_NAMES_IN_STACK := PySem.W.mg_of X G q_MOST_NAMES_IN_STACK }
  refine ⟨PySem.W.fnOf "law" "law" (defArgs sLaw) (defBody sLaw) (defScope sLaw) .none kVLaw dcLaw pmLaw anLaw cdLaw ctLaw, fun s v => .of_eq rfl, fun base sy _ _ => ?_⟩
  exact okLaw (P := P) (w := w) (base := base) T sy
end K13
open PySem PySem.W PyProof.Rows
set_option maxRecDepth 100000 in
set_option maxHeartbeats 0 in
theorem PySem.Challenge.cw_stacksamples_k13_regions_holds : PySem.Challenge.rw_stacksamples_k13_regions.Holds := by
  w_on; o_law; k_head; (case hw => w_witness2)
  k_fill
  refine FA.walk_ofG (l := PySem.Challenge.rw_stacksamples_k13_regions) (n := 63) (k := 16) (x := "script") (sp := fun K => K13.spLaw (K := K)) rfl (by decide) (by decide +kernel) rfl ⟨rfl, by decide, by decide⟩ (fun w h Y => PySem.W.kIn_of Y) ?F (fun _ _ a ns hl _ hS => ⟨a, ns, rfl, hS, hl, fun _ => rfl⟩)
  case F =>
    intro w mg fa h KX G hmg
    refine' K13.all_mk KX G hmg ?aIsName ?lIsName ?cIsName ?kIsName ?aIsFunction ?lIsFunction ?cIsFunction ?kIsFunction ?aChoices ?lChoices ?cChoices ?kChoices ?aItemSize ?lItemSize ?cItemSize ?kItemSize ?aBodySize ?lBodySize ?cBodySize ?kBodySize ?aLeastInItem ?lLeastInItem ?cLeastInItem ?kLeastInItem ?aLeastInBody ?lLeastInBody ?cLeastInBody ?kLeastInBody ?aLeastCalls ?lLeastCalls ?cLeastCalls ?kLeastCalls ?aIsProgram ?lIsProgram ?cIsProgram ?kIsProgram ?aCheckProgram ?lCheckProgram ?cCheckProgram ?kCheckProgram ?aIsStack ?lIsStack ?cIsStack ?kIsStack ?aCheckStacks ?lCheckStacks ?cCheckStacks ?kCheckStacks ?aRegions ?lRegions ?cRegions ?kRegions ?aLSpring ?lLSpring ?cLSpring ?kLSpring ?aLDraw ?lLDraw ?cLDraw ?kLDraw ?aLItems ?lLItems ?cLItems ?kLItems ?aLCalls ?lLCalls ?cLCalls ?kLCalls ?aLCount ?lLCount ?cLCount ?kLCount ?aLCost ?lLCost ?cLCost ?kLCost ?aLProgram ?lLProgram ?cLProgram ?kLProgram ?aLCallees ?lLCallees ?cLCallees ?kLCallees ?aLStack ?lLStack ?cLStack ?kLStack ?aLStacks ?lLStacks ?cLStacks ?kLStacks ?aLDue ?lLDue ?cLDue ?kLDue ?aLRight ?lLRight ?cLRight ?kLRight ?aLaw ?lLaw ?cLaw ?kLaw ?z_abs ?z_all ?z_dict ?z_enumerate ?z_int ?z_isinstance ?z_len ?z_list ?z_max ?z_min ?z_range ?z_repr ?z_str ?z_sum ?z_tuple ?q_FEWEST_CHOICES ?q_MOST_CALLS ?q_MOST_CALLS_TO_RETURN ?q_MOST_CHOICES ?q_MOST_FUNCTIONS ?q_MOST_ITEMS ?q_MOST_LETTERS ?q_MOST_LEVELS ?q_MOST_NAMES_IN_STACK
    (case aIsName => k_is); (case lIsName => k_is); (case cIsName => k_is); (case kIsName => k_is)
    (case aIsFunction => k_is); (case lIsFunction => k_is); (case cIsFunction => k_is); (case kIsFunction => k_is)
    (case aChoices => k_is); (case lChoices => k_is); (case cChoices => k_is); (case kChoices => k_is)
    (case aItemSize => k_is); (case lItemSize => k_is); (case cItemSize => k_is); (case kItemSize => k_is)
    (case aBodySize => k_is); (case lBodySize => k_is); (case cBodySize => k_is); (case kBodySize => k_is)
    (case aLeastInItem => k_is); (case lLeastInItem => k_is); (case cLeastInItem => k_is); (case kLeastInItem => k_is)
    (case aLeastInBody => k_is); (case lLeastInBody => k_is); (case cLeastInBody => k_is); (case kLeastInBody => k_is)
    (case aLeastCalls => k_is); (case lLeastCalls => k_is); (case cLeastCalls => k_is); (case kLeastCalls => k_is)
    (case aIsProgram => k_is); (case lIsProgram => k_is); (case cIsProgram => k_is); (case kIsProgram => k_is)
    (case aCheckProgram => k_is); (case lCheckProgram => k_is); (case cCheckProgram => k_is); (case kCheckProgram => k_is)
    (case aIsStack => k_is); (case lIsStack => k_is); (case cIsStack => k_is); (case kIsStack => k_is)
    (case aCheckStacks => k_is); (case lCheckStacks => k_is); (case cCheckStacks => k_is); (case kCheckStacks => k_is)
    (case aRegions => k_is); (case lRegions => k_is); (case cRegions => k_is); (case kRegions => k_is)
    (case aLSpring => k_is); (case lLSpring => k_is); (case cLSpring => k_is); (case kLSpring => k_is)
    (case aLDraw => k_is); (case lLDraw => k_is); (case cLDraw => k_is); (case kLDraw => k_is)
    (case aLItems => k_is); (case lLItems => k_is); (case cLItems => k_is); (case kLItems => k_is)
    (case aLCalls => k_is); (case lLCalls => k_is); (case cLCalls => k_is); (case kLCalls => k_is)
    (case aLCount => k_is); (case lLCount => k_is); (case cLCount => k_is); (case kLCount => k_is)
    (case aLCost => k_is); (case lLCost => k_is); (case cLCost => k_is); (case kLCost => k_is)
    (case aLProgram => k_is); (case lLProgram => k_is); (case cLProgram => k_is); (case kLProgram => k_is)
    (case aLCallees => k_is); (case lLCallees => k_is); (case cLCallees => k_is); (case kLCallees => k_is)
    (case aLStack => k_is); (case lLStack => k_is); (case cLStack => k_is); (case kLStack => k_is)
    (case aLStacks => k_is); (case lLStacks => k_is); (case cLStacks => k_is); (case kLStacks => k_is)
    (case aLDue => k_is); (case lLDue => k_is); (case cLDue => k_is); (case kLDue => k_is)
    (case aLRight => k_is); (case lLRight => k_is); (case cLRight => k_is); (case kLRight => k_is)
    (case aLaw => k_is); (case lLaw => k_is); (case cLaw => k_is); (case kLaw => k_is)
    (case z_abs => k_is)
    (case z_all => k_is)
    (case z_dict => k_is)
    (case z_enumerate => k_is)
    (case z_int => k_is)
    (case z_isinstance => k_is)
    (case z_len => k_is)
    (case z_list => k_is)
    (case z_max => k_is)
    (case z_min => k_is)
    (case z_range => k_is)
    (case z_repr => k_is)
    (case z_str => k_is)
    (case z_sum => k_is)
    (case z_tuple => k_is)
    (case q_FEWEST_CHOICES => k_is)
    (case q_MOST_CALLS => k_is)
    (case q_MOST_CALLS_TO_RETURN => k_is)
    (case q_MOST_CHOICES => k_is)
    (case q_MOST_FUNCTIONS => k_is)
    (case q_MOST_ITEMS => k_is)
    (case q_MOST_LETTERS => k_is)
    (case q_MOST_LEVELS => k_is)
    (case q_MOST_NAMES_IN_STACK => k_is)


