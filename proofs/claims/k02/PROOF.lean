import PyProof.Rows.All
import Wide.All
import OpenK.AllK
import Wide.FinOn
import HandS.ForMost
import HandS.Deep
import HandS.DictComp
import HandS.ListItems
import HandS.Wide
import HandS.IsInst
import HandS.Style
import HandS.SetFor
import PyProof.StrOps2
import PyProof.ReprRoads
import PyProof.ListStr
import HandS.SetTxt0
import HandS.More
import PySem.Challenge.RW_stacksamples_k02_callees_and_reached_fun
set_option Elab.async false
set_option linter.all false
set_option maxRecDepth 100000
set_option maxHeartbeats 4000000
/-! What the hand layer lacked for these laws: powers of great numbers, a text repeated, list.count of data, repr of data (where nothing that shows itself is under way). -/
namespace FA
open PySem PySem.Spec PyProof.Rows L2

theorem bits_of {i : Int} {n : Nat} (h : i.natAbs < 2 ^ n) (h0 : 0 < n) : Builtin.Int.intBits i ≤ n := by
  have x := PySem.Flt.log2_lt_of h0 h
  unfold Builtin.Int.intBits
  split <;> omega
/-- i ** j, i below a million bits, j at most 100 -/
def CPowW (i j : Int) : Prop := 0 ≤ j ∧ j ≤ 100 ∧ i.natAbs < 2 ^ 1000000
/-- the text of n signs x -/
def exes (n : Nat) : Str := ⟨(List.replicate n 120).toArray⟩
section
variable {X : Cx}
theorem op_powW : OpR X (binaryOp .Pow) (rI CPowW fun i j => .int (i ^ j.toNat)) := opI fun i j _ _ _ _ _ hc q => by
  obtain ⟨h0, h1, h2⟩ := hc
  refine pow_int h0 ?_ q
  have b := bits_of h2 (by decide)
  have e : ((2 : Int) ^ 27) = 134217728 := by decide
  rw [e]
  have c : (Builtin.Int.intBits i : Int) * j ≤ 1000000 * 100 := Int.mul_le_mul (by omega) h1 h0 (by decide)
  omega
/-- 'x' * n -/
theorem op_mul_x : OpR X (binaryOp .Mult) (fun x y H Q => ∃ n : Nat, x = .str "x" ∧ y = .int (n : Int) ∧ 1 ≤ n ∧ n ≤ 4 ∧ Q (.str (exes n)) H) := by
  intro pins s σ H x y v u Q I rx ry h
  obtain ⟨n, rfl, rfl, h1, h2, q⟩ := h
  obtain ⟨t, rfl⟩ := rx
  obtain ⟨t', rfl⟩ := ry
  have hs := sizeLine_eq
  match n, h1, h2, q with
  | 1, _, _, q =>
    refine PySem.P.mul_str (by decide) (fun _ h => ?_) (fun _ h => ?_) ?_
    · exact absurd h (by decide)
    · exact absurd h (by decide)
    · rw [if_neg (by decide), if_pos (by decide)]
      exact ⟨.str "x", H, I, ⟨_, rfl⟩, q⟩
  | 2, _, _, q =>
    refine PySem.P.mul_str (by decide) (fun _ _ => by decide +kernel) (fun _ _ => by decide +kernel) ?_
    rw [if_neg (by decide), if_neg (by decide)]
    exact ⟨by decide +kernel, .str (exes 2), H, I.tok _, ⟨_, rfl⟩, q⟩
  | 3, _, _, q =>
    refine PySem.P.mul_str (by decide) (fun _ _ => by decide +kernel) (fun _ _ => by decide +kernel) ?_
    rw [if_neg (by decide), if_neg (by decide)]
    exact ⟨by decide +kernel, .str (exes 3), H, I.tok _, ⟨_, rfl⟩, q⟩
  | 4, _, _, q =>
    refine PySem.P.mul_str (by decide) (fun _ _ => by decide +kernel) (fun _ _ => by decide +kernel) ?_
    rw [if_neg (by decide), if_neg (by decide)]
    exact ⟨by decide +kernel, .str (exes 4), H, I.tok _, ⟨_, rfl⟩, q⟩
/-- xs.count(y), data of any depth -/
def rCountD (K : PySem.W.Frag) : V → List V → Hp → VK → Prop := fun x xs H Q => ∃ (a : Addr) (y : V) (d : PyData) (ds : List PyData), x = V.ref a ∧ xs = [y] ∧ Dp K H (V.ref a) (.list ds) ∧ Dp K H y d ∧
  SeqAt.shaped (.list ds) = true ∧ SeqAt.shaped d = true ∧ Q (.int (ds.countP (fun z => PyData.eqv z d) : Nat)) H
theorem mt_countD (hu : X.A.units + 65 < cLine) : MtR X "list.count" (rCountD X.K) := by
  intro pins s σ H x xs v us Q I rx rxs h
  obtain ⟨a, y, d, ds, rfl, rfl, hl, hy, sl, sd, q⟩ := h
  cases rx
  obtain ⟨uy, rfl, ry⟩ := rxs.one
  obtain ⟨bs, r1⟩ := Dp.reads I d y uy hy ry
  have lay : PyData.canLayAll0 ds = true := SeqAt.canLay_of_shaped sl
  have room : X.A.units + 1 + min (PyData.depthAll ds) d.depth < cLine := room_in_shaped sd hu
  cases hl with
  | lst hs ha =>
    obtain ⟨its, rv, ⟨⟨cls, dd, data, sls⟩, n, ho, hc, hdn, hdt⟩, hlen⟩ := I.list hs
    simp only at hc hdt
    subst hc hdt
    obtain ⟨as, h4⟩ := Dp.readsAll I ds _ its ha rv
    have hmap : its.map (SeqAt.readOf s.heap) = ds := SeqAt.readsAll_map ds its as lay h4
    refine call_meets PySem.F.slot_list_count ⟨_, ho, rfl⟩ PySem.F.entry_list_count (PySem.F.args_list_count_2 _ _)
      (SeqAt.list_countAt a its.toArray n dd sls uy (fun u => PyData.eqv (SeqAt.readOf s.heap u) d)) ⟨ho, SeqAt.items_eqAt (vs := its.toArray) (show ReadsAll s.heap its.toArray.toList ds as from h4) r1 lay (SeqAt.canLay_of_shaped sd) room, ?_⟩
    have e : its.toArray.toList.countP (fun u => PyData.eqv (SeqAt.readOf s.heap u) d) = ds.countP (fun z => PyData.eqv z d) := by
      rw [← hmap, List.countP_map]
      rfl
    rw [e]
    exact ⟨.int _, H, I.tok _, ⟨s.toks, rfl⟩, q⟩
end

/-! ### data with dicts within -/
def kD : Key → PyData
  | .inl i => .int i
  | .inr x => .str x
mutual
inductive Dd (K : PySem.W.Frag) (H : Hp) : V → PyData → Prop
  | non : Dd K H .non .none
  | bl (b : Bool) : Dd K H (.bl b) (.bool b)
  | int (i : Int) : Dd K H (.int i) (.int i)
  | str (x : Str) : Dd K H (.str x) (.str x)
  | lst {a : Addr} {xs : List V} {ds : List PyData} : H a = some (.lst xs) → DdAll K H xs ds → Dd K H (.ref a) (.list ds)
  | tup {a : Addr} {xs : List V} {ds : List PyData} : H a = some (.tup xs) → DdAll K H xs ds → Dd K H (.ref a) (.tuple ds)
  | dic {a : Addr} {kvs : List (Key × V)} {ds : List PyData} : Rd H a (.dK kvs) → DdAll K H (kvs.map (·.2)) ds → Dd K H (.ref a) (.dict ((kvs.map fun p => kD p.1).zip ds))
inductive DdAll (K : PySem.W.Frag) (H : Hp) : List V → List PyData → Prop
  | nil : DdAll K H [] []
  | cons {v : V} {vs : List V} {d : PyData} {ds : List PyData} : Dd K H v d → DdAll K H vs ds → DdAll K H (v :: vs) (d :: ds)
end
theorem DdAll.length {K : PySem.W.Frag} {H : Hp} : ∀ {vs : List V} {ds : List PyData}, DdAll K H vs ds → vs.length = ds.length
  | _, _, .nil => rfl
  | _, _, .cons _ t => congrArg (· + 1) t.length
/-- where the modules' own dict stands, something stands from the start -/
def SysB (base : Heap) : Prop := ∃ o : Obj, base.get? sysModules = some o
section
variable {X : Cx} {pins : List (Addr × Obj)} {σ : L2.St} {H : Hp} {s : Shared}
theorem key_reads (k : Key) {v : Value} (h : keyIs k v = true) (hp : Heap) : Reads hp v (kD k) [] := by
  rcases keyIs_shape h with ⟨i, t, rfl, rfl⟩ | ⟨x, t, rfl, rfl⟩
  · exact Reads.int i t
  · exact Reads.str x t
theorem pairs_split {P : Program} {w : World} : ∀ {kvs : List (Key × V)} {vs : List (Key × Value)} {es : List DictEntry}, KV kvs vs → Pairs (mixKind P w) es vs →
    Vals (kvs.map (·.2)) (es.map (·.val)) ∧ ∀ h : Heap, ReadsAll h (es.map (·.key)) (kvs.map fun p => kD p.1) []
  | _, _, _, .nil, .nil => ⟨.nil, fun _ => .nil⟩
  | p :: kvs, q :: vs, e :: es, .cons r rt, .cons hk hv ht => by
    obtain ⟨i1, i2⟩ := pairs_split rt ht
    refine ⟨.cons (by show L2.RelV p.2 e.val; rw [hv]; exact r.2) i1, fun hp => ?_⟩
    have a := key_reads p.1 (by rw [r.1]; exact hk) hp
    exact ReadsAll.cons (as := []) (bs := []) a (i2 hp)
theorem not_sys {a : Addr} {u : HO} (I : L2.Inv X pins σ H s) (S : SysB X.base) (e : H a = some u) : sysModules ≠ a := fun z => by
  obtain ⟨o, ho⟩ := S
  have q := (I.bs _ _ ho).2
  rw [z, e] at q
  cases q
mutual
theorem Dd.reads (I : L2.Inv X pins σ H s) (S : SysB X.base) : ∀ (v : V) (d : PyData) (u : Value), Dd X.K H v d → L2.RelV v u → ∃ as, Reads s.heap u d as ∧ sysModules ∉ as
  | _, _, _, .non, r => by cases r; exact ⟨_, Reads.none, by simp⟩
  | _, _, _, .bl b, r => by cases r; exact ⟨_, Reads.bool b, by simp⟩
  | _, _, _, .int i, r => by obtain ⟨t, rfl⟩ := r; exact ⟨_, Reads.int i t, by simp⟩
  | _, _, _, .str x, r => by obtain ⟨t, rfl⟩ := r; exact ⟨_, Reads.str x t, by simp⟩
  | _, _, _, .lst e ha, r => by
    cases r
    obtain ⟨its, rv, ⟨o, n, ho, hc, _, hd⟩, _⟩ := I.list (SqL.of e)
    obtain ⟨as, hr, hn⟩ := DdAll.reads I S _ _ its ha rv
    refine ⟨_, Reads.list ho hc hd hr, ?_⟩
    simp only [List.mem_cons, not_or]
    exact ⟨not_sys I S e, hn⟩
  | _, _, _, .tup e ha, r => by
    cases r
    obtain ⟨its, rv, ⟨o, ho, hc, n, hd⟩, _⟩ := I.tuple (SqT.of e)
    obtain ⟨as, hr, hn⟩ := DdAll.reads I S _ _ its ha rv
    exact ⟨_, Reads.tuple ho hc hd hr, hn⟩
  | _, _, _, @Dd.dic _ _ a kvs ds e ha, r => by
    cases r
    obtain ⟨hz, hs, vs, kv, o, es, ep, ho, hx, hd, hk, hp, hn⟩ := dk_rd I.hok e
    obtain ⟨q1, q2⟩ := pairs_split kv hp
    obtain ⟨bs, hr, hb⟩ := DdAll.reads I S _ _ _ ha q1
    have hl : (kvs.map fun p => kD p.1).length = ds.length := by
      have := ha.length
      simpa using this
    refine ⟨a :: [] ++ bs, Reads.dict ho hx.1 hd (by rw [List.map_fst_zip (Nat.le_of_eq hl)]; exact q2 s.heap) (by rw [List.map_snd_zip (Nat.le_of_eq hl.symm)]; exact hr), ?_⟩
    simp only [List.cons_append, List.nil_append, List.mem_cons, not_or]
    exact ⟨fun z => by rw [z] at hs; simp at hs, hb⟩
theorem DdAll.reads (I : L2.Inv X pins σ H s) (S : SysB X.base) : ∀ (vs : List V) (ds : List PyData) (us : List Value), DdAll X.K H vs ds → Vals vs us → ∃ as, ReadsAll s.heap us ds as ∧ sysModules ∉ as
  | _, _, _, .nil, r => by cases r; exact ⟨_, ReadsAll.nil, by simp⟩
  | _, _, _, .cons h1 h2, r => by
    cases r with
    | cons r1 r2 =>
      obtain ⟨as, q1, n1⟩ := Dd.reads I S _ _ _ h1 r1
      obtain ⟨bs, q2, n2⟩ := DdAll.reads I S _ _ _ h2 r2
      exact ⟨_, ReadsAll.cons q1 q2, by simp [n1, n2]⟩
end
end
section
variable {X : Cx}
/-- repr(x), x a list, a tuple, a dict: where nothing that shows itself is under way -/
def rReprD (K : PySem.W.Frag) : List V → Hp → VK → Prop := fun xs H Q => ∃ (a : Addr) (d : PyData), xs = [.ref a] ∧ Dd K H (.ref a) d ∧ d.showable = true ∧ d.depth ≤ 60 ∧ d.shown.length ≤ sizeLine ∧ Q (.str d.shown) H
theorem call_reprD (S : SysB X.base) (hg : X.A.guards = some []) (hu : X.A.units + 64 < cLine) : CallR X (.builtin "repr") (rReprD X.K) := by
  intro pins s σ H xs us Q I r h
  obtain ⟨a, d, rfl, hd, hs, hdp, hz, q⟩ := h
  obtain ⟨u, rfl, ru⟩ := r.one
  cases ru
  obtain ⟨as, hr, hn⟩ := Dd.reads I S _ _ _ hd rfl
  refine repr_of_reads' hr hs (fun _ => hn) hg (by omega) (fun _ _ e => e) (fun h' t tk hk => ?_) hz
  exact ⟨.str _, H, I.kept hk, ⟨_, rfl⟩, q⟩
end
end FA

set_option Elab.async false
set_option linter.all false
set_option maxRecDepth 100000
set_option maxHeartbeats 4000000
/-! Defs that are called where nothing shows itself (no repr is under way). -/
namespace FA
open PySem PySem.Spec PyProof.Rows L2
/-- the promise of a def that is called where no repr is under way -/
structure FnG (P : Program) (w : World) (K : PySem.W.Frag) (mg : Str → Option Value) (base : Heap) (k : Nat) (f : Addr) (fd : FuncData) (ps : List Str) (sp : Sp) : Prop where
  len : ∀ vs H Q E, sp vs H Q E → vs.length = ps.length
  run : ∀ (A : Around), A.guards = some [] → ∀ (outer : List Env) (s : Shared) (H : Hp) (args : Args) (us : List Value) (vs : List V) (Q : VK) (E : XK), Room k A → Env0 P w K mg base A outer s H → BindsTo s fd args (ps.zip us) →
    Vals vs us → sp vs H Q E → codeAny (model P w) A (.call (.ref f) args) (CR CX0 outer P w H s Q E) s
theorem FnG.mono {P : Program} {w : World} {K : PySem.W.Frag} {mg : Str → Option Value} {base : Heap} {j k : Nat} {f : Addr} {fd : FuncData} {ps : List Str} {sp : Sp} (F : FnG P w K mg base j f fd ps sp) (h : j ≤ k) : FnG P w K mg base k f fd ps sp :=
  ⟨F.len, fun A g outer s H args us vs Q E r => F.run A g outer s H args us vs Q E (r.mono h)⟩
section
variable {P : Program} {w : World} {K : PySem.W.Frag} {mg : Str → Option Value} {base : Heap}
theorem okG {x qual : Str} {st : Stmt} {f : Addr} {fd : FuncData} {N ps : List Str} {k : Nat} {sp : Sp} (F : Fun K x qual st f fd) (S : FnScope N ps (defScope st)) (len : ∀ vs H Q E, sp vs H Q E → vs.length = ps.length)
    (body : ∀ (cdv : Value) (A : Around), A.guards = some [] → ∀ (outer : List Env) (s : Shared) (H : Hp) (vs : List V) (Q : VK) (E : XK), Room k (A.deeper (envOfC qual (defScope st) s.heap.objs.size f cdv)) → sp vs H Q E →
      ∃ t, PSs (cxOf CX0 P w K mg base N qual (defScope st) f cdv A outer s H E).nox (defBody st) t ∧ t { nx := fun _ H' => Q .non H', rt := Q } (start N vs) H) : FnG P w K mg base (k + 1) f fd ps sp := by
  obtain ⟨oc, od, kV, doc, pm, an, cdv, ct, osl, rfl, lk, hcd⟩ := F.ex
  refine ⟨len, fun A g outer s H args us vs Q E hr e0 hb r hsp => ?_⟩
  have kin : K.In s.heap := e0.mod.kin.keeps fun b o e => (e0.bs b o e).1
  have nol : s.heap.NoLimit := e0.mod.nolimit.keeps fun b o e => (e0.bs b o e).1
  have pk : ∀ y ∈ ps.zip us, (defScope st).names.lookup y.1 = some .local ∨ ((defScope st).names.lookup y.1 = some .cell ∧ ((cellsFrom (s.heap.objs.size + 1) (defScope st).names []).lookup y.1).isSome = true) := by
    rintro ⟨n, v⟩ hy
    rcases S.par n (List.of_mem_zip hy).1 with q | q
    · exact .inl q
    · exact .inr ⟨q, PySem.W.cellsFrom_some _ _ _ (.inl q)⟩
  refine codeAny_call_function hr.depth (kin _ _ lk) rfl S.co S.gen rfl (PySem.W.codeRec_of kin hcd) (hb _ _ _ _ (wpAny_newFunctionEnv_cells S.kind pk fun env he s1 x => ?_))
  subst he
  refine ⟨nol.keeps x.toInCall.keep, codeAny_func ?_⟩
  obtain ⟨t, ht, hq⟩ := body cdv A g outer s H vs Q E (hr.deeper _) hsp
  have I := inv_start (CX := CX0) (E := E) S hr.hd e0 (len _ _ _ _ hsp) r x
  refine wpAny_mono (ht.nox.run [] s1 (start N vs) H _ I hq) (fun fl s' hs => ?_) fun e s' hs => hs
  cases fl with
  | ret u =>
    obtain ⟨v, σ', H', J, rv, q⟩ := hs
    exact ⟨v, H', J.os, J.bare, J.base, J.hok, rv, q⟩
  | next =>
    obtain ⟨σ', H', J, q⟩ := hs
    exact ⟨V.non, H', J.os, J.bare, J.base, J.hok, rfl, q⟩
  | brk =>
    obtain ⟨_, _, _, q⟩ := hs
    exact False.elim q
  | cont =>
    obtain ⟨_, _, _, q⟩ := hs
    exact False.elim q
end
section
variable {X : Cx} {k : Nat} {f : Addr} {fd : FuncData} {ps : List Str} {sp : Sp} {x : Str} {p pos : Pos} {e : Expr} {es : List Expr} {t : TA}
theorem pe_callG (F : FnG X.prog X.w X.K X.mg X.base k f fd ps sp) (g : X.A.guards = some []) (hr : Room k X.A) (hg : Gl X x) (hm : X.mg x = some (.ref f)) (hk : PySem.W.keepIn X.K (.ref f) = true) (hb : Binds X.K fd ps []) (ha : PA X (e :: es) t)
    (hdb : (x == ("__debug__" : Str)) = false := by decide) (he : starEach (e :: es) X.env = (false, eval e X.env) :: starEach es X.env := by rfl) (hpl : (backTo pos (starEach es X.env)).any (·.1) = false := by rfl) :
    PE X (.Call (.Name x p) (e :: es) [] pos) (tCall sp [] E0 t) := by
  refine ⟨fun pins s σ H Q I h => wpAny_Call_Name_kw (ld_glob I hg hm ?_ hdb)⟩
  refine PySem.W.callWith_K (h₀ := X.base) I.ok.mod.kin hk (thn (ha.run pos pins s σ H _ I h) fun us s1 hh => ?_) he hpl
  obtain ⟨vs, H1, I1, r, q⟩ := hh
  refine ⟨I1.kIn, ?_⟩
  rw [List.append_nil] at q
  have hl : us.length = ps.length := by rw [← r.length]; exact F.len _ _ _ _ q
  have bb := hb s1 us I1.kIn (by rw [List.append_nil]; exact hl)
  rw [List.append_nil] at bb
  refine wpAny_call (codeAny_mono (F.run X.A g X.stack s1 H1 ⟨us, []⟩ us vs Q E0 hr I1.env0 bb r q) fun r s' hq => ?_)
  cases r with
  | error e => exact False.elim hq
  | ok fl =>
    cases fl with
    | ret u => exact I1.after hq
    | next => exact False.elim hq
    | brk => exact False.elim hq
    | cont => exact False.elim hq
end
end FA

set_option Elab.async false
set_option linter.all false
set_option maxRecDepth 100000
set_option maxHeartbeats 4000000
/-! The law's end for such a def. -/
namespace FA
open PySem PySem.Spec PyProof.Rows L2
/-- the script, known to its object; nothing else -/
noncomputable def hpS (K : PySem.W.Frag) (a : Addr) (vs : List Value) (ns : List Int) : Hp := fun b =>
  if b = a ∧ K.lookup a = none then some (.frz { cls := .type "list", data := .seq vs.toArray } (.lst (ns.map V.int))) else none
section
variable {K : PySem.W.Frag} {a b : Addr} {vs : List Value} {ns : List Int}
theorem hpS_some {o : HO} (h : hpS K a vs ns b = some o) : b = a ∧ K.lookup a = none ∧ o = .frz { cls := .type "list", data := .seq vs.toArray } (.lst (ns.map V.int)) := by
  unfold hpS at h
  split at h
  · rename_i c
    cases h
    exact ⟨c.1, c.2, rfl⟩
  · cases h
theorem hpS_none (h : b ≠ a ∨ K.lookup a ≠ none) : hpS K a vs ns b = none := by
  cases q : hpS K a vs ns b with
  | none => rfl
  | some o =>
    obtain ⟨e1, e2, _⟩ := hpS_some q
    rcases h with h | h
    · exact absurd e1 h
    · exact absurd e2 h
theorem hpS_only : Only (hpS K a vs ns) := fun b => by
  cases q : hpS K a vs ns b with
  | none => exact .inl rfl
  | some o =>
    obtain ⟨_, _, e⟩ := hpS_some q
    exact .inr ⟨_, _, by rw [e]⟩
end
theorem law_callG {P : Program} {w : World} {K : PySem.W.Frag} {mg mb : Str → Option Value} {k : Nat} {fa a : Addr} {fd : FuncData} {x : Str} {sp : Sp} {s₁ : Shared} {vs : List Value} {ns : List Int}
    (KX : K.In s₁.heap) (hns : s₁.heap.Ns mainGlobals mg) (hb : s₁.heap.Ns builtinsNs mb) (hbb : ∀ x : Str, x ≠ "__name__" → mb x = bootBuiltins x) (hlim : s₁.heap.NoLimit) (hg : s₁.gens = #[])
    (hz : ∃ mm, s₁.heap.Ns sysModules mm) (ha : s₁.heap.get? a = some { cls := .type "list", data := .seq vs.toArray }) (hi : IntsAre vs ns) (hl : ns.length ≤ sizeLine) (hr : Room k callerA)
    (F : ∀ base : Heap, SysB base → K.In base → base.Ns mainGlobals mg → FnG P w K mg base k fa fd [x] sp) (hbind : ∀ (s : Shared) (u : Value), BindsTo s fd ⟨[u], []⟩ [(x, u)])
    (hsp : ∀ H : Hp, Only H → SqL K H a (ns.map V.int) → sp [.ref a] H (fun v _ => v = .bl true) fun _ _ _ => False) :
    codeAny (model P w) callerA (.call (.ref fa) ⟨[.ref a], []⟩) (fun r s' => r = .ok (.ret (.bool true)) ∧ OldK s₁.heap s'.heap ∧ s'.os = s₁.os ∧ AllBare s'.gens) s₁ := by
  have rv := vals_ints hi
  have lv := hi.length
  -- a dict of the heap is no list: it is not tracked
  have dictFree : ∀ {b : Addr} {o : Obj} {es : Array DictEntry} {ep : Nat}, s₁.heap.get? b = some o → o.data = .dict es ep → hpS K a vs ns b = none := fun {b o es ep} e d => by
    refine hpS_none (.inl fun z => ?_)
    rw [z, ha] at e
    cases e
    cases d
  have nsB : ∀ {b : Addr} {m : Str → Option Value}, s₁.heap.Ns b m → (hidT s₁.heap (hpS K a vs ns)).Ns b m := by
    rintro b m ⟨o, es, ep, e, d, r⟩
    exact ⟨o, es, ep, hidT_get e (dictFree e d), d, r⟩
  have kB : K.In (hidT s₁.heap (hpS K a vs ns)) := fun b o e => hidT_get (KX b o e) (by
    by_cases z : b = a
    · subst z
      exact hpS_none (.inr (by rw [e]; simp))
    · exact hpS_none (.inl z))
  have md : Mod K mg (hidT s₁.heap (hpS K a vs ns)) := by
    obtain ⟨mc, h1, h2⟩ := hlim
    exact ⟨kB, nsB hns, ⟨mb, nsB hb, hbb⟩, mc, nsB h1, h2⟩
  have ok : HOk P w (hpS K a vs ns) s₁.heap := fun b o e => by
    obtain ⟨rfl, _, rfl⟩ := hpS_some e
    exact ⟨ha, by rw [List.length_map]; exact hl, vs, _, rv, ha⟩
  have sq : SqL K (hpS K a vs ns) a (ns.map V.int) := by
    cases q : K.lookup a with
    | none => exact .inl (.inr ⟨_, if_pos ⟨rfl, q⟩⟩)
    | some o =>
      have e := KX a o q
      rw [ha] at e
      cases e
      exact .inr ⟨_, vs.toArray, _, q, rfl, rfl, rfl, by rw [List.size_toArray, lv]; exact hl, by simpa using rv⟩
  have e0 : Env0 P w K mg (hidT s₁.heap (hpS K a vs ns)) callerA [] s₁ (hpS K a vs ns) := by
    refine ⟨rfl, md, fun b o e => of_hidT e, Nat.le_of_eq (hidT_size _ _), trivial, fun b z => ?_, ok, .of_eq hg⟩
    cases z
  obtain ⟨mm, hz⟩ := hz
  have sB : SysB (hidT s₁.heap (hpS K a vs ns)) := let ⟨o, _, _, e, _⟩ := nsB hz; ⟨o, e⟩
  refine codeAny_mono ((F _ sB kB (nsB hns)).run callerA rfl [] s₁ _ ⟨[.ref a], []⟩ [.ref a] [.ref a] _ _ hr e0 (hbind s₁ (.ref a)) (.cons rfl .nil) (hsp _ hpS_only sq)) fun r s' h => ?_
  cases r with
  | error e => exact False.elim h
  | ok fl =>
    cases fl with
    | next => exact False.elim h
    | brk => exact False.elim h
    | cont => exact False.elim h
    | ret u =>
      obtain ⟨v, H', os, bare, un, ok', r', q⟩ := h
      have q' : v = .bl true := q
      subst q'
      cases r'
      refine ⟨rfl, OldK.of_keep fun b o e => ?_, os, bare⟩
      cases q : hpS K a vs ns b with
      | none => exact un.keep b o e q (by intro z; cases z) (by intro z; cases z)
      | some u =>
        obtain ⟨rfl, _, rfl⟩ := hpS_some q
        obtain ⟨e1, _⟩ := ok b _ q
        obtain ⟨e2, _⟩ := ok' b _ (un.frzs b _ _ q)
        rw [e] at e1
        cases e1
        exact e2
theorem walk_ofG {l : PySem.W.OpenLaw} {n k : Nat} {q : Program} {loose : List Str} {XP : (Str → Option Value) → Heap → Prop} {YP : World → Heap → Prop} {d : DefRec} {K : Params → PySem.W.Frag} {sp : PySem.W.Frag → Sp} {x : Str}
    (hn : l.most = some n) (hn2 : n ≤ sizeLine) (hq : importsNone q = true) (hdf : d.params.defaults = []) (hr : Room k callerA) (hY : ∀ (w : World) (h : Heap), YP w h → (K w.params).In h)
    (F : ∀ (w : World) (mg : Str → Option Value) (fa : Addr) (h : Heap), (K w.params).In h → h.Ns mainGlobals mg → mg d.name = some (.ref fa) →
      ∃ fd : FuncData, (∀ (s : Shared) (u : Value), BindsTo s fd ⟨[u], []⟩ [(x, u)]) ∧ ∀ base : Heap, SysB base → (K w.params).In base → base.Ns mainGlobals mg → FnG l.prog w (K w.params) mg base k fa fd [x] (sp (K w.params)))
    (hsp : ∀ (K : PySem.W.Frag) (H : Hp) (a : Addr) (ns : List Int), ns.length ≤ n → Only H → SqL K H a (ns.map V.int) → sp K [.ref a] H (fun v _ => v = .bl true) fun _ _ _ => False) :
    PySem.W.WalkO q loose XP YP l.row.toRowW d [] (fun f vs => PySem.call f vs) := by
  refine Att.attach_call hn hdf fun w s₀ s₁ mg mb fa o pm cd doc a vs ns G Y ho hd hcd hmg hobj hints hlen hg => ?_
  have KX := hY w _ Y
  obtain ⟨fd, hb, hF⟩ := F w mg fa _ KX G.T.g hmg
  exact law_callG KX G.T.g G.T.b G.T.builtins G.T.nolimit hg (let ⟨mm, h, _⟩ := (G.T.seer hq).mods; ⟨mm, h⟩) hobj hints (Nat.le_trans hlen hn2) hr hF hb fun H hO hS => hsp (K w.params) H a ns hlen hO hS
end FA

set_option Elab.async false
set_option linter.all false
set_option maxRecDepth 100000
/-! Bodies and programs as plain data, and their mathematics. -/
namespace FA
open PySem
/-- an item of a body -/
inductive It where
  | call (x : Str)
  | may (b : List It)
  | loop (b : List It)
  | one (bs : List (List It))
abbrev Bd := List It
mutual
def nC : It → Nat
  | .call _ => 1
  | .may b => nCB b
  | .loop b => nCB b
  | .one bs => nCBs bs
def nCB : List It → Nat
  | [] => 0
  | i :: r => nC i + nCB r
def nCBs : List (List It) → Nat
  | [] => 0
  | b :: r => nCB b + nCBs r
end
mutual
def nI : It → Nat
  | .call _ => 0
  | .may b => nIB b
  | .loop b => nIB b
  | .one bs => nIBs bs
def nIB : List It → Nat
  | [] => 0
  | i :: r => (1 + nI i) + nIB r
def nIBs : List (List It) → Nat
  | [] => 0
  | b :: r => nIB b + nIBs r
end
mutual
/-- how deep an item goes below the body in which it stands; how deep a body is, 1 at least -/
def dI : It → Nat
  | .call _ => 0
  | .may b => dB b
  | .loop b => dB b
  | .one bs => dBs bs
def dB : List It → Nat
  | [] => 1
  | i :: r => max (1 + dI i) (dB r)
def dBs : List (List It) → Nat
  | [] => 0
  | b :: r => max (dB b) (dBs r)
end
mutual
def okI (ns : List Str) : It → Prop
  | .call x => x ∈ ns
  | .may b => b ≠ [] ∧ okB ns b
  | .loop b => b ≠ [] ∧ okB ns b
  | .one bs => 2 ≤ bs.length ∧ bs.length ≤ 4 ∧ bs.countP (fun b => b.isEmpty) ≤ 1 ∧ okBs ns bs
def okB (ns : List Str) : List It → Prop
  | [] => True
  | i :: r => okI ns i ∧ okB ns r
def okBs (ns : List Str) : List (List It) → Prop
  | [] => True
  | b :: r => okB ns b ∧ okBs ns r
end
def minL : List Int → Int
  | [] => 0
  | [x] => x
  | x :: y :: r => min x (minL (y :: r))
mutual
/-- the least number of calls, f telling that of each function -/
def cost (f : Str → Int) : It → Int
  | .call x => f x
  | .may _ => 0
  | .loop _ => 0
  | .one bs => minL (costBs f bs)
def costB (f : Str → Int) : List It → Int
  | [] => 0
  | i :: r => cost f i + costB f r
def costBs (f : Str → Int) : List (List It) → List Int
  | [] => []
  | b :: r => costB f b :: costBs f r
end
theorem costBs_map (f : Str → Int) : ∀ bs : List (List It), costBs f bs = bs.map (costB f)
  | [] => by simp only [costBs, List.map_nil]
  | b :: r => by simp only [costBs, List.map_cons, costBs_map f r]
theorem costB_sum (f : Str → Int) : ∀ b : List It, costB f b = (b.map (cost f)).sum
  | [] => by simp only [costB, List.map_nil, List.sum_nil]
  | i :: r => by simp only [costB, List.map_cons, List.sum_cons, costB_sum f r]
theorem okB_all {ns : List Str} : ∀ {b : List It}, okB ns b ↔ ∀ i ∈ b, okI ns i
  | [] => by simp [okB]
  | i :: r => by simp only [okB, List.forall_mem_cons, okB_all]
theorem okBs_all {ns : List Str} : ∀ {bs : List (List It)}, okBs ns bs ↔ ∀ b ∈ bs, okB ns b
  | [] => by simp [okBs]
  | b :: r => by simp only [okBs, List.forall_mem_cons, okBs_all]
theorem minL_mem : ∀ {l : List Int}, l ≠ [] → minL l ∈ l
  | [x], _ => by simp [minL]
  | x :: y :: r, _ => by
    have ih := minL_mem (l := y :: r) (by simp)
    simp only [minL]
    by_cases h : x ≤ minL (y :: r)
    · rw [Int.min_eq_left h]; simp
    · rw [Int.min_eq_right (by omega)]; exact List.mem_cons_of_mem _ ih
theorem minL_le : ∀ {l : List Int} {y : Int}, y ∈ l → minL l ≤ y
  | [x], y, h => by simp at h; simp [minL, h]
  | x :: z :: r, y, h => by
    simp only [minL]
    rcases List.mem_cons.mp h with rfl | h
    · exact Int.min_le_left _ _
    · exact Int.le_trans (Int.min_le_right _ _) (minL_le h)
theorem minL_unique {l : List Int} {m : Int} (h1 : m ∈ l) (h2 : ∀ y ∈ l, m ≤ y) : m = minL l := by
  have hn : l ≠ [] := List.ne_nil_of_mem h1
  exact Int.le_antisymm (h2 _ (minL_mem hn)) (minL_le h1)
/-! ### costs: not negative, rising with f, and cut alike -/
mutual
theorem cost_nn {f : Str → Int} (hf : ∀ x, 0 ≤ f x) : ∀ i : It, 0 ≤ cost f i
  | .call x => by simp only [cost]; exact hf x
  | .may _ => by simp only [cost]; omega
  | .loop _ => by simp only [cost]; omega
  | .one bs => by
    simp only [cost]
    cases bs with
    | nil => simp [costBs, minL]
    | cons b r =>
      have h := minL_mem (l := costBs f (b :: r)) (by simp [costBs])
      exact costBs_nn hf (b :: r) _ h
theorem costB_nn {f : Str → Int} (hf : ∀ x, 0 ≤ f x) : ∀ b : List It, 0 ≤ costB f b
  | [] => by simp [costB]
  | i :: r => by
    have h1 := cost_nn hf i
    have h2 := costB_nn hf r
    simp only [costB]; omega
theorem costBs_nn {f : Str → Int} (hf : ∀ x, 0 ≤ f x) : ∀ bs : List (List It), ∀ y ∈ costBs f bs, 0 ≤ y
  | [], y, h => by simp [costBs] at h
  | b :: r, y, h => by
    simp only [costBs, List.mem_cons] at h
    rcases h with rfl | h
    · exact costB_nn hf b
    · exact costBs_nn hf r y h
end
/-- two lists, place by place -/
def le2 : List Int → List Int → Prop
  | [], [] => True
  | x :: r, y :: s => x ≤ y ∧ le2 r s
  | _, _ => False
theorem minL_le2 : ∀ {l m : List Int}, le2 l m → minL l ≤ minL m
  | [], [], _ => Int.le_refl _
  | [x], [y], h => h.1
  | x :: x' :: r, y :: y' :: s, h => by
    have ih := minL_le2 (l := x' :: r) (m := y' :: s) h.2
    have h1 := h.1
    simp only [minL]; omega
  | [_], _ :: _ :: _, h => h.2.elim
  | _ :: _ :: _, [_], h => h.2.elim
  | [], _ :: _, h => h.elim
  | _ :: _, [], h => h.elim
mutual
theorem cost_le {f g : Str → Int} (h : ∀ x, f x ≤ g x) : ∀ i : It, cost f i ≤ cost g i
  | .call x => by simp only [cost]; exact h x
  | .may _ => by simp only [cost]; omega
  | .loop _ => by simp only [cost]; omega
  | .one bs => by simp only [cost]; exact minL_le2 (costBs_le h bs)
theorem costB_le {f g : Str → Int} (h : ∀ x, f x ≤ g x) : ∀ b : List It, costB f b ≤ costB g b
  | [] => by simp [costB]
  | i :: r => by
    have h1 := cost_le h i
    have h2 := costB_le h r
    simp only [costB]; omega
theorem costBs_le {f g : Str → Int} (h : ∀ x, f x ≤ g x) : ∀ bs : List (List It), le2 (costBs f bs) (costBs g bs)
  | [] => by simp [costBs, le2]
  | b :: r => by simp only [costBs, le2]; exact ⟨costB_le h b, costBs_le h r⟩
end
/-- cut at c, place by place -/
def cut2 (c : Int) : List Int → List Int → Prop
  | [], [] => True
  | x :: r, y :: s => min c x = min c y ∧ cut2 c r s
  | _, _ => False
theorem minL_cut {c : Int} : ∀ {l m : List Int}, cut2 c l m → min c (minL l) = min c (minL m)
  | [], [], _ => rfl
  | [x], [y], h => h.1
  | x :: x' :: r, y :: y' :: s, h => by
    have ih := minL_cut (l := x' :: r) (m := y' :: s) h.2
    have h1 := h.1
    simp only [minL]; omega
  | [_], _ :: _ :: _, h => h.2.elim
  | _ :: _ :: _, [_], h => h.2.elim
  | [], _ :: _, h => h.elim
  | _ :: _, [], h => h.elim
mutual
theorem cost_cut {c : Int} {f g : Str → Int} (hf : ∀ x, 0 ≤ f x) (hg : ∀ x, 0 ≤ g x) (h : ∀ x, min c (f x) = min c (g x)) : ∀ i : It, min c (cost f i) = min c (cost g i)
  | .call x => by simp only [cost]; exact h x
  | .may _ => by simp only [cost]
  | .loop _ => by simp only [cost]
  | .one bs => by simp only [cost]; exact minL_cut (costBs_cut hf hg h bs)
theorem costB_cut {c : Int} {f g : Str → Int} (hf : ∀ x, 0 ≤ f x) (hg : ∀ x, 0 ≤ g x) (h : ∀ x, min c (f x) = min c (g x)) : ∀ b : List It, min c (costB f b) = min c (costB g b)
  | [] => by simp [costB]
  | i :: r => by
    have h1 := cost_cut hf hg h i
    have h2 := costB_cut hf hg h r
    have a1 := cost_nn hf i
    have a2 := cost_nn hg i
    have a3 := costB_nn hf r
    have a4 := costB_nn hg r
    simp only [costB]; omega
theorem costBs_cut {c : Int} {f g : Str → Int} (hf : ∀ x, 0 ≤ f x) (hg : ∀ x, 0 ≤ g x) (h : ∀ x, min c (f x) = min c (g x)) : ∀ bs : List (List It), cut2 c (costBs f bs) (costBs g bs)
  | [] => by simp [costBs, cut2]
  | b :: r => by simp only [costBs, cut2]; exact ⟨costB_cut hf hg h b, costBs_cut hf hg h r⟩
end
/-! ### programs -/
abbrev Pr := List (Str × Bd)
def bodyOf (p : Pr) (x : Str) : Bd := (p.lookup x).getD []
/-- the round k of the least calls, cut at c -/
def rnd (c : Int) (p : Pr) : Nat → Str → Int
  | 0, _ => c
  | k + 1, x => min c (1 + costB (rnd c p k) (bodyOf p x))
theorem rnd_nn {c : Int} (hc : 0 ≤ c) (p : Pr) : ∀ k x, 0 ≤ rnd c p k x
  | 0, _ => hc
  | k + 1, x => by
    have h := costB_nn (f := rnd c p k) (rnd_nn hc p k) (bodyOf p x)
    simp only [rnd]; omega
theorem rnd_le {c : Int} (p : Pr) : ∀ k x, rnd c p k x ≤ c
  | 0, _ => Int.le_refl _
  | k + 1, x => by simp only [rnd]; exact Int.min_le_left _ _
theorem rnd_cut {c d : Int} (hc : 0 ≤ c) (hcd : c ≤ d) (p : Pr) : ∀ k x, min c (rnd d p k x) = rnd c p k x
  | 0, x => by simp only [rnd]; omega
  | k + 1, x => by
    have h := costB_cut (c := c) (f := rnd d p k) (g := rnd c p k) (rnd_nn (by omega) p k) (rnd_nn hc p k) (fun y => by
      have := rnd_cut hc hcd p k y
      have := rnd_le (c := c) p k y
      omega) (bodyOf p x)
    have a1 := costB_nn (f := rnd d p k) (rnd_nn (by omega) p k) (bodyOf p x)
    have a2 := costB_nn (f := rnd c p k) (rnd_nn hc p k) (bodyOf p x)
    simp only [rnd]; omega
theorem rnd_down {c : Int} (p : Pr) : ∀ k x, rnd c p (k + 1) x ≤ rnd c p k x
  | 0, x => by simp only [rnd]; exact Int.min_le_left _ _
  | k + 1, x => by
    have h := costB_le (f := rnd c p (k + 1)) (g := rnd c p k) (rnd_down p k) (bodyOf p x)
    simp only [rnd] at h ⊢; omega
theorem rnd_downs {c : Int} (p : Pr) (x : Str) : ∀ {j k : Nat}, j ≤ k → rnd c p k x ≤ rnd c p j x
  | j, 0, h => by have : j = 0 := by omega
                  subst this; exact Int.le_refl _
  | j, k + 1, h => by
    by_cases e : j = k + 1
    · rw [e]; exact Int.le_refl _
    · exact Int.le_trans (rnd_down p k x) (rnd_downs p x (by omega))
end FA

set_option Elab.async false
set_option linter.all false
set_option maxRecDepth 100000
set_option maxHeartbeats 4000000
/-! How bodies and programs lie in the heap. -/
namespace FA
open PySem PySem.Spec PyProof.Rows L2
/-- the heap without some addresses -/
def wo (W : List Addr) (H : Hp) : Hp := fun b => if b ∈ W then none else H b
theorem wo_some {W : List Addr} {H : Hp} {b : Addr} {o : HO} : wo W H b = some o ↔ b ∉ W ∧ H b = some o := by
  unfold wo
  by_cases h : b ∈ W
  · simp [h]
  · simp [h]
theorem wo_nil {H : Hp} : wo [] H = H := by funext b; simp [wo]
/-- all but what stands at W is as it was -/
def Sm (W : List Addr) (H H' : Hp) : Prop := ∀ b o, b ∉ W → H b = some o → H' b = some o
theorem Sm.refl (W : List Addr) (H : Hp) : Sm W H H := fun _ _ _ h => h
theorem Sm.trans {W : List Addr} {H H1 H2 : Hp} (a : Sm W H H1) (b : Sm W H1 H2) : Sm W H H2 := fun c o n h => b c o n (a c o n h)
theorem Sm.of_same {W : List Addr} {H H' : Hp} (h : Same H H') : Sm W H H' := fun b o _ e => h b o e
theorem Sm.same {W : List Addr} {H H' : Hp} (h : Sm W H H') : Same (wo W H) (wo W H') := fun b o e => by
  rw [wo_some] at e ⊢
  exact ⟨e.1, h b o e.1 e.2⟩
theorem Sm.nil {H H' : Hp} (h : Sm [] H H') : Same H H' := fun b o e => h b o (by simp) e
theorem Sm.more {W W' : List Addr} {H H' : Hp} (h : Sm W H H') (s : ∀ b ∈ W, b ∈ W') : Sm W' H H' := fun b o n e => h b o (fun z => n (s b z)) e
/-- what is new needs no leave -/
theorem Sm.drop {r : Addr} {W : List Addr} {H H1 H2 : Hp} (h0 : Sm W H H1) (hr : H r = none) (h : Sm (r :: W) H1 H2) : Sm W H H2 := fun b o n e =>
  h b o (by
    simp only [List.mem_cons, not_or]
    exact ⟨ne_of_none e hr, n⟩) (h0 b o n e)
theorem Sm.new {W : List Addr} {H : Hp} {p : Addr} {o : HO} (h : H p = none) : Sm W H (upd H p o) := fun b u _ e => by rw [upd_ne (ne_of_none e h)]; exact e
theorem Sm.at {W : List Addr} {H : Hp} {p : Addr} {o : HO} (h : p ∈ W) : Sm W H (upd H p o) := fun b u n e => by
  rw [upd_ne (fun z => n (by rw [z]; exact h))]; exact e
theorem Sm.none {W : List Addr} {H H' : Hp} {b : Addr} (h : Sm W H H') (n : b ∉ W) (e : H' b = none) : H b = none := by
  cases q : H b with
  | none => rfl
  | some o => rw [h b o n q] at e; cases e
mutual
inductive ItAt (H : Hp) : V → It → Prop
  | call (x : Str) : ItAt H (.str x) (.call x)
  | may {t b : Addr} {vs : List V} {l : List It} : H t = some (.tup [.str "maybe", .ref b]) → H b = some (.lst vs) → ItsAt H vs l → ItAt H (.ref t) (.may l)
  | loop {t b : Addr} {vs : List V} {l : List It} : H t = some (.tup [.str "loop", .ref b]) → H b = some (.lst vs) → ItsAt H vs l → ItAt H (.ref t) (.loop l)
  | one {t b : Addr} {vs : List V} {ls : List (List It)} : H t = some (.tup [.str "one", .ref b]) → H b = some (.lst vs) → BdsAt H vs ls → ItAt H (.ref t) (.one ls)
inductive ItsAt (H : Hp) : List V → List It → Prop
  | nil : ItsAt H [] []
  | cons {v : V} {i : It} {vs : List V} {l : List It} : ItAt H v i → ItsAt H vs l → ItsAt H (v :: vs) (i :: l)
inductive BdsAt (H : Hp) : List V → List (List It) → Prop
  | nil : BdsAt H [] []
  | cons {b : Addr} {vs : List V} {l : List It} {r : List V} {ls : List (List It)} : H b = some (.lst vs) → ItsAt H vs l → BdsAt H r ls → BdsAt H (.ref b :: r) (l :: ls)
end
/-- a body at b -/
def BdAt (H : Hp) (b : Addr) (l : List It) : Prop := ∃ vs, H b = some (.lst vs) ∧ ItsAt H vs l
/-- lists and tuples are kept -/
structure Kp (H H' : Hp) : Prop where
  l : ∀ a xs, H a = some (.lst xs) → H' a = some (.lst xs)
  t : ∀ a xs, H a = some (.tup xs) → H' a = some (.tup xs)
theorem Kp.of {H H' : Hp} (h : Same H H') : Kp H H' := ⟨fun _ _ e => h _ _ e, fun _ _ e => h _ _ e⟩
section
variable {H H' : Hp}
mutual
theorem ItAt.keep (k : Kp H H') : ∀ {v : V} {i : It}, ItAt H v i → ItAt H' v i
  | _, _, .call x => .call x
  | _, _, .may h1 h2 h3 => .may (k.t _ _ h1) (k.l _ _ h2) (ItsAt.keep k h3)
  | _, _, .loop h1 h2 h3 => .loop (k.t _ _ h1) (k.l _ _ h2) (ItsAt.keep k h3)
  | _, _, .one h1 h2 h3 => .one (k.t _ _ h1) (k.l _ _ h2) (BdsAt.keep k h3)
theorem ItsAt.keep (k : Kp H H') : ∀ {vs : List V} {l : List It}, ItsAt H vs l → ItsAt H' vs l
  | _, _, .nil => .nil
  | _, _, .cons h t => .cons (ItAt.keep k h) (ItsAt.keep k t)
theorem BdsAt.keep (k : Kp H H') : ∀ {vs : List V} {l : List (List It)}, BdsAt H vs l → BdsAt H' vs l
  | _, _, .nil => .nil
  | _, _, .cons h h2 t => .cons (k.l _ _ h) (ItsAt.keep k h2) (BdsAt.keep k t)
end
theorem BdAt.keep (k : Kp H H') {b : Addr} {l : List It} (h : BdAt H b l) : BdAt H' b l := let ⟨vs, h1, h2⟩ := h; ⟨vs, k.l _ _ h1, h2.keep k⟩
theorem ItsAt.length : ∀ {vs : List V} {l : List It}, ItsAt H vs l → vs.length = l.length
  | _, _, .nil => rfl
  | _, _, .cons _ t => congrArg (· + 1) t.length
theorem BdsAt.length : ∀ {vs : List V} {l : List (List It)}, BdsAt H vs l → vs.length = l.length
  | _, _, .nil => rfl
  | _, _, .cons _ _ t => congrArg (· + 1) t.length
theorem ItsAt.get : ∀ {vs : List V} {l : List It} {i : Nat} {v : V}, ItsAt H vs l → vs[i]? = some v → ∃ it, l[i]? = some it ∧ ItAt H v it
  | _, _, _, _, .nil, e => by simp at e
  | _, _, 0, _, .cons h _, e => by simp at e; subst e; exact ⟨_, rfl, h⟩
  | _, _, i + 1, _, .cons _ t, e => by
    obtain ⟨it, a, b⟩ := ItsAt.get (i := i) t (by simpa using e)
    exact ⟨it, by simpa using a, b⟩
theorem BdsAt.get : ∀ {vs : List V} {l : List (List It)} {i : Nat} {v : V}, BdsAt H vs l → vs[i]? = some v → ∃ b bd, v = .ref b ∧ l[i]? = some bd ∧ BdAt H b bd
  | _, _, _, _, .nil, e => by simp at e
  | _, _, 0, _, .cons h h2 _, e => by simp at e; subst e; exact ⟨_, _, rfl, rfl, _, h, h2⟩
  | _, _, i + 1, _, .cons _ _ t, e => by
    obtain ⟨b, bd, a, c, d⟩ := BdsAt.get (i := i) t (by simpa using e)
    exact ⟨b, bd, a, by simpa using c, d⟩
theorem ItsAt.append : ∀ {vs ws : List V} {l m : List It}, ItsAt H vs l → ItsAt H ws m → ItsAt H (vs ++ ws) (l ++ m)
  | _, _, _, _, .nil, b => b
  | _, _, _, _, .cons h t, b => .cons h (t.append b)
theorem BdsAt.append : ∀ {vs ws : List V} {l m : List (List It)}, BdsAt H vs l → BdsAt H ws m → BdsAt H (vs ++ ws) (l ++ m)
  | _, _, _, _, .nil, b => b
  | _, _, _, _, .cons h h2 t, b => .cons h h2 (t.append b)
theorem ItsAt.take (n : Nat) : ∀ {vs : List V} {l : List It}, ItsAt H vs l → ItsAt H (vs.take n) (l.take n) := by
  induction n with
  | zero => intro vs l _; simp; exact .nil
  | succ n ih =>
    intro vs l h
    cases h with
    | nil => simp; exact .nil
    | cons h t => simp only [List.take_succ_cons]; exact .cons h (ih t)
theorem BdsAt.take (n : Nat) : ∀ {vs : List V} {l : List (List It)}, BdsAt H vs l → BdsAt H (vs.take n) (l.take n) := by
  induction n with
  | zero => intro vs l _; simp; exact .nil
  | succ n ih =>
    intro vs l h
    cases h with
    | nil => simp; exact .nil
    | cons h h2 t => simp only [List.take_succ_cons]; exact .cons h h2 (ih t)
theorem BdsAt.drop (n : Nat) : ∀ {vs : List V} {l : List (List It)}, BdsAt H vs l → BdsAt H (vs.drop n) (l.drop n) := by
  induction n with
  | zero => intro vs l h; simpa using h
  | succ n ih =>
    intro vs l h
    cases h with
    | nil => simp; exact .nil
    | cons h h2 t => simp only [List.drop_succ_cons]; exact ih t
end
/-- the rows of a program's dict -/
inductive PrKv (H : Hp) : List (Key × V) → Pr → Prop
  | nil : PrKv H [] []
  | cons {x : Str} {b : Addr} {l : List It} {kvs : List (Key × V)} {p : Pr} : BdAt H b l → PrKv H kvs p → PrKv H ((.inr x, .ref b) :: kvs) ((x, l) :: p)
/-- a program at d -/
def PrAt (H : Hp) (d : Addr) (p : Pr) : Prop := ∃ kvs, Rd H d (.dK kvs) ∧ PrKv H kvs p
theorem PrKv.keep {H H' : Hp} (k : Kp H H') : ∀ {kvs : List (Key × V)} {p : Pr}, PrKv H kvs p → PrKv H' kvs p
  | _, _, .nil => .nil
  | _, _, .cons h t => .cons (h.keep k) (t.keep k)
theorem PrKv.length {H : Hp} : ∀ {kvs : List (Key × V)} {p : Pr}, PrKv H kvs p → kvs.length = p.length
  | _, _, .nil => rfl
  | _, _, .cons _ t => congrArg (· + 1) t.length
theorem PrKv.keys {H : Hp} : ∀ {kvs : List (Key × V)} {p : Pr}, PrKv H kvs p → kvs.map (·.1) = p.map fun q => Sum.inr q.1
  | _, _, .nil => rfl
  | _, _, .cons _ t => by simp only [List.map_cons, t.keys]
theorem PrKv.look {H : Hp} {x : Str} : ∀ {kvs : List (Key × V)} {p : Pr}, PrKv H kvs p → (p.lookup x = none ∧ valV kvs (.inr x) = none) ∨ ∃ l b, p.lookup x = some l ∧ valV kvs (.inr x) = some (.ref b) ∧ BdAt H b l
  | _, _, .nil => .inl ⟨rfl, rfl⟩
  | (.inr y, .ref b) :: kvs, (_, l) :: p, .cons h t => by
    by_cases e : x = y
    · subst e
      refine .inr ⟨l, b, by simp [List.lookup], by simp [valV], h⟩
    · have e1 : (x == y) = false := beq_eq_false_iff_ne.mpr e
      have e2 : ¬ (Sum.inr y : Key) = Sum.inr x := fun z => e (Sum.inr.inj z).symm
      rcases t.look (x := x) with ⟨h1, h2⟩ | ⟨l', b', h1, h2, h3⟩
      · refine .inl ⟨by simp [List.lookup, e1, h1], ?_⟩
        unfold valV at h2 ⊢
        rw [List.find?_cons_of_neg (by simpa using e2)]
        exact h2
      · refine .inr ⟨l', b', by simp [List.lookup, e1, h1], ?_, h3⟩
        unfold valV at h2 ⊢
        rw [List.find?_cons_of_neg (by simpa using e2)]
        exact h2
theorem PrAt.look {H : Hp} {d : Addr} {p : Pr} {x : Str} (h : PrAt H d p) : (p.lookup x = none ∧ DGet H d (.str x) none) ∨ ∃ l b, p.lookup x = some l ∧ DGet H d (.str x) (some (.ref b)) ∧ BdAt H b l := by
  obtain ⟨kvs, hd, hk⟩ := h
  rcases hk.look (x := x) with ⟨h1, h2⟩ | ⟨l, b, h1, h2, h3⟩
  · exact .inl ⟨h1, .inl ⟨kvs, .inr x, hd, rfl, h2.symm⟩⟩
  · exact .inr ⟨l, b, h1, .inl ⟨kvs, .inr x, hd, rfl, h2.symm⟩, h3⟩
end FA

set_option Elab.async false
set_option linter.all false
set_option maxRecDepth 100000
set_option maxHeartbeats 4000000
/-! Words for readings: isinstance, dicts under a walk, comprehensions whose element changes nothing that was there. -/
namespace FA
open PySem PySem.Spec PyProof.Rows L2
theorem isi_ty {K : PySem.W.Frag} {H : Hp} {x : V} {m n : String} {b : Bool} {Q : VK} (ht : TyX K H x (.type m)) (q : Q (.bl b) H) (hk : kitB m n = some b := by decide +kernel) : rIsi K [x, .ty n] H Q :=
  ⟨x, .ty n, _, _, b, rfl, .ty n, ht, kit_ty hk, q⟩
theorem ty_str {K : PySem.W.Frag} {H : Hp} (x : Str) : TyX K H (.str x) (.type "str") := .base (.str x)
theorem ty_dict {K : PySem.W.Frag} {H : Hp} {d : Addr} {kvs : List (Key × V)} (h : Rd H d (.dK kvs)) : TyX K H (.ref d) (.type "dict") := by
  rcases h with h | ⟨o, h⟩
  · exact .base (.dK h)
  · exact .fDict h
theorem ty_lst {K : PySem.W.Frag} {H : Hp} {d : Addr} {xs : List V} (h : H d = some (.lst xs)) : TyX K H (.ref d) (.type "list") := .base (.lst h)
theorem ty_tup {K : PySem.W.Frag} {H : Hp} {d : Addr} {xs : List V} (h : H d = some (.tup xs)) : TyX K H (.ref d) (.type "tuple") := .base (.tup h)
section
variable {X : Cx}
/-- len(d), d a dict, also while it is walked -/
theorem call_lenR : CallR X (.builtin "len") (fun xs H Q => ∃ d kvs, xs = [.ref d] ∧ Rd H d (.dK kvs) ∧ Q (.int (kvs.length : Nat)) H) := by
  intro pins s σ H xs us Q I r h
  obtain ⟨d, kvs, rfl, hd, q⟩ := h
  obtain ⟨u, rfl, ru⟩ := r.one
  cases ru
  exact d_len I hd fun t s' I' => ⟨.int kvs.length, H, I', ⟨t, rfl⟩, q⟩
/-- a walk over a dict: it is locked, or it is already -/
theorem pe_lock2 {e : Expr} {t : TE} (h : PE X e t) : PE X e (fun σ H Q => tLockE t σ H Q ∨ t σ H Q) := ⟨fun pins s σ H Q I hq => by
  rcases hq with hq | hq
  · exact (pe_lock h).run pins s σ H Q I hq
  · exact h.run pins s σ H Q I hq⟩
end
theorem same_upd0 {H : Hp} {p : Addr} (h : H p = none) (o : HO) : Same H (upd H p o) := fun b u e => by rw [upd_ne (ne_of_none e h)]; exact e
/-- the reading of such a walk that changes nothing which was there; N tells the value by what stands off d -/
theorem lock2 {t : TE} {σ : L2.St} {H : Hp} {Q : VK} {d : Addr} {kvs : List (Key × V)} (hd : Rd H d (.dK kvs)) (N : V → Hp → Prop) (hN : ∀ v H2 H3, (∀ b, b ≠ d → H3 b = H2 b) → N v H2 → N v H3)
    (body : ∀ (H1 : Hp) (od : Obj) (R : VK), H1 d = some (.frz od (.dK kvs)) → (∀ b, b ≠ d → H1 b = H b) → (∀ v H2, Same H1 H2 → N v H2 → R v H2) → t σ H1 R)
    (q : ∀ v H3, Same H H3 → N v H3 → Q v H3) : tLockE t σ H Q ∨ t σ H Q := by
  rcases hd with hd | ⟨od, hd⟩
  · refine .inl ⟨d, _, hd, trivial, fun od => body _ od _ upd_same (fun b hb => upd_ne hb) fun v H2 sm n => ⟨sm _ _ upd_same, q v _ (fun b o e => ?_) (hN v H2 _ (fun b hb => upd_ne hb) n)⟩⟩
    by_cases hb : b = d
    · subst hb; rw [hd] at e; cases e; exact upd_same
    · rw [upd_ne hb]; exact sm _ _ (by rw [upd_ne hb]; exact e)
  · exact .inr (body H od Q hd (fun _ _ => rfl) fun v H2 sm n => q v H2 sm n)
/-- a list comprehension whose element changes nothing that was there: G tells the j-th item, by the tuples that stand -/
theorem lcS {J : L2.It} {n : Nat} {g : TG} {te : TE} {vs : List Nat} {σ : L2.St} {H1 : Hp} {D : Addr} {Qd : Hp → Prop} (hD : H1 D = none) (hn : n < sizeLine) (Y : Nat → V → Prop) (G : Nat → V → Hp → Prop)
    (go : ∀ i H, Same H1 H → i < n → J.go i H) (stop : ∀ H, Same H1 H → J.stop n H) (yld : ∀ i H x H', Same H1 H → i < n → J.yld i H x H' → H' = H ∧ Y i x)
    (mono : ∀ j v A B, (∀ a xs, A a = some (.tup xs) → B a = some (.tup xs)) → G j v A → G j v B)
    (step : ∀ i x H (R : VK), i < n → Y i x → Same H1 H → (∀ y H', Same H H' → G i y H' → R y H') → g x (wipe σ vs) H fun σ2 H2 => wipe σ2 vs = wipe σ vs ∧ te σ2 H2 R)
    (fin : ∀ H ys, Same H1 H → H D = some (.lst ys) → ys.length = n → (∀ j y, ys[j]? = some y → G j y H) → Qd H) :
    ∃ W : Nat → Nat → Hp → Prop, (∃ m, W 0 m (upd H1 D (.lst []))) ∧ ∀ i m H, W i m H →
      (J.stop i H ∧ Qd H) ∨ (J.go i H ∧ ∃ Nx : Hp → Prop, (∀ H', Nx H' → ∃ m', m' < m ∧ W (i + 1) m' H') ∧ ∀ x H', J.yld i H x H' → g x (wipe σ vs) H' fun σ2 H2 => wipe σ2 vs = wipe σ vs ∧ tYes σ2 H2 fun b H3 =>
        if b = true then te σ2 H3 fun y H4 => ∃ acc, H4 D = some (.lst acc) ∧ acc.length < sizeLine ∧ Nx (upd H4 D (.lst (acc ++ [y]))) else Nx H3) := by
  refine ⟨fun i m H => m = n - i ∧ i ≤ n ∧ Same H1 H ∧ ∃ ys, H D = some (.lst ys) ∧ ys.length = i ∧ ∀ j y, ys[j]? = some y → G j y H, ⟨n, by simp, Nat.zero_le _, fun b o e => ?_, [], upd_same, rfl, by simp⟩, ?_⟩
  · rw [upd_ne (ne_of_none e hD)]; exact e
  · rintro i m H ⟨rfl, hi, sm, ys, hy, hl, hG⟩
    by_cases hlt : i < n
    · refine .inr ⟨go i H sm hlt, fun H' => i + 1 ≤ n ∧ Same H1 H' ∧ ∃ ys, H' D = some (.lst ys) ∧ ys.length = i + 1 ∧ ∀ j y, ys[j]? = some y → G j y H', fun H' h => ⟨n - (i + 1), by omega, rfl, h⟩, fun x H' y => ?_⟩
      obtain ⟨rfl, hY⟩ := yld i H x H' sm hlt y
      have st := step i x H' (fun y H4 => ∃ acc, H4 D = some (.lst acc) ∧ acc.length < sizeLine ∧ (i + 1 ≤ n ∧ Same H1 (upd H4 D (.lst (acc ++ [y]))) ∧ ∃ ys, (upd H4 D (.lst (acc ++ [y]))) D = some (.lst ys) ∧ ys.length = i + 1 ∧ ∀ j y', ys[j]? = some y' → G j y' (upd H4 D (.lst (acc ++ [y]))))) hlt hY sm fun v H4 s4 g4 => ?_
      · exact st
      · have tk : ∀ o a xs, H4 a = some (.tup xs) → (upd H4 D o) a = some (.tup xs) := fun o a xs e => by
          rw [upd_ne]
          · exact e
          · rintro rfl
            rw [s4 _ _ hy] at e
            cases e
        refine ⟨ys, s4 _ _ hy, by omega, hlt, fun b o e => ?_, ys ++ [v], upd_same, by simp [hl], fun j y' hj => ?_⟩
        · rw [upd_ne (ne_of_none e hD)]; exact s4 _ _ (sm _ _ e)
        · by_cases hj2 : j < ys.length
          · rw [List.getElem?_append_left hj2] at hj
            exact mono j y' _ _ (tk _) (mono j y' _ _ (fun a xs e => s4 _ _ e) (hG j y' hj))
          · rw [List.getElem?_append_right (by omega)] at hj
            have e0 : j - ys.length = 0 := by
              rcases Nat.eq_zero_or_pos (j - ys.length) with z | z
              · exact z
              · rw [List.getElem?_eq_none (by simp; omega)] at hj; cases hj
            rw [e0] at hj
            cases hj
            have : j = i := by omega
            subst this
            exact mono _ _ _ _ (tk _) g4
    · have : i = n := by omega
      subst this
      exact .inl ⟨stop H sm, fin H ys sm hy hl hG⟩
theorem valV_out {kvs : List (Key × V)} {k : Key} (h : ∀ q ∈ kvs, q.1 ≠ k) : valV kvs k = none := by
  induction kvs with
  | nil => rfl
  | cons q r ih =>
    rw [valV_neg (h q (by simp))]
    exact ih fun q' hq => h q' (List.mem_cons_of_mem _ hq)
theorem wipe_back {σ : L2.St} {i : Nat} {x : Option V} : wipe ((wipe σ [i]).set i x) [i] = wipe σ [i] := by
  show ((σ.set i none).set i x).set i none = σ.set i none
  rw [List.set_set, List.set_set]
/-- {k: e for k in d}, e changing nothing that was there, its value told by the key -/
theorem dcS {d : Addr} {od : Obj} {kvs : List (Key × V)} {i0 : Nat} {tv : TE} {σ : L2.St} {H1 : Hp} {D : Addr} {Qd : Hp → Prop} (hD : H1 D = none) (hd : H1 d = some (.frz od (.dK kvs))) (hnd : (kvs.map (·.1)).Nodup) (hn : kvs.length < sizeLine) (hi0 : i0 < σ.length) (val : Key → V)
    (step : ∀ (i : Nat) k v H (R : VK), kvs[i]? = some (k, v) → Same H1 H → (∀ H', Same H H' → R (val k) H') → tv ((wipe σ [i0]).set i0 (some (kV k))) H R)
    (fin : ∀ H, Same H1 H → H D = some (.dK (kvs.map fun q => (q.1, val q.1))) → Qd H) :
    ∃ W : Nat → Nat → Hp → Prop, (∃ m, W 0 m (upd H1 D (.dK []))) ∧ ∀ i m H, W i m H →
      ((Itk d od kvs).stop i H ∧ Qd H) ∨ ((Itk d od kvs).go i H ∧ ∃ Nx : Hp → Prop, (∀ H', Nx H' → ∃ m', m' < m ∧ W (i + 1) m' H') ∧ ∀ x H', (Itk d od kvs).yld i H x H' → gName i0 x (wipe σ [i0]) H' fun σ2 H2 => wipe σ2 [i0] = wipe σ [i0] ∧ tYes σ2 H2 fun b H3 =>
        if b = true then tVar i0 σ2 H3 fun y H4 => tv σ2 H4 fun z H5 => ∃ kvs k, y = kV k ∧ H5 D = some (.dK kvs) ∧ kvs.length < sizeLine ∧ Nx (upd H5 D (.dK (putK kvs k z))) else Nx H3) := by
  refine ⟨fun i m H => m = kvs.length - i ∧ i ≤ kvs.length ∧ Same H1 H ∧ H D = some (.dK ((kvs.take i).map fun q => (q.1, val q.1))), ⟨kvs.length, by simp, Nat.zero_le _, same_upd0 hD _, upd_same⟩, ?_⟩
  rintro i m H ⟨rfl, hi, sm, hy⟩
  by_cases hlt : i < kvs.length
  · refine .inr ⟨⟨sm _ _ hd, hlt⟩, fun H' => Same H1 H' ∧ H' D = some (.dK ((kvs.take (i + 1)).map fun q => (q.1, val q.1))), fun H' h => ⟨kvs.length - (i + 1), by omega, rfl, hlt, h⟩, fun x H' y => ?_⟩
    obtain ⟨rfl, k, v, e, rfl⟩ := y
    refine ⟨wipe_back, ?_⟩
    unfold tYes
    dsimp only
    rw [if_pos rfl]
    refine ⟨kV k, ?_, ?_⟩
    · have : i0 < (wipe σ [i0]).length := by rw [wipe_length]; exact hi0
      rw [List.getElem?_set_self this]
    · refine step i k v H' _ e sm fun H5 s5 => ⟨_, k, rfl, s5 _ _ hy, ?_, ?_, ?_⟩
      · rw [List.length_map, List.length_take]; omega
      · intro b o hb
        rw [upd_ne (ne_of_none hb hD)]
        exact s5 _ _ (sm _ _ hb)
      · have ke : kvs[i] = (k, v) := by
          rw [List.getElem?_eq_getElem hlt] at e
          exact Option.some.inj e
        rw [upd_same, putK_new, List.take_add_one, e, List.map_append]
        · rfl
        · refine valV_out fun q hq => ?_
          obtain ⟨q0, hq0, rfl⟩ := List.mem_map.mp hq
          intro z
          obtain ⟨j, hj, ej⟩ := List.mem_take_iff_getElem.mp hq0
          have hj' : j < i := by omega
          have h1 := List.nodup_iff_pairwise_ne.mp hnd
          have h2 := List.pairwise_iff_getElem.mp h1 j i (by rw [List.length_map]; omega) (by rw [List.length_map]; exact hlt) hj'
          rw [List.getElem_map, List.getElem_map, ke] at h2
          exact h2 (by rw [← ej] at z; exact z)
  · have : i = kvs.length := by omega
    subst this
    refine .inl ⟨⟨sm _ _ hd, Nat.le_refl _⟩, fin H sm ?_⟩
    rw [List.take_length] at hy
    exact hy
/-! the walks that are met -/
section
variable {K : PySem.W.Frag} {H1 : Hp} {a : Addr} {xs : List V}
theorem go_l (h : SqL K H1 a xs) : ∀ i H, Same H1 H → i < xs.length → (Itl K a).go i H := fun i H sm hi => ⟨xs, xs[i], sm.seq h, by simp [hi]⟩
theorem stop_l (h : SqL K H1 a xs) : ∀ H, Same H1 H → (Itl K a).stop xs.length H := fun H sm => ⟨xs, sm.seq h, Nat.le_refl _⟩
theorem yld_l (h : SqL K H1 a xs) : ∀ i H x H', Same H1 H → i < xs.length → (Itl K a).yld i H x H' → H' = H ∧ xs[i]? = some x := fun i H x H' sm hi y => ⟨y.1, y.2 xs (sm.seq h)⟩
theorem go_s {z : Str} : ∀ i H, Same H1 H → i < z.cps.size → (Its z).go i H := fun i H _ hi => hi
theorem stop_s {z : Str} : ∀ H, Same H1 H → (Its z).stop z.cps.size H := fun H _ => Nat.le_refl _
theorem yld_s {z : Str} : ∀ i H x H', Same H1 H → i < z.cps.size → (Its z).yld i H x H' → H' = H ∧ ∃ c, z.cps[i]? = some c ∧ x = .str ⟨#[c]⟩ := fun i H x H' _ _ y => y
theorem go_k {d : Addr} {o : Obj} {kvs : List (Key × V)} (h : H1 d = some (.frz o (.dK kvs))) : ∀ i H, Same H1 H → i < kvs.length → (Itk d o kvs).go i H := fun i H sm hi => ⟨sm _ _ h, hi⟩
theorem stop_k {d : Addr} {o : Obj} {kvs : List (Key × V)} (h : H1 d = some (.frz o (.dK kvs))) : ∀ H, Same H1 H → (Itk d o kvs).stop kvs.length H := fun H sm => ⟨sm _ _ h, Nat.le_refl _⟩
theorem yld_k {d : Addr} {o : Obj} {kvs : List (Key × V)} : ∀ i H x H', Same H1 H → i < kvs.length → (Itk d o kvs).yld i H x H' → H' = H ∧ ∃ k v, kvs[i]? = some (k, v) ∧ x = kV k := fun i H x H' _ _ y => y
end
theorem ext_map {α : Type} {ys : List V} {l : List α} {f : α → V} (hl : ys.length = l.length) (h : ∀ (j : Nat) y, ys[j]? = some y → ∃ a, l[j]? = some a ∧ y = f a) : ys = l.map f := by
  refine List.ext_getElem? fun j => ?_
  by_cases hj : j < ys.length
  · obtain ⟨a, e1, e2⟩ := h j ys[j] (List.getElem?_eq_getElem hj)
    rw [List.getElem?_eq_getElem hj, List.getElem?_map, e1, e2]
    rfl
  · rw [List.getElem?_eq_none (by omega), List.getElem?_eq_none (by rw [List.length_map]; omega)]
theorem dpAll_map {K : PySem.W.Frag} {H : Hp} {α : Type} {f : α → PyData} : ∀ {ys : List V} {l : List α}, ys.length = l.length → (∀ (j : Nat) y, ys[j]? = some y → ∃ a, l[j]? = some a ∧ Dp K H y (f a)) → DpAll K H ys (l.map f)
  | [], [], _, _ => .nil
  | [], _ :: _, h, _ => by simp at h
  | _ :: _, [], h, _ => by simp at h
  | y :: ys, a :: l, hl, h => by
    obtain ⟨a', e1, e2⟩ := h 0 y rfl
    cases e1
    exact .cons e2 (dpAll_map (by simpa using hl) fun j y e => h (j + 1) y (by simpa using e))
theorem fn_never {P : Program} {w : World} {K : PySem.W.Frag} {mg : Str → Option Value} {base : Heap} {CX : CXT} {k : Nat} {f : Addr} {fd : FuncData} {ps : List Str} {sp : Sp} (no : ∀ vs H Q E, ¬ sp vs H Q E) : FnOk P w K mg base CX k f fd ps sp :=
  ⟨fun vs H Q E h => absurd h (no vs H Q E), fun A outer s H args us vs Q E _ _ _ _ h => absurd h (no vs H Q E)⟩
section
variable {X : Cx} {K : PySem.W.Frag}
theorem call_len_seqK (hK : X.K = K) : CallR X (.builtin "len") (fun xs H Q => ∃ p ys, xs = [.ref p] ∧ (SqL K H p ys ∨ SqT K H p ys) ∧ Q (.int ys.length) H) := by subst hK; exact call_len_seq
theorem ix_listK (hK : X.K = K) : IxR X (rIxL K) := by subst hK; exact ix_list
theorem ix_tupK (hK : X.K = K) : IxR X (rIxT K) := by subst hK; exact ix_tup
theorem call_isiK1 (hK : X.K = K) : CallR X (.builtin "isinstance") (rIsi K) := by subst hK; exact call_isi
theorem op_neDK (hK : X.K = K) (hu : X.A.units + 64 < cLine) : OpR X (compareOp .NotEq) (rNeD K) := by subst hK; exact op_neD hu
theorem op_eqDK (hK : X.K = K) (hu : X.A.units + 64 < cLine) : OpR X (compareOp .Eq) (rEqD K) := by subst hK; exact op_eqD hu
theorem sl_listK (hK : X.K = K) : SlR X (rSlL K) := by subst hK; exact sl_list
variable {o e : Expr} {es : List Expr} {to : TE} {t : TA} {name : Str} {apos cpos : Pos} {T id : String} {r : V → List V → Hp → VK → Prop}
theorem pe_bmK (hK : X.K = K) (pa : PlainAttrs T) (slot : Slot T name id) (hty : typeOf (.builtin id) = pure (.type "method_descriptor")) (hm : MtR X id r) (ho : PE X o to) (ha : PA X (e :: es) t)
    (hbase : attributeBase o name X.env (eval o X.env) = eval o X.env := by rfl)
    (hfew : ((backTo cpos (starEach (e :: es) X.env)).all (fun x => !x.1) && (backToKw cpos (keywordEach [] X.env)).all (fun x => x.1.isSome) && decide ((e :: es).length + ([] : List Keyword).length + (if ([] : List Keyword).isEmpty then 0 else 1) < 30)) = true := by rfl)
    (hline : (apos.endLine == cpos.line) = true := by rfl) (hs : starEach (e :: es) X.env = (false, eval e X.env) :: starEach es X.env := by rfl) (hplain : (backTo cpos (starEach es X.env)).any (·.1) = false := by rfl) :
    PE X (.Call (.Attribute o name apos) (e :: es) [] cpos) (tBM K T r to t) := by
  subst hK
  exact pe_bm pa slot hty hm ho ha hbase hfew hline hs hplain
end
theorem hu65_of {A : Around} {k : Nat} (hr : Room k A) : A.units + 65 < cLine := by have := hr.un; omega
theorem same_upd {H : Hp} {p : Addr} (h : H p = none) (o : HO) : Same H (upd H p o) := fun b u e => by rw [upd_ne (ne_of_none e h)]; exact e
end FA

set_option Elab.async false
set_option linter.all false
set_option maxRecDepth 100000
set_option maxHeartbeats 4000000
/-! Bodies and programs as Python's data: for ==, count and repr. -/
namespace FA
open PySem PySem.Spec PyProof.Rows L2
/-- a name: 1 to 8 small letters -/
def okName (x : Str) : Prop := 1 ≤ x.length ∧ x.length ≤ 8 ∧ ∀ c ∈ x.cps.toList, 97 ≤ c ∧ c ≤ 122
theorem okName.strOk {x : Str} (h : okName x) : PyData.strOk x = true := by
  unfold PyData.strOk
  rw [Array.all_eq_true']
  intro c hc
  have := h.2.2 c (by simpa using hc)
  exact decide_eq_true (by omega)
mutual
def dtI : It → PyData
  | .call x => .str x
  | .may b => .tuple [.str "maybe", .list (dtB b)]
  | .loop b => .tuple [.str "loop", .list (dtB b)]
  | .one bs => .tuple [.str "one", .list (dtBs bs)]
def dtB : List It → List PyData
  | [] => []
  | i :: r => dtI i :: dtB r
def dtBs : List (List It) → List PyData
  | [] => []
  | b :: r => .list (dtB b) :: dtBs r
end
section
variable {K : PySem.W.Frag} {H : Hp}
mutual
theorem ItAt.dp : ∀ {v : V} {i : It}, ItAt H v i → Dp K H v (dtI i)
  | _, _, .call x => by simp only [dtI]; exact .str x
  | _, _, .may h1 h2 h3 => by simp only [dtI]; exact .tup (SqT.of h1) (.cons (.str _) (.cons (.lst (SqL.of h2) (ItsAt.dp h3)) .nil))
  | _, _, .loop h1 h2 h3 => by simp only [dtI]; exact .tup (SqT.of h1) (.cons (.str _) (.cons (.lst (SqL.of h2) (ItsAt.dp h3)) .nil))
  | _, _, .one h1 h2 h3 => by simp only [dtI]; exact .tup (SqT.of h1) (.cons (.str _) (.cons (.lst (SqL.of h2) (BdsAt.dp h3)) .nil))
theorem ItsAt.dp : ∀ {vs : List V} {l : List It}, ItsAt H vs l → DpAll K H vs (dtB l)
  | _, _, .nil => by simp only [dtB]; exact .nil
  | _, _, .cons h t => by simp only [dtB]; exact .cons (ItAt.dp h) (ItsAt.dp t)
theorem BdsAt.dp : ∀ {vs : List V} {l : List (List It)}, BdsAt H vs l → DpAll K H vs (dtBs l)
  | _, _, .nil => by simp only [dtBs]; exact .nil
  | _, _, .cons h h2 t => by simp only [dtBs]; exact .cons (.lst (SqL.of h) (ItsAt.dp h2)) (BdsAt.dp t)
end
mutual
theorem ItAt.dd : ∀ {v : V} {i : It}, ItAt H v i → Dd K H v (dtI i)
  | _, _, .call x => by simp only [dtI]; exact .str x
  | _, _, .may h1 h2 h3 => by simp only [dtI]; exact .tup h1 (.cons (.str _) (.cons (.lst h2 (ItsAt.dd h3)) .nil))
  | _, _, .loop h1 h2 h3 => by simp only [dtI]; exact .tup h1 (.cons (.str _) (.cons (.lst h2 (ItsAt.dd h3)) .nil))
  | _, _, .one h1 h2 h3 => by simp only [dtI]; exact .tup h1 (.cons (.str _) (.cons (.lst h2 (BdsAt.dd h3)) .nil))
theorem ItsAt.dd : ∀ {vs : List V} {l : List It}, ItsAt H vs l → DdAll K H vs (dtB l)
  | _, _, .nil => by simp only [dtB]; exact .nil
  | _, _, .cons h t => by simp only [dtB]; exact .cons (ItAt.dd h) (ItsAt.dd t)
theorem BdsAt.dd : ∀ {vs : List V} {l : List (List It)}, BdsAt H vs l → DdAll K H vs (dtBs l)
  | _, _, .nil => by simp only [dtBs]; exact .nil
  | _, _, .cons h h2 t => by simp only [dtBs]; exact .cons (.lst h (ItsAt.dd h2)) (BdsAt.dd t)
end
theorem PrKv.dd : ∀ {kvs : List (Key × V)} {p : Pr}, PrKv H kvs p → DdAll K H (kvs.map (·.2)) (p.map fun q => PyData.list (dtB q.2))
  | _, _, .nil => .nil
  | _, _, .cons h t => by
    obtain ⟨vs, h1, h2⟩ := h
    exact .cons (.lst h1 (ItsAt.dd h2)) t.dd
end
/-- the program as data -/
def dtP (p : Pr) : PyData := .dict (p.map fun q => (.str q.1, .list (dtB q.2)))
theorem PrKv.dt {K : PySem.W.Frag} {H : Hp} {d : Addr} {kvs : List (Key × V)} {p : Pr} (hd : Rd H d (.dK kvs)) (h : PrKv H kvs p) : Dd K H (.ref d) (dtP p) := by
  have q := Dd.dic (K := K) hd h.dd
  have e : ((kvs.map fun p => kD p.1).zip (p.map fun q => PyData.list (dtB q.2))) = p.map fun q => (PyData.str q.1, PyData.list (dtB q.2)) := by
    have e2 : (kvs.map fun p => kD p.1) = p.map fun q => PyData.str q.1 := by
      have := congrArg (List.map kD) h.keys
      rw [List.map_map, List.map_map] at this
      exact this
    rw [e2, List.zip_map']
  rw [e] at q
  exact q
/-! ### sizes -/
mutual
theorem dtI_lay {ns : List Str} (hn : ∀ x ∈ ns, okName x) : ∀ i : It, okI ns i → (dtI i).canLay0 = true
  | .call x, h => by simp only [dtI, PyData.canLay0]; exact (hn x (by simpa [okI] using h)).strOk
  | .may b, h => by
    simp only [okI] at h
    simp only [dtI, PyData.canLay0, PyData.canLayAll0, dtB_lay hn b h.2, Bool.and_true]; decide +kernel
  | .loop b, h => by
    simp only [okI] at h
    simp only [dtI, PyData.canLay0, PyData.canLayAll0, dtB_lay hn b h.2, Bool.and_true]; decide +kernel
  | .one bs, h => by
    simp only [okI] at h
    simp only [dtI, PyData.canLay0, PyData.canLayAll0, dtBs_lay hn bs h.2.2.2, Bool.and_true]; decide +kernel
theorem dtB_lay {ns : List Str} (hn : ∀ x ∈ ns, okName x) : ∀ b : List It, okB ns b → PyData.canLayAll0 (dtB b) = true
  | [], _ => by simp only [dtB, PyData.canLayAll0]
  | i :: r, h => by
    simp only [okB] at h
    simp only [dtB, PyData.canLayAll0, dtI_lay hn i h.1, dtB_lay hn r h.2, Bool.and_true]
theorem dtBs_lay {ns : List Str} (hn : ∀ x ∈ ns, okName x) : ∀ bs : List (List It), okBs ns bs → PyData.canLayAll0 (dtBs bs) = true
  | [], _ => by simp only [dtBs, PyData.canLayAll0]
  | b :: r, h => by
    simp only [okBs] at h
    simp only [dtBs, PyData.canLayAll0, PyData.canLay0, dtB_lay hn b h.1, dtBs_lay hn r h.2, Bool.and_true]
end
mutual
theorem dtI_depth : ∀ i : It, (dtI i).depth ≤ 3 * dI i + 2
  | .call x => by simp only [dtI, PyData.depth]; omega
  | .may b => by
    have := dtB_depth b
    simp only [dtI, PyData.depth, PyData.depthAll, dI]; omega
  | .loop b => by
    have := dtB_depth b
    simp only [dtI, PyData.depth, PyData.depthAll, dI]; omega
  | .one bs => by
    have := dtBs_depth bs
    simp only [dtI, PyData.depth, PyData.depthAll, dI]; omega
theorem dtB_depth : ∀ b : List It, PyData.depthAll (dtB b) + 1 ≤ 3 * dB b
  | [] => by simp only [dtB, PyData.depthAll, dB]; omega
  | i :: r => by
    have h1 := dtI_depth i
    have h2 := dtB_depth r
    simp only [dtB, PyData.depthAll, dB]; omega
theorem dtBs_depth : ∀ bs : List (List It), PyData.depthAll (dtBs bs) ≤ 3 * dBs bs
  | [] => by simp only [dtBs, PyData.depthAll, dBs]; omega
  | b :: r => by
    have h1 := dtB_depth b
    have h2 := dtBs_depth r
    simp only [dtBs, PyData.depthAll, PyData.depth, dBs]; omega
end
mutual
theorem dtI_show : ∀ i : It, (dtI i).showable = true
  | .call x => by simp only [dtI, PyData.showable]
  | .may b => by simp only [dtI, PyData.showable, PyData.showableAll, dtB_show b, Bool.and_true]
  | .loop b => by simp only [dtI, PyData.showable, PyData.showableAll, dtB_show b, Bool.and_true]
  | .one bs => by simp only [dtI, PyData.showable, PyData.showableAll, dtBs_show bs, Bool.and_true]
theorem dtB_show : ∀ b : List It, PyData.showableAll (dtB b) = true
  | [] => by simp only [dtB, PyData.showableAll]
  | i :: r => by simp only [dtB, PyData.showableAll, dtI_show i, dtB_show r, Bool.and_true]
theorem dtBs_show : ∀ bs : List (List It), PyData.showableAll (dtBs bs) = true
  | [] => by simp only [dtBs, PyData.showableAll]
  | b :: r => by simp only [dtBs, PyData.showableAll, PyData.showable, dtB_show b, dtBs_show r, Bool.and_true]
end
theorem okName.short {x : Str} (h : okName x) : (x.cps.toList.all fun c => decide (c < 16 ^ 8)) = true := by
  rw [List.all_eq_true]
  intro c hc
  have := h.2.2 c hc
  exact decide_eq_true (by omega)
mutual
theorem dtI_short {ns : List Str} (hn : ∀ x ∈ ns, okName x) : ∀ i : It, okI ns i → (dtI i).leavesShort 13 = true
  | .call x, h => by simp only [dtI, PyData.leavesShort]; exact (hn x (by simpa [okI] using h)).short
  | .may b, h => by
    simp only [okI] at h
    simp only [dtI, PyData.leavesShort, PyData.leavesShortAll, dtB_short hn b h.2, Bool.and_true]; decide +kernel
  | .loop b, h => by
    simp only [okI] at h
    simp only [dtI, PyData.leavesShort, PyData.leavesShortAll, dtB_short hn b h.2, Bool.and_true]; decide +kernel
  | .one bs, h => by
    simp only [okI] at h
    simp only [dtI, PyData.leavesShort, PyData.leavesShortAll, dtBs_short hn bs h.2.2.2, Bool.and_true]; decide +kernel
theorem dtB_short {ns : List Str} (hn : ∀ x ∈ ns, okName x) : ∀ b : List It, okB ns b → PyData.leavesShortAll 13 (dtB b) = true
  | [], _ => by simp only [dtB, PyData.leavesShortAll]
  | i :: r, h => by
    simp only [okB] at h
    simp only [dtB, PyData.leavesShortAll, dtI_short hn i h.1, dtB_short hn r h.2, Bool.and_true]
theorem dtBs_short {ns : List Str} (hn : ∀ x ∈ ns, okName x) : ∀ bs : List (List It), okBs ns bs → PyData.leavesShortAll 13 (dtBs bs) = true
  | [], _ => by simp only [dtBs, PyData.leavesShortAll]
  | b :: r, h => by
    simp only [okBs] at h
    simp only [dtBs, PyData.leavesShortAll, PyData.leavesShort, dtB_short hn b h.1, dtBs_short hn r h.2, Bool.and_true]
end
mutual
theorem dtI_bulk {ns : List Str} (hn : ∀ x ∈ ns, okName x) : ∀ i : It, okI ns i → (dtI i).bulk ≤ 12 + 32 * nI i
  | .call x, h => by
    have h2 : x.cps.size ≤ 8 := (hn x (by simpa [okI] using h)).2.1
    simp only [dtI, PyData.bulk]; omega
  | .may b, h => by
    simp only [okI] at h
    have h1 := dtB_bulk hn b h.2
    have h2 : ("maybe" : Str).cps.size = 5 := by decide +kernel
    simp only [dtI, PyData.bulk, PyData.bulkAll, nI, h2]; omega
  | .loop b, h => by
    simp only [okI] at h
    have h1 := dtB_bulk hn b h.2
    have h2 : ("loop" : Str).cps.size = 4 := by decide +kernel
    simp only [dtI, PyData.bulk, PyData.bulkAll, nI, h2]; omega
  | .one bs, h => by
    simp only [okI] at h
    have h1 := dtBs_bulk hn bs h.2.2.2
    have h2 : ("one" : Str).cps.size = 3 := by decide +kernel
    have h3 := h.2.1
    simp only [dtI, PyData.bulk, PyData.bulkAll, nI, h2]; omega
theorem dtB_bulk {ns : List Str} (hn : ∀ x ∈ ns, okName x) : ∀ b : List It, okB ns b → PyData.bulkAll (dtB b) ≤ 32 * nIB b
  | [], _ => by simp only [dtB, PyData.bulkAll, nIB]; omega
  | i :: r, h => by
    simp only [okB] at h
    have h1 := dtI_bulk hn i h.1
    have h2 := dtB_bulk hn r h.2
    simp only [dtB, PyData.bulkAll, nIB]; omega
theorem dtBs_bulk {ns : List Str} (hn : ∀ x ∈ ns, okName x) : ∀ bs : List (List It), okBs ns bs → PyData.bulkAll (dtBs bs) ≤ 32 * nIBs bs + bs.length
  | [], _ => by simp only [dtBs, PyData.bulkAll, nIBs]; omega
  | b :: r, h => by
    simp only [okBs] at h
    have h1 := dtB_bulk hn b h.1
    have h2 := dtBs_bulk hn r h.2
    simp only [dtBs, PyData.bulkAll, PyData.bulk, nIBs, List.length_cons]; omega
end
theorem dt_shaped {ds : List PyData} (h : PyData.canLayAll0 ds = true) (h2 : PyData.depthAll ds ≤ 60) : SeqAt.shaped (.list ds) = true := by
  show (PyData.canLay0 (.list ds) && decide (PyData.depth (.list ds) ≤ 64)) = true
  rw [Bool.and_eq_true]
  exact ⟨by simp only [PyData.canLay0]; exact h, decide_eq_true (by simp only [PyData.depth]; omega)⟩
/-- how many of the bodies are empty -/
theorem count_empty : ∀ bs : List (List It), (dtBs bs).countP (fun z => PyData.eqv z (.list [])) = bs.countP (fun b => b.isEmpty)
  | [] => rfl
  | b :: r => by
    have e : PyData.eqv (.list (dtB b)) (.list []) = b.isEmpty := by
      cases b with
      | nil => simp [dtB, PyData.eqv, PyData.eqvAll]
      | cons i r => simp [dtB, PyData.eqv, PyData.eqvAll]
    simp only [dtBs, List.countP_cons, e, count_empty r]
end FA

set_option Elab.async false
set_option linter.all false
set_option maxRecDepth 100000
set_option maxHeartbeats 4000000
/-! list(text) -/
namespace FA
open PySem PySem.Spec PyProof.Rows L2
theorem vals_of : ∀ {xs : List V} {us : List Value}, xs.length = us.length → (∀ (j : Nat) u, us[j]? = some u → ∃ x, xs[j]? = some x ∧ L2.RelV x u) → Vals xs us
  | [], [], _, _ => .nil
  | [], _ :: _, h, _ => by simp at h
  | _ :: _, [], h, _ => by simp at h
  | x :: xs, u :: us, hl, h => by
    obtain ⟨x', e1, e2⟩ := h 0 u rfl
    cases e1
    exact .cons e2 (vals_of (by simpa using hl) fun j u e => h (j + 1) u (by simpa using e))
section
variable {X : Cx}
theorem call_strL (hc : X.calm = true) : CallR X (.type "list") (fun xs H Q => ∃ z : Str, xs = [.str z] ∧ z.cps.size ≤ sizeLine ∧ ∀ l, H l = none → Q (.ref l) (upd H l (.lst (z.cps.toList.map fun c => V.str ⟨#[c]⟩)))) := by
  intro pins s σ H xs us Q I r h
  obtain ⟨z, rfl, hz, q⟩ := h
  obtain ⟨u, rfl, ru⟩ := r.one
  obtain ⟨t, rfl⟩ := ru
  refine call_list_str (I.ok.hd hc) z t (fun h' tk acc' c' hk e hi => ?_) hz
  have hv : Vals (z.cps.toList.map fun c => V.str ⟨#[c]⟩) acc'.toList := vals_of (by rw [List.length_map, Array.length_toList, Array.length_toList, hi.1]) fun j u hj => by
    rw [Array.getElem?_toList] at hj
    obtain ⟨c, t', h1, rfl⟩ := hi.2 j u hj
    exact ⟨.str ⟨#[c]⟩, by rw [List.getElem?_map, Array.getElem?_toList, h1]; rfl, _, rfl⟩
  refine ⟨.ref s.heap.objs.size, _, I.laid (t' := tk) (o := .lst (z.cps.toList.map fun c => V.str ⟨#[c]⟩)) hk (Nat.le_refl _) ⟨by rw [List.length_map, Array.length_toList]; exact hz, acc'.toList, c', hv, ?_⟩, rfl, q _ (I.hok.fresh (Nat.le_refl _))⟩
  rw [e]
end
end FA

set_option Elab.async false
set_option linter.all false
set_option maxRecDepth 100000
set_option maxHeartbeats 4000000
/-! Sets of texts whose order is asked: set(list of texts), sorted of it. -/
namespace FA
open PySem PySem.Spec PyProof.Rows L2 PySem.Froz
variable {P : Program} {w : World} {A : Around} {E : Value → Shared → Prop} {s : Shared} {a : Addr}
/-- a set of the texts l at a, its places known -/
def TSet (P : Program) (w : World) (h : Heap) (a : Addr) (l : List Str) : Prop :=
  ∃ D : SD, h.get? a = some (sObj "set" D) ∧ TxOk P w D l ∧ l.Nodup ∧ Ris D.2.2.place.toList ∧ (w.params.followText "set-order" = true ∨ D.2.2.led = true)
theorem TSet.keep {h h' : Heap} {l : List Str} (R : TSet P w h a l) (k : ∀ o, h.get? a = some o → h'.get? a = some o) : TSet P w h' a l := by
  obtain ⟨D, ho, r⟩ := R
  exact ⟨D, k _ ho, r⟩
theorem tail_more {ep : Nat} {es : Array (Int × Value)} {t : SetTable} {b : Bool} (r : Ris t.place.toList) : Ris (tailTx ep es t b).2.2.place.toList ∧ (tailTx ep es t b).2.2.led = t.led := by
  unfold tailTx
  split
  · exact ⟨relayAll_ris t es _, relayAll_led t es _⟩
  · exact ⟨r, rfl⟩
theorem add_more {D : SD} {h : Int} {v : Value} (r : Ris D.2.2.place.toList) : Ris (addTx h v D).2.2.place.toList ∧ (addTx h v D).2.2.led = D.2.2.led := by
  unfold addTx
  have r1 := layNew_ris D.2.2 D.1 h v r
  have l1 := layNew_led D.2.2 D.1 h v
  split
  · obtain ⟨x, y⟩ := tail_more (ep := D.2.1) (es := (layNew D.2.2 D.1 h v).1) (t := { (layNew D.2.2 D.1 h v).2.1 with plain := false }) (b := (layNew D.2.2 D.1 h v).2.2.1) r1
    exact ⟨x, y.trans l1⟩
  · obtain ⟨x, y⟩ := tail_more (ep := D.2.1) (es := (layNew D.2.2 D.1 h v).1) (t := (layNew D.2.2 D.1 h v).2.1) (b := (layNew D.2.2 D.1 h v).2.2.1) r1
    exact ⟨x, y.trans l1⟩
theorem add_old {T : String} {D : SD} {l : List Str} {k : Str} {u : Tok} {Q : Bool → Shared → Prop} (ho : s.heap.get? a = some (sObj T D)) (F : TxOk P w D l) (hk : k ∈ l) (hb : l.length + 1 < scanBound) (h : Q false s) :
    wpAny (model P w) A (setAddHashed a (.str k u) (hashStr w k)) Q E s := by
  obtain ⟨es, ep, t⟩ := D
  have hsz : es.size = l.length := F.sz
  have hkey : (strKind P w).is k (.str k u) = true := is_str k u
  obtain ⟨j, hj⟩ : ∃ j, List.findIdx? (fun e => (strKind P w).is k e.2) es.toList = some j := by
    cases hr : List.findIdx? (fun e => (strKind P w).is k e.2) es.toList with
    | some j => exact ⟨j, rfl⟩
    | none =>
      obtain ⟨e, he, z⟩ := (F.mem k).mp hk
      have := List.findIdx?_eq_none_iff.mp hr e he
      rw [z] at this
      cases this
  unfold setAddHashed setAddHashedIn
  refine wpAny_holding (wpAny_bind (wpAny_setState_of ho rfl F.fit ?_))
  dsimp only
  rw [byScan_of rfl (show es.size < scanBound by omega) F.el]
  simp only [↓reduceIte]
  unfold setAddByScan
  refine wpAny_bind (wpAny_bind (wpAny_rule ?_))
  refine wpAny_bind (wpAny_setScan_of (knd := strKind P w) (k := k) hkey ho rfl F.fit F.el ?_)
  rw [hj]
  exact wpAny_pure (wpAny_pure h)
theorem ts_add {l : List Str} {k : Str} {u : Tok} {Q : Bool → Shared → Prop} (R : TSet P w s.heap a l) (hb : l.length + 1 < scanBound)
    (hQ : ∀ h', Heap.SameBut a s.heap h' → TSet P w h' a (if k ∈ l then l else k :: l) → Q (!decide (k ∈ l)) { s with heap := h' }) : wpAny (model P w) A (setAddHashed a (.str k u) (hashStr w k)) Q E s := by
  obtain ⟨D, ho, F, nd, r, hl⟩ := R
  by_cases hk : k ∈ l
  · refine add_old ho F hk hb ?_
    have q := hQ s.heap ⟨rfl, fun _ _ => rfl⟩ (by rw [if_pos hk]; exact ⟨D, ho, F, nd, r, hl⟩)
    rw [decide_eq_true hk] at q
    exact q
  · refine add_x ho F hk hb ?_
    obtain ⟨r1, l1⟩ := add_more (h := hashStr w k) (v := .str k u) r
    have q := hQ (s.heap.update a fun _ => sObj "set" (addTx (hashStr w k) (.str k u) D)) (Heap.SameBut.update _ _ _) (by
      rw [if_neg hk]
      exact ⟨_, get_upd _ ho rfl, add_ok u F, List.nodup_cons.mpr ⟨hk, nd⟩, r1, hl.imp id fun z => by rw [l1]; exact z⟩)
    rw [decide_eq_false hk] at q
    exact q
theorem ts_new {h : Heap} (ho : h.get? a = some { cls := .type "set", dict := none, data := .set #[] 0 (.fresh 0 0 (!w.params.followText "set-order")) }) : TSet P w h a [] :=
  ⟨(#[], 0, .fresh 0 0 (!w.params.followText "set-order")), ho, TxOk.nil (by rfl), List.nodup_nil, List.Pairwise.nil, by
    show _ ∨ (!w.params.followText "set-order") = true
    cases w.params.followText "set-order"
    · exact .inr rfl
    · exact .inl rfl⟩
/-- the texts of ns that were met, each once -/
def met : List Str → List Str → List Str
  | acc, [] => acc
  | acc, k :: r => met (if k ∈ acc then acc else k :: acc) r
theorem met_snoc : ∀ (ns acc : List Str) (k : Str), met acc (ns ++ [k]) = if k ∈ met acc ns then met acc ns else k :: met acc ns
  | [], acc, k => rfl
  | x :: r, acc, k => met_snoc r _ k
theorem met_len : ∀ (ns acc : List Str), (met acc ns).length ≤ acc.length + ns.length
  | [], acc => Nat.le_refl _
  | x :: r, acc => by
    rw [met]
    by_cases hx : x ∈ acc
    · rw [if_pos hx]
      have := met_len r acc
      simp only [List.length_cons]; omega
    · rw [if_neg hx]
      have := met_len r (x :: acc)
      simp only [List.length_cons] at this ⊢; omega
theorem met_mem : ∀ (ns acc : List Str) (x : Str), x ∈ met acc ns ↔ x ∈ acc ∨ x ∈ ns
  | [], acc, x => by simp [met]
  | y :: r, acc, x => by
    rw [met, met_mem r]
    by_cases hy : y ∈ acc
    · rw [if_pos hy, List.mem_cons]
      constructor
      · rintro (h | h)
        · exact .inl h
        · exact .inr (.inr h)
      · rintro (h | rfl | h)
        · exact .inl h
        · exact .inl hy
        · exact .inr h
    · rw [if_neg hy, List.mem_cons, List.mem_cons]
      constructor
      · rintro ((h | h) | h)
        · exact .inr (.inl h)
        · exact .inl h
        · exact .inr (.inr h)
      · rintro (h | h | h)
        · exact .inl (.inr h)
        · exact .inl (.inl h)
        · exact .inr h
theorem set_update_texts {I : Addr} {fp wr : List Addr} {G : Array GenState → Array GenState → Prop} {n : Nat} {Pv : Nat → Value → Prop} {St : Nat → Shared → Prop} {R : Result → Shared → Prop} (W : WalksS P w A.in1 I fp wr G n Pv St)
    (S : Addr) (hSf : S ∉ fp) (ns : List Str) (hn : n = ns.length) (hb : ns.length + 1 < scanBound) (hval : ∀ i v, Pv i v → ∃ k t, ns[i]? = some k ∧ v = .str k t) : ∀ (k i : Nat) (s : Shared), n - i = k → i ≤ n → St i s → TSet P w s.heap S (met [] (ns.take i)) →
      (∀ s', Moved (S :: wr) G s s' → TSet P w s'.heap S (met [] ns) → R (.ok (.ret .none)) s') → codeAny (model P w) A (.builtin "set.update.loop" ⟨[.ref S, .ref I], []⟩) R s := by
  have out : S ∉ wr := fun h => hSf (W.sub _ h)
  have more : ∀ b ∈ wr, b ∈ S :: wr := fun b hb => List.mem_cons_of_mem _ hb
  intro k
  induction k with
  | zero =>
    intro i s hk' hi hst hS hR
    have hin : i = n := by omega
    subst hin
    refine codeAny_builtin F.entry_set_update_loop ?_
    rw [Around.under_plainId F.plain_set_update_loop _]
    show wpAny _ A.in1 (pyNext (.ref I) >>= _) _ _ s
    refine wpAny_bind (W.done s _ _ hst fun s' hm => ?_)
    show wpAny _ A.in1 (ret Value.none) _ _ s'
    rw [List.take_of_length_le (by omega)] at hS
    exact wpAny_pure (hR s' (hm.mono more) (hS.keep fun o e => hm.heap S o out e))
  | succ k ih =>
    intro i s hk' hi hst hS hR
    have hlt : i < n := by omega
    refine codeAny_builtin F.entry_set_update_loop ?_
    rw [Around.under_plainId F.plain_set_update_loop _]
    show wpAny _ A.in1 (pyNext (.ref I) >>= _) _ _ s
    refine wpAny_bind (W.item i s _ _ hlt hst fun v s' hP hst' hm => ?_)
    obtain ⟨z, t, hz, rfl⟩ := hval i v hP
    have hS' : TSet P w s'.heap S (met [] (ns.take i)) := hS.keep fun o e => hm.heap S o out e
    have hl := met_len (ns.take i) []
    have hl2 : (ns.take i).length ≤ ns.length := by rw [List.length_take]; omega
    show wpAny _ A.in1 (holding [Value.str z t] (setAdd S (.str z t)) >>= _) _ _ s'
    refine wpAny_bind (wpAny_holding ?_)
    unfold setAdd
    refine wpAny_holding (wpAny_bind ((strKind P w).pyHash (k := z) (is_str z t) ?_))
    refine ts_add (s := { s' with toks := s'.toks + 1 }) hS' (by simp only [List.length_nil] at hl; omega) fun h' hsb hS2 => ?_
    have hS3 : TSet P w h' S (met [] (ns.take (i + 1))) := by
      rw [List.take_add_one, hz]
      show TSet P w h' S (met [] (ns.take i ++ [z]))
      rw [met_snoc]
      exact hS2
    refine wpAny_pure ⟨plainId_quiet F.plain_set_update_loop _, ih (i + 1) _ (by omega) hlt (W.frame _ s' _ _ hst' (Nat.le_succ _) fun b hb o e => ?_) hS3 fun s'' hm'' hS'' => ?_⟩
    · rw [hsb.2 b (fun h : b = S => hSf (by rw [← h]; exact hb))]
      exact e
    · refine hR s'' (Moved.trans W.gtrans ((hm.mono more).then_heap (Nat.le_succ _) fun b o hb e => ?_) hm'') hS''
      rw [hsb.2 b (fun h : b = S => hb (by rw [h]; exact List.mem_cons_self))]
      exact e
/-- the set as it is laid: empty -/
abbrev emptyS (w : World) : Obj := { cls := .type "set", dict := none, data := .set #[] 0 (.fresh 0 0 (!w.params.followText "set-order")) }
set_option maxRecDepth 100000 in
set_option maxHeartbeats 3200000 in
theorem call_set_texts {l : Addr} {items : Array Value} (ns : List Str) {Q : Value → Shared → Prop} (hh : A.handled = none) (hl : s.heap.IsList l items) (hit : StrsAre items.toList ns) (hb : ns.length + 1 < scanBound)
    (h : ∀ (h' : Heap) (tk : Nat), TSet P w h' s.heap.objs.size (met [] ns) → (∀ b o, s.heap.get? b = some o → h'.get? b = some o) → Q (.ref s.heap.objs.size) { s with heap := h', toks := tk }) : wpAny (model P w) A (call (.type "set") [.ref l]) Q E s := by
  have hisz : items.size = ns.length := by
    have q := StrsAre.length hit
    rw [Array.length_toList] at q
    exact q
  obtain ⟨c, tl, hmro⟩ := F.called_set.mro
  have hmade := F.called_set.made
  have hsub := F.called_set.sub
  refine wpAny_call (codeAny_of_tree ?_)
  show wpAny _ _ (callAny (.type "set") _) _ _ _
  refine wpAny_pure ⟨Code.quiet_builtin _ (by decide +kernel), codeAny_builtin F.entry_type_call ?_⟩
  rw [Around.under_plain (weight_type_call_type "set" [.ref l] []) rfl]
  have h1 := F.called_set.notType
  have h2 := F.called_set.canCreate
  have hct := F.typeCall_set_1 (.ref l)
  repeat (any_goals (first | assumption | wp_step))
  refine codeAny_mono (code_set_led1 (.ref l) (E := E) (Q₁ := fun obj s₁ => obj = .ref s.heap.objs.size ∧ s₁ = { s with heap := s.heap.push (emptyS w) }) ⟨rfl, rfl⟩) fun r s₁ hr => ?_
  cases r with
  | error e => exact hr
  | ok fl =>
    cases fl with
    | ret obj =>
      obtain ⟨rfl, rfl⟩ := hr
      have hS : (s.heap.push (emptyS w)).get? s.heap.objs.size = some (emptyS w) := Heap.get?_push_size _ rfl
      have hT : Shared.TypeIs { s with heap := s.heap.push (emptyS w) } (.ref s.heap.objs.size) "set" := ⟨_, hS, rfl⟩
      have hli := F.called_set.init.lookup
      have hbi := F.called_set.init.bind (.ref s.heap.objs.size)
      repeat (any_goals (first | assumption | wp_step))
      refine codeAny_mono (codeAny_call_builtin (R := wants (fun r s₂ => r = .none ∧ ∃ h' tk, s₂ = { s with heap := h', toks := tk } ∧ TSet P w h' s.heap.objs.size (met [] ns) ∧ (∀ b o, s.heap.get? b = some o → h'.get? b = some o)) E)
        F.called_set.init.plain F.entry_set_init (check_set_init_1 hT ?_)) fun r₂ s₂ hr₂ => ?_
      · obtain ⟨ol, hol, hcl, nl, hdl⟩ := hl
        obtain ⟨ocls, odict, odata, oslots⟩ := ol
        simp only at hcl hdl
        subst hcl; subst hdl
        have hol' : (s.heap.push (emptyS w)).get? l = some { cls := .type "list", dict := odict, data := .seq items nl, slots := oslots } := Heap.get?_push_of_some _ hol
        have hsls := F.sub_list_set
        have hslf := F.sub_list_frozenset
        have hne : (Value.type "list" == Value.type "dict") = false := by decide
        have hl1 : (s.heap.push (emptyS w)).IsList l items := ⟨_, hol', rfl, nl, rfl⟩
        unfold Builtin.«set.__init__» noKeywords Builtin.Frozenset.updateFrom
        generalize hPI : pyIter = PI
        wp_walk
        subst hPI
        refine wpAny_pyIter_list hl1 ?_
        refine wpAny_bind (wpAny_runValue ?_)
        have hlS : l < s.heap.objs.size := Heap.lt_size hol
        have hh3 : A.in1.in1.in1.handled = none := by simp [hh]
        have hneI : l ≠ (s.heap.push (emptyS w)).objs.size := by
          rw [Heap.size_push]
          exact Nat.ne_of_lt (Nat.lt_succ_of_lt hlS)
        have hSf : s.heap.objs.size ∉ [(s.heap.push (emptyS w)).objs.size, l] := by
          rw [Heap.size_push]
          simp only [List.mem_cons, List.mem_singleton, List.not_mem_nil, or_false, not_or]
          exact ⟨Nat.ne_of_lt (Nat.lt_succ_self _), Nat.ne_of_gt hlS⟩
        have hval : ∀ (i : Nat) (v : Value), items[i]? = some v → ∃ k t, ns[i]? = some k ∧ v = .str k t := fun i v hv => by
          obtain ⟨y, t, e1, e2⟩ := StrsAre.item hit i v (by rw [Array.getElem?_toList]; exact hv)
          exact ⟨y, t, e2, e1⟩
        refine set_update_texts ((Walks.list hh3 _ l hneI items).toS) s.heap.objs.size hSf ns hisz hb hval (items.size - 0) 0 _ (by omega) (Nat.zero_le _) ⟨⟨_, Heap.get?_push_size _ rfl, rfl, rfl⟩, (hl1.push _)⟩ ?hS0 ?hR
        case hS0 =>
          exact ts_new (Heap.get?_push_of_some _ hS)
        case hR =>
          intro s' hm hS'
          obtain ⟨h', g2, d', tk', os'⟩ := s'
          have eg : g2 = s.gens := hm.gens
          have ed : d' = s.drawn := hm.drawn
          have eo : os' = s.os := hm.os
          subst eg; subst ed; subst eo
          show wpAny _ _ _ _ _ _
          refine wpAny_pure ?_
          show wpAny _ _ (ret Value.none) _ _ _
          refine wpAny_pure ⟨rfl, h', tk', rfl, hS', fun b o e => ?_⟩
          have hb0 : b < s.heap.objs.size := Heap.lt_size e
          refine hm.heap b o ?_ (Heap.get?_push_of_some _ (Heap.get?_push_of_some _ e))
          simp only [List.mem_cons, List.mem_singleton, List.not_mem_nil, or_false, not_or]
          refine ⟨Nat.ne_of_lt hb0, ?_⟩
          rw [Heap.size_push]
          exact Nat.ne_of_lt (Nat.lt_succ_of_lt hb0)
      · cases r₂ with
        | error e => exact hr₂
        | ok fl₂ =>
          cases fl₂ with
          | ret r =>
            obtain ⟨rfl, h', tk, rfl, hS', hk'⟩ := hr₂
            repeat (any_goals (first | assumption | wp_step))
            exact h _ _ hS' hk'
          | _ => exact hr₂.elim
    | _ => exact hr.elim
theorem small_scan {n : Nat} (h : n ≤ 1000) : n + 1 < scanBound := by
  have : (1002 : Nat) < scanBound := by decide
  omega
/-! ### the rules -/
def TxO (P : Program) (w : World) (a : Addr) (l : List Str) : HO := .ext fun h => TSet P w h a l
theorem txO_new {H : Hp} {h : Heap} {l : List Str} (R : TSet P w h a l) : ObjOk P w H h a (TxO P w a l) := by
  have ⟨D, ho, _⟩ := R
  exact ⟨R, ⟨_, ho⟩, fun h1 h2 p k => TSet.keep p k⟩
section
variable {X : Cx}
/-- set(xs), xs a list of texts -/
def rSetTx (K : PySem.W.Frag) (P : Program) (w : World) : List V → Hp → VK → Prop := fun xs H Q => ∃ (p : Addr) (ns : List Str), xs = [V.ref p] ∧ SqL K H p (ns.map V.str) ∧ ns.length ≤ 1000 ∧ ∀ q, H q = none → Q (.ref q) (upd H q (TxO P w q (met [] ns)))
theorem cr_setTx (hc : X.calm = true) : CallR X (.type "set") (rSetTx X.K X.prog X.w) := by
  intro pins s σ H xs us Q I r h
  obtain ⟨p, ns, rfl, hs, hn, q⟩ := h
  rw [Vals.ref1 r]
  obtain ⟨its, rv, ⟨o, n, ho, h1, h2, h3⟩, hz⟩ := I.list hs
  have sa : StrsAre its ns := strs_of_vals rv
  refine call_set_texts ns (I.ok.hd hc) (items := its.toArray) ⟨o, ho, h1, n, h3⟩ (by simpa using sa) (small_scan hn) fun h' tk hT hk => ?_
  exact ⟨.ref _, upd H s.heap.objs.size (TxO X.prog X.w s.heap.objs.size (met [] ns)), I.laid (t' := tk) hk (Nat.le_refl _) (txO_new hT), rfl, q _ (I.hok.fresh (Nat.le_refl _))⟩
theorem perm_of_sub {α : Type} : ∀ {l m : List α}, l.Nodup → (∀ x ∈ l, x ∈ m) → m.length = l.length → m.Perm l
  | [], m, _, _, h => by rw [List.eq_nil_of_length_eq_zero h]
  | x :: r, m, nd, sub, h => by
    obtain ⟨a, b, e⟩ := List.append_of_mem (sub x (by simp))
    have nd' := List.nodup_cons.mp nd
    subst e
    refine List.perm_middle.trans (List.Perm.cons x (perm_of_sub nd'.2 (fun y hy => ?_) ?_))
    · have := sub y (List.mem_cons_of_mem _ hy)
      rw [List.mem_append, List.mem_cons] at this
      rw [List.mem_append]
      rcases this with z | z | z
      · exact .inl z
      · subst z; exact absurd hy nd'.1
      · exact .inr z
    · simp only [List.length_append, List.length_cons] at h ⊢
      omega
/-- the texts that a set gives, in its own order -/
theorem texts_of {D : SD} {l : List Str} (F : TxOk P w D l) (nd : l.Nodup) {vs : List Value} (pm : vs.Perm (D.1.toList.map (·.2))) : ∃ ks, StrsAre vs ks ∧ ks.Perm l := by
  have each : ∀ v ∈ vs, ∃ (x : Str) (t : Tok), v = .str x t := fun v hv => by
    obtain ⟨e, he, q⟩ := List.mem_map.mp (pm.mem_iff.mp hv)
    obtain ⟨⟨k, hk, _⟩, _⟩ := F.el e he
    obtain ⟨t, ev⟩ := Value.isStrOf_shape (x := k) (v := e.2) hk
    exact ⟨k, t, by rw [← q]; exact ev⟩
  have ex : ∀ vs : List Value, (∀ v ∈ vs, ∃ (x : Str) (t : Tok), v = .str x t) → ∃ ks : List Str, StrsAre vs ks ∧ ks.length = vs.length ∧ ∀ x, x ∈ ks ↔ ∃ t, Value.str x t ∈ vs := by
    intro vs
    induction vs with
    | nil => exact fun _ => ⟨[], .nil, rfl, fun x => by simp⟩
    | cons v r ih =>
      intro hv
      obtain ⟨x, t, e⟩ := hv v (by simp)
      obtain ⟨ks, h1, h2, h3⟩ := ih fun u hu => hv u (List.mem_cons_of_mem _ hu)
      subst e
      refine ⟨x :: ks, .cons _ _ h1, by simp [h2], fun y => ?_⟩
      rw [List.mem_cons, h3]
      constructor
      · rintro (rfl | ⟨u, hu⟩)
        · exact ⟨t, by simp⟩
        · exact ⟨u, List.mem_cons_of_mem _ hu⟩
      · rintro ⟨u, hu⟩
        rcases List.mem_cons.mp hu with z | z
        · cases z; exact .inl rfl
        · exact .inr ⟨u, z⟩
  obtain ⟨ks, h1, h2, h3⟩ := ex vs each
  refine ⟨ks, h1, perm_of_sub nd (fun x hx => ?_) ?_⟩
  · obtain ⟨e, he, z⟩ := (F.mem x).mp hx
    obtain ⟨t, ev⟩ := Value.isStrOf_shape (x := x) (v := e.2) z
    exact (h3 x).mpr ⟨t, pm.mem_iff.mpr (by rw [← ev]; exact List.mem_map.mpr ⟨e, he, rfl⟩)⟩
  · rw [h2, pm.length_eq, List.length_map, Array.length_toList, F.sz]
/-- sorted(s), s a set of fewer than 64 texts -/
def rSortedTx (P : Program) (w : World) : List V → Hp → VK → Prop := fun vs H Q => ∃ (a : Addr) (l : List Str), vs = [V.ref a] ∧ H a = some (TxO P w a l) ∧ l.length < 64 ∧ ∀ ys p, ys.Perm l → sortedS ys = true → H p = none → Q (.ref p) (upd H p (.lst (ys.map V.str)))
theorem cr_sortedTx (hc : X.calm = true) : CallR X (.builtin "sorted") (rSortedTx X.prog X.w) := by
  intro pins s σ H vs us Q I r h
  obtain ⟨a, l, rfl, ha, h64, q⟩ := h
  obtain ⟨D, ho, F, nd, rs, hl⟩ : TSet X.prog X.w s.heap a l := (I.hok a _ ha).1
  rw [Vals.ref1 r]
  refine Calls.call_function_entry PyProof.Rows.kind_sorted PyProof.Rows.plain_sorted PyProof.Rows.entry_sorted (PyProof.Rows.args_sorted1 _) ?_
  unfold Builtin.«sorted»
  refine wpAny_bind (m := checkCount "sorted" 1 1 _) (wpAny_pure ?_)
  have hsz : D.1.size = l.length := F.sz
  refine wpAny_bind (collect_set (A := X.A.in1) (es := D.1) (ep := D.2.1) (t := D.2.2) (I.ok.hd hc) ⟨_, ho, rfl, rfl⟩ F.fit (by have := small_scan (n := D.1.size) (by omega); omega) rs hl fun s1 vs k1 hz g1 o1 pm => ?_)
  obtain ⟨ks, hS, pk⟩ := texts_of F nd pm
  have hvl : vs.length = l.length := by rw [pm.length_eq, List.length_map, Array.length_toList, hsz]
  refine wpAny_bind (wpAny_newList ?_ (by rw [hvl, sizeLine_eq]; omega))
  have hoL : (s1.heap.push (seqObj "list" vs.toArray 0)).get? s1.heap.objs.size = some (seqObj "list" vs.toArray 0) := Heap.get?_push_size _ rfl
  refine wpAny_bind (wpAny_holding (wpAny_call_entry PyProof.Rows.slot_list_sort ⟨_, hoL, rfl⟩ PyProof.Rows.entry_list_sort
    (list_sort_treeK strKind_oneLt (s := { s1 with heap := s1.heap.push (seqObj "list" vs.toArray 0) }) hoL hS.keysOf (fun v₁ v₂ rest e => keyKind_strs (by rw [← e]; exact hS)) (by rw [hvl]; exact h64) fun st' hp hs => ⟨_, rfl, ?_⟩) (PyProof.Rows.args_list_sort _)))
  obtain ⟨ys, y1, y2, y3⟩ := sorted_out_str hS hp hs
  obtain ⟨e', he'⟩ := PyProof.Rows.sortedHeap_at (vs := vs) (out := (arrOf st').map (·.2)) hoL
  have yl : ys.Perm l := y2.trans pk
  have hlen : (ys.map V.str).length ≤ sizeLine := by
    rw [List.length_map, yl.length_eq, sizeLine_eq]
    omega
  have hn : H s1.heap.objs.size = none := I.hok.fresh hz
  have kk : ∀ b u, s.heap.get? b = some u → (sortedHeap (s1.heap.push (seqObj "list" vs.toArray 0)) s1.heap.objs.size vs ((arrOf st').map (·.2))).get? b = some u := fun b u e => by
    have e1 := k1 b u e
    have hb := Heap.lt_size e1
    rw [PyProof.Rows.sortedHeap_old (Nat.ne_of_lt hb) (by rw [size_push']; exact Nat.lt_succ_of_lt hb)]
    exact Heap.get?_push_of_some _ e1
  have J : Inv X pins σ (upd H s1.heap.objs.size (.lst (ys.map V.str))) { s with heap := sortedHeap (s1.heap.push (seqObj "list" vs.toArray 0)) s1.heap.objs.size vs ((arrOf st').map (·.2)), gens := s1.gens, drawn := s1.drawn, toks := s1.toks } :=
    I.call (ch := []) (Un.laid kk hz hn) (I.hok.laid kk hz ⟨hlen, ((arrOf st').map (·.2)).toList, e', vals_of_strs y1, by rw [Array.toArray_toList]; exact he'⟩) (by rw [g1]; exact I.bare) (fun _ z => nomatch z)
  refine wpAny_pure ⟨_, rfl, .ref s1.heap.objs.size, _, ?_, rfl, q ys _ yl y3 hn⟩
  have e : ({ s1 with heap := sortedHeap (s1.heap.push (seqObj "list" vs.toArray 0)) s1.heap.objs.size vs ((arrOf st').map (·.2)) } : Shared) = { s with heap := sortedHeap (s1.heap.push (seqObj "list" vs.toArray 0)) s1.heap.objs.size vs ((arrOf st').map (·.2)), gens := s1.gens, drawn := s1.drawn, toks := s1.toks } := by
    obtain ⟨a1, a2, a3, a4, a5⟩ := s1
    obtain ⟨b1, b2, b3, b4, b5⟩ := s
    have o1 : a5 = b5 := o1
    subst o1
    rfl
  exact e ▸ J
end
end FA

set_option Elab.async false
set_option linter.all false
set_option maxRecDepth 100000
set_option maxHeartbeats 4000000
/-! The text of the law and the program, by places. -/
namespace K02
open PySem PySem.Spec PyProof.Rows L2 FA
def top (i : Nat) : Stmt := PySem.Challenge.pw_stacksamples_k02_callees_and_reached_fun.main.body.getD i (.Pass ⟨0, 0, 0, 0⟩)
abbrev sBodiesWithin : Stmt := top 1
theorem scBodiesWithin : FnScope ["item"] ["item"] (defScope sBodiesWithin) := ⟨rfl, rfl, rfl, by decide +kernel, rfl, by decide +kernel, by decide +kernel⟩
abbrev sNamesIn : Stmt := top 2
theorem scNamesIn : FnScope ["body", "found", "item", "inner"] ["body"] (defScope sNamesIn) := ⟨rfl, rfl, rfl, by decide +kernel, rfl, by decide +kernel, by decide +kernel⟩
abbrev sIsName : Stmt := top 16
theorem scIsName : FnScope ["value", "letter"] ["value"] (defScope sIsName) := ⟨rfl, rfl, rfl, by decide +kernel, rfl, by decide +kernel, by decide +kernel⟩
abbrev sIsFunction : Stmt := top 17
theorem scIsFunction : FnScope ["program", "value"] ["program", "value"] (defScope sIsFunction) := ⟨rfl, rfl, rfl, by decide +kernel, rfl, by decide +kernel, by decide +kernel⟩
abbrev sChoices : Stmt := top 18
theorem scChoices : FnScope ["item", "kind", "within"] ["item"] (defScope sChoices) := ⟨rfl, rfl, rfl, by decide +kernel, rfl, by decide +kernel, by decide +kernel⟩
abbrev sItemSize : Stmt := top 19
theorem scItemSize : FnScope ["program", "item", "level", "choices", "sizes", "body", "calls", "_", "items"] ["program", "item", "level"] (defScope sItemSize) := ⟨rfl, rfl, rfl, by decide +kernel, rfl, by decide +kernel, by decide +kernel⟩
abbrev sBodySize : Stmt := top 20
theorem scBodySize : FnScope ["program", "body", "level", "calls", "items", "item", "size"] ["program", "body", "level"] (defScope sBodySize) := ⟨rfl, rfl, rfl, by decide +kernel, rfl, by decide +kernel, by decide +kernel⟩
abbrev sLeastInItem : Stmt := top 21
theorem scLeastInItem : FnScope ["least", "item", "body"] ["least", "item"] (defScope sLeastInItem) := ⟨rfl, rfl, rfl, by decide +kernel, rfl, by decide +kernel, by decide +kernel⟩
abbrev sLeastInBody : Stmt := top 22
theorem scLeastInBody : FnScope ["least", "body", "item"] ["least", "body"] (defScope sLeastInBody) := ⟨rfl, rfl, rfl, by decide +kernel, rfl, by decide +kernel, by decide +kernel⟩
abbrev sLeastCalls : Stmt := top 23
theorem scLeastCalls : FnScope ["program", "too_many", "least", "_", "name"] ["program"] (defScope sLeastCalls) := ⟨rfl, rfl, rfl, by decide +kernel, rfl, by decide +kernel, by decide +kernel⟩
abbrev sIsProgram : Stmt := top 24
theorem scIsProgram : FnScope ["value", "least", "name"] ["value"] (defScope sIsProgram) := ⟨rfl, rfl, rfl, by decide +kernel, rfl, by decide +kernel, by decide +kernel⟩
abbrev sCheckProgram : Stmt := top 25
theorem scCheckProgram : FnScope ["program"] ["program"] (defScope sCheckProgram) := ⟨rfl, rfl, rfl, by decide +kernel, rfl, by decide +kernel, by decide +kernel⟩
abbrev sCheckName : Stmt := top 26
theorem scCheckName : FnScope ["program", "name"] ["program", "name"] (defScope sCheckName) := ⟨rfl, rfl, rfl, by decide +kernel, rfl, by decide +kernel, by decide +kernel⟩
abbrev sCallees : Stmt := top 27
theorem scCallees : FnScope ["program", "name"] ["program", "name"] (defScope sCallees) := ⟨rfl, rfl, rfl, by decide +kernel, rfl, by decide +kernel, by decide +kernel⟩
abbrev sReached : Stmt := top 28
theorem scReached : FnScope ["program", "found", "waiting", "caller", "name"] ["program"] (defScope sReached) := ⟨rfl, rfl, rfl, by decide +kernel, rfl, by decide +kernel, by decide +kernel⟩
abbrev sLWell : Stmt := top 30
theorem scLWell : FnScope ["script", "k", "cell"] ["script", "k"] (defScope sLWell) := ⟨rfl, rfl, rfl, by decide +kernel, rfl, by decide +kernel, by decide +kernel⟩
abbrev sLPull : Stmt := top 31
theorem scLPull : FnScope ["well", "many", "mixed", "pulled"] ["well", "many"] (defScope sLPull) := ⟨rfl, rfl, rfl, by decide +kernel, rfl, by decide +kernel, by decide +kernel⟩
abbrev sLShuffled : Stmt := top 32
theorem scLShuffled : FnScope ["well", "items", "left", "turn"] ["well", "items"] (defScope sLShuffled) := ⟨rfl, rfl, rfl, by decide +kernel, rfl, by decide +kernel, by decide +kernel⟩
abbrev sLItem : Stmt := top 33
theorem scLItem : FnScope ["well", "later", "every", "room", "deep", "way", "bodies", "some", "spot", "inner", "turn"] ["well", "later", "every", "room", "deep"] (defScope sLItem) := ⟨rfl, rfl, rfl, by decide +kernel, rfl, by decide +kernel, by decide +kernel⟩
abbrev sLBody : Stmt := top 34
theorem scLBody : FnScope ["well", "later", "every", "room", "deep", "body", "turn", "item"] ["well", "later", "every", "room", "deep"] (defScope sLBody) := ⟨rfl, rfl, rfl, by decide +kernel, rfl, by decide +kernel, by decide +kernel⟩
abbrev sLCost : Stmt := top 35
theorem scLCost : FnScope ["body", "least", "found", "item", "inner"] ["body", "least"] (defScope sLCost) := ⟨rfl, rfl, rfl, by decide +kernel, rfl, by decide +kernel, by decide +kernel⟩
abbrev sLProgram : Stmt := top 36
theorem scLProgram : FnScope ["well", "most", "some", "others", "spot", "order", "least", "rows", "body"] ["well", "most"] (defScope sLProgram) := ⟨rfl, rfl, rfl, by decide +kernel, rfl, by decide +kernel, by decide +kernel⟩
abbrev sLNames : Stmt := top 37
theorem scLNames : FnScope ["body", "found", "item", "inner"] ["body"] (defScope sLNames) := ⟨rfl, rfl, rfl, by decide +kernel, rfl, by decide +kernel, by decide +kernel⟩
abbrev sLLed : Stmt := top 38
theorem scLLed : FnScope ["program", "found", "turn", "name", "one"] ["program"] (defScope sLLed) := ⟨rfl, rfl, rfl, by decide +kernel, rfl, by decide +kernel, by decide +kernel⟩
abbrev sLRight : Stmt := top 39
theorem scLRight : FnScope ["program", "kept", "turn", "told", "name"] ["program"] (defScope sLRight) := ⟨rfl, rfl, rfl, by decide +kernel, rfl, by decide +kernel, by decide +kernel⟩
abbrev sLaw : Stmt := top 40
theorem scLaw : FnScope ["script", "k", "program", "told", "well", "turn", "other", "body", "name"] ["script"] (defScope sLaw) := ⟨rfl, rfl, rfl, by decide +kernel, rfl, by decide +kernel, by decide +kernel⟩
/-- what the top has left: the defs, the constants, and that the built-in names are the built-in ones -/
structure Txt (K : PySem.W.Frag) (mg : Str → Option Value) where
  aBodiesWithin : Addr
  fBodiesWithin : FuncData
  FBodiesWithin : Fun K "bodies_within" "bodies_within" sBodiesWithin aBodiesWithin fBodiesWithin
  bBodiesWithin : Binds K fBodiesWithin ["item"] []
  gBodiesWithin : mg "bodies_within" = some (.ref aBodiesWithin)
  aNamesIn : Addr
  fNamesIn : FuncData
  FNamesIn : Fun K "names_in" "names_in" sNamesIn aNamesIn fNamesIn
  bNamesIn : Binds K fNamesIn ["body"] []
  gNamesIn : mg "names_in" = some (.ref aNamesIn)
  aIsName : Addr
  fIsName : FuncData
  FIsName : Fun K "is_name" "is_name" sIsName aIsName fIsName
  bIsName : Binds K fIsName ["value"] []
  gIsName : mg "is_name" = some (.ref aIsName)
  aIsFunction : Addr
  fIsFunction : FuncData
  FIsFunction : Fun K "is_function" "is_function" sIsFunction aIsFunction fIsFunction
  bIsFunction : Binds K fIsFunction ["program", "value"] []
  gIsFunction : mg "is_function" = some (.ref aIsFunction)
  aChoices : Addr
  fChoices : FuncData
  FChoices : Fun K "_choices" "_choices" sChoices aChoices fChoices
  bChoices : Binds K fChoices ["item"] []
  gChoices : mg "_choices" = some (.ref aChoices)
  aItemSize : Addr
  fItemSize : FuncData
  FItemSize : Fun K "_item_size" "_item_size" sItemSize aItemSize fItemSize
  bItemSize : Binds K fItemSize ["program", "item", "level"] []
  gItemSize : mg "_item_size" = some (.ref aItemSize)
  aBodySize : Addr
  fBodySize : FuncData
  FBodySize : Fun K "_body_size" "_body_size" sBodySize aBodySize fBodySize
  bBodySize : Binds K fBodySize ["program", "body", "level"] []
  gBodySize : mg "_body_size" = some (.ref aBodySize)
  aLeastInItem : Addr
  fLeastInItem : FuncData
  FLeastInItem : Fun K "_least_in_item" "_least_in_item" sLeastInItem aLeastInItem fLeastInItem
  bLeastInItem : Binds K fLeastInItem ["least", "item"] []
  gLeastInItem : mg "_least_in_item" = some (.ref aLeastInItem)
  aLeastInBody : Addr
  fLeastInBody : FuncData
  FLeastInBody : Fun K "_least_in_body" "_least_in_body" sLeastInBody aLeastInBody fLeastInBody
  bLeastInBody : Binds K fLeastInBody ["least", "body"] []
  gLeastInBody : mg "_least_in_body" = some (.ref aLeastInBody)
  aLeastCalls : Addr
  fLeastCalls : FuncData
  FLeastCalls : Fun K "_least_calls" "_least_calls" sLeastCalls aLeastCalls fLeastCalls
  bLeastCalls : Binds K fLeastCalls ["program"] []
  gLeastCalls : mg "_least_calls" = some (.ref aLeastCalls)
  aIsProgram : Addr
  fIsProgram : FuncData
  FIsProgram : Fun K "is_program" "is_program" sIsProgram aIsProgram fIsProgram
  bIsProgram : Binds K fIsProgram ["value"] []
  gIsProgram : mg "is_program" = some (.ref aIsProgram)
  aCheckProgram : Addr
  fCheckProgram : FuncData
  FCheckProgram : Fun K "check_program" "check_program" sCheckProgram aCheckProgram fCheckProgram
  bCheckProgram : Binds K fCheckProgram ["program"] []
  gCheckProgram : mg "check_program" = some (.ref aCheckProgram)
  aCheckName : Addr
  fCheckName : FuncData
  FCheckName : Fun K "check_name" "check_name" sCheckName aCheckName fCheckName
  bCheckName : Binds K fCheckName ["program", "name"] []
  gCheckName : mg "check_name" = some (.ref aCheckName)
  aCallees : Addr
  fCallees : FuncData
  FCallees : Fun K "callees" "callees" sCallees aCallees fCallees
  bCallees : Binds K fCallees ["program", "name"] []
  gCallees : mg "callees" = some (.ref aCallees)
  aReached : Addr
  fReached : FuncData
  FReached : Fun K "reached" "reached" sReached aReached fReached
  bReached : Binds K fReached ["program"] []
  gReached : mg "reached" = some (.ref aReached)
  aLWell : Addr
  fLWell : FuncData
  FLWell : Fun K "_law_well" "_law_well" sLWell aLWell fLWell
  bLWell : Binds K fLWell ["script", "k"] []
  gLWell : mg "_law_well" = some (.ref aLWell)
  aLPull : Addr
  fLPull : FuncData
  FLPull : Fun K "_law_pull" "_law_pull" sLPull aLPull fLPull
  bLPull : Binds K fLPull ["well", "many"] []
  gLPull : mg "_law_pull" = some (.ref aLPull)
  aLShuffled : Addr
  fLShuffled : FuncData
  FLShuffled : Fun K "_law_shuffled" "_law_shuffled" sLShuffled aLShuffled fLShuffled
  bLShuffled : Binds K fLShuffled ["well", "items"] []
  gLShuffled : mg "_law_shuffled" = some (.ref aLShuffled)
  aLItem : Addr
  fLItem : FuncData
  FLItem : Fun K "_law_item" "_law_item" sLItem aLItem fLItem
  bLItem : Binds K fLItem ["well", "later", "every", "room", "deep"] []
  gLItem : mg "_law_item" = some (.ref aLItem)
  aLBody : Addr
  fLBody : FuncData
  FLBody : Fun K "_law_body" "_law_body" sLBody aLBody fLBody
  bLBody : Binds K fLBody ["well", "later", "every", "room", "deep"] []
  gLBody : mg "_law_body" = some (.ref aLBody)
  aLCost : Addr
  fLCost : FuncData
  FLCost : Fun K "_law_cost" "_law_cost" sLCost aLCost fLCost
  bLCost : Binds K fLCost ["body", "least"] []
  gLCost : mg "_law_cost" = some (.ref aLCost)
  aLProgram : Addr
  fLProgram : FuncData
  FLProgram : Fun K "_law_program" "_law_program" sLProgram aLProgram fLProgram
  bLProgram : Binds K fLProgram ["well", "most"] []
  gLProgram : mg "_law_program" = some (.ref aLProgram)
  aLNames : Addr
  fLNames : FuncData
  FLNames : Fun K "_law_names" "_law_names" sLNames aLNames fLNames
  bLNames : Binds K fLNames ["body"] []
  gLNames : mg "_law_names" = some (.ref aLNames)
  aLLed : Addr
  fLLed : FuncData
  FLLed : Fun K "_law_led" "_law_led" sLLed aLLed fLLed
  bLLed : Binds K fLLed ["program"] []
  gLLed : mg "_law_led" = some (.ref aLLed)
  aLRight : Addr
  fLRight : FuncData
  FLRight : Fun K "_law_right" "_law_right" sLRight aLRight fLRight
  bLRight : Binds K fLRight ["program"] []
  gLRight : mg "_law_right" = some (.ref aLRight)
  aLaw : Addr
  fLaw : FuncData
  FLaw : Fun K "law" "law" sLaw aLaw fLaw
  bLaw : Binds K fLaw ["script"] []
  gLaw : mg "law" = some (.ref aLaw)
  n_all : mg "all" = none
  n_dict : mg "dict" = none
  n_int : mg "int" = none
  n_isinstance : mg "isinstance" = none
  n_len : mg "len" = none
  n_list : mg "list" = none
  n_max : mg "max" = none
  n_min : mg "min" = none
  n_range : mg "range" = none
  n_repr : mg "repr" = none
  n_set : mg "set" = none
  n_sorted : mg "sorted" = none
  n_str : mg "str" = none
  n_sum : mg "sum" = none
  n_tuple : mg "tuple" = none
  t_FEWEST_CHOICES : Tok
  c_FEWEST_CHOICES : mg "FEWEST_CHOICES" = some (.int 2 t_FEWEST_CHOICES)
  t_MOST_CALLS : Tok
  c_MOST_CALLS : mg "MOST_CALLS" = some (.int 5 t_MOST_CALLS)
  t_MOST_CALLS_TO_RETURN : Tok
  c_MOST_CALLS_TO_RETURN : mg "MOST_CALLS_TO_RETURN" = some (.int 12 t_MOST_CALLS_TO_RETURN)
  t_MOST_CHOICES : Tok
  c_MOST_CHOICES : mg "MOST_CHOICES" = some (.int 4 t_MOST_CHOICES)
  t_MOST_FUNCTIONS : Tok
  c_MOST_FUNCTIONS : mg "MOST_FUNCTIONS" = some (.int 6 t_MOST_FUNCTIONS)
  t_MOST_ITEMS : Tok
  c_MOST_ITEMS : mg "MOST_ITEMS" = some (.int 12 t_MOST_ITEMS)
  t_MOST_LETTERS : Tok
  c_MOST_LETTERS : mg "MOST_LETTERS" = some (.int 8 t_MOST_LETTERS)
  t_MOST_LEVELS : Tok
  c_MOST_LEVELS : mg "MOST_LEVELS" = some (.int 4 t_MOST_LEVELS)
end K02


set_option Elab.async false
set_option linter.all false
set_option maxRecDepth 100000
set_option maxHeartbeats 4000000
namespace K02
open PySem PySem.Spec PyProof.Rows L2 FA
variable {P : Program} {w : World} {K : PySem.W.Frag} {mg : Str → Option Value} {base : Heap}

theorem not_lt1 {a b : Nat} (h : b ≤ a) : ¬ [a] < [b] := fun z => by
  cases z with
  | rel z => omega
  | cons z => cases z
def spIsName : Sp := fun vs H Q _ => ∃ x : Str, vs = [.str x] ∧ okName x ∧ ∀ H', Same H H' → Q (.bl true) H'
theorem okIsName (T : Txt K mg) : FnOk P w K mg base CX0 1 T.aIsName T.fIsName ["value"] spIsName := by
  refine T.FIsName.ok scIsName (fun vs H Q E h => ?_) (fun cdv A outer s H vs Q E hr h => ?_)
  · obtain ⟨x, rfl, _⟩ := h
    rfl
  obtain ⟨x, rfl, ⟨h1, h2, h3⟩, q⟩ := h
  have hu := hu_of hr
  have hs := sizeLine_eq
  refine ⟨_, (pss_cons (ps_if (PW.pt (pw_or (pt_not (pt_val (pe_callB call_isi (by rfl) T.n_isinstance (by decide +kernel) (pa_cons (pv 0) (pa_cons (pe_bltn (v := .ty "str") (by rfl) T.n_str (by decide +kernel) rfl) pa_nil))))) (pw_or1 (pt_not (pt_chain op_le op_le pe_int (pe_callB call_len_str (by rfl) T.n_len PySem.boot_len (pa_cons (pv 0) pa_nil)) (pe_glob (v := .int 8) rfl T.c_MOST_LETTERS ⟨_, rfl⟩))))))
        (pss_one (ps_ret pe_bl)) pss_nil)
      (pss_one (ps_ret (pe_callB (cr_all rfl) (by rfl) T.n_all (by decide +kernel) (pa_cons (pe_lc (own := [("letter", 1)]) (g := gName 1) (tt := tYes) rfl scIsName.nd (pi_str (pv 0)) (blkOk_by (N := ["value", "letter"]) (sc := defScope sIsName) (by decide +kernel)) (fun _ _ _ _ _ => (pg_name (i := 1) scIsName.nd rfl (by first | exact Or.inl rfl | exact Or.inr rfl))) (fun _ _ _ _ _ => pts_nil) (fun _ _ _ _ _ => (pe_chain op_le_str op_le_str pe_str (pv 1) pe_str))) pa_nil))))), ?_⟩
  refine ⟨_, rfl, _, _, _, _, true, rfl, .ty _, ty_str x, kit_ty (by decide +kernel), _, rfl, iteF ?_⟩
  refine ⟨_, rfl, _, rfl, by omega, _, _, rfl, rfl, _, rfl, ?_⟩
  refine ite2 (fun c => ?_) (fun c => absurd (decide_eq_true (by omega)) c)
  refine ⟨_, _, rfl, rfl, _, rfl, ?_⟩
  refine ite2 (fun c => absurd (c.symm.trans (congrArg not (decide_eq_true (by omega)))) (by decide)) (fun c => ?_)
  refine ⟨_, rfl, _, rfl, fun D hD => lcS (n := x.cps.size) hD (by show x.cps.size < _; have : x.cps.size = x.length := rfl; omega) (fun i v => ∃ c, x.cps[i]? = some c ∧ v = .str ⟨#[c]⟩) (fun _ v _ => v = .bl true) go_s stop_s yld_s (fun _ _ _ _ _ e => e) ?_ ?_⟩
  · rintro i _ H1 R hi ⟨c, hc, rfl⟩ sm k
    have hc' := h3 c (by
      rw [← Array.getElem?_toList] at hc
      exact List.mem_of_getElem? hc)
    refine ⟨rfl, _, rfl, _, _, rfl, rfl, _, rfl, ?_⟩
    have e1 : (!decide ([c] < ("a" : Str).cps.toList)) = true := by
      have : ("a" : Str).cps.toList = [97] := by decide +kernel
      rw [this, decide_eq_false (not_lt1 hc'.1)]
      rfl
    have e2 : (!decide (("z" : Str).cps.toList < [c])) = true := by
      have : ("z" : Str).cps.toList = [122] := by decide +kernel
      rw [this, decide_eq_false (not_lt1 hc'.2)]
      rfl
    refine ite2 (fun _ => ⟨_, _, rfl, rfl, ?_⟩) (fun n => absurd e1 n)
    rw [e2]
    exact k _ _ (Same.refl _) rfl
  · intro H1 ys sm hy hl hg
    have ey : ys = (List.replicate x.cps.size true).map V.bl := by
      refine List.ext_getElem? fun j => ?_
      rw [List.map_replicate, List.getElem?_replicate]
      by_cases hj : j < ys.length
      · have := hg j ys[j] (List.getElem?_eq_getElem hj)
        rw [List.getElem?_eq_getElem hj, this, if_pos (by omega)]
      · rw [List.getElem?_eq_none (by omega), if_neg (by omega)]
    refine ⟨D, _, rfl, SqL.of (by rw [hy, ey]), ?_⟩
    have e : ((List.replicate x.cps.size true).all id) = true := by simp
    rw [e]
    exact q H1 sm
end K02


set_option Elab.async false
set_option linter.all false
set_option maxRecDepth 100000
set_option maxHeartbeats 4000000
namespace K02
open PySem PySem.Spec PyProof.Rows L2 FA
variable {P : Program} {w : World} {K : PySem.W.Frag} {mg : Str → Option Value} {base : Heap}
/-- the bodies within an item -/
def subs : FA.It → List (List FA.It)
  | .call _ => []
  | .may b => [b]
  | .loop b => [b]
  | .one bs => bs
def spChoices : Sp := fun vs H Q _ => ∃ (v : V) (it : FA.It) (ns : List Str), vs = [v] ∧ ItAt H v it ∧ (∀ x, it ≠ .call x) ∧ okI ns it ∧ (∀ x ∈ ns, FA.okName x) ∧ dI it ≤ 6 ∧
  ∀ c ws H', Same H H' → H' c = some (.lst ws) → BdsAt H' ws (subs it) → Q (.ref c) H'
theorem okChoices (T : Txt K mg) : FnOk P w K mg base CX0 1 T.aChoices T.fChoices ["item"] spChoices := by
  refine T.FChoices.ok scChoices (fun vs H Q E h => ?_) (fun cdv A outer s H vs Q E hr h => ?_)
  · obtain ⟨v, it, ns, rfl, _⟩ := h
    rfl
  obtain ⟨v, it, ns, rfl, hI, hc, hok, hns, hd, q⟩ := h
  have hu := hu_of hr
  have hu65 := hu65_of hr
  refine ⟨_, (pss_cons (ps_if (PW.pt (pw_or (pt_not (pt_val (pe_callB call_isi (by rfl) T.n_isinstance (by decide +kernel) (pa_cons (pv 0) (pa_cons (pe_bltn (v := .ty "tuple") (by rfl) T.n_tuple (by decide +kernel) rfl) pa_nil))))) (pw_or (pt_cmpR op_ne (pe_callB call_len_seq (by rfl) T.n_len PySem.boot_len (pa_cons (pv 0) pa_nil)) pe_int (nomark _)) (pw_or1 (pt_not (pt_val (pe_callB call_isi (by rfl) T.n_isinstance (by decide +kernel) (pa_cons (pe_ix ix_tup (pv 0) pe_int (fun _ _ => rfl)) (pa_cons (pe_bltn (v := .ty "list") (by rfl) T.n_list (by decide +kernel) rfl) pa_nil)))))))))
        (pss_one (ps_ret pe_non)) pss_nil)
      (pss_cons (ps_asg (pv 0) (pg_tup rfl (pgs_cons (pg_name (i := 1) scChoices.nd rfl (by first | exact Or.inl rfl | exact Or.inr rfl)) (pgs_cons (pg_name (i := 2) scChoices.nd rfl (by first | exact Or.inl rfl | exact Or.inr rfl)) pgs_nil))))
      (pss_cons (ps_if (PW.pt (pw_or (pt_cmpR op_eq (pv 1) pe_str (nomark _)) (pw_or1 (pt_cmpR op_eq (pv 1) pe_str (nomark _)))))
        (pss_one (ps_ret (pe_ifExp (pt_truth (pv 2) (by intro _; rfl)) (pe_lst (pa_cons (pv 2) pa_nil)) pe_non))) pss_nil)
      (pss_cons (ps_if (PW.pt (pw_and (pt_cmpR op_eq (pv 1) pe_str (nomark _)) (pw_and (pt_chain op_le op_le (pe_glob (v := .int 2) rfl T.c_FEWEST_CHOICES ⟨_, rfl⟩) (pe_callB call_len_seq (by rfl) T.n_len PySem.boot_len (pa_cons (pv 2) pa_nil)) (pe_glob (v := .int 4) rfl T.c_MOST_CHOICES ⟨_, rfl⟩)) (pw_and1 (pt_cmpR op_le (pe_bm PySem.F.plainAttrs_list PySem.F.slot_list_count PySem.F.type_list_count (mt_countD hu65) (pv 2) (pa_cons (pe_lst pa_nil) pa_nil)) pe_int (nomark _))))))
        (pss_one (ps_ret (pv 2))) pss_nil)
      (pss_one (ps_ret pe_non)))))), ?_⟩
  cases hI with
  | call x => exact absurd rfl (hc x)
  | @may t b vs l h1 h2 h3 =>
    simp only [okI] at hok
    have hne : vs.isEmpty = false := by
      have := h3.length
      cases vs with
      | nil => exact absurd (List.eq_nil_of_length_eq_zero this.symm) hok.1
      | cons _ _ => rfl
    refine ⟨_, rfl, _, _, _, _, true, rfl, .ty _, ty_tup h1, kit_ty (by decide +kernel), _, rfl, iteF ?_⟩
    refine ⟨_, rfl, _, _, rfl, .inr (SqT.of h1), rfl, _, rfl, ite2 (fun c => absurd c (by simp)) (fun _ => ?_)⟩
    refine ⟨_, rfl, _, _, _, _, rfl, rfl, SqT.of h1, at_of (j := 1) rfl rfl, _, _, _, _, true, rfl, .ty _, ty_lst h2, kit_ty (by decide +kernel), _, rfl, iteF ?_⟩
    refine ⟨_, rfl, _, _, rfl, SqT.of h1, rfl, _, _, rfl, _, _, rfl, rfl, ?_⟩
    refine ⟨_, rfl, rfl, _, rfl, ite2 (fun _ => ?_) (fun c => absurd (decide_eq_true rfl) c)⟩
    refine ⟨_, rfl, true, .inl ⟨vs, SqL.of h2, by rw [hne]; rfl⟩, iteT ?_⟩
    refine ⟨_, rfl, Nat.le_of_lt (small1000 (by simp)), fun p hp => ?_⟩
    have sm := same_upd hp (.lst [.ref b])
    exact q p _ _ sm upd_same (.cons (sm _ _ h2) (h3.keep (Kp.of sm)) .nil)
  | @loop t b vs l h1 h2 h3 =>
    simp only [okI] at hok
    have hne : vs.isEmpty = false := by
      have := h3.length
      cases vs with
      | nil => exact absurd (List.eq_nil_of_length_eq_zero this.symm) hok.1
      | cons _ _ => rfl
    refine ⟨_, rfl, _, _, _, _, true, rfl, .ty _, ty_tup h1, kit_ty (by decide +kernel), _, rfl, iteF ?_⟩
    refine ⟨_, rfl, _, _, rfl, .inr (SqT.of h1), rfl, _, rfl, ite2 (fun c => absurd c (by simp)) (fun _ => ?_)⟩
    refine ⟨_, rfl, _, _, _, _, rfl, rfl, SqT.of h1, at_of (j := 1) rfl rfl, _, _, _, _, true, rfl, .ty _, ty_lst h2, kit_ty (by decide +kernel), _, rfl, iteF ?_⟩
    refine ⟨_, rfl, _, _, rfl, SqT.of h1, rfl, _, _, rfl, _, _, rfl, rfl, ?_⟩
    refine ⟨_, rfl, rfl, _, rfl, ite2 (fun c => absurd (of_decide_eq_true c) (by decide)) (fun _ => ?_)⟩
    refine ⟨_, rfl, rfl, _, rfl, ite2 (fun _ => ?_) (fun c => absurd (decide_eq_true rfl) c)⟩
    refine ⟨_, rfl, true, .inl ⟨vs, SqL.of h2, by rw [hne]; rfl⟩, iteT ?_⟩
    refine ⟨_, rfl, Nat.le_of_lt (small1000 (by simp)), fun p hp => ?_⟩
    have sm := same_upd hp (.lst [.ref b])
    exact q p _ _ sm upd_same (.cons (sm _ _ h2) (h3.keep (Kp.of sm)) .nil)
  | @one t b vs ls h1 h2 h3 =>
    simp only [okI] at hok
    simp only [dI] at hd
    obtain ⟨k1, k2, k3, k4⟩ := hok
    refine ⟨_, rfl, _, _, _, _, true, rfl, .ty _, ty_tup h1, kit_ty (by decide +kernel), _, rfl, iteF ?_⟩
    refine ⟨_, rfl, _, _, rfl, .inr (SqT.of h1), rfl, _, rfl, ite2 (fun c => absurd c (by simp)) (fun _ => ?_)⟩
    refine ⟨_, rfl, _, _, _, _, rfl, rfl, SqT.of h1, at_of (j := 1) rfl rfl, _, _, _, _, true, rfl, .ty _, ty_lst h2, kit_ty (by decide +kernel), _, rfl, iteF ?_⟩
    refine ⟨_, rfl, _, _, rfl, SqT.of h1, rfl, _, _, rfl, _, _, rfl, rfl, ?_⟩
    refine ⟨_, rfl, rfl, _, rfl, ite2 (fun c => absurd (of_decide_eq_true c) (by decide)) (fun _ => ?_)⟩
    refine ⟨_, rfl, rfl, _, rfl, ite2 (fun c => absurd (of_decide_eq_true c) (by decide)) (fun _ => ?_)⟩
    refine ⟨_, rfl, rfl, _, rfl, ite2 (fun _ => ?_) (fun c => absurd (decide_eq_true rfl) c)⟩
    have hl := h3.length
    refine ⟨_, rfl, _, _, rfl, .inl (SqL.of h2), _, _, rfl, rfl, _, rfl, ?_⟩
    refine ite2 (fun _ => ?_) (fun c => absurd (decide_eq_true (by omega)) c)
    refine ⟨_, _, rfl, rfl, _, rfl, ?_⟩
    refine ite2 (fun _ => ?_) (fun c => absurd (decide_eq_true (by omega)) c)
    refine ⟨_, rfl, .inl ⟨rfl, _, SqL.of h2⟩, by decide, fun p hp => ?_⟩
    have sm := same_upd hp (.lst [])
    have k := Kp.of sm
    have dps := (h3.keep k).dp (K := K)
    refine ⟨b, .ref p, .list [], dtBs ls, rfl, rfl, .lst (SqL.of (sm _ _ h2)) dps, .lst (SqL.of upd_same) .nil, dt_shaped (dtBs_lay hns ls k4) (by have := dtBs_depth ls; omega), dt_shaped rfl (by decide), ?_⟩
    rw [count_empty]
    refine ⟨_, _, rfl, rfl, _, rfl, ite2 (fun _ => ?_) (fun c => absurd (decide_eq_true (by omega)) c)⟩
    exact ⟨_, rfl, q b vs _ sm (sm _ _ h2) (h3.keep k)⟩
end K02


set_option Elab.async false
set_option linter.all false
set_option maxRecDepth 100000
set_option maxHeartbeats 4000000
namespace K02
open PySem PySem.Spec PyProof.Rows L2 FA
variable {P : Program} {w : World} {K : PySem.W.Frag} {mg : Str → Option Value} {base : Heap}
def pNames (p : Pr) : List Str := p.map (·.1)
theorem sum_nC : ∀ bs : List (List FA.It), (bs.map fun b => (nCB b : Int)).sum = nCBs bs
  | [] => rfl
  | b :: r => by have := sum_nC r; simp only [List.map_cons, List.sum_cons, nCBs]; omega
theorem sum_nI : ∀ bs : List (List FA.It), (bs.map fun b => (nIB b : Int)).sum = nIBs bs
  | [] => rfl
  | b :: r => by have := sum_nI r; simp only [List.map_cons, List.sum_cons, nIBs]; omega
theorem subs_nC : ∀ {it : FA.It}, (∀ x, it ≠ .call x) → ((subs it).map fun b => (nCB b : Int)).sum = nC it
  | .call x, h => absurd rfl (h x)
  | .may b, _ => by simp [subs, nC]
  | .loop b, _ => by simp [subs, nC]
  | .one bs, _ => by simp only [subs, nC]; exact sum_nC bs
theorem subs_nI : ∀ {it : FA.It}, (∀ x, it ≠ .call x) → ((subs it).map fun b => (nIB b : Int)).sum = nI it
  | .call x, h => absurd rfl (h x)
  | .may b, _ => by simp [subs, nI]
  | .loop b, _ => by simp [subs, nI]
  | .one bs, _ => by simp only [subs, nI]; exact sum_nI bs
theorem subs_ok {ns : List Str} : ∀ {it : FA.It}, okI ns it → ∀ b ∈ subs it, okB ns b
  | .call x, _, b, hb => by simp [subs] at hb
  | .may b', h, b, hb => by simp only [okI] at h; simp [subs] at hb; rw [hb]; exact h.2
  | .loop b', h, b, hb => by simp only [okI] at h; simp [subs] at hb; rw [hb]; exact h.2
  | .one bs, h, b, hb => by simp only [okI] at h; exact okBs_all.mp h.2.2.2 b hb
theorem nCBs_mem : ∀ {bs : List (List FA.It)} {b}, b ∈ bs → nCB b ≤ nCBs bs
  | b' :: r, b, h => by
    rcases List.mem_cons.mp h with rfl | h
    · simp only [nCBs]; omega
    · have := nCBs_mem h; simp only [nCBs]; omega
theorem nIBs_mem : ∀ {bs : List (List FA.It)} {b}, b ∈ bs → nIB b ≤ nIBs bs
  | b' :: r, b, h => by
    rcases List.mem_cons.mp h with rfl | h
    · simp only [nIBs]; omega
    · have := nIBs_mem h; simp only [nIBs]; omega
theorem dBs_mem : ∀ {bs : List (List FA.It)} {b}, b ∈ bs → dB b ≤ dBs bs
  | b' :: r, b, h => by
    rcases List.mem_cons.mp h with rfl | h
    · simp only [dBs]; omega
    · have := dBs_mem h; simp only [dBs]; omega
theorem subs_le : ∀ {it : FA.It} {b}, b ∈ subs it → nCB b ≤ nC it ∧ nIB b ≤ nI it ∧ dB b ≤ dI it
  | .call x, b, hb => by simp [subs] at hb
  | .may b', b, hb => by simp [subs] at hb; rw [hb]; simp only [nC, nI, dI]; omega
  | .loop b', b, hb => by simp [subs] at hb; rw [hb]; simp only [nC, nI, dI]; omega
  | .one bs, b, hb => by
    have hb : b ∈ bs := hb
    have h1 := nCBs_mem hb
    have h2 := nIBs_mem hb
    have h3 := dBs_mem hb
    simp only [nC, nI, dI]; omega
theorem dB_pos : ∀ b : List FA.It, 1 ≤ dB b
  | [] => by simp [dB]
  | i :: r => by have := dB_pos r; simp only [dB]; omega
theorem subs_len : ∀ {ns : List Str} {it : FA.It}, okI ns it → (subs it).length ≤ 4
  | _, .call x, _ => by simp [subs]
  | _, .may b, _ => by simp [subs]
  | _, .loop b, _ => by simp [subs]
  | _, .one bs, h => by simp only [okI] at h; exact h.2.1
/-- what the judged program is known to be -/
structure Known (H : Hp) (d : Addr) (p : Pr) : Prop where
  at_ : PrAt H d p
  nm : ∀ x ∈ pNames p, FA.okName x
theorem PrAt.same {H H' : Hp} {d : Addr} {p : Pr} (sm : Same H H') (h : PrAt H d p) : PrAt H' d p := by
  obtain ⟨kvs, hd, hk⟩ := h
  refine ⟨kvs, ?_, hk.keep (Kp.of sm)⟩
  rcases hd with hd | ⟨o, hd⟩
  · exact .inl (sm _ _ hd)
  · exact .inr ⟨o, sm _ _ hd⟩
theorem Known.same {H H' : Hp} {d : Addr} {p : Pr} (sm : Same H H') (h : Known H d p) : Known H' d p := ⟨PrAt.same sm h.at_, h.nm⟩
theorem lookup_mem {x : Str} : ∀ {p : Pr}, x ∈ pNames p → ∃ l, p.lookup x = some l
  | (y, l) :: p, h => by
    by_cases e : x = y
    · subst e; exact ⟨l, by simp [List.lookup]⟩
    · have e1 : (x == y) = false := beq_eq_false_iff_ne.mpr e
      rcases List.mem_cons.mp (show x ∈ y :: pNames p from h) with z | z
      · exact absurd z e
      · obtain ⟨l', q⟩ := lookup_mem z
        exact ⟨l', by simp [List.lookup, e1, q]⟩
theorem Known.has {H : Hp} {d : Addr} {p : Pr} {x : Str} (h : Known H d p) (hx : x ∈ pNames p) : ∃ l b, p.lookup x = some l ∧ DGet H d (.str x) (some (.ref b)) ∧ BdAt H b l := by
  obtain ⟨l0, e⟩ := lookup_mem hx
  rcases h.at_.look (x := x) with ⟨h1, _⟩ | ⟨l, b, h1, h2, h3⟩
  · rw [e] at h1; cases h1
  · exact ⟨l, b, h1, h2, h3⟩
def spItemSize (n : Nat) : Sp := fun vs H Q _ => ∃ (d : Addr) (p : Pr) (v : V) (it : FA.It) (lv : Int), vs = [.ref d, v, .int lv] ∧ Known H d p ∧ ItAt H v it ∧ okI (pNames p) it ∧ dI it ≤ n ∧ lv + dI it ≤ 4 ∧ nC it ≤ 5 ∧ nI it ≤ 12 ∧
  ∀ t H', Same H H' → H' t = some (.tup [.int (nC it), .int (nI it)]) → Q (.ref t) H'
def spBodySize (n : Nat) : Sp := fun vs H Q _ => ∃ (d : Addr) (p : Pr) (b : Addr) (l : List FA.It) (lv : Int), vs = [.ref d, .ref b, .int lv] ∧ Known H d p ∧ BdAt H b l ∧ okB (pNames p) l ∧ dB l ≤ n ∧ lv + dB l ≤ 5 ∧ nCB l ≤ 5 ∧ nIB l ≤ 12 ∧
  ∀ t H', Same H H' → H' t = some (.tup [.int (nCB l), .int (nIB l)]) → Q (.ref t) H'
theorem okItemSize (T : Txt K mg) (n : Nat) (hn : n ≤ 5) (GBodySize : FnOk P w K mg base CX0 (2 * n + 1) T.aBodySize T.fBodySize ["program", "body", "level"] (spBodySize n)) :
    FnOk P w K mg base CX0 (2 * n + 2) T.aItemSize T.fItemSize ["program", "item", "level"] (spItemSize n) := by
  have GChoices : FnOk P w K mg base CX0 1 T.aChoices T.fChoices ["item"] spChoices := okChoices T
  refine T.FItemSize.ok scItemSize (fun vs H Q E h => ?_) (fun cdv A outer s H vs Q E hr h => ?_)
  · obtain ⟨d, p, v, it, lv, rfl, _⟩ := h
    rfl
  obtain ⟨d, p, v, it, lv, rfl, kn, hI, hok, hn, hlv, hC, hN, q⟩ := h
  have hu := hu_of hr
  have hu65 := hu65_of hr
  refine ⟨_, (pss_cons (ps_if (pt_val (pe_callB call_isi (by rfl) T.n_isinstance (by decide +kernel) (pa_cons (pv 1) (pa_cons (pe_bltn (v := .ty "str") (by rfl) T.n_str (by decide +kernel) rfl) pa_nil))))
        (pss_one (ps_ret (pe_ifExp (pt_cmp (pc_din hu (pv 1) (pv 0))) (pe_tup (pa_cons pe_int (pa_cons pe_int pa_nil))) pe_non))) pss_nil)
      (pss_cons (ps_set (i := 3) scItemSize.nd rfl (by first | exact Or.inl rfl | exact Or.inr rfl) (pe_call GChoices (hr.mono (by omega)) rfl T.gChoices T.FChoices.kp T.bChoices .nil pass0 (pa_cons (pv 1) pa_nil)))
      (pss_cons (ps_if (pt_cmpR op_isN (pv 3) pe_non (nomark _))
        (pss_one (ps_ret pe_non)) pss_nil)
      (pss_cons (ps_setLc (i := 4) (own := [("body", 5)]) (g := gName 5) (tt := tYes) rfl scItemSize.nd rfl rfl (sw_true rfl rfl rfl (by decide +kernel)) (pi_list (pv 3)) (blkOk_by (N := ["program", "item", "level", "choices", "sizes", "body", "calls", "_", "items"]) (sc := defScope sItemSize) (by decide +kernel)) (fun _ _ _ _ _ => (pg_name (i := 5) scItemSize.nd rfl (by first | exact Or.inl rfl | exact Or.inr rfl))) (fun _ _ _ _ _ => pts_nil) (fun _ _ _ _ _ => (pe_call GBodySize (hr.mono (by omega)) rfl T.gBodySize T.FBodySize.kp T.bBodySize .nil pass0 (pa_cons (pv 0) (pa_cons (pv 5) (pa_cons (pe_op op_add (pv 2) pe_int) pa_nil))))))
      (pss_cons (ps_if (pt_cmpR (op_inD hu65) pe_non (pv 4) (by rfl))
        (pss_one (ps_ret pe_non)) pss_nil)
      (pss_one (ps_ret (pe_tup (pa_cons (pe_callB (cr_sum rfl) (by rfl) T.n_sum (by decide +kernel) (pa_cons (pe_lc (own := [("calls", 6), ("_", 7)]) (g := gTup K 2 (gCons (gName 6) (gCons (gName 7) gNil))) (tt := tYes) rfl scItemSize.nd (pi_list (pv 4)) (blkOk_by (N := ["program", "item", "level", "choices", "sizes", "body", "calls", "_", "items"]) (sc := defScope sItemSize) (by decide +kernel)) (fun _ _ _ _ _ => (pg_tup rfl (pgs_cons (pg_name (i := 6) scItemSize.nd rfl (by first | exact Or.inl rfl | exact Or.inr rfl)) (pgs_cons (pg_name (i := 7) scItemSize.nd rfl (by first | exact Or.inl rfl | exact Or.inr rfl)) pgs_nil)))) (fun _ _ _ _ _ => pts_nil) (fun _ _ _ _ _ => (pv 6))) pa_nil)) (pa_cons (pe_callB (cr_sum rfl) (by rfl) T.n_sum (by decide +kernel) (pa_cons (pe_lc (own := [("_", 7), ("items", 8)]) (g := gTup K 2 (gCons (gName 7) (gCons (gName 8) gNil))) (tt := tYes) rfl scItemSize.nd (pi_list (pv 4)) (blkOk_by (N := ["program", "item", "level", "choices", "sizes", "body", "calls", "_", "items"]) (sc := defScope sItemSize) (by decide +kernel)) (fun _ _ _ _ _ => (pg_tup rfl (pgs_cons (pg_name (i := 7) scItemSize.nd rfl (by first | exact Or.inl rfl | exact Or.inr rfl)) (pgs_cons (pg_name (i := 8) scItemSize.nd rfl (by first | exact Or.inl rfl | exact Or.inr rfl)) pgs_nil)))) (fun _ _ _ _ _ => pts_nil) (fun _ _ _ _ _ => (pv 8))) pa_nil)) pa_nil)))))))))), ?_⟩
  by_cases hcall : ∃ x, it = .call x
  · obtain ⟨x, rfl⟩ := hcall
    cases hI
    obtain ⟨l, b, _, hg, _⟩ := kn.has (x := x) (by simpa [okI] using hok)
    refine ⟨_, rfl, _, _, _, _, true, rfl, .ty _, ty_str x, kit_ty (by decide +kernel), _, rfl, iteT ?_⟩
    refine ⟨_, rfl, _, rfl, _, _, rfl, hg, _, rfl, iteT ?_⟩
    refine ⟨Nat.le_of_lt (small1000 (by simp)), fun t ht => ?_⟩
    exact q t _ (same_upd ht _) (by rw [upd_same]; rfl)
  · have hcall : ∀ x, it ≠ .call x := fun x e => hcall ⟨x, e⟩
    have hty : ∃ t ws, v = .ref t ∧ H t = some (.tup ws) := by
      cases hI with
      | call x => exact absurd rfl (hcall x)
      | may h1 _ _ => exact ⟨_, _, rfl, h1⟩
      | loop h1 _ _ => exact ⟨_, _, rfl, h1⟩
      | one h1 _ _ => exact ⟨_, _, rfl, h1⟩
    obtain ⟨t0, ws0, rfl, ht0⟩ := hty
    refine ⟨_, rfl, _, _, _, _, false, rfl, .ty _, ty_tup ht0, kit_ty (by decide +kernel), _, rfl, iteF ?_⟩
    refine ⟨_, rfl, _, _, _, rfl, hI, hcall, hok, kn.nm, by omega, fun c ws H1 s1 hc hb => ?_⟩
    refine ⟨_, rfl, rfl, _, rfl, ite2 (fun z => absurd (of_decide_eq_true z) (by simp)) (fun _ => ?_)⟩
    have kn1 := kn.same s1
    have hlen := hb.length
    have h4 := subs_len hok
    refine ⟨_, rfl, c, rfl, ⟨_, SqL.of hc⟩, fun D hD => lcS (n := ws.length) hD (small1000 (by omega)) _ (fun j v H => ∃ bd t, (subs it)[j]? = some bd ∧ v = .ref t ∧ H t = some (.tup [.int (nCB bd), .int (nIB bd)]))
      (go_l (SqL.of hc)) (stop_l (SqL.of hc)) (yld_l (SqL.of hc)) (fun j v A B k ⟨bd, t, e1, e2, e3⟩ => ⟨bd, t, e1, e2, k _ _ e3⟩) ?_ ?_⟩
    · intro i x H2 R hi hx s2 k
      obtain ⟨b, bd, rfl, e1, e2⟩ := hb.get hx
      have hm : bd ∈ subs it := List.mem_of_getElem? e1
      have le := subs_le hm
      refine ⟨rfl, _, rfl, _, rfl, _, rfl, _, _, rfl, rfl, d, p, b, bd, lv + 1, rfl, kn1.same s2, e2.keep (Kp.of s2), subs_ok hok bd hm, by omega, by omega, by omega, by omega, fun t H3 s3 ht => ?_⟩
      exact k _ H3 s3 ⟨bd, t, e1, rfl, ht⟩
    · intro H2 ys s2 hy hl hg
      have dps : DpAll K H2 ys ((subs it).map fun b => PyData.tuple [.int (nCB b), .int (nIB b)]) := dpAll_map (by omega) fun j y e => by
        obtain ⟨bd, t, e1, rfl, e3⟩ := hg j y e
        exact ⟨bd, e1, .tup (SqT.of e3) (.cons (.int _) (.cons (.int _) .nil))⟩
      have lay : PyData.canLayAll0 ((subs it).map fun b => PyData.tuple [.int (nCB b), .int (nIB b)]) = true := by
        generalize subs it = l
        induction l with
        | nil => rfl
        | cons b r ih => simp only [List.map_cons, PyData.canLayAll0, PyData.canLay0, ih, Bool.and_true]
      have dep : PyData.depthAll ((subs it).map fun b => PyData.tuple [.int (nCB b), .int (nIB b)]) ≤ 60 := by
        have : ∀ l : List (List FA.It), PyData.depthAll (l.map fun b => PyData.tuple [.int (nCB b), .int (nIB b)]) ≤ 1 := fun l => by
          induction l with
          | nil => simp [PyData.depthAll]
          | cons b r ih => simp only [List.map_cons, PyData.depthAll, PyData.depth]; omega
        have := this (subs it)
        omega
      have nov : (((subs it).map fun b => PyData.tuple [.int (nCB b), .int (nIB b)]).any fun z => PyData.eqv z .none) = false := by
        generalize subs it = l
        induction l with
        | nil => rfl
        | cons b r ih => simp only [List.map_cons, List.any_cons, PyData.eqv, ih, Bool.or_false]
      refine ⟨_, rfl, .none, _, .non, .lst (SqL.of hy) dps, rfl, dt_shaped lay dep, ?_⟩
      rw [nov]
      refine ⟨_, rfl, iteF ?_⟩
      have sumOf : ∀ (f : List FA.It → Int) (H3 : Hp) (D3 : Addr) (zs : List V), H3 D3 = some (.lst zs) → zs.length = ys.length → (∀ j z, zs[j]? = some z → ∃ bd, (subs it)[j]? = some bd ∧ z = V.int (f bd)) → SqL K H3 D3 (((subs it).map f).map V.int) := fun f H3 D3 zs h1 h2 h3 => by
        have e := ext_map (ys := zs) (l := subs it) (f := fun b => V.int (f b)) (by omega) h3
        rw [List.map_map]
        exact SqL.of (by rw [h1, e]; rfl)
      refine ⟨_, rfl, D, rfl, ⟨_, SqL.of hy⟩, fun D1 hD1 => lcS (n := ys.length) hD1 (small1000 (by omega)) _ (fun j v _ => ∃ bd, (subs it)[j]? = some bd ∧ v = .int (nCB bd))
        (go_l (SqL.of hy)) (stop_l (SqL.of hy)) (yld_l (SqL.of hy)) (fun j v A B _ h => h) ?_ ?_⟩
      · intro i x H3 R hi hx s3 k
        obtain ⟨bd, t, e1, rfl, e3⟩ := hg i x hx
        exact ⟨t, _, rfl, SqT.of (s3 _ _ e3), rfl, _, _, rfl, _, _, rfl, rfl, rfl, _, rfl, k _ H3 (Same.refl _) ⟨bd, e1, rfl⟩⟩
      · intro H3 zs s3 hz hzl hzg
        refine ⟨D1, _, rfl, sumOf (fun b => nCB b) H3 D1 zs hz hzl hzg, ?_⟩
        rw [subs_nC hcall]
        have hy3 : H3 D = some (.lst ys) := s3 _ _ hy
        refine ⟨_, rfl, D, rfl, ⟨_, SqL.of hy3⟩, fun D2 hD2 => lcS (n := ys.length) hD2 (small1000 (by omega)) _ (fun j v _ => ∃ bd, (subs it)[j]? = some bd ∧ v = .int (nIB bd))
          (go_l (SqL.of hy3)) (stop_l (SqL.of hy3)) (yld_l (SqL.of hy3)) (fun j v A B _ h => h) ?_ ?_⟩
        · intro i x H4 R hi hx s4 k
          obtain ⟨bd, t, e1, rfl, e3⟩ := hg i x hx
          exact ⟨t, _, rfl, SqT.of (s4 _ _ (s3 _ _ e3)), rfl, _, _, rfl, _, _, rfl, rfl, rfl, _, rfl, k _ H4 (Same.refl _) ⟨bd, e1, rfl⟩⟩
        · intro H4 zs2 s4 hz2 hzl2 hzg2
          refine ⟨D2, _, rfl, sumOf (fun b => nIB b) H4 D2 zs2 hz2 hzl2 hzg2, ?_⟩
          rw [subs_nI hcall]
          refine ⟨Nat.le_of_lt (small1000 (by simp)), fun t ht => ?_⟩
          exact q t _ (s1.trans (s2.trans (s3.trans (s4.trans (same_upd ht _))))) upd_same
end K02


set_option Elab.async false
set_option linter.all false
set_option maxRecDepth 100000
set_option maxHeartbeats 4000000
namespace K02
open PySem PySem.Spec PyProof.Rows L2 FA
variable {P : Program} {w : World} {K : PySem.W.Frag} {mg : Str → Option Value} {base : Heap}
def sI (l : List FA.It) : Nat := (l.map nI).sum
def sC (l : List FA.It) : Nat := (l.map nC).sum
theorem nIB_eq : ∀ l : List FA.It, nIB l = l.length + sI l
  | [] => by simp [nIB, sI]
  | i :: r => by
    have := nIB_eq r
    simp only [nIB, sI, List.length_cons, List.map_cons, List.sum_cons] at *
    omega
theorem nCB_eq : ∀ l : List FA.It, nCB l = sC l
  | [] => by simp [nCB, sC]
  | i :: r => by
    have := nCB_eq r
    simp only [nCB, sC, List.map_cons, List.sum_cons] at *
    omega
theorem sI_take {l : List FA.It} {i : Nat} {it : FA.It} (h : l[i]? = some it) : sI (l.take (i + 1)) = sI (l.take i) + nI it := by
  unfold sI
  rw [List.take_add_one, h, List.map_append, List.sum_append]
  simp
theorem sC_take {l : List FA.It} {i : Nat} {it : FA.It} (h : l[i]? = some it) : sC (l.take (i + 1)) = sC (l.take i) + nC it := by
  unfold sC
  rw [List.take_add_one, h, List.map_append, List.sum_append]
  simp
theorem sI_take_le (l : List FA.It) (i : Nat) : sI (l.take i) ≤ sI l := by
  unfold sI
  have e : ((l.take i ++ l.drop i).map nI).sum = (l.map nI).sum := by rw [List.take_append_drop]
  rw [List.map_append, List.sum_append] at e
  omega
theorem sC_take_le (l : List FA.It) (i : Nat) : sC (l.take i) ≤ sC l := by
  unfold sC
  have e : ((l.take i ++ l.drop i).map nC).sum = (l.map nC).sum := by rw [List.take_append_drop]
  rw [List.map_append, List.sum_append] at e
  omega
theorem dB_mem : ∀ {l : List FA.It} {it : FA.It}, it ∈ l → 1 + dI it ≤ dB l
  | i :: r, it, h => by
    simp only [dB]
    rcases List.mem_cons.mp h with rfl | h
    · omega
    · have := dB_mem h; omega
theorem okBodySize (T : Txt K mg) (n : Nat) (GItemSize : FnOk P w K mg base CX0 (2 * n + 2) T.aItemSize T.fItemSize ["program", "item", "level"] (spItemSize n)) :
    FnOk P w K mg base CX0 (2 * n + 3) T.aBodySize T.fBodySize ["program", "body", "level"] (spBodySize (n + 1)) := by
  refine T.FBodySize.ok scBodySize (fun vs H Q E h => ?_) (fun cdv A outer s H vs Q E hr h => ?_)
  · obtain ⟨d, p, b, l, lv, rfl, _⟩ := h
    rfl
  obtain ⟨d, p, b, l, lv, rfl, kn, ⟨vs, hb, hits⟩, hok, hn, hlv, hC, hN, q⟩ := h
  have hu := hu_of hr
  refine ⟨_, (pss_cons (ps_if (PW.pt (pw_or (pt_not (pt_val (pe_callB call_isi (by rfl) T.n_isinstance (by decide +kernel) (pa_cons (pv 1) (pa_cons (pe_bltn (v := .ty "list") (by rfl) T.n_list (by decide +kernel) rfl) pa_nil))))) (pw_or1 (pt_cmpR op_gt (pv 2) (pe_glob (v := .int 4) rfl T.c_MOST_LEVELS ⟨_, rfl⟩) (nomark _)))))
        (pss_one (ps_ret pe_non)) pss_nil)
      (pss_cons (ps_set (i := 3) scBodySize.nd rfl (by first | exact Or.inl rfl | exact Or.inr rfl) pe_int)
      (pss_cons (ps_set (i := 4) scBodySize.nd rfl (by first | exact Or.inl rfl | exact Or.inr rfl) (pe_callB call_len_seq (by rfl) T.n_len PySem.boot_len (pa_cons (pv 1) pa_nil)))
      (pss_cons (ps_for PassesOwn.never rfl (pi_list (pv 1)) (pg_name (i := 5) scBodySize.nd rfl (by first | exact Or.inl rfl | exact Or.inr rfl))
        (pss_cons (ps_set (i := 6) scBodySize.nd rfl (by first | exact Or.inl rfl | exact Or.inr rfl) (pe_call GItemSize (hr.mono (by omega)) rfl T.gItemSize T.FItemSize.kp T.bItemSize .nil pass0 (pa_cons (pv 0) (pa_cons (pv 5) (pa_cons (pv 2) pa_nil)))))
        (pss_cons (ps_if (pt_cmpR op_isN (pv 6) pe_non (nomark _))
          (pss_one (ps_ret pe_non)) pss_nil)
        (pss_cons (ps_set (i := 3) scBodySize.nd rfl (by first | exact Or.inl rfl | exact Or.inr rfl) (pe_op op_add (pv 3) (pe_ix ix_tup (pv 6) pe_int (fun _ _ => rfl))))
        (pss_cons (ps_set (i := 4) scBodySize.nd rfl (by first | exact Or.inl rfl | exact Or.inr rfl) (pe_op op_add (pv 4) (pe_ix ix_tup (pv 6) pe_int (fun _ _ => rfl))))
        (pss_one (ps_if (PW.pt (pw_or (pt_cmpR op_gt (pv 3) (pe_glob (v := .int 5) rfl T.c_MOST_CALLS ⟨_, rfl⟩) (nomark _)) (pw_or1 (pt_cmpR op_gt (pv 4) (pe_glob (v := .int 12) rfl T.c_MOST_ITEMS ⟨_, rfl⟩) (nomark _)))))
          (pss_one (ps_ret pe_non)) pss_nil)))))))
      (pss_one (ps_ret (pe_tup (pa_cons (pv 3) (pa_cons (pv 4) pa_nil))))))))), ?_⟩
  have hp := dB_pos l
  have hl := hits.length
  refine ⟨_, rfl, _, _, _, _, true, rfl, .ty _, ty_lst hb, kit_ty (by decide +kernel), _, rfl, iteF ?_⟩
  refine ⟨_, rfl, _, _, rfl, rfl, _, rfl, ite2 (fun c => absurd (of_decide_eq_true c) (by omega)) (fun _ => ?_)⟩
  refine ⟨_, rfl, _, _, rfl, .inl (SqL.of hb), ?_⟩
  refine ⟨_, rfl, b, rfl, ⟨_, SqL.of hb⟩, for_list (K := K) (a := b) (xs := vs) (fun i σ H' => ∃ v5 v6, σ = [some (.ref d), some (.ref b), some (.int lv), some (.int (sC (l.take i))), some (.int ((l.length : Int) + sI (l.take i))), v5, v6] ∧ Same H H') ?_ ?_ ?_ ?_⟩
  · refine ⟨none, none, ?_, Same.refl _⟩
    rw [hl]
    simp [sC, sI]
    rfl
  · rintro i σ H' _ ⟨_, _, _, sm⟩
    exact SqL.of (sm _ _ hb)
  · rintro i y σ H' hi ⟨v5, v6, rfl, sm⟩
    obtain ⟨it, e1, e2⟩ := hits.get hi
    have hm : it ∈ l := List.mem_of_getElem? e1
    have c1 := sC_take e1
    have c2 := sI_take e1
    have c3 := sC_take_le l (i + 1)
    have c4 := sI_take_le l (i + 1)
    have c5 := nCB_eq l
    have c6 := nIB_eq l
    have c7 := dB_mem hm
    refine ⟨_, rfl, _, rfl, _, rfl, d, p, y, it, lv, rfl, kn.same sm, e2.keep (Kp.of sm), okB_all.mp hok it hm, by omega, by omega, by omega, by omega, fun t H2 s2 ht => ?_⟩
    refine ⟨_, rfl, rfl, _, rfl, ite2 (fun z => absurd (of_decide_eq_true z) (by simp)) (fun _ => ?_)⟩
    refine ⟨_, rfl, _, rfl, _, _, _, _, rfl, rfl, SqT.of ht, at_of (j := 0) rfl rfl, _, _, rfl, rfl, ?_⟩
    refine ⟨_, rfl, _, rfl, _, _, _, _, rfl, rfl, SqT.of ht, at_of (j := 1) rfl rfl, _, _, rfl, rfl, ?_⟩
    refine ⟨_, rfl, _, _, rfl, rfl, _, rfl, ite2 (fun c => absurd (of_decide_eq_true c) (by omega)) (fun _ => ?_)⟩
    refine ⟨_, rfl, _, _, rfl, rfl, _, rfl, ite2 (fun c => absurd (of_decide_eq_true c) (by omega)) (fun _ => ?_)⟩
    refine ⟨some y, some (.ref t), ?_, sm.trans s2⟩
    have e3 : ((sC (l.take i) : Nat) : Int) + (nC it : Int) = (sC (l.take (i + 1)) : Nat) := by omega
    have e4 : ((l.length : Int) + (sI (l.take i) : Nat)) + (nI it : Int) = (l.length : Int) + (sI (l.take (i + 1)) : Nat) := by omega
    rw [← e3, ← e4]
    rfl
  · rintro σ H' ⟨v5, v6, rfl, sm⟩
    refine ⟨_, rfl, _, rfl, Nat.le_of_lt (small1000 (by simp)), fun t ht => ?_⟩
    refine q t _ (sm.trans (same_upd ht _)) ?_
    rw [upd_same, List.take_of_length_le (by omega), nCB_eq, nIB_eq, Int.natCast_add]
theorem okSizes (T : Txt K mg) : ∀ n : Nat, n ≤ 5 → FnOk P w K mg base CX0 (2 * n + 1) T.aBodySize T.fBodySize ["program", "body", "level"] (spBodySize n)
  | 0, _ => fn_never fun vs H Q E h => by
    obtain ⟨d, p, b, l, lv, _, _, _, _, h0, _⟩ := h
    have := dB_pos l
    omega
  | n + 1, h => okBodySize T n (okItemSize T n (by omega) (okSizes T n (by omega)))
/-! ### the least numbers of calls -/
/-- at L a dict that tells f of the names ns -/
def LsAt (H : Hp) (L : Addr) (ns : List Str) (f : Str → Int) : Prop := ∃ kvs, Rd H L (.dK kvs) ∧ ∀ x ∈ ns, valV kvs (.inr x) = some (.int (f x))
theorem Rd.same {H H' : Hp} {a : Addr} {u : HO} (sm : Same H H') (h : Rd H a u) : Rd H' a u := by
  rcases h with h | ⟨o, h⟩
  · exact .inl (sm _ _ h)
  · exact .inr ⟨o, sm _ _ h⟩
theorem LsAt.same {H H' : Hp} {L : Addr} {ns : List Str} {f : Str → Int} (sm : Same H H') (h : LsAt H L ns f) : LsAt H' L ns f := by
  obtain ⟨kvs, h1, h2⟩ := h
  exact ⟨kvs, Rd.same sm h1, h2⟩
def spLeastItem (n : Nat) : Sp := fun vs H Q _ => ∃ (L : Addr) (ns : List Str) (f : Str → Int) (v : V) (it : FA.It), vs = [.ref L, v] ∧ LsAt H L ns f ∧ ItAt H v it ∧ okI ns it ∧ nI it ≤ 12 ∧ dI it ≤ n ∧
  ∀ H', Same H H' → Q (.int (cost f it)) H'
def spLeastBody (n : Nat) : Sp := fun vs H Q _ => ∃ (L : Addr) (ns : List Str) (f : Str → Int) (b : Addr) (l : List FA.It), vs = [.ref L, .ref b] ∧ LsAt H L ns f ∧ BdAt H b l ∧ okB ns l ∧ nIB l ≤ 12 ∧ dB l ≤ n ∧
  ∀ H', Same H H' → Q (.int (costB f l)) H'
theorem okLeastItem (T : Txt K mg) (n : Nat) (GLeastInBody : FnOk P w K mg base CX0 (2 * n + 1) T.aLeastInBody T.fLeastInBody ["least", "body"] (spLeastBody n)) :
    FnOk P w K mg base CX0 (2 * n + 2) T.aLeastInItem T.fLeastInItem ["least", "item"] (spLeastItem n) := by
  refine T.FLeastInItem.ok scLeastInItem (fun vs H Q E h => ?_) (fun cdv A outer s H vs Q E hr h => ?_)
  · obtain ⟨L, ns, f, v, it, rfl, _⟩ := h
    rfl
  obtain ⟨L, ns, f, v, it, rfl, hL, hI, hok, hN, hn, q⟩ := h
  have hu := hu_of hr
  refine ⟨_, (pss_cons (ps_if (pt_val (pe_callB call_isi (by rfl) T.n_isinstance (by decide +kernel) (pa_cons (pv 1) (pa_cons (pe_bltn (v := .ty "str") (by rfl) T.n_str (by decide +kernel) rfl) pa_nil))))
        (pss_one (ps_ret (pe_dget hu (pv 0) (pv 1) (fun _ _ => rfl)))) pss_nil)
      (pss_cons (ps_if (pt_cmpR op_eq (pe_ix ix_tup (pv 1) pe_int (fun _ _ => rfl)) pe_str (nomark _))
        (pss_one (ps_ret (pe_callB (cr_min rfl) (by rfl) T.n_min (by decide +kernel) (pa_cons (pe_lc (own := [("body", 2)]) (g := gName 2) (tt := tYes) rfl scLeastInItem.nd (pi_list (pe_ix ix_tup (pv 1) pe_int (fun _ _ => rfl))) (blkOk_by (N := ["least", "item", "body"]) (sc := defScope sLeastInItem) (by decide +kernel)) (fun _ _ _ _ _ => (pg_name (i := 2) scLeastInItem.nd rfl (by first | exact Or.inl rfl | exact Or.inr rfl))) (fun _ _ _ _ _ => pts_nil) (fun _ _ _ _ _ => (pe_call GLeastInBody (hr.mono (by omega)) rfl T.gLeastInBody T.FLeastInBody.kp T.bLeastInBody .nil pass0 (pa_cons (pv 0) (pa_cons (pv 2) pa_nil))))) pa_nil)))) pss_nil)
      (pss_one (ps_ret pe_int)))), ?_⟩
  cases hI with
  | call x =>
    obtain ⟨kvs, h1, h2⟩ := hL
    refine ⟨_, rfl, _, _, _, _, true, rfl, .ty _, ty_str x, kit_ty (by decide +kernel), _, rfl, iteT ?_⟩
    refine ⟨_, rfl, _, rfl, L, _, rfl, .inl ⟨kvs, .inr x, h1, rfl, (h2 x (by simpa [okI] using hok)).symm⟩, ?_⟩
    have := q H (Same.refl _)
    simp only [cost] at this
    exact this
  | @may t b vs l h1 h2 h3 =>
    refine ⟨_, rfl, _, _, _, _, false, rfl, .ty _, ty_tup h1, kit_ty (by decide +kernel), _, rfl, iteF ?_⟩
    refine ⟨_, rfl, _, _, _, _, rfl, rfl, SqT.of h1, at_of (j := 0) rfl rfl, rfl, _, rfl, ite2 (fun c => absurd (of_decide_eq_true c) (by decide)) (fun _ => ?_)⟩
    have := q H (Same.refl _)
    simp only [cost] at this
    exact this
  | @loop t b vs l h1 h2 h3 =>
    refine ⟨_, rfl, _, _, _, _, false, rfl, .ty _, ty_tup h1, kit_ty (by decide +kernel), _, rfl, iteF ?_⟩
    refine ⟨_, rfl, _, _, _, _, rfl, rfl, SqT.of h1, at_of (j := 0) rfl rfl, rfl, _, rfl, ite2 (fun c => absurd (of_decide_eq_true c) (by decide)) (fun _ => ?_)⟩
    have := q H (Same.refl _)
    simp only [cost] at this
    exact this
  | @one t b vs ls h1 h2 h3 =>
    simp only [okI] at hok
    obtain ⟨k1, k2, k3, k4⟩ := hok
    have hl := h3.length
    refine ⟨_, rfl, _, _, _, _, false, rfl, .ty _, ty_tup h1, kit_ty (by decide +kernel), _, rfl, iteF ?_⟩
    refine ⟨_, rfl, _, _, _, _, rfl, rfl, SqT.of h1, at_of (j := 0) rfl rfl, rfl, _, rfl, ite2 (fun _ => ?_) (fun c => absurd (decide_eq_true rfl) c)⟩
    refine ⟨_, rfl, _, _, _, _, rfl, rfl, SqT.of h1, at_of (j := 1) rfl rfl, b, rfl, ⟨_, SqL.of h2⟩, fun D hD => lcS (n := vs.length) hD (small1000 (by omega)) _ (fun j v _ => ∃ bd, ls[j]? = some bd ∧ v = .int (costB f bd))
      (go_l (SqL.of h2)) (stop_l (SqL.of h2)) (yld_l (SqL.of h2)) (fun j v A B _ h => h) ?_ ?_⟩
    · intro i x H2 R hi hx s2 k
      obtain ⟨b', bd, rfl, e1, e2⟩ := h3.get hx
      have hm : bd ∈ ls := List.mem_of_getElem? e1
      have m1 := nIBs_mem hm
      have m2 := dBs_mem hm
      simp only [nI] at hN
      simp only [dI] at hn
      exact ⟨rfl, _, rfl, _, rfl, L, ns, f, b', bd, rfl, hL.same s2, e2.keep (Kp.of s2), okBs_all.mp k4 bd hm, by omega, by omega, fun H3 s3 => k _ H3 s3 ⟨bd, e1, rfl⟩⟩
    · intro H2 ys s2 hy hyl hg
      have e := ext_map (ys := ys) (l := ls) (f := fun b => V.int (costB f b)) (by omega) hg
      refine ⟨D, ls.map (costB f), rfl, SqL.of (by rw [hy, e, List.map_map]; rfl), by rw [List.length_map]; omega, fun m hm hle => ?_⟩
      have := minL_unique hm hle
      rw [this]
      have := q H2 s2
      simp only [cost, costBs_map] at this
      exact this
theorem okLeastBody (T : Txt K mg) (n : Nat) (GLeastInItem : FnOk P w K mg base CX0 (2 * n + 2) T.aLeastInItem T.fLeastInItem ["least", "item"] (spLeastItem n)) :
    FnOk P w K mg base CX0 (2 * n + 3) T.aLeastInBody T.fLeastInBody ["least", "body"] (spLeastBody (n + 1)) := by
  refine T.FLeastInBody.ok scLeastInBody (fun vs H Q E h => ?_) (fun cdv A outer s H vs Q E hr h => ?_)
  · obtain ⟨L, ns, f, b, l, rfl, _⟩ := h
    rfl
  obtain ⟨L, ns, f, b, l, rfl, hL, ⟨vs, hb, hits⟩, hok, hN, hn, q⟩ := h
  have hu := hu_of hr
  refine ⟨_, (pss_one (ps_ret (pe_callB (cr_sum rfl) (by rfl) T.n_sum (by decide +kernel) (pa_cons (pe_lc (own := [("item", 2)]) (g := gName 2) (tt := tYes) rfl scLeastInBody.nd (pi_list (pv 1)) (blkOk_by (N := ["least", "body", "item"]) (sc := defScope sLeastInBody) (by decide +kernel)) (fun _ _ _ _ _ => (pg_name (i := 2) scLeastInBody.nd rfl (by first | exact Or.inl rfl | exact Or.inr rfl))) (fun _ _ _ _ _ => pts_nil) (fun _ _ _ _ _ => (pe_call GLeastInItem (hr.mono (by omega)) rfl T.gLeastInItem T.FLeastInItem.kp T.bLeastInItem .nil pass0 (pa_cons (pv 0) (pa_cons (pv 2) pa_nil))))) pa_nil)))), ?_⟩
  have hl := hits.length
  have c6 := nIB_eq l
  refine ⟨_, rfl, b, rfl, ⟨_, SqL.of hb⟩, fun D hD => lcS (n := vs.length) hD (small1000 (by omega)) _ (fun j v _ => ∃ it, l[j]? = some it ∧ v = .int (cost f it))
    (go_l (SqL.of hb)) (stop_l (SqL.of hb)) (yld_l (SqL.of hb)) (fun j v A B _ h => h) ?_ ?_⟩
  · intro i x H2 R hi hx s2 k
    obtain ⟨it, e1, e2⟩ := hits.get hx
    have hm : it ∈ l := List.mem_of_getElem? e1
    have c7 := dB_mem hm
    have c8 : nI it ≤ sI l := by
      have c2 := sI_take e1
      have c4 := sI_take_le l (i + 1)
      omega
    exact ⟨rfl, _, rfl, _, rfl, L, ns, f, x, it, rfl, hL.same s2, e2.keep (Kp.of s2), okB_all.mp hok it hm, by omega, by omega, fun H3 s3 => k _ H3 s3 ⟨it, e1, rfl⟩⟩
  · intro H2 ys s2 hy hyl hg
    have e := ext_map (ys := ys) (l := l) (f := fun it => V.int (cost f it)) (by omega) hg
    refine ⟨D, l.map (cost f), rfl, SqL.of (by rw [hy, e, List.map_map]; rfl), ?_⟩
    rw [← costB_sum]
    exact q H2 s2
theorem okLeast (T : Txt K mg) : ∀ n : Nat, FnOk P w K mg base CX0 (2 * n + 1) T.aLeastInBody T.fLeastInBody ["least", "body"] (spLeastBody n)
  | 0 => fn_never fun vs H Q E h => by
    obtain ⟨L, ns, f, b, l, _, _, _, _, _, h0, _⟩ := h
    have := dB_pos l
    omega
  | n + 1 => okLeastBody T n (okLeastItem T n (okLeast T n))
end K02


set_option Elab.async false
set_option linter.all false
set_option maxRecDepth 100000
set_option maxHeartbeats 4000000
namespace K02
open PySem PySem.Spec PyProof.Rows L2 FA
variable {P : Program} {w : World} {K : PySem.W.Frag} {mg : Str → Option Value} {base : Heap}
/-- a program, by point 5 -/
structure Valid (p : Pr) : Prop where
  len : p.length ≤ 6
  main : ("main" : Str) ∈ pNames p
  nm : ∀ x ∈ pNames p, FA.okName x
  nd : (pNames p).Nodup
  ok : ∀ x l, p.lookup x = some l → okB (pNames p) l ∧ nCB l ≤ 5 ∧ nIB l ≤ 12 ∧ dB l ≤ 4
  ret : ∀ x ∈ pNames p, rnd 13 p p.length x ≤ 12
theorem Rd.lock {H H1 : Hp} {d L : Addr} {od : Obj} {kvs kvs' : List (Key × V)} (hL : Rd H L (.dK kvs')) (hd : Rd H d (.dK kvs)) (e : H1 d = some (.frz od (.dK kvs))) (k : ∀ b, b ≠ d → H1 b = H b) : Rd H1 L (.dK kvs') := by
  by_cases h : L = d
  · subst h
    have : kvs' = kvs := by
      rcases hL with h1 | ⟨o, h1⟩
      · rcases hd with h2 | ⟨o', h2⟩
        · rw [h1] at h2; cases h2; rfl
        · rw [h1] at h2; cases h2
      · rcases hd with h2 | ⟨o', h2⟩
        · rw [h1] at h2; cases h2
        · rw [h1] at h2; cases h2; rfl
    subst this
    exact .inr ⟨od, e⟩
  · unfold Rd
    rw [k L h]
    exact hL
theorem Kp.lock {H H1 : Hp} {d : Addr} {kvs : List (Key × V)} (hd : Rd H d (.dK kvs)) (k : ∀ b, b ≠ d → H1 b = H b) : Kp H H1 := by
  refine ⟨fun a xs e => ?_, fun a xs e => ?_⟩
  · rw [k a]; exact e
    rintro rfl
    rcases hd with h | ⟨o, h⟩ <;> rw [h] at e <;> cases e
  · rw [k a]; exact e
    rintro rfl
    rcases hd with h | ⟨o, h⟩ <;> rw [h] at e <;> cases e
/-- the least numbers as they stand in the dict -/
def lsKv (p : Pr) (f : Str → Int) : List (Key × V) := p.map fun q => (.inr q.1, .int (f q.1))
theorem lsKv_look {f : Str → Int} {x : Str} : ∀ {p : Pr}, x ∈ pNames p → valV (lsKv p f) (.inr x) = some (.int (f x))
  | (y, l) :: p, h => by
    by_cases e : y = x
    · subst e; exact valV_pos rfl
    · rcases List.mem_cons.mp (show x ∈ y :: pNames p from h) with z | z
      · exact absurd z.symm e
      · have q := lsKv_look (f := f) z
        unfold lsKv at q ⊢
        rw [List.map_cons, valV_neg (fun z => e (Sum.inr.inj z))]
        exact q
theorem lsKv_at {H : Hp} {L : Addr} {p : Pr} {f : Str → Int} (h : H L = some (.dK (lsKv p f))) : LsAt H L (pNames p) f := ⟨_, .inl h, fun x hx => lsKv_look hx⟩
def keyF (f : Str → Int) : Key → V
  | .inl _ => .non
  | .inr x => .int (f x)
theorem kvs_keyF {H : Hp} {f : Str → Int} : ∀ {kvs : List (Key × V)} {p : Pr}, PrKv H kvs p → (kvs.map fun q => (q.1, keyF f q.1)) = lsKv p f
  | _, _, .nil => rfl
  | _, _, .cons h t => by
    have := kvs_keyF (f := f) t
    unfold lsKv at this ⊢
    rw [List.map_cons, List.map_cons, this]
    rfl
theorem key_at {H : Hp} {kvs : List (Key × V)} {p : Pr} (h : PrKv H kvs p) {i : Nat} {k : Key} {v : V} (e : kvs[i]? = some (k, v)) : ∃ x, k = .inr x ∧ (pNames p)[i]? = some x ∧ x ∈ pNames p := by
  have q := h.keys
  have e2 : (kvs.map (·.1))[i]? = some k := by rw [List.getElem?_map, e]; rfl
  rw [q] at e2
  rw [List.getElem?_map] at e2
  cases e3 : p[i]? with
  | none => rw [e3] at e2; cases e2
  | some r =>
    rw [e3] at e2
    cases e2
    have e4 : (pNames p)[i]? = some r.1 := by unfold pNames; rw [List.getElem?_map, e3]; rfl
    exact ⟨r.1, rfl, e4, List.mem_of_getElem? e4⟩
theorem keys_nd {H : Hp} {kvs : List (Key × V)} {p : Pr} (h : PrKv H kvs p) (nd : (pNames p).Nodup) : (kvs.map (·.1)).Nodup := by
  rw [h.keys]
  have : (p.map fun q => (Sum.inr q.1 : Key)) = (pNames p).map Sum.inr := by unfold pNames; rw [List.map_map]; rfl
  rw [this]
  exact List.Pairwise.map _ (fun a b hab z => hab (Sum.inr.inj z)) nd
def spLeastCalls : Sp := fun vs H Q _ => ∃ (d : Addr) (p : Pr), vs = [.ref d] ∧ PrAt H d p ∧ (pNames p).Nodup ∧ p.length ≤ 6 ∧ (∀ x l, p.lookup x = some l → okB (pNames p) l ∧ nIB l ≤ 12 ∧ dB l ≤ 4) ∧
  ∀ L H', Same H H' → H' L = some (.dK (lsKv p (rnd 13 p p.length))) → Q (.ref L) H'
theorem okLeastCalls (T : Txt K mg) : FnOk P w K mg base CX0 10 T.aLeastCalls T.fLeastCalls ["program"] spLeastCalls := by
  have GLeastInBody := okLeast (P := P) (w := w) (base := base) T 4
  refine T.FLeastCalls.ok scLeastCalls (fun vs H Q E h => ?_) (fun cdv A outer s H vs Q E hr h => ?_)
  · obtain ⟨d, p, rfl, _⟩ := h
    rfl
  obtain ⟨d, p, rfl, ⟨kvs, hd, hk⟩, nd, hlen, hok, q⟩ := h
  have hu := hu_of hr
  refine ⟨_, (pss_cons (ps_set (i := 1) scLeastCalls.nd rfl (by first | exact Or.inl rfl | exact Or.inr rfl) (pe_op op_add (pe_glob (v := .int 12) rfl T.c_MOST_CALLS_TO_RETURN ⟨_, rfl⟩) pe_int))
      (pss_cons (ps_set (i := 2) scLeastCalls.nd rfl (by first | exact Or.inl rfl | exact Or.inr rfl) (pe_lock2 (pe_dc (own := [("name", 4)]) (g := gName 4) (tt := tYes) rfl scLeastCalls.nd (pi_keys (pv 0)) (blkOk_by (N := ["program", "too_many", "least", "_", "name"]) (sc := defScope sLeastCalls) (by decide +kernel)) (fun _ _ _ _ _ => (pg_name (i := 4) scLeastCalls.nd rfl (by first | exact Or.inl rfl | exact Or.inr rfl))) (fun _ _ _ _ _ => pts_nil) (fun _ _ _ _ _ => (pv 4)) (fun _ _ _ _ _ => (pv 1)))))
      (pss_cons (ps_for PassesOwn.never rfl (pi_range1 (by rfl) T.n_range (pa_cons (pe_callB call_lenR (by rfl) T.n_len PySem.boot_len (pa_cons (pv 0) pa_nil)) pa_nil)) (pg_name (i := 3) scLeastCalls.nd rfl (by first | exact Or.inl rfl | exact Or.inr rfl))
        (pss_one (ps_set (i := 2) scLeastCalls.nd rfl (by first | exact Or.inl rfl | exact Or.inr rfl) (pe_lock2 (pe_dc (own := [("name", 4)]) (g := gName 4) (tt := tYes) rfl scLeastCalls.nd (pi_keys (pv 0)) (blkOk_by (N := ["program", "too_many", "least", "_", "name"]) (sc := defScope sLeastCalls) (by decide +kernel)) (fun _ _ _ _ _ => (pg_name (i := 4) scLeastCalls.nd rfl (by first | exact Or.inl rfl | exact Or.inr rfl))) (fun _ _ _ _ _ => pts_nil) (fun _ _ _ _ _ => (pv 4)) (fun _ _ _ _ _ => (pe_callB (call_min2 rfl) (by rfl) T.n_min (by decide +kernel) (pa_cons (pv 1) (pa_cons (pe_op op_add pe_int (pe_call GLeastInBody (hr.mono (by omega)) rfl T.gLeastInBody T.FLeastInBody.kp T.bLeastInBody .nil pass0 (pa_cons (pv 2) (pa_cons (pe_dget hu (pv 0) (pv 4) (fun _ _ => rfl)) pa_nil)))) pa_nil)))))))))
      (pss_one (ps_ret (pv 2)))))), ?_⟩
  have hkl := hk.length
  have knd := keys_nd hk nd
  refine ⟨_, _, rfl, rfl, ?_⟩
  refine lock2 hd (fun v H => ∃ D, v = .ref D ∧ D ≠ d ∧ H D = some (.dK (lsKv p (rnd 13 p 0)))) (fun v H2 H3 k ⟨D, e1, e2, e3⟩ => ⟨D, e1, e2, by rw [k D e2]; exact e3⟩) ?_ ?_
  · intro H1 od R h1 k1 kR
    refine ⟨_, rfl, d, od, rfl, .inl ⟨kvs, h1, fun D hD => dcS hD h1 knd (small1000 (by omega)) (by show 4 < 5; decide) (keyF (rnd 13 p 0)) ?_ ?_⟩⟩
    · intro i k v H2 R2 e sm kk
      obtain ⟨x, rfl, _, _⟩ := key_at hk e
      exact ⟨_, rfl, kk H2 (Same.refl _)⟩
    · intro H2 sm hD2
      rw [kvs_keyF hk] at hD2
      exact kR _ H2 sm ⟨D, rfl, (fun z => by rw [z, h1] at hD; cases hD), hD2⟩
  · rintro _ H1 sm ⟨D, rfl, hDd, hD⟩
    refine ⟨_, rfl, d, kvs, rfl, Rd.same sm hd, (kvs.length : Nat), rfl, by omega, by have := small1000 (n := kvs.length) (by omega); have := sizeLine_eq; omega, ?_⟩
    have en : ((kvs.length : Nat) : Int).toNat = p.length := by omega
    rw [en]
    refine for_range (lo := 0) (n := p.length) (fun i σ H' => ∃ L v3, σ = [some (.ref d), some (.int 13), some (.ref L), v3, none] ∧ Same H H' ∧ H' L = some (.dK (lsKv p (rnd 13 p i)))) ⟨D, none, rfl, sm, hD⟩ ?_ ?_
    · rintro i σ H2 hi ⟨L, v3, rfl, s2, hL⟩
      have hd2 := Rd.same s2 hd
      refine lock2 hd2 (fun v H => ∃ D, v = .ref D ∧ D ≠ d ∧ H D = some (.dK (lsKv p (rnd 13 p (i + 1))))) (fun v H2 H3 k ⟨D, e1, e2, e3⟩ => ⟨D, e1, e2, by rw [k D e2]; exact e3⟩) ?_ ?_
      · intro H3 od R h1 k1 kR
        have kp : Kp H2 H3 := Kp.lock hd2 k1
        have hk3 : PrKv H3 kvs p := (hk.keep (Kp.of s2)).keep kp
        have hL3 : LsAt H3 L (pNames p) (rnd 13 p i) := ⟨_, Rd.lock (.inl hL) hd2 h1 k1, fun x hx => lsKv_look hx⟩
        refine ⟨_, rfl, d, od, rfl, .inl ⟨kvs, h1, fun D hD => dcS hD h1 knd (small1000 (by omega)) (by show 4 < 5; decide) (keyF (rnd 13 p (i + 1))) ?_ ?_⟩⟩
        · intro j k v H4 R2 e s4 kk
          obtain ⟨x, rfl, _, hx⟩ := key_at hk e
          have pa : PrAt H4 d p := PrAt.same s4 ⟨kvs, .inr ⟨od, h1⟩, hk3⟩
          obtain ⟨l0, e0⟩ := lookup_mem hx
          rcases pa.look (x := x) with ⟨z1, _⟩ | ⟨l, b, z1, z2, z3⟩
          · rw [e0] at z1; cases z1
          · obtain ⟨o1, o2, o3⟩ := hok x l z1
            refine ⟨_, rfl, _, rfl, _, rfl, _, rfl, d, _, rfl, z2, L, pNames p, rnd 13 p i, b, l, rfl, hL3.same s4, z3, o1, o2, o3, fun H5 s5 => ?_⟩
            refine ⟨_, _, rfl, rfl, _, _, rfl, ?_⟩
            have ev : (if (1 : Int) + costB (rnd 13 p i) l < 13 then (1 : Int) + costB (rnd 13 p i) l else 13) = rnd 13 p (i + 1) x := by
              have eb : bodyOf p x = l := by unfold bodyOf; rw [z1]; rfl
              simp only [rnd, eb]
              split <;> omega
            rw [ev]
            exact kk H5 s5
        · intro H4 s4 hD4
          rw [kvs_keyF hk] at hD4
          exact kR _ H4 s4 ⟨D, rfl, (fun z => by rw [z, h1] at hD; cases hD), hD4⟩
      · rintro _ H3 s3 ⟨D', rfl, hDd', hD'⟩
        exact ⟨D', _, rfl, s2.trans s3, hD'⟩
    · rintro σ H2 ⟨L, v3, rfl, s2, hL⟩
      exact ⟨_, rfl, q L H2 s2 hL⟩
end K02


set_option Elab.async false
set_option linter.all false
set_option maxRecDepth 100000
set_option maxHeartbeats 4000000
namespace K02
open PySem PySem.Spec PyProof.Rows L2 FA
variable {P : Program} {w : World} {K : PySem.W.Frag} {mg : Str → Option Value} {base : Heap}
def spIsProgram : Sp := fun vs H Q _ => ∃ (d : Addr) (p : Pr), vs = [.ref d] ∧ PrAt H d p ∧ Valid p ∧ ∀ H', Same H H' → Q (.bl true) H'
theorem all_true (n : Nat) : ((List.replicate n true).all id) = true := by simp
theorem trues {ys : List V} {n : Nat} (hl : ys.length = n) (h : ∀ (j : Nat) y, ys[j]? = some y → y = .bl true) : ys = (List.replicate n true).map V.bl := by
  refine List.ext_getElem? fun j => ?_
  rw [List.map_replicate, List.getElem?_replicate]
  by_cases hj : j < ys.length
  · rw [List.getElem?_eq_getElem hj, h j ys[j] (List.getElem?_eq_getElem hj), if_pos (by omega)]
  · rw [List.getElem?_eq_none (by omega), if_neg (by omega)]
theorem okIsProgram (T : Txt K mg) : FnOk P w K mg base CX0 12 T.aIsProgram T.fIsProgram ["value"] spIsProgram := by
  have GIsName : FnOk P w K mg base CX0 1 T.aIsName T.fIsName ["value"] spIsName := okIsName T
  have GBodySize := okSizes (P := P) (w := w) (base := base) T 4 (by omega)
  have GLeastCalls : FnOk P w K mg base CX0 10 T.aLeastCalls T.fLeastCalls ["program"] spLeastCalls := okLeastCalls T
  refine T.FIsProgram.ok scIsProgram (fun vs H Q E h => ?_) (fun cdv A outer s H vs Q E hr h => ?_)
  · obtain ⟨d, p, rfl, _⟩ := h
    rfl
  obtain ⟨d, p, rfl, hpa, va, q⟩ := h
  have hu := hu_of hr
  obtain ⟨kvs, hd, hk⟩ := id hpa
  have hkl := hk.length
  have hlen := va.len
  refine ⟨_, (pss_cons (ps_if (PW.pt (pw_or (pt_not (pt_val (pe_callB call_isi (by rfl) T.n_isinstance (by decide +kernel) (pa_cons (pv 0) (pa_cons (pe_bltn (v := .ty "dict") (by rfl) T.n_dict (by decide +kernel) rfl) pa_nil))))) (pw_or (pt_cmpR op_gt (pe_callB call_lenR (by rfl) T.n_len PySem.boot_len (pa_cons (pv 0) pa_nil)) (pe_glob (v := .int 6) rfl T.c_MOST_FUNCTIONS ⟨_, rfl⟩) (nomark _)) (pw_or1 (pt_cmp (pc_dnotin hu pe_str (pv 0)))))))
        (pss_one (ps_ret pe_bl)) pss_nil)
      (pss_cons (ps_if (pt_not (pt_val (pe_callB (cr_all rfl) (by rfl) T.n_all (by decide +kernel) (pa_cons (pe_lock2 (pe_lc (own := [("name", 2)]) (g := gName 2) (tt := tYes) rfl scIsProgram.nd (pi_keys (pv 0)) (blkOk_by (N := ["value", "least", "name"]) (sc := defScope sIsProgram) (by decide +kernel)) (fun _ _ _ _ _ => (pg_name (i := 2) scIsProgram.nd rfl (by first | exact Or.inl rfl | exact Or.inr rfl))) (fun _ _ _ _ _ => pts_nil) (fun _ _ _ _ _ => (pe_call GIsName (hr.mono (by omega)) rfl T.gIsName T.FIsName.kp T.bIsName .nil pass0 (pa_cons (pv 2) pa_nil))))) pa_nil))))
        (pss_one (ps_ret pe_bl)) pss_nil)
      (pss_cons (ps_if (pt_not (pt_val (pe_callB (cr_all rfl) (by rfl) T.n_all (by decide +kernel) (pa_cons (pe_lock2 (pe_lc (own := [("name", 2)]) (g := gName 2) (tt := tYes) rfl scIsProgram.nd (pi_keys (pv 0)) (blkOk_by (N := ["value", "least", "name"]) (sc := defScope sIsProgram) (by decide +kernel)) (fun _ _ _ _ _ => (pg_name (i := 2) scIsProgram.nd rfl (by first | exact Or.inl rfl | exact Or.inr rfl))) (fun _ _ _ _ _ => pts_nil) (fun _ _ _ _ _ => (pe_cmpR op_notN (pe_call GBodySize (hr.mono (by omega)) rfl T.gBodySize T.FBodySize.kp T.bBodySize .nil pass0 (pa_cons (pv 0) (pa_cons (pe_dget hu (pv 0) (pv 2) (fun _ _ => rfl)) (pa_cons pe_int pa_nil)))) pe_non (nomark _))))) pa_nil))))
        (pss_one (ps_ret pe_bl)) pss_nil)
      (pss_cons (ps_set (i := 1) scIsProgram.nd rfl (by first | exact Or.inl rfl | exact Or.inr rfl) (pe_call GLeastCalls (hr.mono (by omega)) rfl T.gLeastCalls T.FLeastCalls.kp T.bLeastCalls .nil pass0 (pa_cons (pv 0) pa_nil)))
      (pss_one (ps_ret (pe_callB (cr_all rfl) (by rfl) T.n_all (by decide +kernel) (pa_cons (pe_lock2 (pe_lc (own := [("name", 2)]) (g := gName 2) (tt := tYes) rfl scIsProgram.nd (pi_keys (pv 1)) (blkOk_by (N := ["value", "least", "name"]) (sc := defScope sIsProgram) (by decide +kernel)) (fun _ _ _ _ _ => (pg_name (i := 2) scIsProgram.nd rfl (by first | exact Or.inl rfl | exact Or.inr rfl))) (fun _ _ _ _ _ => pts_nil) (fun _ _ _ _ _ => (pe_cmpR op_le (pe_dget hu (pv 1) (pv 2) (fun _ _ => rfl)) (pe_glob (v := .int 12) rfl T.c_MOST_CALLS_TO_RETURN ⟨_, rfl⟩) (nomark _))))) pa_nil)))))))), ?_⟩
  -- a dict, not too long, with a main
  refine ⟨_, rfl, _, _, _, _, true, rfl, .ty _, ty_dict hd, kit_ty (by decide +kernel), _, rfl, iteF ?_⟩
  refine ⟨_, rfl, d, kvs, rfl, hd, _, _, rfl, rfl, _, rfl, ite2 (fun c => absurd (of_decide_eq_true c) (by omega)) (fun _ => ?_)⟩
  obtain ⟨l0, e0⟩ := lookup_mem va.main
  rcases hpa.look (x := "main") with ⟨z1, _⟩ | ⟨l, b, z1, z2, z3⟩
  · rw [e0] at z1; cases z1
  refine ⟨_, rfl, d, _, rfl, z2, _, rfl, iteF ?_⟩
  -- all names
  refine lock2 hd (fun v H => ∃ D, v = .ref D ∧ D ≠ d ∧ H D = some (.lst ((List.replicate kvs.length true).map V.bl))) (fun v H2 H3 k ⟨D, e1, e2, e3⟩ => ⟨D, e1, e2, by rw [k D e2]; exact e3⟩) ?_ ?_
  · intro H1 od R h1 k1 kR
    refine ⟨_, rfl, d, od, rfl, .inl ⟨kvs, h1, fun D hD => lcS (n := kvs.length) hD (small1000 (by omega)) _ (fun _ v _ => v = .bl true) (go_k h1) (stop_k h1) yld_k (fun _ _ _ _ _ e => e) ?_ ?_⟩⟩
    · rintro i _ H2 R2 hi ⟨k, v, e, rfl⟩ sm kk
      obtain ⟨x, rfl, _, hx⟩ := key_at hk e
      exact ⟨rfl, _, rfl, x, rfl, va.nm x hx, fun H3 s3 => kk _ H3 s3 rfl⟩
    · intro H2 ys s2 hy hl hg
      rw [trues hl hg] at hy
      exact kR _ H2 s2 ⟨D, rfl, (fun z => by rw [z, h1] at hD; cases hD), hy⟩
  rintro _ H1 s1 ⟨D1, rfl, _, hD1⟩
  refine ⟨D1, _, rfl, SqL.of hD1, ?_⟩
  rw [all_true]
  refine ⟨_, rfl, iteF ?_⟩
  have hd1 := Rd.same s1 hd
  have hk1 := hk.keep (Kp.of s1)
  -- all bodies
  refine lock2 hd1 (fun v H => ∃ D, v = .ref D ∧ D ≠ d ∧ H D = some (.lst ((List.replicate kvs.length true).map V.bl))) (fun v H2 H3 k ⟨D, e1, e2, e3⟩ => ⟨D, e1, e2, by rw [k D e2]; exact e3⟩) ?_ ?_
  · intro H2 od R h1 k1 kR
    have hk2 : PrKv H2 kvs p := hk1.keep (Kp.lock hd1 k1)
    have kn : Known H2 d p := ⟨⟨kvs, .inr ⟨od, h1⟩, hk2⟩, va.nm⟩
    refine ⟨_, rfl, d, od, rfl, .inl ⟨kvs, h1, fun D hD => lcS (n := kvs.length) hD (small1000 (by omega)) _ (fun _ v _ => v = .bl true) (go_k h1) (stop_k h1) yld_k (fun _ _ _ _ _ e => e) ?_ ?_⟩⟩
    · rintro i _ H3 R2 hi ⟨k, v, e, rfl⟩ s3 kk
      obtain ⟨x, rfl, _, hx⟩ := key_at hk e
      obtain ⟨l, b, z1, z2, z3⟩ := (kn.same s3).has hx
      obtain ⟨o1, o2, o3, o4⟩ := va.ok x l z1
      refine ⟨rfl, _, rfl, _, rfl, _, rfl, d, _, rfl, z2, d, p, b, l, 1, rfl, kn.same s3, z3, o1, o4, by omega, o2, o3, fun t H4 s4 ht => ?_⟩
      exact ⟨rfl, kk _ H4 s4 (by rfl)⟩
    · intro H3 ys s3 hy hl hg
      rw [trues hl hg] at hy
      exact kR _ H3 s3 ⟨D, rfl, (fun z => by rw [z, h1] at hD; cases hD), hy⟩
  rintro _ H2 s2 ⟨D2, rfl, _, hD2⟩
  refine ⟨D2, _, rfl, SqL.of hD2, ?_⟩
  rw [all_true]
  refine ⟨_, rfl, iteF ?_⟩
  -- the least calls
  have s12 := s1.trans s2
  refine ⟨_, rfl, d, p, rfl, PrAt.same s12 hpa, va.nd, va.len, fun x l e => ⟨(va.ok x l e).1, (va.ok x l e).2.2.1, (va.ok x l e).2.2.2⟩, fun L H3 s3 hL => ?_⟩
  refine lock2 (d := L) (.inl hL) (fun v H => ∃ D, v = .ref D ∧ D ≠ L ∧ H D = some (.lst ((List.replicate (lsKv p (rnd 13 p p.length)).length true).map V.bl))) (fun v H2 H3 k ⟨D, e1, e2, e3⟩ => ⟨D, e1, e2, by rw [k D e2]; exact e3⟩) ?_ ?_
  · intro H4 od R h1 k1 kR
    have hll : (lsKv p (rnd 13 p p.length)).length = p.length := by unfold lsKv; rw [List.length_map]
    refine ⟨_, rfl, L, od, rfl, .inl ⟨_, h1, fun D hD => lcS (n := (lsKv p (rnd 13 p p.length)).length) hD (small1000 (by omega)) _ (fun _ v _ => v = .bl true) (go_k h1) (stop_k h1) yld_k (fun _ _ _ _ _ e => e) ?_ ?_⟩⟩
    · rintro i _ H5 R2 hi ⟨k, v, e, rfl⟩ s5 kk
      have ek : ∃ x ∈ pNames p, k = .inr x := by
        unfold lsKv at e
        rw [List.getElem?_map] at e
        cases e3 : p[i]? with
        | none => rw [e3] at e; cases e
        | some r =>
          rw [e3] at e
          cases e
          exact ⟨r.1, List.mem_map.mpr ⟨r, List.mem_of_getElem? e3, rfl⟩, rfl⟩
      obtain ⟨x, hx, rfl⟩ := ek
      have le := va.ret x hx
      refine ⟨rfl, _, rfl, _, rfl, L, _, rfl, .inl ⟨_, .inr x, .inr ⟨od, s5 _ _ h1⟩, rfl, (lsKv_look hx).symm⟩, _, _, rfl, rfl, ?_⟩
      exact kk _ H5 (Same.refl _) (congrArg V.bl (decide_eq_true le))
    · intro H5 ys s5 hy hl hg
      rw [trues hl hg] at hy
      exact kR _ H5 s5 ⟨D, rfl, (fun z => by rw [z, h1] at hD; cases hD), hy⟩
  rintro _ H5 s5 ⟨D3, rfl, _, hD3⟩
  refine ⟨D3, _, rfl, SqL.of hD3, ?_⟩
  rw [all_true]
  exact q H5 (s12.trans (s3.trans s5))
def spIsFunction : Sp := fun vs H Q _ => ∃ (d : Addr) (p : Pr) (x : Str), vs = [.ref d, .str x] ∧ PrAt H d p ∧ x ∈ pNames p ∧ Q (.bl true) H
theorem okIsFunction (T : Txt K mg) : FnOk P w K mg base CX0 1 T.aIsFunction T.fIsFunction ["program", "value"] spIsFunction := by
  refine T.FIsFunction.ok scIsFunction (fun vs H Q E h => ?_) (fun cdv A outer s H vs Q E hr h => ?_)
  · obtain ⟨d, p, x, rfl, _⟩ := h
    rfl
  obtain ⟨d, p, x, rfl, hpa, hx, q⟩ := h
  have hu := hu_of hr
  refine ⟨_, (pss_one (ps_ret (pe_and (pe_callB call_isi (by rfl) T.n_isinstance (by decide +kernel) (pa_cons (pv 1) (pa_cons (pe_bltn (v := .ty "str") (by rfl) T.n_str (by decide +kernel) rfl) pa_nil))) (pe_one (pe_cmp (pc_din hu (pv 1) (pv 0))))))), ?_⟩
  obtain ⟨l0, e0⟩ := lookup_mem hx
  rcases hpa.look (x := x) with ⟨z1, _⟩ | ⟨l, b, z1, z2, z3⟩
  · rw [e0] at z1; cases z1
  refine ⟨_, rfl, _, _, _, _, true, rfl, .ty _, ty_str x, kit_ty (by decide +kernel), _, rfl, iteT ?_⟩
  exact ⟨_, rfl, _, rfl, d, _, rfl, z2, q⟩
def spCheckProgram : Sp := fun vs H Q _ => ∃ (d : Addr) (p : Pr), vs = [.ref d] ∧ PrAt H d p ∧ Valid p ∧ ∀ H', Same H H' → Q .non H'
theorem okCheckProgram (T : Txt K mg) : FnOk P w K mg base CX0 13 T.aCheckProgram T.fCheckProgram ["program"] spCheckProgram := by
  have GIsProgram : FnOk P w K mg base CX0 12 T.aIsProgram T.fIsProgram ["value"] spIsProgram := okIsProgram T
  refine T.FCheckProgram.ok scCheckProgram (fun vs H Q E h => ?_) (fun cdv A outer s H vs Q E hr h => ?_)
  · obtain ⟨d, p, rfl, _⟩ := h
    rfl
  obtain ⟨d, p, rfl, hpa, va, q⟩ := h
  refine ⟨_, (pss_one (ps_if (pt_not (pt_val (pe_call GIsProgram (hr.mono (by omega)) rfl T.gIsProgram T.FIsProgram.kp T.bIsProgram .nil pass0 (pa_cons (pv 0) pa_nil))))
        (pss_one ps_never) pss_nil)), ?_⟩
  exact ⟨_, rfl, d, p, rfl, hpa, va, fun H1 s1 => ⟨_, rfl, iteF (q H1 s1)⟩⟩
def spCheckName : Sp := fun vs H Q _ => ∃ (d : Addr) (p : Pr) (x : Str), vs = [.ref d, .str x] ∧ PrAt H d p ∧ x ∈ pNames p ∧ Q .non H
theorem okCheckName (T : Txt K mg) : FnOk P w K mg base CX0 2 T.aCheckName T.fCheckName ["program", "name"] spCheckName := by
  have GIsFunction : FnOk P w K mg base CX0 1 T.aIsFunction T.fIsFunction ["program", "value"] spIsFunction := okIsFunction T
  refine T.FCheckName.ok scCheckName (fun vs H Q E h => ?_) (fun cdv A outer s H vs Q E hr h => ?_)
  · obtain ⟨d, p, x, rfl, _⟩ := h
    rfl
  obtain ⟨d, p, x, rfl, hpa, hx, q⟩ := h
  refine ⟨_, (pss_one (ps_if (pt_not (pt_val (pe_call GIsFunction (hr.mono (by omega)) rfl T.gIsFunction T.FIsFunction.kp T.bIsFunction .nil pass0 (pa_cons (pv 0) (pa_cons (pv 1) pa_nil)))))
        (pss_one ps_never) pss_nil)), ?_⟩
  exact ⟨_, rfl, _, rfl, d, p, x, rfl, hpa, hx, _, rfl, iteF q⟩
end K02


set_option Elab.async false
set_option linter.all false
set_option maxRecDepth 100000
set_option maxHeartbeats 4000000
namespace K02
open PySem PySem.Spec PyProof.Rows L2 FA
variable {P : Program} {w : World} {K : PySem.W.Frag} {mg : Str → Option Value} {base : Heap}
/-- a source of draws at a: at most n numbers were mixed -/
def WellAt (H : Hp) (a : Addr) (n : Nat) : Prop := ∃ x y z : Int, H a = some (.lst [.int x, .int y, .int z]) ∧ y.natAbs < 2 ^ 200 ∧ 0 ≤ z ∧ z ≤ n
theorem WellAt.mono {H : Hp} {a : Addr} {n m : Nat} (h : WellAt H a n) (hm : n ≤ m) : WellAt H a m := by
  obtain ⟨x, y, z, h1, h2, h3, h4⟩ := h
  exact ⟨x, y, z, h1, h2, h3, by omega⟩
theorem WellAt.keep {H H' : Hp} {a : Addr} {n : Nat} (h : WellAt H a n) (k : ∀ o, H a = some o → H' a = some o) : WellAt H' a n := by
  obtain ⟨x, y, z, h1, h⟩ := h
  exact ⟨x, y, z, k _ h1, h⟩
theorem WellAt.some {H : Hp} {a : Addr} {n : Nat} (h : WellAt H a n) : ∃ o, H a = some o := by
  obtain ⟨x, y, z, h1, _⟩ := h
  exact ⟨_, h1⟩
def spWell : Sp := fun vs H Q _ => ∃ (s : Addr) (ns : List Int) (k : Nat), vs = [.ref s, .int (k : Int)] ∧ SqL K H s (ns.map V.int) ∧ k ≤ 100 ∧ ∀ a H', Same H H' → H a = none → WellAt H' a 0 → Q (.ref a) H'
theorem e39 : ((10 : Int) ^ Int.toNat 39) = 1000000000000000000000000000000000000000 := by decide
theorem okWell (T : Txt K mg) : FnOk P w K mg base CX0 1 T.aLWell T.fLWell ["script", "k"] (spWell (K := K)) := by
  refine T.FLWell.ok scLWell (fun vs H Q E h => ?_) (fun cdv A outer s H vs Q E hr h => ?_)
  · obtain ⟨s, ns, k, rfl, _⟩ := h
    rfl
  obtain ⟨a, ns, k, rfl, hs, hk, q⟩ := h
  have hu := hu_of hr
  refine ⟨_, (pss_cons (ps_set (i := 2) scLWell.nd rfl (by first | exact Or.inl rfl | exact Or.inr rfl) (pe_ifExp (pt_cmpR op_lt (pv 1) (pe_callB call_len_seq (by rfl) T.n_len PySem.boot_len (pa_cons (pv 0) pa_nil)) (nomark _)) (pe_ix ix_list (pv 0) (pv 1) (fun _ _ => rfl)) pe_int))
      (pss_one (ps_ret (pe_lst (pa_cons (pe_callB (call_max2 rfl) (by rfl) T.n_max (by decide +kernel) (pa_cons pe_int (pa_cons (pe_op op_sub (pv 2) (pe_op op_pow pe_int pe_int)) pa_nil))) (pa_cons (pe_op op_add (pe_op op_mul (pe_op op_add (pe_op op_mod (pv 2) (pe_op op_add (pe_op op_pow pe_int pe_int) pe_int)) pe_int) pe_int) (pv 1)) (pa_cons pe_int pa_nil))))))), ?_⟩
  have fin : ∀ cell : Int, (∃ v, ([some (V.ref a), some (V.int (k : Int)), some (V.int cell)] : L2.St)[2]? = some (some v) ∧ v = .int cell) := fun cell => ⟨_, rfl, rfl⟩
  have rest : ∀ (cell : Int) (R : VK), (∀ a' H', Same H H' → H a' = none → WellAt H' a' 0 → R (.ref a') H') → ∀ p, H p = none → R (.ref p) (upd H p (.lst [.int (if cell - (10 : Int) ^ Int.toNat 18 > 0 then cell - (10 : Int) ^ Int.toNat 18 else 0), .int ((cell % ((10 : Int) ^ Int.toNat 39 + 3) + 3) * 128 + (k : Int)), .int 0])) := fun cell R q p hp => by
    refine q p _ (same_upd hp _) hp ⟨_, _, _, upd_same, ?_, Int.le_refl _, Int.le_refl _⟩
    rw [e39]
    have h1 := Int.emod_nonneg cell (b := 1000000000000000000000000000000000000000 + 3) (by decide)
    have h2 := Int.emod_lt_of_pos cell (b := 1000000000000000000000000000000000000000 + 3) (by decide)
    omega
  refine ⟨_, rfl, _, rfl, a, _, rfl, .inl hs, _, _, rfl, rfl, _, rfl, ite2 (fun c => ?_) (fun c => ?_)⟩
  · have c := of_decide_eq_true c
    rw [List.length_map] at c
    have hlt : k < ns.length := by omega
    refine ⟨_, rfl, _, rfl, _, _, _, _, rfl, rfl, hs, atI_nat (j := k) (v := .int ns[k]) (by rw [List.getElem?_map, List.getElem?_eq_getElem hlt]; rfl), ?_⟩
    refine ⟨_, rfl, _, _, rfl, rfl, ⟨by decide, by decide, by decide⟩, _, _, rfl, rfl, _, _, rfl, ?_⟩
    refine ⟨_, rfl, _, _, rfl, rfl, ⟨by decide, by decide, by decide⟩, _, _, rfl, rfl, _, _, rfl, rfl, (by show (0 : Int) < _; rw [e39]; decide), _, _, rfl, rfl, _, _, rfl, rfl, .inr ⟨by decide, by decide⟩, _, rfl, _, _, rfl, rfl, ?_⟩
    refine ⟨Nat.le_of_lt (small1000 (by simp)), fun p hp => rest ns[k] Q q p hp⟩
  · refine ⟨_, rfl, _, _, rfl, rfl, ⟨by decide, by decide, by decide⟩, _, _, rfl, rfl, _, _, rfl, ?_⟩
    refine ⟨_, rfl, _, _, rfl, rfl, ⟨by decide, by decide, by decide⟩, _, _, rfl, rfl, _, _, rfl, rfl, (by show (0 : Int) < _; rw [e39]; decide), _, _, rfl, rfl, _, _, rfl, rfl, .inr ⟨by decide, by decide⟩, _, rfl, _, _, rfl, rfl, ?_⟩
    refine ⟨Nat.le_of_lt (small1000 (by simp)), fun p hp => rest 0 Q q p hp⟩
theorem e41 : ((10 : Int) ^ Int.toNat 41) = 100000000000000000000000000000000000000000 := by decide
theorem e38 : ((10 : Int) ^ Int.toNat 38) = 100000000000000000000000000000000000000 := by decide
def spPull : Sp := fun vs H Q _ => ∃ (a : Addr) (m : Int) (n : Nat), vs = [.ref a, .int m] ∧ 1 ≤ m ∧ m < 1000000 ∧ WellAt H a n ∧ n < 2 ^ 100 ∧
  ∀ r H', 0 ≤ r → r < m → Sm [a] H H' → WellAt H' a (n + 1) → Q (.int r) H'
theorem abs_small {i : Int} {n : Nat} (h : i.natAbs < 2 ^ n) (hn : n ≤ 1000000) : i.natAbs < 2 ^ 1000000 := Nat.lt_of_lt_of_le h (Nat.pow_le_pow_right (by decide) hn)
theorem okPull (T : Txt K mg) : FnOk P w K mg base CX0 1 T.aLPull T.fLPull ["well", "many"] spPull := by
  refine T.FLPull.ok scLPull (fun vs H Q E h => ?_) (fun cdv A outer s H vs Q E hr h => ?_)
  · obtain ⟨a, m, n, rfl, _⟩ := h
    rfl
  obtain ⟨a, m, n, rfl, h1, h2, ⟨x, y, z, hw, hy, hz0, hz⟩, hn, q⟩ := h
  have hu := hu_of hr
  refine ⟨_, (pss_cons (ps_if (pt_cmpR op_gt (pe_ix ix_list (pv 0) pe_int (fun _ _ => rfl)) pe_int (nomark _))
        (pss_cons (ps_set (i := 3) scLPull.nd rfl (by first | exact Or.inl rfl | exact Or.inr rfl) (pe_op op_mod (pe_ix ix_list (pv 0) pe_int (fun _ _ => rfl)) (pv 1)))
        (pss_cons (ps_asg (pe_op op_fdivW (pe_ix ix_list (pv 0) pe_int (fun _ _ => rfl)) (pv 1)) (pg_sub (pv 0) pe_int set_list))
        (pss_one (ps_ret (pv 3))))) pss_nil)
      (pss_cons (ps_asg (pe_op op_add (pe_ix ix_list (pv 0) pe_int (fun _ _ => rfl)) pe_int) (pg_sub (pv 0) pe_int set_list))
      (pss_cons (ps_set (i := 2) scLPull.nd rfl (by first | exact Or.inl rfl | exact Or.inr rfl) (pe_op op_mod (pe_op op_powW (pe_op op_add (pe_ix ix_list (pv 0) pe_int (fun _ _ => rfl)) (pe_op op_mul pe_int (pe_ix ix_list (pv 0) pe_int (fun _ _ => rfl)))) pe_int) (pe_op op_add (pe_op op_pow pe_int pe_int) pe_int)))
      (pss_cons (ps_set (i := 2) scLPull.nd rfl (by first | exact Or.inl rfl | exact Or.inr rfl) (pe_op op_mod (pe_op op_powW (pe_op op_add (pv 2) (pe_op op_mul pe_int (pe_ix ix_list (pv 0) pe_int (fun _ _ => rfl)))) pe_int) (pe_op op_add (pe_op op_pow pe_int pe_int) pe_int)))
      (pss_one (ps_ret (pe_op op_mod (pe_op op_fdivW (pv 2) (pe_op op_pow pe_int pe_int)) (pv 1)))))))), ?_⟩
  have hm : m.natAbs < 2 ^ 20 := by omega
  refine ⟨_, rfl, _, _, _, _, rfl, rfl, SqL.of hw, at_of (j := 0) rfl rfl, _, _, rfl, rfl, _, rfl, ite2 (fun c => ?_) (fun c => ?_)⟩
  · have c := of_decide_eq_true c
    refine ⟨_, rfl, _, _, _, _, rfl, rfl, SqL.of hw, at_of (j := 0) rfl rfl, _, rfl, _, _, rfl, rfl, (by show (0 : Int) < m; omega), ?_⟩
    refine ⟨_, rfl, _, _, _, _, rfl, rfl, SqL.of hw, at_of (j := 0) rfl rfl, _, rfl, _, _, rfl, rfl, wide_div (by omega) hm (by decide) (by decide), ?_⟩
    refine ⟨_, rfl, a, _, 0, 0, rfl, rfl, hw, rfl, ?_⟩
    refine ⟨_, rfl, q _ _ (Int.emod_nonneg _ (by omega)) (Int.emod_lt_of_pos _ (by omega)) (Sm.at (by simp)) ⟨_, y, z, upd_same, hy, hz0, by omega⟩⟩
  · refine ⟨_, rfl, _, _, _, _, rfl, rfl, SqL.of hw, at_of (j := 2) rfl rfl, _, _, rfl, rfl, ?_⟩
    refine ⟨_, rfl, a, _, 2, 2, rfl, rfl, hw, rfl, ?_⟩
    obtain ⟨H2, eH⟩ : ∃ H2, H2 = upd H a (.lst ([V.int x, V.int y, V.int z].set 2 (.int (z + 1)))) := ⟨_, rfl⟩
    have hw2 : H2 a = some (.lst [.int x, .int y, .int (z + 1)]) := by rw [eH]; exact upd_same
    have s2 : Sm [a] H H2 := by rw [eH]; exact Sm.at (by simp)
    rw [← eH]
    have hb : (y + 86028157 * (z + 1)).natAbs < 2 ^ 201 := by omega
    refine ⟨_, rfl, _, _, _, _, rfl, rfl, SqL.of hw2, at_of (j := 1) rfl rfl, _, rfl, _, _, _, _, rfl, rfl, SqL.of hw2, at_of (j := 2) rfl rfl, _, _, rfl, rfl, .inl ⟨by decide, by decide⟩, _, _, rfl, rfl, _, _, rfl, rfl, ⟨by decide, by decide, abs_small hb (by decide)⟩, ?_⟩
    refine ⟨_, _, rfl, rfl, ⟨by decide, by decide, by decide⟩, _, _, rfl, rfl, _, _, rfl, rfl, (by show (0 : Int) < _; rw [e41]; decide), ?_⟩
    have m0 := Int.emod_nonneg ((y + 86028157 * (z + 1)) ^ Int.toNat 3) (b := (10 : Int) ^ Int.toNat 41 + 37) (by rw [e41]; decide)
    have m1 := Int.emod_lt_of_pos ((y + 86028157 * (z + 1)) ^ Int.toNat 3) (b := (10 : Int) ^ Int.toNat 41 + 37) (by rw [e41]; decide)
    have hb2 : ∀ u : Int, 0 ≤ u → u < (10 : Int) ^ Int.toNat 41 + 37 → (u + 32452867 * (z + 1)).natAbs < 2 ^ 201 := fun u h0 h1 => by
      rw [e41] at h1
      omega
    refine ⟨_, rfl, _, rfl, _, _, _, _, rfl, rfl, SqL.of hw2, at_of (j := 2) rfl rfl, _, _, rfl, rfl, .inl ⟨by decide, by decide⟩, _, _, rfl, rfl, _, _, rfl, rfl, ⟨by decide, by decide, abs_small (hb2 _ m0 m1) (by decide)⟩, ?_⟩
    refine ⟨_, _, rfl, rfl, ⟨by decide, by decide, by decide⟩, _, _, rfl, rfl, _, _, rfl, rfl, (by show (0 : Int) < _; rw [e38]; decide), ?_⟩
    refine ⟨_, rfl, _, _, rfl, rfl, ⟨by decide, by decide, by decide⟩, _, _, rfl, rfl, ⟨by decide, by decide⟩, _, rfl, _, _, rfl, rfl, (by show (0 : Int) < m; omega), ?_⟩
    exact q _ _ (Int.emod_nonneg _ (by omega)) (Int.emod_lt_of_pos _ (by omega)) s2 ⟨x, y, z + 1, hw2, hy, by omega, by omega⟩
end K02


set_option Elab.async false
set_option linter.all false
set_option maxRecDepth 100000
set_option maxHeartbeats 4000000
namespace K02
open PySem PySem.Spec PyProof.Rows L2 FA
variable {P : Program} {w : World} {K : PySem.W.Frag} {mg : Str → Option Value} {base : Heap}
theorem yesT {σ : L2.St} {H : Hp} {Q : Bool → Hp → Prop} (h : Q true H) : tYes σ H Q := h
theorem ix_of {n : Nat} {i : Int} (h0 : 0 ≤ i) (h1 : i < n) : ixN n i = some i.toNat := by
  unfold ixN
  rw [if_pos h0, if_pos h1]
theorem erase_perm {α : Type} {l : List α} {i : Nat} (h : i < l.length) : (l[i] :: l.eraseIdx i).Perm l := by
  rw [List.eraseIdx_eq_take_drop_succ]
  have e : l.take i ++ l[i] :: l.drop (i + 1) = l := by rw [← List.drop_eq_getElem_cons h, List.take_append_drop]
  exact List.perm_middle.symm.trans (List.Perm.of_eq e)
def spShuffled : Sp := fun vs H Q _ => ∃ (a b : Addr) (n : Nat) (xs : List V), vs = [.ref a, .ref b] ∧ WellAt H a n ∧ n < 2 ^ 90 ∧ SqL K H b xs ∧ xs.length ≤ 100 ∧
  ∀ r ys H', Sm [a] H H' → H r = none → H' r = some (.lst ys) → ys.Perm xs → WellAt H' a (n + xs.length) → Q (.ref r) H'
theorem okShuffled (T : Txt K mg) : FnOk P w K mg base CX0 2 T.aLShuffled T.fLShuffled ["well", "items"] (spShuffled (K := K)) := by
  have GLPull : FnOk P w K mg base CX0 1 T.aLPull T.fLPull ["well", "many"] spPull := okPull T
  refine T.FLShuffled.ok scLShuffled (fun vs H Q E h => ?_) (fun cdv A outer s H vs Q E hr h => ?_)
  · obtain ⟨a, b, n, xs, rfl, _⟩ := h
    rfl
  obtain ⟨a, b, n, xs, rfl, hw, hn, hs, hlen, q⟩ := h
  have hu := hu_of hr
  refine ⟨_, (pss_cons (ps_set (i := 2) scLShuffled.nd rfl (by first | exact Or.inl rfl | exact Or.inr rfl) (pe_callTy call_list_of (by rfl) T.n_list (by decide +kernel) (pa_cons (pv 1) pa_nil)))
      (pss_one (ps_ret (pe_lc (own := [("turn", 3)]) (g := gName 3) (tt := tYes) rfl scLShuffled.nd (pi_range1 (by rfl) T.n_range (pa_cons (pe_callB call_len_seq (by rfl) T.n_len PySem.boot_len (pa_cons (pv 1) pa_nil)) pa_nil)) (blkOk_by (N := ["well", "items", "left", "turn"]) (sc := defScope sLShuffled) (by decide +kernel)) (fun _ _ _ _ _ => (pg_name (i := 3) scLShuffled.nd rfl (by first | exact Or.inl rfl | exact Or.inr rfl))) (fun _ _ _ _ _ => pts_nil) (fun _ _ _ _ _ => (pe_bmK (K := K) rfl PySem.F.plainAttrs_list PySem.F.slot_list_pop PySem.F.type_list_pop mt_popAt (pv 2) (pa_cons (pe_call GLPull (hr.mono (by omega)) rfl T.gLPull T.FLPull.kp T.bLPull .nil pass0 (pa_cons (pv 0) (pa_cons (pe_callB (call_len_seqK (K := K) rfl) (by rfl) T.n_len PySem.boot_len (pa_cons (pv 2) pa_nil)) pa_nil))) pa_nil))))))), ?_⟩
  refine ⟨_, rfl, b, _, rfl, .inl hs, fun l hl => ?_⟩
  have s1 := same_upd hl (.lst xs)
  have hw0 := hw.some
  obtain ⟨ow, how⟩ := hw0
  have hla : l ≠ a := (ne_of_none how hl).symm
  refine ⟨_, rfl, _, _, rfl, .inl (s1.seq hs), (xs.length : Nat), rfl, by omega, by have := small1000 (n := xs.length) (by omega); have := sizeLine_eq; omega, fun D hD => ?_⟩
  have en : ((xs.length : Nat) : Int).toNat = xs.length := by omega
  rw [en]
  have hDl : D ≠ l := fun z => by rw [z, upd_same] at hD; cases hD
  have hD0 : H D = none := by rw [upd_ne hDl] at hD; exact hD
  have hDa : D ≠ a := (ne_of_none how hD0).symm
  refine lc_range (lo := 0) (n := xs.length) (fun i H' => ∃ acc rem, H' D = some (.lst acc) ∧ H' l = some (.lst rem) ∧ acc.length = i ∧ rem.length = xs.length - i ∧ (acc ++ rem).Perm xs ∧ Sm [a] H H' ∧ WellAt H' a (n + i)) ?_ ?_ ?_
  · refine ⟨[], xs, upd_same, by rw [upd_ne hDl.symm]; exact upd_same, rfl, by omega, by simp, ?_, ?_⟩
    · exact (Sm.new hl).trans (Sm.new hD)
    · exact (hw.mono (by omega)).keep fun o e => same_upd hD _ _ _ (s1 _ _ e)
  · rintro i H1 hi ⟨acc, rem, h1, h2, h3, h4, h5, h6, h7⟩
    refine ⟨rfl, yesT (iteT ?_)⟩
    refine ⟨_, rfl, .inl ⟨rfl, _, SqL.of h2⟩, _, rfl, _, rfl, l, _, rfl, .inl (SqL.of h2), a, _, n + i, rfl, by omega, by omega, h7, by omega, fun r H2 r0 r1 sm hw2 => ?_⟩
    have g1 : H2 D = some (.lst acc) := sm _ _ (by simp [hDa]) h1
    have g2 : H2 l = some (.lst rem) := sm _ _ (by simp [hla]) h2
    have hk : r.toNat < rem.length := by omega
    refine ⟨l, rem, r, r.toNat, rem[r.toNat], rfl, rfl, g2, by omega, by omega, (ixN_seq (ix_of r0 (by omega))).1, List.getElem?_eq_getElem hk, ?_⟩
    refine ⟨acc, by rw [upd_ne hDl]; exact g1, small1000 (by omega), acc ++ [rem[r.toNat]], rem.eraseIdx r.toNat, upd_same, by rw [upd_ne hDl.symm, upd_same], by simp [h3], by rw [List.length_eraseIdx, if_pos hk]; omega, ?_, ?_, ?_⟩
    · refine List.Perm.trans ?_ h5
      rw [List.append_assoc]
      exact List.Perm.append_left acc (erase_perm hk)
    · intro c o hc e
      have e1 := sm c o hc (h6 c o hc e)
      rw [upd_ne, upd_ne]
      · exact e1
      · exact ne_of_none e hl
      · exact ne_of_none e hD0
    · exact (hw2.keep fun o e => by rw [upd_ne hDa.symm, upd_ne hla.symm]; exact e).mono (by omega)
  · rintro H1 ⟨acc, rem, h1, h2, h3, h4, h5, h6, h7⟩
    have : rem = [] := List.eq_nil_of_length_eq_zero (by omega)
    subst this
    rw [List.append_nil] at h5
    exact q D acc H1 h6 hD0 h1 h5 h7
end K02


set_option Elab.async false
set_option linter.all false
set_option maxRecDepth 100000
set_option maxHeartbeats 4000000
namespace K02
open PySem PySem.Spec PyProof.Rows L2 FA
variable {P : Program} {w : World} {K : PySem.W.Frag} {mg : Str → Option Value} {base : Heap}
/-- what is new in H' -/
def fr (H H' : Hp) : Hp := fun b => match H b with
  | none => H' b
  | some _ => none
theorem fr_some {H H' : Hp} {b : Addr} {o : HO} : fr H H' b = some o ↔ H b = none ∧ H' b = some o := by
  unfold fr
  cases H b with
  | none => simp
  | some u => simp
theorem none_back {W : List Addr} {H H1 : Hp} {b : Addr} (s : Sm W H H1) (k : ∀ a ∈ W, ∃ o, H1 a = some o) (h : H1 b = none) : H b = none := by
  by_cases hb : b ∈ W
  · obtain ⟨o, e⟩ := k b hb
    rw [e] at h; cases h
  · exact s.none hb h
/-- new behind H1: new behind H, and kept -/
theorem fr_step {W : List Addr} {H H1 H2 H3 : Hp} (s : Sm W H H1) (k : ∀ a ∈ W, ∃ o, H1 a = some o) (s2 : Sm W H2 H3) : Kp (fr H1 H2) (fr H H3) := by
  have key : ∀ a o, fr H1 H2 a = some o → fr H H3 a = some o := fun a o e => by
    rw [fr_some] at e ⊢
    refine ⟨none_back s k e.1, s2 a o (fun z => ?_) e.2⟩
    obtain ⟨u, e2⟩ := k a z
    rw [e2] at e
    cases e.1
  exact ⟨fun a xs e => key _ _ e, fun a xs e => key _ _ e⟩
theorem strs_ne {ls : List Str} {x : Int} {r : List V} (h : (ls.map V.str) = V.int x :: r) : False := by
  cases ls with
  | nil => cases h
  | cons a r => cases h
def cI : Nat → Nat
  | 0 => 0
  | 1 => 2
  | 2 => 104
  | 3 => 4000
  | _ + 4 => 200000
def cB : Nat → Nat
  | 0 => 0
  | 1 => 20
  | 2 => 700
  | 3 => 30000
  | _ + 4 => 2000000
/-- what both defs are handed: the well, the names that may have to be called, all names, what room is left -/
structure Given (H : Hp) (a la ea r : Addr) (n : Nat) (ls es : List Str) (c i : Int) : Prop where
  w : WellAt H a n
  nb : n ≤ 2 ^ 80
  l : H la = some (.lst (ls.map V.str))
  e : H ea = some (.lst (es.map V.str))
  r : H r = some (.lst [.int c, .int i])
  sub : ∀ x ∈ ls, x ∈ es
  nm : ∀ x ∈ es, FA.okName x
  len : es.length ≤ 6
  len2 : ls.length ≤ 6
theorem Given.la {H : Hp} {a la ea r : Addr} {n : Nat} {ls es : List Str} {c i : Int} (g : Given H a la ea r n ls es c i) : la ≠ a ∧ la ≠ r ∧ ea ≠ a ∧ ea ≠ r ∧ a ≠ r := by
  obtain ⟨x, y, z, hw, _⟩ := g.w
  refine ⟨?_, ?_, ?_, ?_, ?_⟩
  · rintro rfl; have := g.l; rw [hw] at this; exact strs_ne (HO.lst.inj (Option.some.inj this)).symm
  · rintro rfl; have := g.l; rw [g.r] at this; exact strs_ne (HO.lst.inj (Option.some.inj this)).symm
  · rintro rfl; have := g.e; rw [hw] at this; exact strs_ne (HO.lst.inj (Option.some.inj this)).symm
  · rintro rfl; have := g.e; rw [g.r] at this; exact strs_ne (HO.lst.inj (Option.some.inj this)).symm
  · rintro rfl; have := g.r; rw [hw] at this; cases this
/-- the same a step further on -/
theorem Given.on {H H' : Hp} {a la ea r : Addr} {n m : Nat} {ls es : List Str} {c i c' i' : Int} (g : Given H a la ea r n ls es c i) (s : Sm [a, r] H H') (hw : WellAt H' a m) (hm : m ≤ 2 ^ 80) (hr : H' r = some (.lst [.int c', .int i'])) : Given H' a la ea r m ls es c' i' := by
  obtain ⟨d1, d2, d3, d4, _⟩ := g.la
  exact ⟨hw, hm, s _ _ (by simp [d1, d2]) g.l, s _ _ (by simp [d3, d4]) g.e, hr, g.sub, g.nm, g.len, g.len2⟩
/-- with all names as those that may have to be called -/
theorem Given.all {H : Hp} {a la ea r : Addr} {n : Nat} {ls es : List Str} {c i : Int} (g : Given H a la ea r n ls es c i) : Given H a ea ea r n es es c i := ⟨g.w, g.nb, g.e, g.e, g.r, fun _ h => h, g.nm, g.len, g.len⟩
theorem Given.kept {H : Hp} {a la ea r : Addr} {n : Nat} {ls es : List Str} {c i : Int} (g : Given H a la ea r n ls es c i) : ∀ b ∈ [a, r], ∃ o, H b = some o := fun b hb => by
  simp only [List.mem_cons, List.not_mem_nil, or_false] at hb
  rcases hb with rfl | rfl
  · exact g.w.some
  · exact ⟨_, g.r⟩
/-- what an item's def gives -/
def GaveItem (j : Nat) (es : List Str) (H H' : Hp) (v : V) (c i c' i' : Int) : Prop :=
  (v = .non ∧ c' = c) ∨ ∃ it, ItAt (fr H H') v it ∧ v ≠ .non ∧ okI es it ∧ nC it + c' ≤ c ∧ 1 + nI it + i' ≤ i ∧ dI it + 1 ≤ j
def spLItem (j : Nat) : Sp := fun vs H Q _ => ∃ (a la ea r : Addr) (n : Nat) (ls es : List Str) (c i : Int), vs = [.ref a, .ref la, .ref ea, .ref r, .int (5 - (j : Int))] ∧ 1 ≤ j ∧ j ≤ 4 ∧ Given H a la ea r n ls es c i ∧ n + cI j ≤ 2 ^ 80 ∧ 1 ≤ c ∧ 1 ≤ i ∧
  ∀ v c' i' H', Sm [a, r] H H' → WellAt H' a (n + cI j) → H' r = some (.lst [.int c', .int i']) → 0 ≤ c' → 0 ≤ i' → i' ≤ i → GaveItem j es H H' v c i c' i' → Q v H'
/-- a body whose items stand in no list b -/
def BdAt1 (H : Hp) (b : Addr) (l : List FA.It) : Prop := ∃ vs, H b = some (.lst vs) ∧ ItsAt (wo [b] H) vs l
theorem BdAt1.bd {H : Hp} {b : Addr} {l : List FA.It} (h : BdAt1 H b l) : BdAt H b l := by
  obtain ⟨vs, h1, h2⟩ := h
  exact ⟨vs, h1, h2.keep ⟨fun x xs e => (wo_some.mp e).2, fun x xs e => (wo_some.mp e).2⟩⟩
def spLBody (j : Nat) : Sp := fun vs H Q _ => ∃ (a la ea r : Addr) (n : Nat) (ls es : List Str) (c i : Int), vs = [.ref a, .ref la, .ref ea, .ref r, .int (5 - (j : Int))] ∧ 1 ≤ j ∧ j ≤ 4 ∧ Given H a la ea r n ls es c i ∧ n + cB j ≤ 2 ^ 80 ∧ 0 ≤ c ∧ 0 ≤ i ∧
  ∀ b l c' i' H', Sm [a, r] H H' → WellAt H' a (n + cB j) → H' r = some (.lst [.int c', .int i']) → 0 ≤ c' → 0 ≤ i' → i' ≤ i → BdAt1 (fr H H') b l → okB es l → nCB l + c' ≤ c → nIB l + i' ≤ i → (l = [] → c' = c) → dB l ≤ j → Q (.ref b) H'
theorem okB_snoc {ns : List Str} {l : List FA.It} {it : FA.It} (h : okB ns l) (h2 : okI ns it) : okB ns (l ++ [it]) := by
  rw [okB_all] at h ⊢
  intro i hi
  rcases List.mem_append.mp hi with z | z
  · exact h i z
  · simp at z; rw [z]; exact h2
theorem nCB_snoc : ∀ (l : List FA.It) (it : FA.It), nCB (l ++ [it]) = nCB l + nC it
  | [], it => by simp [nCB]
  | i :: r, it => by simp only [List.cons_append, nCB, nCB_snoc r it]; omega
theorem nIB_snoc : ∀ (l : List FA.It) (it : FA.It), nIB (l ++ [it]) = nIB l + (1 + nI it)
  | [], it => by simp [nIB]
  | i :: r, it => by simp only [List.cons_append, nIB, nIB_snoc r it]; omega
theorem dB_snoc : ∀ (l : List FA.It) (it : FA.It), dB (l ++ [it]) = max (dB l) (1 + dI it)
  | [], it => by simp only [List.nil_append, dB]; omega
  | i :: r, it => by simp only [List.cons_append, dB, dB_snoc r it]; omega
theorem cB_eq (j : Nat) (h1 : 1 ≤ j) (h4 : j ≤ 4) : 2 + 6 * cI j ≤ cB j := by
  match j, h1, h4 with
  | 1, _, _ => decide
  | 2, _, _ => decide
  | 3, _, _ => decide
  | 4, _, _ => decide
theorem okLBody (T : Txt K mg) (j : Nat) (GLItem : FnOk P w K mg base CX0 (2 * j) T.aLItem T.fLItem ["well", "later", "every", "room", "deep"] (spLItem j)) (hj0 : 1 ≤ j) :
    FnOk P w K mg base CX0 (2 * j + 1) T.aLBody T.fLBody ["well", "later", "every", "room", "deep"] (spLBody j) := by
  have GLPull : FnOk P w K mg base CX0 1 T.aLPull T.fLPull ["well", "many"] spPull := okPull T
  refine T.FLBody.ok scLBody (fun vs H Q E h => ?_) (fun cdv A outer s H vs Q E hr h => ?_)
  · obtain ⟨a, la, ea, r, n, ls, es, c, i, rfl, _⟩ := h
    rfl
  obtain ⟨a, la, ea, r, n, ls, es, c, i, rfl, hj1, hj4, g, hn, hc, hi, q⟩ := h
  have hu := hu_of hr
  refine ⟨_, (pss_cons (ps_set (i := 5) scLBody.nd rfl (by first | exact Or.inl rfl | exact Or.inr rfl) (pe_lst pa_nil))
      (pss_cons (ps_for PassesOwn.never rfl (pi_range1 (by rfl) T.n_range (pa_cons (pe_ix ix_list (pe_lst (pa_cons (pe_op op_add pe_int (pe_call GLPull (hr.mono (by omega)) rfl T.gLPull T.FLPull.kp T.bLPull .nil pass0 (pa_cons (pv 0) (pa_cons pe_int pa_nil)))) (pa_cons (pe_call GLPull (hr.mono (by omega)) rfl T.gLPull T.FLPull.kp T.bLPull .nil pass0 (pa_cons (pv 0) (pa_cons pe_int pa_nil))) pa_nil))) (pe_callTy call_int1 (by rfl) T.n_int (by decide +kernel) (pa_cons (pe_cmpR op_eq (pv 4) pe_int (nomark _)) pa_nil)) (fun _ _ => rfl)) pa_nil)) (pg_name (i := 6) scLBody.nd rfl (by first | exact Or.inl rfl | exact Or.inr rfl))
        (pss_cons (ps_set (i := 7) scLBody.nd rfl (by first | exact Or.inl rfl | exact Or.inr rfl) (pe_ifExp (PW.pt (pw_and (pt_cmpR op_gt (pe_ix ix_list (pv 3) pe_int (fun _ _ => rfl)) pe_int (nomark _)) (pw_and1 (pt_cmpR op_gt (pe_ix ix_list (pv 3) pe_int (fun _ _ => rfl)) pe_int (nomark _))))) (pe_call GLItem (hr.mono (by omega)) rfl T.gLItem T.FLItem.kp T.bLItem .nil pass0 (pa_cons (pv 0) (pa_cons (pv 1) (pa_cons (pv 2) (pa_cons (pv 3) (pa_cons (pv 4) pa_nil)))))) pe_non))
        (pss_one (ps_if (pt_cmpR op_notN (pv 7) pe_non (nomark _))
          (pss_one (ps_expr (pe_bm PySem.F.plainAttrs_list PySem.F.slot_list_append PySem.F.type_list_append mt_append (pv 5) (pa_cons (pv 7) pa_nil)))) pss_nil))))
      (pss_one (ps_ret (pv 5))))), ?_⟩
  obtain ⟨d1, d2, d3, d4, d5⟩ := g.la
  have hcb := cB_eq j hj1 hj4
  refine ⟨Nat.le_of_lt (small1000 (by simp)), fun b hb => ?_⟩
  have s1 := same_upd hb (.lst [])
  have bne : ∀ x o, H x = some o → x ≠ b := fun x o e => ne_of_none e hb
  obtain ⟨ow, how⟩ := g.w.some
  have hba : b ≠ a := (bne _ _ how).symm
  have hbr : b ≠ r := (bne _ _ g.r).symm
  refine ⟨_, rfl, a, 2, n, rfl, by decide, by decide, g.w.keep fun o e => s1 _ _ e, by omega, fun r1 H2 r1a r1b sm2 hw2 => ?_⟩
  refine ⟨_, _, rfl, rfl, ?_⟩
  refine ⟨_, rfl, a, 7, n + 1, rfl, by decide, by decide, hw2, by omega, fun r2 H3 r2a r2b sm3 hw3 => ?_⟩
  refine ⟨Nat.le_of_lt (small1000 (by simp)), fun p hp => ?_⟩
  have hb3 : H3 b = some (.lst []) := sm3 _ _ (by simp [hba]) (sm2 _ _ (by simp [hba]) upd_same)
  have sm03 : Sm [a, r] H H3 := fun x o hx e => sm3 x o (by simp at hx ⊢; exact hx.1) (sm2 x o (by simp at hx ⊢; exact hx.1) (s1 _ _ e))
  have hr3 : H3 r = some (.lst [.int c, .int i]) := sm3 _ _ (by simp [d5.symm]) (sm2 _ _ (by simp [d5.symm]) (s1 _ _ g.r))
  -- how many turns
  obtain ⟨m, hm0, hm6, hix⟩ : ∃ m : Int, 0 ≤ m ∧ m ≤ 6 ∧ atI [V.int (1 + r1), V.int r2] (if decide (V.int (5 - (j : Int)) = V.int 1) = true then 1 else 0) = some (.int m) := by
    by_cases e : V.int (5 - (j : Int)) = V.int 1
    · rw [decide_eq_true e, if_pos rfl]
      exact ⟨r2, r2a, by omega, rfl⟩
    · rw [decide_eq_false e, if_neg (by decide)]
      exact ⟨1 + r1, by omega, by omega, rfl⟩
  refine ⟨_, rfl, rfl, .inr ⟨_, rfl, ?_⟩⟩
  refine ⟨p, _, _, .int m, rfl, rfl, SqL.of upd_same, hix, m, rfl, by omega, by omega, ?_⟩
  have s4 := same_upd hp (.lst [V.int (1 + r1), V.int r2])
  have sm04 : Sm [a, r] H (upd H3 p (.lst [V.int (1 + r1), V.int r2])) := sm03.trans (Sm.of_same s4)
  have hb4 := s4 _ _ hb3
  have hr4 := s4 _ _ hr3
  have hw4 : WellAt (upd H3 p (.lst [V.int (1 + r1), V.int r2])) a (n + 2) := hw3.keep fun o e => s4 _ _ e
  generalize upd H3 p (.lst [V.int (1 + r1), V.int r2]) = H4 at sm04 hb4 hr4 hw4 ⊢
  refine for_range (lo := 0) (n := m.toNat) (fun k σ H' => ∃ l vs v6 v7 c' i', σ = [some (.ref a), some (.ref la), some (.ref ea), some (.ref r), some (.int (5 - (j : Int))), some (.ref b), v6, v7] ∧ Sm [a, r] H H' ∧ H' b = some (.lst vs) ∧ vs.length ≤ k ∧ ItsAt (wo [b] (fr H H')) vs l ∧ WellAt H' a (n + 2 + k * cI j) ∧
    H' r = some (.lst [.int c', .int i']) ∧ 0 ≤ c' ∧ 0 ≤ i' ∧ i' ≤ i ∧ okB es l ∧ nCB l + c' ≤ c ∧ nIB l + i' ≤ i ∧ (l = [] → c' = c) ∧ dB l ≤ j) ?_ ?_ ?_
  · refine ⟨[], [], none, none, c, i, rfl, sm04, hb4, Nat.le_refl _, .nil, hw4.mono (by omega), hr4, hc, hi, Int.le_refl _, by simp [okB], by simp [nCB], by simp [nIB], fun _ => rfl, by simp only [dB]; omega⟩
  · rintro k σ H5 hk ⟨l, vs, v6, v7, c', i', rfl, sm5, hb5, hvl, its5, hw5, hr5, hc0, hi0, hi1, ok5, nc5, ni5, em5, d5'⟩
    have hkj : n + 2 + (k + 1) * cI j ≤ n + cB j := by
      have : (k + 1) * cI j ≤ 6 * cI j := Nat.mul_le_mul_right _ (by omega)
      omega
    have hkj' : n + 2 + k * cI j + cI j = n + 2 + (k + 1) * cI j := by rw [Nat.succ_mul]; omega
    have stay : ∃ l vs v6 v7 c' i', ([some (.ref a), some (.ref la), some (.ref ea), some (.ref r), some (.int (5 - (j : Int))), some (.ref b), some (.int (0 + (k : Int))), some .non] : L2.St) = [some (.ref a), some (.ref la), some (.ref ea), some (.ref r), some (.int (5 - (j : Int))), some (.ref b), v6, v7] ∧ Sm [a, r] H H5 ∧ H5 b = some (.lst vs) ∧ vs.length ≤ k + 1 ∧ ItsAt (wo [b] (fr H H5)) vs l ∧ WellAt H5 a (n + 2 + (k + 1) * cI j) ∧
        H5 r = some (.lst [.int c', .int i']) ∧ 0 ≤ c' ∧ 0 ≤ i' ∧ i' ≤ i ∧ okB es l ∧ nCB l + c' ≤ c ∧ nIB l + i' ≤ i ∧ (l = [] → c' = c) ∧ dB l ≤ j :=
      ⟨l, vs, _, _, c', i', rfl, sm5, hb5, by omega, its5, hw5.mono (by omega), hr5, hc0, hi0, hi1, ok5, nc5, ni5, em5, d5'⟩
    refine ⟨_, rfl, _, _, _, _, rfl, rfl, SqL.of hr5, at_of (j := 0) rfl rfl, _, _, rfl, rfl, _, rfl, ite2 (fun h1 => ?_) (fun h1 => ?_)⟩
    · have h1 := of_decide_eq_true h1
      refine ⟨_, rfl, _, _, _, _, rfl, rfl, SqL.of hr5, at_of (j := 1) rfl rfl, _, _, rfl, rfl, _, rfl, ite2 (fun h2 => ?_) (fun h2 => ?_)⟩
      · have h2 := of_decide_eq_true h2
        have g5 : Given H5 a la ea r (n + 2 + k * cI j) ls es c' i' := g.on sm5 hw5 (by omega) hr5
        refine ⟨_, rfl, _, rfl, _, rfl, _, rfl, _, rfl, a, la, ea, r, n + 2 + k * cI j, ls, es, c', i', rfl, hj1, hj4, g5, by omega, by omega, by omega, fun v c2 i2 H6 sm6 hw6 hr6 hc2 hi2 hi3 gave => ?_⟩
        have hb6 : H6 b = some (.lst vs) := sm6 _ _ (by simp [hba, hbr]) hb5
        have kp0 : Kp (wo [b] (fr H H5)) (wo [b] (fr H H6)) := by
          have key : ∀ x o, wo [b] (fr H H5) x = some o → wo [b] (fr H H6) x = some o := fun x o e => by
            rw [wo_some, fr_some] at e ⊢
            refine ⟨e.1, e.2.1, sm6 x o (fun z => ?_) e.2.2⟩
            obtain ⟨u, e2⟩ := g.kept x z
            rw [e2] at e
            cases e.2.1
          exact ⟨fun x xs e => key _ _ e, fun x xs e => key _ _ e⟩
        rcases gave with ⟨rfl, rfl⟩ | ⟨it, hit, hvn, oit, nit, iit, dit⟩
        · refine ⟨_, rfl, rfl, _, rfl, ite2 (fun z => absurd z (by simp)) (fun _ => ?_)⟩
          exact ⟨l, vs, _, _, c2, i2, rfl, sm5.trans sm6, hb6, by omega, its5.keep kp0, by rw [← hkj']; exact hw6, hr6, hc2, hi2, by omega, ok5, nc5, by omega, em5, d5'⟩
        · refine ⟨_, rfl, rfl, _, rfl, ite2 (fun _ => ?_) (fun z => absurd (by rw [decide_eq_false hvn]; rfl) z)⟩
          refine ⟨_, rfl, .inl ⟨rfl, _, SqL.of hb6⟩, _, rfl, b, vs, v, rfl, rfl, hb6, small1000 (by omega), ?_⟩
          -- the item is new, and not the body itself
          have kp1 : Kp (fr H5 H6) (wo [b] (fr H H6)) := by
            have key : ∀ x o, fr H5 H6 x = some o → wo [b] (fr H H6) x = some o := fun x o e => by
              rw [fr_some] at e
              rw [wo_some, fr_some]
              refine ⟨?_, none_back sm5 g5.kept e.1, e.2⟩
              simp only [List.mem_singleton]
              rintro rfl
              rw [hb5] at e
              cases e.1
            exact ⟨fun x xs e => key _ _ e, fun x xs e => key _ _ e⟩
          have kp2 : Kp (wo [b] (fr H H6)) (wo [b] (fr H (upd H6 b (.lst (vs ++ [v]))))) := by
            have key : ∀ x o, wo [b] (fr H H6) x = some o → wo [b] (fr H (upd H6 b (.lst (vs ++ [v])))) x = some o := fun x o e => by
              rw [wo_some, fr_some] at e ⊢
              refine ⟨e.1, e.2.1, ?_⟩
              rw [upd_ne (by simpa using e.1)]
              exact e.2.2
            exact ⟨fun x xs e => key _ _ e, fun x xs e => key _ _ e⟩
          have smu : Sm [a, r] H (upd H6 b (.lst (vs ++ [v]))) := fun x o hx e => by
            rw [upd_ne (bne x o e)]
            exact sm6 x o hx (sm5 x o hx e)
          refine ⟨l ++ [it], vs ++ [v], _, _, c2, i2, rfl, smu, upd_same, by simp; omega, ((its5.keep kp0).keep kp2).append (.cons ((hit.keep kp1).keep kp2) .nil), ?_, by rw [upd_ne hbr.symm]; exact hr6, hc2, hi2, by omega, okB_snoc ok5 oit, ?_, ?_, ?_, ?_⟩
          · rw [← hkj']
            exact hw6.keep fun o e => by rw [upd_ne hba.symm]; exact e
          · rw [nCB_snoc]; omega
          · rw [nIB_snoc]; omega
          · intro z; simp at z
          · rw [dB_snoc]; omega
      · refine ⟨_, rfl, rfl, _, rfl, ite2 (fun z => absurd z (by simp)) (fun _ => stay)⟩
    · refine ⟨_, rfl, rfl, _, rfl, ite2 (fun z => absurd z (by simp)) (fun _ => stay)⟩
  · rintro σ H5 ⟨l, vs, v6, v7, c', i', rfl, sm5, hb5, hvl, its5, hw5, hr5, hc0, hi0, hi1, ok5, nc5, ni5, em5, d5'⟩
    have hm : n + 2 + m.toNat * cI j ≤ n + cB j := by
      have : m.toNat * cI j ≤ 6 * cI j := Nat.mul_le_mul_right _ (by omega)
      omega
    refine ⟨_, rfl, q b l c' i' H5 sm5 (hw5.mono hm) hr5 hc0 hi0 hi1 ⟨vs, fr_some.mpr ⟨hb, hb5⟩, its5⟩ ok5 nc5 ni5 em5 d5'⟩
end K02


set_option Elab.async false
set_option linter.all false
set_option maxRecDepth 100000
set_option maxHeartbeats 4000000
namespace K02
open PySem PySem.Spec PyProof.Rows L2 FA
variable {P : Program} {w : World} {K : PySem.W.Frag} {mg : Str → Option Value} {base : Heap}
theorem split_at {X : Cx} {body : List Stmt} {D0 : Ends} {σ0 : L2.St} {H0 : Hp} (k : Nat) (R : Ends → L2.St → Hp → Prop) (h2 : ∃ u, PSs X (body.drop k) u ∧ ∀ D σ H, R D σ H → u D σ H)
    (h1 : ∀ u, PSs X (body.drop k) u → (∀ D σ H, R D σ H → u D σ H) → ∃ t, PSs X body t ∧ t D0 σ0 H0) : ∃ t, PSs X body t ∧ t D0 σ0 H0 := by
  obtain ⟨u, a, b⟩ := h2
  exact h1 u a b
theorem dp_strs {H : Hp} : ∀ ls : List Str, DpAll K H (ls.map V.str) (ls.map PyData.str)
  | [] => .nil
  | x :: r => .cons (.str x) (dp_strs r)
theorem strs_shaped {ls : List Str} (h : ∀ x ∈ ls, FA.okName x) : SeqAt.shaped (.list (ls.map PyData.str)) = true := by
  refine dt_shaped ?_ ?_
  · induction ls with
    | nil => rfl
    | cons x r ih =>
      simp only [List.map_cons, PyData.canLayAll0, PyData.canLay0, (h x (by simp)).strOk, Bool.true_and]
      exact ih fun y hy => h y (List.mem_cons_of_mem _ hy)
  · have : ∀ ls : List Str, PyData.depthAll (ls.map PyData.str) = 0 := fun ls => by
      induction ls with
      | nil => rfl
      | cons x r ih => simp only [List.map_cons, PyData.depthAll, PyData.depth, ih]; rfl
    rw [this]; omega
theorem eqv_nil (ds : List PyData) : PyData.eqv (.list ds) (.list []) = ds.isEmpty := by
  cases ds with
  | nil => simp [PyData.eqv, PyData.eqvAll]
  | cons a r => simp [PyData.eqv, PyData.eqvAll]
theorem cI_eq (j : Nat) (h1 : 1 ≤ j) (h4 : j ≤ 4) : 4 + 5 * cB (j - 1) ≤ cI j ∨ j = 1 ∧ cI j = 2 := by
  match j, h1, h4 with
  | 1, _, _ => exact .inr ⟨rfl, rfl⟩
  | 2, _, _ => exact .inl (by decide)
  | 3, _, _ => exact .inl (by decide)
  | 4, _, _ => exact .inl (by decide)
theorem nCBs_app : ∀ a b : List (List FA.It), nCBs (a ++ b) = nCBs a + nCBs b
  | [], b => by simp [nCBs]
  | x :: r, b => by simp only [List.cons_append, nCBs, nCBs_app r b]; omega
theorem nIBs_app : ∀ a b : List (List FA.It), nIBs (a ++ b) = nIBs a + nIBs b
  | [], b => by simp [nIBs]
  | x :: r, b => by simp only [List.cons_append, nIBs, nIBs_app r b]; omega
theorem dBs_app : ∀ a b : List (List FA.It), dBs (a ++ b) = max (dBs a) (dBs b)
  | [], b => by simp only [List.nil_append, dBs]; omega
  | x :: r, b => by simp only [List.cons_append, dBs, dBs_app r b]; omega
theorem okBs_app {ns : List Str} {a b : List (List FA.It)} : okBs ns (a ++ b) ↔ okBs ns a ∧ okBs ns b := by
  simp only [okBs_all, List.mem_append]
  exact ⟨fun h => ⟨fun x hx => h x (.inl hx), fun x hx => h x (.inr hx)⟩, fun h x hx => hx.elim (h.1 x) (h.2 x)⟩
/-- the bodies that are not empty -/
def full (bs : List (List FA.It)) : List (List FA.It) := bs.filter fun b => !b.isEmpty
theorem full_cons_ne {b : List FA.It} {r : List (List FA.It)} (h : b ≠ []) : full (b :: r) = b :: full r := by
  unfold full
  cases b with
  | nil => exact absurd rfl h
  | cons _ _ => simp
theorem full_cons_nil {r : List (List FA.It)} : full ([] :: r) = full r := by simp [full]
theorem full_facts {ns : List Str} : ∀ {bs : List (List FA.It)}, okBs ns bs → nCBs (full bs) = nCBs bs ∧ nIBs (full bs) = nIBs bs ∧ dBs (full bs) ≤ dBs bs ∧ okBs ns (full bs) ∧ (full bs).countP (fun b => b.isEmpty) = 0 ∧ (full bs).length ≤ bs.length
  | [], _ => by simp [full, nCBs, nIBs, okBs]
  | [] :: r, h => by
    simp only [okBs] at h
    obtain ⟨a1, a2, a3, a4, a5, a6⟩ := full_facts h.2
    rw [full_cons_nil]
    refine ⟨by simp only [nCBs, nCB]; omega, by simp only [nIBs, nIB]; omega, by simp only [dBs]; omega, a4, a5, by simp; omega⟩
  | (i :: b) :: r, h => by
    simp only [okBs] at h
    obtain ⟨a1, a2, a3, a4, a5, a6⟩ := full_facts h.2
    rw [full_cons_ne (by simp)]
    refine ⟨by simp only [nCBs]; omega, by simp only [nIBs]; omega, by simp only [dBs]; omega, by simp only [okBs]; exact ⟨h.1, a4⟩, by simp [a5], by simp; omega⟩
theorem full_len {bs : List (List FA.It)} (h : (full bs).length = 0) : ∀ b ∈ bs, b = [] := fun b hb => by
  have : full bs = [] := List.eq_nil_of_length_eq_zero h
  unfold full at this
  rw [List.filter_eq_nil_iff] at this
  have := this b hb
  cases b with
  | nil => rfl
  | cons _ _ => simp at this
/-- what is put into a one: the full bodies, and an empty one if there was any -/
def some1 (bs : List (List FA.It)) : List (List FA.It) := full bs ++ (if (full bs).length < bs.length then [[]] else [])
theorem some1_facts {ns : List Str} {bs : List (List FA.It)} (h : okBs ns bs) (hl : 2 ≤ bs.length) (h4 : bs.length ≤ 4) (k : Nat) (hs : 1 < (some1 bs).length) :
    okI ns (.one ((some1 bs).drop k ++ (some1 bs).take k)) ∧ nC (.one ((some1 bs).drop k ++ (some1 bs).take k)) ≤ nCBs bs ∧ nI (.one ((some1 bs).drop k ++ (some1 bs).take k)) ≤ nIBs bs ∧ dI (.one ((some1 bs).drop k ++ (some1 bs).take k)) ≤ max 1 (dBs bs) := by
  obtain ⟨a1, a2, a3, a4, a5, a6⟩ := full_facts h
  have t := List.take_append_drop k (some1 bs)
  have e1 : nCBs ((some1 bs).drop k ++ (some1 bs).take k) = nCBs (some1 bs) := by
    rw [← t, nCBs_app, nCBs_app, t]; omega
  have e2 : nIBs ((some1 bs).drop k ++ (some1 bs).take k) = nIBs (some1 bs) := by
    rw [← t, nIBs_app, nIBs_app, t]; omega
  have e3 : dBs ((some1 bs).drop k ++ (some1 bs).take k) = dBs (some1 bs) := by
    rw [← t, dBs_app, dBs_app, t]; omega
  have e4 : okBs ns (some1 bs) := by
    unfold some1
    rw [okBs_app]
    refine ⟨a4, ?_⟩
    split <;> simp [okBs, okB]
  have e5 : okBs ns ((some1 bs).drop k ++ (some1 bs).take k) := by
    rw [← t, okBs_app] at e4
    rw [okBs_app]
    exact ⟨e4.2, e4.1⟩
  have e6 : ((some1 bs).drop k ++ (some1 bs).take k).length = (some1 bs).length := by
    rw [List.length_append, List.length_drop, List.length_take]; omega
  have e7 : ((some1 bs).drop k ++ (some1 bs).take k).countP (fun b => b.isEmpty) = (some1 bs).countP fun b => b.isEmpty := by
    have q := congrArg (List.countP fun b => b.isEmpty) t
    rw [List.countP_append] at q
    rw [List.countP_append]; omega
  have f1 : nCBs (some1 bs) = nCBs bs := by
    unfold some1
    rw [nCBs_app]
    split <;> simp only [nCBs, nCB] <;> omega
  have f2 : nIBs (some1 bs) = nIBs bs := by
    unfold some1
    rw [nIBs_app]
    split <;> simp only [nIBs, nIB] <;> omega
  have f3 : dBs (some1 bs) ≤ max 1 (dBs bs) := by
    unfold some1
    rw [dBs_app]
    split <;> simp only [dBs, dB] <;> omega
  have f4 : (some1 bs).length ≤ 4 := by
    unfold some1
    rw [List.length_append]
    split <;> simp only [List.length_cons, List.length_nil] <;> omega
  have f5 : (some1 bs).countP (fun b => b.isEmpty) ≤ 1 := by
    unfold some1
    rw [List.countP_append, a5]
    split <;> simp
  refine ⟨by simp only [okI]; exact ⟨by omega, by omega, by omega, e5⟩, by simp only [nC]; omega, by simp only [nI]; omega, by simp only [dI]; omega⟩
theorem some1_few {bs : List (List FA.It)} (hl : 2 ≤ bs.length) (hs : ¬ 1 < (some1 bs).length) : ∀ b ∈ bs, b = [] := by
  refine full_len ?_
  unfold some1 at hs
  rw [List.length_append] at hs
  split at hs <;> simp only [List.length_cons, List.length_nil] at hs <;> omega
theorem kp_old {W : List Addr} {D : Addr} {H H1 H2 : Hp} {o : HO} (g : ∀ x ∈ W, ∃ o, H x = some o) (s : Sm W H1 H2) : Kp (wo [D] (fr H H1)) (wo [D] (fr H (upd H2 D o))) := by
  have key : ∀ x u, wo [D] (fr H H1) x = some u → wo [D] (fr H (upd H2 D o)) x = some u := fun x u e => by
    rw [wo_some, fr_some] at e ⊢
    refine ⟨e.1, e.2.1, ?_⟩
    rw [upd_ne (by simpa using e.1)]
    refine s x u (fun z => ?_) e.2.2
    obtain ⟨v, e2⟩ := g x z
    rw [e2] at e
    cases e.2.1
  exact ⟨fun x xs e => key _ _ e, fun x xs e => key _ _ e⟩
theorem kp_new {W : List Addr} {D : Addr} {H H1 H2 : Hp} {o u : HO} (s : Sm W H H1) (k : ∀ x ∈ W, ∃ o, H1 x = some o) (hD : H1 D = some u) : Kp (fr H1 H2) (wo [D] (fr H (upd H2 D o))) := by
  have key : ∀ x v, fr H1 H2 x = some v → wo [D] (fr H (upd H2 D o)) x = some v := fun x v e => by
    rw [fr_some] at e
    have ne : x ≠ D := by
      rintro rfl
      rw [hD] at e
      cases e.1
    rw [wo_some, fr_some]
    exact ⟨by simpa using ne, none_back s k e.1, by rw [upd_ne ne]; exact e.2⟩
  exact ⟨fun x xs e => key _ _ e, fun x xs e => key _ _ e⟩
theorem kp_wo {D : Addr} {H H1 : Hp} : Kp (wo [D] (fr H H1)) (fr H H1) := ⟨fun x xs e => (wo_some.mp e).2, fun x xs e => (wo_some.mp e).2⟩
theorem kp_fr {H H1 : Hp} : Kp (fr H H1) H1 := ⟨fun x xs e => (fr_some.mp e).2, fun x xs e => (fr_some.mp e).2⟩
theorem cut_from {xs : List V} {k : Nat} (h : k ≤ xs.length) : cutV xs (some (k : Int)) none = xs.drop k := by
  unfold cutV
  rw [HT.sIx_nat, HT.sIx_none, Nat.min_eq_left h, List.take_of_length_le (by rw [List.length_drop]; omega)]
theorem cut_to {xs : List V} {k : Nat} (h : k ≤ xs.length) : cutV xs none (some (k : Int)) = xs.take k := by
  unfold cutV
  rw [HT.sIx_nat, HT.sIx_none, Nat.min_eq_left h, List.drop_zero, Nat.sub_zero]
theorem full_take {bs : List (List FA.It)} {k : Nat} {b : List FA.It} (h : bs[k]? = some b) : full (bs.take (k + 1)) = full (bs.take k) ++ (if b.isEmpty then [] else [b]) := by
  unfold full
  rw [List.take_add_one, h, List.filter_append]
  cases b with
  | nil => rfl
  | cons _ _ => rfl
theorem BdAt.toBds {H : Hp} {b : Addr} {l : List FA.It} {vs : List V} {ls : List (List FA.It)} (h : BdAt H b l) (t : BdsAt H vs ls) : BdsAt H (.ref b :: vs) (l :: ls) := let ⟨_, h1, h2⟩ := h; .cons h1 h2 t
theorem okLItem (T : Txt K mg) (j : Nat) (hj0 : 1 ≤ j) (GLBody : FnOk P w K mg base CX0 (2 * (j - 1) + 1) T.aLBody T.fLBody ["well", "later", "every", "room", "deep"] (spLBody (j - 1))) :
    FnOk P w K mg base CX0 (2 * j) T.aLItem T.fLItem ["well", "later", "every", "room", "deep"] (spLItem j) := by
  have GLPull : FnOk P w K mg base CX0 1 T.aLPull T.fLPull ["well", "many"] spPull := okPull T
  obtain ⟨j', rfl⟩ : ∃ j', j = j' + 1 := ⟨j - 1, by omega⟩
  rw [Nat.add_sub_cancel] at GLBody
  refine T.FLItem.ok (k := 2 * j' + 1) scLItem (fun vs H Q E h => ?_) (fun cdv A outer s H vs Q E hr h => ?_)
  · obtain ⟨a, la, ea, r, n, ls, es, c, i, rfl, _⟩ := h
    rfl
  obtain ⟨a, la, ea, r, n, ls, es, c, i, rfl, hj1, hj4, g, hn, hc, hi, q⟩ := h
  have hu := hu_of hr
  obtain ⟨d1, d2, d3, d4, d5⟩ := g.la
  have hcI : 1 ≤ cI (j' + 1) := by
    rcases cI_eq (j' + 1) hj1 hj4 with h | h <;> omega
  refine split_at 4 (fun D σ H5 => D.rt = Q ∧ ∃ v5 v6 v7 v8 v9 v10 i' m, σ = [some (.ref a), some (.ref la), some (.ref ea), some (.ref r), some (.int (5 - ((j' + 1 : Nat) : Int))), v5, v6, v7, v8, v9, v10] ∧ Sm [a, r] H H5 ∧ WellAt H5 a m ∧ m + 1 ≤ n + cI (j' + 1) ∧
    H5 r = some (.lst [.int c, .int i']) ∧ 0 ≤ i' ∧ i' + 1 ≤ i) ?_ ?_
  · skip
    refine ⟨_, (pss_cons (ps_if (pt_cmpR (op_eqD hr.units) (pv 1) (pe_lst pa_nil) (nomark _))
        (pss_one (ps_ret pe_non)) pss_nil)
      (pss_cons (ps_asg (pe_op op_sub (pe_ix ix_list (pv 3) pe_int (fun _ _ => rfl)) pe_int) (pg_sub (pv 3) pe_int set_list))
      (pss_one (ps_ret (pe_ix ix_list (pv 1) (pe_call GLPull (hr.mono (by omega)) rfl T.gLPull T.FLPull.kp T.bLPull .nil pass0 (pa_cons (pv 0) (pa_cons (pe_callB call_len_seq (by rfl) T.n_len PySem.boot_len (pa_cons (pv 1) pa_nil)) pa_nil))) (fun _ _ => rfl)))))), ?_⟩
    rintro D σ H5 ⟨hD, v5, v6, v7, v8, v9, v10, i', m, rfl, sm5, hw5, hm, hr5, hi0, hi1⟩
    obtain ⟨nx, rt, bk, ct⟩ := D
    cases hD
    have g5 : Given H5 a la ea r m ls es c i' := g.on sm5 hw5 (by omega) hr5
    refine ⟨_, rfl, Nat.le_of_lt (small1000 (by simp)), fun p hp => ?_⟩
    have s6 := same_upd hp (.lst [])
    refine ⟨_, _, .lst (SqL.of (s6 _ _ g5.l)) (dp_strs ls), .lst (SqL.of upd_same) .nil, strs_shaped fun x hx => g.nm x (g.sub x hx), dt_shaped rfl (by decide), ?_⟩
    rw [eqv_nil]
    have hr6 := s6 _ _ hr5
    have hl6 := s6 _ _ g5.l
    have sm6 : Sm [a, r] H (upd H5 p (.lst [])) := sm5.trans (Sm.of_same s6)
    have hw6 : WellAt (upd H5 p (.lst [])) a m := hw5.keep fun o e => s6 _ _ e
    generalize upd H5 p (.lst []) = H6 at sm6 hw6 hr6 hl6 ⊢
    refine ⟨_, rfl, ite2 (fun z => ?_) (fun z => ?_)⟩
    · exact q .non c i' H6 sm6 (hw6.mono (by omega)) hr6 (by omega) hi0 (by omega) (.inl ⟨rfl, rfl⟩)
    · have hne : ls ≠ [] := fun e => z (by rw [e]; rfl)
      have hlen : 1 ≤ ls.length := by
        cases ls with
        | nil => exact absurd rfl hne
        | cons _ _ => simp
      have h6 := g.len2
      refine ⟨_, rfl, _, _, _, _, rfl, rfl, SqL.of hr6, at_of (j := 0) rfl rfl, _, _, rfl, rfl, _, rfl, r, _, 0, 0, rfl, rfl, hr6, rfl, ?_⟩
      have hr7 : (upd H6 r (.lst ([V.int c, V.int i'].set 0 (.int (c - 1))))) r = some (.lst [.int (c - 1), .int i']) := upd_same
      have sm7 : Sm [a, r] H (upd H6 r (.lst ([V.int c, V.int i'].set 0 (.int (c - 1))))) := sm6.trans (Sm.at (by simp))
      have hw7 : WellAt (upd H6 r (.lst ([V.int c, V.int i'].set 0 (.int (c - 1))))) a m := hw6.keep fun o e => by rw [upd_ne d5]; exact e
      have hl7 : (upd H6 r (.lst ([V.int c, V.int i'].set 0 (.int (c - 1))))) la = some (.lst (ls.map V.str)) := by rw [upd_ne d2]; exact hl6
      generalize upd H6 r (.lst ([V.int c, V.int i'].set 0 (.int (c - 1)))) = H7 at sm7 hw7 hr7 hl7 ⊢
      refine ⟨_, rfl, _, rfl, _, rfl, _, _, rfl, .inl (SqL.of hl7), a, _, m, rfl, by rw [List.length_map]; omega, by rw [List.length_map]; omega, hw7, by omega, fun x H8 x0 x1 sm8 hw8 => ?_⟩
      rw [List.length_map] at x1
      have hx : x.toNat < ls.length := by omega
      refine ⟨la, _, _, .str ls[x.toNat], rfl, rfl, SqL.of (sm8 _ _ (by simp [d1]) hl7), at_of (j := x.toNat) (by omega) (by rw [List.getElem?_map, List.getElem?_eq_getElem hx]; rfl), ?_⟩
      have sm78 : Sm [a, r] H7 H8 := sm8.more (by simp)
      refine q _ (c - 1) i' H8 (sm7.trans sm78) (hw8.mono hm) (sm8 _ _ (by simp [d5.symm]) hr7) (by omega) hi0 (by omega) (.inr ⟨.call ls[x.toNat], .call _, by simp, ?_, ?_, ?_, ?_⟩)
      · simp only [okI]; exact g.sub _ (List.getElem_mem hx)
      · simp only [nC]; omega
      · simp only [nI]; omega
      · simp only [dI]; omega
  · intro u hu1 ru
    have edeep : (5 - ((j' + 1 : Nat) : Int) + 1) = 5 - (j' : Int) := by omega
    refine split_at 3 (fun D σ H5 => D.rt = Q ∧ ∃ wv v6 v7 v8 v9 v10 i' m, 0 ≤ wv ∧ wv ≤ 3 ∧ σ = [some (.ref a), some (.ref la), some (.ref ea), some (.ref r), some (.int (5 - ((j' + 1 : Nat) : Int))), some (.int wv), v6, v7, v8, v9, v10] ∧ Sm [a, r] H H5 ∧ WellAt H5 a m ∧ m + 2 + cB j' ≤ n + cI (j' + 1) + (if wv = 3 then cB j' + 1 else 0) + (if j' = 0 then cB j' + 1 else 0) ∧ m + 1 ≤ n + cI (j' + 1) ∧
      H5 r = some (.lst [.int c, .int i']) ∧ 0 ≤ i' ∧ i' + 1 ≤ i) ?_ ?_
    · skip
      refine ⟨_, (pss_cons (ps_if (PW.pt (pw_and (pt_chain op_lt op_lt pe_int (pv 5) pe_int) (pw_and1 (pt_cmpR op_lt (pv 4) pe_int (nomark _)))))
        (pss_cons (ps_set (i := 9) scLItem.nd rfl (by first | exact Or.inl rfl | exact Or.inr rfl) (pe_call GLBody (hr.mono (by omega)) rfl T.gLBody T.FLBody.kp T.bLBody .nil pass0 (pa_cons (pv 0) (pa_cons (pv 2) (pa_cons (pv 2) (pa_cons (pv 3) (pa_cons (pe_op op_add (pv 4) pe_int) pa_nil)))))))
        (pss_one (ps_if (pt_cmpR (op_neD hr.units) (pv 9) (pe_lst pa_nil) (nomark _))
          (pss_one (ps_ret (pe_tup (pa_cons (pe_ix ix_list (pe_lst (pa_cons pe_str (pa_cons pe_str (pa_cons pe_str pa_nil)))) (pe_op op_sub (pv 5) pe_int) (fun _ _ => rfl)) (pa_cons (pv 9) pa_nil))))) pss_nil))) pss_nil)
      hu1), ?_⟩
      rintro D σ H5 ⟨hD, wv, v6, v7, v8, v9, v10, i', m, hw0, hw3, rfl, sm5, hw5, hm, hm1, hr5, hi0, hi1⟩
      have tail : ∀ v6 v7 v8 v9 v10 (H6 : Hp) (i2 : Int) (m2 : Nat), Sm [a, r] H H6 → WellAt H6 a m2 → m2 + 1 ≤ n + cI (j' + 1) → H6 r = some (.lst [.int c, .int i2]) → 0 ≤ i2 → i2 + 1 ≤ i →
          u D [some (.ref a), some (.ref la), some (.ref ea), some (.ref r), some (.int (5 - ((j' + 1 : Nat) : Int))), some (.int wv), v6, v7, v8, v9, v10] H6 := fun v6 v7 v8 v9 v10 H6 i2 m2 a1 a2 a3 a4 a5 a6 => ru D _ H6 ⟨hD, _, v6, v7, v8, v9, v10, i2, m2, rfl, a1, a2, a3, a4, a5, a6⟩
      have out := tail v6 v7 v8 v9 v10 H5 i' m sm5 hw5 hm1 hr5 hi0 hi1
      refine ⟨_, rfl, _, _, rfl, rfl, _, rfl, ite2 (fun h1 => ?_) (fun h1 => ?_)⟩
      · refine ⟨_, _, rfl, rfl, _, rfl, ite2 (fun h2 => ?_) (fun h2 => iteF out)⟩
        refine ⟨_, rfl, _, _, rfl, rfl, _, rfl, ite2 (fun h3 => ?_) (fun h3 => out)⟩
        have h1 := of_decide_eq_true h1
        have h2 := of_decide_eq_true h2
        have h3 := of_decide_eq_true h3
        have hm' : m + 2 + cB j' ≤ n + cI (j' + 1) := by
          rw [if_neg (by omega), if_neg (by omega)] at hm
          exact hm
        have g5 : Given H5 a la ea r m ls es c i' := g.on sm5 hw5 (by omega) hr5
        refine ⟨_, rfl, _, rfl, _, rfl, _, rfl, _, rfl, _, _, rfl, rfl, a, ea, ea, r, m, es, es, c, i', congrArg (fun z => [V.ref a, V.ref ea, V.ref ea, V.ref r, V.int z]) edeep, by omega, by omega, g5.all, by omega, by omega, by omega, fun b l c2 i2 H6 sm6 hw6 hr6 hc2 hi2 hi3 bd ok nc ni em db => ?_⟩
        have bd := bd.bd
        obtain ⟨vs, hb6, its6⟩ := bd
        rw [fr_some] at hb6
        obtain ⟨hb5, hb6⟩ := hb6
        have kpf : Kp (fr H5 H6) H6 := ⟨fun x xs e => (fr_some.mp e).2, fun x xs e => (fr_some.mp e).2⟩
        refine ⟨_, rfl, Nat.le_of_lt (small1000 (by simp)), fun p hp => ?_⟩
        have s7 := same_upd hp (.lst [])
        refine ⟨_, _, .lst (SqL.of (s7 _ _ hb6)) (((its6.keep kpf).keep (Kp.of s7)).dp), .lst (SqL.of upd_same) .nil, dt_shaped (dtB_lay g.nm l ok) (by have := dtB_depth l; omega), dt_shaped rfl (by decide), ?_⟩
        rw [eqv_nil]
        have e0 : (dtB l).isEmpty = l.isEmpty := by cases l <;> simp [dtB]
        rw [e0]
        have sm7 : Sm [a, r] H (upd H6 p (.lst [])) := (sm5.trans sm6).trans (Sm.of_same s7)
        have hw7 : WellAt (upd H6 p (.lst [])) a (m + cB j') := hw6.keep fun o e => s7 _ _ e
        have hr7 := s7 _ _ hr6
        have hb7 := s7 _ _ hb6
        have its7 : ItsAt (fr H (upd H6 p (.lst []))) vs l := its6.keep (fr_step sm5 g5.kept (Sm.of_same s7))
        have hbH : H b = none := none_back sm5 g5.kept hb5
        generalize upd H6 p (.lst []) = H7 at sm7 hw7 hr7 hb7 its7 ⊢
        refine ⟨_, rfl, ite2 (fun z => ?_) (fun z => ?_)⟩
        · have hne : l ≠ [] := fun e => by rw [e] at z; exact absurd z (by decide)
          refine ⟨Nat.le_of_lt (small1000 (by simp)), fun p2 hp2 => ?_⟩
          have s8 := same_upd hp2 (.lst [V.str "maybe", V.str "loop", V.str "loop"])
          obtain ⟨kd, hkd, hk2⟩ : ∃ kd : Str, atI [V.str "maybe", V.str "loop", V.str "loop"] (wv - 1) = some (.str kd) ∧ (kd = "maybe" ∧ wv = 1 ∨ kd = "loop" ∧ wv = 2) := by
            rcases (by omega : wv = 1 ∨ wv = 2) with rfl | rfl
            · exact ⟨"maybe", rfl, .inl ⟨rfl, rfl⟩⟩
            · exact ⟨"loop", rfl, .inr ⟨rfl, rfl⟩⟩
          refine ⟨_, rfl, _, _, rfl, rfl, p2, _, _, .str kd, rfl, rfl, SqL.of upd_same, hkd, _, rfl, Nat.le_of_lt (small1000 (by simp)), fun t ht => ?_⟩
          have s9 := same_upd ht (.tup [V.str kd, V.ref b])
          have s79 := s8.trans s9
          have sm9 : Sm [a, r] H (upd (upd H7 p2 (.lst [V.str "maybe", V.str "loop", V.str "loop"])) t (.tup [V.str kd, V.ref b])) := sm7.trans (Sm.of_same s79)
          have htH : H t = none := none_back (sm7.trans (Sm.of_same s8)) (fun x hx => by
            obtain ⟨o, e⟩ := (g.on sm7 hw7 (by omega) hr7).kept x hx
            exact ⟨o, s8 _ _ e⟩) ht
          have its9 := its7.keep (fr_step (W := [a, r]) (Sm.refl _ H) g.kept (Sm.of_same s79))
          rw [hD]
          refine q _ c2 i2 _ sm9 ((hw7.keep fun o e => s79 _ _ e).mono (by omega)) (s79 _ _ hr7) hc2 hi2 (by omega) (.inr ?_)
          rcases hk2 with ⟨rfl, _⟩ | ⟨rfl, _⟩
          · refine ⟨.may l, .may (fr_some.mpr ⟨htH, upd_same⟩) (fr_some.mpr ⟨hbH, s79 _ _ hb7⟩) its9, by simp, ?_, ?_, ?_, ?_⟩
            · simp only [okI]; exact ⟨hne, ok⟩
            · simp only [nC]; omega
            · simp only [nI]; omega
            · simp only [dI]; omega
          · refine ⟨.loop l, .loop (fr_some.mpr ⟨htH, upd_same⟩) (fr_some.mpr ⟨hbH, s79 _ _ hb7⟩) its9, by simp, ?_, ?_, ?_, ?_⟩
            · simp only [okI]; exact ⟨hne, ok⟩
            · simp only [nC]; omega
            · simp only [nI]; omega
            · simp only [dI]; omega
        · have he : l = [] := by
            cases l with
            | nil => rfl
            | cons _ _ => exact absurd rfl z
          have ec := em he
          subst ec
          exact tail _ _ _ _ _ H7 i2 _ sm7 hw7 (by omega) hr7 hi2 (by omega)
      · exact ⟨_, rfl, iteF (iteF out)⟩
    · intro u2 hu2 ru2
      refine ⟨_, (pss_cons (ps_set (i := 5) scLItem.nd rfl (by first | exact Or.inl rfl | exact Or.inr rfl) (pe_ix ix_list (pe_lst (pa_cons pe_int (pa_cons pe_int (pa_cons pe_int (pa_cons pe_int (pa_cons pe_int (pa_cons pe_int pa_nil))))))) (pe_call GLPull (hr.mono (by omega)) rfl T.gLPull T.FLPull.kp T.bLPull .nil pass0 (pa_cons (pv 0) (pa_cons pe_int pa_nil))) (fun _ _ => rfl)))
      (pss_cons (ps_asg (pe_op op_sub (pe_ix ix_list (pv 3) pe_int (fun _ _ => rfl)) pe_int) (pg_sub (pv 3) pe_int set_list))
      (pss_cons (ps_if (PW.pt (pw_and (pt_cmpR op_eq (pv 5) pe_int (nomark _)) (pw_and1 (pt_cmpR op_lt (pv 4) pe_int (nomark _)))))
        (pss_cons (ps_set (i := 6) scLItem.nd rfl (by first | exact Or.inl rfl | exact Or.inr rfl) (pe_lst (pa_cons (pe_call GLBody (hr.mono (by omega)) rfl T.gLBody T.FLBody.kp T.bLBody .nil pass0 (pa_cons (pv 0) (pa_cons (pv 1) (pa_cons (pv 2) (pa_cons (pv 3) (pa_cons (pe_op op_add (pv 4) pe_int) pa_nil)))))) pa_nil)))
        (pss_cons (ps_set (i := 6) scLItem.nd rfl (by first | exact Or.inl rfl | exact Or.inr rfl) (pe_op op_cat (pv 6) (pe_lc (own := [("turn", 10)]) (g := gName 10) (tt := tYes) rfl scLItem.nd (pi_range1 (by rfl) T.n_range (pa_cons (pe_op op_add pe_int (pe_call GLPull (hr.mono (by omega)) rfl T.gLPull T.FLPull.kp T.bLPull .nil pass0 (pa_cons (pv 0) (pa_cons pe_int pa_nil)))) pa_nil)) (blkOk_by (N := ["well", "later", "every", "room", "deep", "way", "bodies", "some", "spot", "inner", "turn"]) (sc := defScope sLItem) (by decide +kernel)) (fun _ _ _ _ _ => (pg_name (i := 10) scLItem.nd rfl (by first | exact Or.inl rfl | exact Or.inr rfl))) (fun _ _ _ _ _ => pts_nil) (fun _ _ _ _ _ => (pe_call GLBody (hr.mono (by omega)) rfl T.gLBody T.FLBody.kp T.bLBody .nil pass0 (pa_cons (pv 0) (pa_cons (pv 2) (pa_cons (pv 2) (pa_cons (pv 3) (pa_cons (pe_op op_add (pv 4) pe_int) pa_nil))))))))))
        (pss_cons (ps_setLc (i := 7) (own := [("inner", 9)]) (g := gName 9) rfl scLItem.nd rfl rfl (sw_true rfl rfl rfl (by decide +kernel)) (pi_list (pv 6)) (blkOk_by (N := ["well", "later", "every", "room", "deep", "way", "bodies", "some", "spot", "inner", "turn"]) (sc := defScope sLItem) (by decide +kernel)) (fun _ _ _ _ _ => (pg_name (i := 9) scLItem.nd rfl (by first | exact Or.inl rfl | exact Or.inr rfl))) (fun _ _ _ _ _ => (pts_one (pt_cmpR (op_neDK (K := K) rfl hr.units) (pv 9) (pe_lst pa_nil) (nomark _)))) (fun _ _ _ _ _ => (pv 9)))
        (pss_cons (ps_set (i := 7) scLItem.nd rfl (by first | exact Or.inl rfl | exact Or.inr rfl) (pe_op op_cat (pv 7) (pe_op op_rep (pe_lst (pa_cons (pe_lst pa_nil) pa_nil)) (pe_callTy call_int1 (by rfl) T.n_int (by decide +kernel) (pa_cons (pe_cmpR op_lt (pe_callB call_len_seq (by rfl) T.n_len PySem.boot_len (pa_cons (pv 7) pa_nil)) (pe_callB call_len_seq (by rfl) T.n_len PySem.boot_len (pa_cons (pv 6) pa_nil)) (nomark _)) pa_nil)))))
        (pss_cons (ps_set (i := 8) scLItem.nd rfl (by first | exact Or.inl rfl | exact Or.inr rfl) (pe_call GLPull (hr.mono (by omega)) rfl T.gLPull T.FLPull.kp T.bLPull .nil pass0 (pa_cons (pv 0) (pa_cons (pe_callB call_len_seq (by rfl) T.n_len PySem.boot_len (pa_cons (pv 7) pa_nil)) pa_nil))))
        (pss_one (ps_if (pt_cmpR op_gt (pe_callB call_len_seq (by rfl) T.n_len PySem.boot_len (pa_cons (pv 7) pa_nil)) pe_int (nomark _))
          (pss_one (ps_ret (pe_tup (pa_cons pe_str (pa_cons (pe_op op_cat (pe_slice sl_list (pv 7) (po_some (pv 8)) po_none) (pe_slice sl_list (pv 7) po_none (po_some (pv 8)))) pa_nil))))) pss_nil))))))) pss_nil)
      hu2))), ?_⟩
      refine ⟨Nat.le_of_lt (small1000 (by simp)), fun p hp => ?_⟩
      have s1 := same_upd hp (.lst [V.int 0, V.int 0, V.int 0, V.int 1, V.int 2, V.int 3])
      refine ⟨_, rfl, a, 6, n, rfl, by decide, by decide, g.w.keep fun o e => s1 _ _ e, by omega, fun r0 H2 r0a r0b sm2 hw2 => ?_⟩
      obtain ⟨wv, hwv0, hwv3, hix⟩ : ∃ wv : Int, 0 ≤ wv ∧ wv ≤ 3 ∧ atI [V.int 0, V.int 0, V.int 0, V.int 1, V.int 2, V.int 3] r0 = some (.int wv) := by
        rcases (by omega : r0 = 0 ∨ r0 = 1 ∨ r0 = 2 ∨ r0 = 3 ∨ r0 = 4 ∨ r0 = 5) with rfl | rfl | rfl | rfl | rfl | rfl
        · exact ⟨0, by decide, by decide, rfl⟩
        · exact ⟨0, by decide, by decide, rfl⟩
        · exact ⟨0, by decide, by decide, rfl⟩
        · exact ⟨1, by decide, by decide, rfl⟩
        · exact ⟨2, by decide, by decide, rfl⟩
        · exact ⟨3, by decide, by decide, rfl⟩
      obtain ⟨ow, how⟩ := g.w.some
      have hpa : p ≠ a := (ne_of_none how hp).symm
      refine ⟨p, _, _, .int wv, rfl, rfl, SqL.of (sm2 _ _ (by simp [hpa]) upd_same), hix, ?_⟩
      have sm02 : Sm [a, r] H H2 := fun x o hx e => sm2 x o (by simp at hx ⊢; exact hx.1) (s1 _ _ e)
      have hr2 : H2 r = some (.lst [.int c, .int i]) := sm2 _ _ (by simp [d5.symm]) (s1 _ _ g.r)
      refine ⟨_, rfl, _, _, _, _, rfl, rfl, SqL.of hr2, at_of (j := 1) rfl rfl, _, _, rfl, rfl, _, rfl, r, _, 1, 1, rfl, rfl, hr2, rfl, ?_⟩
      have hr3 : (upd H2 r (.lst ([V.int c, V.int i].set 1 (.int (i - 1))))) r = some (.lst [.int c, .int (i - 1)]) := upd_same
      have sm3 : Sm [a, r] H (upd H2 r (.lst ([V.int c, V.int i].set 1 (.int (i - 1))))) := sm02.trans (Sm.at (by simp))
      have hw3 : WellAt (upd H2 r (.lst ([V.int c, V.int i].set 1 (.int (i - 1))))) a (n + 1) := hw2.keep fun o e => by rw [upd_ne d5]; exact e
      generalize upd H2 r (.lst ([V.int c, V.int i].set 1 (.int (i - 1)))) = H3 at sm3 hw3 hr3 ⊢
      have hcB : 4 + 5 * cB j' ≤ cI (j' + 1) ∨ j' = 0 ∧ cI (j' + 1) = 2 := by
        rcases cI_eq (j' + 1) hj1 hj4 with h | h
        · exact .inl h
        · exact .inr ⟨by omega, h.2⟩
      have hcB0 : j' = 0 → cB j' = 0 := fun e => by rw [e]; rfl
      have go3 : (wv ≠ 3 ∨ j' = 0) → ∀ (D : Ends), D.rt = Q → u2 D [some (.ref a), some (.ref la), some (.ref ea), some (.ref r), some (.int (5 - ((j' + 1 : Nat) : Int))), some (.int wv), none, none, none, none, none] H3 := fun hx D hD =>
        ru2 D _ H3 ⟨hD, wv, none, none, none, none, none, i - 1, n + 1, hwv0, hwv3, rfl, sm3, hw3, by
          rcases hcB with h | ⟨h, h2⟩
          · split <;> split <;> omega
          · have := hcB0 h
            rw [if_pos h]
            split <;> omega, by omega, hr3, by omega, by omega⟩
      refine ⟨_, rfl, rfl, _, rfl, ite2 (fun w3 => ?_) (fun w3 => go3 (.inl fun e => w3 (by rw [e]; exact decide_eq_true rfl)) _ rfl)⟩
      have w3 : wv = 3 := V.int.inj (of_decide_eq_true w3)
      subst w3
      refine ⟨_, rfl, _, _, rfl, rfl, _, rfl, ite2 (fun dp => ?_) (fun dp => go3 (.inr ?_) _ rfl)⟩
      · have dp := of_decide_eq_true dp
        have hj' : 1 ≤ j' := by omega
        have hc5 : 4 + 5 * cB j' ≤ cI (j' + 1) := by
          rcases hcB with h | ⟨h, h2⟩ <;> omega
        have g3 : Given H3 a la ea r (n + 1) ls es c (i - 1) := g.on sm3 hw3 (by omega) hr3
        refine ⟨_, rfl, _, rfl, _, rfl, _, rfl, _, rfl, _, _, rfl, rfl, a, la, ea, r, n + 1, ls, es, c, i - 1, congrArg (fun z => [V.ref a, V.ref la, V.ref ea, V.ref r, V.int z]) edeep, hj', by omega, g3, by omega, by omega, by omega, fun b0 l0 c1 i1 H4 sm4 hw4 hr4 hc1 hi1 hi1' bd0 ok0 nc0 ni0 em0 db0 => ?_⟩
        have bd0 := bd0.bd
        refine ⟨Nat.le_of_lt (small1000 (by simp)), fun q0 hq0 => ?_⟩
        have s5 := same_upd hq0 (.lst [V.ref b0])
        have sm45 : Sm [a, r] H4 (upd H4 q0 (.lst [V.ref b0])) := Sm.of_same s5
        have hq5 : (upd H4 q0 (.lst [V.ref b0])) q0 = some (.lst [V.ref b0]) := upd_same
        have hw5 : WellAt (upd H4 q0 (.lst [V.ref b0])) a (n + 1 + cB j') := hw4.keep fun o e => s5 _ _ e
        have hr5 := s5 _ _ hr4
        have hq0H : H q0 = none := none_back (sm3.trans sm4) (g.on (sm3.trans sm4) hw4 (by omega) hr4).kept hq0
        have hq0a : q0 ≠ a := (ne_of_none how hq0H).symm
        have hq0r : q0 ≠ r := (ne_of_none g.r hq0H).symm
        generalize upd H4 q0 (.lst [V.ref b0]) = H5 at sm45 hq5 hw5 hr5 ⊢
        refine ⟨_, rfl, _, rfl, a, 3, n + 1 + cB j', rfl, by decide, by decide, hw5, by omega, fun r3 H6 r3a r3b sm6 hw6 => ?_⟩
        have sm46 : Sm [a, r] H4 H6 := sm45.trans (sm6.more (by simp))
        have hq6 : H6 q0 = some (.lst [V.ref b0]) := sm6 _ _ (by simp [hq0a]) hq5
        have hr6 : H6 r = some (.lst [.int c1, .int i1]) := sm6 _ _ (by simp [d5.symm]) hr5
        have sm06 : Sm [a, r] H H6 := (sm3.trans sm4).trans sm46
        refine ⟨_, _, rfl, rfl, 1 + r3, rfl, by omega, by omega, fun D hD => ?_⟩
        have hn3 : (1 + r3).toNat ≤ 3 := by omega
        have hn31 : 1 ≤ (1 + r3).toNat := by omega
        generalize (1 + r3).toNat = kk at hn3 hn31 ⊢
        have hDH : H D = none := none_back sm06 (g.on sm06 hw6 (by omega) hr6).kept hD
        have hDa : D ≠ a := (ne_of_none how hDH).symm
        have hDr : D ≠ r := (ne_of_none g.r hDH).symm
        have hmul : ∀ k, k ≤ 3 → n + 2 + cB j' + k * cB j' ≤ n + 2 + 4 * cB j' := fun k hk => by
          have : k * cB j' ≤ 3 * cB j' := Nat.mul_le_mul_right _ hk
          omega
        refine lc_range (lo := 0) (n := kk) (fun k H' => ∃ vs lb c' i', H' D = some (.lst vs) ∧ vs.length = k ∧ BdsAt (wo [D] (fr H H')) vs lb ∧ okBs es lb ∧ nCBs lb + c' ≤ c1 ∧ nIBs lb + i' ≤ i1 ∧ dBs lb ≤ j' ∧ ((∀ b ∈ lb, b = []) → c' = c1) ∧ 0 ≤ c' ∧ 0 ≤ i' ∧
          H' r = some (.lst [.int c', .int i']) ∧ WellAt H' a (n + 2 + cB j' + k * cB j') ∧ Sm [a, r] H6 H') ?_ ?_ ?_
        · refine ⟨[], [], c1, i1, upd_same, rfl, .nil, by simp [okBs], by simp [nCBs], by simp [nIBs], by simp [dBs], fun _ => rfl, hc1, hi1, by rw [upd_ne hDr.symm]; exact hr6, ?_, Sm.new hD⟩
          exact (hw6.keep fun o e => by rw [upd_ne hDa.symm]; exact e).mono (by omega)
        · rintro k H7 hk ⟨vs, lb, c', i', hD7, hvl, bd7, ok7, nc7, ni7, db7, em7, hc0', hi0', hr7, hw7, sm7⟩
          have sm07 := sm06.trans sm7
          have g7 : Given H7 a la ea r (n + 2 + cB j' + k * cB j') ls es c' i' := g.on sm07 hw7 (by have := hmul k (by omega); omega) hr7
          refine ⟨rfl, yesT (iteT ?_)⟩
          have hmk := hmul (k + 1) (by omega)
          have hmk2 : n + 2 + cB j' + k * cB j' + cB j' = n + 2 + cB j' + (k + 1) * cB j' := by rw [Nat.succ_mul]; omega
          refine ⟨_, rfl, _, rfl, _, rfl, _, rfl, _, rfl, _, _, rfl, rfl, a, ea, ea, r, n + 2 + cB j' + k * cB j', es, es, c', i', congrArg (fun z => [V.ref a, V.ref ea, V.ref ea, V.ref r, V.int z]) edeep, hj', by omega, g7.all, by omega, hc0', hi0', fun b l c2 i2 H8 sm8 hw8 hr8 hc2 hi2 hi3 bd8 ok8 nc8 ni8 em8 db8 => ?_⟩
          have bd8 := bd8.bd
          have hD8 : H8 D = some (.lst vs) := sm8 _ _ (by simp [hDa, hDr]) hD7
          refine ⟨vs, hD8, small1000 (by omega), vs ++ [.ref b], lb ++ [l], c2, i2, upd_same, by simp [hvl], ?_, ?_, ?_, ?_, ?_, ?_, hc2, hi2, by rw [upd_ne hDr.symm]; exact hr8, ?_, ?_⟩
          · exact (bd7.keep (kp_old g.kept sm8)).append (BdAt.toBds (bd8.keep (kp_new sm07 g7.kept hD7)) .nil)
          · rw [okBs_app]; exact ⟨ok7, by simp only [okBs]; exact ⟨ok8, trivial⟩⟩
          · rw [nCBs_app]; simp only [nCBs]; omega
          · rw [nIBs_app]; simp only [nIBs]; omega
          · rw [dBs_app]; simp only [dBs]; omega
          · intro hall
            have e1 := em8 (hall l (by simp))
            have e2 := em7 fun b hb => hall b (List.mem_append_left _ hb)
            omega
          · rw [← hmk2]
            exact hw8.keep fun o e => by rw [upd_ne hDa.symm]; exact e
          · intro x o hx e
            have e2 := sm8 x o hx (sm7 x o hx e)
            rw [upd_ne (ne_of_none e hD)]
            exact e2
        · rintro H7 ⟨vs, lb, c', i', hD7, hvl, bd7, ok7, nc7, ni7, db7, em7, hc0', hi0', hr7, hw7, sm7⟩
          have hq7 : H7 q0 = some (.lst [V.ref b0]) := sm7 _ _ (by simp [hq0a, hq0r]) hq6
          refine ⟨q0, D, _, _, rfl, rfl, hq7, hD7, Nat.le_of_lt (small1000 (by simp; omega)), fun p2 hp2 => ?_⟩
          have s9 := same_upd hp2 (.lst ([V.ref b0] ++ vs))
          have sm49 : Sm [a, r] H4 (upd H7 p2 (.lst ([V.ref b0] ++ vs))) := (sm46.trans sm7).trans (Sm.of_same s9)
          have sm09 : Sm [a, r] H (upd H7 p2 (.lst ([V.ref b0] ++ vs))) := (sm3.trans sm4).trans sm49
          have hp9 : (upd H7 p2 (.lst ([V.ref b0] ++ vs))) p2 = some (.lst (V.ref b0 :: vs)) := upd_same
          have hr9 := s9 _ _ hr7
          have hw9 : WellAt (upd H7 p2 (.lst ([V.ref b0] ++ vs))) a (n + 2 + 4 * cB j') := (hw7.keep fun o e => s9 _ _ e).mono (hmul _ hn3)
          have kp79 : Kp (fr H H7) (fr H (upd H7 p2 (.lst ([V.ref b0] ++ vs)))) := fr_step (W := [a, r]) (Sm.refl _ H) g.kept (Sm.of_same s9)
          have bd9 : BdsAt (fr H (upd H7 p2 (.lst ([V.ref b0] ++ vs)))) (V.ref b0 :: vs) (l0 :: lb) := BdAt.toBds (bd0.keep (fr_step sm3 g3.kept sm49)) ((bd7.keep kp_wo).keep kp79)
          generalize upd H7 p2 (.lst ([V.ref b0] ++ vs)) = H9 at sm09 hp9 hr9 hw9 bd9 ⊢
          have okA : okBs es (l0 :: lb) := by simp only [okBs]; exact ⟨ok0, ok7⟩
          have ncA : nCBs (l0 :: lb) + c' ≤ c := by simp only [nCBs]; omega
          have niA : nIBs (l0 :: lb) + i' ≤ i - 1 := by simp only [nIBs]; omega
          have dbA : dBs (l0 :: lb) ≤ j' := by simp only [dBs]; omega
          have emA : (∀ b ∈ l0 :: lb, b = []) → c' = c := fun hall => by
            have e1 := em0 (hall l0 (by simp))
            have e2 := em7 fun b hb => hall b (List.mem_cons_of_mem _ hb)
            omega
          have lenA : (l0 :: lb).length = kk + 1 := by have := bd7.length; simp only [List.length_cons]; omega
          have lenV : (V.ref b0 :: vs).length = kk + 1 := by simp [hvl]
          generalize (l0 :: lb) = bs at bd9 okA ncA niA dbA emA lenA
          generalize (V.ref b0 :: vs) = ws at hp9 bd9 lenV
          -- the bodies that are not empty
          refine ⟨_, rfl, p2, rfl, ⟨_, SqL.of hp9⟩, fun D2 hD2 => ?_⟩
          refine lc_list (K := K) (a := p2) (xs := ws) (fun k H' => ∃ vs2, H' D2 = some (.lst vs2) ∧ vs2.length ≤ k ∧ BdsAt (fr H H9) vs2 (full (bs.take k)) ∧ Same H9 H') ?_ ?_ ?_ ?_
          · exact ⟨[], upd_same, Nat.le_refl _, by simp [full]; exact .nil, same_upd hD2 _⟩
          · rintro k H' _ ⟨_, _, _, _, sm⟩
            exact SqL.of (sm _ _ hp9)
          · rintro k x H10 hx ⟨vs2, hD10, hv2, bd2, sm10⟩
            obtain ⟨bk, lk, rfl, e1, e2⟩ := bd9.get hx
            have hkl : k < kk + 1 := by
              have := (List.getElem?_eq_some_iff.mp hx).1
              omega
            have hm : lk ∈ bs := List.mem_of_getElem? e1
            have okk := okBs_all.mp okA lk hm
            have dbk := dBs_mem hm
            refine ⟨rfl, _, rfl, Nat.le_of_lt (small1000 (by simp)), fun pe hpe => ?_⟩
            have s11 := same_upd hpe (.lst [])
            obtain ⟨vk, hk1, hk2⟩ := (e2.keep kp_fr).keep (Kp.of (sm10.trans s11))
            refine ⟨_, _, .lst (SqL.of hk1) hk2.dp, .lst (SqL.of upd_same) .nil, dt_shaped (dtB_lay g.nm lk okk) (by have := dtB_depth lk; omega), dt_shaped rfl (by decide), ?_⟩
            rw [eqv_nil]
            have e0 : (dtB lk).isEmpty = lk.isEmpty := by cases lk <;> simp [dtB]
            rw [e0]
            have hD11 : (upd H10 pe (.lst [])) D2 = some (.lst vs2) := s11 _ _ hD10
            have sm11 := sm10.trans s11
            generalize upd H10 pe (.lst []) = H11 at hD11 sm11 ⊢
            refine ⟨_, rfl, ite2 (fun z => ?_) (fun z => ?_)⟩
            · refine ⟨_, rfl, vs2, hD11, small1000 (by omega), vs2 ++ [.ref bk], upd_same, by simp; omega, ?_, ?_⟩
              · have hne : lk.isEmpty = false := by
                  cases lk with
                  | nil => exact absurd z (by decide)
                  | cons _ _ => rfl
                rw [full_take e1, hne]
                exact bd2.append (BdAt.toBds e2 .nil)
              · intro x o e
                rw [upd_ne (ne_of_none e hD2)]
                exact sm11 _ _ e
            · refine ⟨vs2, hD11, by omega, ?_, sm11⟩
              have hne : lk.isEmpty = true := by
                cases lk with
                | nil => rfl
                | cons _ _ => exact absurd rfl z
              rw [full_take e1, hne]
              simpa using bd2
          · rintro H10 ⟨vs2, hD10, hv2, bd2, sm10⟩
            rw [lenV, List.take_of_length_le (by omega)] at bd2
            have hp10 : H10 p2 = some (.lst ws) := sm10 _ _ hp9
            have lenF := bd2.length
            obtain ⟨fa1, fa2, fa3, fa4, fa5, fa6⟩ := full_facts okA
            refine ⟨_, rfl, Nat.le_of_lt (small1000 (by simp)), fun pe hpe => ?_⟩
            refine ⟨Nat.le_of_lt (small1000 (by simp)), fun po hpo => ?_⟩
            have s11 := same_upd hpe (.lst [])
            have s12 := same_upd hpo (.lst [V.ref pe])
            have hpe12 : (upd (upd H10 pe (.lst [])) po (.lst [V.ref pe])) pe = some (.lst []) := s12 _ _ upd_same
            have hpo12 : (upd (upd H10 pe (.lst [])) po (.lst [V.ref pe])) po = some (.lst [V.ref pe]) := upd_same
            have sm912 := sm10.trans (s11.trans s12)
            have hD12 := s12 _ _ (s11 _ _ hD10)
            have hp12 := s12 _ _ (s11 _ _ hp10)
            have hpe9 : H9 pe = none := by
              cases z : H9 pe with
              | none => rfl
              | some o => rw [sm10 _ _ z] at hpe; cases hpe
            have hpeH : H pe = none := none_back sm09 (g.on sm09 hw9 (by omega) hr9).kept hpe9
            generalize upd (upd H10 pe (.lst [])) po (.lst [V.ref pe]) = H12 at hpe12 hpo12 sm912 hD12 hp12 ⊢
            refine ⟨_, rfl, _, _, rfl, .inl (SqL.of hD12), _, rfl, _, _, rfl, .inl (SqL.of hp12), _, _, rfl, rfl, .inr ⟨_, rfl, ?_⟩⟩
            obtain ⟨kr, hkr, hrep⟩ : ∃ kr : Int, (if decide (((vs2.length : Nat) : Int) < ((ws.length : Nat) : Int)) = true then (1 : Int) else 0) = kr ∧ ((full bs).length < bs.length ∧ kr = 1 ∨ ¬ (full bs).length < bs.length ∧ kr = 0) := by
              by_cases z : ((vs2.length : Nat) : Int) < ((ws.length : Nat) : Int)
              · exact ⟨1, by rw [decide_eq_true z, if_pos rfl], .inl ⟨by omega, rfl⟩⟩
              · exact ⟨0, by rw [decide_eq_false z, if_neg (by decide)], .inr ⟨by omega, rfl⟩⟩
            rw [hkr]
            refine ⟨po, kr, _, rfl, rfl, hpo12, by omega, by omega, ?_, fun pr hpr => ?_⟩
            · have := small1000 (n := [V.ref pe].length * kr.toNat) (by simp; omega)
              omega
            have s13 := same_upd hpr (.lst (List.replicate kr.toNat [V.ref pe]).flatten)
            refine ⟨D2, pr, _, _, rfl, rfl, s13 _ _ hD12, upd_same, ?_, fun ps hps => ?_⟩
            · have h1 : ((List.replicate kr.toNat [V.ref pe]).flatten).length ≤ 1 := by
                rcases hrep with ⟨_, rfl⟩ | ⟨_, rfl⟩ <;> simp
              exact Nat.le_of_lt (small1000 (by omega))
            have s14 := same_upd hps (.lst (vs2 ++ (List.replicate kr.toNat [V.ref pe]).flatten))
            have sm914 := sm912.trans (s13.trans s14)
            have hps14 : (upd (upd H12 pr (.lst (List.replicate kr.toNat [V.ref pe]).flatten)) ps (.lst (vs2 ++ (List.replicate kr.toNat [V.ref pe]).flatten))) ps = some (.lst (vs2 ++ (List.replicate kr.toNat [V.ref pe]).flatten)) := upd_same
            have hpe14 := s14 _ _ (s13 _ _ hpe12)
            generalize upd (upd H12 pr (.lst (List.replicate kr.toNat [V.ref pe]).flatten)) ps (.lst (vs2 ++ (List.replicate kr.toNat [V.ref pe]).flatten)) = H14 at sm914 hps14 hpe14 ⊢
            have kp914 : Kp (fr H H9) (fr H H14) := fr_step (W := [a, r]) (Sm.refl _ H) g.kept (Sm.of_same sm914)
            have bdS : BdsAt (fr H H14) (vs2 ++ (List.replicate kr.toNat [V.ref pe]).flatten) (some1 bs) := by
              refine (bd2.keep kp914).append ?_
              rcases hrep with ⟨h1, rfl⟩ | ⟨h1, rfl⟩
              · rw [if_pos h1]
                exact .cons (fr_some.mpr ⟨hpeH, hpe14⟩) .nil .nil
              · rw [if_neg h1]
                exact .nil
            generalize vs2 ++ (List.replicate kr.toNat [V.ref pe]).flatten = ss at hps14 bdS ⊢
            have sm014 : Sm [a, r] H H14 := sm09.trans (Sm.of_same sm914)
            have hw14 : WellAt H14 a (n + 2 + 4 * cB j') := hw9.keep fun o e => sm914 _ _ e
            have hr14 := sm914 _ _ hr9
            have lenS := bdS.length
            have lenS1 : 1 ≤ (some1 bs).length := by
              unfold some1
              rw [List.length_append]
              split
              · simp only [List.length_cons, List.length_nil]; omega
              · omega
            have lenS4 : (some1 bs).length ≤ 5 := by
              unfold some1
              rw [List.length_append]
              split <;> simp only [List.length_cons, List.length_nil] <;> omega
            refine ⟨_, rfl, _, rfl, _, _, rfl, .inl (SqL.of hps14), a, _, n + 2 + 4 * cB j', rfl, by omega, by omega, hw14, by omega, fun sp H15 sp0 sp1 sm15 hw15 => ?_⟩
            have hpsH : H ps = none ∨ True := .inr trivial
            have hpsa : ps ≠ a := by
              rintro rfl
              obtain ⟨x, y, z, hw, _⟩ := hw14
              rw [hps14] at hw
              cases hw
              cases bdS
            have hpsr : ps ≠ r := by
              rintro rfl
              rw [hps14] at hr14
              cases hr14
              cases bdS
            have hps15 : H15 ps = some (.lst ss) := sm15 _ _ (by simp [hpsa]) hps14
            have sm015 : Sm [a, r] H H15 := sm014.trans (sm15.more (by simp))
            have hr15 : H15 r = some (.lst [.int c', .int i']) := sm15 _ _ (by simp [d5.symm]) hr14
            have bdS15 : BdsAt (fr H H15) ss (some1 bs) := bdS.keep (fr_step (W := [a, r]) (Sm.refl _ H) g.kept (sm15.more (by simp)))
            have hnn : n + 2 + 4 * cB j' + 1 + 1 ≤ n + cI (j' + 1) := by omega
            refine ⟨_, rfl, _, _, rfl, .inl (SqL.of hps15), _, _, rfl, rfl, _, rfl, ite2 (fun z => ?_) (fun z => ?_)⟩
            · have z := of_decide_eq_true z
              have hsp : sp = ((sp.toNat : Nat) : Int) := by omega
              have hspl : sp.toNat ≤ ss.length := by omega
              refine ⟨_, rfl, _, rfl, _, rfl, _, _, rfl, SqL.of hps15, fun p3 hp3 => ?_⟩
              have s16 := same_upd hp3 (.lst (cutV ss (some sp) none))
              refine ⟨_, rfl, _, rfl, _, rfl, _, _, rfl, SqL.of (s16 _ _ hps15), fun p4 hp4 => ?_⟩
              have s17 := same_upd hp4 (.lst (cutV ss none (some sp)))
              refine ⟨p3, p4, _, _, rfl, rfl, s17 _ _ upd_same, upd_same, ?_, fun p5 hp5 => ?_⟩
              · have h1 := cutV_length ss (some sp) none
                have h2 := cutV_length ss none (some sp)
                exact Nat.le_of_lt (small1000 (by omega))
              refine ⟨Nat.le_of_lt (small1000 (by simp)), fun t ht => ?_⟩
              have ecut : cutV ss (some sp) none ++ cutV ss none (some sp) = ss.drop sp.toNat ++ ss.take sp.toNat := by
                have e1 : cutV ss (some sp) none = ss.drop sp.toNat := by
                  conv => lhs; rw [hsp]
                  exact cut_from hspl
                have e2 : cutV ss none (some sp) = ss.take sp.toNat := by
                  conv => lhs; rw [hsp]
                  exact cut_to hspl
                rw [e1, e2]
              have s18 := same_upd hp5 (.lst (cutV ss (some sp) none ++ cutV ss none (some sp)))
              have s19 := same_upd ht (.tup [V.str "one", V.ref p5])
              have s1519 := s16.trans (s17.trans (s18.trans s19))
              have sm019 := sm015.trans (Sm.of_same (W := [a, r]) s1519)
              obtain ⟨f1, f2, f3, f4⟩ := some1_facts okA (by omega) (by omega) sp.toNat (by omega)
              have kt : ∀ b ∈ [a, r], ∃ o, H15 b = some o := fun b hb => by
                simp only [List.mem_cons, List.not_mem_nil, or_false] at hb
                rcases hb with rfl | rfl
                · exact hw15.some
                · exact ⟨_, hr15⟩
              have htH : H t = none := none_back sm015 kt (by
                cases q1 : H15 t with
                | none => rfl
                | some o => rw [s18 _ _ (s17 _ _ (s16 _ _ q1))] at ht; cases ht)
              have hp5H : H p5 = none := none_back sm015 kt (by
                cases q1 : H15 p5 with
                | none => rfl
                | some o => rw [s17 _ _ (s16 _ _ q1)] at hp5; cases hp5)
              have bdE := bdS15.keep (fr_step (W := [a, r]) (Sm.refl _ H) g.kept (Sm.of_same (W := [a, r]) s1519))
              refine q _ c' i' _ sm019 ((hw15.keep fun o e => s1519 _ _ e).mono (by omega)) (s1519 _ _ hr15) hc0' hi0' (by omega) (.inr ⟨.one ((some1 bs).drop sp.toNat ++ (some1 bs).take sp.toNat), ?_, by simp, f1, by omega, by omega, by omega⟩)
              refine .one (vs := ss.drop sp.toNat ++ ss.take sp.toNat) (fr_some.mpr ⟨htH, upd_same⟩) (fr_some.mpr ⟨hp5H, ?_⟩) ((bdE.drop sp.toNat).append (bdE.take sp.toNat))
              rw [← ecut]
              exact s19 _ _ upd_same
            · have z : ¬ (1 < (some1 bs).length) := fun h => z (decide_eq_true (by omega))
              have ec := emA (some1_few (by omega) z)
              subst ec
              refine ru2 _ _ H15 ⟨rfl, 3, _, _, _, _, _, i', n + 2 + 4 * cB j' + 1, by omega, by omega, rfl, sm015, hw15, ?_, hnn, hr15, hi0', by omega⟩
              rw [if_pos rfl, if_neg (by omega)]
              omega
      · have : ¬ (5 - ((j' + 1 : Nat) : Int) < 4) := fun h => dp (decide_eq_true h)
        omega
end K02


set_option Elab.async false
set_option linter.all false
set_option maxRecDepth 100000
set_option maxHeartbeats 4000000
namespace K02
open PySem PySem.Spec PyProof.Rows L2 FA
variable {P : Program} {w : World} {K : PySem.W.Frag} {mg : Str → Option Value} {base : Heap}
theorem okGen (T : Txt K mg) : ∀ j : Nat, FnOk P w K mg base CX0 (2 * j + 1) T.aLBody T.fLBody ["well", "later", "every", "room", "deep"] (spLBody j)
  | 0 => fn_never fun vs H Q E h => by
    obtain ⟨_, _, _, _, _, _, _, _, _, _, h1, _⟩ := h
    omega
  | j + 1 => okLBody T (j + 1) (okLItem T (j + 1) (by omega) (by rw [Nat.add_sub_cancel]; exact okGen T j)) (by omega)
/-! ### the law's own costs -/
/-- a dict that tells f, 99 where it tells nothing -/
def LgAt (H : Hp) (L : Addr) (f : Str → Int) : Prop := ∃ kvs, Rd H L (.dK kvs) ∧ ∀ x, (valV kvs (.inr x)).getD (.int 99) = .int (f x)
theorem LgAt.same {H H' : Hp} {L : Addr} {f : Str → Int} (sm : Same H H') (h : LgAt H L f) : LgAt H' L f := by
  obtain ⟨kvs, h1, h2⟩ := h
  exact ⟨kvs, Rd.same sm h1, h2⟩
theorem costB_app (f : Str → Int) : ∀ a b : List FA.It, costB f (a ++ b) = costB f a + costB f b
  | [], b => by simp [costB]
  | i :: r, b => by simp only [List.cons_append, costB, costB_app f r b]; omega
theorem costB_take {f : Str → Int} {l : List FA.It} {i : Nat} {it : FA.It} (h : l[i]? = some it) : costB f (l.take (i + 1)) = costB f (l.take i) + cost f it := by
  rw [List.take_add_one, h, costB_app]
  simp [costB]
def spLCost (n : Nat) : Sp := fun vs H Q _ => ∃ (b L : Addr) (ns : List Str) (f : Str → Int) (l : List FA.It), vs = [.ref b, .ref L] ∧ BdAt H b l ∧ LgAt H L f ∧ okB ns l ∧ nIB l ≤ 12 ∧ dB l ≤ n ∧ ∀ H', Same H H' → Q (.int (costB f l)) H'
theorem okLCost1 (T : Txt K mg) (n : Nat) (GLCost : FnOk P w K mg base CX0 (n + 1) T.aLCost T.fLCost ["body", "least"] (spLCost n)) : FnOk P w K mg base CX0 (n + 2) T.aLCost T.fLCost ["body", "least"] (spLCost (n + 1)) := by
  refine T.FLCost.ok scLCost (fun vs H Q E h => ?_) (fun cdv A outer s H vs Q E hr h => ?_)
  · obtain ⟨b, L, ns, f, l, rfl, _⟩ := h
    rfl
  obtain ⟨b, L, ns, f, l, rfl, ⟨vs, hb, hits⟩, hL, hok, hN, hn, q⟩ := h
  have hu := hu_of hr
  refine ⟨_, (pss_cons (ps_set (i := 2) scLCost.nd rfl (by first | exact Or.inl rfl | exact Or.inr rfl) pe_int)
      (pss_cons (ps_for PassesOwn.never rfl (pi_list (pv 0)) (pg_name (i := 3) scLCost.nd rfl (by first | exact Or.inl rfl | exact Or.inr rfl))
        (pss_one (ps_if (pt_val (pe_callB call_isi (by rfl) T.n_isinstance (by decide +kernel) (pa_cons (pv 3) (pa_cons (pe_bltn (v := .ty "str") (by rfl) T.n_str (by decide +kernel) rfl) pa_nil))))
          (pss_one (ps_set (i := 2) scLCost.nd rfl (by first | exact Or.inl rfl | exact Or.inr rfl) (pe_op op_add (pv 2) (pe_dget2 hu (pv 1) (pv 3) pe_int (by exact ⟨rfl, rfl, rfl, rfl⟩))))) (pss_one (ps_if (pt_cmpR op_eq (pe_ix ix_tup (pv 3) pe_int (fun _ _ => rfl)) pe_str (nomark _))
            (pss_one (ps_set (i := 2) scLCost.nd rfl (by first | exact Or.inl rfl | exact Or.inr rfl) (pe_op op_add (pv 2) (pe_callB (cr_min rfl) (by rfl) T.n_min (by decide +kernel) (pa_cons (pe_lc (own := [("inner", 4)]) (g := gName 4) (tt := tYes) rfl scLCost.nd (pi_list (pe_ix ix_tup (pv 3) pe_int (fun _ _ => rfl))) (blkOk_by (N := ["body", "least", "found", "item", "inner"]) (sc := defScope sLCost) (by decide +kernel)) (fun _ _ _ _ _ => (pg_name (i := 4) scLCost.nd rfl (by first | exact Or.inl rfl | exact Or.inr rfl))) (fun _ _ _ _ _ => pts_nil) (fun _ _ _ _ _ => (pe_call GLCost (hr.mono (by omega)) rfl T.gLCost T.FLCost.kp T.bLCost .nil pass0 (pa_cons (pv 4) (pa_cons (pv 1) pa_nil))))) pa_nil))))) pss_nil)))))
      (pss_one (ps_ret (pv 2))))), ?_⟩
  have hl := hits.length
  have c6 := nIB_eq l
  refine ⟨_, rfl, b, rfl, ⟨_, SqL.of hb⟩, for_list (K := K) (a := b) (xs := vs) (fun i σ H' => ∃ v3 v4, σ = [some (.ref b), some (.ref L), some (.int (costB f (l.take i))), v3, v4] ∧ Same H H') ⟨none, none, rfl, Same.refl _⟩ ?_ ?_ ?_⟩
  · rintro i σ H' _ ⟨_, _, _, sm⟩
    exact SqL.of (sm _ _ hb)
  · rintro i y σ H1 hi ⟨v3, v4, rfl, sm⟩
    obtain ⟨it, e1, e2⟩ := hits.get hi
    have hm : it ∈ l := List.mem_of_getElem? e1
    have e3 := e2.keep (Kp.of sm)
    have ec := costB_take (f := f) e1
    have c7 := dB_mem hm
    have c8 : nI it ≤ sI l := by
      have c2 := sI_take e1
      have c4 := sI_take_le l (i + 1)
      omega
    have oki := okB_all.mp hok it hm
    cases e3 with
    | call x =>
      obtain ⟨kvs, h1, h2⟩ := hL.same sm
      refine ⟨_, rfl, _, _, _, _, true, rfl, .ty _, ty_str x, kit_ty (by decide +kernel), _, rfl, iteT ?_⟩
      refine ⟨_, rfl, _, rfl, L, rfl, .inl ⟨kvs, h1⟩, _, rfl, _, .inl ⟨kvs, .inr x, h1, rfl, rfl⟩, _, _, rfl, h2 x, ?_⟩
      refine ⟨some (.str x), v4, ?_, sm⟩
      rw [ec]
      simp only [cost]
      rfl
    | @may t b' vs' l' h1 h2 h3 =>
      refine ⟨_, rfl, _, _, _, _, false, rfl, .ty _, ty_tup h1, kit_ty (by decide +kernel), _, rfl, iteF ?_⟩
      refine ⟨_, rfl, _, _, _, _, rfl, rfl, SqT.of h1, at_of (j := 0) rfl rfl, rfl, _, rfl, ite2 (fun c => absurd (of_decide_eq_true c) (by decide)) (fun _ => ?_)⟩
      refine ⟨some (.ref t), v4, ?_, sm⟩
      rw [ec]
      simp only [cost, Int.add_zero]
      rfl
    | @loop t b' vs' l' h1 h2 h3 =>
      refine ⟨_, rfl, _, _, _, _, false, rfl, .ty _, ty_tup h1, kit_ty (by decide +kernel), _, rfl, iteF ?_⟩
      refine ⟨_, rfl, _, _, _, _, rfl, rfl, SqT.of h1, at_of (j := 0) rfl rfl, rfl, _, rfl, ite2 (fun c => absurd (of_decide_eq_true c) (by decide)) (fun _ => ?_)⟩
      refine ⟨some (.ref t), v4, ?_, sm⟩
      rw [ec]
      simp only [cost, Int.add_zero]
      rfl
    | @one t b' vs' ls h1 h2 h3 =>
      simp only [okI] at oki
      obtain ⟨k1, k2, k3, k4⟩ := oki
      have hl3 := h3.length
      refine ⟨_, rfl, _, _, _, _, false, rfl, .ty _, ty_tup h1, kit_ty (by decide +kernel), _, rfl, iteF ?_⟩
      refine ⟨_, rfl, _, _, _, _, rfl, rfl, SqT.of h1, at_of (j := 0) rfl rfl, rfl, _, rfl, ite2 (fun _ => ?_) (fun c => absurd (decide_eq_true rfl) c)⟩
      refine ⟨_, rfl, _, rfl, _, _, _, _, rfl, rfl, SqT.of h1, at_of (j := 1) rfl rfl, b', rfl, ⟨_, SqL.of h2⟩, fun D hD => lcS (n := vs'.length) hD (small1000 (by omega)) _ (fun j v _ => ∃ bd, ls[j]? = some bd ∧ v = .int (costB f bd))
        (go_l (SqL.of h2)) (stop_l (SqL.of h2)) (yld_l (SqL.of h2)) (fun j v A B _ h => h) ?_ ?_⟩
      · intro j x H2 R hj hx s2 k
        obtain ⟨b2, bd, rfl, q1, q2⟩ := h3.get hx
        have hm : bd ∈ ls := List.mem_of_getElem? q1
        have m1 := nIBs_mem hm
        have m2 := dBs_mem hm
        simp only [nI] at c8
        simp only [dI] at c7
        exact ⟨rfl, _, rfl, _, rfl, b2, L, ns, f, bd, rfl, q2.keep (Kp.of s2), (hL.same sm).same s2, okBs_all.mp k4 bd hm, by omega, by omega, fun H3 s3 => k _ H3 s3 ⟨bd, q1, rfl⟩⟩
      · intro H2 ys s2 hy hyl hg
        have e := ext_map (ys := ys) (l := ls) (f := fun b => V.int (costB f b)) (by omega) hg
        refine ⟨D, ls.map (costB f), rfl, SqL.of (by rw [hy, e, List.map_map]; rfl), by rw [List.length_map]; omega, fun m hm hle => ?_⟩
        have em := minL_unique hm hle
        refine ⟨_, _, rfl, rfl, some (.ref t), v4, ?_, sm.trans s2⟩
        rw [ec, em]
        simp only [cost, costBs_map]
        rfl
  · rintro σ H1 ⟨v3, v4, rfl, sm⟩
    refine ⟨_, rfl, ?_⟩
    have := q H1 sm
    rw [List.take_of_length_le (by omega)]
    exact this
theorem okLCost (T : Txt K mg) : ∀ n : Nat, FnOk P w K mg base CX0 (n + 1) T.aLCost T.fLCost ["body", "least"] (spLCost n)
  | 0 => fn_never fun vs H Q E h => by
    obtain ⟨b, L, ns, f, l, _, _, _, _, _, h0, _⟩ := h
    have := dB_pos l
    omega
  | n + 1 => okLCost1 T n (okLCost T n)
end K02


set_option Elab.async false
set_option linter.all false
set_option maxRecDepth 100000
set_option maxHeartbeats 4000000
namespace K02
open PySem PySem.Spec PyProof.Rows L2 FA
variable {P : Program} {w : World} {K : PySem.W.Frag} {mg : Str → Option Value} {base : Heap}
/-! ### the menus of names -/
def m0 : List Str := ["a", "b", "c", "d", "e"]
def m1 : List Str := ["zz", "mains", "bcdefghi", "n", "ma"]
def m2 : List Str := [("main" : Str) ++ FA.exes 1, ("main" : Str) ++ FA.exes 2, ("main" : Str) ++ FA.exes 3, ("main" : Str) ++ FA.exes 4]
def m3 : List Str := ["loop", "maybe", "one", "call", "return"]
def m4 : List Str := ["jkl", "vwy", "pqrstuv", "ox", "sample"]
def menus : List (List Str) := [m0, m1, m2, m3, m4]
theorem menus_ok : ∀ ns ∈ menus, ((∀ x ∈ ns, 1 ≤ x.cps.size ∧ x.cps.size ≤ 8 ∧ ∀ c ∈ x.cps.toList, 97 ≤ c ∧ c ≤ 122) ∧ ns.Nodup ∧ ("main" : Str) ∉ ns ∧ ns.length ≤ 5) := by decide +kernel
def Menu (H : Hp) (v : V) (ns : List Str) : Prop := (v = .str "abcde" ∧ ns = m0) ∨ ∃ m, v = .ref m ∧ H m = some (.lst (ns.map V.str))
theorem Menu.same {H H' : Hp} {v : V} {ns : List Str} (s : Same H H') (h : Menu H v ns) : Menu H' v ns := by
  rcases h with h | ⟨m, h1, h2⟩
  · exact .inl h
  · exact .inr ⟨m, h1, s _ _ h2⟩
theorem abcde_split : (("abcde" : Str).cps.toList.map fun c => V.str ⟨#[c]⟩) = m0.map V.str := by
  have : (("abcde" : Str).cps.toList.map fun c => (⟨#[c]⟩ : Str)) = m0 := by decide +kernel
  rw [← this, List.map_map]
  rfl
theorem menu_list {H : Hp} {v : V} {ns : List Str} {Q : VK} (h : Menu H v ns) (q : ∀ l, H l = none → Q (.ref l) (upd H l (.lst (ns.map V.str)))) :
    (∃ p ys, [v] = [V.ref p] ∧ (SqL K H p ys ∨ SqT K H p ys) ∧ ∀ l, H l = none → Q (.ref l) (upd H l (.lst ys))) ∨
    (∃ z : Str, [v] = [V.str z] ∧ z.cps.size ≤ sizeLine ∧ ∀ l, H l = none → Q (.ref l) (upd H l (.lst (z.cps.toList.map fun c => V.str ⟨#[c]⟩)))) := by
  rcases h with ⟨rfl, rfl⟩ | ⟨m, rfl, hm⟩
  · refine .inr ⟨_, rfl, Nat.le_of_lt (small1000 (by decide +kernel)), fun l hl => ?_⟩
    rw [abcde_split]
    exact q l hl
  · exact .inl ⟨m, _, rfl, .inl (SqL.of hm), q⟩
/-! ### the order of the names: main, then some of a menu -/
structure Ord (ord : List Str) : Prop where
  nm : ∀ x ∈ ord, FA.okName x
  nd : ord.Nodup
  main : ("main" : Str) ∈ ord
  len : ord.length ≤ 6
theorem main_ok : FA.okName "main" := ⟨by decide +kernel, by decide +kernel, by decide +kernel⟩
theorem strs_perm : ∀ {ys : List V} {ns : List Str}, ys.Perm (ns.map V.str) → ∃ zs : List Str, ys = zs.map V.str ∧ zs.Perm ns := by
  intro ys ns h
  have key : ∀ {a b : List V}, a.Perm b → (∀ v ∈ b, ∃ z, v = V.str z) → (∀ v ∈ a, ∃ z, v = V.str z) := fun p hb v hv => hb v (p.mem_iff.mp hv)
  have h1 := key h (fun v hv => by obtain ⟨z, _, e⟩ := List.mem_map.mp hv; exact ⟨z, e.symm⟩)
  have ex : ∀ l : List V, (∀ v ∈ l, ∃ z, v = V.str z) → ∃ zs : List Str, l = zs.map V.str := by
    intro l
    induction l with
    | nil => exact fun _ => ⟨[], rfl⟩
    | cons v r ih =>
      intro hv
      obtain ⟨z, e⟩ := hv v (by simp)
      obtain ⟨zs, e2⟩ := ih fun u hu => hv u (List.mem_cons_of_mem _ hu)
      exact ⟨z :: zs, by rw [e, e2]; rfl⟩
  obtain ⟨zs, e⟩ := ex ys h1
  subst e
  refine ⟨zs, rfl, ?_⟩
  have inj : ∀ a b : Str, V.str a = V.str b → a = b := fun a b e => V.str.inj e
  let un : V → Str := fun v => match v with | .str z => z | _ => "main"
  have q := h.map un
  rw [List.map_map, List.map_map] at q
  have i1 : (un ∘ V.str) = id := rfl
  rw [i1, List.map_id, List.map_id] at q
  exact q
theorem ord_of {ns zs : List Str} {k : Nat} (h : ns ∈ menus) (p : zs.Perm ns) : Ord ("main" :: zs.take k) := by
  obtain ⟨h1, h2, h3, h4⟩ := menus_ok ns h
  have nd := p.symm.nodup h2
  have sub : ∀ x ∈ zs.take k, x ∈ ns := fun x hx => p.mem_iff.mp (List.mem_of_mem_take hx)
  refine ⟨fun x hx => ?_, ?_, by simp, ?_⟩
  · rcases List.mem_cons.mp hx with rfl | hx
    · exact main_ok
    · exact h1 x (sub x hx)
  · rw [List.nodup_cons]
    exact ⟨fun z => h3 (sub _ z), (List.take_sublist k zs).nodup nd⟩
  · have := p.length_eq
    rw [List.length_cons, List.length_take]; omega
/-! ### the least numbers, name by name -/
def put (f : Str → Int) (x : Str) (c : Int) : Str → Int := fun y => if y = x then c else f y
inductive Led : Pr → (Str → Int) → Prop
  | nil : Led [] (fun _ => 99)
  | snoc {p : Pr} {f : Str → Int} {x : Str} {l : Bd} : Led p f → x ∉ pNames p → costB f l ≤ 11 → Led (p ++ [(x, l)]) (put f x (1 + costB f l))
theorem pNames_app (p q : Pr) : pNames (p ++ q) = pNames p ++ pNames q := by unfold pNames; rw [List.map_append]
theorem Led.out {p : Pr} {f : Str → Int} (h : Led p f) : ∀ x, x ∉ pNames p → f x = 99 := by
  induction h with
  | nil => exact fun _ _ => rfl
  | @snoc p f x l _ _ _ ih =>
    intro y hy
    rw [pNames_app, List.mem_append, not_or] at hy
    unfold put
    rw [if_neg (fun e => hy.2 (by rw [e]; exact List.mem_singleton_self _))]
    exact ih y hy.1
theorem Led.le {p : Pr} {f : Str → Int} (h : Led p f) : ∀ x ∈ pNames p, f x ≤ 12 := by
  induction h with
  | nil => exact fun x hx => by cases hx
  | @snoc p f x l _ _ hc ih =>
    intro y hy
    rw [pNames_app, List.mem_append] at hy
    unfold put
    by_cases e : y = x
    · rw [if_pos e]; omega
    · rw [if_neg e]
      rcases hy with hy | hy
      · exact ih y hy
      · exact absurd (List.mem_singleton.mp hy) e
theorem look_nd : ∀ {p : Pr} {x : Str} {l : Bd}, (pNames p).Nodup → (x, l) ∈ p → p.lookup x = some l
  | (y, m) :: p, x, l, nd, h => by
    have nd' : y ∉ pNames p ∧ (pNames p).Nodup := List.nodup_cons.mp nd
    rcases List.mem_cons.mp h with e | h
    · cases e
      simp [List.lookup]
    · have hx : x ∈ pNames p := List.mem_map.mpr ⟨_, h, rfl⟩
      have e : (x == y) = false := beq_eq_false_iff_ne.mpr fun z => nd'.1 (by rw [← z]; exact hx)
      simp only [List.lookup, e]
      exact look_nd nd'.2 h
theorem mem_look : ∀ {p : Pr} {x : Str} {l : Bd}, p.lookup x = some l → (x, l) ∈ p
  | (y, m) :: p, x, l, h => by
    by_cases e : x = y
    · subst e
      simp [List.lookup] at h
      rw [h]; simp
    · have e1 : (x == y) = false := beq_eq_false_iff_ne.mpr e
      simp only [List.lookup, e1] at h
      exact List.mem_cons_of_mem _ (mem_look h)
theorem Led.rnd {p : Pr} {f : Str → Int} (h : Led p f) : ∀ q : Pr, (∀ x l, (x, l) ∈ p → q.lookup x = some l) → ∀ x, rnd 13 q p.length x ≤ f x := by
  induction h with
  | nil => intro q _ x; simp only [List.length_nil, FA.rnd]; decide
  | @snoc p f x l _ hx _ ih =>
    intro q hq y
    have i1 := ih q fun z m hz => hq z m (List.mem_append_left _ hz)
    rw [List.length_append, List.length_singleton]
    unfold put
    by_cases e : y = x
    · rw [if_pos e]
      have hb : bodyOf q x = l := by unfold bodyOf; rw [hq x l (by simp)]; rfl
      have hc := costB_le i1 l
      simp only [FA.rnd, e, hb]
      omega
    · rw [if_neg e]
      exact Int.le_trans (rnd_down q p.length y) (i1 y)
theorem lsKv_put {p : Pr} {f : Str → Int} {x : Str} {l : Bd} {c : Int} (hx : x ∉ pNames p) : putK (lsKv p f) (.inr x) (.int c) = lsKv (p ++ [(x, l)]) (put f x c) := by
  rw [putK_new]
  · unfold lsKv
    rw [List.map_append]
    congr 1
    · refine List.map_congr_left fun q hq => ?_
      have : q.1 ≠ x := fun e => hx (by rw [← e]; exact List.mem_map.mpr ⟨q, hq, rfl⟩)
      unfold put
      rw [if_neg this]
    · simp [put]
  · refine valV_out fun q hq e => ?_
    unfold lsKv at hq
    obtain ⟨r, hr, rfl⟩ := List.mem_map.mp hq
    exact hx (List.mem_map.mpr ⟨r, hr, Sum.inr.inj e⟩)
theorem Led.at {H : Hp} {L : Addr} {p : Pr} {f : Str → Int} (h : Led p f) (hL : H L = some (.dK (lsKv p f))) : LgAt H L f := by
  refine ⟨_, .inl hL, fun x => ?_⟩
  by_cases hx : x ∈ pNames p
  · rw [lsKv_look hx]; rfl
  · rw [valV_out]
    · rw [h.out x hx]; rfl
    · intro q hq e
      unfold lsKv at hq
      obtain ⟨r, hr, rfl⟩ := List.mem_map.mp hq
      exact hx (List.mem_map.mpr ⟨r, hr, Sum.inr.inj e⟩)
/-! ### a body cut -/
theorem okB_take {ns : List Str} {l : Bd} (k : Nat) (h : okB ns l) : okB ns (l.take k) := by
  rw [okB_all] at h ⊢
  exact fun i hi => h i (List.mem_of_mem_take hi)
theorem nCB_take : ∀ (l : Bd) (k : Nat), nCB (l.take k) ≤ nCB l
  | [], k => by simp [nCB]
  | i :: r, 0 => by simp [nCB]
  | i :: r, k + 1 => by have := nCB_take r k; simp only [List.take_succ_cons, nCB]; omega
theorem nIB_take : ∀ (l : Bd) (k : Nat), nIB (l.take k) ≤ nIB l
  | [], k => by simp [nIB]
  | i :: r, 0 => by simp [nIB]
  | i :: r, k + 1 => by have := nIB_take r k; simp only [List.take_succ_cons, nIB]; omega
theorem dB_take : ∀ (l : Bd) (k : Nat), dB (l.take k) ≤ dB l
  | [], k => by simp [dB]
  | i :: r, 0 => by have := dB_pos (i :: r); simp only [List.take_zero, dB] at this ⊢; omega
  | i :: r, k + 1 => by have := dB_take r k; simp only [List.take_succ_cons, dB]; omega
theorem cut_last (xs : List V) : cutV xs none (some (-1)) = xs.take (xs.length - 1) := by
  have e : HT.sIx xs.length xs.length (some (-1)) = xs.length - 1 := by
    show (if (-1 : Int) < 0 then ((-1 : Int) + (xs.length : Int)).toNat else min (-1 : Int).toNat xs.length) = _
    rw [if_pos (by decide)]
    omega
  unfold cutV
  rw [e, HT.sIx_none, List.drop_zero, Nat.sub_zero]
mutual
theorem okI_more {ns ms : List Str} (s : ∀ x ∈ ns, x ∈ ms) : ∀ i : FA.It, okI ns i → okI ms i
  | .call x, h => by simp only [okI] at h ⊢; exact s x h
  | .may b, h => by simp only [okI] at h ⊢; exact ⟨h.1, okB_more s b h.2⟩
  | .loop b, h => by simp only [okI] at h ⊢; exact ⟨h.1, okB_more s b h.2⟩
  | .one bs, h => by simp only [okI] at h ⊢; exact ⟨h.1, h.2.1, h.2.2.1, okBs_more s bs h.2.2.2⟩
theorem okB_more {ns ms : List Str} (s : ∀ x ∈ ns, x ∈ ms) : ∀ b : List FA.It, okB ns b → okB ms b
  | [], _ => by simp [okB]
  | i :: r, h => by simp only [okB] at h ⊢; exact ⟨okI_more s i h.1, okB_more s r h.2⟩
theorem okBs_more {ns ms : List Str} (s : ∀ x ∈ ns, x ∈ ms) : ∀ bs : List (List FA.It), okBs ns bs → okBs ms bs
  | [], _ => by simp [okBs]
  | b :: r, h => by simp only [okBs] at h ⊢; exact ⟨okB_more s b h.1, okBs_more s r h.2⟩
end
/-- a body, as the law asks it -/
structure BOk (ord : List Str) (l : Bd) : Prop where
  ok : okB ord l
  c : nCB l ≤ 5
  i : nIB l ≤ 12
  d : dB l ≤ 4
theorem BOk.take {ord : List Str} {l : Bd} (h : BOk ord l) (k : Nat) : BOk ord (l.take k) := ⟨okB_take k h.ok, by have := nCB_take l k; have := h.c; omega, by have := nIB_take l k; have := h.i; omega, by have := dB_take l k; have := h.d; omega⟩
/-! ### the rows -/
inductive RwAt (H : Hp) : List V → Pr → Prop
  | nil : RwAt H [] []
  | cons {t b : Addr} {x : Str} {l : Bd} {vs : List V} {p : Pr} : H t = some (.tup [.str x, .ref b]) → BdAt H b l → RwAt H vs p → RwAt H (.ref t :: vs) ((x, l) :: p)
theorem RwAt.keep {H H' : Hp} (k : Kp H H') {vs : List V} {p : Pr} (h : RwAt H vs p) : RwAt H' vs p := by
  induction h with
  | nil => exact .nil
  | cons h1 h2 _ ih => exact .cons (k.t _ _ h1) (h2.keep k) ih
theorem RwAt.length {H : Hp} {vs : List V} {p : Pr} (h : RwAt H vs p) : vs.length = p.length := by
  induction h with
  | nil => rfl
  | cons _ _ _ ih => rw [List.length_cons, List.length_cons, ih]
theorem RwAt.snoc {H : Hp} {vs : List V} {p : Pr} {t b : Addr} {x : Str} {l : Bd} (h : RwAt H vs p) (h1 : H t = some (.tup [.str x, .ref b])) (h2 : BdAt H b l) : RwAt H (vs ++ [.ref t]) (p ++ [(x, l)]) := by
  induction h with
  | nil => exact .cons h1 h2 .nil
  | cons g1 g2 _ ih => exact .cons g1 g2 ih
theorem RwAt.perm {H : Hp} {vs ys : List V} (q : vs.Perm ys) : ∀ {p : Pr}, RwAt H vs p → ∃ p', p'.Perm p ∧ RwAt H ys p' := by
  induction q with
  | nil => intro p h; exact ⟨p, List.Perm.refl _, h⟩
  | cons v _ ih =>
    intro p h
    cases h with
    | @cons t b x l vs' p' h1 h2 h3 =>
      obtain ⟨p2, a1, a2⟩ := ih h3
      exact ⟨_, a1.cons _, .cons h1 h2 a2⟩
  | swap v u r =>
    intro p h
    cases h with
    | cons h1 h2 h3 =>
      cases h3 with
      | cons h4 h5 h6 => exact ⟨_, List.Perm.swap _ _ _, .cons h4 h5 (.cons h1 h2 h6)⟩
  | trans a b ih1 ih2 =>
    intro p h
    obtain ⟨p1, b1, b2⟩ := ih1 h
    obtain ⟨p2, c1, c2⟩ := ih2 b2
    exact ⟨p2, c1.trans b1, c2⟩
/-- the rows as dict(..) takes them -/
theorem RwAt.paired {H H' : Hp} (k : Kp H H') {ys : List V} {p : Pr} (h : RwAt H ys p) : ∃ (ps : List Addr) (kvs : List (Key × V)), ys = ps.map V.ref ∧ Paired (fun p kv => SqT K H' p [kV kv.1, kv.2]) ps kvs ∧ PrKv H kvs p := by
  induction h with
  | nil => exact ⟨[], [], rfl, .nil, .nil⟩
  | @cons t b x l vs p h1 h2 _ ih =>
    obtain ⟨ps, kvs, e, q1, q2⟩ := ih
    exact ⟨t :: ps, (.inr x, .ref b) :: kvs, by rw [e]; rfl, .cons (SqT.of (k.t _ _ h1)) q1, .cons h2 q2⟩
theorem mergeK_nd : ∀ (more kvs : List (Key × V)), ((kvs ++ more).map (·.1)).Nodup → mergeK kvs more = kvs ++ more
  | [], kvs, _ => by simp [mergeK]
  | q :: r, kvs, nd => by
    have e : mergeK kvs (q :: r) = mergeK (putK kvs q.1 q.2) r := rfl
    have hv : valV kvs q.1 = none := valV_out fun u hu z => by
      rw [List.map_append, List.nodup_append] at nd
      exact nd.2.2 u.1 (List.mem_map.mpr ⟨u, hu, rfl⟩) q.1 (by simp) z
    rw [e, putK_new _ hv, mergeK_nd r _ (by rw [List.append_assoc]; exact nd), List.append_assoc]
    rfl
/-- what is drawn is a program -/
theorem valid_of {ord : List Str} {p p' : Pr} {f : Str → Int} (ho : Ord ord) (hl : Led p f) (hn : pNames p = ord.reverse) (hb : ∀ x l, (x, l) ∈ p → BOk ord l) (pe : p'.Perm p) : Valid p' := by
  have pn : (pNames p').Perm ord := by
    have := pe.map (·.1)
    unfold pNames at hn ⊢
    rw [hn] at this
    exact this.trans ord.reverse_perm
  have nd : (pNames p').Nodup := pn.symm.nodup ho.nd
  have len : p'.length = ord.length := by have := pn.length_eq; unfold pNames at this; rw [List.length_map] at this; exact this
  have sub : ∀ x ∈ ord, x ∈ pNames p' := fun x hx => pn.mem_iff.mpr hx
  refine ⟨by rw [len]; exact ho.len, sub _ ho.main, fun x hx => ho.nm x (pn.mem_iff.mp hx), nd, fun x l e => ?_, fun x hx => ?_⟩
  · have := hb x l (pe.mem_iff.mp (mem_look e))
    exact ⟨okB_more sub l this.ok, this.c, this.i, this.d⟩
  · have h1 := hl.rnd p' (fun y m hy => look_nd nd (pe.mem_iff.mpr hy)) x
    have h2 := hl.le x (by rw [hn, List.mem_reverse]; exact pn.mem_iff.mp hx)
    rw [← pe.length_eq] at h1
    omega
end K02


set_option Elab.async false
set_option linter.all false
set_option maxRecDepth 100000
set_option maxHeartbeats 4000000
namespace K02
open PySem PySem.Spec PyProof.Rows L2 FA
variable {P : Program} {w : World} {K : PySem.W.Frag} {mg : Str → Option Value} {base : Heap}
/-- a body at b, its items elsewhere -/
def BdAt2 (W : List Addr) (H : Hp) (b : Addr) (l : Bd) : Prop := ∃ us, H b = some (.lst us) ∧ b ∉ W ∧ ItsAt (wo (b :: W) H) us l
theorem wo_kp {W W' : List Addr} {H : Hp} (s : ∀ x ∈ W', x ∈ W) : Kp (wo W H) (wo W' H) := by
  have key : ∀ x o, wo W H x = some o → wo W' H x = some o := fun x o e => by
    rw [wo_some] at e ⊢
    exact ⟨fun z => e.1 (s x z), e.2⟩
  exact ⟨fun x xs e => key _ _ e, fun x xs e => key _ _ e⟩
theorem BdAt2.bd {W : List Addr} {H : Hp} {b : Addr} {l : Bd} (h : BdAt2 W H b l) : BdAt H b l := by
  obtain ⟨us, h1, _, h3⟩ := h
  exact ⟨us, h1, h3.keep ⟨fun x xs e => (wo_some.mp e).2, fun x xs e => (wo_some.mp e).2⟩⟩
theorem BdAt2.off {W : List Addr} {H : Hp} {b : Addr} {l : Bd} (h : BdAt2 W H b l) : BdAt (wo W H) b l := by
  obtain ⟨us, h1, h2, h3⟩ := h
  exact ⟨us, wo_some.mpr ⟨h2, h1⟩, h3.keep (wo_kp fun x hx => List.mem_cons_of_mem _ hx)⟩
theorem BdAt2.same {W : List Addr} {H H' : Hp} {b : Addr} {l : Bd} (s : Same H H') (h : BdAt2 W H b l) : BdAt2 W H' b l := by
  obtain ⟨us, h1, h2, h3⟩ := h
  exact ⟨us, s _ _ h1, h2, h3.keep (Kp.of (Sm.of_same (W := b :: W) s).same)⟩
/-- the last row's body stands in none of the rows before -/
def Last (H0 : Hp) (W : List Addr) (H : Hp) (vs : List V) (dn : Pr) : Prop := ∃ (t b : Addr) (x : Str) (l : Bd) (vs' : List V) (dn' : Pr), vs = vs' ++ [.ref t] ∧ dn = dn' ++ [(x, l)] ∧ H t = some (.tup [.str x, .ref b]) ∧ t ∉ W ∧ RwAt (wo (b :: W) H) vs' dn' ∧ BdAt2 W H b l ∧ H0 b = none
/-- rows of which main's body stands in no other -/
inductive RwM (F : Hp) (b0 : Addr) : List V → Pr → Prop
  | nil : RwM F b0 [] []
  | other {t b : Addr} {x : Str} {l : Bd} {vs : List V} {p : Pr} : x ≠ "main" → F t = some (.tup [.str x, .ref b]) → BdAt (wo [b0] F) b l → RwM F b0 vs p → RwM F b0 (.ref t :: vs) ((x, l) :: p)
  | main {t : Addr} {l : Bd} {us vs : List V} {p : Pr} : F t = some (.tup [.str "main", .ref b0]) → F b0 = some (.lst us) → ItsAt (wo [b0] F) us l → RwM F b0 vs p → RwM F b0 (.ref t :: vs) (("main", l) :: p)
theorem RwM.keep {F F' : Hp} {b0 : Addr} (s : Same F F') {vs : List V} {p : Pr} (h : RwM F b0 vs p) : RwM F' b0 vs p := by
  have k := Kp.of (Sm.of_same (W := [b0]) s).same
  induction h with
  | nil => exact .nil
  | other h0 h1 h2 _ ih => exact .other h0 (s _ _ h1) (h2.keep k) ih
  | main h1 h2 h3 _ ih => exact .main (s _ _ h1) (s _ _ h2) (h3.keep k) ih
theorem RwM.perm {F : Hp} {b0 : Addr} {vs ys : List V} (q : vs.Perm ys) : ∀ {p : Pr}, RwM F b0 vs p → ∃ p', p'.Perm p ∧ RwM F b0 ys p' := by
  induction q with
  | nil => intro p h; exact ⟨p, List.Perm.refl _, h⟩
  | cons v _ ih =>
    intro p h
    cases h with
    | other h0 h1 h2 h3 =>
      obtain ⟨p2, a1, a2⟩ := ih h3
      exact ⟨_, a1.cons _, .other h0 h1 h2 a2⟩
    | main h1 h2 h3 h4 =>
      obtain ⟨p2, a1, a2⟩ := ih h4
      exact ⟨_, a1.cons _, .main h1 h2 h3 a2⟩
  | swap v u r =>
    intro p h
    cases h with
    | other h0 h1 h2 h3 =>
      cases h3 with
      | other g0 g1 g2 g3 => exact ⟨_, List.Perm.swap _ _ _, .other g0 g1 g2 (.other h0 h1 h2 g3)⟩
      | main g1 g2 g3 g4 => exact ⟨_, List.Perm.swap _ _ _, .main g1 g2 g3 (.other h0 h1 h2 g4)⟩
    | main h1 h2 h3 h4 =>
      cases h4 with
      | other g0 g1 g2 g3 => exact ⟨_, List.Perm.swap _ _ _, .other g0 g1 g2 (.main h1 h2 h3 g3)⟩
      | main g1 g2 g3 g4 => exact ⟨_, List.Perm.swap _ _ _, .main g1 g2 g3 (.main h1 h2 h3 g4)⟩
  | trans a b ih1 ih2 =>
    intro p h
    obtain ⟨p1, b1, b2⟩ := ih1 h
    obtain ⟨p2, c1, c2⟩ := ih2 b2
    exact ⟨p2, c1.trans b1, c2⟩
/-- the same in the dict -/
inductive PrM (F : Hp) (b0 : Addr) : List (Key × V) → Pr → Prop
  | nil : PrM F b0 [] []
  | other {b : Addr} {x : Str} {l : Bd} {kvs : List (Key × V)} {p : Pr} : x ≠ "main" → BdAt (wo [b0] F) b l → PrM F b0 kvs p → PrM F b0 ((.inr x, .ref b) :: kvs) ((x, l) :: p)
  | main {l : Bd} {us : List V} {kvs : List (Key × V)} {p : Pr} : F b0 = some (.lst us) → ItsAt (wo [b0] F) us l → PrM F b0 kvs p → PrM F b0 ((.inr "main", .ref b0) :: kvs) (("main", l) :: p)
theorem PrM.keep {F F' : Hp} {b0 : Addr} (s : Same F F') {kvs : List (Key × V)} {p : Pr} (h : PrM F b0 kvs p) : PrM F' b0 kvs p := by
  have k := Kp.of (Sm.of_same (W := [b0]) s).same
  induction h with
  | nil => exact .nil
  | other h0 h2 _ ih => exact .other h0 (h2.keep k) ih
  | main h2 h3 _ ih => exact .main (s _ _ h2) (h3.keep k) ih
theorem PrM.kv {F : Hp} {b0 : Addr} {kvs : List (Key × V)} {p : Pr} (h : PrM F b0 kvs p) : PrKv F kvs p := by
  have k : Kp (wo [b0] F) F := ⟨fun x xs e => (wo_some.mp e).2, fun x xs e => (wo_some.mp e).2⟩
  induction h with
  | nil => exact .nil
  | other _ h2 _ ih => exact .cons (h2.keep k) ih
  | main h2 h3 _ ih => exact .cons ⟨_, h2, h3.keep k⟩ ih
theorem RwM.paired {F H' : Hp} {b0 : Addr} (k : Kp F H') {ys : List V} {p : Pr} (h : RwM F b0 ys p) : ∃ (ps : List Addr) (kvs : List (Key × V)), ys = ps.map V.ref ∧ Paired (fun p kv => SqT K H' p [kV kv.1, kv.2]) ps kvs ∧ PrM F b0 kvs p := by
  induction h with
  | nil => exact ⟨[], [], rfl, .nil, .nil⟩
  | @other t b x l vs p h0 h1 h2 _ ih =>
    obtain ⟨ps, kvs, e, q1, q2⟩ := ih
    exact ⟨t :: ps, (.inr x, .ref b) :: kvs, by rw [e]; rfl, .cons (SqT.of (k.t _ _ h1)) q1, .other h0 h2 q2⟩
  | @main t l us vs p h1 h2 h3 _ ih =>
    obtain ⟨ps, kvs, e, q1, q2⟩ := ih
    exact ⟨t :: ps, (.inr "main", .ref b0) :: kvs, by rw [e]; rfl, .cons (SqT.of (k.t _ _ h1)) q1, .main h2 h3 q2⟩
theorem RwAt.toM {W : List Addr} {H : Hp} {b : Addr} {vs : List V} {p : Pr} (h : RwAt (wo (b :: W) H) vs p) (n : ("main" : Str) ∉ pNames p) : RwM (wo W H) b vs p := by
  have k : Kp (wo (b :: W) H) (wo [b] (wo W H)) := by
    have key : ∀ x o, wo (b :: W) H x = some o → wo [b] (wo W H) x = some o := fun x o e => by
      rw [wo_some, List.mem_cons, not_or] at e
      rw [wo_some, wo_some]
      exact ⟨by simpa using e.1.1, e.1.2, e.2⟩
    exact ⟨fun x xs e => key _ _ e, fun x xs e => key _ _ e⟩
  induction h with
  | nil => exact .nil
  | @cons t b' x l vs p h1 h2 _ ih =>
    have n' : ("main" : Str) ≠ x ∧ ("main" : Str) ∉ pNames p := by
      have : ("main" : Str) ∉ x :: pNames p := n
      rw [List.mem_cons, not_or] at this
      exact this
    exact .other (Ne.symm n'.1) ((wo_kp fun y hy => List.mem_cons_of_mem _ hy).t _ _ h1) (h2.keep k) (ih n'.2)
theorem RwM.snoc {F : Hp} {b0 : Addr} {vs : List V} {p : Pr} {t : Addr} {us : List V} {l : Bd} (h : RwM F b0 vs p) (h1 : F t = some (.tup [.str "main", .ref b0])) (h2 : F b0 = some (.lst us)) (h3 : ItsAt (wo [b0] F) us l) : RwM F b0 (vs ++ [.ref t]) (p ++ [(("main" : Str), l)]) := by
  induction h with
  | nil => exact .main h1 h2 h3 .nil
  | other g0 g1 g2 _ ih => exact .other g0 g1 g2 ih
  | main g1 g2 g3 _ ih => exact .main g1 g2 g3 ih
def spLProgram : Sp := fun vs H Q _ => ∃ (a : Addr) (n : Nat), vs = [.ref a, .int 5] ∧ WellAt H a n ∧ n + 13000000 ≤ 2 ^ 80 ∧
  ∀ d kvs p b0 H', Sm [a] H H' → WellAt H' a (n + 13000000) → H' d = some (.dK kvs) → PrM (wo [a] H') b0 kvs p → Valid p → H b0 = none → Q (.ref d) H'
theorem Sm.put {W : List Addr} {H H1 : Hp} {L : Addr} {o : HO} (h : H L = none) (s : Sm W H H1) : Sm W H (upd H1 L o) := fun b u n e => by
  rw [upd_ne (ne_of_none e h)]
  exact s b u n e
theorem kp_off {W : List Addr} {H : Hp} : Kp (wo W H) H := ⟨fun x xs e => (wo_some.mp e).2, fun x xs e => (wo_some.mp e).2⟩
theorem cut_to' (xs : List V) (k : Nat) : cutV xs none (some (k : Int)) = xs.take k := by
  unfold cutV
  rw [HT.sIx_none, HT.sIx_nat, List.drop_zero, Nat.sub_zero]
  by_cases h : k ≤ xs.length
  · rw [Nat.min_eq_left h]
  · rw [Nat.min_eq_right (by omega), List.take_of_length_le (Nat.le_refl _), List.take_of_length_le (by omega)]
theorem okLProgram (T : Txt K mg) : FnOk P w K mg base CX0 10 T.aLProgram T.fLProgram ["well", "most"] spLProgram := by
  have GLPull : FnOk P w K mg base CX0 1 T.aLPull T.fLPull ["well", "many"] spPull := okPull T
  have GLShuffled : FnOk P w K mg base CX0 2 T.aLShuffled T.fLShuffled ["well", "items"] (spShuffled (K := K)) := okShuffled T
  have GLBody : FnOk P w K mg base CX0 9 T.aLBody T.fLBody ["well", "later", "every", "room", "deep"] (spLBody 4) := okGen T 4
  have GLCost : FnOk P w K mg base CX0 5 T.aLCost T.fLCost ["body", "least"] (spLCost 4) := okLCost T 4
  refine T.FLProgram.ok scLProgram (fun vs H Q E h => ?_) (fun cdv A outer s H vs Q E hr h => ?_)
  · obtain ⟨a, n, rfl, _⟩ := h
    rfl
  obtain ⟨a, n, rfl, hw, hn, q⟩ := h
  have hu := hu_of hr
  obtain ⟨ow, how⟩ := hw.some
  refine split_at 4 (fun D σ H' => D.rt = Q ∧ ∃ v2 v3 v4 v8 ea L rw ord m, σ = [some (.ref a), some (.int 5), v2, v3, v4, some (.ref ea), some (.ref L), some (.ref rw), v8] ∧ Sm [a] H H' ∧ WellAt H' a m ∧ m ≤ n + 7 ∧ Ord ord ∧
    H' ea = some (.lst (ord.map V.str)) ∧ H' L = some (.dK []) ∧ H' rw = some (.lst []) ∧ H ea = none ∧ H L = none ∧ H rw = none ∧ rw ≠ ea ∧ ∃ rest, ord = ("main" : Str) :: rest) ?_ ?_
  · skip
    refine ⟨_, (pss_cons (ps_for PassesOwn.never rfl (pi_range3 (by rfl) T.n_range (pa_cons (pe_op op_sub (pe_callB call_len_seq (by rfl) T.n_len PySem.boot_len (pa_cons (pv 5) pa_nil)) pe_int) (pa_cons (pe_un un_neg pe_int) (pa_cons (pe_un un_neg pe_int) pa_nil)))) (pg_name (i := 4) scLProgram.nd rfl (by first | exact Or.inl rfl | exact Or.inr rfl))
        (pss_cons (ps_set (i := 8) scLProgram.nd rfl (by first | exact Or.inl rfl | exact Or.inr rfl) (pe_call GLBody (hr.mono (by omega)) rfl T.gLBody T.FLBody.kp T.bLBody .nil pass0 (pa_cons (pv 0) (pa_cons (pe_slice sl_list (pv 5) (po_some (pe_op op_add (pv 4) pe_int)) po_none) (pa_cons (pv 5) (pa_cons (pe_lst (pa_cons (pe_op op_add pe_int (pe_call GLPull (hr.mono (by omega)) rfl T.gLPull T.FLPull.kp T.bLPull .nil pass0 (pa_cons (pv 0) (pa_cons pe_int pa_nil)))) (pa_cons pe_int pa_nil))) (pa_cons pe_int pa_nil)))))))
        (pss_cons (ps_while PassesOwn.never (pt_cmpR op_gt (pe_call GLCost (hr.mono (by omega)) rfl T.gLCost T.FLCost.kp T.bLCost .nil pass0 (pa_cons (pv 8) (pa_cons (pv 6) pa_nil))) pe_int (nomark _))
          (pss_one (ps_set (i := 8) scLProgram.nd rfl (by first | exact Or.inl rfl | exact Or.inr rfl) (pe_slice sl_list (pv 8) po_none (po_some (pe_un un_neg pe_int))))))
        (pss_cons (ps_dput hu (pv 6) (pe_ix ix_list (pv 5) (pv 4) (fun _ _ => rfl)) (pe_op op_add pe_int (pe_call GLCost (hr.mono (by omega)) rfl T.gLCost T.FLCost.kp T.bLCost .nil pass0 (pa_cons (pv 8) (pa_cons (pv 6) pa_nil)))) rfl)
        (pss_one (ps_expr (pe_bm PySem.F.plainAttrs_list PySem.F.slot_list_append PySem.F.type_list_append mt_append (pv 7) (pa_cons (pe_tup (pa_cons (pe_ix ix_list (pv 5) (pv 4) (fun _ _ => rfl)) (pa_cons (pv 8) pa_nil))) pa_nil))))))))
      (pss_one (ps_ret (pe_callTy (call_dictP rfl) (by rfl) T.n_dict (by decide +kernel) (pa_cons (pe_call GLShuffled (hr.mono (by omega)) rfl T.gLShuffled T.FLShuffled.kp T.bLShuffled .nil pass0 (pa_cons (pv 0) (pa_cons (pv 7) pa_nil))) pa_nil))))), ?_⟩
    rintro D σ H1 ⟨hD, v2, v3, v4, v8, ea, L, rw, ord, m, rfl, sm1, hw1, hm, ho, he1, hL1, hr1, nea, nL, nrw, hre, rest, hrest⟩
    obtain ⟨nx, rt, bk, ct⟩ := D
    cases hD
    have hlen := ho.len
    have hpos : 0 < ord.length := List.length_pos_of_mem ho.main
    have hea : ea ≠ a := (ne_of_none how nea).symm
    have hLa : L ≠ a := (ne_of_none how nL).symm
    have hra : rw ≠ a := (ne_of_none how nrw).symm
    have hLe : L ≠ ea := fun z => by rw [z, he1] at hL1; cases hL1
    have hLr : L ≠ rw := fun z => by rw [z, hr1] at hL1; cases hL1
    have hrg : RgC (((ord.map V.str).length : Nat) - 1 : Int) (-1) (-1) ord.length := by
      have h := RgC.neg (i := (((ord.map V.str).length : Nat) - 1 : Int)) (j := -1) (by rw [List.length_map]; omega) (by rw [List.length_map]; omega) (by decide) (by decide)
      have e : ((((ord.map V.str).length : Nat) - 1 : Int) - (-1)).toNat = ord.length := by rw [List.length_map]; omega
      rw [e] at h
      exact h
    refine ⟨_, rfl, _, _, rfl, .inl (SqL.of he1), _, _, rfl, rfl, _, rfl, _, rfl, _, _, _, ord.length, rfl, hrg, ?_⟩
    refine for_rangeC (lo := ((ord.map V.str).length : Nat) - 1) (c := -1) (n := ord.length) (fun i σ H' => ∃ v4 v8 dn f vs, σ = [some (.ref a), some (.int 5), v2, v3, v4, some (.ref ea), some (.ref L), some (.ref rw), v8] ∧ Sm [a] H H' ∧ WellAt H' a (m + i * 2000001) ∧
      H' ea = some (.lst (ord.map V.str)) ∧ H' L = some (.dK (lsKv dn f)) ∧ H' rw = some (.lst vs) ∧ vs.length = i ∧ RwAt (wo [a, rw] H') vs dn ∧ Led dn f ∧ pNames dn = (ord.drop (ord.length - i)).reverse ∧ (∀ x l, (x, l) ∈ dn → BOk ord l) ∧ (i = 0 ∨ Last H [a, rw] H' vs dn)) ?_ ?_ ?_
    · refine ⟨v4, v8, [], _, [], rfl, sm1, hw1.mono (by omega), he1, hL1, hr1, rfl, .nil, .nil, ?_, fun x l h => (by cases h), .inl rfl⟩
      rw [Nat.sub_zero, List.drop_length]
      rfl
    · rintro i σ H2 hi ⟨v4, v8, dn, f, vs, rfl, sm2, hw2, he2, hL2, hr2, hvl, rws2, led, hpn, hbok, lst⟩
      obtain ⟨sp, hsp⟩ : ∃ sp : Nat, sp = ord.length - 1 - i := ⟨_, rfl⟩
      have es : (((ord.map V.str).length : Nat) - 1 : Int) + (i : Nat) * (-1) = ((sp : Nat) : Int) := by rw [List.length_map]; omega
      have hlt : sp < ord.length := by omega
      obtain ⟨x, hx⟩ : ∃ x, ord[sp]? = some x := ⟨_, List.getElem?_eq_getElem hlt⟩
      rw [es]
      refine ⟨_, rfl, _, rfl, _, rfl, _, _, rfl, rfl, _, rfl, _, _, rfl, SqL.of he2, fun p hp => ?_⟩
      have ecut : cutV (ord.map V.str) (some (((sp : Nat) : Int) + 1)) none = ((ord.drop (sp + 1)).map V.str) := by
        rw [show ((sp : Nat) : Int) + 1 = ((sp + 1 : Nat) : Int) from by omega, cut_from (by rw [List.length_map]; omega), List.map_drop]
      rw [ecut]
      have s3 := same_upd hp (.lst ((ord.drop (sp + 1)).map V.str))
      have hp3 : (upd H2 p (.lst ((ord.drop (sp + 1)).map V.str))) p = some (.lst ((ord.drop (sp + 1)).map V.str)) := upd_same
      generalize upd H2 p (.lst ((ord.drop (sp + 1)).map V.str)) = H3 at s3 hp3 ⊢
      have hw3 : WellAt H3 a (m + i * 2000001) := hw2.keep fun o e => s3 _ _ e
      refine ⟨_, rfl, _, rfl, a, 5, m + i * 2000001, rfl, by decide, by decide, hw3, by omega, fun r0 H4 r0a r0b sm4 hw4 => ?_⟩
      refine ⟨_, _, rfl, rfl, Nat.le_of_lt (small1000 (by simp)), fun rm hrm => ?_⟩
      obtain ⟨ow2, how2⟩ := hw2.some
      have hpa : p ≠ a := (ne_of_none how2 hp).symm
      have s5 := same_upd hrm (.lst [V.int (1 + r0), V.int 12])
      have hr5 : (upd H4 rm (.lst [V.int (1 + r0), V.int 12])) rm = some (.lst [V.int (1 + r0), V.int 12]) := upd_same
      have sm24 : Sm [a] H2 H4 := (Sm.of_same s3).trans sm4
      have hp4 : H4 p = some (.lst ((ord.drop (sp + 1)).map V.str)) := sm4 _ _ (by simp [hpa]) hp3
      have he4 : H4 ea = some (.lst (ord.map V.str)) := sm24 _ _ (by simp [hea]) he2
      have hL4 : H4 L = some (.dK (lsKv dn f)) := sm24 _ _ (by simp [hLa]) hL2
      have hr4 : H4 rw = some (.lst vs) := sm24 _ _ (by simp [hra]) hr2
      have rm2 : H2 rm = none := none_back sm24 (fun y hy => by simp at hy; rw [hy]; exact hw4.some) hrm
      have gv : Given (upd H4 rm (.lst [V.int (1 + r0), V.int 12])) a p ea rm (m + i * 2000001 + 1) (ord.drop (sp + 1)) ord (1 + r0) 12 :=
        ⟨hw4.keep fun o e => s5 _ _ e, by omega, s5 _ _ hp4, s5 _ _ he4, hr5, fun y hy => List.mem_of_mem_drop hy, ho.nm, ho.len, by rw [List.length_drop]; omega⟩
      have he5 := s5 _ _ he4
      have hL5 := s5 _ _ hL4
      have hr5' := s5 _ _ hr4
      have rme : rm ≠ ea := (ne_of_none he4 hrm).symm
      have rmL : rm ≠ L := (ne_of_none hL4 hrm).symm
      have rmr : rm ≠ rw := (ne_of_none hr4 hrm).symm
      have sm25 : Sm [a] H2 (upd H4 rm (.lst [V.int (1 + r0), V.int 12])) := sm24.trans (Sm.of_same s5)
      generalize upd H4 rm (.lst [V.int (1 + r0), V.int 12]) = H5 at gv he5 hL5 hr5' sm25 ⊢
      have cb : cB 4 = 2000000 := rfl
      refine ⟨a, p, ea, rm, m + i * 2000001 + 1, ord.drop (sp + 1), ord, 1 + r0, 12, rfl, by decide, by decide, gv, by omega, by omega, by decide, fun b l c' i' H6 sm6 hw6 hr6 hc' hi' hi2 bd ok nc ni em db => ?_⟩
      rw [cb] at hw6
      have sm26 : Sm [a] H2 H6 := Sm.drop sm25 rm2 (sm6.more (by simp))
      have he6 : H6 ea = some (.lst (ord.map V.str)) := sm26 _ _ (by simp [hea]) he2
      have hL6 : H6 L = some (.dK (lsKv dn f)) := sm26 _ _ (by simp [hLa]) hL2
      have hr6' : H6 rw = some (.lst vs) := sm26 _ _ (by simp [hra]) hr2
      have rws6 : RwAt (wo [a, rw] H6) vs dn := rws2.keep (Kp.of (sm26.more (W' := [a, rw]) (by simp)).same)
      obtain ⟨us, hbf, itsf⟩ := bd
      rw [fr_some] at hbf
      have hb2 : H2 b = none := none_back sm25 (fun y hy => by simp at hy; rw [hy]; exact gv.w.some) hbf.1
      have bd6 : BdAt2 [a, rw] H6 b l := by
        have hba : b ∉ [a, rw] := fun z => by
          simp only [List.mem_cons, List.not_mem_nil, or_false] at z
          rcases z with rfl | rfl
          · obtain ⟨u, hu⟩ := gv.w.some
            rw [hu] at hbf; cases hbf.1
          · rw [hr5'] at hbf; cases hbf.1
        refine ⟨us, hbf.2, hba, itsf.keep ?_⟩
        have key : ∀ y o, wo [b] (fr H5 H6) y = some o → wo [b, a, rw] H6 y = some o := fun y o e => by
          rw [wo_some, fr_some] at e
          rw [wo_some]
          refine ⟨?_, e.2.2⟩
          simp only [List.mem_cons, List.not_mem_nil, or_false, not_or]
          refine ⟨by simpa using e.1, ?_, ?_⟩
          · rintro rfl
            obtain ⟨u, hu⟩ := gv.w.some
            rw [hu] at e; cases e.2.1
          · rintro rfl
            rw [hr5'] at e; cases e.2.1
        exact ⟨fun y xs e => key _ _ e, fun y xs e => key _ _ e⟩
      have bok : BOk ord l := ⟨ok, by omega, by omega, db⟩
      have sm06 : Sm [a] H H6 := sm2.trans sm26
      clear sm6 hr6 itsf hbf ok nc ni em db hc' hi' hi2
      have hxn : x ∉ pNames dn := by
        rw [hpn, List.mem_reverse]
        intro z
        obtain ⟨j, hj, ej⟩ := List.mem_drop_iff_getElem.mp z
        have h1 := List.nodup_iff_pairwise_ne.mp ho.nd
        have ex : ord[sp] = x := by rw [List.getElem?_eq_getElem hlt] at hx; exact Option.some.inj hx
        have h2 := List.pairwise_iff_getElem.mp h1 sp (ord.length - i + j) hlt (by omega) (by omega)
        exact h2 (by rw [ex, ← ej])
      refine ⟨fun k σ' H' => ∃ b l, σ' = [some (.ref a), some (.int 5), v2, v3, some (.int (sp : Nat)), some (.ref ea), some (.ref L), some (.ref rw), some (.ref b)] ∧ k = l.length ∧ BdAt2 [a, rw] H' b l ∧ H2 b = none ∧ BOk ord l ∧ Same H6 H', ⟨_, b, l, rfl, rfl, bd6, hb2, bok, Same.refl _⟩, ?_⟩
      clear bd6 bok hb2 us b l
      rintro k σ' H7 ⟨b, l, rfl, rfl, bd7, hb2, bok, s7⟩
      have hL7 := s7 _ _ hL6
      refine ⟨_, rfl, _, rfl, b, L, ord, f, l, rfl, bd7.bd, led.at hL7, bok.ok, bok.i, bok.d, fun H8 s8 => ?_⟩
      refine ⟨_, _, rfl, rfl, _, rfl, ite2 (fun c => ?_) (fun c => ?_)⟩
      · have c := of_decide_eq_true c
        obtain ⟨ws, hb7, hbn, its7⟩ := bd7
        have hl7 := its7.length
        have hb8 : H8 b = some (.lst ws) := s8 _ _ hb7
        refine ⟨_, fun σ' H' h => h, ?_⟩
        refine ⟨_, rfl, _, rfl, _, rfl, _, _, rfl, SqL.of hb8, fun p2 hp2 => ?_⟩
        have hne : l ≠ [] := fun e => by
          rw [e] at c
          simp [costB] at c
        have s9 := same_upd hp2 (.lst (cutV ws none (some (-1))))
        have hp2n : p2 ∉ [a, rw] := fun z => by
          simp only [List.mem_cons, List.not_mem_nil, or_false] at z
          rcases z with rfl | rfl
          · obtain ⟨u, hu⟩ := hw6.some
            have := s8 _ _ (s7 _ _ hu)
            rw [hp2] at this; cases this
          · have := s8 _ _ (s7 _ _ hr6')
            rw [hp2] at this; cases this
        have key : Kp (wo [b, a, rw] H7) (wo [p2, a, rw] (upd H8 p2 (.lst (cutV ws none (some (-1)))))) := by
          have key : ∀ y o, wo [b, a, rw] H7 y = some o → wo [p2, a, rw] (upd H8 p2 (.lst (cutV ws none (some (-1))))) y = some o := fun y o e => by
            rw [wo_some] at e ⊢
            have e8 := s8 _ _ e.2
            have hy : y ≠ p2 := ne_of_none e8 hp2
            refine ⟨?_, by rw [upd_ne hy]; exact e8⟩
            have n := e.1
            simp only [List.mem_cons, List.not_mem_nil, or_false, not_or] at n ⊢
            exact ⟨hy, n.2⟩
          exact ⟨fun y xs e => key _ _ e, fun y xs e => key _ _ e⟩
        have hp22 : H2 p2 = none := none_back (sm26.trans (Sm.of_same (s7.trans s8))) (fun y hy => by
          simp at hy
          rw [hy]
          obtain ⟨u, hu⟩ := hw6.some
          exact ⟨u, s8 _ _ (s7 _ _ hu)⟩) hp2
        refine ⟨(l.take (l.length - 1)).length, ?_, p2, _, rfl, rfl, ⟨ws.take (ws.length - 1), ?_, hp2n, ?_⟩, hp22, bok.take _, (s7.trans s8).trans s9⟩
        · have := List.length_pos_iff.mpr hne
          rw [List.length_take]; omega
        · rw [upd_same, cut_last]
        · rw [← hl7]
          exact (its7.keep key).take _
      · have c : ¬ costB f l > 11 := fun z => c (decide_eq_true z)
        have s68 := s7.trans s8
        refine ⟨_, rfl, _, rfl, b, L, ord, f, l, rfl, bd7.bd.keep (Kp.of s8), led.at (s8 _ _ hL7), bok.ok, bok.i, bok.d, fun H9 s9 => ?_⟩
        have s69 := s68.trans s9
        have he9 := s69 _ _ he6
        have hL9 := s69 _ _ hL6
        have hr9 := s69 _ _ hr6'
        have sm09 := sm06.trans (Sm.of_same s69)
        have hw9 : WellAt H9 a (m + i * 2000001 + 1 + 2000000) := hw6.keep fun o e => s69 _ _ e
        have rws9 := rws6.keep (Kp.of (Sm.of_same (W := [a, rw]) s69).same)
        have bd9 : BdAt2 [a, rw] H9 b l := bd7.same (s8.trans s9)
        have hdl : dn.length = i := by have := rws6.length; omega
        have atx : (ord.map V.str)[sp]? = some (.str x) := by rw [List.getElem?_map, hx]; rfl
        refine ⟨_, _, rfl, rfl, _, rfl, _, rfl, _, rfl, _, _, _, _, rfl, rfl, SqL.of he9, atI_nat (j := sp) atx, L, _, rfl, DPut.k (k := .inr x) hL9 (small1000 (by unfold lsKv; rw [List.length_map]; omega)), ?_⟩
        rw [lsKv_put hxn]
        have nL9 : ∀ y o, H9 y = some o → y ≠ L → upd H9 L (.dK (lsKv (dn ++ [(x, l)]) (put f x (1 + costB f l)))) y = some o := fun y o e n => by rw [upd_ne n]; exact e
        have hL10 : (upd H9 L (.dK (lsKv (dn ++ [(x, l)]) (put f x (1 + costB f l))))) L = some (.dK (lsKv (dn ++ [(x, l)]) (put f x (1 + costB f l)))) := upd_same
        have sm10 := Sm.put (o := .dK (lsKv (dn ++ [(x, l)]) (put f x (1 + costB f l)))) nL sm09
        generalize upd H9 L (.dK (lsKv (dn ++ [(x, l)]) (put f x (1 + costB f l)))) = H10 at nL9 hL10 sm10 ⊢
        have hr10 := nL9 _ _ hr9 hLr.symm
        have he10 := nL9 _ _ he9 hLe.symm
        refine ⟨_, rfl, .inl ⟨rfl, _, SqL.of hr10⟩, _, rfl, _, rfl, _, _, _, _, rfl, rfl, SqL.of he10, atI_nat (j := sp) atx, _, rfl, Nat.le_of_lt (small1000 (by simp)), fun t ht => ?_⟩
        have s11 := same_upd ht (.tup [V.str x, V.ref b])
        have ht11 : (upd H10 t (.tup [V.str x, V.ref b])) t = some (.tup [V.str x, V.ref b]) := upd_same
        have tr : t ≠ rw := (ne_of_none hr10 ht).symm
        have ta : t ≠ a := by
          rintro rfl
          obtain ⟨u, hu⟩ := hw9.some
          rw [nL9 _ _ hu hLa.symm] at ht
          cases ht
        generalize upd H10 t (.tup [V.str x, V.ref b]) = H11 at s11 ht11 ⊢
        have hr11 := s11 _ _ hr10
        refine ⟨rw, vs, .ref t, rfl, rfl, hr11, small1000 (by omega), ?_⟩
        have off : ∀ y o, y ≠ L → wo [a, rw] H9 y = some o → wo [a, rw] (upd H11 rw (.lst (vs ++ [.ref t]))) y = some o := fun y o n e => by
          rw [wo_some] at e ⊢
          refine ⟨e.1, ?_⟩
          rw [upd_ne (fun z => e.1 (by simp [z]))]
          exact s11 _ _ (nL9 _ _ e.2 n)
        have kp : Kp (wo [a, rw] H9) (wo [a, rw] (upd H11 rw (.lst (vs ++ [.ref t])))) :=
          ⟨fun y xs e => off y _ (by rintro rfl; rw [wo_some, hL9] at e; cases e.2) e, fun y xs e => off y _ (by rintro rfl; rw [wo_some, hL9] at e; cases e.2) e⟩
        refine ⟨_, _, dn ++ [(x, l)], _, vs ++ [.ref t], rfl, Sm.put nrw (sm10.trans (Sm.of_same s11)), ?_, ?_, ?_, upd_same, by simp [hvl], (rws9.keep kp).snoc (b := b) (wo_some.mpr ⟨by simp [tr, ta], ?_⟩) (bd9.off.keep kp), .snoc led hxn (by omega), ?_, ?_, .inr ⟨t, b, x, l, vs, dn, rfl, rfl, ?_, by simp [tr, ta], ?_, ?_, none_back sm2 (fun y hy => by simp at hy; rw [hy]; exact hw2.some) hb2⟩⟩
        · refine (hw9.keep fun o e => ?_).mono (by omega)
          rw [upd_ne hra.symm]
          exact s11 _ _ (nL9 _ _ e hLa.symm)
        · rw [upd_ne hre.symm]
          exact s11 _ _ he10
        · rw [upd_ne hLr]
          exact s11 _ _ hL10
        · rw [upd_ne tr]
          exact ht11
        · rw [pNames_app, hpn]
          have e1 : ord.length - i = sp + 1 := by omega
          have e2 : ord.length - (i + 1) = sp := by omega
          have ex : ord[sp] = x := by rw [List.getElem?_eq_getElem hlt] at hx; exact Option.some.inj hx
          rw [e1, e2, List.drop_eq_getElem_cons hlt, List.reverse_cons, ex]
          rfl
        · intro y m' hm'
          rcases List.mem_append.mp hm' with z | z
          · exact hbok y m' z
          · cases List.mem_singleton.mp z
            exact bok
        · rw [upd_ne tr]
          exact ht11
        · have key : ∀ y o, y ≠ L → wo [a, rw] H2 y = some o → wo [b, a, rw] (upd H11 rw (.lst (vs ++ [.ref t]))) y = some o := fun y o n e => by
            rw [wo_some] at e
            have e6 := sm26 y o (fun z => e.1 (by simp at z; simp [z])) e.2
            have e9 := off y o n (wo_some.mpr ⟨e.1, s69 _ _ e6⟩)
            rw [wo_some] at e9 ⊢
            refine ⟨?_, e9.2⟩
            rw [List.mem_cons, not_or]
            exact ⟨fun z => (by rw [z, hb2] at e; cases e.2), e9.1⟩
          refine rws2.keep ⟨fun y xs e => key y _ (by rintro rfl; rw [wo_some, hL2] at e; cases e.2) e, fun y xs e => key y _ (by rintro rfl; rw [wo_some, hL2] at e; cases e.2) e⟩
        · obtain ⟨us, u1, u2, u3⟩ := bd9
          have bL : b ≠ L := by rintro rfl; rw [hL9] at u1; cases u1
          have u4 := off b _ bL (wo_some.mpr ⟨u2, u1⟩)
          refine ⟨us, (wo_some.mp u4).2, u2, u3.keep ?_⟩
          have key : ∀ y o, y ≠ L → wo [b, a, rw] H9 y = some o → wo [b, a, rw] (upd H11 rw (.lst (vs ++ [.ref t]))) y = some o := fun y o n e => by
            rw [wo_some, List.mem_cons, not_or] at e
            have e9 := off y o n (wo_some.mpr ⟨e.1.2, e.2⟩)
            rw [wo_some] at e9 ⊢
            rw [List.mem_cons, not_or]
            exact ⟨⟨e.1.1, e9.1⟩, e9.2⟩
          exact ⟨fun y xs e => key y _ (by rintro rfl; rw [wo_some, hL9] at e; cases e.2) e, fun y xs e => key y _ (by rintro rfl; rw [wo_some, hL9] at e; cases e.2) e⟩
    · rintro σ H2 ⟨v4, v8, dn, f, vs, rfl, sm2, hw2, he2, hL2, hr2, hvl, rws2, led, hpn, hbok, lst⟩
      refine ⟨_, rfl, _, rfl, a, rw, m + ord.length * 2000001, vs, rfl, hw2, by omega, SqL.of hr2, by omega, fun r ys H3 sm3 hrn hr3 pe hw3 => ?_⟩
      rcases lst with z | ⟨t, b0, x, l, vs', dn', ev, ed, ht, htn, rwl, ⟨us, u1, u2, u3⟩, hb0⟩
      · omega
      rw [Nat.sub_self, List.drop_zero] at hpn
      have hx : x = "main" ∧ ("main" : Str) ∉ pNames dn' := by
        have e := hpn
        rw [ed, pNames_app, hrest, List.reverse_cons] at e
        have e1 : pNames [(x, l)] = [x] := rfl
        rw [e1] at e
        have e2 := List.append_inj_right' e rfl
        have e3 := List.append_inj_left' e rfl
        have nd := ho.nd
        rw [hrest] at nd
        refine ⟨by simpa using e2, ?_⟩
        rw [e3, List.mem_reverse]
        exact (List.nodup_cons.mp nd).1
      obtain ⟨rfl, hmn⟩ := hx
      have rwm : RwM (wo [a, rw] H2) b0 vs dn := by
        rw [ev, ed]
        refine (rwl.toM hmn).snoc (wo_some.mpr ⟨htn, ht⟩) (wo_some.mpr ⟨u2, u1⟩) (u3.keep ?_)
        have key : ∀ y o, wo (b0 :: [a, rw]) H2 y = some o → wo [b0] (wo [a, rw] H2) y = some o := fun y o e => by
          rw [wo_some, List.mem_cons, not_or] at e
          rw [wo_some, wo_some]
          exact ⟨by simpa using e.1.1, e.1.2, e.2⟩
        exact ⟨fun y xs e => key _ _ e, fun y xs e => key _ _ e⟩
      obtain ⟨p', pp, rws3⟩ := rwm.perm pe.symm
      have sm23 : Sm [a, rw] H2 H3 := sm3.more (by simp)
      have rws4 := rws3.keep sm23.same
      obtain ⟨ps, kvs, e, pd, pk⟩ := rws4.paired (K := K) (H' := H3) kp_off
      subst e
      refine ⟨r, ps, kvs, rfl, SqL.of hr3, pd, fun d hd => ?_⟩
      have va := valid_of ho led hpn hbok pp
      rw [mergeK_nd kvs [] (keys_nd pk.kv va.nd), List.nil_append]
      have s4 := same_upd hd (.dK kvs)
      refine q d kvs p' b0 _ ((sm2.trans sm3).trans (Sm.of_same s4)) ((hw3.keep fun o e => s4 _ _ e).mono (by omega)) upd_same (pk.keep ?_) va hb0
      have key : ∀ y o, wo [a, rw] H3 y = some o → wo [a] (upd H3 d (.dK kvs)) y = some o := fun y o e => by
        rw [wo_some] at e ⊢
        exact ⟨fun z => e.1 (by simp at z; simp [z]), s4 _ _ e.2⟩
      exact key
  · intro u1 hu1 ru1
    refine split_at 3 (fun D σ H' => D.rt = Q ∧ ∃ (v2 : Option V) (o : Addr) (zs : List Str) (k : Nat) (ns : List Str) (m : Nat), σ = [some (.ref a), some (.int 5), v2, some (.ref o), none, none, none, none, none] ∧ Sm [a] H H' ∧ WellAt H' a m ∧ m ≤ n + 7 ∧ H' o = some (.lst ((zs.take k).map V.str)) ∧ ns ∈ menus ∧ zs.Perm ns) ?_ ?_
    · skip
      refine ⟨_, (pss_cons (ps_par3 (i := 5) (j := 6) (l := 7) rfl scLProgram.nd rfl rfl rfl (by decide) (by decide) (by decide) rfl rfl rfl (pa_cons (pe_op op_cat (pe_lst (pa_cons pe_str pa_nil)) (pv 3)) (pa_cons pe_dnewK (pa_cons (pe_lst pa_nil) pa_nil))) (by rfl))
      hu1), ?_⟩
      rintro D σ H1 ⟨hD, v2, o, zs, k, ns, m, rfl, sm1, hw1, hm, ho1, hns, pz⟩
      have hol := ord_of (k := k) hns pz
      have hzl := hol.len
      rw [List.length_cons] at hzl
      refine ⟨Nat.le_of_lt (small1000 (by simp)), fun p hp => ?_⟩
      have s2 := same_upd hp (.lst [V.str "main"])
      refine ⟨_, rfl, p, o, _, _, rfl, rfl, upd_same, s2 _ _ ho1, Nat.le_of_lt (small1000 (by rw [List.length_map, List.length_singleton]; omega)), fun p2 hp2 => ?_⟩
      have hp2u : (upd (upd H1 p (.lst [V.str "main"])) p2 (.lst ([V.str "main"] ++ (zs.take k).map V.str))) p2 = some (.lst (((("main" : Str) :: zs.take k)).map V.str)) := upd_same
      have s3 := s2.trans (same_upd hp2 (.lst ([V.str "main"] ++ (zs.take k).map V.str)))
      have hp2o : H1 p2 = none := none_back (W := []) (Sm.of_same s2) (fun _ z => by cases z) hp2
      generalize upd (upd H1 p (.lst [V.str "main"])) p2 (.lst ([V.str "main"] ++ (zs.take k).map V.str)) = H3 at hp2u s3 ⊢
      intro p3 hp3
      have s4 := same_upd hp3 (.dK [])
      have hp3u : (upd H3 p3 (.dK [])) p3 = some (.dK []) := upd_same
      generalize upd H3 p3 (.dK []) = H4 at s4 hp3u ⊢
      refine ⟨Nat.zero_le _, fun p4 hp4 => ?_⟩
      have s5 := same_upd hp4 (.lst [])
      have s15 := (s3.trans s4).trans s5
      have hp3o : H1 p3 = none := none_back (W := []) (Sm.of_same s3) (fun _ z => by cases z) hp3
      have hp4o : H1 p4 = none := none_back (W := []) (Sm.of_same (s3.trans s4)) (fun _ z => by cases z) hp4
      have back : ∀ x, H1 x = none → H x = none := fun x hx => none_back sm1 (fun y hy => by simp at hy; rw [hy]; exact hw1.some) hx
      refine ⟨_, _, _, rfl, ru1 _ _ _ ⟨hD, _, _, _, _, p2, p3, p4, (("main" : Str) :: zs.take k), m, rfl, sm1.trans (Sm.of_same s15), hw1.keep fun o e => s15 _ _ e, hm, hol, s5 _ _ (s4 _ _ hp2u), s5 _ _ hp3u, upd_same, back _ hp2o, back _ hp3o, back _ hp4o, ?_, _, rfl⟩⟩
      rintro rfl
      rw [s4 _ _ hp2u] at hp4
      cases hp4
    · intro u3 hu3 ru3
      refine split_at 2 (fun D σ H' => D.rt = Q ∧ ∃ s vs, σ = [some (.ref a), some (.int 5), some (.ref s), none, none, none, none, none, none] ∧ Same H H' ∧ H' s = some (.lst vs) ∧ vs.length = 5 ∧ ∀ (j : Nat) v, vs[j]? = some v → ∃ ns ∈ menus, Menu H' v ns) ?_ ?_
      · skip
        refine ⟨_, (pss_cons (ps_set (i := 3) scLProgram.nd rfl (by first | exact Or.inl rfl | exact Or.inr rfl) (pe_slice sl_list (pe_call GLShuffled (hr.mono (by omega)) rfl T.gLShuffled T.FLShuffled.kp T.bLShuffled .nil pass0 (pa_cons (pv 0) (pa_cons (pe_callTy (call_list_of.or (call_strL rfl)) (by rfl) T.n_list (by decide +kernel) (pa_cons (pe_ix ix_list (pv 2) (pe_call GLPull (hr.mono (by omega)) rfl T.gLPull T.FLPull.kp T.bLPull .nil pass0 (pa_cons (pv 0) (pa_cons pe_int pa_nil))) (fun _ _ => rfl)) pa_nil)) pa_nil))) po_none (po_some (pe_call GLPull (hr.mono (by omega)) rfl T.gLPull T.FLPull.kp T.bLPull .nil pass0 (pa_cons (pv 0) (pa_cons (pe_op op_add (pv 1) pe_int) pa_nil))))))
      hu3), ?_⟩
        rintro D σ H1 ⟨hD, s, vs, rfl, s1, hs1, hvl, hmn⟩
        have hw1 : WellAt H1 a n := hw.keep fun o e => s1 _ _ e
        refine ⟨_, rfl, _, rfl, _, rfl, a, 5, n, rfl, by decide, by decide, hw1, by omega, fun r0 H2 r0a r0b sm2 hw2 => ?_⟩
        have hsa : s ≠ a := by
          rintro rfl
          obtain ⟨x, y, z, e, _⟩ := hw1
          rw [hs1] at e
          cases e
          simp at hvl
        have hs2 : H2 s = some (.lst vs) := sm2 _ _ (by simp [hsa]) hs1
        have hlt : r0.toNat < vs.length := by omega
        obtain ⟨v, hv⟩ : ∃ v, vs[r0.toNat]? = some v := ⟨_, List.getElem?_eq_getElem hlt⟩
        obtain ⟨ns, hns, hme⟩ := hmn _ _ hv
        have sm02 : Sm [a] H H2 := (Sm.of_same s1).trans sm2
        have nsl : ns.length ≤ 5 := (menus_ok ns hns).2.2.2
        have fin : ∀ (Q' : VK), (∀ (r : Addr) (zs : List Str) (m : Nat) (H' : Hp), Sm [a] H H' → WellAt H' a m → m ≤ n + 6 → r ≠ a → H' r = some (.lst (zs.map V.str)) → zs.Perm ns → Q' (.ref r) H') → ∀ l, H2 l = none → spShuffled (K := K) [.ref a, .ref l] (upd H2 l (.lst (ns.map V.str))) Q' E0 := by
          intro Q' q' l hl
          have s3 := same_upd hl (.lst (ns.map V.str))
          refine ⟨a, l, n + 1, _, rfl, hw2.keep fun o e => s3 _ _ e, by omega, SqL.of upd_same, by rw [List.length_map]; omega, fun r ys H4 sm4 hrn hr4 pe hw4 => ?_⟩
          obtain ⟨zs, e, pz⟩ := strs_perm pe
          subst e
          rw [List.length_map] at hw4
          refine q' r zs _ H4 ((sm02.trans (Sm.of_same s3)).trans sm4) hw4 (by omega) ?_ hr4 pz
          rintro rfl
          obtain ⟨u, hu⟩ := hw2.some
          rw [s3 _ _ hu] at hrn
          cases hrn
        refine ⟨s, vs, r0, v, rfl, rfl, SqL.of hs2, ?_, ?_⟩
        · have := atI_nat (xs := vs) (j := r0.toNat) hv
          rw [Int.toNat_of_nonneg r0a] at this
          exact this
        rcases hme with ⟨rfl, rfl⟩ | ⟨mm, rfl, hmm⟩
        · refine .inr ⟨_, rfl, Nat.le_of_lt (small1000 (by decide +kernel)), fun l hl => ?_⟩
          rw [abcde_split]
          dsimp only [tNil, List.cons_append, List.nil_append]
          refine fin _ (fun r zs m H4 sm4 hw4 hm hra hr4 pz => ?_) l hl
          refine ⟨_, rfl, _, rfl, _, _, rfl, rfl, a, 6, m, rfl, by decide, by decide, hw4, by omega, fun k H5 k0 k1 sm5 hw5 => ?_⟩
          have hr5 : H5 r = some (.lst (zs.map V.str)) := sm5 _ _ (by simp [hra]) hr4
          refine ⟨_, rfl, _, _, rfl, SqL.of hr5, fun p hp => ?_⟩
          have s6 := same_upd hp (.lst (cutV (zs.map V.str) none (some k)))
          have kl := Int.toNat_of_nonneg k0
          refine ru3 _ _ _ ⟨hD, _, p, zs, k.toNat, _, m + 1, rfl, (sm4.trans sm5).trans (Sm.of_same s6), hw5.keep fun o e => s6 _ _ e, by omega, ?_, hns, pz⟩
          rw [upd_same, ← kl, cut_to', kl, ← List.map_take]
        · have hma : mm ≠ a := by
            rintro rfl
            obtain ⟨x, y, z, e, _⟩ := hw1
            rw [hmm] at e
            exact strs_ne (HO.lst.inj (Option.some.inj e))
          refine .inl ⟨mm, _, rfl, .inl (SqL.of (sm2 _ _ (by simp [hma]) hmm)), fun l hl => ?_⟩
          dsimp only [tNil, List.cons_append, List.nil_append]
          refine fin _ (fun r zs m H4 sm4 hw4 hm hra hr4 pz => ?_) l hl
          refine ⟨_, rfl, _, rfl, _, _, rfl, rfl, a, 6, m, rfl, by decide, by decide, hw4, by omega, fun k H5 k0 k1 sm5 hw5 => ?_⟩
          have hr5 : H5 r = some (.lst (zs.map V.str)) := sm5 _ _ (by simp [hra]) hr4
          refine ⟨_, rfl, _, _, rfl, SqL.of hr5, fun p hp => ?_⟩
          have s6 := same_upd hp (.lst (cutV (zs.map V.str) none (some k)))
          have kl := Int.toNat_of_nonneg k0
          refine ru3 _ _ _ ⟨hD, _, p, zs, k.toNat, _, m + 1, rfl, (sm4.trans sm5).trans (Sm.of_same s6), hw5.keep fun o e => s6 _ _ e, by omega, ?_, hns, pz⟩
          rw [upd_same, ← kl, cut_to', kl, ← List.map_take]
      · intro u2 hu2 ru2
        refine ⟨_, (pss_cons (ps_set (i := 2) scLProgram.nd rfl (by first | exact Or.inl rfl | exact Or.inr rfl) (pe_lst (pa_cons pe_str (pa_cons (pe_lst (pa_cons pe_str (pa_cons pe_str (pa_cons pe_str (pa_cons pe_str (pa_cons pe_str pa_nil)))))) (pa_cons (pe_lc (own := [("spot", 4)]) (g := gName 4) (tt := tYes) rfl scLProgram.nd (pi_range2 (by rfl) T.n_range (pa_cons pe_int (pa_cons pe_int pa_nil))) (blkOk_by (N := ["well", "most", "some", "others", "spot", "order", "least", "rows", "body"]) (sc := defScope sLProgram) (by decide +kernel)) (fun _ _ _ _ _ => (pg_name (i := 4) scLProgram.nd rfl (by first | exact Or.inl rfl | exact Or.inr rfl))) (fun _ _ _ _ _ => pts_nil) (fun _ _ _ _ _ => (pe_op op_add_str pe_str (pe_op op_mul_x pe_str (pv 4))))) pa_nil)))))
      (pss_cons (ps_set (i := 2) scLProgram.nd rfl (by first | exact Or.inl rfl | exact Or.inr rfl) (pe_op op_cat (pv 2) (pe_lst (pa_cons (pe_lst (pa_cons pe_str (pa_cons pe_str (pa_cons pe_str (pa_cons pe_str (pa_cons pe_str pa_nil)))))) (pa_cons (pe_lst (pa_cons pe_str (pa_cons pe_str (pa_cons pe_str (pa_cons pe_str (pa_cons pe_str pa_nil)))))) pa_nil)))))
      hu2)), ?_⟩
        refine ⟨Nat.le_of_lt (small1000 (by simp)), fun p1 hp1 => ?_⟩
        have e1 : (upd H p1 (.lst [V.str "zz", V.str "mains", V.str "bcdefghi", V.str "n", V.str "ma"])) p1 = some (.lst (m1.map V.str)) := upd_same
        have s1 := same_upd hp1 (.lst [V.str "zz", V.str "mains", V.str "bcdefghi", V.str "n", V.str "ma"])
        generalize upd H p1 (.lst [V.str "zz", V.str "mains", V.str "bcdefghi", V.str "n", V.str "ma"]) = H1 at e1 s1 ⊢
        refine ⟨_, _, rfl, ⟨by decide, by decide, by decide, by decide⟩, fun D hD => ?_⟩
        refine lc_range (lo := 1) (n := 4) (fun i H' => Same H1 H' ∧ H' D = some (.lst ((List.range i).map fun i => V.str (("main" : Str) ++ FA.exes (i + 1))))) ?_ ?_ ?_
        · exact ⟨same_upd hD _, upd_same⟩
        · rintro i H2 hi ⟨s2, h2⟩
          refine ⟨rfl, yesT (iteT ?_)⟩
          refine ⟨_, rfl, i + 1, rfl, ?_, by omega, by omega, ?_⟩
          · congr 1
            omega
          · refine ⟨_, _, rfl, rfl, ?_, _, h2, small1000 (by simp; omega), fun b o e => ?_, ?_⟩
            · rcases (by omega : i = 0 ∨ i = 1 ∨ i = 2 ∨ i = 3) with rfl | rfl | rfl | rfl <;> exact Nat.le_of_lt (small1000 (by decide +kernel))
            · rw [upd_ne (ne_of_none e hD)]
              exact s2 _ _ e
            · rw [upd_same, List.range_succ, List.map_append]
              rfl
        rintro H2 ⟨s2, e2⟩
        have e2 : H2 D = some (.lst (m2.map V.str)) := e2
        refine ⟨Nat.le_of_lt (small1000 (by simp)), fun p2 hp2 => ?_⟩
        have s3 := same_upd hp2 (.lst [V.str "abcde", V.ref p1, V.ref D])
        have e3 : (upd H2 p2 (.lst [V.str "abcde", V.ref p1, V.ref D])) p2 = some (.lst [V.str "abcde", V.ref p1, V.ref D]) := upd_same
        generalize upd H2 p2 (.lst [V.str "abcde", V.ref p1, V.ref D]) = H3 at s3 e3 ⊢
        refine ⟨_, rfl, Nat.le_of_lt (small1000 (by simp)), fun p4 hp4 => ?_⟩
        have s4 := same_upd hp4 (.lst [V.str "loop", V.str "maybe", V.str "one", V.str "call", V.str "return"])
        have e4 : (upd H3 p4 (.lst [V.str "loop", V.str "maybe", V.str "one", V.str "call", V.str "return"])) p4 = some (.lst (m3.map V.str)) := upd_same
        generalize upd H3 p4 (.lst [V.str "loop", V.str "maybe", V.str "one", V.str "call", V.str "return"]) = H4 at s4 e4 ⊢
        refine ⟨Nat.le_of_lt (small1000 (by simp)), fun p5 hp5 => ?_⟩
        have s5 := same_upd hp5 (.lst [V.str "jkl", V.str "vwy", V.str "pqrstuv", V.str "ox", V.str "sample"])
        have e5 : (upd H4 p5 (.lst [V.str "jkl", V.str "vwy", V.str "pqrstuv", V.str "ox", V.str "sample"])) p5 = some (.lst (m4.map V.str)) := upd_same
        generalize upd H4 p5 (.lst [V.str "jkl", V.str "vwy", V.str "pqrstuv", V.str "ox", V.str "sample"]) = H5 at s5 e5 ⊢
        refine ⟨Nat.le_of_lt (small1000 (by simp)), fun p6 hp6 => ?_⟩
        have s6 := same_upd hp6 (.lst [V.ref p4, V.ref p5])
        have e6 : (upd H5 p6 (.lst [V.ref p4, V.ref p5])) p6 = some (.lst [V.ref p4, V.ref p5]) := upd_same
        generalize upd H5 p6 (.lst [V.ref p4, V.ref p5]) = H6 at s6 e6 ⊢
        refine ⟨p2, p6, _, _, rfl, rfl, s6 _ _ (s5 _ _ (s4 _ _ e3)), e6, Nat.le_of_lt (small1000 (by simp)), fun p7 hp7 => ?_⟩
        have s7 := same_upd hp7 (.lst ([V.str "abcde", V.ref p1, V.ref D] ++ [V.ref p4, V.ref p5]))
        have s57 := (s5.trans s6).trans s7
        have s27 := (s3.trans s4).trans s57
        refine ru2 _ _ _ ⟨rfl, p7, _, rfl, ((s1.trans s2).trans s27), upd_same, rfl, fun j v hv => ?_⟩
        rcases j with _ | _ | _ | _ | _ | j
        · cases hv; exact ⟨m0, by simp [menus], .inl ⟨rfl, rfl⟩⟩
        · cases hv; exact ⟨m1, by simp [menus], .inr ⟨p1, rfl, s27 _ _ (s2 _ _ e1)⟩⟩
        · cases hv; exact ⟨m2, by simp [menus], .inr ⟨D, rfl, s27 _ _ e2⟩⟩
        · cases hv; exact ⟨m3, by simp [menus], .inr ⟨p4, rfl, s57 _ _ e4⟩⟩
        · cases hv; exact ⟨m4, by simp [menus], .inr ⟨p5, rfl, (s6.trans s7) _ _ e5⟩⟩
        · simp at hv
end K02


set_option Elab.async false
set_option linter.all false
set_option maxRecDepth 100000
set_option maxHeartbeats 4000000
namespace K02
open PySem PySem.Spec PyProof.Rows L2 FA
variable {P : Program} {w : World} {K : PySem.W.Frag} {mg : Str → Option Value} {base : Heap}
/-! ### the names in a body, in their order -/
mutual
def nmI : FA.It → List Str
  | .call x => [x]
  | .may b => nmB b
  | .loop b => nmB b
  | .one bs => nmBs bs
def nmB : List FA.It → List Str
  | [] => []
  | i :: r => nmI i ++ nmB r
def nmBs : List (List FA.It) → List Str
  | [] => []
  | b :: r => nmB b ++ nmBs r
end
mutual
theorem nmI_len : ∀ i : FA.It, (nmI i).length = nC i
  | .call x => by simp [nmI, nC]
  | .may b => by simp only [nmI, nC, nmB_len b]
  | .loop b => by simp only [nmI, nC, nmB_len b]
  | .one bs => by simp only [nmI, nC, nmBs_len bs]
theorem nmB_len : ∀ b : List FA.It, (nmB b).length = nCB b
  | [] => by simp [nmB, nCB]
  | i :: r => by simp only [nmB, nCB, List.length_append, nmI_len i, nmB_len r]
theorem nmBs_len : ∀ bs : List (List FA.It), (nmBs bs).length = nCBs bs
  | [] => by simp [nmBs, nCBs]
  | b :: r => by simp only [nmBs, nCBs, List.length_append, nmB_len b, nmBs_len r]
end
mutual
theorem nmI_ok {ns : List Str} : ∀ i : FA.It, okI ns i → ∀ x ∈ nmI i, x ∈ ns
  | .call y, h, x, hx => by simp only [okI] at h; simp only [nmI, List.mem_singleton] at hx; rw [hx]; exact h
  | .may b, h, x, hx => by simp only [okI] at h; simp only [nmI] at hx; exact nmB_ok b h.2 x hx
  | .loop b, h, x, hx => by simp only [okI] at h; simp only [nmI] at hx; exact nmB_ok b h.2 x hx
  | .one bs, h, x, hx => by simp only [okI] at h; simp only [nmI] at hx; exact nmBs_ok bs h.2.2.2 x hx
theorem nmB_ok {ns : List Str} : ∀ b : List FA.It, okB ns b → ∀ x ∈ nmB b, x ∈ ns
  | [], _, x, hx => by simp [nmB] at hx
  | i :: r, h, x, hx => by
    simp only [okB] at h
    simp only [nmB, List.mem_append] at hx
    exact hx.elim (nmI_ok i h.1 x) (nmB_ok r h.2 x)
theorem nmBs_ok {ns : List Str} : ∀ bs : List (List FA.It), okBs ns bs → ∀ x ∈ nmBs bs, x ∈ ns
  | [], _, x, hx => by simp [nmBs] at hx
  | b :: r, h, x, hx => by
    simp only [okBs] at h
    simp only [nmBs, List.mem_append] at hx
    exact hx.elim (nmB_ok b h.1 x) (nmBs_ok r h.2 x)
end
theorem nmB_take {l : List FA.It} {i : Nat} {it : FA.It} (h : l[i]? = some it) : nmB (l.take (i + 1)) = nmB (l.take i) ++ nmI it := by
  have app : ∀ a b : List FA.It, nmB (a ++ b) = nmB a ++ nmB b := fun a b => by
    induction a with
    | nil => simp [nmB]
    | cons x r ih => simp only [List.cons_append, nmB, ih, List.append_assoc]
  rw [List.take_add_one, h, app]
  simp [nmB]
theorem nmBs_take {l : List (List FA.It)} {i : Nat} {b : List FA.It} (h : l[i]? = some b) : nmBs (l.take (i + 1)) = nmBs (l.take i) ++ nmB b := by
  have app : ∀ a b : List (List FA.It), nmBs (a ++ b) = nmBs a ++ nmBs b := fun a b => by
    induction a with
    | nil => simp [nmBs]
    | cons x r ih => simp only [List.cons_append, nmBs, ih, List.append_assoc]
  rw [List.take_add_one, h, app]
  simp [nmBs]
/-- the bodies of an item that is no call -/
def bodies : FA.It → List (List FA.It)
  | .call _ => []
  | .may b => [b]
  | .loop b => [b]
  | .one bs => bs
theorem bodies_nm : ∀ i : FA.It, (∀ x, i ≠ .call x) → nmBs (bodies i) = nmI i
  | .call x, h => absurd rfl (h x)
  | .may b, _ => by simp [bodies, nmBs, nmI]
  | .loop b, _ => by simp [bodies, nmBs, nmI]
  | .one bs, _ => rfl
theorem bodies_ok {ns : List Str} : ∀ i : FA.It, okI ns i → okBs ns (bodies i)
  | .call x, _ => by simp [bodies, okBs]
  | .may b, h => by simp only [okI] at h; simp [bodies, okBs, h.2]
  | .loop b, h => by simp only [okI] at h; simp [bodies, okBs, h.2]
  | .one bs, h => by simp only [okI] at h; exact h.2.2.2
theorem bodies_d : ∀ i : FA.It, dBs (bodies i) ≤ dI i
  | .call x => by simp [bodies, dBs, dI]
  | .may b => by simp only [bodies, dBs, dI]; omega
  | .loop b => by simp only [bodies, dBs, dI]; omega
  | .one bs => by simp only [bodies, dI]; omega
theorem strs_refs {ns : List Str} {b : Addr} {r : List V} (h : (ns.map V.str) = V.ref b :: r) : False := by
  cases ns with
  | nil => cases h
  | cons a r => cases h
def spWithin : Sp := fun vs H Q _ => ∃ (t : Addr) (it : FA.It) (ns : List Str), vs = [.ref t] ∧ ItAt H (.ref t) it ∧ okI ns it ∧ ∀ r ws H', Same H H' → H' r = some (.lst ws) → (∀ Hx, Same Hx H → ItAt Hx (.ref t) it → BdsAt Hx ws (bodies it)) → ws ≠ [] → Q (.ref r) H'
theorem okWithin (T : Txt K mg) : FnOk P w K mg base CX0 1 T.aBodiesWithin T.fBodiesWithin ["item"] spWithin := by
  refine T.FBodiesWithin.ok scBodiesWithin (fun vs H Q E h => ?_) (fun cdv A outer s H vs Q E hr h => ?_)
  · obtain ⟨t, it, ns, rfl, _⟩ := h
    rfl
  obtain ⟨t, it, ns, rfl, hit, ok, q⟩ := h
  have hu := hu_of hr
  refine ⟨_, (pss_one (ps_ret (pe_ifExp (pt_cmpR op_eq (pe_ix ix_tup (pv 0) pe_int (fun _ _ => rfl)) pe_str (nomark _)) (pe_ix ix_tup (pv 0) pe_int (fun _ _ => rfl)) (pe_lst (pa_cons (pe_ix ix_tup (pv 0) pe_int (fun _ _ => rfl)) pa_nil))))), ?_⟩
  cases hit with
  | @may t b' vs' l' h1 h2 h3 =>
    refine ⟨_, rfl, _, _, _, _, rfl, rfl, SqT.of h1, at_of (j := 0) rfl rfl, rfl, _, rfl, ite2 (fun c => absurd (of_decide_eq_true c) (by decide)) (fun _ => ?_)⟩
    refine ⟨_, rfl, _, _, _, _, rfl, rfl, SqT.of h1, at_of (j := 1) rfl rfl, Nat.le_of_lt (small1000 (by simp)), fun p hp => ?_⟩
    have s1 := same_upd hp (.lst [V.ref b'])
    refine q p _ _ s1 upd_same (fun Hx sx hx => ?_) (by simp)
    cases hx with
    | may g1 g2 g3 =>
      have e := sx _ _ g1
      rw [h1] at e
      cases e
      exact .cons g2 g3 .nil
  | @loop t b' vs' l' h1 h2 h3 =>
    refine ⟨_, rfl, _, _, _, _, rfl, rfl, SqT.of h1, at_of (j := 0) rfl rfl, rfl, _, rfl, ite2 (fun c => absurd (of_decide_eq_true c) (by decide)) (fun _ => ?_)⟩
    refine ⟨_, rfl, _, _, _, _, rfl, rfl, SqT.of h1, at_of (j := 1) rfl rfl, Nat.le_of_lt (small1000 (by simp)), fun p hp => ?_⟩
    have s1 := same_upd hp (.lst [V.ref b'])
    refine q p _ _ s1 upd_same (fun Hx sx hx => ?_) (by simp)
    cases hx with
    | loop g1 g2 g3 =>
      have e := sx _ _ g1
      rw [h1] at e
      cases e
      exact .cons g2 g3 .nil
  | @one t b' vs' ls h1 h2 h3 =>
    simp only [okI] at ok
    refine ⟨_, rfl, _, _, _, _, rfl, rfl, SqT.of h1, at_of (j := 0) rfl rfl, rfl, _, rfl, ite2 (fun _ => ?_) (fun c => absurd (decide_eq_true rfl) c)⟩
    refine ⟨_, rfl, _, _, _, _, rfl, rfl, SqT.of h1, at_of (j := 1) rfl rfl, ?_⟩
    refine q b' vs' H (Same.refl _) h2 (fun Hx sx hx => ?_) (fun z => ?_)
    · cases hx with
      | one g1 g2 g3 =>
        have e := sx _ _ g1
        rw [h1] at e
        cases e
        have e2 := sx _ _ g2
        rw [h2] at e2
        cases e2
        exact g3
    · have := h3.length
      rw [z] at this
      simp at this
      omega
def spNames (n : Nat) : Sp := fun vs H Q _ => ∃ (b : Addr) (l : List FA.It) (ns : List Str), vs = [.ref b] ∧ BdAt H b l ∧ okB ns l ∧ nCB l ≤ 100 ∧ nIB l ≤ 12 ∧ dB l ≤ n ∧ ∀ r H', Same H H' → H r = none → H' r = some (.lst ((nmB l).map V.str)) → Q (.ref r) H'
end K02


set_option Elab.async false
set_option linter.all false
set_option maxRecDepth 100000
set_option maxHeartbeats 4000000
namespace K02
open PySem PySem.Spec PyProof.Rows L2 FA
variable {P : Program} {w : World} {K : PySem.W.Frag} {mg : Str → Option Value} {base : Heap}
theorem ItAt.two {H : Hp} {v : V} {it : FA.It} (h : ItAt H v it) : (∃ x, v = .str x ∧ it = .call x) ∨ ∃ t xs, v = .ref t ∧ H t = some (.tup xs) ∧ ∀ x, it ≠ .call x := by
  cases h with
  | call x => exact .inl ⟨x, rfl, rfl⟩
  | may h1 _ _ => exact .inr ⟨_, _, rfl, h1, fun x z => by cases z⟩
  | loop h1 _ _ => exact .inr ⟨_, _, rfl, h1, fun x z => by cases z⟩
  | one h1 _ _ => exact .inr ⟨_, _, rfl, h1, fun x z => by cases z⟩
theorem nCB_mem {l : List FA.It} {i : FA.It} (h : i ∈ l) : nC i ≤ nCB l := by
  induction l with
  | nil => cases h
  | cons x r ih =>
    simp only [nCB]
    rcases List.mem_cons.mp h with e | h
    · rw [e]; omega
    · have := ih h; omega
theorem nI_bodies : ∀ i : FA.It, nIBs (bodies i) = nI i
  | .call x => by simp [bodies, nIBs, nI]
  | .may b => by simp [bodies, nIBs, nI]
  | .loop b => by simp [bodies, nIBs, nI]
  | .one bs => by simp only [bodies, nI]
theorem nIB_mem {l : List FA.It} {i : FA.It} (h : i ∈ l) : nI i ≤ nIB l := by
  induction l with
  | nil => cases h
  | cons x r ih =>
    simp only [nIB]
    rcases List.mem_cons.mp h with e | h
    · rw [e]; omega
    · have := ih h; omega
theorem nC_bodies {i : FA.It} (h : ∀ x, i ≠ .call x) : nCBs (bodies i) = nC i := by
  have := congrArg List.length (bodies_nm i h)
  rw [nmBs_len, nmI_len] at this
  exact this
theorem nmBs_pre {bs : List (List FA.It)} (j : Nat) : (nmBs (bs.take j)).length ≤ nCBs bs := by
  have t := List.take_append_drop j bs
  have e : nCBs bs = nCBs (bs.take j) + nCBs (bs.drop j) := by rw [← t, nCBs_app, t]
  rw [nmBs_len]
  omega
theorem nmB_pre (l : List FA.It) (i : Nat) : (nmB (l.take i)).length ≤ nCB l := by
  rw [nmB_len]
  exact nCB_take l i
theorem okNamesIn1 (T : Txt K mg) (n : Nat) (GNamesIn : FnOk P w K mg base CX0 (n + 2) T.aNamesIn T.fNamesIn ["body"] (spNames n)) : FnOk P w K mg base CX0 (n + 3) T.aNamesIn T.fNamesIn ["body"] (spNames (n + 1)) := by
  have GBodiesWithin : FnOk P w K mg base CX0 1 T.aBodiesWithin T.fBodiesWithin ["item"] spWithin := okWithin T
  refine T.FNamesIn.ok scNamesIn (fun vs H Q E h => ?_) (fun cdv A outer s H vs Q E hr h => ?_)
  · obtain ⟨b, l, ns, rfl, _⟩ := h
    rfl
  obtain ⟨b, l, ns, rfl, ⟨vs, hb, hits⟩, ok, hc, hni, hd, q⟩ := h
  have hu := hu_of hr
  refine ⟨_, (pss_cons (ps_set (i := 1) scNamesIn.nd rfl (by first | exact Or.inl rfl | exact Or.inr rfl) (pe_lst pa_nil))
      (pss_cons (ps_for PassesOwn.never rfl (pi_list (pv 0)) (pg_name (i := 2) scNamesIn.nd rfl (by first | exact Or.inl rfl | exact Or.inr rfl))
        (pss_one (ps_if (pt_val (pe_callB call_isi (by rfl) T.n_isinstance (by decide +kernel) (pa_cons (pv 2) (pa_cons (pe_bltn (v := .ty "str") (by rfl) T.n_str (by decide +kernel) rfl) pa_nil))))
          (pss_one (ps_expr (pe_bm PySem.F.plainAttrs_list PySem.F.slot_list_append PySem.F.type_list_append mt_append (pv 1) (pa_cons (pv 2) pa_nil)))) (pss_one (ps_for PassesOwn.never rfl (pi_list (pe_call GBodiesWithin (hr.mono (by omega)) rfl T.gBodiesWithin T.FBodiesWithin.kp T.bBodiesWithin .nil pass0 (pa_cons (pv 2) pa_nil))) (pg_name (i := 3) scNamesIn.nd rfl (by first | exact Or.inl rfl | exact Or.inr rfl))
            (pss_one (ps_expr (pe_bm PySem.F.plainAttrs_list PySem.F.slot_list_extend PySem.F.type_list_extend mt_extend (pv 1) (pa_cons (pe_call GNamesIn (hr.mono (by omega)) rfl T.gNamesIn T.FNamesIn.kp T.bNamesIn .nil pass0 (pa_cons (pv 3) pa_nil)) pa_nil)))))))))
      (pss_one (ps_ret (pv 1))))), ?_⟩
  have hl := hits.length
  refine ⟨Nat.zero_le _, fun f hf => ?_⟩
  have hbf : b ≠ f := ne_of_none hb hf
  refine ⟨_, rfl, b, rfl, ⟨_, SqL.of (same_upd hf (.lst []) _ _ hb)⟩, for_list (K := K) (a := b) (xs := vs) (fun i σ H' => ∃ v2 v3, σ = [some (.ref b), some (.ref f), v2, v3] ∧ Same H H' ∧ H' f = some (.lst ((nmB (l.take i)).map V.str))) ⟨none, none, rfl, same_upd hf _, upd_same⟩ ?_ ?_ ?_⟩
  · rintro i σ H' _ ⟨_, _, _, sm, _⟩
    exact SqL.of (sm _ _ hb)
  · rintro i y σ H1 hi ⟨v2, v3, rfl, sm, hf1⟩
    obtain ⟨it, e1, e2⟩ := hits.get hi
    have hm : it ∈ l := List.mem_of_getElem? e1
    have e3 := e2.keep (Kp.of sm)
    have c1 := nCB_mem hm
    have c2 := nIB_mem hm
    have c3 := dB_mem hm
    have oki := okB_all.mp ok it hm
    have pre := nmB_pre l i
    rcases ItAt.two e3 with ⟨x, rfl, rfl⟩ | ⟨t, xs, rfl, ht, hnc⟩
    · refine ⟨_, rfl, _, _, _, _, true, rfl, .ty _, ty_str x, kit_ty (by decide +kernel), _, rfl, iteT ?_⟩
      refine ⟨_, rfl, .inl ⟨rfl, _, SqL.of hf1⟩, _, rfl, f, _, .str x, rfl, rfl, hf1, small1000 (by rw [List.length_map]; omega), ?_⟩
      refine ⟨_, _, rfl, fun b o e => by rw [upd_ne (ne_of_none e hf)]; exact sm _ _ e, ?_⟩
      rw [upd_same, nmB_take e1, List.map_append]
      rfl
    · refine ⟨_, rfl, _, _, _, _, false, rfl, .ty _, ty_tup ht, kit_ty (by decide +kernel), _, rfl, iteF ?_⟩
      refine ⟨_, rfl, t, it, ns, rfl, e3, oki, fun r ws H2 s2 hr2 hbd hne => ?_⟩
      have hbs := hbd H sm e2
      have hrf : r ≠ f := by
        rintro rfl
        have hf2 := s2 _ _ hf1
        rw [hf2] at hr2
        obtain ⟨y, r', e⟩ := List.exists_cons_of_ne_nil hne
        obtain ⟨b2, bd, e3, _⟩ := hbs.get (i := 0) (v := y) (by rw [e]; rfl)
        rw [e, e3] at hr2
        exact strs_refs (HO.lst.inj (Option.some.inj hr2))
      have s02 := sm.trans s2
      refine ⟨r, rfl, ⟨_, SqL.of hr2⟩, for_list (K := K) (a := r) (xs := ws) (fun j σ H' => ∃ v3, σ = [some (.ref b), some (.ref f), some (.ref t), v3] ∧ Same H H' ∧ H' r = some (.lst ws) ∧ H' f = some (.lst ((nmB (l.take i) ++ nmBs ((bodies it).take j)).map V.str))) ⟨v3, rfl, s02, hr2, ?_⟩ ?_ ?_ ?_⟩
      · rw [s2 _ _ hf1]
        simp [nmBs]
      · rintro j σ H' _ ⟨_, _, _, h, _⟩
        exact SqL.of h
      · rintro j y σ H3 hj ⟨v3, rfl, s3, hr3, hf3⟩
        obtain ⟨b2, bd, rfl, q1, q2⟩ := hbs.get hj
        have hmb : bd ∈ bodies it := List.mem_of_getElem? q1
        have d1 := nCBs_mem hmb
        have d2 := nIBs_mem hmb
        have d3 := dBs_mem hmb
        have d4 := bodies_d it
        rw [nC_bodies hnc] at d1
        rw [nI_bodies] at d2
        refine ⟨_, rfl, .inl ⟨rfl, _, SqL.of hf3⟩, _, rfl, b2, bd, ns, rfl, q2.keep (Kp.of s3), okBs_all.mp (bodies_ok it oki) bd hmb, by omega, by omega, by omega, fun r2 H4 s4 hn4 hr4 => ?_⟩
        have hf4 := s4 _ _ hf3
        have hr34 := s4 _ _ hr3
        have p2 := nmBs_pre (bs := bodies it) j
        rw [nC_bodies hnc] at p2
        have p3 := nmB_len bd
        refine ⟨f, r2, _, _, rfl, rfl, hf4, hr4, Nat.le_of_lt (small1000 (by simp only [List.length_map, List.length_append]; omega)), ?_⟩
        refine ⟨_, rfl, fun b o e => by rw [upd_ne (ne_of_none e hf)]; exact s4 _ _ (s3 _ _ e), by rw [upd_ne hrf]; exact hr34, ?_⟩
        rw [upd_same, nmBs_take q1]
        simp only [List.map_append, List.append_assoc]
      · rintro σ H3 ⟨v3, rfl, s3, hr3, hf3⟩
        refine ⟨_, _, rfl, s3, ?_⟩
        rw [hf3, List.take_of_length_le (l := bodies it) (by have := hbs.length; omega), bodies_nm it hnc, nmB_take e1]
  · rintro σ H1 ⟨v2, v3, rfl, sm, hf1⟩
    refine ⟨_, rfl, q f H1 sm hf ?_⟩
    rw [hf1, List.take_of_length_le (by omega)]
theorem okNamesIn (T : Txt K mg) : ∀ n : Nat, FnOk P w K mg base CX0 (n + 2) T.aNamesIn T.fNamesIn ["body"] (spNames n)
  | 0 => fn_never fun vs H Q E h => by
    obtain ⟨b, l, ns, _, _, _, _, _, h0, _⟩ := h
    have := dB_pos l
    omega
  | n + 1 => okNamesIn1 T n (okNamesIn T n)
end K02


set_option Elab.async false
set_option linter.all false
set_option maxRecDepth 100000
set_option maxHeartbeats 4000000
namespace K02
open PySem PySem.Spec PyProof.Rows L2 FA
variable {P : Program} {w : World} {K : PySem.W.Frag} {mg : Str → Option Value} {base : Heap}
theorem okLNames1 (T : Txt K mg) (n : Nat) (GLNames : FnOk P w K mg base CX0 (n + 1) T.aLNames T.fLNames ["body"] (spNames n)) : FnOk P w K mg base CX0 (n + 2) T.aLNames T.fLNames ["body"] (spNames (n + 1)) := by
  refine T.FLNames.ok scLNames (fun vs H Q E h => ?_) (fun cdv A outer s H vs Q E hr h => ?_)
  · obtain ⟨b, l, ns, rfl, _⟩ := h
    rfl
  obtain ⟨b, l, ns, rfl, ⟨vs, hb, hits⟩, ok, hc, hni, hd, q⟩ := h
  have hu := hu_of hr
  refine ⟨_, (pss_cons (ps_set (i := 1) scLNames.nd rfl (by first | exact Or.inl rfl | exact Or.inr rfl) (pe_lst pa_nil))
      (pss_cons (ps_for PassesOwn.never rfl (pi_list (pv 0)) (pg_name (i := 2) scLNames.nd rfl (by first | exact Or.inl rfl | exact Or.inr rfl))
        (pss_one (ps_if (pt_val (pe_callB call_isi (by rfl) T.n_isinstance (by decide +kernel) (pa_cons (pv 2) (pa_cons (pe_bltn (v := .ty "str") (by rfl) T.n_str (by decide +kernel) rfl) pa_nil))))
          (pss_one (ps_expr (pe_bm PySem.F.plainAttrs_list PySem.F.slot_list_append PySem.F.type_list_append mt_append (pv 1) (pa_cons (pv 2) pa_nil)))) (pss_one (ps_if (pt_cmpR op_eq (pe_ix ix_tup (pv 2) pe_int (fun _ _ => rfl)) pe_str (nomark _))
            (pss_one (ps_for PassesOwn.never rfl (pi_list (pe_ix ix_tup (pv 2) pe_int (fun _ _ => rfl))) (pg_name (i := 3) scLNames.nd rfl (by first | exact Or.inl rfl | exact Or.inr rfl))
              (pss_one (ps_expr (pe_bm PySem.F.plainAttrs_list PySem.F.slot_list_extend PySem.F.type_list_extend mt_extend (pv 1) (pa_cons (pe_call GLNames (hr.mono (by omega)) rfl T.gLNames T.FLNames.kp T.bLNames .nil pass0 (pa_cons (pv 3) pa_nil)) pa_nil)))))) (pss_one (ps_expr (pe_bm PySem.F.plainAttrs_list PySem.F.slot_list_extend PySem.F.type_list_extend mt_extend (pv 1) (pa_cons (pe_call GLNames (hr.mono (by omega)) rfl T.gLNames T.FLNames.kp T.bLNames .nil pass0 (pa_cons (pe_ix ix_tup (pv 2) pe_int (fun _ _ => rfl)) pa_nil)) pa_nil)))))))))
      (pss_one (ps_ret (pv 1))))), ?_⟩
  have hl := hits.length
  refine ⟨Nat.zero_le _, fun f hf => ?_⟩
  have hbf : b ≠ f := ne_of_none hb hf
  refine ⟨_, rfl, b, rfl, ⟨_, SqL.of (same_upd hf (.lst []) _ _ hb)⟩, for_list (K := K) (a := b) (xs := vs) (fun i σ H' => ∃ v2 v3, σ = [some (.ref b), some (.ref f), v2, v3] ∧ Same H H' ∧ H' f = some (.lst ((nmB (l.take i)).map V.str))) ⟨none, none, rfl, same_upd hf _, upd_same⟩ ?_ ?_ ?_⟩
  · rintro i σ H' _ ⟨_, _, _, sm, _⟩
    exact SqL.of (sm _ _ hb)
  · rintro i y σ H1 hi ⟨v2, v3, rfl, sm, hf1⟩
    obtain ⟨it, e1, e2⟩ := hits.get hi
    have hm : it ∈ l := List.mem_of_getElem? e1
    have e3 := e2.keep (Kp.of sm)
    have c1 := nCB_mem hm
    have c2 := nIB_mem hm
    have c3 := dB_mem hm
    have oki := okB_all.mp ok it hm
    have pre := nmB_pre l i
    cases e2 with
    | call x =>
      refine ⟨_, rfl, _, _, _, _, true, rfl, .ty _, ty_str x, kit_ty (by decide +kernel), _, rfl, iteT ?_⟩
      refine ⟨_, rfl, .inl ⟨rfl, _, SqL.of hf1⟩, _, rfl, f, _, .str x, rfl, rfl, hf1, small1000 (by rw [List.length_map]; omega), ?_⟩
      refine ⟨_, _, rfl, fun b o e => by rw [upd_ne (ne_of_none e hf)]; exact sm _ _ e, ?_⟩
      rw [upd_same, nmB_take e1, List.map_append]
      rfl
    | @may t b' vs' l' h1 h2 h3 =>
      have g1 := sm _ _ h1
      simp only [okI] at oki
      simp only [nC] at c1
      simp only [nI] at c2
      simp only [dI] at c3
      refine ⟨_, rfl, _, _, _, _, false, rfl, .ty _, ty_tup g1, kit_ty (by decide +kernel), _, rfl, iteF ?_⟩
      refine ⟨_, rfl, _, _, _, _, rfl, rfl, SqT.of g1, at_of (j := 0) rfl rfl, rfl, _, rfl, ite2 (fun c => absurd (of_decide_eq_true c) (by decide)) (fun _ => ?_)⟩
      refine ⟨_, rfl, .inl ⟨rfl, _, SqL.of hf1⟩, _, rfl, _, _, _, _, rfl, rfl, SqT.of g1, at_of (j := 1) rfl rfl, b', l', ns, rfl, ⟨_, sm _ _ h2, h3.keep (Kp.of sm)⟩, oki.2, by omega, by omega, by omega, fun r2 H4 s4 hn4 hr4 => ?_⟩
      have hf4 := s4 _ _ hf1
      have p3 := nmB_len l'
      refine ⟨f, r2, _, _, rfl, rfl, hf4, hr4, Nat.le_of_lt (small1000 (by simp only [List.length_map]; omega)), ?_⟩
      refine ⟨_, _, rfl, fun b o e => by rw [upd_ne (ne_of_none e hf)]; exact s4 _ _ (sm _ _ e), ?_⟩
      rw [upd_same, nmB_take e1, List.map_append]
      simp only [nmI]
    | @loop t b' vs' l' h1 h2 h3 =>
      have g1 := sm _ _ h1
      simp only [okI] at oki
      simp only [nC] at c1
      simp only [nI] at c2
      simp only [dI] at c3
      refine ⟨_, rfl, _, _, _, _, false, rfl, .ty _, ty_tup g1, kit_ty (by decide +kernel), _, rfl, iteF ?_⟩
      refine ⟨_, rfl, _, _, _, _, rfl, rfl, SqT.of g1, at_of (j := 0) rfl rfl, rfl, _, rfl, ite2 (fun c => absurd (of_decide_eq_true c) (by decide)) (fun _ => ?_)⟩
      refine ⟨_, rfl, .inl ⟨rfl, _, SqL.of hf1⟩, _, rfl, _, _, _, _, rfl, rfl, SqT.of g1, at_of (j := 1) rfl rfl, b', l', ns, rfl, ⟨_, sm _ _ h2, h3.keep (Kp.of sm)⟩, oki.2, by omega, by omega, by omega, fun r2 H4 s4 hn4 hr4 => ?_⟩
      have hf4 := s4 _ _ hf1
      have p3 := nmB_len l'
      refine ⟨f, r2, _, _, rfl, rfl, hf4, hr4, Nat.le_of_lt (small1000 (by simp only [List.length_map]; omega)), ?_⟩
      refine ⟨_, _, rfl, fun b o e => by rw [upd_ne (ne_of_none e hf)]; exact s4 _ _ (sm _ _ e), ?_⟩
      rw [upd_same, nmB_take e1, List.map_append]
      simp only [nmI]
    | @one t b' ws bs h1 h2 h3 =>
      have g1 := sm _ _ h1
      have g2 := sm _ _ h2
      simp only [okI] at oki
      simp only [nC] at c1
      simp only [nI] at c2
      simp only [dI] at c3
      refine ⟨_, rfl, _, _, _, _, false, rfl, .ty _, ty_tup g1, kit_ty (by decide +kernel), _, rfl, iteF ?_⟩
      refine ⟨_, rfl, _, _, _, _, rfl, rfl, SqT.of g1, at_of (j := 0) rfl rfl, rfl, _, rfl, ite2 (fun _ => ?_) (fun c => absurd (decide_eq_true rfl) c)⟩
      refine ⟨_, rfl, _, _, _, _, rfl, rfl, SqT.of g1, at_of (j := 1) rfl rfl, b', rfl, ⟨_, SqL.of g2⟩, for_list (K := K) (a := b') (xs := ws) (fun j σ H' => ∃ v3, σ = [some (.ref b), some (.ref f), some (.ref t), v3] ∧ Same H H' ∧ H' f = some (.lst ((nmB (l.take i) ++ nmBs (bs.take j)).map V.str))) ⟨v3, rfl, sm, ?_⟩ ?_ ?_ ?_⟩
      · rw [hf1]
        simp [nmBs]
      · rintro j σ H' _ ⟨_, _, h, _⟩
        exact SqL.of (h _ _ h2)
      · rintro j y σ H3 hj ⟨v3, rfl, s3, hf3⟩
        obtain ⟨b2, bd, rfl, q1, q2⟩ := h3.get hj
        have hmb : bd ∈ bs := List.mem_of_getElem? q1
        have d1 := nCBs_mem hmb
        have d2 := nIBs_mem hmb
        have d3 := dBs_mem hmb
        refine ⟨_, rfl, .inl ⟨rfl, _, SqL.of hf3⟩, _, rfl, b2, bd, ns, rfl, q2.keep (Kp.of s3), okBs_all.mp oki.2.2.2 bd hmb, by omega, by omega, by omega, fun r2 H4 s4 hn4 hr4 => ?_⟩
        have hf4 := s4 _ _ hf3
        have p2 := nmBs_pre (bs := bs) j
        have p3 := nmB_len bd
        refine ⟨f, r2, _, _, rfl, rfl, hf4, hr4, Nat.le_of_lt (small1000 (by simp only [List.length_map, List.length_append]; omega)), ?_⟩
        refine ⟨_, rfl, fun b o e => by rw [upd_ne (ne_of_none e hf)]; exact s4 _ _ (s3 _ _ e), ?_⟩
        rw [upd_same, nmBs_take q1]
        simp only [List.map_append, List.append_assoc]
      · rintro σ H3 ⟨v3, rfl, s3, hf3⟩
        refine ⟨_, _, rfl, s3, ?_⟩
        rw [hf3, List.take_of_length_le (l := bs) (by have := h3.length; omega), nmB_take e1]
        simp only [nmI]
  · rintro σ H1 ⟨v2, v3, rfl, sm, hf1⟩
    refine ⟨_, rfl, q f H1 sm hf ?_⟩
    rw [hf1, List.take_of_length_le (by omega)]
theorem okLNames (T : Txt K mg) : ∀ n : Nat, FnOk P w K mg base CX0 (n + 1) T.aLNames T.fLNames ["body"] (spNames n)
  | 0 => fn_never fun vs H Q E h => by
    obtain ⟨b, l, ns, _, _, _, _, _, h0, _⟩ := h
    have := dB_pos l
    omega
  | n + 1 => okLNames1 T n (okLNames T n)
end K02


set_option Elab.async false
set_option linter.all false
set_option maxRecDepth 100000
set_option maxHeartbeats 4000000
namespace K02
open PySem PySem.Spec PyProof.Rows L2 FA
variable {P : Program} {w : World} {K : PySem.W.Frag} {mg : Str → Option Value} {base : Heap}
/-! ### ascending texts: one order only -/
def leS (a b : Str) : Prop := a.cps.toList ≤ b.cps.toList
theorem leS_of {p x : Str} (h : (!ltCps x.cps.toList p.cps.toList) = true) : leS p x := by
  rw [ltCps_eq] at h
  unfold leS
  have : ¬ x.cps.toList < p.cps.toList := by simpa using h
  exact List.not_lt.mp this
theorem leS_trans {a b c : Str} (h : leS a b) (k : leS b c) : leS a c := List.le_trans h k
theorem leS_anti {a b : Str} (h : leS a b) (k : leS b a) : a = b := by
  have e : a.cps.toList = b.cps.toList := List.le_antisymm h k
  cases a
  cases b
  congr 1
  exact Array.toList_inj.mp e
theorem rising_pw : ∀ (p : Str) (l : List Str), risingS p l = true → (p :: l).Pairwise leS
  | p, [], _ => by simp
  | p, x :: r, h => by
    have h : (!ltCps x.cps.toList p.cps.toList && risingS x r) = true := h
    rw [Bool.and_eq_true] at h
    have ih := rising_pw x r h.2
    have px := leS_of h.1
    refine List.pairwise_cons.mpr ⟨fun y hy => ?_, ih⟩
    rcases List.mem_cons.mp hy with rfl | hy
    · exact px
    · exact leS_trans px ((List.pairwise_cons.mp ih).1 y hy)
theorem sorted_pw : ∀ {l : List Str}, sortedS l = true → l.Pairwise leS
  | [], _ => .nil
  | x :: r, h => rising_pw x r h
theorem sorted_one {a b : List Str} (ha : sortedS a = true) (hb : sortedS b = true) (p : a.Perm b) : a = b :=
  List.Perm.eq_of_pairwise (fun x y _ _ h k => leS_anti h k) (sorted_pw ha) (sorted_pw hb) p
/-- two lists without doubles and with the same texts -/
theorem perm_same {a b : List Str} (ha : a.Nodup) (hb : b.Nodup) (h : ∀ x, x ∈ a ↔ x ∈ b) : a.Perm b := by
  have sub : ∀ {a b : List Str}, a.Nodup → (∀ x ∈ a, x ∈ b) → a.length ≤ b.length := by
    intro a
    induction a with
    | nil => intro b _ _; simp
    | cons x r ih =>
      intro b nd s
      obtain ⟨u, v, e⟩ := List.append_of_mem (s x (by simp))
      have nd' := List.nodup_cons.mp nd
      subst e
      have := ih (b := u ++ v) nd'.2 fun y hy => by
        have := s y (List.mem_cons_of_mem _ hy)
        rw [List.mem_append, List.mem_cons] at this
        rw [List.mem_append]
        rcases this with z | z | z
        · exact .inl z
        · subst z; exact absurd hy nd'.1
        · exact .inr z
      simp only [List.length_append, List.length_cons] at this ⊢
      omega
  have l1 := sub ha fun x hx => (h x).mp hx
  have l2 := sub hb fun x hx => (h x).mpr hx
  exact perm_of_sub hb (fun x hx => (h x).mpr hx) (by omega)
theorem met_nd : ∀ (ns acc : List Str), acc.Nodup → (met acc ns).Nodup
  | [], acc, h => h
  | x :: r, acc, h => by
    rw [met]
    by_cases hx : x ∈ acc
    · rw [if_pos hx]; exact met_nd r acc h
    · rw [if_neg hx]; exact met_nd r _ (List.nodup_cons.mpr ⟨hx, h⟩)
/-- ys tells the texts of the list, ascending, each once -/
structure Tells (ys l : List Str) : Prop where
  nd : ys.Nodup
  so : sortedS ys = true
  mem : ∀ x, x ∈ ys ↔ x ∈ l
theorem Tells.one {a b l m : List Str} (ha : Tells a l) (hb : Tells b m) (h : ∀ x, x ∈ l ↔ x ∈ m) : a = b :=
  sorted_one ha.so hb.so (perm_same ha.nd hb.nd fun x => (ha.mem x).trans ((h x).trans (hb.mem x).symm))
theorem tells_met {ys ns : List Str} (p : ys.Perm (met [] ns)) (s : sortedS ys = true) : Tells ys ns :=
  ⟨p.symm.nodup (met_nd ns [] List.nodup_nil), s, fun x => by rw [p.mem_iff, met_mem]; simp⟩
/-! ### callees -/
def spCallees : Sp := fun vs H Q _ => ∃ (d : Addr) (p : Pr) (x : Str), vs = [.ref d, .str x] ∧ PrAt H d p ∧ Valid p ∧ x ∈ pNames p ∧ ∀ r ys H', Same H H' → H r = none → H' r = some (.lst (ys.map V.str)) → Tells ys (nmB (bodyOf p x)) → Q (.ref r) H'
theorem okCallees (T : Txt K mg) : FnOk P w K mg base CX0 14 T.aCallees T.fCallees ["program", "name"] spCallees := by
  have GCheckProgram : FnOk P w K mg base CX0 13 T.aCheckProgram T.fCheckProgram ["program"] spCheckProgram := okCheckProgram T
  have GCheckName : FnOk P w K mg base CX0 2 T.aCheckName T.fCheckName ["program", "name"] spCheckName := okCheckName T
  have GNamesIn : FnOk P w K mg base CX0 6 T.aNamesIn T.fNamesIn ["body"] (spNames 4) := okNamesIn T 4
  refine T.FCallees.ok scCallees (fun vs H Q E h => ?_) (fun cdv A outer s H vs Q E hr h => ?_)
  · obtain ⟨d, p, x, rfl, _⟩ := h
    rfl
  obtain ⟨d, p, x, rfl, hpa, va, hx, q⟩ := h
  have hu := hu_of hr
  refine ⟨_, (pss_cons (ps_expr (pe_call GCheckProgram (hr.mono (by omega)) rfl T.gCheckProgram T.FCheckProgram.kp T.bCheckProgram .nil pass0 (pa_cons (pv 0) pa_nil)))
      (pss_cons (ps_expr (pe_call GCheckName (hr.mono (by omega)) rfl T.gCheckName T.FCheckName.kp T.bCheckName .nil pass0 (pa_cons (pv 0) (pa_cons (pv 1) pa_nil))))
      (pss_one (ps_ret (pe_callB (cr_sortedTx rfl) (by rfl) T.n_sorted (by decide +kernel) (pa_cons (pe_callTy (cr_setTx rfl) (by rfl) T.n_set (by decide +kernel) (pa_cons (pe_call GNamesIn (hr.mono (by omega)) rfl T.gNamesIn T.FNamesIn.kp T.bNamesIn .nil pass0 (pa_cons (pe_dget hu (pv 0) (pv 1) (fun _ _ => rfl)) pa_nil)) pa_nil)) pa_nil)))))), ?_⟩
  refine ⟨_, rfl, d, p, rfl, hpa, va, fun H1 s1 => ?_⟩
  have hpa1 := PrAt.same s1 hpa
  refine ⟨_, rfl, _, rfl, d, p, x, rfl, hpa1, hx, ?_⟩
  obtain ⟨l0, e0⟩ := lookup_mem hx
  rcases hpa1.look (x := x) with ⟨z1, _⟩ | ⟨l, b, z1, z2, z3⟩
  · rw [e0] at z1; cases z1
  obtain ⟨o1, o2, o3, o4⟩ := va.ok x l z1
  have eb : bodyOf p x = l := by unfold bodyOf; rw [z1]; rfl
  have en := nmB_len l
  refine ⟨_, rfl, _, rfl, d, _, rfl, z2, b, l, pNames p, rfl, z3, o1, by omega, o3, o4, fun r H2 s2 hrn hr2 => ?_⟩
  refine ⟨r, nmB l, rfl, SqL.of hr2, by omega, fun c hc => ?_⟩
  have ml := met_len (nmB l) []
  simp only [List.length_nil] at ml
  refine ⟨c, met [] (nmB l), rfl, upd_same, by omega, fun ys p2 hp hsrt hp2 => ?_⟩
  have s3 := same_upd hc (TxO P w c (met [] (nmB l)))
  have s4 := same_upd hp2 (.lst (ys.map V.str))
  have s04 := (s1.trans s2).trans (s3.trans s4)
  refine q p2 ys _ s04 ?_ upd_same (by rw [eb]; exact tells_met hp hsrt)
  exact none_back (W := []) (Sm.of_same ((s1.trans s2).trans s3)) (fun _ z => by cases z) hp2
end K02


set_option Elab.async false
set_option linter.all false
set_option maxRecDepth 100000
set_option maxHeartbeats 4000000
namespace K02
open PySem PySem.Spec PyProof.Rows L2 FA
variable {P : Program} {w : World} {K : PySem.W.Frag} {mg : Str → Option Value} {base : Heap}
/-! ### what main reaches -/
inductive Rc (p : Pr) : Str → Prop
  | main : Rc p "main"
  | step {x y : Str} : Rc p x → y ∈ nmB (bodyOf p x) → Rc p y
theorem callee_in {p : Pr} (va : Valid p) {x y : Str} (hx : x ∈ pNames p) (hy : y ∈ nmB (bodyOf p x)) : y ∈ pNames p := by
  obtain ⟨l, e⟩ := lookup_mem hx
  have eb : bodyOf p x = l := by unfold bodyOf; rw [e]; rfl
  rw [eb] at hy
  exact nmB_ok l (va.ok x l e).1 y hy
theorem Rc.name {p : Pr} (va : Valid p) {x : Str} (h : Rc p x) : x ∈ pNames p := by
  induction h with
  | main => exact va.main
  | step _ hy ih => exact callee_in va ih hy
theorem Rc.of {p : Pr} {S : List Str} (h0 : ("main" : Str) ∈ S) (hs : ∀ x ∈ S, ∀ y ∈ nmB (bodyOf p x), y ∈ S) {x : Str} (h : Rc p x) : x ∈ S := by
  induction h with
  | main => exact h0
  | step _ hy ih => exact hs _ ih _ hy
theorem nd_le : ∀ {a b : List Str}, a.Nodup → (∀ x ∈ a, x ∈ b) → a.length ≤ b.length
  | [], b, _, _ => by simp
  | x :: r, b, nd, s => by
    obtain ⟨u, v, e⟩ := List.append_of_mem (s x (by simp))
    have nd' := List.nodup_cons.mp nd
    subst e
    have := nd_le (a := r) (b := u ++ v) nd'.2 fun y hy => by
      have := s y (List.mem_cons_of_mem _ hy)
      rw [List.mem_append, List.mem_cons] at this
      rw [List.mem_append]
      rcases this with z | z | z
      · exact .inl z
      · subst z; exact absurd hy nd'.1
      · exact .inr z
    simp only [List.length_append, List.length_cons] at this ⊢
    omega
/-- the dict of what was found -/
def fdKv (fs : List Str) : List (Key × V) := fs.map fun x => (.inr x, .bl true)
theorem fdKv_in {x : Str} : ∀ {fs : List Str}, x ∈ fs → valV (fdKv fs) (.inr x) = some (.bl true)
  | y :: r, h => by
    by_cases e : y = x
    · subst e; exact valV_pos rfl
    · rcases List.mem_cons.mp h with z | z
      · exact absurd z.symm e
      · have q := fdKv_in z
        unfold fdKv at q ⊢
        rw [List.map_cons, valV_neg (fun z => e (Sum.inr.inj z))]
        exact q
theorem fdKv_out {x : Str} {fs : List Str} (h : x ∉ fs) : valV (fdKv fs) (.inr x) = none := valV_out fun q hq e => by
  unfold fdKv at hq
  obtain ⟨y, hy, rfl⟩ := List.mem_map.mp hq
  exact h (by rw [← Sum.inr.inj e]; exact hy)
theorem fdKv_put {x : Str} {fs : List Str} (h : x ∉ fs) : putK (fdKv fs) (.inr x) (.bl true) = fdKv (fs ++ [x]) := by
  rw [putK_new _ (fdKv_out h)]
  simp [fdKv]
def spReached : Sp := fun vs H Q _ => ∃ (d : Addr) (p : Pr), vs = [.ref d] ∧ PrAt H d p ∧ Valid p ∧ ∀ r ys H', Same H H' → H r = none → H' r = some (.lst (ys.map V.str)) → ys.Nodup → sortedS ys = true → (∀ x, x ∈ ys ↔ Rc p x) → Q (.ref r) H'
theorem okReached (T : Txt K mg) : FnOk P w K mg base CX0 14 T.aReached T.fReached ["program"] spReached := by
  have GCheckProgram : FnOk P w K mg base CX0 13 T.aCheckProgram T.fCheckProgram ["program"] spCheckProgram := okCheckProgram T
  have GNamesIn : FnOk P w K mg base CX0 6 T.aNamesIn T.fNamesIn ["body"] (spNames 4) := okNamesIn T 4
  refine T.FReached.ok scReached (fun vs H Q E h => ?_) (fun cdv A outer s H vs Q E hr h => ?_)
  · obtain ⟨d, p, rfl, _⟩ := h
    rfl
  obtain ⟨d, p, rfl, hpa, va, q⟩ := h
  have hu := hu_of hr
  refine ⟨_, (pss_cons (ps_expr (pe_call GCheckProgram (hr.mono (by omega)) rfl T.gCheckProgram T.FCheckProgram.kp T.bCheckProgram .nil pass0 (pa_cons (pv 0) pa_nil)))
      (pss_cons (ps_set (i := 1) scReached.nd rfl (by first | exact Or.inl rfl | exact Or.inr rfl) (pe_disp (pps_cons pe_str pe_bl pps_nil) (by rfl) (by rfl) (fun z => by cases z) (by decide)))
      (pss_cons (ps_set (i := 2) scReached.nd rfl (by first | exact Or.inl rfl | exact Or.inr rfl) (pe_lst (pa_cons pe_str pa_nil)))
      (pss_cons (ps_while PassesOwn.never (pt_truth (pv 2) (by intro _; rfl))
        (pss_cons (ps_set (i := 3) scReached.nd rfl (by first | exact Or.inl rfl | exact Or.inr rfl) (pe_bm0 PySem.F.plainAttrs_list PySem.F.slot_list_pop PySem.F.type_list_pop mt_pop (pv 2)))
        (pss_one (ps_for PassesOwn.never rfl (pi_list (pe_call GNamesIn (hr.mono (by omega)) rfl T.gNamesIn T.FNamesIn.kp T.bNamesIn .nil pass0 (pa_cons (pe_dget hu (pv 0) (pv 3) (fun _ _ => rfl)) pa_nil))) (pg_name (i := 4) scReached.nd rfl (by first | exact Or.inl rfl | exact Or.inr rfl))
          (pss_one (ps_if (pt_cmp (pc_dnotin hu (pv 4) (pv 1)))
            (pss_cons (ps_dput hu (pv 1) (pv 4) pe_bl rfl)
            (pss_one (ps_expr (pe_bm PySem.F.plainAttrs_list PySem.F.slot_list_append PySem.F.type_list_append mt_append (pv 2) (pa_cons (pv 4) pa_nil))))) pss_nil))))))
      (pss_one (ps_ret (pe_callB (call_sortedD rfl) (by rfl) T.n_sorted (by decide +kernel) (pa_cons (pv 1) pa_nil)))))))), ?_⟩
  have hlen := va.len
  refine ⟨_, rfl, d, p, rfl, hpa, va, fun H1 s1 => ?_⟩
  intro D hD
  refine ⟨upd_same, [(.inr "main", .bl true)], rfl, by decide, ?_⟩
  have eD : (upd (upd H1 D (.dK [])) D (.dK (mergeK [] [(.inr "main", .bl true)]))) D = some (.dK (fdKv ["main"])) := upd_same
  have s2 : Same H1 (upd (upd H1 D (.dK [])) D (.dK (mergeK [] [(.inr "main", .bl true)]))) := fun b o e => by
    rw [upd_ne (ne_of_none e hD), upd_ne (ne_of_none e hD)]
    exact e
  generalize upd (upd H1 D (.dK [])) D (.dK (mergeK [] [(.inr "main", .bl true)])) = H2 at eD s2 ⊢
  refine ⟨Nat.le_of_lt (small1000 (by simp)), fun W hW => ?_⟩
  have hDW : D ≠ W := ne_of_none eD hW
  have s3 := same_upd hW (.lst [V.str "main"])
  have eW : (upd H2 W (.lst [V.str "main"])) W = some (.lst ((["main"] : List Str).map V.str)) := upd_same
  have eD3 := s3 _ _ eD
  have s03 := (s1.trans s2).trans s3
  have hD0 : H D = none := none_back (W := []) (Sm.of_same s1) (fun _ z => by cases z) hD
  have hW0 : H W = none := none_back (W := []) (Sm.of_same (s1.trans s2)) (fun _ z => by cases z) hW
  generalize upd H2 W (.lst [V.str "main"]) = H3 at eW eD3 s03 ⊢
  clear s1 s2 s3 hD hW eD
  refine ⟨fun m σ H' => ∃ (fs ws : List Str) (v3 v4 : Option V), m = 2 * (p.length - fs.length) + ws.length ∧ σ = [some (.ref d), some (.ref D), some (.ref W), v3, v4] ∧ Same H H' ∧ H' D = some (.dK (fdKv fs)) ∧ H' W = some (.lst (ws.map V.str)) ∧ fs.Nodup ∧ (∀ x ∈ fs, Rc p x) ∧
    ("main" : Str) ∈ fs ∧ (∀ x ∈ ws, x ∈ fs) ∧ (∀ x ∈ fs, x ∉ ws → ∀ y ∈ nmB (bodyOf p x), y ∈ fs) ∧ 2 * (p.length - fs.length) + ws.length ≤ 20, ⟨_, ["main"], ["main"], none, none, rfl, rfl, s03, eD3, eW, by simp, fun x hx => by rw [List.mem_singleton.mp hx]; exact .main, by simp, fun x hx => hx, fun x hx n => absurd hx n, by simp; omega⟩, ?_⟩
  rintro m σ H4 ⟨fs, ws, v3, v4, rfl, rfl, s4, hD4, hW4, nd, rc, hm, sub, cl, me⟩
  have fin : ∀ {gs : List Str}, (∀ x ∈ gs, Rc p x) → gs.Nodup → gs.length ≤ p.length := fun rc nd => by
    have := nd_le nd fun x hx => (rc x hx).name va
    unfold pNames at this
    rwa [List.length_map] at this
  refine ⟨_, rfl, !(ws.map V.str).isEmpty, .inl ⟨_, SqL.of hW4, rfl⟩, ?_⟩
  rcases (List.eq_nil_or_concat ws).imp id (fun ⟨a, b, e⟩ => (⟨a, b, e.trans List.concat_eq_append⟩ : ∃ a b, ws = a ++ [b])) with rfl | ⟨ws', c, rfl⟩
  · -- nothing waits
    refine ite2 (fun z => absurd z (by simp)) (fun _ => ?_)
    have fl := fin rc nd
    refine ⟨_, rfl, D, fdKv fs, fs, rfl, .inl hD4, by simp [fdKv], by omega, fun ys r pe so hr => ?_⟩
    refine q r ys _ (s4.trans (same_upd hr _)) (none_back (W := []) (Sm.of_same s4) (fun _ z => by cases z) hr) upd_same (pe.symm.nodup nd) so fun x => ?_
    rw [pe.mem_iff]
    exact ⟨rc x, fun h => h.of hm fun x hx => cl x hx (by simp)⟩
  · refine ite2 (fun _ => ?_) (fun z => absurd (by simp) z)
    refine ⟨_, fun σ' H' h => h, ?_⟩
    have hc : c ∈ fs := sub c (by simp)
    have hcn := (rc c hc).name va
    have hlast : ((ws' ++ [c]).map V.str)[((ws' ++ [c]).map V.str).length - 1]? = some (.str c) := by simp
    refine ⟨_, rfl, .inl ⟨rfl, _, SqL.of hW4⟩, W, _, .str c, rfl, rfl, hW4, hlast, ?_⟩
    have hdl : ((ws' ++ [c]).map V.str).dropLast = ws'.map V.str := by simp
    rw [hdl]
    have hW5 : (upd H4 W (.lst (ws'.map V.str))) W = some (.lst (ws'.map V.str)) := upd_same
    have hD5 : (upd H4 W (.lst (ws'.map V.str))) D = some (.dK (fdKv fs)) := by rw [upd_ne hDW]; exact hD4
    have s5 : Same H (upd H4 W (.lst (ws'.map V.str))) := fun b o e => by rw [upd_ne (ne_of_none e hW0)]; exact s4 _ _ e
    generalize upd H4 W (.lst (ws'.map V.str)) = H5 at hW5 hD5 s5 ⊢
    obtain ⟨l0, e0⟩ := lookup_mem hcn
    have hpa5 := PrAt.same s5 hpa
    rcases hpa5.look (x := c) with ⟨z1, _⟩ | ⟨l, b, z1, z2, z3⟩
    · rw [e0] at z1; cases z1
    obtain ⟨o1, o2, o3, o4⟩ := va.ok c l z1
    have eb : bodyOf p c = l := by unfold bodyOf; rw [z1]; rfl
    have hfl := fin rc nd
    refine ⟨_, rfl, _, rfl, d, _, rfl, z2, b, l, pNames p, rfl, z3, o1, by omega, o3, o4, fun r H6 s6 hrn hr6 => ?_⟩
    have hrW : r ≠ W := (ne_of_none hW5 hrn).symm
    have hrD : r ≠ D := (ne_of_none hD5 hrn).symm
    have hW6 := s6 _ _ hW5
    have hD6 := s6 _ _ hD5
    have s06 := s5.trans s6
    refine ⟨r, rfl, ⟨_, SqL.of hr6⟩, for_list (K := K) (a := r) (xs := (nmB l).map V.str) (fun j σ H' => ∃ (gs us : List Str) (v4 : Option V), σ = [some (.ref d), some (.ref D), some (.ref W), some (.str c), v4] ∧ Same H H' ∧ H' r = some (.lst ((nmB l).map V.str)) ∧ H' D = some (.dK (fdKv gs)) ∧ H' W = some (.lst (us.map V.str)) ∧
      gs.Nodup ∧ (∀ x ∈ gs, Rc p x) ∧ (∀ x ∈ fs, x ∈ gs) ∧ (∀ x ∈ us, x ∈ gs) ∧ (∀ x ∈ gs, x ∉ us → x ∈ fs ∧ x ∉ ws') ∧ (∀ x ∈ (nmB l).take j, x ∈ gs) ∧ 2 * (p.length - gs.length) + us.length ≤ 2 * (p.length - fs.length) + ws'.length) ⟨fs, ws', v4, rfl, s06, hr6, hD6, hW6, nd, rc, fun x h => h, fun x hx => sub x (by simp [hx]), fun x h n => ⟨h, n⟩, by simp, Nat.le_refl _⟩ ?_ ?_ ?_⟩
    · rintro j σ H' _ ⟨_, _, _, _, _, h, _⟩
      exact SqL.of h
    · rintro j y σ H7 hj ⟨gs, us, v4, rfl, s7, hr7, hD7, hW7, nd7, rc7, f7, sub7, cl7, tk7, me7⟩
      rw [List.getElem?_map] at hj
      cases hy : (nmB l)[j]? with
      | none => rw [hy] at hj; cases hj
      | some x =>
        rw [hy] at hj
        cases hj
        have hxm : x ∈ nmB l := List.mem_of_getElem? hy
        have tk : ∀ {gs : List Str}, (∀ y ∈ (nmB l).take j, y ∈ gs) → x ∈ gs → ∀ y ∈ (nmB l).take (j + 1), y ∈ gs := fun h hx y hy2 => by
          rw [List.take_add_one, hy, List.mem_append] at hy2
          rcases hy2 with z | z
          · exact h y z
          · simp at z; rw [z]; exact hx
        by_cases hg : x ∈ gs
        · refine ⟨_, rfl, _, rfl, D, _, rfl, DGet.k (k := .inr x) hD7, _, rfl, ?_⟩
          rw [fdKv_in hg]
          refine ite2 (fun z => absurd z (by decide)) (fun _ => ?_)
          exact ⟨gs, us, _, rfl, s7, hr7, hD7, hW7, nd7, rc7, f7, sub7, cl7, tk tk7 hg, me7⟩
        · refine ⟨_, rfl, _, rfl, D, _, rfl, DGet.k (k := .inr x) hD7, _, rfl, ?_⟩
          rw [fdKv_out hg]
          refine ite2 (fun _ => ?_) (fun z => absurd rfl z)
          have gl := fin rc7 nd7
          refine ⟨_, rfl, _, rfl, D, _, rfl, DPut.k (k := .inr x) hD7 (small1000 (by unfold fdKv; rw [List.length_map]; omega)), ?_⟩
          rw [fdKv_put hg]
          have hD8 : (upd H7 D (.dK (fdKv (gs ++ [x])))) D = some (.dK (fdKv (gs ++ [x]))) := upd_same
          have hW8 : (upd H7 D (.dK (fdKv (gs ++ [x])))) W = some (.lst (us.map V.str)) := by rw [upd_ne hDW.symm]; exact hW7
          have hr8 : (upd H7 D (.dK (fdKv (gs ++ [x])))) r = some (.lst ((nmB l).map V.str)) := by rw [upd_ne hrD]; exact hr7
          have s8 : Same H (upd H7 D (.dK (fdKv (gs ++ [x])))) := fun b o e => by rw [upd_ne (ne_of_none e hD0)]; exact s7 _ _ e
          generalize upd H7 D (.dK (fdKv (gs ++ [x]))) = H8 at hD8 hW8 hr8 s8 ⊢
          have rc8 : ∀ z ∈ gs ++ [x], Rc p z := fun z hz => by
            rcases List.mem_append.mp hz with h | h
            · exact rc7 z h
            · rw [List.mem_singleton.mp h]
              exact (rc c hc).step (by rw [eb]; exact hxm)
          have nd8 : (gs ++ [x]).Nodup := by
            rw [List.nodup_append]
            exact ⟨nd7, by simp, fun a ha b hb e => hg (by rw [← List.mem_singleton.mp hb, ← e]; exact ha)⟩
          have gl8 := fin rc8 nd8
          rw [List.length_append, List.length_singleton] at gl8
          have ul : us.length ≤ 100 := by
            simp only [List.length_append, List.length_singleton] at me
            omega
          refine ⟨_, rfl, .inl ⟨rfl, _, SqL.of hW8⟩, _, rfl, W, _, .str x, rfl, rfl, hW8, small1000 (by rw [List.length_map]; omega), ?_⟩
          refine ⟨gs ++ [x], us ++ [x], _, rfl, fun b o e => by rw [upd_ne (ne_of_none e hW0)]; exact s8 _ _ e, by rw [upd_ne hrW]; exact hr8, by rw [upd_ne hDW]; exact hD8, by rw [upd_same, List.map_append]; rfl, nd8, rc8, fun z hz => List.mem_append_left _ (f7 z hz), fun z hz => ?_, fun z hz hn => ?_, tk (fun z hz => List.mem_append_left _ (tk7 z hz)) (by simp), ?_⟩
          · rcases List.mem_append.mp hz with h | h
            · exact List.mem_append_left _ (sub7 z h)
            · exact List.mem_append_right _ h
          · rw [List.mem_append, not_or] at hn
            rcases List.mem_append.mp hz with h | h
            · exact cl7 z h hn.1
            · exact absurd h hn.2
          · simp only [List.length_append, List.length_singleton]
            omega
    · rintro σ H7 ⟨gs, us, v4, rfl, s7, hr7, hD7, hW7, nd7, rc7, f7, sub7, cl7, tk7, me7⟩
      rw [List.take_of_length_le (by rw [List.length_map]; exact Nat.le_refl _)] at tk7
      refine ⟨_, ?_, gs, us, _, v4, rfl, rfl, s7, hD7, hW7, nd7, rc7, f7 _ hm, sub7, fun x hx hn y hy => ?_, ?_⟩
      · simp only [List.length_append, List.length_singleton]
        omega
      · obtain ⟨h1, h2⟩ := cl7 x hx hn
        by_cases e : x = c
        · rw [e, eb] at hy
          exact tk7 y hy
        · exact f7 y (cl x h1 (by simp [h2, e]) y hy)
      · simp only [List.length_append, List.length_singleton] at me
        omega
end K02


set_option Elab.async false
set_option linter.all false
set_option maxRecDepth 100000
set_option maxHeartbeats 4000000
namespace K02
open PySem PySem.Spec PyProof.Rows L2 FA
variable {P : Program} {w : World} {K : PySem.W.Frag} {mg : Str → Option Value} {base : Heap}
theorem op_notIn_seqK {X : Cx} (hK : X.K = K) : OpR X (compareOp .NotIn) (rIn K true) := by subst hK; exact op_notIn_seq
theorem flat_strs (ls : List Str) : (ls.map V.str).all flatV = true := by
  rw [List.all_map, List.all_eq_true]
  exact fun _ _ => rfl
theorem inV_strs (x : Str) (ls : List Str) : inV (.str x) (ls.map V.str) = decide (x ∈ ls) := by
  unfold inV
  induction ls with
  | nil => rfl
  | cons y r ih =>
    rw [List.map_cons, List.any_cons, ih]
    show (y == x || decide (x ∈ r)) = decide (x ∈ y :: r)
    by_cases e : y = x
    · subst e; simp
    · have : (y == x) = false := beq_eq_false_iff_ne.mpr e
      rw [this]
      have e2 : ¬ x = y := fun z => e z.symm
      simp [e2]
/-- how many names stand in a list -/
def dn (F : List Str) : Nat := (met [] F).length
theorem dn_le {p : Pr} (va : Valid p) {F : List Str} (h : ∀ x ∈ F, Rc p x) : dn F ≤ p.length := by
  have := nd_le (a := met [] F) (b := pNames p) (met_nd F [] List.nodup_nil) fun x hx => by
    rw [met_mem] at hx
    rcases hx with z | z
    · cases z
    · exact (h x z).name va
  unfold pNames at this
  rwa [List.length_map] at this
theorem dn_mono {F G : List Str} (h : ∀ x ∈ F, x ∈ G) : dn F ≤ dn G := nd_le (met_nd F [] List.nodup_nil) fun x hx => by
  rw [met_mem] at hx ⊢
  exact hx.elim (fun z => by cases z) fun z => .inr (h x z)
theorem dn_lt {F G : List Str} (h : ∀ x ∈ F, x ∈ G) {y : Str} (hy : y ∈ G) (hn : y ∉ F) : dn F + 1 ≤ dn G := by
  have := nd_le (a := y :: met [] F) (b := met [] G) (List.nodup_cons.mpr ⟨fun z => by
    rw [met_mem] at z
    exact z.elim (fun z => by cases z) hn, met_nd F [] List.nodup_nil⟩) fun x hx => by
    rw [met_mem]
    rcases List.mem_cons.mp hx with rfl | z
    · exact .inr hy
    · rw [met_mem] at z
      exact z.elim (fun z => by cases z) fun z => .inr (h x z)
  simpa [dn] using this
def Closed (p : Pr) (F : List Str) : Prop := ∀ x ∈ F, ∀ y ∈ nmB (bodyOf p x), y ∈ F
def spLLed : Sp := fun vs H Q _ => ∃ (d : Addr) (p : Pr), vs = [.ref d] ∧ PrAt H d p ∧ Valid p ∧ ∀ r ys H', Same H H' → H r = none → H' r = some (.lst (ys.map V.str)) → ys.Nodup → sortedS ys = true → (∀ x, x ∈ ys ↔ Rc p x) → Q (.ref r) H'
theorem okLLed (T : Txt K mg) : FnOk P w K mg base CX0 14 T.aLLed T.fLLed ["program"] spLLed := by
  have GLNames : FnOk P w K mg base CX0 5 T.aLNames T.fLNames ["body"] (spNames 4) := okLNames T 4
  refine T.FLLed.ok scLLed (fun vs H Q E h => ?_) (fun cdv A outer s H vs Q E hr h => ?_)
  · obtain ⟨d, p, rfl, _⟩ := h
    rfl
  obtain ⟨d, p, rfl, hpa, va, q⟩ := h
  have hu := hu_of hr
  refine ⟨_, (pss_cons (ps_set (i := 1) scLLed.nd rfl (by first | exact Or.inl rfl | exact Or.inr rfl) (pe_lst (pa_cons pe_str pa_nil)))
      (pss_cons (ps_for PassesOwn.never rfl (pi_range1 (by rfl) T.n_range (pa_cons (pe_callB call_lenR (by rfl) T.n_len PySem.boot_len (pa_cons (pv 0) pa_nil)) pa_nil)) (pg_name (i := 2) scLLed.nd rfl (by first | exact Or.inl rfl | exact Or.inr rfl))
        (pss_one (ps_for PassesOwn.never rfl (pi_list (pe_callTy call_list_of (by rfl) T.n_list (by decide +kernel) (pa_cons (pv 1) pa_nil))) (pg_name (i := 3) scLLed.nd rfl (by first | exact Or.inl rfl | exact Or.inr rfl))
          (pss_one (ps_expr (pe_bm PySem.F.plainAttrs_list PySem.F.slot_list_extend PySem.F.type_list_extend mt_extend (pv 1) (pa_cons (pe_lc (own := [("one", 4)]) (g := gName 4) rfl scLLed.nd (pi_list (pe_call GLNames (hr.mono (by omega)) rfl T.gLNames T.FLNames.kp T.bLNames .nil pass0 (pa_cons (pe_dget hu (pv 0) (pv 3) (fun _ _ => rfl)) pa_nil))) (blkOk_by (N := ["program", "found", "turn", "name", "one"]) (sc := defScope sLLed) (by decide +kernel)) (fun _ _ _ _ _ => (pg_name (i := 4) scLLed.nd rfl (by first | exact Or.inl rfl | exact Or.inr rfl))) (fun _ _ _ _ _ => (pts_one (pt_cmpR (op_notIn_seqK (K := K) rfl) (pv 4) (pv 1) (by rfl)))) (fun _ _ _ _ _ => (pv 4))) pa_nil)))))))
      (pss_one (ps_ret (pe_callB (cr_sortedTx rfl) (by rfl) T.n_sorted (by decide +kernel) (pa_cons (pe_callTy (cr_setTx rfl) (by rfl) T.n_set (by decide +kernel) (pa_cons (pv 1) pa_nil)) pa_nil)))))), ?_⟩
  obtain ⟨kvs, hd, hk⟩ := id hpa
  have hkl := hk.length
  have hlen := va.len
  have hpos : 0 < p.length := by
    have := List.length_pos_of_mem va.main
    unfold pNames at this
    rwa [List.length_map] at this
  refine ⟨Nat.le_of_lt (small1000 (by simp)), fun f hf => ?_⟩
  have s1 := same_upd hf (.lst [V.str "main"])
  have ef : (upd H f (.lst [V.str "main"])) f = some (.lst ((["main"] : List Str).map V.str)) := upd_same
  generalize upd H f (.lst [V.str "main"]) = H1 at s1 ef ⊢
  refine ⟨_, rfl, d, kvs, rfl, Rd.same s1 hd, (kvs.length : Nat), rfl, by omega, by have := small1000 (n := kvs.length) (by omega); have := sizeLine_eq; omega, ?_⟩
  have en : ((kvs.length : Nat) : Int).toNat = p.length := by omega
  rw [en]
  refine for_range (lo := 0) (n := p.length) (fun i σ H' => ∃ F v2 v3, σ = [some (.ref d), some (.ref f), v2, v3, none] ∧ Same H H' ∧ H' f = some (.lst (F.map V.str)) ∧ ("main" : Str) ∈ F ∧ (∀ x ∈ F, Rc p x) ∧ F.length ≤ 5 * dn F ∧ (Closed p F ∨ i + 1 ≤ dn F))
    ⟨["main"], none, none, rfl, s1, ef, by simp, fun x hx => by rw [List.mem_singleton.mp hx]; exact .main, by decide +kernel, .inr (by decide +kernel)⟩ ?_ ?_
  · rintro i σ H2 hi ⟨F, v2, v3, rfl, s2, hf2, hm, rc, len, clo⟩
    have dF := dn_le va rc
    refine ⟨_, rfl, f, _, rfl, .inl (SqL.of hf2), fun c hc => ?_⟩
    have hcf : c ≠ f := (ne_of_none hf2 hc).symm
    have s3 := s2.trans (same_upd hc (.lst (F.map V.str)))
    have hf3 : (upd H2 c (.lst (F.map V.str))) f = some (.lst (F.map V.str)) := by rw [upd_ne hcf.symm]; exact hf2
    have hc3 : (upd H2 c (.lst (F.map V.str))) c = some (.lst (F.map V.str)) := upd_same
    have hc0 : H c = none := none_back (W := []) (Sm.of_same s2) (fun _ z => by cases z) hc
    generalize upd H2 c (.lst (F.map V.str)) = H3 at s3 hf3 hc3 ⊢
    refine ⟨c, rfl, ⟨_, SqL.of hc3⟩, for_list (K := K) (a := c) (xs := F.map V.str) (fun j σ H' => ∃ G v3, σ = [some (.ref d), some (.ref f), some (.int (0 + (i : Int))), v3, none] ∧ Same H H' ∧ H' c = some (.lst (F.map V.str)) ∧ H' f = some (.lst (G.map V.str)) ∧ (∀ x ∈ F, x ∈ G) ∧ (∀ x ∈ G, Rc p x) ∧ G.length ≤ 5 * dn G ∧
      (∀ x ∈ F.take j, ∀ y ∈ nmB (bodyOf p x), y ∈ G) ∧ (Closed p F → ∀ x ∈ G, x ∈ F)) ⟨F, v3, rfl, s3, hc3, hf3, fun x h => h, rc, len, by simp, fun _ x h => h⟩ ?_ ?_ ?_⟩
    · rintro j σ H' _ ⟨_, _, _, _, h, _⟩
      exact SqL.of h
    · rintro j y σ H4 hj ⟨G, v3, rfl, s4, hc4, hf4, sub, rc4, len4, tk4, cl4⟩
      have dG := dn_le va rc4
      rw [List.getElem?_map] at hj
      cases hx : F[j]? with
      | none => rw [hx] at hj; cases hj
      | some x =>
        rw [hx] at hj
        cases hj
        have hxF : x ∈ F := List.mem_of_getElem? hx
        have hxn := (rc x hxF).name va
        refine ⟨_, rfl, .inl ⟨rfl, _, SqL.of hf4⟩, ?_⟩
        have hpa4 := PrAt.same s4 hpa
        obtain ⟨l0, e0⟩ := lookup_mem hxn
        rcases hpa4.look (x := x) with ⟨z1, _⟩ | ⟨l, b, z1, z2, z3⟩
        · rw [e0] at z1; cases z1
        obtain ⟨o1, o2, o3, o4⟩ := va.ok x l z1
        have eb : bodyOf p x = l := by unfold bodyOf; rw [z1]; rfl
        have enl := nmB_len l
        refine ⟨_, rfl, _, rfl, d, _, rfl, z2, b, l, pNames p, rfl, z3, o1, by omega, o3, o4, fun r H5 s5 hrn hr5 => ?_⟩
        have hrf : r ≠ f := (ne_of_none hf4 hrn).symm
        have hf5 := s5 _ _ hf4
        have hc5 := s5 _ _ hc4
        have s05 := s4.trans s5
        refine ⟨r, rfl, ⟨_, SqL.of hr5⟩, fun D hD => ?_⟩
        refine lc_list (K := K) (a := r) (xs := (nmB l).map V.str) (fun k H' => Same H5 H' ∧ H' D = some (.lst ((((nmB l).take k).filter fun z => !decide (z ∈ G)).map V.str))) ?_ ?_ ?_ ?_
        · exact ⟨same_upd hD _, by rw [upd_same]; simp⟩
        · rintro k H' _ ⟨sm, _⟩
          exact SqL.of (sm _ _ hr5)
        · rintro k v H6 hv ⟨sm, hD6⟩
          rw [List.getElem?_map] at hv
          cases hz : (nmB l)[k]? with
          | none => rw [hz] at hv; cases hv
          | some z =>
            rw [hz] at hv
            cases hv
            refine ⟨rfl, _, rfl, _, rfl, f, _, rfl, .inl (SqL.of (sm _ _ hf5)), rfl, flat_strs _, _, rfl, ?_⟩
            rw [inV_strs]
            have tk : (nmB l).take (k + 1) = (nmB l).take k ++ [z] := by rw [List.take_add_one, hz]; rfl
            by_cases hg : z ∈ G
            · rw [decide_eq_true hg]
              refine ite2 (fun c => absurd c (by decide)) (fun _ => ⟨sm, ?_⟩)
              rw [hD6, tk, List.filter_append]
              simp [hg]
            · rw [decide_eq_false hg]
              refine ite2 (fun _ => ?_) (fun c => absurd rfl c)
              have fl := List.length_filter_le (fun z => !decide (z ∈ G)) ((nmB l).take k)
              have tl : ((nmB l).take k).length ≤ (nmB l).length := by rw [List.length_take]; omega
              refine ⟨_, rfl, _, hD6, small1000 (by rw [List.length_map]; omega), fun b o e => by rw [upd_ne (ne_of_none e hD)]; exact sm _ _ e, ?_⟩
              rw [upd_same, tk, List.filter_append]
              simp [hg]
        · rintro H6 ⟨sm, hD6⟩
          rw [List.take_of_length_le (by rw [List.length_map]; exact Nat.le_refl _)] at hD6
          have hDf : D ≠ f := (ne_of_none hf5 hD).symm
          have hf6 := sm _ _ hf5
          have fl := List.length_filter_le (fun z => !decide (z ∈ G)) (nmB l)
          refine ⟨f, D, _, _, rfl, rfl, hf6, hD6, Nat.le_of_lt (small1000 (by simp only [List.length_map]; omega)), ?_⟩
          have gin : ∀ y, y ∈ G ++ (nmB l).filter (fun z => !decide (z ∈ G)) ↔ y ∈ G ∨ y ∈ nmB l := fun y => by
            rw [List.mem_append, List.mem_filter]
            by_cases hy : y ∈ G <;> simp [hy]
          refine ⟨G ++ (nmB l).filter (fun z => !decide (z ∈ G)), _, rfl, fun b o e => by rw [upd_ne (ne_of_none e hf)]; exact sm _ _ (s05 _ _ e), by rw [upd_ne hcf]; exact sm _ _ hc5, by rw [upd_same, List.map_append], fun x h => (gin x).mpr (.inl (sub x h)), fun y hy => ?_, ?_, fun y hy z hz => ?_, fun cl y hy => ?_⟩
          · rcases (gin y).mp hy with h | h
            · exact rc4 y h
            · exact (rc x hxF).step (by rw [eb]; exact h)
          · cases hq : (nmB l).filter (fun z => !decide (z ∈ G)) with
            | nil => rw [List.append_nil]; exact len4
            | cons y r =>
              have hy : y ∈ (nmB l).filter (fun z => !decide (z ∈ G)) := by rw [hq]; simp
              have hyn : y ∉ G := by
                have := (List.mem_filter.mp hy).2
                simpa using this
              have d1 := dn_lt (F := G) (G := G ++ (nmB l).filter (fun z => !decide (z ∈ G))) (fun x h => (gin x).mpr (.inl h)) (List.mem_append_right _ hy) hyn
              rw [hq] at d1 fl
              rw [List.length_append]
              omega
          · rw [List.take_add_one, hx, List.mem_append] at hy
            rcases hy with h | h
            · exact (gin z).mpr (.inl (tk4 y h z hz))
            · simp at h
              rw [h, eb] at hz
              exact (gin z).mpr (.inr hz)
          · rcases (gin y).mp hy with h | h
            · exact cl4 cl y h
            · exact cl x hxF y (by rw [eb]; exact h)
    · rintro σ H4 ⟨G, v3, rfl, s4, hc4, hf4, sub, rc4, len4, tk4, cl4⟩
      rw [List.take_of_length_le (by rw [List.length_map]; exact Nat.le_refl _)] at tk4
      refine ⟨G, _, _, rfl, s4, hf4, sub _ hm, rc4, len4, ?_⟩
      by_cases hq : ∀ x ∈ G, x ∈ F
      · exact .inl fun x hx y hy => tk4 x (hq x hx) y hy
      · rcases clo with h | h
        · exact absurd (cl4 h) hq
        · obtain ⟨y, hy⟩ := Classical.not_forall.mp hq
          obtain ⟨h1, h2⟩ := Classical.not_imp.mp hy
          have := dn_lt sub h1 h2
          exact .inr (by omega)
  · rintro σ H2 ⟨F, v2, v3, rfl, s2, hf2, hm, rc, len, clo⟩
    have dF := dn_le va rc
    have clo : Closed p F := by
      rcases clo with h | h
      · exact h
      · omega
    refine ⟨_, rfl, f, F, rfl, SqL.of hf2, by omega, fun c hc => ?_⟩
    refine ⟨c, met [] F, rfl, upd_same, by unfold dn at dF; omega, fun ys r hp so hr => ?_⟩
    have t := tells_met hp so
    have s3 := s2.trans (same_upd hc (TxO P w c (met [] F)))
    refine q r ys _ (s3.trans (same_upd hr _)) (none_back (W := []) (Sm.of_same s3) (fun _ z => by cases z) hr) upd_same t.nd so fun x => ?_
    rw [t.mem]
    exact ⟨rc x, fun h => h.of hm clo⟩
end K02


set_option Elab.async false
set_option linter.all false
set_option maxRecDepth 100000
set_option maxHeartbeats 4000000
namespace K02
open PySem PySem.Spec PyProof.Rows L2 FA
variable {P : Program} {w : World} {K : PySem.W.Frag} {mg : Str → Option Value} {base : Heap}
section
variable {X : Cx}
/-- a statement over a dict that is walked: it is locked, or it is already -/
theorem ps_lock2 {st : Stmt} {t : TS} (h : PS X st t) : PS X st (fun D σ H => tLock t D σ H ∨ t D σ H) := ⟨fun pins s σ H D I hq => by
  rcases hq with hq | hq
  · exact (ps_lock h).run pins s σ H D I hq
  · exact h.run pins s σ H D I hq⟩
end
/-- a walk over the keys of a locked dict -/
theorem for_keys {d : Addr} {o : Obj} {kvs : List (Key × V)} {g : TG} {tb : TS} {D : Ends} {σ : L2.St} {H : Hp} (Pv : Nat → L2.St → Hp → Prop) (h0 : Pv 0 σ H) (hl : ∀ i σ H, Pv i σ H → H d = some (.frz o (.dK kvs)))
    (hs : ∀ (i : Nat) k v σ H, kvs[i]? = some (k, v) → Pv i σ H → g (kV k) σ H fun σ2 H2 => tb { D with nx := Pv (i + 1), ct := Pv (i + 1), bk := D.nx } σ2 H2) (hd : ∀ σ H, Pv kvs.length σ H → D.nx σ H) :
    ∃ W : Nat → Nat → L2.St → Hp → Prop, (∃ m, W 0 m σ H) ∧ ∀ i m σ H, W i m σ H →
      ((Itk d o kvs).stop i H ∧ D.nx σ H) ∨ ((Itk d o kvs).go i H ∧ ∃ N : L2.St → Hp → Prop, (∀ σ' H', N σ' H' → ∃ m', m' < m ∧ W (i + 1) m' σ' H') ∧ ∀ x H', (Itk d o kvs).yld i H x H' → g x σ H' fun σ2 H2 => tb { D with nx := N, ct := N, bk := D.nx } σ2 H2) := by
  refine ⟨fun i m σ H => m = kvs.length - i ∧ i ≤ kvs.length ∧ Pv i σ H, ⟨kvs.length, by simp, Nat.zero_le _, h0⟩, ?_⟩
  rintro i m σ H ⟨rfl, hi, p⟩
  by_cases hlt : i < kvs.length
  · refine .inr ⟨⟨hl i σ H p, hlt⟩, Pv (i + 1), fun σ' H' p' => ⟨kvs.length - (i + 1), by omega, rfl, hlt, p'⟩, fun x H' y => ?_⟩
    obtain ⟨e, k, v, ek, ex⟩ := y
    subst e ex
    exact hs i k v σ _ ek p
  · have e : i = kvs.length := by omega
    subst e
    exact .inl ⟨⟨hl _ σ H p, Nat.le_refl _⟩, hd σ H p⟩
/-! ### what repr needs (as of k03) -/
theorem dtP_show (p : Pr) : (dtP p).showable = true := by
  have h : ∀ p : Pr, PyData.showableKv (p.map fun q => (PyData.str q.1, PyData.list (dtB q.2))) = true := fun p => by
    induction p with
    | nil => rfl
    | cons q r ih => simp only [List.map_cons, PyData.showableKv, PyData.showable, dtB_show q.2, ih, Bool.and_self]
  simp only [dtP, PyData.showable]
  exact h p
theorem dtP_depth {p : Pr} (h : ∀ q ∈ p, dB q.2 ≤ 4) : (dtP p).depth ≤ 60 := by
  have key : ∀ p : Pr, (∀ q ∈ p, dB q.2 ≤ 4) → PyData.depthKv (p.map fun q => (PyData.str q.1, PyData.list (dtB q.2))) ≤ 20 := fun p => by
    induction p with
    | nil => intro _; simp [PyData.depthKv]
    | cons q r ih =>
      intro h
      have h1 := dtB_depth q.2
      have h2 := h q (by simp)
      have h3 := ih fun u hu => h u (List.mem_cons_of_mem _ hu)
      simp only [List.map_cons, PyData.depthKv, PyData.depth]
      omega
  have := key p h
  simp only [dtP, PyData.depth]
  omega
theorem dtP_short {ns : List Str} (hn : ∀ x ∈ ns, FA.okName x) {p : Pr} (h : ∀ q ∈ p, q.1 ∈ ns ∧ okB ns q.2) : (dtP p).leavesShort 13 = true := by
  have key : ∀ p : Pr, (∀ q ∈ p, q.1 ∈ ns ∧ okB ns q.2) → PyData.leavesShortKv 13 (p.map fun q => (PyData.str q.1, PyData.list (dtB q.2))) = true := fun p => by
    induction p with
    | nil => intro _; rfl
    | cons q r ih =>
      intro h
      have h2 := h q (by simp)
      have h3 := ih fun u hu => h u (List.mem_cons_of_mem _ hu)
      have h4 := (hn _ h2.1).short
      have h5 := dtB_short hn q.2 h2.2
      simp only [List.map_cons, PyData.leavesShortKv, PyData.leavesShort, h3, h4, h5, Bool.and_self]
  simp only [dtP, PyData.leavesShort]
  exact key p h
theorem dtP_bulk {ns : List Str} (hn : ∀ x ∈ ns, FA.okName x) {p : Pr} (h : ∀ q ∈ p, q.1 ∈ ns ∧ okB ns q.2 ∧ nIB q.2 ≤ 12) : (dtP p).bulk ≤ 500 * p.length := by
  have key : ∀ p : Pr, (∀ q ∈ p, q.1 ∈ ns ∧ okB ns q.2 ∧ nIB q.2 ≤ 12) → PyData.bulkKv (p.map fun q => (PyData.str q.1, PyData.list (dtB q.2))) ≤ 500 * p.length := fun p => by
    induction p with
    | nil => intro _; simp [PyData.bulkKv]
    | cons q r ih =>
      intro h
      have h2 := h q (by simp)
      have h3 := ih fun u hu => h u (List.mem_cons_of_mem _ hu)
      have h4 : q.1.cps.size ≤ 8 := (hn _ h2.1).2.1
      have h5 := dtB_bulk hn q.2 h2.2.1
      simp only [List.map_cons, PyData.bulkKv, PyData.bulk, List.length_cons]
      omega
  simp only [dtP, PyData.bulk]
  exact key p h
theorem Valid.mem {p : Pr} (va : Valid p) {q : Str × Bd} (h : q ∈ p) : q.1 ∈ pNames p ∧ okB (pNames p) q.2 ∧ nIB q.2 ≤ 12 ∧ dB q.2 ≤ 4 := by
  obtain ⟨o1, o2, o3, o4⟩ := va.ok q.1 q.2 (look_nd va.nd h)
  exact ⟨List.mem_map.mpr ⟨q, h, rfl⟩, o1, o3, o4⟩
theorem dtP_fits {p : Pr} (va : Valid p) : (dtP p).shown.length ≤ sizeLine := by
  refine PyData.shown_fits_bulk (B := 13) (by decide) (by decide) (dtP_short va.nm fun q hq => ⟨(va.mem hq).1, (va.mem hq).2.1⟩) ?_
  have h1 := dtP_bulk va.nm (p := p) fun q hq => ⟨(va.mem hq).1, (va.mem hq).2.1, (va.mem hq).2.2.1⟩
  have h2 := va.len
  have h3 : (2 : Nat) ^ 20 = 1048576 := by decide
  omega
/-- a list of names -/
def dtS (ys : List Str) : PyData := .list (ys.map PyData.str)
theorem dtS_dd {H : Hp} {a : Addr} {ys : List Str} (h : H a = some (.lst (ys.map V.str))) : Dd K H (.ref a) (dtS ys) := by
  have key : ∀ ys : List Str, DdAll K H (ys.map V.str) (ys.map PyData.str) := fun ys => by
    induction ys with
    | nil => exact .nil
    | cons i r ih => exact .cons (.str i) ih
  exact .lst h (key ys)
theorem dtS_show (ys : List Str) : (dtS ys).showable = true := by
  simp only [dtS, PyData.showable]
  induction ys with
  | nil => rfl
  | cons i r ih => simp only [List.map_cons, PyData.showableAll, PyData.showable, ih, Bool.and_self]
theorem dtS_depth (ys : List Str) : (dtS ys).depth ≤ 60 := by
  have key : PyData.depthAll (ys.map PyData.str) = 0 := by
    induction ys with
    | nil => rfl
    | cons i r ih => simp only [List.map_cons, PyData.depthAll, PyData.depth, ih]; rfl
  simp only [dtS, PyData.depth, key]
  omega
theorem dtS_fits {ys : List Str} (h : ∀ x ∈ ys, FA.okName x) (hl : ys.length ≤ 100) : (dtS ys).shown.length ≤ sizeLine := by
  refine PyData.shown_fits_bulk (B := 13) (by decide) (by decide) ?_ ?_
  · simp only [dtS, PyData.leavesShort]
    clear hl
    induction ys with
    | nil => rfl
    | cons i r ih =>
      have h1 := (h i (by simp)).short
      simp only [List.map_cons, PyData.leavesShortAll, PyData.leavesShort, h1, Bool.true_and]
      exact ih fun j hj => h j (List.mem_cons_of_mem _ hj)
  · have key : ∀ ys : List Str, (∀ x ∈ ys, FA.okName x) → PyData.bulkAll (ys.map PyData.str) ≤ 9 * ys.length := fun ys => by
      induction ys with
      | nil => intro _; simp [PyData.bulkAll]
      | cons i r ih =>
        intro h
        have h1 : i.cps.size ≤ 8 := (h i (by simp)).2.1
        have h2 := ih fun j hj => h j (List.mem_cons_of_mem _ hj)
        simp only [List.map_cons, PyData.bulkAll, PyData.bulk, List.length_cons]
        omega
    have := key ys h
    simp only [dtS, PyData.bulk]
    have h3 : (2 : Nat) ^ 20 = 1048576 := by decide
    omega
theorem unlock_same {H1 Hl H' : Hp} {d : Addr} {u : HO} (h : H1 d = some u) (off : ∀ b, b ≠ d → Hl b = H1 b) (s : Same Hl H') : Same H1 (upd H' d u) := fun b o e => by
  by_cases hb : b = d
  · rw [hb, h] at e
    rw [hb, upd_same, e]
  · rw [upd_ne hb]
    refine s _ _ ?_
    rw [off b hb]
    exact e
def spLRight : Sp := fun vs H Q _ => ∃ (d : Addr) (kvs : List (Key × V)) (p : Pr), vs = [.ref d] ∧ H d = some (.dK kvs) ∧ PrKv H kvs p ∧ Valid p ∧ ∀ H', Same H H' → Q (.bl true) H'
theorem okLRight (T : Txt K mg) (sy : FA.SysB base) : FnG P w K mg base 16 T.aLRight T.fLRight ["program"] spLRight := by
  have GReached : FnOk P w K mg base CX0 14 T.aReached T.fReached ["program"] spReached := okReached T
  have GLLed : FnOk P w K mg base CX0 14 T.aLLed T.fLLed ["program"] spLLed := okLLed T
  have GCallees : FnOk P w K mg base CX0 14 T.aCallees T.fCallees ["program", "name"] spCallees := okCallees T
  have GLNames : FnOk P w K mg base CX0 5 T.aLNames T.fLNames ["body"] (spNames 4) := okLNames T 4
  refine okG T.FLRight scLRight (fun vs H Q E h => ?_) (fun cdv A gd outer s H vs Q E hr h => ?_)
  · obtain ⟨d, kvs, p, rfl, _⟩ := h
    rfl
  obtain ⟨d, kvs, p, rfl, hd, hk, va, q⟩ := h
  have hu := hu_of hr
  refine ⟨_, (pss_cons (ps_set (i := 1) scLRight.nd rfl (by first | exact Or.inl rfl | exact Or.inr rfl) (pe_callB (call_reprD sy gd hr.units) (by rfl) T.n_repr (by decide +kernel) (pa_cons (pv 0) pa_nil)))
      (pss_cons (ps_for PassesOwn.never rfl (pi_range1 (by rfl) T.n_range (pa_cons pe_int pa_nil)) (pg_name (i := 2) scLRight.nd rfl (by first | exact Or.inl rfl | exact Or.inr rfl))
        (pss_cons (ps_set (i := 3) scLRight.nd rfl (by first | exact Or.inl rfl | exact Or.inr rfl) (pe_call GReached (hr.mono (by omega)) rfl T.gReached T.FReached.kp T.bReached .nil pass0 (pa_cons (pv 0) pa_nil)))
        (pss_cons (ps_if (PW.pt (pw_or (pt_cmpR op_ne (pe_callB (call_reprD sy gd hr.units) (by rfl) T.n_repr (by decide +kernel) (pa_cons (pv 3) pa_nil)) (pe_callB (call_reprD sy gd hr.units) (by rfl) T.n_repr (by decide +kernel) (pa_cons (pe_call GLLed (hr.mono (by omega)) rfl T.gLLed T.FLLed.kp T.bLLed .nil pass0 (pa_cons (pv 0) pa_nil)) pa_nil)) (nomark _)) (pw_or1 (pt_cmpR op_ne (pe_callB (call_reprD sy gd hr.units) (by rfl) T.n_repr (by decide +kernel) (pa_cons (pv 0) pa_nil)) (pv 1) (nomark _)))))
          (pss_one (ps_ret pe_bl)) pss_nil)
        (pss_cons (ps_expr (pe_bm0 PySem.F.plainAttrs_list PySem.F.slot_list_reverse PySem.F.type_list_reverse mt_reverse (pv 3)))
        (pss_cons (ps_expr (pe_bm PySem.F.plainAttrs_list PySem.F.slot_list_append PySem.F.type_list_append mt_append (pv 3) (pa_cons pe_str pa_nil)))
        (pss_one (ps_lock2 (ps_for PassesOwn.never rfl (pi_keys (pv 0)) (pg_name (i := 4) scLRight.nd rfl (by first | exact Or.inl rfl | exact Or.inr rfl))
          (pss_cons (ps_set (i := 3) scLRight.nd rfl (by first | exact Or.inl rfl | exact Or.inr rfl) (pe_call GCallees (hr.mono (by omega)) rfl T.gCallees T.FCallees.kp T.bCallees .nil pass0 (pa_cons (pv 0) (pa_cons (pv 4) pa_nil))))
          (pss_cons (ps_if (PW.pt (pw_or (pt_cmpR op_ne (pe_callB (call_reprD sy gd hr.units) (by rfl) T.n_repr (by decide +kernel) (pa_cons (pv 3) pa_nil)) (pe_callB (call_reprD sy gd hr.units) (by rfl) T.n_repr (by decide +kernel) (pa_cons (pe_callB (cr_sortedTx rfl) (by rfl) T.n_sorted (by decide +kernel) (pa_cons (pe_callTy (cr_setTx rfl) (by rfl) T.n_set (by decide +kernel) (pa_cons (pe_call GLNames (hr.mono (by omega)) rfl T.gLNames T.FLNames.kp T.bLNames .nil pass0 (pa_cons (pe_dget hu (pv 0) (pv 4) (fun _ _ => rfl)) pa_nil)) pa_nil)) pa_nil)) pa_nil)) (nomark _)) (pw_or1 (pt_cmpR op_ne (pe_callB (call_reprD sy gd hr.units) (by rfl) T.n_repr (by decide +kernel) (pa_cons (pv 0) pa_nil)) (pv 1) (nomark _)))))
            (pss_one (ps_ret pe_bl)) pss_nil)
          (pss_one (ps_expr (pe_bm PySem.F.plainAttrs_list PySem.F.slot_list_append PySem.F.type_list_append mt_append (pv 3) (pa_cons pe_str pa_nil))))))))))))))
      (pss_one (ps_ret pe_bl)))), ?_⟩
  have hkl := hk.length
  have hlen := va.len
  have dep : (dtP p).depth ≤ 60 := dtP_depth fun q hq => (va.mem hq).2.2.2
  refine ⟨_, rfl, d, dtP p, rfl, PrKv.dt (.inl hd) hk, dtP_show p, dep, dtP_fits va, ?_⟩
  refine ⟨2, rfl, by decide, by decide, ?_⟩
  refine for_range (lo := 0) (n := 2) (fun t σ H' => ∃ v2 v3 v4, σ = [some (.ref d), some (.str (dtP p).shown), v2, v3, v4] ∧ Same H H') ⟨none, none, none, rfl, Same.refl _⟩ ?_ ?_
  · rintro t σ H1 ht ⟨v2, v3, v4, rfl, s1⟩
    have pa1 : PrAt H1 d p := ⟨kvs, .inl (s1 _ _ hd), hk.keep (Kp.of s1)⟩
    refine ⟨_, rfl, d, p, rfl, pa1, va, fun r ys H2 s2 hrn hr2 nd so mem => ?_⟩
    have s02 := s1.trans s2
    have nm : ∀ x ∈ ys, FA.okName x := fun x hx => va.nm x (((mem x).mp hx).name va)
    have yl : ys.length ≤ 100 := by
      have := nd_le nd fun x hx => ((mem x).mp hx).name va
      unfold pNames at this
      rw [List.length_map] at this
      omega
    refine ⟨_, rfl, r, dtS ys, rfl, dtS_dd hr2, dtS_show ys, dtS_depth ys, dtS_fits nm yl, ?_⟩
    refine ⟨_, rfl, d, p, rfl, PrAt.same s2 pa1, va, fun r2 zs H3 s3 hn3 hr3 nd3 so3 mem3 => ?_⟩
    have e : zs = ys := sorted_one so3 so (perm_same nd3 nd fun x => (mem3 x).trans (mem x).symm)
    subst e
    have s03 := s02.trans s3
    refine ⟨r2, dtS zs, rfl, dtS_dd hr3, dtS_show zs, dtS_depth zs, dtS_fits nm yl, rfl, _, rfl, ite2 (fun z => absurd z (by simp)) (fun _ => ?_)⟩
    refine ⟨_, rfl, d, dtP p, rfl, PrKv.dt (.inl (s03 _ _ hd)) (hk.keep (Kp.of s03)), dtP_show p, dep, dtP_fits va, ?_⟩
    refine ⟨_, rfl, rfl, _, rfl, ite2 (fun z => absurd z (by simp)) (fun _ => ?_)⟩
    have hr3' := s3 _ _ hr2
    have r0 : H r = none := none_back (W := []) (Sm.of_same s1) (fun _ z => by cases z) hrn
    refine ⟨_, rfl, .inl ⟨rfl, _, SqL.of hr3'⟩, r, _, rfl, rfl, hr3', ?_⟩
    refine ⟨_, rfl, .inl ⟨rfl, _, SqL.of upd_same⟩, r, _, .str "q", rfl, rfl, upd_same, small1000 (by simp; omega), ?_⟩
    have s04 : Same H (upd (upd H3 r (.lst (zs.map V.str).reverse)) r (.lst ((zs.map V.str).reverse ++ [V.str "q"]))) := fun b o e => by
      rw [upd_ne (ne_of_none e r0), upd_ne (ne_of_none e r0)]
      exact s03 _ _ e
    generalize upd (upd H3 r (.lst (zs.map V.str).reverse)) r (.lst ((zs.map V.str).reverse ++ [V.str "q"])) = H4 at s04 ⊢
    clear s03 hr3' hr3 hr2 s3 s2 s02
    have hd4 := s04 _ _ hd
    refine .inl ⟨d, _, hd4, trivial, fun od => ?_⟩
    have lk : (upd H4 d (.frz od (.dK kvs))) d = some (.frz od (.dK kvs)) := upd_same
    have off : ∀ b, b ≠ d → (upd H4 d (.frz od (.dK kvs))) b = H4 b := fun b hb => upd_ne hb
    have hk5 : PrKv (upd H4 d (.frz od (.dK kvs))) kvs p := (hk.keep (Kp.of s04)).keep (Kp.lock (.inl hd4) off)
    generalize upd H4 d (.frz od (.dK kvs)) = H5 at lk off hk5 ⊢
    refine ⟨_, rfl, d, od, rfl, .inl ⟨kvs, lk, for_keys (fun i σ H' => ∃ v3 v4, σ = [some (.ref d), some (.str (dtP p).shown), some (.int (0 + (t : Int))), v3, v4] ∧ Same H5 H') ⟨_, _, rfl, Same.refl _⟩ ?_ ?_ ?_⟩⟩
    · rintro i σ H' ⟨_, _, _, sm⟩
      exact sm _ _ lk
    · rintro i k v σ H6 e ⟨v3, v4, rfl, s6⟩
      obtain ⟨x, rfl, ex, hx⟩ := key_at hk5 e
      have pa6 : PrAt H6 d p := PrAt.same s6 ⟨kvs, .inr ⟨od, lk⟩, hk5⟩
      refine ⟨_, rfl, _, rfl, d, p, x, rfl, pa6, va, hx, fun r ys H7 s7 hrn hr7 tel => ?_⟩
      have nmx : ∀ z ∈ ys, FA.okName z := fun z hz => va.nm z (callee_in va hx ((tel.mem z).mp hz))
      have ylx : ys.length ≤ 100 := by
        have := nd_le tel.nd fun z hz => callee_in va hx ((tel.mem z).mp hz)
        unfold pNames at this
        rw [List.length_map] at this
        omega
      refine ⟨_, rfl, r, dtS ys, rfl, dtS_dd hr7, dtS_show ys, dtS_depth ys, dtS_fits nmx ylx, ?_⟩
      have pa7 := PrAt.same s7 pa6
      obtain ⟨l0, e0⟩ := lookup_mem hx
      rcases pa7.look (x := x) with ⟨z1, _⟩ | ⟨l, b, z1, z2, z3⟩
      · rw [e0] at z1; cases z1
      obtain ⟨o1, o2, o3, o4⟩ := va.ok x l z1
      have eb : bodyOf p x = l := by unfold bodyOf; rw [z1]; rfl
      have en := nmB_len l
      refine ⟨_, rfl, _, rfl, d, _, rfl, z2, b, l, pNames p, rfl, z3, o1, by omega, o3, o4, fun r2 H8 s8 hn8 hr8 => ?_⟩
      refine ⟨r2, nmB l, rfl, SqL.of hr8, by omega, fun c hc => ?_⟩
      have ml := met_len (nmB l) []
      simp only [List.length_nil] at ml
      refine ⟨c, met [] (nmB l), rfl, upd_same, by omega, fun zs2 r3 hp hso hr3n => ?_⟩
      have tel2 := tells_met hp hso
      have e2 : zs2 = ys := tel2.one tel fun z => by rw [eb]
      subst e2
      have s9 := (s8.trans (same_upd hc (TxO P w c (met [] (nmB l))))).trans (same_upd hr3n (.lst (zs2.map V.str)))
      have hr9 : (upd (upd H8 c (TxO P w c (met [] (nmB l)))) r3 (.lst (zs2.map V.str))) r3 = some (.lst (zs2.map V.str)) := upd_same
      refine ⟨r3, dtS zs2, rfl, dtS_dd hr9, dtS_show zs2, dtS_depth zs2, dtS_fits nmx ylx, rfl, _, rfl, ite2 (fun z => absurd z (by simp)) (fun _ => ?_)⟩
      have s59 := (s6.trans s7).trans s9
      refine ⟨_, rfl, d, dtP p, rfl, PrKv.dt (.inr ⟨od, s59 _ _ lk⟩) (hk5.keep (Kp.of s59)), dtP_show p, dep, dtP_fits va, ?_⟩
      refine ⟨_, rfl, rfl, _, rfl, ite2 (fun z => absurd z (by simp)) (fun _ => ?_)⟩
      have hr79 := s9 _ _ hr7
      have r05 : H5 r = none := none_back (W := []) (Sm.of_same s6) (fun _ z => by cases z) hrn
      refine ⟨_, rfl, .inl ⟨rfl, _, SqL.of hr79⟩, r, _, .str "q", rfl, rfl, hr79, small1000 (by simp; omega), ?_⟩
      exact ⟨_, _, rfl, fun b o e => by rw [upd_ne (ne_of_none e r05)]; exact s59 _ _ e⟩
    · rintro σ H6 ⟨v3, v4, rfl, s6⟩
      exact ⟨s6 _ _ lk, _, _, _, rfl, fun b o e => unlock_same hd4 off s6 _ _ (s04 _ _ e)⟩
  · rintro σ H1 ⟨v2, v3, v4, rfl, s1⟩
    exact q _ s1
end K02


set_option Elab.async false
set_option linter.all false
set_option maxRecDepth 100000
set_option maxHeartbeats 4000000
namespace K02
open PySem PySem.Spec PyProof.Rows L2 FA
/-! ### the program with another main -/
def setM (p : Pr) (l : Bd) : Pr := p.map fun q => if q.1 = ("main" : Str) then (q.1, l) else q
theorem setM_names (p : Pr) (l : Bd) : pNames (setM p l) = pNames p := by
  unfold setM pNames
  rw [List.map_map]
  refine List.map_congr_left fun q _ => ?_
  show (if q.1 = ("main" : Str) then (q.1, l) else q).1 = q.1
  split <;> rfl
theorem setM_mem {p : Pr} {l l' : Bd} {x : Str} (h : (x, l') ∈ setM p l) : (x = "main" ∧ l' = l) ∨ ((x, l') ∈ p ∧ x ≠ "main") := by
  unfold setM at h
  obtain ⟨q, hq, e⟩ := List.mem_map.mp h
  by_cases c : q.1 = ("main" : Str)
  · rw [if_pos c] at e
    cases e
    exact .inl ⟨c, rfl⟩
  · rw [if_neg c] at e
    subst e
    exact .inr ⟨hq, c⟩
theorem setM_main {p : Pr} {l : Bd} (nd : (pNames p).Nodup) (h : ("main" : Str) ∈ pNames p) : (setM p l).lookup ("main" : Str) = some l := by
  obtain ⟨q, hq, e⟩ := List.mem_map.mp h
  refine look_nd (by rw [setM_names]; exact nd) ?_
  unfold setM
  refine List.mem_map.mpr ⟨q, hq, ?_⟩
  rw [if_pos e, e]
theorem setM_other {p : Pr} {l : Bd} (nd : (pNames p).Nodup) {x : Str} (hx : x ≠ "main") : (setM p l).lookup x = p.lookup x := by
  cases e : p.lookup x with
  | some l' =>
    refine look_nd (by rw [setM_names]; exact nd) ?_
    unfold setM
    refine List.mem_map.mpr ⟨(x, l'), mem_look e, ?_⟩
    rw [if_neg (show ¬ ((x, l') : Str × Bd).1 = ("main" : Str) from hx)]
  | none =>
    cases e2 : (setM p l).lookup x with
    | none => rfl
    | some l' =>
      rcases setM_mem (mem_look e2) with h | h
      · exact absurd h.1 hx
      · rw [look_nd nd h.1] at e; cases e
theorem setM_rnd {p : Pr} {l : Bd} (nd : (pNames p).Nodup) (hm : ("main" : Str) ∈ pNames p) (hz : ∀ f, costB f l = 0) : ∀ k x, rnd 13 (setM p l) k x ≤ rnd 13 p k x
  | 0, x => Int.le_refl _
  | k + 1, x => by
    have ih := setM_rnd nd hm hz k
    simp only [rnd]
    by_cases c : x = "main"
    · have e : bodyOf (setM p l) x = l := by unfold bodyOf; rw [c, setM_main nd hm]; rfl
      rw [e, hz]
      have := costB_nn (f := rnd 13 p k) (rnd_nn (by decide) p k) (bodyOf p x)
      omega
    · have e : bodyOf (setM p l) x = bodyOf p x := by unfold bodyOf; rw [setM_other nd c]
      rw [e]
      have := costB_le ih (bodyOf p x)
      omega
theorem setM_valid {p : Pr} {l : Bd} (va : Valid p) (hz : ∀ f, costB f l = 0) (ok : okB (pNames p) l) (hc : nCB l ≤ 5) (hi : nIB l ≤ 12) (hd : dB l ≤ 4) : Valid (setM p l) := by
  have en := setM_names p l
  have el : (setM p l).length = p.length := by unfold setM; rw [List.length_map]
  refine ⟨by rw [el]; exact va.len, by rw [en]; exact va.main, fun x hx => va.nm x (by rw [← en]; exact hx), by rw [en]; exact va.nd, fun x l' e => ?_, fun x hx => ?_⟩
  · rw [en]
    rcases setM_mem (mem_look e) with ⟨_, rfl⟩ | ⟨h, _⟩
    · exact ⟨ok, hc, hi, hd⟩
    · exact va.ok x l' (look_nd va.nd h)
  · have h1 := setM_rnd va.nd va.main hz p.length x
    have h2 := va.ret x (by rw [← en]; exact hx)
    rw [el]
    omega
theorem PrM.set {F F' : Hp} {b0 : Addr} {kvs : List (Key × V)} {p : Pr} {l : Bd} (h : PrM F b0 kvs p) (k : Kp (wo [b0] F) F') (hb : BdAt F' b0 l) : PrKv F' kvs (setM p l) := by
  induction h with
  | nil => exact .nil
  | @other b x l' kvs p h0 h2 _ ih =>
    have e : setM ((x, l') :: p) l = (x, l') :: setM p l := by
      unfold setM
      rw [List.map_cons, if_neg (show ¬ ((x, l') : Str × Bd).1 = ("main" : Str) from h0)]
    rw [e]
    exact .cons (h2.keep k) ih
  | @main l' us kvs p h2 h3 _ ih =>
    have e : setM ((("main" : Str), l') :: p) l = (("main" : Str), l) :: setM p l := by
      unfold setM
      rw [List.map_cons, if_pos rfl]
    rw [e]
    exact .cons hb ih
theorem PrM.at {F : Hp} {b0 : Addr} {kvs : List (Key × V)} {p : Pr} (h : PrM F b0 kvs p) (hm : ("main" : Str) ∈ pNames p) : valV kvs (.inr "main") = some (.ref b0) ∧ ∃ us, F b0 = some (.lst us) := by
  induction h with
  | nil => cases hm
  | @other b x l' kvs p h0 h2 _ ih =>
    rcases List.mem_cons.mp (show ("main" : Str) ∈ x :: pNames p from hm) with e | e
    · exact absurd e.symm h0
    · obtain ⟨i1, i2⟩ := ih e
      exact ⟨by rw [valV_neg (fun z => h0 (Sum.inr.inj z))]; exact i1, i2⟩
  | @main l' us kvs p h2 h3 _ _ => exact ⟨valV_pos rfl, us, h2⟩
theorem rc_perm {p q : Pr} (hb : ∀ x, bodyOf p x = bodyOf q x) {x : Str} (h : Rc p x) : Rc q x := by
  induction h with
  | main => exact .main
  | step _ hy ih => exact .step ih (by rw [← hb]; exact hy)
theorem names_perm {p q : Pr} (h : q.Perm p) : (pNames q).Perm (pNames p) := List.Perm.map (fun x : Str × Bd => x.1) h
theorem body_perm {p q : Pr} (h : q.Perm p) (nd : (pNames p).Nodup) : ∀ x, bodyOf q x = bodyOf p x := fun x => by
  have nq : (pNames q).Nodup := (names_perm h).symm.nodup nd
  unfold bodyOf
  cases e : p.lookup x with
  | some l => rw [look_nd nq (h.mem_iff.mpr (mem_look e))]
  | none =>
    cases e2 : q.lookup x with
    | none => rfl
    | some l =>
      have := look_nd nd (h.mem_iff.mp (mem_look e2))
      rw [e] at this
      cases this
theorem rnd_body {c : Int} {p q : Pr} (h : ∀ x, bodyOf p x = bodyOf q x) : ∀ k, rnd c p k = rnd c q k
  | 0 => by funext x; rfl
  | k + 1 => by funext x; simp only [rnd, rnd_body h k, h x]
theorem Valid.perm {p q : Pr} (h : q.Perm p) (va : Valid p) : Valid q := by
  have pn : (pNames q).Perm (pNames p) := names_perm h
  refine ⟨by rw [h.length_eq]; exact va.len, pn.mem_iff.mpr va.main, fun x hx => va.nm x (pn.mem_iff.mp hx), pn.symm.nodup va.nd, fun x l e => ?_, fun x hx => ?_⟩
  · obtain ⟨o1, o2, o3, o4⟩ := va.ok x l (look_nd va.nd (h.mem_iff.mp (mem_look e)))
    exact ⟨okB_more (fun y hy => pn.mem_iff.mpr hy) l o1, o2, o3, o4⟩
  · rw [rnd_body (body_perm h va.nd), h.length_eq]
    exact va.ret x (pn.mem_iff.mp hx)
/-! ### the law's own program -/
def q1 : Pr := [("main", [.loop [.one [[.call "a"], []]]]), ("a", [.call "b", .call "b"]), ("b", []), ("c", [.call "a"])]
theorem valid_list {p : Pr} (len : p.length ≤ 6) (main : ("main" : Str) ∈ pNames p) (nm : ∀ x ∈ pNames p, FA.okName x) (nd : (pNames p).Nodup) (ok : ∀ q ∈ p, okB (pNames p) q.2 ∧ nCB q.2 ≤ 5 ∧ nIB q.2 ≤ 12 ∧ dB q.2 ≤ 4) (ret : ∀ x ∈ pNames p, rnd 13 p p.length x ≤ 12) : Valid p :=
  ⟨len, main, nm, nd, fun x l e => ok (x, l) (mem_look e), ret⟩
theorem names_ok {ns : List Str} (h : (ns.all fun x => decide (1 ≤ x.cps.size) && decide (x.cps.size ≤ 8) && x.cps.toList.all fun c => decide (97 ≤ c) && decide (c ≤ 122)) = true) : ∀ x ∈ ns, FA.okName x := by
  intro x hx
  have := List.all_eq_true.mp h x hx
  simp only [Bool.and_eq_true, decide_eq_true_eq, List.all_eq_true] at this
  exact ⟨this.1.1, this.1.2, this.2⟩
theorem vq1 : Valid q1 := by
  refine valid_list (by decide) (by decide +kernel) (names_ok (by decide +kernel)) (by decide +kernel) ?_ (by decide +kernel)
  intro q hq
  simp only [q1, List.mem_cons, List.not_mem_nil, or_false] at hq
  rcases hq with rfl | rfl | rfl | rfl <;> exact ⟨by simp [okB, okI, okBs, pNames, q1], by decide +kernel, by decide +kernel, by decide +kernel⟩
end K02


set_option Elab.async false
set_option linter.all false
set_option maxRecDepth 100000
set_option maxHeartbeats 4000000
namespace K02
open PySem PySem.Spec PyProof.Rows L2 FA LiI
variable {P : Program} {w : World} {K : PySem.W.Frag} {mg : Str → Option Value} {base : Heap}
theorem rows_items {F : Hp} {as : List Addr} {kvs : List (Key × V)} (h : Paired (fun (t : Addr) (q : Key × V) => F t = some (.tup [kV q.1, q.2])) as kvs) : ∀ {p : Pr}, PrKv F kvs p → RwAt F (as.map V.ref) p := by
  induction h with
  | nil => intro p hk; cases hk; exact .nil
  | cons h1 _ ih =>
    intro p hk
    cases hk with
    | cons b t => exact .cons h1 b (ih t)
theorem paired_mem {α β : Type} {F G : α → β → Prop} : ∀ {l : List α} {m : List β}, Paired F l m → (∀ a ∈ l, ∀ b, F a b → G a b) → Paired G l m
  | _, _, .nil, _ => .nil
  | _, _, .cons a t, h => .cons (h _ (by simp) _ a) (paired_mem t fun x hx b hb => h x (List.mem_cons_of_mem _ hx) b hb)
theorem kp_dk {H : Hp} {d : Addr} {k0 kvs : List (Key × V)} (h : H d = some (.dK k0)) : Kp H (upd H d (.dK kvs)) :=
  ⟨fun b xs e => by rw [upd_ne (by rintro rfl; rw [h] at e; cases e)]; exact e, fun b xs e => by rw [upd_ne (by rintro rfl; rw [h] at e; cases e)]; exact e⟩
theorem str_get {ns : List Str} {j : Nat} {x : V} (h : (ns.map V.str)[j]? = some x) : ∃ y, ns[j]? = some y ∧ x = .str y := by
  rw [List.getElem?_map] at h
  cases e : ns[j]? with
  | none => rw [e] at h; cases h
  | some y => rw [e] at h; cases h; exact ⟨y, rfl, rfl⟩
def ans (x : Str) : List Str := if x = ("main" : Str) ∨ x = ("c" : Str) then ["a"] else if x = ("a" : Str) then ["b"] else []
theorem ans_of {x : Str} {zs : List Str} (hx : x ∈ pNames q1) (t : Tells zs (nmB (bodyOf q1 x))) : zs = ans x := by
  have key : ∀ x ∈ pNames q1, (ans x).Nodup ∧ sortedS (ans x) = true ∧ (∀ y ∈ ans x, y ∈ nmB (bodyOf q1 x)) ∧ (∀ y ∈ nmB (bodyOf q1 x), y ∈ ans x) := by decide +kernel
  obtain ⟨h1, h2, h3, h4⟩ := key x hx
  exact t.one ⟨h1, h2, fun y => ⟨h3 y, h4 y⟩⟩ fun _ => Iff.rfl
theorem rq1 (x : Str) : Rc q1 x ↔ x ∈ (["a", "b", "main"] : List Str) := by
  constructor
  · intro h
    refine h.of (by decide +kernel) ?_
    decide +kernel
  · intro h
    have ha : Rc q1 "a" := Rc.main.step (by decide +kernel)
    have hb : Rc q1 "b" := ha.step (by decide +kernel)
    simp only [List.mem_cons, List.not_mem_nil, or_false] at h
    rcases h with rfl | rfl | rfl
    · exact ha
    · exact hb
    · exact .main
theorem dtS_dp {H : Hp} {a : Addr} {ys : List Str} (h : H a = some (.lst (ys.map V.str))) : Dp K H (.ref a) (dtS ys) := by
  have key : ∀ ys : List Str, DpAll K H (ys.map V.str) (ys.map PyData.str) := fun ys => by
    induction ys with
    | nil => exact .nil
    | cons i r ih => exact .cons (.str i) ih
  exact .lst (SqL.of h) (key ys)
def spLaw : Sp := fun vs H Q _ => ∃ (s : Addr) (ns : List Int), vs = [.ref s] ∧ SqL K H s (ns.map V.int) ∧ ns.length ≤ 63 ∧ ∀ H', Q (.bl true) H'
theorem okLaw (T : Txt K mg) (sy : FA.SysB base) : FnG P w K mg base 17 T.aLaw T.fLaw ["script"] (spLaw (K := K)) := by
  have GLWell : FnOk P w K mg base CX0 1 T.aLWell T.fLWell ["script", "k"] (spWell (K := K)) := okWell T
  have GLPull : FnOk P w K mg base CX0 1 T.aLPull T.fLPull ["well", "many"] spPull := okPull T
  have GLShuffled : FnOk P w K mg base CX0 2 T.aLShuffled T.fLShuffled ["well", "items"] (spShuffled (K := K)) := okShuffled T
  have GLProgram : FnOk P w K mg base CX0 10 T.aLProgram T.fLProgram ["well", "most"] spLProgram := okLProgram T
  have GLRight : FnG P w K mg base 16 T.aLRight T.fLRight ["program"] spLRight := okLRight T sy
  have GReached : FnOk P w K mg base CX0 14 T.aReached T.fReached ["program"] spReached := okReached T
  have GCallees : FnOk P w K mg base CX0 14 T.aCallees T.fCallees ["program", "name"] spCallees := okCallees T
  refine okG T.FLaw scLaw (fun vs H Q E h => ?_) (fun cdv A gd outer st H vs Q E hr h => ?_)
  · obtain ⟨s, ns, rfl, _⟩ := h
    rfl
  obtain ⟨s, ns, rfl, hs, hns, q⟩ := h
  have hu := hu_of hr
  refine split_at 1 (fun D σ H' => D.rt = Q ∧ ∃ v1 v2 v3 v4 v5 v6 v7 v8, σ = [some (.ref s), v1, v2, v3, v4, v5, v6, v7, v8]) ?_ ?_
  · skip
    refine ⟨_, (pss_cons (ps_set (i := 2) scLaw.nd rfl (by first | exact Or.inl rfl | exact Or.inr rfl) (pe_disp (pps_cons pe_str (pe_lst (pa_cons (pe_tup (pa_cons pe_str (pa_cons (pe_lst (pa_cons (pe_tup (pa_cons pe_str (pa_cons (pe_lst (pa_cons (pe_lst (pa_cons pe_str pa_nil)) (pa_cons (pe_lst pa_nil) pa_nil))) pa_nil))) pa_nil)) pa_nil))) pa_nil)) (pps_cons pe_str (pe_lst (pa_cons pe_str (pa_cons pe_str pa_nil))) (pps_cons pe_str (pe_lst pa_nil) (pps_cons pe_str (pe_lst (pa_cons pe_str pa_nil)) pps_nil)))) (by rfl) (by rfl) (fun z => by cases z) (by decide)))
      (pss_cons (ps_setLc (i := 3) (own := [("name", 8)]) (g := gName 8) (tt := tYes) rfl scLaw.nd rfl rfl (sw_true rfl rfl rfl (by decide +kernel)) (pi_list (pe_lst (pa_cons pe_str (pa_cons pe_str (pa_cons pe_str (pa_cons pe_str pa_nil)))))) (blkOk_by (N := ["script", "k", "program", "told", "well", "turn", "other", "body", "name"]) (sc := defScope sLaw) (by decide +kernel)) (fun _ _ _ _ _ => (pg_name (i := 8) scLaw.nd rfl (by first | exact Or.inl rfl | exact Or.inr rfl))) (fun _ _ _ _ _ => pts_nil) (fun _ _ _ _ _ => (pe_call GCallees (hr.mono (by omega)) rfl T.gCallees T.FCallees.kp T.bCallees .nil pass0 (pa_cons (pv 2) (pa_cons (pv 8) pa_nil)))))
      (pss_one (ps_ret (pe_and (pe_cmpR (op_eqD hr.units) (pv 3) (pe_lst (pa_cons (pe_lst (pa_cons pe_str pa_nil)) (pa_cons (pe_lst (pa_cons pe_str pa_nil)) (pa_cons (pe_lst pa_nil) (pa_cons (pe_lst (pa_cons pe_str pa_nil)) pa_nil))))) (nomark _)) (pe_one (pe_cmpR (op_eqD hr.units) (pe_call GReached (hr.mono (by omega)) rfl T.gReached T.FReached.kp T.bReached .nil pass0 (pa_cons (pv 2) pa_nil)) (pe_lst (pa_cons pe_str (pa_cons pe_str (pa_cons pe_str pa_nil)))) (nomark _)))))))), ?_⟩
    rintro D σ H1 ⟨hD', v1, v2, v3, v4, v5, v6, v7, v8, rfl⟩
    intro b0 hb0
    have e0 : (upd H1 b0 (.dK [])) b0 = some (.dK []) := upd_same
    have t0 := same_upd hb0 (.dK [])
    generalize upd H1 b0 (.dK []) = Hb0 at e0 t0 ⊢
    refine ⟨Nat.le_of_lt (small1000 (by simp)), fun b1 hb1 => ?_⟩
    have e1 : (upd Hb0 b1 (.lst [V.str "a"])) b1 = some (.lst [V.str "a"]) := upd_same
    have t1 := same_upd hb1 (.lst [V.str "a"])
    generalize upd Hb0 b1 (.lst [V.str "a"]) = Hb1 at e1 t1 ⊢
    refine ⟨Nat.le_of_lt (small1000 (by simp)), fun b2 hb2 => ?_⟩
    have e2 : (upd Hb1 b2 (.lst [])) b2 = some (.lst []) := upd_same
    have t2 := same_upd hb2 (.lst [])
    generalize upd Hb1 b2 (.lst []) = Hb2 at e2 t2 ⊢
    refine ⟨Nat.le_of_lt (small1000 (by simp)), fun b3 hb3 => ?_⟩
    have e3 : (upd Hb2 b3 (.lst [V.ref b1, V.ref b2])) b3 = some (.lst [V.ref b1, V.ref b2]) := upd_same
    have t3 := same_upd hb3 (.lst [V.ref b1, V.ref b2])
    generalize upd Hb2 b3 (.lst [V.ref b1, V.ref b2]) = Hb3 at e3 t3 ⊢
    refine ⟨Nat.le_of_lt (small1000 (by simp)), fun b4 hb4 => ?_⟩
    have e4 : (upd Hb3 b4 (.tup [V.str "one", V.ref b3])) b4 = some (.tup [V.str "one", V.ref b3]) := upd_same
    have t4 := same_upd hb4 (.tup [V.str "one", V.ref b3])
    generalize upd Hb3 b4 (.tup [V.str "one", V.ref b3]) = Hb4 at e4 t4 ⊢
    refine ⟨Nat.le_of_lt (small1000 (by simp)), fun b5 hb5 => ?_⟩
    have e5 : (upd Hb4 b5 (.lst [V.ref b4])) b5 = some (.lst [V.ref b4]) := upd_same
    have t5 := same_upd hb5 (.lst [V.ref b4])
    generalize upd Hb4 b5 (.lst [V.ref b4]) = Hb5 at e5 t5 ⊢
    refine ⟨Nat.le_of_lt (small1000 (by simp)), fun b6 hb6 => ?_⟩
    have e6 : (upd Hb5 b6 (.tup [V.str "loop", V.ref b5])) b6 = some (.tup [V.str "loop", V.ref b5]) := upd_same
    have t6 := same_upd hb6 (.tup [V.str "loop", V.ref b5])
    generalize upd Hb5 b6 (.tup [V.str "loop", V.ref b5]) = Hb6 at e6 t6 ⊢
    refine ⟨Nat.le_of_lt (small1000 (by simp)), fun b7 hb7 => ?_⟩
    have e7 : (upd Hb6 b7 (.lst [V.ref b6])) b7 = some (.lst [V.ref b6]) := upd_same
    have t7 := same_upd hb7 (.lst [V.ref b6])
    generalize upd Hb6 b7 (.lst [V.ref b6]) = Hb7 at e7 t7 ⊢
    refine ⟨Nat.le_of_lt (small1000 (by simp)), fun b8 hb8 => ?_⟩
    have e8 : (upd Hb7 b8 (.lst [V.str "b", V.str "b"])) b8 = some (.lst [V.str "b", V.str "b"]) := upd_same
    have t8 := same_upd hb8 (.lst [V.str "b", V.str "b"])
    generalize upd Hb7 b8 (.lst [V.str "b", V.str "b"]) = Hb8 at e8 t8 ⊢
    refine ⟨Nat.le_of_lt (small1000 (by simp)), fun b9 hb9 => ?_⟩
    have e9 : (upd Hb8 b9 (.lst [])) b9 = some (.lst []) := upd_same
    have t9 := same_upd hb9 (.lst [])
    generalize upd Hb8 b9 (.lst []) = Hb9 at e9 t9 ⊢
    refine ⟨Nat.le_of_lt (small1000 (by simp)), fun b10 hb10 => ?_⟩
    have e10 : (upd Hb9 b10 (.lst [V.str "a"])) b10 = some (.lst [V.str "a"]) := upd_same
    have t10 := same_upd hb10 (.lst [V.str "a"])
    generalize upd Hb9 b10 (.lst [V.str "a"]) = Hb10 at e10 t10 ⊢
    have z10 := Same.refl Hb10
    have z9 := t10.trans z10
    have z8 := t9.trans z9
    have z7 := t8.trans z8
    have z6 := t7.trans z7
    have z5 := t6.trans z6
    have z4 := t5.trans z5
    have z3 := t4.trans z4
    have z2 := t3.trans z3
    have z1 := t2.trans z2
    have z0 := t1.trans z1
    have pk : PrKv Hb10 [(.inr "main", .ref b7), (.inr "a", .ref b8), (.inr "b", .ref b9), (.inr "c", .ref b10)] q1 := (.cons ⟨_, z7 _ _ e7, (.cons (.loop (z6 _ _ e6) (z5 _ _ e5) (.cons (.one (z4 _ _ e4) (z3 _ _ e3) (.cons (z1 _ _ e1) (.cons (.call _) .nil) (.cons (z2 _ _ e2) .nil .nil))) .nil)) .nil)⟩ (.cons ⟨_, z8 _ _ e8, (.cons (.call _) (.cons (.call _) .nil))⟩ (.cons ⟨_, z9 _ _ e9, .nil⟩ (.cons ⟨_, z10 _ _ e10, (.cons (.call _) .nil)⟩ .nil))))
    refine ⟨z0 _ _ e0, [(.inr "main", .ref b7), (.inr "a", .ref b8), (.inr "b", .ref b9), (.inr "c", .ref b10)], rfl, by simp, ?_⟩
    rw [mergeK_nd [(.inr "main", .ref b7), (.inr "a", .ref b8), (.inr "b", .ref b9), (.inr "c", .ref b10)] [] (keys_nd pk vq1.nd), List.nil_append]
    have pa : PrAt (upd Hb10 b0 (.dK [(.inr "main", .ref b7), (.inr "a", .ref b8), (.inr "b", .ref b9), (.inr "c", .ref b10)])) b0 q1 := ⟨_, .inl upd_same, pk.keep (kp_dk (z0 _ _ e0))⟩
    generalize upd Hb10 b0 (.dK [(.inr "main", .ref b7), (.inr "a", .ref b8), (.inr "b", .ref b9), (.inr "c", .ref b10)]) = Hd at pa ⊢
    refine ⟨Nat.le_of_lt (small1000 (by simp)), fun n1 hn1 => ?_⟩
    have en1 : (upd Hd n1 (.lst [V.str "main", V.str "a", V.str "b", V.str "c"])) n1 = some (.lst ((pNames q1).map V.str)) := upd_same
    have pa := PrAt.same (same_upd hn1 (.lst [V.str "main", V.str "a", V.str "b", V.str "c"])) pa
    generalize upd Hd n1 (.lst [V.str "main", V.str "a", V.str "b", V.str "c"]) = He at en1 pa ⊢
    refine ⟨n1, rfl, ⟨_, SqL.of en1⟩, fun D hD => ?_⟩
    refine lc_list (K := K) (a := n1) (xs := (pNames q1).map V.str) (fun k H' => Same He H' ∧ ∃ ys, H' D = some (.lst ys) ∧ ys.length = k ∧ ∀ (j : Nat) y, ys[j]? = some y → ∃ x, (pNames q1)[j]? = some x ∧ ∃ t, y = .ref t ∧ t ≠ D ∧ H' t = some (.lst ((ans x).map V.str))) ?_ ?_ ?_ ?_
    · exact ⟨same_upd hD _, [], upd_same, rfl, by simp⟩
    · rintro k H' _ ⟨sm, _⟩
      exact SqL.of (sm _ _ en1)
    · rintro k v H6 hv ⟨sm, ys, hys, hyl, hg⟩
      obtain ⟨x, hx, rfl⟩ := str_get hv
      have hxn : x ∈ pNames q1 := List.mem_of_getElem? hx
      have hk : k < 4 := (List.getElem?_eq_some_iff.mp hx).1
      refine ⟨rfl, yesT (iteT ?_)⟩
      refine ⟨_, rfl, _, rfl, b0, q1, x, rfl, PrAt.same sm pa, vq1, hxn, fun r zs H7 s7 hrn hr7 tel => ?_⟩
      have hys7 := s7 _ _ hys
      have hrD : r ≠ D := (ne_of_none hys hrn).symm
      have ez := ans_of hxn tel
      subst ez
      refine ⟨ys, hys7, small1000 (by omega), fun b o e => by rw [upd_ne (ne_of_none e hD)]; exact s7 _ _ (sm _ _ e), ys ++ [.ref r], upd_same, by simp [hyl], fun j y hj => ?_⟩
      by_cases hj2 : j < ys.length
      · rw [List.getElem?_append_left hj2] at hj
        obtain ⟨x2, g1, t2, g2, g3, g4⟩ := hg j y hj
        exact ⟨x2, g1, t2, g2, g3, by rw [upd_ne g3]; exact s7 _ _ g4⟩
      · rw [List.getElem?_append_right (by omega)] at hj
        have ej : j - ys.length = 0 := by
          rcases Nat.eq_zero_or_pos (j - ys.length) with z | z
          · exact z
          · rw [List.getElem?_eq_none (by simp; omega)] at hj; cases hj
        rw [ej] at hj
        cases hj
        have : j = k := by omega
        subst this
        exact ⟨x, hx, r, rfl, hrD, by rw [upd_ne hrD]; exact hr7⟩
    · rintro H6 ⟨sm, ys, hys, hyl, hg⟩
      rw [List.length_map] at hyl
      refine ⟨_, rfl, Nat.le_of_lt (small1000 (by simp)), fun c1 h1 => ?_⟩
      have u1 := same_upd h1 (.lst [V.str "a"])
      have g1 : (upd H6 c1 (.lst [V.str "a"])) c1 = some (.lst ((["a"] : List Str).map V.str)) := upd_same
      generalize upd H6 c1 (.lst [V.str "a"]) = G1 at u1 g1 ⊢
      refine ⟨Nat.le_of_lt (small1000 (by simp)), fun c2 h2 => ?_⟩
      have u2 := same_upd h2 (.lst [V.str "b"])
      have g2 : (upd G1 c2 (.lst [V.str "b"])) c2 = some (.lst ((["b"] : List Str).map V.str)) := upd_same
      generalize upd G1 c2 (.lst [V.str "b"]) = G2 at u2 g2 ⊢
      refine ⟨Nat.le_of_lt (small1000 (by simp)), fun c3 h3 => ?_⟩
      have u3 := same_upd h3 (.lst [])
      have g3 : (upd G2 c3 (.lst [])) c3 = some (.lst (([] : List Str).map V.str)) := upd_same
      generalize upd G2 c3 (.lst []) = G3 at u3 g3 ⊢
      refine ⟨Nat.le_of_lt (small1000 (by simp)), fun c4 h4 => ?_⟩
      have u4 := same_upd h4 (.lst [V.str "a"])
      have g4 : (upd G3 c4 (.lst [V.str "a"])) c4 = some (.lst ((["a"] : List Str).map V.str)) := upd_same
      generalize upd G3 c4 (.lst [V.str "a"]) = G4 at u4 g4 ⊢
      refine ⟨Nat.le_of_lt (small1000 (by simp)), fun c5 h5 => ?_⟩
      have u5 := same_upd h5 (.lst [V.ref c1, V.ref c2, V.ref c3, V.ref c4])
      have g5 : (upd G4 c5 (.lst [V.ref c1, V.ref c2, V.ref c3, V.ref c4])) c5 = some (.lst [V.ref c1, V.ref c2, V.ref c3, V.ref c4]) := upd_same
      generalize upd G4 c5 (.lst [V.ref c1, V.ref c2, V.ref c3, V.ref c4]) = G5 at u5 g5 ⊢
      have w4 := u5
      have w3 := u4.trans w4
      have w2 := u3.trans w3
      have w1 := u2.trans w2
      have w0 := u1.trans w1
      have left : Dp K G5 (.ref D) (.list ((pNames q1).map fun x => dtS (ans x))) := .lst (SqL.of (w0 _ _ hys)) (dpAll_map hyl fun j y hj => by
        obtain ⟨x, e1, t, rfl, _, e4⟩ := hg j y hj
        exact ⟨x, e1, dtS_dp (w0 _ _ e4)⟩)
      have right : Dp K G5 (.ref c5) (.list [dtS ["a"], dtS ["b"], dtS [], dtS ["a"]]) := .lst (SqL.of g5) (.cons (dtS_dp (w1 _ _ g1)) (.cons (dtS_dp (w2 _ _ g2)) (.cons (dtS_dp (w3 _ _ g3)) (.cons (dtS_dp (w4 _ _ g4)) .nil))))
      have ev : PyData.eqv (.list ((pNames q1).map fun x => dtS (ans x))) (.list [dtS ["a"], dtS ["b"], dtS [], dtS ["a"]]) = true := by decide +kernel
      refine ⟨_, _, left, right, by decide +kernel, by decide +kernel, _, rfl, ?_⟩
      rw [ev]
      refine ite2 (fun _ => ?_) (fun z => absurd rfl z)
      refine ⟨_, rfl, b0, q1, rfl, PrAt.same (sm.trans w0) pa, vq1, fun r zs H7 s7 hrn hr7 nd so mem => ?_⟩
      have ez : zs = (["a", "b", "main"] : List Str) := sorted_one so (by decide +kernel) (perm_same nd (by decide +kernel) fun x => by rw [mem]; exact rq1 x)
      subst ez
      refine ⟨Nat.le_of_lt (small1000 (by simp)), fun c6 h6 => ?_⟩
      have u6 := same_upd h6 (.lst [V.str "a", V.str "b", V.str "main"])
      refine ⟨dtS ["a", "b", "main"], dtS ["a", "b", "main"], dtS_dp (u6 _ _ hr7), dtS_dp (ys := ["a", "b", "main"]) upd_same, by decide +kernel, by decide +kernel, ?_⟩
      have ev2 : PyData.eqv (dtS ["a", "b", "main"]) (dtS ["a", "b", "main"]) = true := by decide +kernel
      rw [ev2, hD']
      exact q _
  intro u3 hu3 ru3
  refine ⟨_, (pss_cons (ps_for PassesOwn.never rfl (pi_range1 (by rfl) T.n_range (pa_cons (pe_callB (call_max2 rfl) (by rfl) T.n_max (by decide +kernel) (pa_cons pe_int (pa_cons (pe_callB (call_min2 rfl) (by rfl) T.n_min (by decide +kernel) (pa_cons pe_int (pa_cons (pe_callB call_len_seq (by rfl) T.n_len PySem.boot_len (pa_cons (pv 0) pa_nil)) pa_nil))) pa_nil))) pa_nil)) (pg_name (i := 1) scLaw.nd rfl (by first | exact Or.inl rfl | exact Or.inr rfl))
        (pss_cons (ps_set (i := 4) scLaw.nd rfl (by first | exact Or.inl rfl | exact Or.inr rfl) (pe_call GLWell (hr.mono (by omega)) rfl T.gLWell T.FLWell.kp T.bLWell .nil pass0 (pa_cons (pv 0) (pa_cons (pv 1) pa_nil))))
        (pss_one (ps_for PassesOwn.never rfl (pi_range1 (by rfl) T.n_range (pa_cons pe_int pa_nil)) (pg_name (i := 5) scLaw.nd rfl (by first | exact Or.inl rfl | exact Or.inr rfl))
          (pss_cons (ps_set (i := 2) scLaw.nd rfl (by first | exact Or.inl rfl | exact Or.inr rfl) (pe_call GLProgram (hr.mono (by omega)) rfl T.gLProgram T.FLProgram.kp T.bLProgram .nil pass0 (pa_cons (pv 4) (pa_cons pe_int pa_nil))))
          (pss_cons (ps_set (i := 6) scLaw.nd rfl (by first | exact Or.inl rfl | exact Or.inr rfl) (pe_callTy (call_dictP rfl) (by rfl) T.n_dict (by decide +kernel) (pa_cons (pe_call GLShuffled (hr.mono (by omega)) rfl T.gLShuffled T.FLShuffled.kp T.bLShuffled .nil pass0 (pa_cons (pv 4) (pa_cons (pe_listItems rfl (pv 2) (by rfl) T.n_list (by decide +kernel)) pa_nil))) pa_nil)))
          (pss_cons (ps_if (PW.pt (pw_or (pt_not (pt_val (pe_callG GLRight gd (hr.mono (by omega)) rfl T.gLRight T.FLRight.kp T.bLRight (pa_cons (pv 2) pa_nil)))) (pw_or1 (pt_cmpR op_ne (pe_callB (call_reprD sy gd hr.units) (by rfl) T.n_repr (by decide +kernel) (pa_cons (pe_call GReached (hr.mono (by omega)) rfl T.gReached T.FReached.kp T.bReached .nil pass0 (pa_cons (pv 6) pa_nil)) pa_nil)) (pe_callB (call_reprD sy gd hr.units) (by rfl) T.n_repr (by decide +kernel) (pa_cons (pe_call GReached (hr.mono (by omega)) rfl T.gReached T.FReached.kp T.bReached .nil pass0 (pa_cons (pv 2) pa_nil)) pa_nil)) (nomark _)))))
            (pss_one (ps_ret pe_bl)) pss_nil)
          (pss_cons (ps_set (i := 7) scLaw.nd rfl (by first | exact Or.inl rfl | exact Or.inr rfl) (pe_dget hu (pv 2) pe_str (fun _ _ => rfl)))
          (pss_cons (ps_expr (pe_bm0 PySem.F.plainAttrs_list PySem.F.slot_list_clear PySem.F.type_list_clear mt_clear (pv 7)))
          (pss_cons (ps_if (pt_not (pt_val (pe_callG GLRight gd (hr.mono (by omega)) rfl T.gLRight T.FLRight.kp T.bLRight (pa_cons (pv 2) pa_nil))))
            (pss_one (ps_ret pe_bl)) pss_nil)
          (pss_cons (ps_expr (pe_bm PySem.F.plainAttrs_list PySem.F.slot_list_append PySem.F.type_list_append mt_append (pv 7) (pa_cons (pe_tup (pa_cons pe_str (pa_cons (pe_lst (pa_cons (pe_ix ix_list (pe_callB (call_sortedD rfl) (by rfl) T.n_sorted (by decide +kernel) (pa_cons (pv 2) pa_nil)) (pe_call GLPull (hr.mono (by omega)) rfl T.gLPull T.FLPull.kp T.bLPull .nil pass0 (pa_cons (pv 4) (pa_cons (pe_callB call_lenR (by rfl) T.n_len PySem.boot_len (pa_cons (pv 2) pa_nil)) pa_nil))) (fun _ _ => rfl)) pa_nil)) pa_nil))) pa_nil)))
          (pss_one (ps_if (pt_not (pt_val (pe_callG GLRight gd (hr.mono (by omega)) rfl T.gLRight T.FLRight.kp T.bLRight (pa_cons (pv 2) pa_nil))))
            (pss_one (ps_ret pe_bl)) pss_nil)))))))))))))
      hu3), ?_⟩
  obtain ⟨m, hm0, hm6, em⟩ : ∃ m : Int, 0 ≤ m ∧ m ≤ 6 ∧ (if (if ((ns.map V.int).length : Int) < 6 then ((ns.map V.int).length : Int) else 6) > 1 then (if ((ns.map V.int).length : Int) < 6 then ((ns.map V.int).length : Int) else 6) else 1) = m := by
    refine ⟨_, ?_, ?_, rfl⟩ <;> repeat' split
    all_goals omega
  refine ⟨_, rfl, _, _, rfl, .inl hs, _, _, rfl, _, _, rfl, m, congrArg (fun z => [V.int z]) em, by omega, by omega, ?_⟩
  refine for_range (lo := 0) (n := m.toNat) (fun k σ H' => ∃ v1 v2 v4 v5 v6 v7, σ = [some (.ref s), v1, v2, none, v4, v5, v6, v7, none] ∧ Same H H') ⟨none, none, none, none, none, none, rfl, Same.refl _⟩ ?_ ?_
  · rintro k σ H1 hk ⟨v1, v2, v4, v5, v6, v7, rfl, s1⟩
    refine ⟨_, rfl, _, rfl, s, ns, k, congrArg (fun z => [V.ref s, V.int z]) (Int.zero_add _), s1.seq hs, by omega, fun a H2 s2 hna hw2 => ?_⟩
    have s02 := s1.trans s2
    refine ⟨3, rfl, by decide, by decide, ?_⟩
    refine for_range (lo := 0) (n := 3) (fun t σ H' => ∃ v2 v5 v6 v7, σ = [some (.ref s), some (.int (0 + (k : Int))), v2, none, some (.ref a), v5, v6, v7, none] ∧ Same H H' ∧ WellAt H' a (t * 13000200)) ⟨v2, v5, v6, v7, rfl, s02, hw2.mono (by omega)⟩ ?_ ?_
    · rintro t σ H3 ht ⟨v2, v5, v6, v7, rfl, s3, hw3⟩
      have hna0 : H a = none := none_back (W := []) (Sm.of_same s1) (fun _ z => by cases z) hna
      refine ⟨_, rfl, a, t * 13000200, rfl, hw3, by omega, fun d kvs p b0 H4 sm4 hw4 hd4 hk4 va hb0 => ?_⟩
      have s4 : Same H H4 := fun b o e => sm4 b o (by simp; exact ne_of_none e hna0) (s3 _ _ e)
      have hb00 : H b0 = none := none_back (W := []) (Sm.of_same s3) (fun _ z => by cases z) hb0
      have hkl := hk4.kv.length
      have hlen := va.len
      have knd := keys_nd hk4.kv va.nd
      -- the other: the same rows, shuffled
      refine ⟨_, rfl, _, rfl, d, kvs, rfl, hd4, fun H6 l ts s6 hl hts hlt hl6 hp6 => ?_⟩
      have hw6 : WellAt H6 a (t * 13000200 + 13000000) := hw4.keep fun o e => s6 _ _ e
      have htl : ts.length = kvs.length := Paired.length hp6
      obtain ⟨ow, how⟩ := hw4.some
      refine ⟨a, l, t * 13000200 + 13000000, ts.map V.ref, rfl, hw6, by omega, SqL.of hl6, by rw [List.length_map]; omega, fun r ys H7 sm7 hrn hr7 pe hw7 => ?_⟩
      have rw6 : RwAt (wo [a] H6) (ts.map V.ref) p := by
        refine rows_items (kvs := kvs) ?_ (hk4.kv.keep (Kp.of (Sm.of_same (W := [a]) s6).same))
        refine paired_mem hp6 fun t ht b e => wo_some.mpr ⟨?_, e⟩
        simp only [List.mem_singleton]
        rintro rfl
        rw [hts _ ht] at how
        cases how
      obtain ⟨p', pp, rw7⟩ := rw6.perm pe.symm
      have va' := va.perm pp
      have rw7 := rw7.keep (Kp.of sm7.same)
      obtain ⟨ps, kvs', e, pd, pk⟩ := rw7.paired (K := K) (H' := H7) kp_off
      subst e
      refine ⟨r, ps, kvs', rfl, SqL.of hr7, pd, fun d2 hd2 => ?_⟩
      rw [mergeK_nd kvs' [] (keys_nd pk va'.nd), List.nil_append]
      have s8 := same_upd hd2 (.dK kvs')
      have hd28 : (upd H7 d2 (.dK kvs')) d2 = some (.dK kvs') := upd_same
      have sm48 : Sm [a] H4 (upd H7 d2 (.dK kvs')) := ((Sm.of_same s6).trans sm7).trans (Sm.of_same s8)
      have hw8 : WellAt (upd H7 d2 (.dK kvs')) a (t * 13000200 + 13000100) := (hw7.keep fun o e => s8 _ _ e).mono (by rw [List.length_map]; omega)
      have pk8 : PrKv (upd H7 d2 (.dK kvs')) kvs' p' := (pk.keep kp_off).keep (Kp.of s8)
      generalize upd H7 d2 (.dK kvs') = H8 at hd28 sm48 hw8 pk8 ⊢
      have hda : d ≠ a := by
        rintro rfl
        obtain ⟨x, y, z, e, _⟩ := hw4
        rw [hd4] at e; cases e
      have hd8 : H8 d = some (.dK kvs) := sm48 _ _ (by simp [hda]) hd4
      have F48 : Same (wo [a] H4) (wo [a] H8) := sm48.same
      have M8 := hk4.keep F48
      refine ⟨_, rfl, d, kvs, p, rfl, hd8, M8.kv.keep kp_off, va, fun H9 s9 => ?_⟩
      refine ⟨_, rfl, iteF ?_⟩
      have va2 := va'
      refine ⟨_, rfl, d2, p', rfl, ⟨kvs', .inl (s9 _ _ hd28), pk8.keep (Kp.of s9)⟩, va', fun r1 ys1 H10 s10 hn1 hr1 nd1 so1 me1 => ?_⟩
      have nm1 : ∀ x ∈ ys1, FA.okName x := fun x hx => va'.nm x (((me1 x).mp hx).name va')
      have yl1 : ys1.length ≤ 100 := by
        have := nd_le nd1 fun x hx => ((me1 x).mp hx).name va'
        have := va'.len
        unfold pNames at *
        rw [List.length_map] at *
        omega
      refine ⟨r1, dtS ys1, rfl, dtS_dd hr1, dtS_show ys1, dtS_depth ys1, dtS_fits nm1 yl1, ?_⟩
      have s8A := s9.trans s10
      refine ⟨_, rfl, d, p, rfl, ⟨kvs, .inl (s8A _ _ hd8), (M8.kv.keep kp_off).keep (Kp.of s8A)⟩, va, fun r2 ys2 H11 s11 hn2 hr2 nd2 so2 me2 => ?_⟩
      have bp := body_perm pp va.nd
      have ee : ys2 = ys1 := sorted_one so2 so1 (perm_same nd2 nd1 fun x => by
        rw [me2, me1]
        exact ⟨rc_perm fun x => (bp x).symm, rc_perm bp⟩)
      subst ee
      refine ⟨r2, dtS ys2, rfl, dtS_dd hr2, dtS_show ys2, dtS_depth ys2, dtS_fits nm1 yl1, rfl, _, rfl, ite2 (fun z => absurd z (by simp)) (fun _ => ?_)⟩
      have s8B := s8A.trans s11
      have hd11 := s8B _ _ hd8
      have hw11 : WellAt H11 a (t * 13000200 + 13000100) := hw8.keep fun o e => s8B _ _ e
      have M11 := M8.keep (Sm.of_same (W := [a]) s8B).same
      obtain ⟨vb, us, hbw⟩ := M11.at va.main
      obtain ⟨hba, hb11⟩ := wo_some.mp hbw
      have hba : b0 ≠ a := by simpa using hba
      have hbd : b0 ≠ d := by rintro rfl; rw [hd11] at hb11; cases hb11
      have s011 : Same H H11 := fun b o e => s8B _ _ (sm48 b o (by simp; exact ne_of_none e hna0) (s4 _ _ e))
      refine ⟨_, rfl, d, _, rfl, .inl ⟨kvs, .inr "main", .inl hd11, rfl, vb.symm⟩, ?_⟩
      refine ⟨_, rfl, .inl ⟨rfl, _, SqL.of hb11⟩, b0, us, rfl, rfl, hb11, ?_⟩
      -- main's body is empty now
      have hb12 : (upd H11 b0 (.lst [])) b0 = some (.lst []) := upd_same
      have of12 : ∀ y, y ≠ b0 → (upd H11 b0 (.lst [])) y = H11 y := fun y hy => upd_ne hy
      generalize upd H11 b0 (.lst []) = H12 at hb12 of12 ⊢
      have hd12 : H12 d = some (.dK kvs) := by rw [of12 d hbd.symm]; exact hd11
      have s012 : Same H H12 := fun b o e => by rw [of12 b (ne_of_none e hb00)]; exact s011 _ _ e
      have hw12 : WellAt H12 a (t * 13000200 + 13000100) := hw11.keep fun o e => by rw [of12 a hba.symm]; exact e
      have kp12 : Kp (wo [b0] (wo [a] H11)) H12 := by
        have key : ∀ y o, wo [b0] (wo [a] H11) y = some o → H12 y = some o := fun y o e => by
          rw [wo_some, wo_some] at e
          rw [of12 y (by simpa using e.1)]
          exact e.2.2
        exact ⟨fun y xs e => key _ _ e, fun y xs e => key _ _ e⟩
      have vz : Valid (setM p []) := setM_valid va (fun f => by simp [costB]) (by simp [okB]) (by simp [nCB]) (by simp [nIB]) (by simp [dB])
      refine ⟨_, rfl, d, kvs, setM p [], rfl, hd12, M11.set kp12 ⟨[], hb12, .nil⟩, vz, fun H13 s13 => ?_⟩
      refine ⟨_, rfl, ite2 (fun z => absurd z (by decide)) (fun _ => ?_)⟩
      have hb13 := s13 _ _ hb12
      have hd13 := s13 _ _ hd12
      refine ⟨_, rfl, .inl ⟨rfl, _, SqL.of hb13⟩, ?_⟩
      have ke : kvs.map (·.1) = (pNames p).map Sum.inr := by
        rw [hk4.kv.keys]
        unfold pNames
        rw [List.map_map]
        rfl
      refine ⟨_, rfl, d, kvs, pNames p, rfl, .inl hd13, ke, by unfold pNames; rw [List.length_map]; omega, fun nsr c pn hso hc => ?_⟩
      have s14 := same_upd hc (.lst (nsr.map V.str))
      have hc14 : (upd H13 c (.lst (nsr.map V.str))) c = some (.lst (nsr.map V.str)) := upd_same
      generalize upd H13 c (.lst (nsr.map V.str)) = H14 at s14 hc14 ⊢
      have hpos : 0 < p.length := by
        have := List.length_pos_of_mem va.main
        unfold pNames at this
        rwa [List.length_map] at this
      have hw14 : WellAt H14 a (t * 13000200 + 13000100) := hw12.keep fun o e => s14 _ _ (s13 _ _ e)
      refine ⟨_, rfl, _, rfl, d, kvs, rfl, .inl (s14 _ _ hd13), a, ((kvs.length : Nat) : Int), t * 13000200 + 13000100, rfl, by omega, by omega, hw14, by omega, fun r0 H15 r0a r0b sm15 hw15 => ?_⟩
      have hca : c ≠ a := by
        rintro rfl
        obtain ⟨x, y, z, e, _⟩ := hw14
        rw [hc14] at e
        exact strs_ne (HO.lst.inj (Option.some.inj e))
      have nl : nsr.length = p.length := by have := pn.length_eq; unfold pNames at this; rw [List.length_map] at this; exact this
      obtain ⟨x, hx⟩ : ∃ x, nsr[r0.toNat]? = some x := ⟨_, List.getElem?_eq_getElem (by omega)⟩
      have hxn : x ∈ pNames p := pn.mem_iff.mp (List.mem_of_getElem? hx)
      have hix : atI (nsr.map V.str) r0 = some (.str x) := by
        have := atI_nat (xs := nsr.map V.str) (j := r0.toNat) (v := .str x) (by rw [List.getElem?_map, hx]; rfl)
        rw [Int.toNat_of_nonneg r0a] at this
        exact this
      refine ⟨c, _, r0, .str x, rfl, rfl, SqL.of (sm15 _ _ (by simp [hca]) hc14), hix, Nat.le_of_lt (small1000 (by simp)), fun lb hlb => ?_⟩
      refine ⟨Nat.le_of_lt (small1000 (by simp)), fun tb htb => ?_⟩
      have hb15 : H15 b0 = some (.lst []) := sm15 _ _ (by simp [hba]) (s14 _ _ hb13)
      have s16 := same_upd hlb (.lst [V.str x])
      have s17 := same_upd htb (.tup [V.str "maybe", V.ref lb])
      have hl17 : (upd (upd H15 lb (.lst [V.str x])) tb (.tup [V.str "maybe", V.ref lb])) lb = some (.lst [V.str x]) := s17 _ _ upd_same
      have ht17 : (upd (upd H15 lb (.lst [V.str x])) tb (.tup [V.str "maybe", V.ref lb])) tb = some (.tup [V.str "maybe", V.ref lb]) := upd_same
      have s1517 := s16.trans s17
      generalize upd (upd H15 lb (.lst [V.str x])) tb (.tup [V.str "maybe", V.ref lb]) = H17 at hl17 ht17 s1517 ⊢
      clear s16 s17
      have hb17 := s1517 _ _ hb15
      have hlb0 : lb ≠ b0 := (ne_of_none hb15 hlb).symm
      have htb0 : tb ≠ b0 := by rintro rfl; rw [hb17] at ht17; cases ht17
      refine ⟨b0, _, .ref tb, rfl, rfl, hb17, small1000 (by simp), ?_⟩
      have hb18 : (upd H17 b0 (.lst ([] ++ [V.ref tb]))) b0 = some (.lst [V.ref tb]) := upd_same
      have of18 : ∀ y, y ≠ b0 → (upd H17 b0 (.lst ([] ++ [V.ref tb]))) y = H17 y := fun y hy => upd_ne hy
      generalize upd H17 b0 (.lst ([] ++ [V.ref tb])) = H18 at hb18 of18 ⊢
      have up : ∀ y o, y ≠ b0 → y ≠ a → H12 y = some o → H18 y = some o := fun y o h1 h2 e => by
        rw [of18 y h1]
        exact s1517 _ _ (sm15 _ _ (by simp [h2]) (s14 _ _ (s13 _ _ e)))
      have hd18 := up d _ hbd.symm hda hd12
      have s018 : Same H H18 := fun b o e => up b o (ne_of_none e hb00) (ne_of_none e hna0) (s012 _ _ e)
      have hw18 : WellAt H18 a (t * 13000200 + 13000101) := hw15.keep fun o e => by rw [of18 a hba.symm]; exact s1517 _ _ e
      have kp18 : Kp (wo [b0] (wo [a] H11)) H18 := by
        have key : ∀ y o, wo [b0] (wo [a] H11) y = some o → H18 y = some o := fun y o e => by
          rw [wo_some, wo_some] at e
          have n1 : y ≠ b0 := by simpa using e.1
          have n2 : y ≠ a := by simpa using e.2.1
          exact up y o n1 n2 (by rw [of12 y n1]; exact e.2.2)
        exact ⟨fun y xs e => key _ _ e, fun y xs e => key _ _ e⟩
      have vm : Valid (setM p [.may [.call x]]) := setM_valid va (fun f => by simp [costB, cost]) (by simp [okB, okI, hxn]) (by simp [nCB, nC]) (by simp [nIB, nI]) (by simp [dB, dI])
      refine ⟨_, rfl, d, kvs, setM p [.may [.call x]], rfl, hd18, M11.set kp18 ⟨[.ref tb], hb18, .cons (.may (by rw [of18 tb htb0]; exact ht17) (by rw [of18 lb hlb0]; exact hl17) (.cons (.call x) .nil)) .nil⟩, vm, fun H19 s19 => ?_⟩
      refine ⟨_, rfl, ite2 (fun z => absurd z (by decide)) (fun _ => ?_)⟩
      exact ⟨_, _, _, _, rfl, s018.trans s19, (hw18.keep fun o e => s19 _ _ e).mono (by omega)⟩
    · rintro σ H3 ⟨v2, v5, v6, v7, rfl, s3, hw3⟩
      exact ⟨_, _, _, _, _, _, rfl, s3⟩
  · rintro σ H1 ⟨v1, v2, v4, v5, v6, v7, rfl, s1⟩
    exact ru3 _ _ _ ⟨rfl, _, _, _, _, _, _, _, _, rfl⟩
end K02


set_option Elab.async false
set_option linter.all false
set_option maxRecDepth 100000
set_option maxHeartbeats 4000000
namespace K02
open PySem PySem.Spec PyProof.Rows L2 FA LiI
theorem all_mk {P : Program} {w : World} {K : PySem.W.Frag} {h : Heap} {mg : Str → Option Value} {fa : Addr} (X : K.In h) (G : h.Ns mainGlobals mg) (hfa : mg "law" = some (.ref fa))
    {fBodiesWithin : Addr} {odBodiesWithin anBodiesWithin : Option Addr} {slBodiesWithin : Array (Option Value)} {ocBodiesWithin kVBodiesWithin dcBodiesWithin pmBodiesWithin cdBodiesWithin ctBodiesWithin : Value}
    {fNamesIn : Addr} {odNamesIn anNamesIn : Option Addr} {slNamesIn : Array (Option Value)} {ocNamesIn kVNamesIn dcNamesIn pmNamesIn cdNamesIn ctNamesIn : Value}
    {fIsName : Addr} {odIsName anIsName : Option Addr} {slIsName : Array (Option Value)} {ocIsName kVIsName dcIsName pmIsName cdIsName ctIsName : Value}
    {fIsFunction : Addr} {odIsFunction anIsFunction : Option Addr} {slIsFunction : Array (Option Value)} {ocIsFunction kVIsFunction dcIsFunction pmIsFunction cdIsFunction ctIsFunction : Value}
    {fChoices : Addr} {odChoices anChoices : Option Addr} {slChoices : Array (Option Value)} {ocChoices kVChoices dcChoices pmChoices cdChoices ctChoices : Value}
    {fItemSize : Addr} {odItemSize anItemSize : Option Addr} {slItemSize : Array (Option Value)} {ocItemSize kVItemSize dcItemSize pmItemSize cdItemSize ctItemSize : Value}
    {fBodySize : Addr} {odBodySize anBodySize : Option Addr} {slBodySize : Array (Option Value)} {ocBodySize kVBodySize dcBodySize pmBodySize cdBodySize ctBodySize : Value}
    {fLeastInItem : Addr} {odLeastInItem anLeastInItem : Option Addr} {slLeastInItem : Array (Option Value)} {ocLeastInItem kVLeastInItem dcLeastInItem pmLeastInItem cdLeastInItem ctLeastInItem : Value}
    {fLeastInBody : Addr} {odLeastInBody anLeastInBody : Option Addr} {slLeastInBody : Array (Option Value)} {ocLeastInBody kVLeastInBody dcLeastInBody pmLeastInBody cdLeastInBody ctLeastInBody : Value}
    {fLeastCalls : Addr} {odLeastCalls anLeastCalls : Option Addr} {slLeastCalls : Array (Option Value)} {ocLeastCalls kVLeastCalls dcLeastCalls pmLeastCalls cdLeastCalls ctLeastCalls : Value}
    {fIsProgram : Addr} {odIsProgram anIsProgram : Option Addr} {slIsProgram : Array (Option Value)} {ocIsProgram kVIsProgram dcIsProgram pmIsProgram cdIsProgram ctIsProgram : Value}
    {fCheckProgram : Addr} {odCheckProgram anCheckProgram : Option Addr} {slCheckProgram : Array (Option Value)} {ocCheckProgram kVCheckProgram dcCheckProgram pmCheckProgram cdCheckProgram ctCheckProgram : Value}
    {fCheckName : Addr} {odCheckName anCheckName : Option Addr} {slCheckName : Array (Option Value)} {ocCheckName kVCheckName dcCheckName pmCheckName cdCheckName ctCheckName : Value}
    {fCallees : Addr} {odCallees anCallees : Option Addr} {slCallees : Array (Option Value)} {ocCallees kVCallees dcCallees pmCallees cdCallees ctCallees : Value}
    {fReached : Addr} {odReached anReached : Option Addr} {slReached : Array (Option Value)} {ocReached kVReached dcReached pmReached cdReached ctReached : Value}
    {fLWell : Addr} {odLWell anLWell : Option Addr} {slLWell : Array (Option Value)} {ocLWell kVLWell dcLWell pmLWell cdLWell ctLWell : Value}
    {fLPull : Addr} {odLPull anLPull : Option Addr} {slLPull : Array (Option Value)} {ocLPull kVLPull dcLPull pmLPull cdLPull ctLPull : Value}
    {fLShuffled : Addr} {odLShuffled anLShuffled : Option Addr} {slLShuffled : Array (Option Value)} {ocLShuffled kVLShuffled dcLShuffled pmLShuffled cdLShuffled ctLShuffled : Value}
    {fLItem : Addr} {odLItem anLItem : Option Addr} {slLItem : Array (Option Value)} {ocLItem kVLItem dcLItem pmLItem cdLItem ctLItem : Value}
    {fLBody : Addr} {odLBody anLBody : Option Addr} {slLBody : Array (Option Value)} {ocLBody kVLBody dcLBody pmLBody cdLBody ctLBody : Value}
    {fLCost : Addr} {odLCost anLCost : Option Addr} {slLCost : Array (Option Value)} {ocLCost kVLCost dcLCost pmLCost cdLCost ctLCost : Value}
    {fLProgram : Addr} {odLProgram anLProgram : Option Addr} {slLProgram : Array (Option Value)} {ocLProgram kVLProgram dcLProgram pmLProgram cdLProgram ctLProgram : Value}
    {fLNames : Addr} {odLNames anLNames : Option Addr} {slLNames : Array (Option Value)} {ocLNames kVLNames dcLNames pmLNames cdLNames ctLNames : Value}
    {fLLed : Addr} {odLLed anLLed : Option Addr} {slLLed : Array (Option Value)} {ocLLed kVLLed dcLLed pmLLed cdLLed ctLLed : Value}
    {fLRight : Addr} {odLRight anLRight : Option Addr} {slLRight : Array (Option Value)} {ocLRight kVLRight dcLRight pmLRight cdLRight ctLRight : Value}
    {fLaw : Addr} {odLaw anLaw : Option Addr} {slLaw : Array (Option Value)} {ocLaw kVLaw dcLaw pmLaw cdLaw ctLaw : Value}
    {tFEWEST_CHOICES : Tok}
    {tMOST_CALLS : Tok}
    {tMOST_CALLS_TO_RETURN : Tok}
    {tMOST_CHOICES : Tok}
    {tMOST_FUNCTIONS : Tok}
    {tMOST_ITEMS : Tok}
    {tMOST_LETTERS : Tok}
    {tMOST_LEVELS : Tok}
    (aBodiesWithin : PySem.W.nsIn K mainGlobals "bodies_within" = some (some (.ref fBodiesWithin)))
    (lBodiesWithin : K.lookup fBodiesWithin = some ⟨ocBodiesWithin, odBodiesWithin, .func (PySem.W.fnOf "bodies_within" "bodies_within" (defArgs sBodiesWithin) (defBody sBodiesWithin) (defScope sBodiesWithin) .none kVBodiesWithin dcBodiesWithin pmBodiesWithin anBodiesWithin cdBodiesWithin ctBodiesWithin), slBodiesWithin⟩)
    (cBodiesWithin : PySem.W.codeIn K cdBodiesWithin "bodies_within" = true) (kBodiesWithin : PySem.W.keepIn K (.ref fBodiesWithin) = true)
    (aNamesIn : PySem.W.nsIn K mainGlobals "names_in" = some (some (.ref fNamesIn)))
    (lNamesIn : K.lookup fNamesIn = some ⟨ocNamesIn, odNamesIn, .func (PySem.W.fnOf "names_in" "names_in" (defArgs sNamesIn) (defBody sNamesIn) (defScope sNamesIn) .none kVNamesIn dcNamesIn pmNamesIn anNamesIn cdNamesIn ctNamesIn), slNamesIn⟩)
    (cNamesIn : PySem.W.codeIn K cdNamesIn "names_in" = true) (kNamesIn : PySem.W.keepIn K (.ref fNamesIn) = true)
    (aIsName : PySem.W.nsIn K mainGlobals "is_name" = some (some (.ref fIsName)))
    (lIsName : K.lookup fIsName = some ⟨ocIsName, odIsName, .func (PySem.W.fnOf "is_name" "is_name" (defArgs sIsName) (defBody sIsName) (defScope sIsName) .none kVIsName dcIsName pmIsName anIsName cdIsName ctIsName), slIsName⟩)
    (cIsName : PySem.W.codeIn K cdIsName "is_name" = true) (kIsName : PySem.W.keepIn K (.ref fIsName) = true)
    (aIsFunction : PySem.W.nsIn K mainGlobals "is_function" = some (some (.ref fIsFunction)))
    (lIsFunction : K.lookup fIsFunction = some ⟨ocIsFunction, odIsFunction, .func (PySem.W.fnOf "is_function" "is_function" (defArgs sIsFunction) (defBody sIsFunction) (defScope sIsFunction) .none kVIsFunction dcIsFunction pmIsFunction anIsFunction cdIsFunction ctIsFunction), slIsFunction⟩)
    (cIsFunction : PySem.W.codeIn K cdIsFunction "is_function" = true) (kIsFunction : PySem.W.keepIn K (.ref fIsFunction) = true)
    (aChoices : PySem.W.nsIn K mainGlobals "_choices" = some (some (.ref fChoices)))
    (lChoices : K.lookup fChoices = some ⟨ocChoices, odChoices, .func (PySem.W.fnOf "_choices" "_choices" (defArgs sChoices) (defBody sChoices) (defScope sChoices) .none kVChoices dcChoices pmChoices anChoices cdChoices ctChoices), slChoices⟩)
    (cChoices : PySem.W.codeIn K cdChoices "_choices" = true) (kChoices : PySem.W.keepIn K (.ref fChoices) = true)
    (aItemSize : PySem.W.nsIn K mainGlobals "_item_size" = some (some (.ref fItemSize)))
    (lItemSize : K.lookup fItemSize = some ⟨ocItemSize, odItemSize, .func (PySem.W.fnOf "_item_size" "_item_size" (defArgs sItemSize) (defBody sItemSize) (defScope sItemSize) .none kVItemSize dcItemSize pmItemSize anItemSize cdItemSize ctItemSize), slItemSize⟩)
    (cItemSize : PySem.W.codeIn K cdItemSize "_item_size" = true) (kItemSize : PySem.W.keepIn K (.ref fItemSize) = true)
    (aBodySize : PySem.W.nsIn K mainGlobals "_body_size" = some (some (.ref fBodySize)))
    (lBodySize : K.lookup fBodySize = some ⟨ocBodySize, odBodySize, .func (PySem.W.fnOf "_body_size" "_body_size" (defArgs sBodySize) (defBody sBodySize) (defScope sBodySize) .none kVBodySize dcBodySize pmBodySize anBodySize cdBodySize ctBodySize), slBodySize⟩)
    (cBodySize : PySem.W.codeIn K cdBodySize "_body_size" = true) (kBodySize : PySem.W.keepIn K (.ref fBodySize) = true)
    (aLeastInItem : PySem.W.nsIn K mainGlobals "_least_in_item" = some (some (.ref fLeastInItem)))
    (lLeastInItem : K.lookup fLeastInItem = some ⟨ocLeastInItem, odLeastInItem, .func (PySem.W.fnOf "_least_in_item" "_least_in_item" (defArgs sLeastInItem) (defBody sLeastInItem) (defScope sLeastInItem) .none kVLeastInItem dcLeastInItem pmLeastInItem anLeastInItem cdLeastInItem ctLeastInItem), slLeastInItem⟩)
    (cLeastInItem : PySem.W.codeIn K cdLeastInItem "_least_in_item" = true) (kLeastInItem : PySem.W.keepIn K (.ref fLeastInItem) = true)
    (aLeastInBody : PySem.W.nsIn K mainGlobals "_least_in_body" = some (some (.ref fLeastInBody)))
    (lLeastInBody : K.lookup fLeastInBody = some ⟨ocLeastInBody, odLeastInBody, .func (PySem.W.fnOf "_least_in_body" "_least_in_body" (defArgs sLeastInBody) (defBody sLeastInBody) (defScope sLeastInBody) .none kVLeastInBody dcLeastInBody pmLeastInBody anLeastInBody cdLeastInBody ctLeastInBody), slLeastInBody⟩)
    (cLeastInBody : PySem.W.codeIn K cdLeastInBody "_least_in_body" = true) (kLeastInBody : PySem.W.keepIn K (.ref fLeastInBody) = true)
    (aLeastCalls : PySem.W.nsIn K mainGlobals "_least_calls" = some (some (.ref fLeastCalls)))
    (lLeastCalls : K.lookup fLeastCalls = some ⟨ocLeastCalls, odLeastCalls, .func (PySem.W.fnOf "_least_calls" "_least_calls" (defArgs sLeastCalls) (defBody sLeastCalls) (defScope sLeastCalls) .none kVLeastCalls dcLeastCalls pmLeastCalls anLeastCalls cdLeastCalls ctLeastCalls), slLeastCalls⟩)
    (cLeastCalls : PySem.W.codeIn K cdLeastCalls "_least_calls" = true) (kLeastCalls : PySem.W.keepIn K (.ref fLeastCalls) = true)
    (aIsProgram : PySem.W.nsIn K mainGlobals "is_program" = some (some (.ref fIsProgram)))
    (lIsProgram : K.lookup fIsProgram = some ⟨ocIsProgram, odIsProgram, .func (PySem.W.fnOf "is_program" "is_program" (defArgs sIsProgram) (defBody sIsProgram) (defScope sIsProgram) .none kVIsProgram dcIsProgram pmIsProgram anIsProgram cdIsProgram ctIsProgram), slIsProgram⟩)
    (cIsProgram : PySem.W.codeIn K cdIsProgram "is_program" = true) (kIsProgram : PySem.W.keepIn K (.ref fIsProgram) = true)
    (aCheckProgram : PySem.W.nsIn K mainGlobals "check_program" = some (some (.ref fCheckProgram)))
    (lCheckProgram : K.lookup fCheckProgram = some ⟨ocCheckProgram, odCheckProgram, .func (PySem.W.fnOf "check_program" "check_program" (defArgs sCheckProgram) (defBody sCheckProgram) (defScope sCheckProgram) .none kVCheckProgram dcCheckProgram pmCheckProgram anCheckProgram cdCheckProgram ctCheckProgram), slCheckProgram⟩)
    (cCheckProgram : PySem.W.codeIn K cdCheckProgram "check_program" = true) (kCheckProgram : PySem.W.keepIn K (.ref fCheckProgram) = true)
    (aCheckName : PySem.W.nsIn K mainGlobals "check_name" = some (some (.ref fCheckName)))
    (lCheckName : K.lookup fCheckName = some ⟨ocCheckName, odCheckName, .func (PySem.W.fnOf "check_name" "check_name" (defArgs sCheckName) (defBody sCheckName) (defScope sCheckName) .none kVCheckName dcCheckName pmCheckName anCheckName cdCheckName ctCheckName), slCheckName⟩)
    (cCheckName : PySem.W.codeIn K cdCheckName "check_name" = true) (kCheckName : PySem.W.keepIn K (.ref fCheckName) = true)
    (aCallees : PySem.W.nsIn K mainGlobals "callees" = some (some (.ref fCallees)))
    (lCallees : K.lookup fCallees = some ⟨ocCallees, odCallees, .func (PySem.W.fnOf "callees" "callees" (defArgs sCallees) (defBody sCallees) (defScope sCallees) .none kVCallees dcCallees pmCallees anCallees cdCallees ctCallees), slCallees⟩)
    (cCallees : PySem.W.codeIn K cdCallees "callees" = true) (kCallees : PySem.W.keepIn K (.ref fCallees) = true)
    (aReached : PySem.W.nsIn K mainGlobals "reached" = some (some (.ref fReached)))
    (lReached : K.lookup fReached = some ⟨ocReached, odReached, .func (PySem.W.fnOf "reached" "reached" (defArgs sReached) (defBody sReached) (defScope sReached) .none kVReached dcReached pmReached anReached cdReached ctReached), slReached⟩)
    (cReached : PySem.W.codeIn K cdReached "reached" = true) (kReached : PySem.W.keepIn K (.ref fReached) = true)
    (aLWell : PySem.W.nsIn K mainGlobals "_law_well" = some (some (.ref fLWell)))
    (lLWell : K.lookup fLWell = some ⟨ocLWell, odLWell, .func (PySem.W.fnOf "_law_well" "_law_well" (defArgs sLWell) (defBody sLWell) (defScope sLWell) .none kVLWell dcLWell pmLWell anLWell cdLWell ctLWell), slLWell⟩)
    (cLWell : PySem.W.codeIn K cdLWell "_law_well" = true) (kLWell : PySem.W.keepIn K (.ref fLWell) = true)
    (aLPull : PySem.W.nsIn K mainGlobals "_law_pull" = some (some (.ref fLPull)))
    (lLPull : K.lookup fLPull = some ⟨ocLPull, odLPull, .func (PySem.W.fnOf "_law_pull" "_law_pull" (defArgs sLPull) (defBody sLPull) (defScope sLPull) .none kVLPull dcLPull pmLPull anLPull cdLPull ctLPull), slLPull⟩)
    (cLPull : PySem.W.codeIn K cdLPull "_law_pull" = true) (kLPull : PySem.W.keepIn K (.ref fLPull) = true)
    (aLShuffled : PySem.W.nsIn K mainGlobals "_law_shuffled" = some (some (.ref fLShuffled)))
    (lLShuffled : K.lookup fLShuffled = some ⟨ocLShuffled, odLShuffled, .func (PySem.W.fnOf "_law_shuffled" "_law_shuffled" (defArgs sLShuffled) (defBody sLShuffled) (defScope sLShuffled) .none kVLShuffled dcLShuffled pmLShuffled anLShuffled cdLShuffled ctLShuffled), slLShuffled⟩)
    (cLShuffled : PySem.W.codeIn K cdLShuffled "_law_shuffled" = true) (kLShuffled : PySem.W.keepIn K (.ref fLShuffled) = true)
    (aLItem : PySem.W.nsIn K mainGlobals "_law_item" = some (some (.ref fLItem)))
    (lLItem : K.lookup fLItem = some ⟨ocLItem, odLItem, .func (PySem.W.fnOf "_law_item" "_law_item" (defArgs sLItem) (defBody sLItem) (defScope sLItem) .none kVLItem dcLItem pmLItem anLItem cdLItem ctLItem), slLItem⟩)
    (cLItem : PySem.W.codeIn K cdLItem "_law_item" = true) (kLItem : PySem.W.keepIn K (.ref fLItem) = true)
    (aLBody : PySem.W.nsIn K mainGlobals "_law_body" = some (some (.ref fLBody)))
    (lLBody : K.lookup fLBody = some ⟨ocLBody, odLBody, .func (PySem.W.fnOf "_law_body" "_law_body" (defArgs sLBody) (defBody sLBody) (defScope sLBody) .none kVLBody dcLBody pmLBody anLBody cdLBody ctLBody), slLBody⟩)
    (cLBody : PySem.W.codeIn K cdLBody "_law_body" = true) (kLBody : PySem.W.keepIn K (.ref fLBody) = true)
    (aLCost : PySem.W.nsIn K mainGlobals "_law_cost" = some (some (.ref fLCost)))
    (lLCost : K.lookup fLCost = some ⟨ocLCost, odLCost, .func (PySem.W.fnOf "_law_cost" "_law_cost" (defArgs sLCost) (defBody sLCost) (defScope sLCost) .none kVLCost dcLCost pmLCost anLCost cdLCost ctLCost), slLCost⟩)
    (cLCost : PySem.W.codeIn K cdLCost "_law_cost" = true) (kLCost : PySem.W.keepIn K (.ref fLCost) = true)
    (aLProgram : PySem.W.nsIn K mainGlobals "_law_program" = some (some (.ref fLProgram)))
    (lLProgram : K.lookup fLProgram = some ⟨ocLProgram, odLProgram, .func (PySem.W.fnOf "_law_program" "_law_program" (defArgs sLProgram) (defBody sLProgram) (defScope sLProgram) .none kVLProgram dcLProgram pmLProgram anLProgram cdLProgram ctLProgram), slLProgram⟩)
    (cLProgram : PySem.W.codeIn K cdLProgram "_law_program" = true) (kLProgram : PySem.W.keepIn K (.ref fLProgram) = true)
    (aLNames : PySem.W.nsIn K mainGlobals "_law_names" = some (some (.ref fLNames)))
    (lLNames : K.lookup fLNames = some ⟨ocLNames, odLNames, .func (PySem.W.fnOf "_law_names" "_law_names" (defArgs sLNames) (defBody sLNames) (defScope sLNames) .none kVLNames dcLNames pmLNames anLNames cdLNames ctLNames), slLNames⟩)
    (cLNames : PySem.W.codeIn K cdLNames "_law_names" = true) (kLNames : PySem.W.keepIn K (.ref fLNames) = true)
    (aLLed : PySem.W.nsIn K mainGlobals "_law_led" = some (some (.ref fLLed)))
    (lLLed : K.lookup fLLed = some ⟨ocLLed, odLLed, .func (PySem.W.fnOf "_law_led" "_law_led" (defArgs sLLed) (defBody sLLed) (defScope sLLed) .none kVLLed dcLLed pmLLed anLLed cdLLed ctLLed), slLLed⟩)
    (cLLed : PySem.W.codeIn K cdLLed "_law_led" = true) (kLLed : PySem.W.keepIn K (.ref fLLed) = true)
    (aLRight : PySem.W.nsIn K mainGlobals "_law_right" = some (some (.ref fLRight)))
    (lLRight : K.lookup fLRight = some ⟨ocLRight, odLRight, .func (PySem.W.fnOf "_law_right" "_law_right" (defArgs sLRight) (defBody sLRight) (defScope sLRight) .none kVLRight dcLRight pmLRight anLRight cdLRight ctLRight), slLRight⟩)
    (cLRight : PySem.W.codeIn K cdLRight "_law_right" = true) (kLRight : PySem.W.keepIn K (.ref fLRight) = true)
    (aLaw : PySem.W.nsIn K mainGlobals "law" = some (some (.ref fLaw)))
    (lLaw : K.lookup fLaw = some ⟨ocLaw, odLaw, .func (PySem.W.fnOf "law" "law" (defArgs sLaw) (defBody sLaw) (defScope sLaw) .none kVLaw dcLaw pmLaw anLaw cdLaw ctLaw), slLaw⟩)
    (cLaw : PySem.W.codeIn K cdLaw "law" = true) (kLaw : PySem.W.keepIn K (.ref fLaw) = true)
    (z_all : PySem.W.nsIn K mainGlobals "all" = some none)
    (z_dict : PySem.W.nsIn K mainGlobals "dict" = some none)
    (z_int : PySem.W.nsIn K mainGlobals "int" = some none)
    (z_isinstance : PySem.W.nsIn K mainGlobals "isinstance" = some none)
    (z_len : PySem.W.nsIn K mainGlobals "len" = some none)
    (z_list : PySem.W.nsIn K mainGlobals "list" = some none)
    (z_max : PySem.W.nsIn K mainGlobals "max" = some none)
    (z_min : PySem.W.nsIn K mainGlobals "min" = some none)
    (z_range : PySem.W.nsIn K mainGlobals "range" = some none)
    (z_repr : PySem.W.nsIn K mainGlobals "repr" = some none)
    (z_set : PySem.W.nsIn K mainGlobals "set" = some none)
    (z_sorted : PySem.W.nsIn K mainGlobals "sorted" = some none)
    (z_str : PySem.W.nsIn K mainGlobals "str" = some none)
    (z_sum : PySem.W.nsIn K mainGlobals "sum" = some none)
    (z_tuple : PySem.W.nsIn K mainGlobals "tuple" = some none)
    (q_FEWEST_CHOICES : PySem.W.nsIn K mainGlobals "FEWEST_CHOICES" = some (some (.int 2 tFEWEST_CHOICES)))
    (q_MOST_CALLS : PySem.W.nsIn K mainGlobals "MOST_CALLS" = some (some (.int 5 tMOST_CALLS)))
    (q_MOST_CALLS_TO_RETURN : PySem.W.nsIn K mainGlobals "MOST_CALLS_TO_RETURN" = some (some (.int 12 tMOST_CALLS_TO_RETURN)))
    (q_MOST_CHOICES : PySem.W.nsIn K mainGlobals "MOST_CHOICES" = some (some (.int 4 tMOST_CHOICES)))
    (q_MOST_FUNCTIONS : PySem.W.nsIn K mainGlobals "MOST_FUNCTIONS" = some (some (.int 6 tMOST_FUNCTIONS)))
    (q_MOST_ITEMS : PySem.W.nsIn K mainGlobals "MOST_ITEMS" = some (some (.int 12 tMOST_ITEMS)))
    (q_MOST_LETTERS : PySem.W.nsIn K mainGlobals "MOST_LETTERS" = some (some (.int 8 tMOST_LETTERS)))
    (q_MOST_LEVELS : PySem.W.nsIn K mainGlobals "MOST_LEVELS" = some (some (.int 4 tMOST_LEVELS))) :
    ∃ fd : FuncData, (∀ (s : Shared) (v : Value), BindsTo s fd ⟨[v], []⟩ [("script", v)]) ∧ ∀ base : Heap, FA.SysB base → K.In base → base.Ns mainGlobals mg → FnG P w K mg base 17 fa fd ["script"] (spLaw (K := K)) := by
  have e := hfa.symm.trans (PySem.W.mg_of X G aLaw)
  cases e
  have FBodiesWithin := fun_mk (st := sBodiesWithin) lBodiesWithin cBodiesWithin kBodiesWithin
  have bBodiesWithin := FBodiesWithin.binds (ps := ["item"]) fun _ _ _ _ _ _ us hl => match us, hl with | [_], _ => rfl
  have FNamesIn := fun_mk (st := sNamesIn) lNamesIn cNamesIn kNamesIn
  have bNamesIn := FNamesIn.binds (ps := ["body"]) fun _ _ _ _ _ _ us hl => match us, hl with | [_], _ => rfl
  have FIsName := fun_mk (st := sIsName) lIsName cIsName kIsName
  have bIsName := FIsName.binds (ps := ["value"]) fun _ _ _ _ _ _ us hl => match us, hl with | [_], _ => rfl
  have FIsFunction := fun_mk (st := sIsFunction) lIsFunction cIsFunction kIsFunction
  have bIsFunction := FIsFunction.binds (ps := ["program", "value"]) fun _ _ _ _ _ _ us hl => match us, hl with | [_, _], _ => rfl
  have FChoices := fun_mk (st := sChoices) lChoices cChoices kChoices
  have bChoices := FChoices.binds (ps := ["item"]) fun _ _ _ _ _ _ us hl => match us, hl with | [_], _ => rfl
  have FItemSize := fun_mk (st := sItemSize) lItemSize cItemSize kItemSize
  have bItemSize := FItemSize.binds (ps := ["program", "item", "level"]) fun _ _ _ _ _ _ us hl => match us, hl with | [_, _, _], _ => rfl
  have FBodySize := fun_mk (st := sBodySize) lBodySize cBodySize kBodySize
  have bBodySize := FBodySize.binds (ps := ["program", "body", "level"]) fun _ _ _ _ _ _ us hl => match us, hl with | [_, _, _], _ => rfl
  have FLeastInItem := fun_mk (st := sLeastInItem) lLeastInItem cLeastInItem kLeastInItem
  have bLeastInItem := FLeastInItem.binds (ps := ["least", "item"]) fun _ _ _ _ _ _ us hl => match us, hl with | [_, _], _ => rfl
  have FLeastInBody := fun_mk (st := sLeastInBody) lLeastInBody cLeastInBody kLeastInBody
  have bLeastInBody := FLeastInBody.binds (ps := ["least", "body"]) fun _ _ _ _ _ _ us hl => match us, hl with | [_, _], _ => rfl
  have FLeastCalls := fun_mk (st := sLeastCalls) lLeastCalls cLeastCalls kLeastCalls
  have bLeastCalls := FLeastCalls.binds (ps := ["program"]) fun _ _ _ _ _ _ us hl => match us, hl with | [_], _ => rfl
  have FIsProgram := fun_mk (st := sIsProgram) lIsProgram cIsProgram kIsProgram
  have bIsProgram := FIsProgram.binds (ps := ["value"]) fun _ _ _ _ _ _ us hl => match us, hl with | [_], _ => rfl
  have FCheckProgram := fun_mk (st := sCheckProgram) lCheckProgram cCheckProgram kCheckProgram
  have bCheckProgram := FCheckProgram.binds (ps := ["program"]) fun _ _ _ _ _ _ us hl => match us, hl with | [_], _ => rfl
  have FCheckName := fun_mk (st := sCheckName) lCheckName cCheckName kCheckName
  have bCheckName := FCheckName.binds (ps := ["program", "name"]) fun _ _ _ _ _ _ us hl => match us, hl with | [_, _], _ => rfl
  have FCallees := fun_mk (st := sCallees) lCallees cCallees kCallees
  have bCallees := FCallees.binds (ps := ["program", "name"]) fun _ _ _ _ _ _ us hl => match us, hl with | [_, _], _ => rfl
  have FReached := fun_mk (st := sReached) lReached cReached kReached
  have bReached := FReached.binds (ps := ["program"]) fun _ _ _ _ _ _ us hl => match us, hl with | [_], _ => rfl
  have FLWell := fun_mk (st := sLWell) lLWell cLWell kLWell
  have bLWell := FLWell.binds (ps := ["script", "k"]) fun _ _ _ _ _ _ us hl => match us, hl with | [_, _], _ => rfl
  have FLPull := fun_mk (st := sLPull) lLPull cLPull kLPull
  have bLPull := FLPull.binds (ps := ["well", "many"]) fun _ _ _ _ _ _ us hl => match us, hl with | [_, _], _ => rfl
  have FLShuffled := fun_mk (st := sLShuffled) lLShuffled cLShuffled kLShuffled
  have bLShuffled := FLShuffled.binds (ps := ["well", "items"]) fun _ _ _ _ _ _ us hl => match us, hl with | [_, _], _ => rfl
  have FLItem := fun_mk (st := sLItem) lLItem cLItem kLItem
  have bLItem := FLItem.binds (ps := ["well", "later", "every", "room", "deep"]) fun _ _ _ _ _ _ us hl => match us, hl with | [_, _, _, _, _], _ => rfl
  have FLBody := fun_mk (st := sLBody) lLBody cLBody kLBody
  have bLBody := FLBody.binds (ps := ["well", "later", "every", "room", "deep"]) fun _ _ _ _ _ _ us hl => match us, hl with | [_, _, _, _, _], _ => rfl
  have FLCost := fun_mk (st := sLCost) lLCost cLCost kLCost
  have bLCost := FLCost.binds (ps := ["body", "least"]) fun _ _ _ _ _ _ us hl => match us, hl with | [_, _], _ => rfl
  have FLProgram := fun_mk (st := sLProgram) lLProgram cLProgram kLProgram
  have bLProgram := FLProgram.binds (ps := ["well", "most"]) fun _ _ _ _ _ _ us hl => match us, hl with | [_, _], _ => rfl
  have FLNames := fun_mk (st := sLNames) lLNames cLNames kLNames
  have bLNames := FLNames.binds (ps := ["body"]) fun _ _ _ _ _ _ us hl => match us, hl with | [_], _ => rfl
  have FLLed := fun_mk (st := sLLed) lLLed cLLed kLLed
  have bLLed := FLLed.binds (ps := ["program"]) fun _ _ _ _ _ _ us hl => match us, hl with | [_], _ => rfl
  have FLRight := fun_mk (st := sLRight) lLRight cLRight kLRight
  have bLRight := FLRight.binds (ps := ["program"]) fun _ _ _ _ _ _ us hl => match us, hl with | [_], _ => rfl
  have FLaw := fun_mk (st := sLaw) lLaw cLaw kLaw
  have bLaw := FLaw.binds (ps := ["script"]) fun _ _ _ _ _ _ us hl => match us, hl with | [_], _ => rfl
  let T : Txt K mg := {
    aBodiesWithin := _, fBodiesWithin := _, FBodiesWithin := FBodiesWithin, bBodiesWithin := bBodiesWithin, gBodiesWithin := PySem.W.mg_of X G aBodiesWithin,
    aNamesIn := _, fNamesIn := _, FNamesIn := FNamesIn, bNamesIn := bNamesIn, gNamesIn := PySem.W.mg_of X G aNamesIn,
    aIsName := _, fIsName := _, FIsName := FIsName, bIsName := bIsName, gIsName := PySem.W.mg_of X G aIsName,
    aIsFunction := _, fIsFunction := _, FIsFunction := FIsFunction, bIsFunction := bIsFunction, gIsFunction := PySem.W.mg_of X G aIsFunction,
    aChoices := _, fChoices := _, FChoices := FChoices, bChoices := bChoices, gChoices := PySem.W.mg_of X G aChoices,
    aItemSize := _, fItemSize := _, FItemSize := FItemSize, bItemSize := bItemSize, gItemSize := PySem.W.mg_of X G aItemSize,
    aBodySize := _, fBodySize := _, FBodySize := FBodySize, bBodySize := bBodySize, gBodySize := PySem.W.mg_of X G aBodySize,
    aLeastInItem := _, fLeastInItem := _, FLeastInItem := FLeastInItem, bLeastInItem := bLeastInItem, gLeastInItem := PySem.W.mg_of X G aLeastInItem,
    aLeastInBody := _, fLeastInBody := _, FLeastInBody := FLeastInBody, bLeastInBody := bLeastInBody, gLeastInBody := PySem.W.mg_of X G aLeastInBody,
    aLeastCalls := _, fLeastCalls := _, FLeastCalls := FLeastCalls, bLeastCalls := bLeastCalls, gLeastCalls := PySem.W.mg_of X G aLeastCalls,
    aIsProgram := _, fIsProgram := _, FIsProgram := FIsProgram, bIsProgram := bIsProgram, gIsProgram := PySem.W.mg_of X G aIsProgram,
    aCheckProgram := _, fCheckProgram := _, FCheckProgram := FCheckProgram, bCheckProgram := bCheckProgram, gCheckProgram := PySem.W.mg_of X G aCheckProgram,
    aCheckName := _, fCheckName := _, FCheckName := FCheckName, bCheckName := bCheckName, gCheckName := PySem.W.mg_of X G aCheckName,
    aCallees := _, fCallees := _, FCallees := FCallees, bCallees := bCallees, gCallees := PySem.W.mg_of X G aCallees,
    aReached := _, fReached := _, FReached := FReached, bReached := bReached, gReached := PySem.W.mg_of X G aReached,
    aLWell := _, fLWell := _, FLWell := FLWell, bLWell := bLWell, gLWell := PySem.W.mg_of X G aLWell,
    aLPull := _, fLPull := _, FLPull := FLPull, bLPull := bLPull, gLPull := PySem.W.mg_of X G aLPull,
    aLShuffled := _, fLShuffled := _, FLShuffled := FLShuffled, bLShuffled := bLShuffled, gLShuffled := PySem.W.mg_of X G aLShuffled,
    aLItem := _, fLItem := _, FLItem := FLItem, bLItem := bLItem, gLItem := PySem.W.mg_of X G aLItem,
    aLBody := _, fLBody := _, FLBody := FLBody, bLBody := bLBody, gLBody := PySem.W.mg_of X G aLBody,
    aLCost := _, fLCost := _, FLCost := FLCost, bLCost := bLCost, gLCost := PySem.W.mg_of X G aLCost,
    aLProgram := _, fLProgram := _, FLProgram := FLProgram, bLProgram := bLProgram, gLProgram := PySem.W.mg_of X G aLProgram,
    aLNames := _, fLNames := _, FLNames := FLNames, bLNames := bLNames, gLNames := PySem.W.mg_of X G aLNames,
    aLLed := _, fLLed := _, FLLed := FLLed, bLLed := bLLed, gLLed := PySem.W.mg_of X G aLLed,
    aLRight := _, fLRight := _, FLRight := FLRight, bLRight := bLRight, gLRight := PySem.W.mg_of X G aLRight,
    aLaw := _, fLaw := _, FLaw := FLaw, bLaw := bLaw, gLaw := PySem.W.mg_of X G aLaw,
    n_all := PySem.W.mg_none_of X G z_all,
    n_dict := PySem.W.mg_none_of X G z_dict,
    n_int := PySem.W.mg_none_of X G z_int,
    n_isinstance := PySem.W.mg_none_of X G z_isinstance,
    n_len := PySem.W.mg_none_of X G z_len,
    n_list := PySem.W.mg_none_of X G z_list,
    n_max := PySem.W.mg_none_of X G z_max,
    n_min := PySem.W.mg_none_of X G z_min,
    n_range := PySem.W.mg_none_of X G z_range,
    n_repr := PySem.W.mg_none_of X G z_repr,
    n_set := PySem.W.mg_none_of X G z_set,
    n_sorted := PySem.W.mg_none_of X G z_sorted,
    n_str := PySem.W.mg_none_of X G z_str,
    n_sum := PySem.W.mg_none_of X G z_sum,
    n_tuple := PySem.W.mg_none_of X G z_tuple,
    t_FEWEST_CHOICES := tFEWEST_CHOICES, c_FEWEST_CHOICES := PySem.W.mg_of X G q_FEWEST_CHOICES,
    t_MOST_CALLS := tMOST_CALLS, c_MOST_CALLS := PySem.W.mg_of X G q_MOST_CALLS,
    t_MOST_CALLS_TO_RETURN := tMOST_CALLS_TO_RETURN, c_MOST_CALLS_TO_RETURN := PySem.W.mg_of X G q_MOST_CALLS_TO_RETURN,
    t_MOST_CHOICES := tMOST_CHOICES, c_MOST_CHOICES := PySem.W.mg_of X G q_MOST_CHOICES,
    t_MOST_FUNCTIONS := tMOST_FUNCTIONS, c_MOST_FUNCTIONS := PySem.W.mg_of X G q_MOST_FUNCTIONS,
    t_MOST_ITEMS := tMOST_ITEMS, c_MOST_ITEMS := PySem.W.mg_of X G q_MOST_ITEMS,
    t_MOST_LETTERS := tMOST_LETTERS, c_MOST_LETTERS := PySem.W.mg_of X G q_MOST_LETTERS,
    t_MOST_LEVELS := tMOST_LEVELS, c_MOST_LEVELS := PySem.W.mg_of X G q_MOST_LEVELS }
  refine ⟨PySem.W.fnOf "law" "law" (defArgs sLaw) (defBody sLaw) (defScope sLaw) .none kVLaw dcLaw pmLaw anLaw cdLaw ctLaw, fun s v => .of_eq rfl, fun base sy _ _ => ?_⟩
  exact okLaw (P := P) (w := w) (base := base) T sy
end K02
open PySem PySem.W PyProof.Rows
set_option maxRecDepth 100000 in
set_option maxHeartbeats 0 in
theorem PySem.Challenge.cw_stacksamples_k02_callees_and_reached_fun_holds : PySem.Challenge.rw_stacksamples_k02_callees_and_reached_fun.Holds := by
  w_on; o_law; k_head; (case hw => w_witness2)
  k_fill
  refine FA.walk_ofG (l := PySem.Challenge.rw_stacksamples_k02_callees_and_reached_fun) (n := 63) (k := 17) (x := "script") (sp := fun K => K02.spLaw (K := K)) rfl (by decide) (by decide +kernel) rfl ⟨rfl, by decide, by decide⟩ (fun w h Y => PySem.W.kIn_of Y) ?F (fun _ _ a ns hl _ hS => ⟨a, ns, rfl, hS, hl, fun _ => rfl⟩)
  case F =>
    intro w mg fa h KX G hmg
    refine' K02.all_mk KX G hmg ?aBodiesWithin ?lBodiesWithin ?cBodiesWithin ?kBodiesWithin ?aNamesIn ?lNamesIn ?cNamesIn ?kNamesIn ?aIsName ?lIsName ?cIsName ?kIsName ?aIsFunction ?lIsFunction ?cIsFunction ?kIsFunction ?aChoices ?lChoices ?cChoices ?kChoices ?aItemSize ?lItemSize ?cItemSize ?kItemSize ?aBodySize ?lBodySize ?cBodySize ?kBodySize ?aLeastInItem ?lLeastInItem ?cLeastInItem ?kLeastInItem ?aLeastInBody ?lLeastInBody ?cLeastInBody ?kLeastInBody ?aLeastCalls ?lLeastCalls ?cLeastCalls ?kLeastCalls ?aIsProgram ?lIsProgram ?cIsProgram ?kIsProgram ?aCheckProgram ?lCheckProgram ?cCheckProgram ?kCheckProgram ?aCheckName ?lCheckName ?cCheckName ?kCheckName ?aCallees ?lCallees ?cCallees ?kCallees ?aReached ?lReached ?cReached ?kReached ?aLWell ?lLWell ?cLWell ?kLWell ?aLPull ?lLPull ?cLPull ?kLPull ?aLShuffled ?lLShuffled ?cLShuffled ?kLShuffled ?aLItem ?lLItem ?cLItem ?kLItem ?aLBody ?lLBody ?cLBody ?kLBody ?aLCost ?lLCost ?cLCost ?kLCost ?aLProgram ?lLProgram ?cLProgram ?kLProgram ?aLNames ?lLNames ?cLNames ?kLNames ?aLLed ?lLLed ?cLLed ?kLLed ?aLRight ?lLRight ?cLRight ?kLRight ?aLaw ?lLaw ?cLaw ?kLaw ?z_all ?z_dict ?z_int ?z_isinstance ?z_len ?z_list ?z_max ?z_min ?z_range ?z_repr ?z_set ?z_sorted ?z_str ?z_sum ?z_tuple ?q_FEWEST_CHOICES ?q_MOST_CALLS ?q_MOST_CALLS_TO_RETURN ?q_MOST_CHOICES ?q_MOST_FUNCTIONS ?q_MOST_ITEMS ?q_MOST_LETTERS ?q_MOST_LEVELS
    (case aBodiesWithin => k_is); (case lBodiesWithin => k_is); (case cBodiesWithin => k_is); (case kBodiesWithin => k_is)
    (case aNamesIn => k_is); (case lNamesIn => k_is); (case cNamesIn => k_is); (case kNamesIn => k_is)
    (case aIsName => k_is); (case lIsName => k_is); (case cIsName => k_is); (case kIsName => k_is)
    (case aIsFunction => k_is); (case lIsFunction => k_is); (case cIsFunction => k_is); (case kIsFunction => k_is)
    (case aChoices => k_is); (case lChoices => k_is); (case cChoices => k_is); (case kChoices => k_is)
    (case aItemSize => k_is); (case lItemSize => k_is); (case cItemSize => k_is); (case kItemSize => k_is)
    (case aBodySize => k_is); (case lBodySize => k_is); (case cBodySize => k_is); (case kBodySize => k_is)
    (case aLeastInItem => k_is); (case lLeastInItem => k_is); (case cLeastInItem => k_is); (case kLeastInItem => k_is)
    (case aLeastInBody => k_is); (case lLeastInBody => k_is); (case cLeastInBody => k_is); (case kLeastInBody => k_is)
    (case aLeastCalls => k_is); (case lLeastCalls => k_is); (case cLeastCalls => k_is); (case kLeastCalls => k_is)
    (case aIsProgram => k_is); (case lIsProgram => k_is); (case cIsProgram => k_is); (case kIsProgram => k_is)
    (case aCheckProgram => k_is); (case lCheckProgram => k_is); (case cCheckProgram => k_is); (case kCheckProgram => k_is)
    (case aCheckName => k_is); (case lCheckName => k_is); (case cCheckName => k_is); (case kCheckName => k_is)
    (case aCallees => k_is); (case lCallees => k_is); (case cCallees => k_is); (case kCallees => k_is)
    (case aReached => k_is); (case lReached => k_is); (case cReached => k_is); (case kReached => k_is)
    (case aLWell => k_is); (case lLWell => k_is); (case cLWell => k_is); (case kLWell => k_is)
    (case aLPull => k_is); (case lLPull => k_is); (case cLPull => k_is); (case kLPull => k_is)
    (case aLShuffled => k_is); (case lLShuffled => k_is); (case cLShuffled => k_is); (case kLShuffled => k_is)
    (case aLItem => k_is); (case lLItem => k_is); (case cLItem => k_is); (case kLItem => k_is)
    (case aLBody => k_is); (case lLBody => k_is); (case cLBody => k_is); (case kLBody => k_is)
    (case aLCost => k_is); (case lLCost => k_is); (case cLCost => k_is); (case kLCost => k_is)
    (case aLProgram => k_is); (case lLProgram => k_is); (case cLProgram => k_is); (case kLProgram => k_is)
    (case aLNames => k_is); (case lLNames => k_is); (case cLNames => k_is); (case kLNames => k_is)
    (case aLLed => k_is); (case lLLed => k_is); (case cLLed => k_is); (case kLLed => k_is)
    (case aLRight => k_is); (case lLRight => k_is); (case cLRight => k_is); (case kLRight => k_is)
    (case aLaw => k_is); (case lLaw => k_is); (case cLaw => k_is); (case kLaw => k_is)
    (case z_all => k_is)
    (case z_dict => k_is)
    (case z_int => k_is)
    (case z_isinstance => k_is)
    (case z_len => k_is)
    (case z_list => k_is)
    (case z_max => k_is)
    (case z_min => k_is)
    (case z_range => k_is)
    (case z_repr => k_is)
    (case z_set => k_is)
    (case z_sorted => k_is)
    (case z_str => k_is)
    (case z_sum => k_is)
    (case z_tuple => k_is)
    (case q_FEWEST_CHOICES => k_is)
    (case q_MOST_CALLS => k_is)
    (case q_MOST_CALLS_TO_RETURN => k_is)
    (case q_MOST_CHOICES => k_is)
    (case q_MOST_FUNCTIONS => k_is)
    (case q_MOST_ITEMS => k_is)
    (case q_MOST_LETTERS => k_is)
    (case q_MOST_LEVELS => k_is)


