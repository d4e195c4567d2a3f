import PyProof.Rows.All
import Wide.All
import OpenK.AllK
import Wide.FinOn
import HandS.ForMost
import HandS.Wide
import HandS.IsInst
import HandS.TupLe
import HandS.Evl
import HandS.Conv
import HandS.Style
import HandS.RaiseMore
import HandS.TupAny
import HandS.SortInts
import HandS.Gcd
import HandS.TryOnly
import HandS.Zip
import PySem.Challenge.RW_roundedsteps_k81_whole_rows_renewed_and
set_option Elab.async false
set_option maxRecDepth 100000
set_option exponentiation.threshold 6000
set_option Elab.async false
set_option maxRecDepth 100000
namespace My
open PySem L2 PyProof.Rows
/-! ### rules of my own -/
section
variable {prog : Program} {w : World} {A : Around} {E : Value → Shared → Prop} {s : Shared} {l : Addr} {its : List Value} {ns : List Int} {xs : Array (Int × Tok)} {Q : Value → Shared → Prop}
theorem sum_intTupG (hh : A.handled = none) (hl : s.heap.IsTuple l (intItems xs))
    (h : ∀ h' tk t', (∀ b o, s.heap.get? b = some o → h'.get? b = some o) → Q (.int (preSum (numAt xs) xs.size) t') { s with heap := h', toks := tk }) :
    wpAny (model prog w) A (call (.builtin "sum") [.ref l]) Q E s := by
  have hlt : l < s.heap.objs.size := by
    obtain ⟨o, e, _⟩ := hl
    exact Heap.lt_size e
  refine call_sum_walkG (wpAny_pyIter_tuple hl ?_)
  refine ⟨_, [s.heap.objs.size, l], [s.heap.objs.size], _, _, _, numAt xs, rfl, Walks.tuple (A := A.in1) hh _ l (Nat.ne_of_lt hlt) (intItems xs), ⟨⟨_, Heap.get?_push_size _ rfl, rfl, rfl⟩, hl.push _⟩, fun c hc => ?_, (fun _ _ => intItems_at), fun h' tk t' hk => ?_⟩
  · show c < (s.heap.push _).objs.size
    rw [Heap.size_push]
    rcases List.mem_cons.mp hc with rfl | hc
    · exact Nat.lt_succ_self _
    · rcases List.mem_cons.mp hc with rfl | hc
      · exact Nat.lt_succ_of_lt hlt
      · cases hc
  · have hold : ∀ c o, s.heap.get? c = some o → h'.get? c = some o := fun c o e => by
      refine hk c o (fun hm => ?_) (Heap.get?_push_of_some _ e)
      rcases List.mem_cons.mp hm with e1 | hm
      · have := Heap.lt_size e; rw [e1] at this; exact Nat.lt_irrefl _ this
      · cases hm
    have := h h' tk t' hold
    simpa [intItems] using this
theorem sum_rawT (hh : A.handled = none) (hl : s.heap.IsTuple l its.toArray) (hi : IntsAre its ns)
    (h : ∀ h' tk t', (∀ b o, s.heap.get? b = some o → h'.get? b = some o) → Q (.int ns.sum t') { s with heap := h', toks := tk }) : wpAny (model prog w) A (call (.builtin "sum") [.ref l]) Q E s := by
  obtain ⟨xs, e⟩ := hi.allInts.items
  have hn : numsOf (intItems xs).toList = ns := by rw [← e]; exact hi.numsOf
  rw [nums_intItems] at hn
  rw [e] at hl
  refine sum_intTupG hh hl fun h' tk t' hk => ?_
  have := h h' tk t' hk
  rw [preSum_eq, List.take_of_length_le (by simp), hn]; exact this
end
section
variable {X : Cx}
def rSumT (K : PySem.W.Frag) : List V → Hp → VK → Prop := fun vs H Q => ∃ (a : Addr) (ns : List Int), vs = [V.ref a] ∧ SqT K H a (ns.map V.int) ∧ Q (.int ns.sum) H
theorem cr_sumT (hc : X.calm = true) : CallR X (.builtin "sum") (rSumT X.K) := by
  intro pins s σ H vs us Q I r h
  obtain ⟨a, ns, rfl, hs, q⟩ := h
  obtain ⟨its, rv, hl, _⟩ := I.tuple hs
  rw [Vals.ref1 r]
  exact sum_rawT (I.ok.hd hc) hl rv.ints fun h' tk t' hk => ⟨.int _, H, I.kept hk, ⟨_, rfl⟩, q⟩
def CPowK (i j : Int) : Prop := 0 ≤ j ∧ (Builtin.Int.intBits i : Int) * j ≤ 2 ^ 27
theorem op_powK : OpR X (binaryOp .Pow) (rI CPowK fun i j => .int (i ^ j.toNat)) := opI fun _ _ _ _ _ _ _ hc q => pow_int hc.1 hc.2 q

/-- x in o, o an instance of a class with its own __contains__ that hands back a bool -/
theorem contains_own {CX : CXT} {C f : Addr} {k : Nat} {fd : FuncData} {ps : List Str} {sp : Sp} {E : XK} (F : FnOk X.prog X.w X.K X.mg X.base CX k f fd ps sp) (hr : Room k X.A)
    (hs : PySem.W.findIn X.K (.ref C) "__contains__" = some (some (.ref f))) (hf : PySem.W.isFn X.K (.ref f) = true) (hb : L2.Binds X.K fd ps []) (hx : Passes CX X E)
    {pins : List (Addr × Obj)} {σ : L2.St} {H : Hp} {s : Shared} {a dx : Addr} {fs : List (Str × V)} {x : V} {u : Value} {Q : VK} {g : Bool → Bool} (I : Inv X pins σ H s) (rx : L2.RelV x u) (ha : H a = some (.ins C dx fs))
    (h : sp [.ref a, x] H (fun v H' => ∃ b, v = .bl b ∧ Q (.bl (g b)) H') E) :
    wpAny (model X.prog X.w) X.A (contains (.ref a) u) (fun b s' => EP X pins σ Q (.bool (g b)) s') X.xe s := by
  obtain ⟨mA, J, _⟩ := ins_get I.hok ha
  obtain ⟨od, J, _⟩ := J.look
  unfold contains
  refine wpAny_holding ?_
  rw [stdlibNamesSay?_ref]
  refine wpAny_bind (wpAny_bind (J.type.here ((PySem.W.looks_findIn I.kIn hs).here ?_)))
  show wpAny _ _ (if (some (Value.ref f) == some Value.none) = true then _ else _) _ _ _
  rw [if_neg (by simp)]
  refine wpAny_bind (m := callSpecialUnlessNone? (.ref a) (Str.ofString "__contains__") _ _) ?_
  unfold callSpecialUnlessNone?
  refine wpAny_bind (wpAny_bind (J.type.here ((PySem.W.looks_findIn I.kIn hs).here (wpAny_holding (wpAny_bind ((PySem.W.bind_fn I.kIn _ (beq_iff_eq.mp hf)).here ?_))))))
  show wpAny _ _ (if (Value.ref f == Value.none) = true then _ else _) _ _ _
  rw [if_neg (by simp)]
  have hsp := run_fn (us := [.ref a, u]) (vs := [.ref a, x]) F hr hb .nil hx I (.cons rfl (.cons rx .nil)) h
  refine wpAny_bind (wpAny_mono hsp (fun v s' hv => ?_) fun _ _ z => z)
  obtain ⟨y, H', I', ry, b, ey, q⟩ := hv
  subst ey
  cases ry
  exact wpAny_pure (wpAny_truthy_bool ⟨.bl (g b), H', I', rfl, q⟩)
def rInOwn (sp : Sp) (E : XK) (C : Addr) (neg : Bool) : R2 := fun x y H Q => ∃ a dx fs, y = .ref a ∧ H a = some (.ins C dx fs) ∧ sp [.ref a, x] H (fun v H' => ∃ b, v = .bl b ∧ Q (.bl (if neg then !b else b)) H') E
theorem op_inOwn {CX : CXT} {C f : Addr} {k : Nat} {fd : FuncData} {ps : List Str} {sp : Sp} {E : XK} (F : FnOk X.prog X.w X.K X.mg X.base CX k f fd ps sp) (hr : Room k X.A) (_c : Cls X.K C)
    (hm : PySem.W.findIn X.K (.ref C) "__contains__" = some (some (.ref f)) ∧ PySem.W.isFn X.K (.ref f) = true) (hb : L2.Binds X.K fd ps []) (hx : Passes CX X E) : OpR X (compareOp .In) (rInOwn sp E C false) := by
  intro pins s σ H x y u v Q I rx ry h
  obtain ⟨a, dx, fs, rfl, ha, q⟩ := h
  cases ry
  exact wpAny_bind (wpAny_mono (contains_own (g := fun b => b) F hr hm.1 hm.2 hb hx I rx ha q) (fun b s' hq => wpAny_pure hq) fun _ _ z => z)
theorem op_ninOwn {CX : CXT} {C f : Addr} {k : Nat} {fd : FuncData} {ps : List Str} {sp : Sp} {E : XK} (F : FnOk X.prog X.w X.K X.mg X.base CX k f fd ps sp) (hr : Room k X.A) (_c : Cls X.K C)
    (hm : PySem.W.findIn X.K (.ref C) "__contains__" = some (some (.ref f)) ∧ PySem.W.isFn X.K (.ref f) = true) (hb : L2.Binds X.K fd ps []) (hx : Passes CX X E) : OpR X (compareOp .NotIn) (rInOwn sp E C true) := by
  intro pins s σ H x y u v Q I rx ry h
  obtain ⟨a, dx, fs, rfl, ha, q⟩ := h
  cases ry
  exact wpAny_bind (wpAny_mono (contains_own (g := fun b => !b) F hr hm.1 hm.2 hb hx I rx ha q) (fun b s' hq => wpAny_pure hq) fun _ _ z => z)
end
end My

set_option Elab.async false
set_option maxRecDepth 100000
namespace My
open PySem L2 PyProof.Rows
/-! ### promises kept where no guard is around (repr of containers asks that) -/
section
variable {P : Program} {w : World} {K : PySem.W.Frag} {mg : Str → Option Value} {base : Heap}
structure GOk (P : Program) (w : World) (K : PySem.W.Frag) (mg : Str → Option Value) (base : Heap)
    (k : Nat) (f : Addr) (fd : FuncData) (ps : List Str) (sp : Sp) : Prop where
  len : ∀ vs H Q E, sp vs H Q E → vs.length = ps.length
  run : ∀ (A : Around) (out : List Env) (s : Shared) (H : Hp) (args : Args) (us : List Value)
    (vs : List V) (Q : VK) (E : XK), A.guards = some [] → Room k A →
    Env0 P w K mg base A out s H → BindsTo s fd args (ps.zip us) → Vals vs us → sp vs H Q E →
    codeAny (model P w) A (.call (.ref f) args) (CR CX0 out P w H s Q E) s
theorem FnOk.g {k : Nat} {f : Addr} {fd : FuncData} {ps : List Str} {sp : Sp}
    (F : FnOk P w K mg base CX0 k f fd ps sp) : GOk P w K mg base k f fd ps sp :=
  ⟨F.len, fun A out s H args us vs Q E _ => F.run A out s H args us vs Q E⟩
theorem GOk.mono {j k : Nat} {f : Addr} {fd : FuncData} {ps : List Str} {sp : Sp}
    (F : GOk P w K mg base j f fd ps sp) (h : j ≤ k) : GOk P w K mg base k f fd ps sp :=
  ⟨F.len, fun A out s H args us vs Q E g r => F.run A out s H args us vs Q E g (r.mono h)⟩
/-- a def by its body, the guards known -/
theorem okG {x qual : Str} {st : Stmt} {f : Addr} {fd : FuncData} {N ps : List Str} {k : Nat} {sp : Sp}
    (F : Fun K x qual st f fd) (S : FnScope N ps (defScope st)) (len : ∀ vs H Q E, sp vs H Q E → vs.length = ps.length)
    (body : ∀ (cdv : Value) (A : Around) (out : List Env) (s : Shared) (H : Hp) (vs : List V) (Q : VK) (E : XK),
      (A.deeper (envOfC qual (defScope st) s.heap.objs.size f cdv)).guards = some [] →
      Room k (A.deeper (envOfC qual (defScope st) s.heap.objs.size f cdv)) → sp vs H Q E →
      ∃ t, PSs (cxOf CX0 P w K mg base N qual (defScope st) f cdv A out s H E).nox (defBody st) t ∧
        t { nx := fun _ H' => Q .non H', rt := Q } (start N vs) H) :
    GOk P w K mg base (k + 1) f fd ps sp := by
  obtain ⟨oc, od, kV, doc, pm, an, cdv, ct, osl, rfl, lk, hcd⟩ := F.ex
  constructor
  · exact len
  intro A out s H args us vs Q E hG room e0 hb rv hsp
  have n1 := len _ _ _ _ hsp
  have inS : K.In s.heap := e0.mod.kin.keeps fun b o h => (e0.bs b o h).1
  have nolim : s.heap.NoLimit := e0.mod.nolimit.keeps fun b o h => (e0.bs b o h).1
  refine codeAny_call_function room.depth (inS _ _ lk) rfl S.co S.gen rfl (PySem.W.codeRec_of inS hcd) (hb _ _ _ _ ?_)
  refine wpAny_newFunctionEnv_cells S.kind ?_ fun env he s1 ic => ?_
  · rintro ⟨y, v⟩ hy
    cases S.par y (List.of_mem_zip hy).1 with
    | inl h => exact .inl h
    | inr h => exact .inr ⟨h, PySem.W.cellsFrom_some _ _ _ (.inl h)⟩
  cases he
  refine ⟨nolim.keeps ic.toInCall.keep, codeAny_func ?_⟩
  have hG2 : (A.deeper (envOfC qual (defScope st) s.heap.objs.size f cdv)).guards = some [] := hG
  obtain ⟨t, ht, hq⟩ := body cdv A out s H vs Q E hG2 (room.deeper _) hsp
  have I0 := inv_start (CX := CX0) (E := E) (qual := qual) (f := f) (cd := cdv) S room.hd e0 n1 rv ic
  refine wpAny_mono (ht.nox.run [] s1 (start N vs) H _ I0 hq) (fun fl s' hs => ?_) fun _ _ z => z
  cases fl with
  | ret u =>
    obtain ⟨v, σ', H', J, rv', q⟩ := hs
    exact ⟨v, H', J.os, J.bare, J.base, J.hok, rv', q⟩
  | next =>
    obtain ⟨σ', H', J, q⟩ := hs
    exact ⟨V.non, H', J.os, J.bare, J.base, J.hok, rfl, q⟩
  | brk =>
    obtain ⟨_, _, _, q⟩ := hs
    exact q.elim
  | cont =>
    obtain ⟨_, _, _, q⟩ := hs
    exact q.elim
end
section
variable {X : Cx} {k : Nat} {f : Addr} {fd : FuncData} {ps : List Str} {sp : Sp} {dvs : List V} {ds : List Value} {x : Str} {p pos : Pos} {e : Expr} {es : List Expr} {t : TA}
/-- f(..), f's promise wanting that no guard is around -/
theorem pe_callG (F : GOk X.prog X.w X.K X.mg X.base k f fd ps sp) (hG : X.A.guards = some []) (hr : Room k X.A)
    (hg : Gl X x) (hm : X.mg x = some (.ref f)) (hk : PySem.W.keepIn X.K (.ref f) = true)
    (hb : L2.Binds X.K fd ps ds) (hd : Vals dvs ds) (ha : PA X (e :: es) t)
    (hdb : (x == ("__debug__" : Str)) = false := by decide)
    (he : starEach (e :: es) X.env = (false, eval e X.env) :: starEach es X.env := by rfl)
    (hpl : (backTo pos (starEach es X.env)).any (·.1) = false := by rfl) :
    PE X (.Call (.Name x p) (e :: es) [] pos) (tCall sp dvs E0 t) := by
  constructor
  intro pins s σ H Q I h
  refine wpAny_Call_Name_kw (ld_glob I hg hm ?_ hdb)
  refine PySem.W.callWith_K (h₀ := X.base) I.ok.mod.kin hk ?_ he hpl
  refine thn (ha.run pos pins s σ H _ I h) ?_
  rintro us s1 ⟨vs, H1, I1, r, q⟩
  refine ⟨I1.kIn, ?_⟩
  have r2 : Vals (vs ++ dvs) (us ++ ds) := r.append hd
  have hl : (us ++ ds).length = ps.length := by rw [← r2.length]; exact F.len _ _ _ _ q
  refine wpAny_call (codeAny_mono (F.run X.A X.stack s1 H1 ⟨us, []⟩ _ _ Q E0 hG hr I1.env0 (hb s1 us I1.kIn hl) r2 q) ?_)
  intro r s' hq
  cases r with
  | error _ => exact (hq : False).elim
  | ok fl => cases fl <;> first | exact I1.after hq | exact (hq : False).elim
/-- repr of data -/
def rRepr (K : PySem.W.Frag) : List V → Hp → VK → Prop := fun vs H Q => ∃ x d, vs = [x] ∧ Dp K H x d ∧ d.showable = true ∧ d.hasDict = false ∧ d.depth ≤ 60 ∧ (∀ z, d ≠ .str z) ∧ d.shown.length ≤ sizeLine ∧ Q (.str d.shown) H
theorem cr_repr (hG : X.A.guards = some []) (hu : X.A.units + 64 < cLine) : CallR X (.builtin "repr") (rRepr X.K) := by
  intro pins s σ H vs us Q I r h
  obtain ⟨x, d, rfl, hd, hs, hn, hdep, hnz, hz, q⟩ := h
  cases r with
  | cons rx rt =>
    cases rt
    rename_i u
    obtain ⟨as, rd⟩ := Dp.reads I d x u hd rx
    cases hd with
    | int i =>
      obtain ⟨t, rfl⟩ := rx
      exact PySem.P.repr_of_int (of_decide_eq_true hs) ⟨.str _, H, I.tok _, ⟨_, rfl⟩, q⟩
    | lst h1 h2 =>
      cases rx
      exact repr_of_reads' rd hs (PyData.noDict_hsm hn) hG (by omega) (fun _ _ z => z) (fun h' t tk hk => ⟨.str _, H, I.kept hk, ⟨_, rfl⟩, q⟩) hz
    | tup h1 h2 =>
      cases rx
      exact repr_of_reads' rd hs (PyData.noDict_hsm hn) hG (by omega) (fun _ _ z => z) (fun h' t tk hk => ⟨.str _, H, I.kept hk, ⟨_, rfl⟩, q⟩) hz
    | non =>
      cases rx
      exact PySem.P.repr_of_none ⟨.str _, H, I.tok _, ⟨_, rfl⟩, q⟩
    | bl b =>
      cases rx
      exact PySem.P.repr_of_bool ⟨.str _, H, I.tok _, ⟨_, rfl⟩, q⟩
    | str z => exact absurd rfl (hnz z)
end
/-! ### the end of a law's row over such a promise -/
section
variable {P : Program} {w : World} {K : PySem.W.Frag} {mg mb : Str → Option Value} {k : Nat} {fa a : Addr}
  {fd : FuncData} {x : Str} {sp : Sp} {s₁ : Shared} {vs : List Value} {ns : List Int}
theorem law_at (KX : K.In s₁.heap) (hns : s₁.heap.Ns mainGlobals mg) (hb : s₁.heap.Ns builtinsNs mb)
    (hbb : ∀ x : Str, x ≠ "__name__" → mb x = bootBuiltins x) (hlim : s₁.heap.NoLimit) (hg : s₁.gens = #[])
    (ha : s₁.heap.get? a = some { cls := .type "list", data := .seq vs.toArray })
    (hl : ns.length ≤ sizeLine) (hr : Room k callerA) (rv : Vals (ns.map V.int) vs)
    (F : ∀ base : Heap, K.In base → base.Ns mainGlobals mg → GOk P w K mg base k fa fd [x] sp)
    (hbind : ∀ (s : Shared) (u : Value), BindsTo s fd ⟨[u], []⟩ [(x, u)])
    (H : Hp) (hS : SqL K H a (ns.map V.int)) (hok : HOk P w H s₁.heap) (hA : ∀ b, H b ≠ none → b = a)
    (hK : H a ≠ none → K.lookup a = none) (hz : ∀ b, H b = none ∨ ∃ o xs, H b = some (.frz o (.lst xs)))
    (hsp : sp [.ref a] H (fun v _ => v = .bl true) E0) :
    codeAny (model P w) callerA (.call (.ref fa) ⟨[.ref a], []⟩)
      (fun r s' => r = .ok (.ret (.bool true)) ∧ PySem.OldK s₁.heap s'.heap ∧ s'.os = s₁.os ∧ AllBare s'.gens) s₁ := by
  have free : ∀ {b : Addr} {o : Obj}, b ≠ a → s₁.heap.get? b = some o → (hidT s₁.heap H).get? b = some o := by
    intro b o hne hget
    refine hidT_get hget ?_
    by_cases q : H b = none
    · exact q
    · exact absurd (hA b q) hne
  have dicts : ∀ {b : Addr} {m : Str → Option Value}, s₁.heap.Ns b m → (hidT s₁.heap H).Ns b m := by
    rintro b m ⟨o, es, ep, hget, hd, hm⟩
    refine ⟨o, es, ep, free ?_ hget, hd, hm⟩
    rintro rfl
    rw [ha] at hget
    cases hget
    cases hd
  have kin : K.In (hidT s₁.heap H) := by
    intro b o hlk
    have hget := KX b o hlk
    by_cases q : H b = none
    · exact hidT_get hget q
    · have hba := hA b q
      subst hba
      rw [hK q] at hlk
      cases hlk
  have md : Mod K mg (hidT s₁.heap H) := by
    obtain ⟨mc, h1, h2⟩ := hlim
    exact ⟨kin, dicts hns, ⟨mb, dicts hb, hbb⟩, mc, dicts h1, h2⟩
  have e0 : Env0 P w K mg (hidT s₁.heap H) callerA [] s₁ H :=
    ⟨rfl, md, fun b o => of_hidT, Nat.le_of_eq (hidT_size _ _), trivial, nofun, hok, .of_eq hg⟩
  have gk := F _ kin (dicts hns)
  refine codeAny_mono (gk.run callerA [] s₁ H ⟨[.ref a], []⟩ [.ref a] [.ref a] _ E0 rfl hr e0 (hbind s₁ _) (.cons rfl .nil) hsp) ?_
  rintro (err | fl) s' h
  · exact (h : False).elim
  cases fl with
  | next => exact (h : False).elim
  | brk => exact (h : False).elim
  | cont => exact (h : False).elim
  | ret u =>
    obtain ⟨v, H', ho, hbare, un, hok', hu, hv⟩ := h
    have hv : v = .bl true := hv
    cases hv
    cases hu
    refine ⟨rfl, PySem.OldK.of_keep ?_, ho, hbare⟩
    intro b o hget
    rcases hz b with q | ⟨ob, xs, q⟩
    · exact un.keep b o hget q (fun z => nomatch z) (by simp)
    · obtain ⟨w1, _⟩ := hok b _ q
      obtain ⟨w2, _⟩ := hok' b _ (un.frzs b ob _ q)
      rw [hget] at w1
      cases w1
      exact w2
end
theorem walk_ofG {l : PySem.W.OpenLaw} {n k : Nat} {q : Program} {loose : List Str} {XP : (Str → Option Value) → Heap → Prop}
    {YP : World → Heap → Prop} {d : DefRec} {K : Params → PySem.W.Frag} {sp : World → Sp} {x : Str}
    (hn : l.most = some n) (hn2 : n ≤ sizeLine) (hdf : d.params.defaults = []) (hr : Room k callerA)
    (hY : ∀ (w : World) (h : Heap), YP w h → (K w.params).In h)
    (F : ∀ (w : World) (mg : Str → Option Value) (fa : Addr) (h : Heap), (K w.params).In h → h.Ns mainGlobals mg →
      mg d.name = some (.ref fa) → ∃ fd : FuncData, (∀ (s : Shared) (u : Value), BindsTo s fd ⟨[u], []⟩ [(x, u)]) ∧
        ∀ base : Heap, (K w.params).In base → base.Ns mainGlobals mg → GOk l.prog w (K w.params) mg base k fa fd [x] (sp w))
    (hsp : ∀ (w : World) (H : Hp) (a : Addr) (ns : List Int), ns.length ≤ n → SqL (K w.params) H a (ns.map V.int) →
      sp w [.ref a] H (fun v _ => v = .bl true) E0) :
    PySem.W.WalkO q loose XP YP l.row.toRowW d [] (fun f vs => PySem.call f vs) := by
  refine Att.attach_call hn hdf ?_
  intro w s₀ s₁ mg mb fa o pm cd doc a vs ns G Y ho hd hcd hmg hobj hints hlen hg
  have KX := hY w _ Y
  obtain ⟨fd, hb, hF⟩ := F w mg fa _ KX G.T.g hmg
  have rv := vals_ints hints
  have go := fun (H : Hp) hS hok hA hK hz => law_at (H := H) KX G.T.g G.T.b G.T.builtins G.T.nolimit hg hobj
    (Nat.le_trans hlen hn2) hr rv hF hb hS hok hA hK hz (hsp w H a ns hlen hS)
  have sz : vs.toArray.size ≤ sizeLine := by rw [List.size_toArray, hints.length]; exact Nat.le_trans hlen hn2
  cases hk : (K w.params).lookup a with
  | some ob =>
    have hob := KX a ob hk
    rw [hobj] at hob
    cases hob
    refine go (fun _ => none) (.inr ⟨_, vs.toArray, _, hk, rfl, rfl, rfl, sz, by simpa using rv⟩) (fun b u z => nomatch z) (fun b z => absurd rfl z) (fun z => absurd rfl z) (fun b => .inl rfl)
  | none =>
    refine go (fun b => if b = a then some (.frz { cls := .type "list", data := .seq vs.toArray } (.lst (ns.map V.int))) else none) (.inl (.inr ⟨_, if_pos rfl⟩)) ?_ ?_ (fun _ => hk) ?_
    · intro b u hbu
      by_cases e : b = a
      · subst e
        have hbu := (if_pos rfl).symm.trans hbu
        cases hbu
        exact ⟨hobj, by rw [List.length_map]; exact Nat.le_trans hlen hn2, vs, _, rv, hobj⟩
      · have hbu := (if_neg e).symm.trans hbu
        cases hbu
    · intro b hne
      by_cases e : b = a
      · exact e
      · exact absurd (if_neg e) hne
    · intro b
      by_cases e : b = a
      · exact .inr ⟨_, _, if_pos e⟩
      · exact .inl (if_neg e)
end My

set_option Elab.async false
set_option maxRecDepth 100000
namespace My
open PySem L2 PyProof.Rows
theorem len_app (x y : Str) : (x ++ y).length = x.length + y.length := by
  first | exact Str.length_append x y | simp
theorem piled_le {M : Nat} : ∀ ts : List Str, (∀ t ∈ ts, t.length ≤ M) → piled ts ≤ (M + 2) * ts.length
  | [], _ => by simp [piled]
  | t :: ts, h => by
    have h1 := piled_le ts fun x hx => h x (List.mem_cons_of_mem _ hx)
    have h2 := h t List.mem_cons_self
    rw [piled_cons, List.length_cons, Nat.mul_add, Nat.mul_one]
    omega
theorem tupleText_le {M : Nat} {ts : List Str} (h : ∀ t ∈ ts, t.length ≤ M) : (tupleText ts).length ≤ (M + 2) * ts.length + 10 := by
  unfold tupleText
  rw [len_app, len_app]
  have h0 : (Str.ofString "(").length = 1 := by decide +kernel
  have h3 : (Str.join (Str.ofString ", ") ts).length ≤ (M + 2) * ts.length := by
    cases ts with
    | nil => exact Nat.le_trans (Nat.le_of_eq (by decide +kernel : (Str.join (Str.ofString ", ") []).length = 0)) (Nat.zero_le _)
    | cons t ts =>
      have := join_length_add (t :: ts) (by simp)
      have := piled_le (t :: ts) h
      omega
  have h4 : ∀ c : Bool, (Str.ofString (if c = true then ",)" else ")")).length ≤ 2 := by
    intro c
    cases c <;> decide +kernel
  have := h4 (ts.length == 1)
  omega
theorem shownAll_ints (xs : List Int) : PyData.shownAll (xs.map PyData.int) = xs.map fun x => (Str.ofString (toString x)) := by
  induction xs with
  | nil => rfl
  | cons x xs ih =>
    show PyData.shown (.int x) :: PyData.shownAll (xs.map PyData.int) = _
    rw [ih]; rfl
theorem shown_ints {xs : List Int} (h : ∀ x ∈ xs, x.natAbs.log2 < 1920) (hl : xs.length ≤ 1000) : (PyData.tuple (xs.map PyData.int)).shown.length ≤ 2000000 := by
  show (tupleText (PyData.shownAll (xs.map PyData.int))).length ≤ _
  rw [shownAll_ints]
  have := tupleText_le (M := 1921) (ts := xs.map fun x => (Str.ofString (toString x))) (fun t ht => by
    obtain ⟨x, hx, rfl⟩ := List.mem_map.mp ht
    exact int_text_len_1921 (h x hx))
  rw [List.length_map] at this
  omega
theorem able_ints : ∀ {xs : List Int}, (∀ x ∈ xs, x.natAbs.log2 < 1920) → PyData.showableAll (xs.map PyData.int) = true
  | [], _ => rfl
  | x :: xs, h => by
    show (PyData.showable (.int x) && PyData.showableAll (xs.map PyData.int)) = true
    rw [able_ints fun y hy => h y (List.mem_cons_of_mem _ hy)]
    show (decide (x.natAbs.log2 < 1920) && true) = true
    rw [decide_eq_true (h x List.mem_cons_self)]; rfl
theorem nodict_ints : ∀ xs : List Int, PyData.hasDictAll (xs.map PyData.int) = false
  | [] => rfl
  | x :: xs => by
    show (PyData.hasDict (.int x) || PyData.hasDictAll (xs.map PyData.int)) = false
    rw [nodict_ints xs]; rfl
end My

set_option Elab.async false
set_option maxRecDepth 100000
namespace My
open PySem L2 PyProof.Rows
/-! ### a list's slice with a step -/
def tStep (K : PySem.W.Frag) (te : TE) (tl th ts : TO) : TE := fun σ H Q => te σ H fun x H1 => tl σ H1 fun l H2 => th σ H2 fun u H3 => ts σ H3 fun s H4 =>
  ∃ a xs, x = .ref a ∧ SqL K H4 a xs ∧ s ≠ some 0 ∧ ∀ p ys, H4 p = none → (∀ y ∈ ys, y ∈ xs) → ys.length ≤ xs.length → Q (.ref p) (upd H4 p (.lst ys))
theorem picked_vals {xs : List V} {its : List Value} (r : Vals xs its) : ∀ ks : List Nat, Vals (ks.filterMap (xs[·]?)) (ks.filterMap (its[·]?))
  | [] => .nil
  | k :: ks => by
    have ih := picked_vals r ks
    have hl := r.length
    by_cases h : k < xs.length
    · obtain ⟨u, hu, ru⟩ := r.get (List.getElem?_eq_getElem h)
      rw [List.filterMap_cons, List.filterMap_cons, List.getElem?_eq_getElem h, hu]
      exact .cons ru ih
    · have h2 : its[k]? = none := List.getElem?_eq_none (by omega)
      have h1 : xs[k]? = none := List.getElem?_eq_none (by omega)
      rw [List.filterMap_cons, List.filterMap_cons, h1, h2]
      exact ih
section
variable {X : Cx} {e : Expr} {te : TE} {lo hi : Option Expr} {st : Expr} {tl th ts : TO} {p2 pos : Pos}
theorem pe_sliceS (he : PE X e te) (hl : PO X lo tl) (hu : PO X hi th) (hs : PO X (some st) ts) :
    PE X (.Subscript e (.Slice lo hi (some st) p2) pos) (tStep X.K te tl th ts) := by
  constructor
  intro pins s σ H Q I h
  refine Subscript_ (thn (he.run pins s σ H _ I h) ?_)
  rintro v s1 ⟨x, H1, I1, r1, q1⟩
  refine wpAny_Slice (thn (hl.run pins s1 σ H1 _ I1 q1) ?_)
  rintro vl s2 ⟨l, H2, I2, pl, q2⟩
  refine thn (hu.run pins s2 σ H2 _ I2 q2) ?_
  rintro vu s3 ⟨u, H3, I3, pu, q3⟩
  refine thn (hs.run pins s3 σ H3 _ I3 q3) ?_
  rintro vs s4 ⟨so, H4, I4, ps, a, xs, rfl, hx, hne, k⟩
  cases r1
  have J : Inv X pins σ H4 { s4 with heap := s4.heap.push { cls := .type "slice", data := .fields #[vl, vu, vs] } } :=
    I4.kept (t' := s4.toks) fun b ob q => Heap.get?_push_of_some _ q
  obtain ⟨its, r, pL, hz⟩ := J.list hx
  have n1 := r.length
  show wpAny (model X.prog X.w) X.A (subscriptTail e (.Slice lo hi (some st) p2) (.ref a) (.ref s4.heap.objs.size)) (EP X pins σ Q) X.xe
    { s4 with heap := s4.heap.push { cls := .type "slice", data := .fields #[vl, vu, vs] } }
  refine tail_any (ops := [.ref a, .ref s4.heap.objs.size]) pL.isList.typeIs PySem.slot_list_getitem.lookup ?_ (by with_unfolding_all rfl)
  refine wpAny_getItem_list_slice pL.isList (Heap.IsSliceOf.new _ vl vu vs) pl pu ps hne ?_ (by rw [List.size_toArray]; omega)
  have hsz := slicePick_size_le its.toArray l u so
  generalize hpk : slicePick its.toArray l u so = pk at *
  have hszl : pk.toList.length ≤ its.length := by simpa using hsz
  have hform : pk.toList = ((sliceRange (sliceBounds l u so its.toArray.size).1 (sliceBounds l u so its.toArray.size).2.1 (sliceBounds l u so its.toArray.size).2.2).filterMap (its[·]?)) := by
    rw [← hpk]
    unfold slicePick
    simp
  have rv := picked_vals r (sliceRange (sliceBounds l u so its.toArray.size).1 (sliceBounds l u so its.toArray.size).2.1 (sliceBounds l u so its.toArray.size).2.2)
  rw [← hform] at rv
  generalize hys : (sliceRange (sliceBounds l u so its.toArray.size).1 (sliceBounds l u so its.toArray.size).2.1 (sliceBounds l u so its.toArray.size).2.2).filterMap (xs[·]?) = ys at rv
  have hsub : ∀ y ∈ ys, y ∈ xs := by
    intro y hy
    rw [← hys] at hy
    obtain ⟨j, _, hj⟩ := List.mem_filterMap.mp hy
    exact List.mem_of_getElem? hj
  have hlen : ys.length ≤ xs.length := by
    have h2 := rv.length
    omega
  refine ⟨.ref _, _, J.laid (t' := s4.toks) (o := .lst ys) (fun b ob q => Heap.get?_push_of_some _ q) (Nat.le_refl _) ?_, rfl, k _ ys (J.hok.fresh (Nat.le_refl _)) hsub hlen⟩
  exact ⟨by omega, pk.toList, 0, rv, Heap.get?_push_size _ rfl⟩
end
end My

set_option Elab.async false
set_option maxRecDepth 100000
namespace My
open PySem L2 PyProof.Rows
/-! ### list(range(a, b, c)) -/
def rgV3 (a c : Int) (n : Nat) : List V := (List.range n).map fun i => V.int (a + (i : Nat) * c)
theorem rgV3_length (a c : Int) (n : Nat) : (rgV3 a c n).length = n := by unfold rgV3; rw [List.length_map, List.length_range]
theorem vals_rg3 {a c : Int} {n : Nat} {acc : Array Value} (h : ItemsOf (fun i v => ∃ t, v = .int (a + i * c) t) acc n) : Vals (rgV3 a c n) acc.toList := by
  have e : acc.toList.length = n := by rw [Array.length_toList]; exact h.1
  unfold rgV3
  rw [← e]
  refine vals_of_get acc.toList _ fun j u hj => ?_
  obtain ⟨t, rfl⟩ := h.2 j u (by rw [← hj, Array.getElem?_toList])
  exact ⟨t, rfl⟩
theorem small_up {a b c : Int} (ha : -(2 ^ 31) ≤ a) (ha' : a < 2 ^ 31) (hb : -(2 ^ 31) ≤ b) (hb' : b < 2 ^ 31) (hc : 0 < c) (hc' : c < 2 ^ 29) : Builtin.Range.small a b c = true := by
  have h1 := rangeSize_toNat_le a b c
  have h2 := rangeSize_toNat a b c
  unfold Builtin.Range.small
  unfold Builtin.Range.rangeSize at *
  simp only [Builtin.Range.rangeFitsLong, Bool.and_eq_true, Bool.or_eq_true, decide_eq_true_eq, beq_iff_eq, if_pos (show c > 0 from hc)] at *
  split at h2
  · rename_i hab
    have h3 := Int.ediv_mul_le (b - a - 1) (show c ≠ 0 by omega)
    rw [if_pos hab] at *
    generalize (b - a - 1) / c = q at *
    have h5 : (q + 1) * c = q * c + c := by rw [Int.add_mul, Int.one_mul]
    generalize q * c = z at *
    omega
  · rename_i hab
    rw [if_neg hab] at *
    omega
section
variable {X : Cx} {a b c : Expr} {ta : TA}
def tLst3 (ta : TA) : TE := fun σ H Q => ta σ H fun vs H1 => ∃ (i j k : Int) (n : Nat), vs = [.int i, .int j, .int k] ∧ RgC i j k n ∧ n ≤ 2 ^ 24 ∧ ∀ q, H1 q = none → Q (.ref q) (upd H1 q (.lst (rgV3 i k n)))
theorem pe_listRg3 {p p2 pos pos2 : Pos} (hc : X.calm = true) (hg : Gl X "list") (hm : X.mg "list" = none) (hg2 : Gl X "range") (hm2 : X.mg "range" = none) (ha : PA X [a, b, c] ta)
    (hs : starEach [a, b, c] X.env = (false, eval a X.env) :: starEach [b, c] X.env := by rfl) (hpl : (backTo pos2 (starEach [b, c] X.env)).any (·.1) = false := by rfl)
    (na : starEach [(.Call (.Name "range" p2) [a, b, c] [] pos2)] X.env = (false, eval (.Call (.Name "range" p2) [a, b, c] [] pos2) X.env) :: starEach [] X.env := by rfl) :
    PE X (.Call (.Name "list" p) [.Call (.Name "range" p2) [a, b, c] [] pos2] [] pos) (tLst3 ta) := by
  refine ⟨fun pins s σ H Q I h => ?_⟩
  have hr : wpAny (model X.prog X.w) X.A (eval (.Call (.Name "range" p2) [a, b, c] [] pos2) X.env) (fun x s' => ∃ r i j k n t u v H', x = .ref r ∧ IsRange s'.heap r i j k t u v ∧ Inv X pins σ H' s' ∧ RgC i j k n ∧ n ≤ 2 ^ 24 ∧ ∀ q, H' q = none → Q (.ref q) (upd H' q (.lst (rgV3 i k n)))) X.xe s := by
    refine Call_ (ld_blt I hg2 hm2 boot_range (PyProof.Rows.callWith_type1 (thn (ha.run pos2 pins s σ H _ I h) fun us s1 ⟨vs, H1, I1, r1, q1⟩ => ?_) hs hpl))
    obtain ⟨i, j, k, n, e, hk, hn, q⟩ := q1
    subst e
    cases r1 with
    | cons r rr =>
      cases rr with
      | cons r' rr =>
        cases rr with
        | cons r'' rr =>
          cases rr
          obtain ⟨t, rfl⟩ := r
          obtain ⟨t', rfl⟩ := r'
          obtain ⟨t'', rfl⟩ := r''
          exact call_range_3 hk.1 ⟨_, i, j, k, n, _, _, _, H1, rfl, IsRange.new .., I1.kept (t' := s1.toks) fun b o e => Heap.get?_push_of_some _ e, hk, hn, q⟩ (.inl (PyProof.noPylong_small hk.2.1))
  refine Call_ (ld_blt I hg hm boot_list (PyProof.Rows.callWith_type1 (args_cons (thn hr fun x s1 ⟨r, i, j, k, n, t, u, v, H1, ex, hr, I1, ⟨c0, c1, c2, c3⟩, hn, q⟩ => args_nil ?_) na) na))
  subst ex
  refine call_list_range (n := n) (I1.ok.hd hc) hr c2 c3 hn fun h' tk acc c' hk e' hi => ?_
  refine ⟨.ref s1.heap.objs.size, upd H1 s1.heap.objs.size (.lst (rgV3 i k n)), I1.laid hk (Nat.le_refl _) (show ObjOk X.prog X.w _ _ _ (.lst (rgV3 i k n)) from ⟨?_, acc.toList, c', vals_rg3 hi, ?_⟩), rfl, q _ (I1.hok.fresh (Nat.le_refl _))⟩
  · rw [rgV3_length, sizeLine_eq]; omega
  · rw [Array.toArray_toList]; exact e'
end
/-- what stands in list(range(a, b, c)) -/
theorem rg3_mem {a b c : Int} (hc : 0 < c) {n : Nat} (hn : Builtin.Range.rangeSize a b c = n) {i : Nat} (hi : i < n) : a ≤ a + (i : Int) * c ∧ a + (i : Int) * c < b := by
  unfold Builtin.Range.rangeSize at hn
  rw [if_pos hc] at hn
  have h0 : 0 ≤ (i : Int) * c := Int.mul_nonneg (by omega) (by omega)
  split at hn
  · have h1 : (i : Int) ≤ (b - a - 1) / c := by omega
    have h2 := Int.mul_le_mul_of_nonneg_right h1 (show 0 ≤ c by omega)
    have h3 := Int.ediv_mul_le (b - a - 1) (show c ≠ 0 by omega)
    omega
  · omega
/-- a loop over zip of two tuples, the one that ends first ends it -/
theorem for_zipT2 {K : PySem.W.Frag} {a b : Addr} {xs ys : List V} {g : TG} {tb : TS} {D : Ends} {σ : L2.St} {H : Hp} (Pv : Nat → L2.St → Hp → Prop) (h0 : Pv 0 σ H) (hq : ∀ i σ H, Pv i σ H → SqT K H a xs ∧ SqT K H b ys)
    (hs : ∀ (i : Nat) (x y : V) (T : Addr) (σ : L2.St) (H : Hp), xs[i]? = some x → ys[i]? = some y → Pv i σ H → H T = none → g (.ref T) σ (upd H T (.tup [x, y])) fun σ2 H2 => tb { D with nx := Pv (i + 1), ct := Pv (i + 1), bk := D.nx } σ2 H2) (hd : ∀ i σ H, Pv i σ H → D.nx σ H) :
    ∃ W : Nat → Nat → L2.St → Hp → Prop, (∃ m, W 0 m σ H) ∧ ∀ i m σ H, W i m σ H →
      ((RZ.ItzT K a b).stop i H ∧ D.nx σ H) ∨ ((RZ.ItzT K a b).go i H ∧ ∃ N : L2.St → Hp → Prop, (∀ σ' H', N σ' H' → ∃ m', m' < m ∧ W (i + 1) m' σ' H') ∧ ∀ v H', (RZ.ItzT K a b).yld i H v H' → g v σ H' fun σ2 H2 => tb { D with nx := N, ct := N, bk := D.nx } σ2 H2) := by
  refine ⟨fun i m σ H => m = xs.length - i ∧ Pv i σ H, ⟨xs.length, rfl, h0⟩, ?_⟩
  rintro i m σ H ⟨rfl, p⟩
  obtain ⟨qx, qy⟩ := hq i σ H p
  by_cases hlt : i < xs.length ∧ i < ys.length
  · have hx : xs[i]? = some xs[i] := List.getElem?_eq_getElem hlt.1
    have hy : ys[i]? = some ys[i] := List.getElem?_eq_getElem hlt.2
    refine .inr ⟨⟨xs, ys, _, _, qx, qy, hx, hy⟩, Pv (i + 1), fun σ' H' p' => ⟨xs.length - (i + 1), by omega, rfl, p'⟩, fun v H' y => ?_⟩
    obtain ⟨T, x', y', rfl, hT, rfl, f1, f2⟩ := y
    exact hs i x' y' T σ H (f1 xs qx) (f2 ys qy) p hT
  · exact .inl ⟨⟨xs, ys, qx, qy, by omega⟩, hd i σ H p⟩
end My

set_option Elab.async false
set_option maxRecDepth 100000
namespace My
open PySem L2 PyProof.Rows
/-- a comprehension over zip of two lists: the one that ends first ends it -/
theorem lc_zipL {K : PySem.W.Frag} {a b : Addr} {xs ys : List V} {g : TG} {tt : TT} {te : TE} {vs : List Nat} {σ : L2.St} {H1 : Hp} {D : Addr} {Qd : Hp → Prop} (Pv : Nat → Hp → Prop) (h0 : Pv 0 (upd H1 D (.lst []))) (hl : ∀ i H, Pv i H → SqL K H a xs ∧ SqL K H b ys)
    (hs : ∀ (i : Nat) (x y : V) (T : Addr) (H : Hp), xs[i]? = some x → ys[i]? = some y → Pv i H → H T = none → g (.ref T) (wipe σ vs) (upd H T (.tup [x, y])) fun σ2 H2 => wipe σ2 vs = wipe σ vs ∧ tt σ2 H2 fun b H3 =>
      if b = true then te σ2 H3 fun y H4 => ∃ acc, H4 D = some (.lst acc) ∧ acc.length < sizeLine ∧ Pv (i + 1) (upd H4 D (.lst (acc ++ [y]))) else Pv (i + 1) H3) (hd : ∀ i H, (xs.length ≤ i ∨ ys.length ≤ i) → Pv i H → Qd H) :
    ∃ W : Nat → Nat → Hp → Prop, (∃ m, W 0 m (upd H1 D (.lst []))) ∧ ∀ i m H, W i m H →
      ((Itz K a b).stop i H ∧ Qd H) ∨ ((Itz K a b).go i H ∧ ∃ Nx : Hp → Prop, (∀ H', Nx H' → ∃ m', m' < m ∧ W (i + 1) m' H') ∧ ∀ x H', (Itz K a b).yld i H x H' → g x (wipe σ vs) H' fun σ2 H2 => wipe σ2 vs = wipe σ vs ∧ tt σ2 H2 fun b H3 =>
        if b = true then te σ2 H3 fun y H4 => ∃ acc, H4 D = some (.lst acc) ∧ acc.length < sizeLine ∧ Nx (upd H4 D (.lst (acc ++ [y]))) else Nx H3) := by
  refine ⟨fun i m H => m = xs.length - i ∧ Pv i H, ⟨xs.length, rfl, h0⟩, ?_⟩
  rintro i m H ⟨rfl, p⟩
  obtain ⟨qx, qy⟩ := hl i H p
  by_cases hlt : i < xs.length ∧ i < ys.length
  · have hx : xs[i]? = some xs[i] := List.getElem?_eq_getElem hlt.1
    have hy : ys[i]? = some ys[i] := List.getElem?_eq_getElem hlt.2
    refine .inr ⟨⟨xs, ys, _, _, qx, qy, hx, hy⟩, Pv (i + 1), fun H' p' => ⟨xs.length - (i + 1), by omega, rfl, p'⟩, fun v H' y => ?_⟩
    obtain ⟨T, x', y', rfl, hT, rfl, f1, f2⟩ := y
    exact hs i x' y' T H (f1 xs qx) (f2 ys qy) p hT
  · exact .inl ⟨⟨xs, ys, qx, qy, by omega⟩, hd i H (by omega) p⟩
end My

set_option Elab.async false
set_option maxRecDepth 100000
namespace My
open PySem L2 PyProof.Rows
/-- a loop over enumerate of a list -/
theorem for_enumL {K : PySem.W.Frag} {a : Addr} {xs : List V} {g : TG} {tb : TS} {D : Ends} {σ : L2.St} {H : Hp} (Pv : Nat → L2.St → Hp → Prop) (h0 : Pv 0 σ H) (hq : ∀ i σ H, Pv i σ H → SqL K H a xs)
    (hs : ∀ (i : Nat) (x : V) (T : Addr) (σ : L2.St) (H : Hp), xs[i]? = some x → Pv i σ H → H T = none → g (.ref T) σ (upd H T (.tup [.int (i : Nat), x])) fun σ2 H2 => tb { D with nx := Pv (i + 1), ct := Pv (i + 1), bk := D.nx } σ2 H2) (hd : ∀ σ H, Pv xs.length σ H → D.nx σ H) :
    ∃ W : Nat → Nat → L2.St → Hp → Prop, (∃ m, W 0 m σ H) ∧ ∀ i m σ H, W i m σ H →
      ((Ite K a).stop i H ∧ D.nx σ H) ∨ ((Ite K a).go i H ∧ ∃ N : L2.St → Hp → Prop, (∀ σ' H', N σ' H' → ∃ m', m' < m ∧ W (i + 1) m' σ' H') ∧ ∀ v H', (Ite K a).yld i H v H' → g v σ H' fun σ2 H2 => tb { D with nx := N, ct := N, bk := D.nx } σ2 H2) := by
  refine ⟨fun i m σ H => m = xs.length - i ∧ i ≤ xs.length ∧ Pv i σ H, ⟨xs.length, rfl, Nat.zero_le _, h0⟩, ?_⟩
  rintro i m σ H ⟨rfl, hi, p⟩
  have q := hq i σ H p
  by_cases hlt : i < xs.length
  · have hx : xs[i]? = some xs[i] := List.getElem?_eq_getElem hlt
    refine .inr ⟨⟨xs, _, q, hx⟩, Pv (i + 1), fun σ' H' p' => ⟨xs.length - (i + 1), by omega, rfl, hlt, p'⟩, fun v H' y => ?_⟩
    obtain ⟨T, x', rfl, hT, rfl, f⟩ := y
    exact hs i x' T σ H (f xs q) p hT
  · have e : i = xs.length := by omega
    subst e
    exact .inl ⟨⟨xs, q, Nat.le_refl _⟩, hd σ H p⟩
end My

set_option Elab.async false
set_option maxRecDepth 100000
namespace My
open PySem L2 PyProof.Rows
/-! ### a list's slice with a step, to the number; xs[:0:-1] -/
def pickV (xs : List V) (l u s : Option Int) : List V := (sliceRange (sliceBounds l u s xs.length).1 (sliceBounds l u s xs.length).2.1 (sliceBounds l u s xs.length).2.2).filterMap (xs[·]?)
def tPick (K : PySem.W.Frag) (te : TE) (tl th ts : TO) : TE := fun σ H Q => te σ H fun x H1 => tl σ H1 fun l H2 => th σ H2 fun u H3 => ts σ H3 fun s H4 =>
  ∃ a xs, x = .ref a ∧ SqL K H4 a xs ∧ s ≠ some 0 ∧ ∀ p, H4 p = none → Q (.ref p) (upd H4 p (.lst (pickV xs l u s)))
theorem pickV_len (xs : List V) (l u s : Option Int) (its : List Value) (h : its.length = xs.length) : (pickV xs l u s).length ≤ xs.length := by
  have h1 := slicePick_size_le its.toArray l u s
  have h2 : (slicePick its.toArray l u s).toList.length ≤ its.length := by simpa using h1
  have h3 : (slicePick its.toArray l u s).toList = (sliceRange (sliceBounds l u s xs.length).1 (sliceBounds l u s xs.length).2.1 (sliceBounds l u s xs.length).2.2).filterMap (its[·]?) := by
    unfold slicePick
    simp [h]
  have h4 : ∀ ks : List Nat, (ks.filterMap (xs[·]?)).length = (ks.filterMap (its[·]?)).length := by
    intro ks
    induction ks with
    | nil => rfl
    | cons k ks ih =>
      rw [List.filterMap_cons, List.filterMap_cons]
      by_cases hk : k < xs.length
      · rw [List.getElem?_eq_getElem hk, List.getElem?_eq_getElem (by omega : k < its.length)]
        simp [ih]
      · rw [List.getElem?_eq_none (by omega), List.getElem?_eq_none (by omega)]
        exact ih
  unfold pickV
  rw [h4, ← h3]
  omega
section
variable {X : Cx} {e : Expr} {te : TE} {lo hi : Option Expr} {st : Expr} {tl th ts : TO} {p2 pos : Pos}
theorem pe_pick (he : PE X e te) (hl : PO X lo tl) (hu : PO X hi th) (hs : PO X (some st) ts) :
    PE X (.Subscript e (.Slice lo hi (some st) p2) pos) (tPick X.K te tl th ts) := by
  constructor
  intro pins s σ H Q I h
  refine Subscript_ (thn (he.run pins s σ H _ I h) ?_)
  rintro v s1 ⟨x, H1, I1, r1, q1⟩
  refine wpAny_Slice (thn (hl.run pins s1 σ H1 _ I1 q1) ?_)
  rintro vl s2 ⟨l, H2, I2, pl, q2⟩
  refine thn (hu.run pins s2 σ H2 _ I2 q2) ?_
  rintro vu s3 ⟨u, H3, I3, pu, q3⟩
  refine thn (hs.run pins s3 σ H3 _ I3 q3) ?_
  rintro vs s4 ⟨so, H4, I4, ps, a, xs, rfl, hx, hne, k⟩
  cases r1
  have J : Inv X pins σ H4 { s4 with heap := s4.heap.push { cls := .type "slice", data := .fields #[vl, vu, vs] } } :=
    I4.kept (t' := s4.toks) fun b ob q => Heap.get?_push_of_some _ q
  obtain ⟨its, r, pL, hz⟩ := J.list hx
  have n1 := r.length
  show wpAny (model X.prog X.w) X.A (subscriptTail e (.Slice lo hi (some st) p2) (.ref a) (.ref s4.heap.objs.size)) (EP X pins σ Q) X.xe
    { s4 with heap := s4.heap.push { cls := .type "slice", data := .fields #[vl, vu, vs] } }
  refine tail_any (ops := [.ref a, .ref s4.heap.objs.size]) pL.isList.typeIs PySem.slot_list_getitem.lookup ?_ (by with_unfolding_all rfl)
  refine wpAny_getItem_list_slice pL.isList (Heap.IsSliceOf.new _ vl vu vs) pl pu ps hne ?_ (by rw [List.size_toArray]; omega)
  have hform : (slicePick its.toArray l u so).toList = ((sliceRange (sliceBounds l u so xs.length).1 (sliceBounds l u so xs.length).2.1 (sliceBounds l u so xs.length).2.2).filterMap (its[·]?)) := by
    unfold slicePick
    simp [n1]
  have rv := picked_vals r (sliceRange (sliceBounds l u so xs.length).1 (sliceBounds l u so xs.length).2.1 (sliceBounds l u so xs.length).2.2)
  rw [← hform] at rv
  have hlen := pickV_len xs l u so its n1.symm
  refine ⟨.ref _, _, J.laid (t' := s4.toks) (o := .lst (pickV xs l u so)) (fun b ob q => Heap.get?_push_of_some _ q) (Nat.le_refl _) ?_, rfl, k _ (J.hok.fresh (Nat.le_refl _))⟩
  exact ⟨by omega, (slicePick its.toArray l u so).toList, 0, rv, Heap.get?_push_size _ rfl⟩
end
theorem range_get : ∀ l : List V, (List.range l.length).filterMap (l[·]?) = l
  | [] => rfl
  | x :: l => by
    rw [List.length_cons, List.range_succ_eq_map, List.filterMap_cons, List.filterMap_map]
    show x :: (List.range l.length).filterMap (fun k => (x :: l)[k + 1]?) = _
    exact congrArg (x :: ·) (range_get l)
theorem pick_back (xs : List V) (h : 0 < xs.length) : pickV xs none (some 0) (some (-1)) = (xs.drop 1).reverse := by
  have hb : sliceBounds none (some 0) (some (-1)) xs.length = ((xs.length : Int) - 1, 0, -1) := by
    unfold sliceBounds
    simp
    omega
  have hr : sliceRange ((xs.length : Int) - 1) 0 (-1) = (List.range (xs.drop 1).reverse.length).map fun k => xs.length - 1 - k := by
    unfold sliceRange
    simp only [List.length_reverse, List.length_drop]
    rw [if_neg (by decide)]
    have hc : (if (xs.length : Int) - 1 > 0 then ((xs.length : Int) - 1 - 0 - -1 - 1) / - -1 else 0).toNat = xs.length - 1 := by
      have : - -(1 : Int) = 1 := by decide
      rw [this, Int.ediv_one]
      split <;> omega
    rw [hc]
    refine List.map_congr_left fun k _ => ?_
    omega
  have step : ∀ k, k < (xs.drop 1).reverse.length → xs[xs.length - 1 - k]? = (xs.drop 1).reverse[k]? := fun k hk => by
    rw [List.length_reverse, List.length_drop] at hk
    rw [List.getElem?_reverse (by rw [List.length_drop]; omega), List.getElem?_drop, List.length_drop]
    congr 1
    omega
  unfold pickV
  rw [hb, hr, List.filterMap_map]
  have e : ∀ n, n ≤ (xs.drop 1).reverse.length → (List.range n).filterMap (fun k => xs[xs.length - 1 - k]?) = (List.range n).filterMap ((xs.drop 1).reverse[·]?) := by
    intro n
    induction n with
    | zero => intro _; rfl
    | succ n ih =>
      intro hn
      rw [List.range_succ, List.filterMap_append, List.filterMap_append, ih (by omega)]
      congr 1
      rw [List.filterMap_cons, List.filterMap_cons, step n (by omega)]
      cases (xs.drop 1).reverse[n]? <;> rfl
  exact (e _ (Nat.le_refl _)).trans (range_get _)
end My

set_option Elab.async false
set_option maxRecDepth 100000
namespace My
open PySem PySem.Spec PyProof.Rows L2
/-! ### t[::-1], t a tuple -/
section
variable {prog : Program} {w : World} {A : Around} {E : Value → Shared → Prop} {s : Shared}
theorem back_places (n : Nat) : Builtin.Slice.slicePlaces ((n : Int) - 1) (-1) (-1) = n := by
  unfold Builtin.Slice.slicePlaces
  have h0 : ¬ ((-1 : Int) > 0) := by omega
  simp only [h0, if_false]
  have e : - -(1 : Int) = 1 := by decide
  try rw [e]
  try simp only [Int.ediv_one]
  split <;> omega
theorem back_bounds (n : Nat) : Builtin.Slice.sliceAdjust none none (-1) (n : Int) = ((n : Int) - 1, -1) := by
  unfold Builtin.Slice.sliceAdjust
  simp
theorem back_applied {sl : Addr} {vl vu vs : Value} {n : Nat} {Q : Int × Int × Nat → Shared → Prop} (hs : s.heap.IsSliceOf sl vl vu vs) (pl : IsPart vl none) (pu : IsPart vu none) (ps : IsPart vs (some (-1)))
    (h : Q ((n : Int) - 1, -1, n) s) : wpAny (model prog w) A (Builtin.Slice.sliceApplied (.ref sl) (pure (n : Int))) Q E s := by
  obtain ⟨os, o1, o2, o3⟩ := id hs
  unfold Builtin.Slice.sliceApplied Builtin.Slice.sliceFields
  refine wpAny_bind (wpAny_bind (wpAny_field o1 o3 (x := vl) rfl (wpAny_bind (wpAny_field o1 o3 (x := vu) rfl (wpAny_bind (wpAny_field o1 o3 (x := vs) rfl (wpAny_pure ?_)))))))
  refine wpAny_bind (HT.slicePart_ ps ?_)
  show wpAny _ _ (if ((-1 : Int) == 0) = true then _ else _) _ _ s
  rw [if_neg (show ¬ ((-1 : Int) == 0) = true by decide)]
  refine wpAny_bind (HT.slicePart_ pl (wpAny_bind (HT.slicePart_ pu (wpAny_bind (wpAny_pure ?_)))))
  show wpAny _ _ (match Builtin.Slice.sliceAdjust none none (-1) (n : Int) with | (a, b) => pure (a, (-1 : Int), Builtin.Slice.slicePlaces a b (-1))) _ _ s
  rw [back_bounds]
  show wpAny _ _ (pure ((n : Int) - 1, (-1 : Int), Builtin.Slice.slicePlaces ((n : Int) - 1) (-1) (-1))) _ _ s
  rw [back_places]
  exact wpAny_pure h
theorem back_items (xs : Array Value) : ((List.range xs.size).filterMap fun (m : Nat) => xs[((xs.size : Int) - 1 + (m : Int) * -1).toNat]?).toArray = xs.toList.reverse.toArray := by
  congr 1
  have st : ∀ k, k < xs.toList.reverse.length → xs[((xs.size : Int) - 1 + (k : Int) * -1).toNat]? = xs.toList.reverse[k]? := fun k hk => by
    rw [List.length_reverse, Array.length_toList] at hk
    rw [List.getElem?_reverse (by rw [Array.length_toList]; omega), Array.length_toList, Array.getElem?_toList]
    congr 1
    omega
  have all : ∀ n, n ≤ xs.toList.reverse.length → (List.range n).filterMap (fun (m : Nat) => xs[((xs.size : Int) - 1 + (m : Int) * -1).toNat]?) = xs.toList.reverse.take n := by
    intro n
    induction n with
    | zero => intro _; rfl
    | succ n ih =>
      intro hn
      rw [List.range_succ, List.filterMap_append, ih (by omega), List.take_add_one, List.filterMap_cons, st n (by omega)]
      cases xs.toList.reverse[n]? <;> rfl
  have e := all xs.size (by rw [List.length_reverse, Array.length_toList]; exact Nat.le_refl _)
  rw [e]
  exact List.take_of_length_le (by rw [List.length_reverse, Array.length_toList]; exact Nat.le_refl _)
theorem back_get {t sl : Addr} {xs : Array Value} {vl vu vs : Value} {Q : Value → Shared → Prop} (ht : IsTup s.heap t xs) (hs : s.heap.IsSliceOf sl vl vu vs) (pl : IsPart vl none) (pu : IsPart vu none) (ps : IsPart vs (some (-1)))
    (h : Q (.ref s.heap.objs.size) { s with heap := s.heap.push { cls := .type "tuple", data := .seq xs.toList.reverse.toArray } }) (hz : xs.size ≤ sizeLine) : wpAny (model prog w) A (getItem (.ref t) (.ref sl)) Q E s := by
  have fit : sizeOk (.seq xs.toList.reverse.toArray) := by
    show xs.toList.reverse.toArray.size ≤ sizeLine
    rw [List.size_toArray, List.length_reverse, Array.length_toList]
    exact hz
  obtain ⟨os, o1, o2, o3⟩ := id hs
  have ts : s.TypeIs (.ref sl) "slice" := ⟨os, o1, o2⟩
  unfold getItem
  try with_reducible refine wpAny_holding ?_
  first | refine wpAny_bind (wpAny_pure ?_) | skip
  refine wpAny_bind (wpAny_sequenceKey ht.typeIs (by decide) (wpAny_bind (wpAny_callSpecial?_slot (name := Str.ofString "__getitem__") ht.typeIs PyProof.Rows.slot_tuple_getitem
    (wpAny_call_entry PyProof.Rows.slot_tuple_getitem ht.typeIs PyProof.Rows.entry_tuple_getitem ?_ (PyProof.Rows.args_tuple_getitem _ _)))))
  show wpAny _ _ (Builtin.Tuple.tupleItemsOf (.ref t) >>= _) _ _ s
  refine wpAny_bind (PyProof.Rows.tupleItemsOf_ ht (wpAny_bind (wpAny_typeOf ts ?_)))
  rw [if_pos (by decide)]
  refine wpAny_bind (back_applied (n := xs.size) hs pl pu ps ?_)
  have no : ¬ (((xs.size : Int) - 1 == 0 && (-1 : Int) == 1 && xs.size == xs.size) = true) := fun q => by
    rw [Bool.and_eq_true, Bool.and_eq_true] at q
    exact absurd q.1.2 (by decide)
  show wpAny _ _ (if ((xs.size : Int) - 1 == 0 && (-1 : Int) == 1 && xs.size == xs.size) = true then _ else _) _ _ s
  rw [if_neg no, back_items]
  first
    | exact wpAny_bind (m := Builtin.Tuple.tupleExact _) (wpAny_newObj_type (wpAny_pure ⟨_, rfl, wpAny_pure h⟩) fit)
    | exact wpAny_bind (m := Builtin.Tuple.tupleExact _) (wpAny_newObj_type (wpAny_bind (wpAny_pure (wpAny_pure ⟨_, rfl, wpAny_pure h⟩))) fit)
    | exact wpAny_bind (wpAny_bind (m := Builtin.Tuple.tupleExact _) (wpAny_newObj_type (wpAny_pure (wpAny_pure ⟨_, rfl, wpAny_pure h⟩)) fit))
    | exact wpAny_bind (wpAny_bind (m := Builtin.Tuple.tupleExact _) (wpAny_newObj_type (wpAny_pure ⟨_, rfl, wpAny_pure h⟩) fit))
end
end My
namespace My
open PySem L2 PyProof.Rows
section
variable {X : Cx} {e : Expr} {te : TE} {k : Nat} {p1 p2 p3 pos : Pos}
def tRevT (K : PySem.W.Frag) (te : TE) : TE := fun σ H Q => te σ H fun x H1 => ∃ a xs, x = .ref a ∧ SqT K H1 a xs ∧ ∀ p, H1 p = none → Q (.ref p) (upd H1 p (.tup xs.reverse))
theorem pe_revT (he : PE X e te) : PE X (.Subscript e (.Slice none none (some (.UnaryOp .USub (.Constant (.int 1) k p1) p2)) p3) pos) (tRevT X.K te) := by
  constructor
  intro pins s σ H Q I h
  refine Subscript_ (thn (he.run pins s σ H _ I h) ?_)
  rintro v s1 ⟨x, H1, I1, r1, a, xs, rfl, hx, q⟩
  cases r1
  have hst : PO X (some (.UnaryOp .USub (.Constant (.int 1) k p1) p2)) (tPart (tUn (rU fun i => .int (-i)) (tC (.int 1)))) := po_some (pe_un un_neg pe_int)
  refine wpAny_Slice (thn (po_none.run pins s1 σ H1 (fun o H2 => o = none ∧ H2 = H1) I1 ⟨rfl, rfl⟩) ?_)
  rintro vl s2 ⟨_, _, I2, pl, rfl, rfl⟩
  refine thn (po_none.run pins s2 σ _ (fun o H3 => o = none ∧ H3 = _) I2 ⟨rfl, rfl⟩) ?_
  rintro vu s3 ⟨_, _, I3, pu, rfl, rfl⟩
  refine thn (hst.run pins s3 σ _ (fun o H4 => o = some (-1) ∧ H4 = _) I3 ⟨1, rfl, -1, rfl, rfl, rfl⟩) ?_
  rintro vs s4 ⟨_, H4, I4, ps, rfl, rfl⟩
  have J : Inv X pins σ H4 { s4 with heap := s4.heap.push { cls := .type "slice", data := .fields #[vl, vu, vs] } } := I4.kept (t' := s4.toks) fun b ob z => Heap.get?_push_of_some _ z
  obtain ⟨its, r, ht, hz⟩ := J.tuple hx
  have hlen := r.length
  show wpAny (model X.prog X.w) X.A (subscriptTail e (.Slice none none (some (.UnaryOp .USub (.Constant (.int 1) k p1) p2)) p3) (.ref a) (.ref s4.heap.objs.size)) (EP X pins σ Q) X.xe { s4 with heap := s4.heap.push { cls := .type "slice", data := .fields #[vl, vu, vs] } }
  refine tail_any (ops := [.ref a, .ref s4.heap.objs.size]) ht.typeIs PyProof.Rows.slot_tuple_getitem.lookup ?_ (by with_unfolding_all rfl)
  refine back_get ht (Heap.IsSliceOf.new _ vl vu vs) pl pu ps ?_ (by rw [List.size_toArray]; omega)
  refine ⟨.ref _, _, J.laid (t' := s4.toks) (o := .tup xs.reverse) (fun b ob z => Heap.get?_push_of_some _ z) (Nat.le_refl _) ?_, rfl, q _ (J.hok.fresh (Nat.le_refl _))⟩
  exact ⟨by rw [List.length_reverse]; exact hz, _, r.reverse, _, Heap.get?_push_size _ rfl, rfl, 0, by simp⟩
end
end My

set_option Elab.async false
set_option maxRecDepth 100000
namespace My
open PySem L2 Evl
def top (i : Nat) : Stmt := PySem.Challenge.pw_roundedsteps_k81_whole_rows_renewed_and.main.body.getD i (.Pass ⟨0, 0, 0, 0⟩)
abbrev s_is_whole : Stmt := (top 10)
abbrev N_is_whole : List Str := ["value"]
theorem sc_is_whole : FnScope N_is_whole ["value"] (defScope s_is_whole) := ⟨rfl, rfl, rfl, by decide +kernel, rfl, by decide +kernel, by decide +kernel⟩
abbrev s_is_from_to : Stmt := (top 11)
abbrev N_is_from_to : List Str := ["value", "low", "high"]
theorem sc_is_from_to : FnScope N_is_from_to ["value", "low", "high"] (defScope s_is_from_to) := ⟨rfl, rfl, rfl, by decide +kernel, rfl, by decide +kernel, by decide +kernel⟩
abbrev s_power : Stmt := (top 12)
abbrev N_power : List Str := ["base", "exponent", "number", "_"]
theorem sc_power : FnScope N_power ["base", "exponent"] (defScope s_power) := ⟨rfl, rfl, rfl, by decide +kernel, rfl, by decide +kernel, by decide +kernel⟩
abbrev s_Grid_init : Stmt := (inClass (top 16) 0)
abbrev N_Grid_init : List Str := ["self", "base", "figures", "reach", "places", "told", "extra", "limit"]
theorem sc_Grid_init : FnScope N_Grid_init ["self", "base", "figures", "reach", "places"] (defScope s_Grid_init) := ⟨rfl, rfl, rfl, by decide +kernel, rfl, by decide +kernel, by decide +kernel⟩
abbrev s_Grid_contains : Stmt := (inClass (top 16) 2)
abbrev N_Grid_contains : List Str := ["self", "value"]
theorem sc_Grid_contains : FnScope N_Grid_contains ["self", "value"] (defScope s_Grid_contains) := ⟨rfl, rfl, rfl, by decide +kernel, rfl, by decide +kernel, by decide +kernel⟩
abbrev s_is_grid : Stmt := (top 17)
abbrev N_is_grid : List Str := ["told", "base", "figures", "reach", "places"]
theorem sc_is_grid : FnScope N_is_grid ["told"] (defScope s_is_grid) := ⟨rfl, rfl, rfl, by decide +kernel, rfl, by decide +kernel, by decide +kernel⟩
abbrev s_spacing_at : Stmt := (top 18)
abbrev N_spacing_at : List Str := ["grid", "size", "more", "spacing", "limit"]
theorem sc_spacing_at : FnScope N_spacing_at ["grid", "size", "more"] (defScope s_spacing_at) := ⟨rfl, rfl, rfl, by decide +kernel, rfl, by decide +kernel, by decide +kernel⟩
abbrev s_fitted : Stmt := (top 22)
abbrev N_fitted : List Str := ["grid", "top", "bottom", "way", "more", "spacing", "step", "below", "left", "number"]
theorem sc_fitted : FnScope N_fitted ["grid", "top", "bottom", "way", "more"] (defScope s_fitted) := ⟨rfl, rfl, rfl, by decide +kernel, rfl, by decide +kernel, by decide +kernel⟩
abbrev s_goes_up : Stmt := (top 23)
abbrev N_goes_up : List Str := ["below", "left", "step", "way"]
theorem sc_goes_up : FnScope N_goes_up ["below", "left", "step", "way"] (defScope s_goes_up) := ⟨rfl, rfl, rfl, by decide +kernel, rfl, by decide +kernel, by decide +kernel⟩
abbrev s_row_worth : Stmt := (top 26)
abbrev N_row_worth : List Str := ["grid", "row"]
theorem sc_row_worth : FnScope N_row_worth ["grid", "row"] (defScope s_row_worth) := ⟨rfl, rfl, rfl, by decide +kernel, rfl, by decide +kernel, by decide +kernel⟩
abbrev s_renewed : Stmt := (top 27)
abbrev N_renewed : List Str := ["grid", "worth"]
theorem sc_renewed : FnScope N_renewed ["grid", "worth"] (defScope s_renewed) := ⟨rfl, rfl, rfl, by decide +kernel, rfl, by decide +kernel, by decide +kernel⟩
abbrev s_renewed_row : Stmt := (top 28)
abbrev N_renewed_row : List Str := ["grid", "row", "worth"]
theorem sc_renewed_row : FnScope N_renewed_row ["grid", "row"] (defScope s_renewed_row) := ⟨rfl, rfl, rfl, by decide +kernel, rfl, by decide +kernel, by decide +kernel⟩
abbrev s_shows_shortest : Stmt := (top 29)
abbrev N_shows_shortest : List Str := ["grid", "worth", "value"]
theorem sc_shows_shortest : FnScope N_shows_shortest ["grid", "worth", "value"] (defScope s_shows_shortest) := ⟨rfl, rfl, rfl, by decide +kernel, rfl, by decide +kernel, by decide +kernel⟩
abbrev s_rounded_parts : Stmt := (top 30)
abbrev N_rounded_parts : List Str := ["grid", "worth", "row", "left", "number"]
theorem sc_rounded_parts : FnScope N_rounded_parts ["grid", "worth"] (defScope s_rounded_parts) := ⟨rfl, rfl, rfl, by decide +kernel, rfl, by decide +kernel, by decide +kernel⟩
abbrev s_is_numbers : Stmt := (top 31)
abbrev N_is_numbers : List Str := ["grid", "value", "part"]
theorem sc_is_numbers : FnScope N_is_numbers ["grid", "value"] (defScope s_is_numbers) := ⟨rfl, rfl, rfl, by decide +kernel, rfl, by decide +kernel, by decide +kernel⟩
abbrev s_is_row : Stmt := (top 32)
abbrev N_is_row : List Str := ["grid", "value"]
theorem sc_is_row : FnScope N_is_row ["grid", "value"] (defScope s_is_row) := ⟨rfl, rfl, rfl, by decide +kernel, rfl, by decide +kernel, by decide +kernel⟩
abbrev s_check_row : Stmt := (top 33)
abbrev N_check_row : List Str := ["grid", "row"]
theorem sc_check_row : FnScope N_check_row ["grid", "row"] (defScope s_check_row) := ⟨rfl, rfl, rfl, by decide +kernel, rfl, by decide +kernel, by decide +kernel⟩
abbrev s_check_reached : Stmt := (top 34)
abbrev N_check_reached : List Str := ["grid", "worth"]
theorem sc_check_reached : FnScope N_check_reached ["grid", "worth"] (defScope s_check_reached) := ⟨rfl, rfl, rfl, by decide +kernel, rfl, by decide +kernel, by decide +kernel⟩
abbrev s_l_pot : Stmt := (top 36)
abbrev N_l_pot : List Str := ["script", "place", "cell", "own", "small"]
theorem sc_l_pot : FnScope N_l_pot ["script", "place"] (defScope s_l_pot) := ⟨rfl, rfl, rfl, by decide +kernel, rfl, by decide +kernel, by decide +kernel⟩
abbrev s_l_take : Stmt := (top 37)
abbrev N_l_take : List Str := ["pot", "upto", "prime", "blend", "digit"]
theorem sc_l_take : FnScope N_l_take ["pot", "upto"] (defScope s_l_take) := ⟨rfl, rfl, rfl, by decide +kernel, rfl, by decide +kernel, by decide +kernel⟩
abbrev s_l_of : Stmt := (top 38)
abbrev N_l_of : List Str := ["pot", "some"]
theorem sc_l_of : FnScope N_l_of ["pot", "some"] (defScope s_l_of) := ⟨rfl, rfl, rfl, by decide +kernel, rfl, by decide +kernel, by decide +kernel⟩
abbrev s_l_grid_power : Stmt := (top 39)
abbrev N_l_grid_power : List Str := ["base", "many", "found", "lap"]
theorem sc_l_grid_power : FnScope N_l_grid_power ["base", "many"] (defScope s_l_grid_power) := ⟨rfl, rfl, rfl, by decide +kernel, rfl, by decide +kernel, by decide +kernel⟩
abbrev s_l_grid_ladder : Stmt := (top 40)
abbrev N_l_grid_ladder : List Str := ["grid", "bound", "spacing", "found", "lap", "at"]
theorem sc_l_grid_ladder : FnScope N_l_grid_ladder ["grid"] (defScope s_l_grid_ladder) := ⟨rfl, rfl, rfl, by decide +kernel, rfl, by decide +kernel, by decide +kernel⟩
abbrev s_l_grid_more : Stmt := (top 41)
abbrev N_l_grid_more : List Str := ["grid", "more"]
theorem sc_l_grid_more : FnScope N_l_grid_more ["grid", "more"] (defScope s_l_grid_more) := ⟨rfl, rfl, rfl, by decide +kernel, rfl, by decide +kernel, by decide +kernel⟩
abbrev s_l_grid_spacing : Stmt := (top 42)
abbrev N_l_grid_spacing : List Str := ["grid", "top", "bottom", "spacing", "bound"]
theorem sc_l_grid_spacing : FnScope N_l_grid_spacing ["grid", "top", "bottom"] (defScope s_l_grid_spacing) := ⟨rfl, rfl, rfl, by decide +kernel, rfl, by decide +kernel, by decide +kernel⟩
abbrev s_l_grid_greatest : Stmt := (top 43)
abbrev N_l_grid_greatest : List Str := ["grid"]
theorem sc_l_grid_greatest : FnScope N_l_grid_greatest ["grid"] (defScope s_l_grid_greatest) := ⟨rfl, rfl, rfl, by decide +kernel, rfl, by decide +kernel, by decide +kernel⟩
abbrev s_l_grid_rounded : Stmt := (top 44)
abbrev N_l_grid_rounded : List Str := ["grid", "top", "bottom", "way", "more", "fine", "spacing", "below", "left", "number", "twice", "step"]
theorem sc_l_grid_rounded : FnScope N_l_grid_rounded ["grid", "top", "bottom", "way", "more"] (defScope s_l_grid_rounded) := ⟨rfl, rfl, rfl, by decide +kernel, rfl, by decide +kernel, by decide +kernel⟩
abbrev s_l_is_int : Stmt := (top 45)
abbrev N_l_is_int : List Str := ["value", "low", "high"]
theorem sc_l_is_int : FnScope N_l_is_int ["value", "low", "high"] (defScope s_l_is_int) := ⟨rfl, rfl, rfl, by decide +kernel, rfl, by decide +kernel, by decide +kernel⟩
abbrev s_l_grid_has : Stmt := (top 46)
abbrev N_l_grid_has : List Str := ["grid", "number"]
theorem sc_l_grid_has : FnScope N_l_grid_has ["grid", "number"] (defScope s_l_grid_has) := ⟨rfl, rfl, rfl, by decide +kernel, rfl, by decide +kernel, by decide +kernel⟩
abbrev s_l_odd : Stmt := (top 47)
abbrev N_l_odd : List Str := ["pot", "some"]
theorem sc_l_odd : FnScope N_l_odd ["pot"] (defScope s_l_odd) := ⟨rfl, rfl, rfl, by decide +kernel, rfl, by decide +kernel, by decide +kernel⟩
abbrev s_l_bent : Stmt := (top 49)
abbrev N_l_bent : List Str := ["pot", "value", "at", "some", "sign"]
theorem sc_l_bent : FnScope N_l_bent ["pot", "value"] (defScope s_l_bent) := ⟨rfl, rfl, rfl, by decide +kernel, rfl, by decide +kernel, by decide +kernel⟩
abbrev s_l_cells : Stmt := (top 50)
abbrev N_l_cells : List Str := ["script", "most"]
theorem sc_l_cells : FnScope N_l_cells ["script", "most"] (defScope s_l_cells) := ⟨rfl, rfl, rfl, by decide +kernel, rfl, by decide +kernel, by decide +kernel⟩
abbrev s_l_small : Stmt := (top 51)
abbrev N_l_small : List Str := ["pot", "grid"]
theorem sc_l_small : FnScope N_l_small ["pot"] (defScope s_l_small) := ⟨rfl, rfl, rfl, by decide +kernel, rfl, by decide +kernel, by decide +kernel⟩
abbrev s_l_lengths : Stmt := (top 52)
abbrev N_l_lengths : List Str := ["ladder", "every", "found", "ends", "most", "size", "later", "worth", "number"]
theorem sc_l_lengths : FnScope N_l_lengths ["ladder"] (defScope s_l_lengths) := ⟨rfl, rfl, rfl, by decide +kernel, rfl, by decide +kernel, by decide +kernel⟩
abbrev s_l_own_renewed : Stmt := (top 53)
abbrev N_l_own_renewed : List Str := ["grid", "worth", "found", "number"]
theorem sc_l_own_renewed : FnScope N_l_own_renewed ["grid", "worth"] (defScope s_l_own_renewed) := ⟨rfl, rfl, rfl, by decide +kernel, rfl, by decide +kernel, by decide +kernel⟩
abbrev s_l_near_rows : Stmt := (top 54)
abbrev N_l_near_rows : List Str := ["pot", "row", "every", "found", "one", "other"]
theorem sc_l_near_rows : FnScope N_l_near_rows ["pot", "row", "every"] (defScope s_l_near_rows) := ⟨rfl, rfl, rfl, by decide +kernel, rfl, by decide +kernel, by decide +kernel⟩
abbrev s_l_is_shortest : Stmt := (top 55)
abbrev N_l_is_shortest : List Str := ["grid", "worth", "size", "value", "one"]
theorem sc_l_is_shortest : FnScope N_l_is_shortest ["grid", "worth", "size", "value"] (defScope s_l_is_shortest) := ⟨rfl, rfl, rfl, by decide +kernel, rfl, by decide +kernel, by decide +kernel⟩
abbrev s_l_right : Stmt := (top 56)
abbrev N_l_right : List Str := ["pot", "grid", "ladder", "made", "most", "every", "lengths", "worth", "lap", "row", "value"]
theorem sc_l_right : FnScope N_l_right ["pot"] (defScope s_l_right) := ⟨rfl, rfl, rfl, by decide +kernel, rfl, by decide +kernel, by decide +kernel⟩
abbrev s_law : Stmt := (top 57)
abbrev N_law : List Str := ["script", "place"]
theorem sc_law : FnScope N_law ["script"] (defScope s_law) := ⟨rfl, rfl, rfl, by decide +kernel, rfl, by decide +kernel, by decide +kernel⟩
structure Ad where
  is_whole : Addr
  is_whole_fd : FuncData
  is_from_to : Addr
  is_from_to_fd : FuncData
  power : Addr
  power_fd : FuncData
  Grid_init : Addr
  Grid_init_fd : FuncData
  Grid_contains : Addr
  Grid_contains_fd : FuncData
  is_grid : Addr
  is_grid_fd : FuncData
  spacing_at : Addr
  spacing_at_fd : FuncData
  fitted : Addr
  fitted_fd : FuncData
  goes_up : Addr
  goes_up_fd : FuncData
  row_worth : Addr
  row_worth_fd : FuncData
  renewed : Addr
  renewed_fd : FuncData
  renewed_row : Addr
  renewed_row_fd : FuncData
  shows_shortest : Addr
  shows_shortest_fd : FuncData
  rounded_parts : Addr
  rounded_parts_fd : FuncData
  is_numbers : Addr
  is_numbers_fd : FuncData
  is_row : Addr
  is_row_fd : FuncData
  check_row : Addr
  check_row_fd : FuncData
  check_reached : Addr
  check_reached_fd : FuncData
  l_pot : Addr
  l_pot_fd : FuncData
  l_take : Addr
  l_take_fd : FuncData
  l_of : Addr
  l_of_fd : FuncData
  l_grid_power : Addr
  l_grid_power_fd : FuncData
  l_grid_ladder : Addr
  l_grid_ladder_fd : FuncData
  l_grid_more : Addr
  l_grid_more_fd : FuncData
  l_grid_spacing : Addr
  l_grid_spacing_fd : FuncData
  l_grid_greatest : Addr
  l_grid_greatest_fd : FuncData
  l_grid_rounded : Addr
  l_grid_rounded_fd : FuncData
  l_is_int : Addr
  l_is_int_fd : FuncData
  l_grid_has : Addr
  l_grid_has_fd : FuncData
  l_odd : Addr
  l_odd_fd : FuncData
  l_bent : Addr
  l_bent_fd : FuncData
  l_cells : Addr
  l_cells_fd : FuncData
  l_small : Addr
  l_small_fd : FuncData
  l_lengths : Addr
  l_lengths_fd : FuncData
  l_own_renewed : Addr
  l_own_renewed_fd : FuncData
  l_near_rows : Addr
  l_near_rows_fd : FuncData
  l_is_shortest : Addr
  l_is_shortest_fd : FuncData
  l_right : Addr
  l_right_fd : FuncData
  law : Addr
  law_fd : FuncData
  Grid : Addr
structure Txt (K : PySem.W.Frag) (mg : Str → Option Value) (a : Ad) : Prop where
  F_is_whole : Fun K "is_whole" "is_whole" s_is_whole a.is_whole a.is_whole_fd
  B_is_whole : Binds K a.is_whole_fd ["value"] []
  g_is_whole : mg "is_whole" = some (.ref a.is_whole)
  k_is_whole : PySem.W.keepIn K (.ref a.is_whole) = true
  F_is_from_to : Fun K "is_from_to" "is_from_to" s_is_from_to a.is_from_to a.is_from_to_fd
  B_is_from_to : Binds K a.is_from_to_fd ["value", "low", "high"] []
  g_is_from_to : mg "is_from_to" = some (.ref a.is_from_to)
  k_is_from_to : PySem.W.keepIn K (.ref a.is_from_to) = true
  F_power : Fun K "power" "power" s_power a.power a.power_fd
  B_power : Binds K a.power_fd ["base", "exponent"] []
  g_power : mg "power" = some (.ref a.power)
  k_power : PySem.W.keepIn K (.ref a.power) = true
  F_Grid_init : Fun K "__init__" "Grid.__init__" s_Grid_init a.Grid_init a.Grid_init_fd
  B_Grid_init : Binds K a.Grid_init_fd ["self", "base", "figures", "reach", "places"] []
  F_Grid_contains : Fun K "__contains__" "Grid.__contains__" s_Grid_contains a.Grid_contains a.Grid_contains_fd
  B_Grid_contains : Binds K a.Grid_contains_fd ["self", "value"] []
  m_Grid_contains : PySem.W.findIn K (.ref a.Grid) "__contains__" = some (some (.ref a.Grid_contains)) ∧ PySem.W.isFn K (.ref a.Grid_contains) = true
  F_is_grid : Fun K "is_grid" "is_grid" s_is_grid a.is_grid a.is_grid_fd
  B_is_grid : Binds K a.is_grid_fd ["told"] []
  g_is_grid : mg "is_grid" = some (.ref a.is_grid)
  k_is_grid : PySem.W.keepIn K (.ref a.is_grid) = true
  F_spacing_at : Fun K "spacing_at" "spacing_at" s_spacing_at a.spacing_at a.spacing_at_fd
  B_spacing_at : Binds K a.spacing_at_fd ["grid", "size", "more"] []
  g_spacing_at : mg "spacing_at" = some (.ref a.spacing_at)
  k_spacing_at : PySem.W.keepIn K (.ref a.spacing_at) = true
  F_fitted : Fun K "fitted" "fitted" s_fitted a.fitted a.fitted_fd
  B_fitted : Binds K a.fitted_fd ["grid", "top", "bottom", "way", "more"] []
  g_fitted : mg "fitted" = some (.ref a.fitted)
  k_fitted : PySem.W.keepIn K (.ref a.fitted) = true
  F_goes_up : Fun K "goes_up" "goes_up" s_goes_up a.goes_up a.goes_up_fd
  B_goes_up : Binds K a.goes_up_fd ["below", "left", "step", "way"] []
  g_goes_up : mg "goes_up" = some (.ref a.goes_up)
  k_goes_up : PySem.W.keepIn K (.ref a.goes_up) = true
  F_row_worth : Fun K "row_worth" "row_worth" s_row_worth a.row_worth a.row_worth_fd
  B_row_worth : Binds K a.row_worth_fd ["grid", "row"] []
  g_row_worth : mg "row_worth" = some (.ref a.row_worth)
  k_row_worth : PySem.W.keepIn K (.ref a.row_worth) = true
  F_renewed : Fun K "renewed" "renewed" s_renewed a.renewed a.renewed_fd
  B_renewed : Binds K a.renewed_fd ["grid", "worth"] []
  g_renewed : mg "renewed" = some (.ref a.renewed)
  k_renewed : PySem.W.keepIn K (.ref a.renewed) = true
  F_renewed_row : Fun K "renewed_row" "renewed_row" s_renewed_row a.renewed_row a.renewed_row_fd
  B_renewed_row : Binds K a.renewed_row_fd ["grid", "row"] []
  g_renewed_row : mg "renewed_row" = some (.ref a.renewed_row)
  k_renewed_row : PySem.W.keepIn K (.ref a.renewed_row) = true
  F_shows_shortest : Fun K "shows_shortest" "shows_shortest" s_shows_shortest a.shows_shortest a.shows_shortest_fd
  B_shows_shortest : Binds K a.shows_shortest_fd ["grid", "worth", "value"] []
  g_shows_shortest : mg "shows_shortest" = some (.ref a.shows_shortest)
  k_shows_shortest : PySem.W.keepIn K (.ref a.shows_shortest) = true
  F_rounded_parts : Fun K "rounded_parts" "rounded_parts" s_rounded_parts a.rounded_parts a.rounded_parts_fd
  B_rounded_parts : Binds K a.rounded_parts_fd ["grid", "worth"] []
  g_rounded_parts : mg "rounded_parts" = some (.ref a.rounded_parts)
  k_rounded_parts : PySem.W.keepIn K (.ref a.rounded_parts) = true
  F_is_numbers : Fun K "is_numbers" "is_numbers" s_is_numbers a.is_numbers a.is_numbers_fd
  B_is_numbers : Binds K a.is_numbers_fd ["grid", "value"] []
  g_is_numbers : mg "is_numbers" = some (.ref a.is_numbers)
  k_is_numbers : PySem.W.keepIn K (.ref a.is_numbers) = true
  F_is_row : Fun K "is_row" "is_row" s_is_row a.is_row a.is_row_fd
  B_is_row : Binds K a.is_row_fd ["grid", "value"] []
  g_is_row : mg "is_row" = some (.ref a.is_row)
  k_is_row : PySem.W.keepIn K (.ref a.is_row) = true
  F_check_row : Fun K "check_row" "check_row" s_check_row a.check_row a.check_row_fd
  B_check_row : Binds K a.check_row_fd ["grid", "row"] []
  g_check_row : mg "check_row" = some (.ref a.check_row)
  k_check_row : PySem.W.keepIn K (.ref a.check_row) = true
  F_check_reached : Fun K "check_reached" "check_reached" s_check_reached a.check_reached a.check_reached_fd
  B_check_reached : Binds K a.check_reached_fd ["grid", "worth"] []
  g_check_reached : mg "check_reached" = some (.ref a.check_reached)
  k_check_reached : PySem.W.keepIn K (.ref a.check_reached) = true
  F_l_pot : Fun K "_law_pot" "_law_pot" s_l_pot a.l_pot a.l_pot_fd
  B_l_pot : Binds K a.l_pot_fd ["script", "place"] []
  g_l_pot : mg "_law_pot" = some (.ref a.l_pot)
  k_l_pot : PySem.W.keepIn K (.ref a.l_pot) = true
  F_l_take : Fun K "_law_take" "_law_take" s_l_take a.l_take a.l_take_fd
  B_l_take : Binds K a.l_take_fd ["pot", "upto"] []
  g_l_take : mg "_law_take" = some (.ref a.l_take)
  k_l_take : PySem.W.keepIn K (.ref a.l_take) = true
  F_l_of : Fun K "_law_of" "_law_of" s_l_of a.l_of a.l_of_fd
  B_l_of : Binds K a.l_of_fd ["pot", "some"] []
  g_l_of : mg "_law_of" = some (.ref a.l_of)
  k_l_of : PySem.W.keepIn K (.ref a.l_of) = true
  F_l_grid_power : Fun K "_law_grid_power" "_law_grid_power" s_l_grid_power a.l_grid_power a.l_grid_power_fd
  B_l_grid_power : Binds K a.l_grid_power_fd ["base", "many"] []
  g_l_grid_power : mg "_law_grid_power" = some (.ref a.l_grid_power)
  k_l_grid_power : PySem.W.keepIn K (.ref a.l_grid_power) = true
  F_l_grid_ladder : Fun K "_law_grid_ladder" "_law_grid_ladder" s_l_grid_ladder a.l_grid_ladder a.l_grid_ladder_fd
  B_l_grid_ladder : Binds K a.l_grid_ladder_fd ["grid"] []
  g_l_grid_ladder : mg "_law_grid_ladder" = some (.ref a.l_grid_ladder)
  k_l_grid_ladder : PySem.W.keepIn K (.ref a.l_grid_ladder) = true
  F_l_grid_more : Fun K "_law_grid_more" "_law_grid_more" s_l_grid_more a.l_grid_more a.l_grid_more_fd
  B_l_grid_more : Binds K a.l_grid_more_fd ["grid", "more"] []
  g_l_grid_more : mg "_law_grid_more" = some (.ref a.l_grid_more)
  k_l_grid_more : PySem.W.keepIn K (.ref a.l_grid_more) = true
  F_l_grid_spacing : Fun K "_law_grid_spacing" "_law_grid_spacing" s_l_grid_spacing a.l_grid_spacing a.l_grid_spacing_fd
  B_l_grid_spacing : Binds K a.l_grid_spacing_fd ["grid", "top", "bottom"] []
  g_l_grid_spacing : mg "_law_grid_spacing" = some (.ref a.l_grid_spacing)
  k_l_grid_spacing : PySem.W.keepIn K (.ref a.l_grid_spacing) = true
  F_l_grid_greatest : Fun K "_law_grid_greatest" "_law_grid_greatest" s_l_grid_greatest a.l_grid_greatest a.l_grid_greatest_fd
  B_l_grid_greatest : Binds K a.l_grid_greatest_fd ["grid"] []
  g_l_grid_greatest : mg "_law_grid_greatest" = some (.ref a.l_grid_greatest)
  k_l_grid_greatest : PySem.W.keepIn K (.ref a.l_grid_greatest) = true
  F_l_grid_rounded : Fun K "_law_grid_rounded" "_law_grid_rounded" s_l_grid_rounded a.l_grid_rounded a.l_grid_rounded_fd
  B_l_grid_rounded : Binds K a.l_grid_rounded_fd ["grid", "top", "bottom", "way", "more"] []
  g_l_grid_rounded : mg "_law_grid_rounded" = some (.ref a.l_grid_rounded)
  k_l_grid_rounded : PySem.W.keepIn K (.ref a.l_grid_rounded) = true
  F_l_is_int : Fun K "_law_is_int" "_law_is_int" s_l_is_int a.l_is_int a.l_is_int_fd
  B_l_is_int : Binds K a.l_is_int_fd ["value", "low", "high"] []
  g_l_is_int : mg "_law_is_int" = some (.ref a.l_is_int)
  k_l_is_int : PySem.W.keepIn K (.ref a.l_is_int) = true
  F_l_grid_has : Fun K "_law_grid_has" "_law_grid_has" s_l_grid_has a.l_grid_has a.l_grid_has_fd
  B_l_grid_has : Binds K a.l_grid_has_fd ["grid", "number"] []
  g_l_grid_has : mg "_law_grid_has" = some (.ref a.l_grid_has)
  k_l_grid_has : PySem.W.keepIn K (.ref a.l_grid_has) = true
  F_l_odd : Fun K "_law_odd" "_law_odd" s_l_odd a.l_odd a.l_odd_fd
  B_l_odd : Binds K a.l_odd_fd ["pot"] []
  g_l_odd : mg "_law_odd" = some (.ref a.l_odd)
  k_l_odd : PySem.W.keepIn K (.ref a.l_odd) = true
  F_l_bent : Fun K "_law_bent" "_law_bent" s_l_bent a.l_bent a.l_bent_fd
  B_l_bent : Binds K a.l_bent_fd ["pot", "value"] []
  g_l_bent : mg "_law_bent" = some (.ref a.l_bent)
  k_l_bent : PySem.W.keepIn K (.ref a.l_bent) = true
  F_l_cells : Fun K "_law_cells" "_law_cells" s_l_cells a.l_cells a.l_cells_fd
  B_l_cells : Binds K a.l_cells_fd ["script", "most"] []
  g_l_cells : mg "_law_cells" = some (.ref a.l_cells)
  k_l_cells : PySem.W.keepIn K (.ref a.l_cells) = true
  F_l_small : Fun K "_law_small" "_law_small" s_l_small a.l_small a.l_small_fd
  B_l_small : Binds K a.l_small_fd ["pot"] []
  g_l_small : mg "_law_small" = some (.ref a.l_small)
  k_l_small : PySem.W.keepIn K (.ref a.l_small) = true
  F_l_lengths : Fun K "_law_lengths" "_law_lengths" s_l_lengths a.l_lengths a.l_lengths_fd
  B_l_lengths : Binds K a.l_lengths_fd ["ladder"] []
  g_l_lengths : mg "_law_lengths" = some (.ref a.l_lengths)
  k_l_lengths : PySem.W.keepIn K (.ref a.l_lengths) = true
  F_l_own_renewed : Fun K "_law_own_renewed" "_law_own_renewed" s_l_own_renewed a.l_own_renewed a.l_own_renewed_fd
  B_l_own_renewed : Binds K a.l_own_renewed_fd ["grid", "worth"] []
  g_l_own_renewed : mg "_law_own_renewed" = some (.ref a.l_own_renewed)
  k_l_own_renewed : PySem.W.keepIn K (.ref a.l_own_renewed) = true
  F_l_near_rows : Fun K "_law_near_rows" "_law_near_rows" s_l_near_rows a.l_near_rows a.l_near_rows_fd
  B_l_near_rows : Binds K a.l_near_rows_fd ["pot", "row", "every"] []
  g_l_near_rows : mg "_law_near_rows" = some (.ref a.l_near_rows)
  k_l_near_rows : PySem.W.keepIn K (.ref a.l_near_rows) = true
  F_l_is_shortest : Fun K "_law_is_shortest" "_law_is_shortest" s_l_is_shortest a.l_is_shortest a.l_is_shortest_fd
  B_l_is_shortest : Binds K a.l_is_shortest_fd ["grid", "worth", "size", "value"] []
  g_l_is_shortest : mg "_law_is_shortest" = some (.ref a.l_is_shortest)
  k_l_is_shortest : PySem.W.keepIn K (.ref a.l_is_shortest) = true
  F_l_right : Fun K "_law_right" "_law_right" s_l_right a.l_right a.l_right_fd
  B_l_right : Binds K a.l_right_fd ["pot"] []
  g_l_right : mg "_law_right" = some (.ref a.l_right)
  k_l_right : PySem.W.keepIn K (.ref a.l_right) = true
  F_law : Fun K "law" "law" s_law a.law a.law_fd
  B_law : Binds K a.law_fd ["script"] []
  g_law : mg "law" = some (.ref a.law)
  k_law : PySem.W.keepIn K (.ref a.law) = true
  cl_Grid : Cls K a.Grid
  mk_Grid : Mk K a.Grid a.Grid_init
  g_Grid : mg "Grid" = some (.ref a.Grid)
  f_Grid_base : NoAttr K a.Grid "base"
  f_Grid_figures : NoAttr K a.Grid "figures"
  f_Grid_reach : NoAttr K a.Grid "reach"
  f_Grid_places : NoAttr K a.Grid "places"
  f_Grid_unit : NoAttr K a.Grid "unit"
  f_Grid_limits : NoAttr K a.Grid "limits"
  f_Grid_tops : NoAttr K a.Grid "tops"
  f_Grid_greatest : NoAttr K a.Grid "greatest"
  c_MOST_FIGURES : ∃ t, mg "MOST_FIGURES" = some (.int 30 t)
  c_MOST_MORE : ∃ t, mg "MOST_MORE" = some (.int 3 t)
  c_LONGEST_ROW : ∃ t, mg "LONGEST_ROW" = some (.int 100 t)
  n_abs : mg "abs" = none
  n_all : mg "all" = none
  n_bool : mg "bool" = none
  n_int : mg "int" = none
  n_isinstance : mg "isinstance" = none
  n_len : mg "len" = none
  n_list : mg "list" = none
  n_max : mg "max" = none
  n_min : mg "min" = none
  n_range : mg "range" = none
  n_repr : mg "repr" = none
  n_str : mg "str" = none
  n_sum : mg "sum" = none
  n_tuple : mg "tuple" = none
end My

namespace My
/-! ### the mathematics: spacings, rounding near and towards zero, renewed rows -/
def spx (b L n : Nat) : Nat := if h : 2 ≤ b ∧ 1 ≤ L ∧ L ≤ n then 1 + spx b (L * b) n else 0
termination_by n + 1 - L
decreasing_by
  have h2 : L * 2 ≤ L * b := Nat.mul_le_mul_left L h.1
  omega
theorem spx_lt {b L n : Nat} (h : n < L) : spx b L n = 0 := by
  unfold spx
  rw [dif_neg (by omega)]
theorem spx_ge {b L n : Nat} (hb : 2 ≤ b) (hL : 1 ≤ L) (h : L ≤ n) : spx b L n = 1 + spx b (L * b) n := by
  rw [spx, dif_pos ⟨hb, hL, h⟩]
theorem spx_bound {b n : Nat} (hb : 2 ≤ b) : ∀ (k L : Nat), n + 1 - L ≤ k → 1 ≤ L → n < L * b ^ spx b L n
  | 0, L, hk, hL => by
    rw [spx_lt (by omega), Nat.pow_zero]
    omega
  | k + 1, L, hk, hL => by
    by_cases h : n < L
    · rw [spx_lt h, Nat.pow_zero]; omega
    · have h2 : L * 2 ≤ L * b := Nat.mul_le_mul_left L hb
      rw [spx_ge hb hL (by omega), Nat.pow_add, Nat.pow_one, ← Nat.mul_assoc]
      exact spx_bound hb k (L * b) (by omega) (by omega)
theorem spx_up {b L n : Nat} (hb : 2 ≤ b) (hL : 1 ≤ L) : n < L * b ^ spx b L n := spx_bound hb _ L (Nat.le_refl _) hL
theorem spx_low {b n : Nat} (hb : 2 ≤ b) : ∀ (k L : Nat), 1 ≤ L → k < spx b L n → L * b ^ k ≤ n
  | 0, L, hL, h => by
    by_cases h' : n < L
    · rw [spx_lt h'] at h; omega
    · rw [Nat.pow_zero]; omega
  | k + 1, L, hL, h => by
    by_cases h' : n < L
    · rw [spx_lt h'] at h; omega
    · rw [spx_ge hb hL (by omega)] at h
      have h2 : L * 2 ≤ L * b := Nat.mul_le_mul_left L hb
      have := spx_low (n := n) hb k (L * b) (by omega) (by omega)
      rw [Nat.pow_succ, Nat.mul_comm (b ^ k) b, ← Nat.mul_assoc]
      exact this
theorem spx_le {b L n k : Nat} (hb : 2 ≤ b) (hL : 1 ≤ L) (h : n < L * b ^ k) : spx b L n ≤ k := by
  refine Nat.le_of_not_lt fun hk => ?_
  have := spx_low hb k L hL hk
  omega
theorem spx_step {b L n k : Nat} (hb : 2 ≤ b) (hL : 1 ≤ L) (h : L * b ^ k ≤ n) (e : spx b L n = k + spx b (L * b ^ k) n) : spx b L n = (k + 1) + spx b (L * b ^ (k + 1)) n := by
  have hp : 1 ≤ b ^ k := Nat.pow_pos (by omega)
  have : 1 ≤ L * b ^ k := Nat.mul_pos hL hp
  rw [e, spx_ge hb this h, Nat.pow_succ, ← Nat.mul_assoc]
  omega

/-- the spacing at a size -/
def spc (b L n : Nat) : Nat := b ^ spx b L n
theorem spc_pos {b L n : Nat} (hb : 2 ≤ b) : 0 < spc b L n := Nat.pow_pos (by omega)

/-- rounded near, rounded towards zero; without an end -/
def rn (b L : Nat) (t : Int) : Int :=
  if (spc b L t.natAbs : Int) < 2 * (t % (spc b L t.natAbs : Int)) ∨ (2 * (t % (spc b L t.natAbs : Int)) = (spc b L t.natAbs : Int) ∧ t / (spc b L t.natAbs : Int) % 2 = 1) then (t / (spc b L t.natAbs : Int) + 1) * (spc b L t.natAbs : Int)
  else t / (spc b L t.natAbs : Int) * (spc b L t.natAbs : Int)
def rz (b L : Nat) (t : Int) : Int :=
  if 0 < t % (spc b L t.natAbs : Int) ∧ t < 0 then (t / (spc b L t.natAbs : Int) + 1) * (spc b L t.natAbs : Int) else t / (spc b L t.natAbs : Int) * (spc b L t.natAbs : Int)

/-- a grid: base, first integer with too many figures, greatest number -/
structure Gr (b f r L G : Nat) : Prop where
  hb : 2 ≤ b
  hf : 1 ≤ f
  eL : L = b ^ f
  eG : G = (L - 1) * b ^ r
theorem Gr.L1 {b f r L G : Nat} (g : Gr b f r L G) : 2 ≤ L := by
  rw [g.eL]
  have h1 : b ^ 1 ≤ b ^ f := Nat.pow_le_pow_right (by have := g.hb; omega) g.hf
  have := g.hb
  rw [Nat.pow_one] at h1
  omega
theorem Gr.Gl {b f r L G : Nat} (g : Gr b f r L G) : G < L * b ^ r := by
  have hp : 1 ≤ b ^ r := Nat.pow_pos (by have := g.hb; omega)
  have h1 := g.L1
  rw [g.eG]
  have : (L - 1) * b ^ r < L * b ^ r := Nat.mul_lt_mul_of_pos_right (by omega) hp
  exact this
def OnG (b L G : Nat) (n : Int) : Prop := n.natAbs ≤ G ∧ n % (spc b L n.natAbs : Int) = 0

section
variable {b f r L G : Nat}
theorem spx_r (g : Gr b f r L G) {t : Int} (h : t.natAbs ≤ G) : spx b L t.natAbs ≤ r :=
  spx_le g.hb (by have := g.L1; omega) (Nat.lt_of_le_of_lt h g.Gl)
theorem spc_dvd {b L n k : Nat} (h : spx b L n ≤ k) : (spc b L n) ∣ b ^ k := Nat.pow_dvd_pow b h
theorem onG_of (g : Gr b f r L G) {n : Int} {k : Nat} (h : n.natAbs ≤ G) (h1 : n.natAbs < L * b ^ k) (h2 : ((b ^ k : Nat) : Int) ∣ n) : OnG b L G n := by
  refine ⟨h, ?_⟩
  have h3 : spx b L n.natAbs ≤ k := spx_le g.hb (by have := g.L1; omega) h1
  exact Int.emod_eq_zero_of_dvd (Int.dvd_trans (Int.natCast_dvd_natCast.mpr (spc_dvd h3)) h2)
theorem OnG.neg {n : Int} (h : OnG b L G n) : OnG b L G (-n) := by
  unfold OnG at *
  rw [Int.natAbs_neg]
  exact ⟨h.1, Int.emod_eq_zero_of_dvd (Int.dvd_neg.mpr (Int.dvd_of_emod_eq_zero h.2))⟩
/-- the parts of a rounding -/
theorem div_facts (t s : Int) (hs : 0 < s) : t = t / s * s + t % s ∧ 0 ≤ t % s ∧ t % s < s := by
  have h1 := Int.mul_ediv_add_emod t s
  rw [Int.mul_comm] at h1
  exact ⟨h1.symm, Int.emod_nonneg t (by omega), Int.emod_lt_of_pos t hs⟩
theorem spcI_pos (hb : 2 ≤ b) (n : Nat) : (0 : Int) < (spc b L n : Int) := by
  have := spc_pos (L := L) (n := n) hb
  omega
theorem rn_cases (hb : 2 ≤ b) (t : Int) : ∃ q : Int, rn b L t = q * (spc b L t.natAbs : Int) ∧ 2 * (t - rn b L t) ≤ (spc b L t.natAbs : Int) ∧ -(spc b L t.natAbs : Int) ≤ 2 * (t - rn b L t) := by
  have hs := spcI_pos (L := L) hb t.natAbs
  obtain ⟨h1, h2, h3⟩ := div_facts t _ hs
  unfold rn
  generalize (spc b L t.natAbs : Int) = s at *
  generalize t / s = q at *
  generalize t % s = m at *
  split
  · refine ⟨q + 1, rfl, ?_, ?_⟩ <;> rw [Int.add_mul] <;> omega
  · refine ⟨q, rfl, ?_, ?_⟩ <;> omega
theorem rz_cases (hb : 2 ≤ b) (t : Int) : ∃ q : Int, rz b L t = q * (spc b L t.natAbs : Int) ∧ (rz b L t).natAbs ≤ t.natAbs := by
  have hs := spcI_pos (L := L) hb t.natAbs
  obtain ⟨h1, h2, h3⟩ := div_facts t _ hs
  unfold rz
  generalize (spc b L t.natAbs : Int) = s at *
  generalize hq : t / s = q at *
  generalize t % s = m at *
  split
  · refine ⟨q + 1, rfl, ?_⟩
    rename_i hc
    rw [Int.add_mul, Int.one_mul]
    have hq1 : q + 1 ≤ 0 := by
      have : q < 0 := by
        rw [← hq]
        exact Int.ediv_neg_of_neg_of_pos hc.2 hs
      omega
    have : (q + 1) * s ≤ 0 * s := Int.mul_le_mul_of_nonneg_right hq1 (by omega)
    rw [Int.add_mul] at this
    omega
  · refine ⟨q, rfl, ?_⟩
    rename_i hc
    by_cases ht : t < 0
    · have : m = 0 := by omega
      subst this
      rw [h1]; omega
    · have hq0 : 0 ≤ q := by
        rw [← hq]
        exact Int.ediv_nonneg (by omega) (by omega)
      have : 0 * s ≤ q * s := Int.mul_le_mul_of_nonneg_right hq0 (by omega)
      omega
/-- a number of the grid stays -/
theorem rn_self {t : Int} (hb : 2 ≤ b) (h : t % (spc b L t.natAbs : Int) = 0) : rn b L t = t := by
  have hs := spcI_pos (L := L) hb t.natAbs
  obtain ⟨h1, _, _⟩ := div_facts t _ hs
  unfold rn
  rw [h]
  rw [h, Int.add_zero] at h1
  rw [if_neg (by omega)]
  exact h1.symm
/-- within the greatest number there is one to go to -/
theorem mul_within {q s M t : Int} (hs : 0 < s) (h : t ≤ M * s) (h2 : q * s ≤ t) : q * s ≤ M * s := by omega
theorem rn_le (g : Gr b f r L G) {t : Int} (h : t.natAbs ≤ G) : (rn b L t).natAbs ≤ G := by
  have hs := spcI_pos (L := L) g.hb t.natAbs
  have he := spx_r g h
  obtain ⟨h1, h2, h3⟩ := div_facts t _ hs
  have hd : ((spc b L t.natAbs : Nat) : Int) ∣ (G : Int) := by
    refine Int.natCast_dvd_natCast.mpr ?_
    rw [g.eG]
    exact Nat.dvd_trans (spc_dvd he) (Nat.dvd_mul_left _ _)
  obtain ⟨M, hM⟩ := hd
  unfold rn
  generalize (spc b L t.natAbs : Int) = s at *
  generalize t / s = q at *
  generalize t % s = m at *
  have hM' : (G : Int) = M * s := by rw [hM, Int.mul_comm]
  have e1 : q * s ≤ M * s := by omega
  have e2 : -(M * s) ≤ q * s + m := by omega
  have q2 : -M ≤ q := by
    have : (-M) * s < (q + 1) * s := by rw [Int.neg_mul, Int.add_mul]; omega
    have := Int.lt_of_mul_lt_mul_right this (by omega)
    omega
  have e3 : (-M) * s ≤ q * s := Int.mul_le_mul_of_nonneg_right q2 (by omega)
  rw [Int.neg_mul] at e3
  split
  · rename_i hc
    have q1 : q < M := by
      refine Int.lt_of_mul_lt_mul_right (a := s) ?_ (by omega)
      omega
    have e4 : (q + 1) * s ≤ M * s := Int.mul_le_mul_of_nonneg_right (by omega) (by omega)
    have e5 : (-M) * s ≤ (q + 1) * s := Int.mul_le_mul_of_nonneg_right (by omega) (by omega)
    rw [Int.neg_mul] at e5
    omega
  · omega
theorem rz_le (hb : 2 ≤ b) {t : Int} (h : t.natAbs ≤ G) : (rz b L t).natAbs ≤ G := by
  obtain ⟨_, _, h2⟩ := rz_cases (L := L) hb t
  omega
theorem natAbs_mulI (q : Int) (s : Nat) : (q * (s : Int)).natAbs = q.natAbs * s := by rw [Int.natAbs_mul]; rfl
theorem onG_mul (g : Gr b f r L G) {n q : Int} {k : Nat} (h : n.natAbs ≤ G) (h1 : n.natAbs ≤ L * b ^ k) (h2 : n = q * ((b ^ k : Nat) : Int)) : OnG b L G n := by
  by_cases h3 : n.natAbs < L * b ^ k
  · exact onG_of g h h3 ⟨q, by rw [h2, Int.mul_comm]⟩
  · have h4 : n.natAbs = b ^ (f + k) := by rw [Nat.pow_add, ← g.eL]; omega
    refine onG_of (k := k + 1) g h ?_ ?_
    · have h5 : L * b ^ k * 2 ≤ L * b ^ k * b := Nat.mul_le_mul_left _ g.hb
      rw [Nat.pow_succ, ← Nat.mul_assoc]
      have : 0 < L * b ^ k := Nat.mul_pos (by have := g.L1; omega) (Nat.pow_pos (by have := g.hb; omega))
      omega
    · refine Int.ofNat_dvd_left.mpr ?_
      rw [h4]
      exact Nat.pow_dvd_pow b (by have := g.hf; omega)
theorem rn_onG (g : Gr b f r L G) {t : Int} (h : t.natAbs ≤ G) : OnG b L G (rn b L t) := by
  obtain ⟨q, e, h1, h2⟩ := rn_cases (L := L) g.hb t
  have hs := spc_pos (L := L) (n := t.natAbs) g.hb
  have hu : t.natAbs < L * spc b L t.natAbs := spx_up g.hb (by have := g.L1; omega)
  refine onG_mul (k := spx b L t.natAbs) (q := q) g (rn_le g h) ?_ e
  show _ ≤ L * spc b L t.natAbs
  generalize hS : spc b L t.natAbs = S at *
  have e2 : (rn b L t).natAbs = q.natAbs * S := by rw [e, natAbs_mulI]
  have h4 : q.natAbs * S < (L + 1) * S := by
    rw [← e2, Nat.add_mul]
    omega
  have := Nat.lt_of_mul_lt_mul_right h4
  rw [e2]
  exact Nat.mul_le_mul_right S (by omega)
theorem rz_onG (g : Gr b f r L G) {t : Int} (h : t.natAbs ≤ G) : OnG b L G (rz b L t) := by
  obtain ⟨q, e, h1⟩ := rz_cases (L := L) g.hb t
  have hu : t.natAbs < L * spc b L t.natAbs := spx_up g.hb (by have := g.L1; omega)
  exact onG_mul (k := spx b L t.natAbs) (q := q) g (rz_le g.hb h) (by show _ ≤ L * spc b L t.natAbs; omega) e
/-- turned about -/
theorem rn_neg (hb : 2 ≤ b) (t : Int) : rn b L (-t) = -rn b L t := by
  unfold rn
  rw [Int.natAbs_neg]
  have hs := spcI_pos (L := L) hb t.natAbs
  generalize (spc b L t.natAbs : Int) = s at *
  obtain ⟨h1, h2, h3⟩ := div_facts t s hs
  have hd : t % s = 0 → (-t) / s = -(t / s) ∧ (-t) % s = 0 := fun h => by
    have e : -t = -(t / s) * s := by rw [Int.neg_mul]; omega
    exact ⟨by rw [e, Int.mul_ediv_cancel _ (by omega)], by rw [e]; exact Int.mul_emod_left _ _⟩
  have hn : t % s ≠ 0 → (-t) / s = -(t / s) - 1 ∧ (-t) % s = s - t % s := fun h => by
    have e : -t = (s - t % s) + s * (-(t / s) - 1) := by
      rw [Int.mul_sub, Int.mul_neg, Int.mul_comm s (t / s)]
      omega
    constructor
    · rw [e, Int.add_mul_ediv_left _ _ (by omega), Int.ediv_eq_zero_of_lt (by omega) (by omega)]
      omega
    · rw [e, Int.add_mul_emod_self_left]
      exact Int.emod_eq_of_lt (by omega) (by omega)
  by_cases h : t % s = 0
  · obtain ⟨e1, e2⟩ := hd h
    rw [e1, e2, h, if_neg (by omega), if_neg (by omega), Int.neg_mul]
  · obtain ⟨e1, e2⟩ := hn h
    rw [e1, e2]
    generalize t % s = m at *
    generalize t / s = q at *
    by_cases hc : s < 2 * m ∨ 2 * m = s ∧ q % 2 = 1
    · rw [if_pos hc, if_neg (by omega), Int.sub_mul, Int.add_mul, Int.neg_mul]
      omega
    · rw [if_neg hc, if_pos (by omega), Int.add_mul, Int.sub_mul, Int.neg_mul]
      omega
/-- what is left is at most half as great -/
theorem rn_half (g : Gr b f r L G) {t : Int} : 2 * (t - rn b L t).natAbs ≤ t.natAbs := by
  obtain ⟨q, e, h1, h2⟩ := rn_cases (L := L) g.hb t
  by_cases h : spx b L t.natAbs = 0
  · have hsp : spc b L t.natAbs = 1 := by unfold spc; rw [h]; rfl
    have : rn b L t = t := rn_self g.hb (by rw [hsp]; show t % 1 = 0; omega)
    rw [this]; omega
  · have h3 := spx_low (n := t.natAbs) g.hb (spx b L t.natAbs - 1) L (by have := g.L1; omega) (by omega)
    have h4 : spc b L t.natAbs ≤ L * b ^ (spx b L t.natAbs - 1) := by
      have e5 : spc b L t.natAbs = b * b ^ (spx b L t.natAbs - 1) := by
        unfold spc
        rw [Nat.mul_comm, ← Nat.pow_succ]
        congr 1
        omega
      rw [e5]
      refine Nat.mul_le_mul_right _ ?_
      rw [g.eL]
      have h1 : b ^ 1 ≤ b ^ f := Nat.pow_le_pow_right (by have := g.hb; omega) g.hf
      rwa [Nat.pow_one] at h1
    omega
/-- the renewed row -/
def pts (b L : Nat) : Nat → Int → List Int
  | 0, _ => []
  | k + 1, t => if t = 0 then [] else rn b L t :: pts b L k (t - rn b L t)
theorem pts_zero (k : Nat) : pts b L k 0 = [] := by cases k <;> rfl
theorem pts_fuel (g : Gr b f r L G) : ∀ (k j : Nat) (t : Int), t.natAbs ≤ k → t.natAbs ≤ j → pts b L k t = pts b L j t
  | 0, j, t, h1, h2 => by
    have : t = 0 := by omega
    subst this
    rw [pts_zero, pts_zero]
  | k + 1, 0, t, h1, h2 => by
    have : t = 0 := by omega
    subst this
    rw [pts_zero, pts_zero]
  | k + 1, j + 1, t, h1, h2 => by
    unfold pts
    by_cases h : t = 0
    · rw [if_pos h, if_pos h]
    · have := rn_half g (t := t)
      rw [if_neg h, if_neg h, pts_fuel g k j _ (by omega) (by omega)]
def row (b L : Nat) (t : Int) : List Int := pts b L t.natAbs t
theorem row_zero : row b L 0 = [] := rfl
theorem row_cons (g : Gr b f r L G) {t : Int} (h : t ≠ 0) : row b L t = rn b L t :: row b L (t - rn b L t) := by
  have h1 := rn_half g (t := t)
  unfold row
  obtain ⟨k, hk⟩ : ∃ k, t.natAbs = k + 1 := ⟨t.natAbs - 1, by omega⟩
  rw [hk]
  show (if t = 0 then [] else rn b L t :: pts b L k (t - rn b L t)) = _
  rw [if_neg h, pts_fuel g k _ _ (by omega) (Nat.le_refl _)]
theorem row_ind (g : Gr b f r L G) {P : Int → Prop} (h0 : P 0) (hs : ∀ t, t ≠ 0 → P (t - rn b L t) → P t) (t : Int) : P t := by
  have : ∀ (k : Nat) (t : Int), t.natAbs ≤ k → P t := by
    intro k
    induction k with
    | zero => intro t h; have : t = 0 := by omega
              subst this; exact h0
    | succ k ih =>
      intro t h
      by_cases h2 : t = 0
      · subst h2; exact h0
      · have := rn_half g (t := t)
        exact hs t h2 (ih _ (by omega))
  exact this _ t (Nat.le_refl _)
theorem row_sum (g : Gr b f r L G) (t : Int) : (row b L t).sum = t := by
  refine row_ind g (P := fun t => (row b L t).sum = t) rfl (fun t h ih => ?_) t
  rw [row_cons g h, List.sum_cons, ih]
  omega
theorem row_neg (g : Gr b f r L G) (t : Int) : row b L (-t) = (row b L t).map (fun x => -x) := by
  refine row_ind g (P := fun t => row b L (-t) = (row b L t).map (fun x => -x)) rfl (fun t h ih => ?_) t
  rw [row_cons g h, row_cons g (t := -t) (by omega), rn_neg g.hb, List.map_cons, ← ih]
  have : -t - -rn b L t = -(t - rn b L t) := by omega
  rw [this]
theorem row_onG (g : Gr b f r L G) (t : Int) (h : t.natAbs ≤ G) : ∀ x ∈ row b L t, OnG b L G x := by
  have := row_ind g (P := fun t => t.natAbs ≤ G → ∀ x ∈ row b L t, OnG b L G x) (fun _ x hx => by cases hx) (fun t h ih hG x hx => ?_) t
  · exact this h
  · rw [row_cons g h] at hx
    have := rn_half g (t := t)
    rcases List.mem_cons.mp hx with rfl | hx
    · exact rn_onG g hG
    · exact ih (by omega) x hx
theorem row_len (g : Gr b f r L G) (t : Int) (n : Nat) (h : t.natAbs < 2 ^ n) : (row b L t).length ≤ n := by
  have := row_ind g (P := fun t => ∀ n, t.natAbs < 2 ^ n → (row b L t).length ≤ n) (fun n _ => Nat.zero_le _) (fun t h ih n hn => ?_) t
  · exact this n h
  · rw [row_cons g h, List.length_cons]
    have h2 := rn_half g (t := t)
    obtain ⟨m, rfl⟩ : ∃ m, n = m + 1 := ⟨n - 1, by
      cases n with
      | zero => simp at hn; omega
      | succ n => rfl⟩
    have := ih m (by rw [Nat.pow_succ] at hn; omega)
    omega
/-- a product: what is left is a number of the grid -/
theorem prod_left (g : Gr b f r L G) {x y : Int} (hx : OnG b L G x) (hy : OnG b L G y) : ∃ k, ((x * y - rn b L (x * y)).natAbs < L * b ^ k) ∧ ((b ^ k : Nat) : Int) ∣ (x * y - rn b L (x * y)) := by
  have hL := g.L1
  obtain ⟨q, e, h1, h2⟩ := rn_cases (L := L) g.hb (x * y)
  have hd : ((b ^ (spx b L x.natAbs + spx b L y.natAbs) : Nat) : Int) ∣ x * y := by
    rw [Nat.pow_add, Int.natCast_mul]
    exact Int.mul_dvd_mul (Int.dvd_of_emod_eq_zero hx.2) (Int.dvd_of_emod_eq_zero hy.2)
  have ux := spx_up (n := x.natAbs) (L := L) g.hb (by omega)
  have uy := spx_up (n := y.natAbs) (L := L) g.hb (by omega)
  generalize hk : spx b L x.natAbs + spx b L y.natAbs = k at *
  have hw : (x * y).natAbs < L * L * b ^ k := by
    rw [Int.natAbs_mul, ← hk, Nat.pow_add, Nat.mul_mul_mul_comm]
    exact Nat.mul_lt_mul'' ux uy
  by_cases h : spx b L (x * y).natAbs ≤ k
  · refine ⟨0, ?_⟩
    have : rn b L (x * y) = x * y := rn_self g.hb (Int.emod_eq_zero_of_dvd (Int.dvd_trans (Int.natCast_dvd_natCast.mpr (spc_dvd h)) hd))
    rw [this, Int.sub_self]
    refine ⟨by show 0 < L * b ^ 0; rw [Nat.pow_zero]; omega, ⟨0, by simp⟩⟩
  · have h3 := spx_low (n := (x * y).natAbs) g.hb (spx b L (x * y).natAbs - 1) L (by omega) (by omega)
    generalize hE : spx b L (x * y).natAbs = E at *
    have h4 : b ^ (E - 1) < b ^ (f + k) := by
      rw [Nat.pow_add, ← g.eL]
      have : L * b ^ (E - 1) < L * (L * b ^ k) := by rw [← Nat.mul_assoc]; omega
      exact Nat.lt_of_mul_lt_mul_left this
    have h5 : E - 1 < f + k := (Nat.pow_lt_pow_iff_right (by have := g.hb; omega)).mp h4
    have h6 : spc b L (x * y).natAbs ≤ L * b ^ k := by
      unfold spc
      rw [hE, g.eL, ← Nat.pow_add]
      exact Nat.pow_le_pow_right (by have := g.hb; omega) (by omega)
    refine ⟨k, ?_, ?_⟩
    · have : 0 < L * b ^ k := Nat.mul_pos (by omega) (Nat.pow_pos (by have := g.hb; omega))
      omega
    · refine Int.dvd_sub hd ?_
      rw [e]
      refine Int.dvd_trans (Int.natCast_dvd_natCast.mpr ?_) (Int.dvd_mul_left _ _)
      unfold spc
      rw [hE]
      exact Nat.pow_dvd_pow b (by omega)
theorem prod_row (g : Gr b f r L G) {x y : Int} (hx : OnG b L G x) (hy : OnG b L G y) :
    row b L (x * y) = if x * y = 0 then [] else if rn b L (x * y) = x * y then [x * y] else [rn b L (x * y), x * y - rn b L (x * y)] := by
  by_cases h : x * y = 0
  · rw [if_pos h, h]; rfl
  · rw [if_neg h, row_cons g h]
    by_cases h2 : rn b L (x * y) = x * y
    · rw [if_pos h2, h2, Int.sub_self]; rfl
    · rw [if_neg h2]
      obtain ⟨k, h3, h4⟩ := prod_left g hx hy
      have h5 : spx b L (x * y - rn b L (x * y)).natAbs ≤ k := spx_le g.hb (by have := g.L1; omega) h3
      have h6 : rn b L (x * y - rn b L (x * y)) = x * y - rn b L (x * y) := rn_self g.hb (Int.emod_eq_zero_of_dvd (Int.dvd_trans (Int.natCast_dvd_natCast.mpr (spc_dvd h5)) h4))
      rw [row_cons g (by omega), h6, Int.sub_self]
      rfl
theorem onG_small (g : Gr b f r L G) {n : Nat} (h : n < L) : OnG b L G (n : Int) := by
  have hp : 1 ≤ b ^ r := Nat.pow_pos (by have := g.hb; omega)
  have : L - 1 ≤ G := by rw [g.eG]; exact Nat.le_mul_of_pos_right _ hp
  exact onG_of (k := 0) g (by omega) (by rw [Nat.pow_zero]; omega) ⟨n, by simp⟩
theorem onG_rung (g : Gr b f r L G) {n k : Nat} (h : n < L) (hk : k ≤ r) : OnG b L G ((b ^ k * n : Nat) : Int) := by
  have hp : b ^ k ≤ b ^ r := Nat.pow_le_pow_right (by have := g.hb; omega) hk
  refine onG_of (k := k) g ?_ ?_ ?_
  · rw [Int.natAbs_natCast, g.eG, Nat.mul_comm]
    exact Nat.mul_le_mul (by omega) hp
  · rw [Int.natAbs_natCast, Nat.mul_comm]
    exact Nat.mul_lt_mul_of_pos_right h (Nat.pow_pos (by have := g.hb; omega))
  · exact Int.natCast_dvd_natCast.mpr (Nat.dvd_mul_right _ _)
end
end My

namespace My
section
variable {b f r L G : Nat}
theorem rn_near_mul (hb : 2 ≤ b) {w y : Int} (h : ((spc b L w.natAbs : Nat) : Int) ∣ y) : (w - rn b L w).natAbs ≤ (w - y).natAbs := by
  have hs := spcI_pos (L := L) hb w.natAbs
  obtain ⟨q, e, h1, h2⟩ := rn_cases (L := L) hb w
  obtain ⟨m, hm⟩ := h
  generalize ((spc b L w.natAbs : Nat) : Int) = s at *
  rw [hm]
  rw [e] at h1 h2 ⊢
  have hc : s * m = m * s := Int.mul_comm _ _
  rw [hc]
  by_cases hqm : m = q
  · rw [hqm]; exact Nat.le_refl _
  · have hd : (m - q) * s = m * s - q * s := Int.sub_mul _ _ _
    rcases Int.lt_or_gt_of_ne hqm with h3 | h3
    · have : (m - q) * s ≤ (-1) * s := Int.mul_le_mul_of_nonneg_right (by omega) (by omega)
      omega
    · have : 1 * s ≤ (m - q) * s := Int.mul_le_mul_of_nonneg_right (by omega) (by omega)
      omega
theorem rn_near (g : Gr b f r L G) {w x : Int} (hx : OnG b L G x) : (w - rn b L w).natAbs ≤ (w - x).natAbs := by
  have hL := g.L1
  by_cases h : spx b L w.natAbs ≤ spx b L x.natAbs
  · exact rn_near_mul g.hb (Int.dvd_trans (Int.natCast_dvd_natCast.mpr (Nat.pow_dvd_pow b h)) (Int.dvd_of_emod_eq_zero hx.2))
  · have ux := spx_up (n := x.natAbs) (L := L) g.hb (by omega)
    have lw := spx_low (n := w.natAbs) g.hb (spx b L w.natAbs - 1) L (by omega) (by omega)
    have hxB : x.natAbs < L * b ^ (spx b L w.natAbs - 1) :=
      Nat.lt_of_lt_of_le ux (Nat.mul_le_mul_left _ (Nat.pow_le_pow_right (by have := g.hb; omega) (by omega)))
    have hdB : spc b L w.natAbs ∣ L * b ^ (spx b L w.natAbs - 1) := by
      rw [g.eL, ← Nat.pow_add]
      exact Nat.pow_dvd_pow b (by have := g.hf; omega)
    generalize L * b ^ (spx b L w.natAbs - 1) = B at *
    by_cases hw : 0 ≤ w
    · have := rn_near_mul (L := L) g.hb (w := w) (y := (B : Int)) (Int.natCast_dvd_natCast.mpr hdB)
      omega
    · have := rn_near_mul (L := L) g.hb (w := w) (y := -(B : Int)) (Int.dvd_neg.mpr (Int.natCast_dvd_natCast.mpr hdB))
      omega
theorem sum_left (g : Gr b f r L G) {x y : Int} (hx : OnG b L G x) (hy : OnG b L G y) :
    OnG b L G (x + y - rn b L (x + y)) ∧ (x + y - rn b L (x + y)).natAbs ≤ x.natAbs ∧ (x + y - rn b L (x + y)).natAbs ≤ y.natAbs := by
  have hL := g.L1
  have n1 := rn_near (w := x + y) g hx
  have n2 := rn_near (w := x + y) g hy
  have e1 : x + y - x = y := by omega
  have e2 : x + y - y = x := by omega
  rw [e1] at n1
  rw [e2] at n2
  refine ⟨?_, n2, n1⟩
  have ux := spx_up (n := x.natAbs) (L := L) g.hb (by omega)
  have uy := spx_up (n := y.natAbs) (L := L) g.hb (by omega)
  have dx := Int.dvd_of_emod_eq_zero hx.2
  have dy := Int.dvd_of_emod_eq_zero hy.2
  obtain ⟨q, e, h1, h2⟩ := rn_cases (L := L) g.hb (x + y)
  have key : ∀ k, ((b ^ k : Nat) : Int) ∣ x → ((b ^ k : Nat) : Int) ∣ y → (x + y - rn b L (x + y)).natAbs < L * b ^ k → OnG b L G (x + y - rn b L (x + y)) := by
    intro k kx ky hlt
    by_cases h : spx b L (x + y).natAbs ≤ k
    · have : rn b L (x + y) = x + y := rn_self g.hb (Int.emod_eq_zero_of_dvd (Int.dvd_trans (Int.natCast_dvd_natCast.mpr (spc_dvd h)) (Int.dvd_add kx ky)))
      rw [this, Int.sub_self]
      exact onG_small (n := 0) g (by omega)
    · refine onG_of (k := k) g (Nat.le_trans n1 hy.1) hlt (Int.dvd_sub (Int.dvd_add kx ky) ?_)
      rw [e]
      exact Int.dvd_trans (Int.natCast_dvd_natCast.mpr (Nat.pow_dvd_pow b (by omega))) (Int.dvd_mul_left _ _)
  by_cases h : spx b L x.natAbs ≤ spx b L y.natAbs
  · exact key _ dx (Int.dvd_trans (Int.natCast_dvd_natCast.mpr (Nat.pow_dvd_pow b h)) dy) (Nat.lt_of_le_of_lt n2 ux)
  · exact key _ (Int.dvd_trans (Int.natCast_dvd_natCast.mpr (Nat.pow_dvd_pow b (by omega))) dx) dy (Nat.lt_of_le_of_lt n1 uy)
/-- adding up, each addition rounded -/
def psum (b L G : Nat) : Int → List Int → List Int → Option (Int × List Int)
  | t, [], acc => some (t, acc)
  | t, x :: xs, acc => if (rn b L (t + x)).natAbs ≤ G then psum b L G (rn b L (t + x)) xs (acc ++ [t + x - rn b L (t + x)]) else none
theorem psum_facts (g : Gr b f r L G) : ∀ (xs : List Int) (t : Int) (acc : List Int) (p : Int × List Int), psum b L G t xs acc = some p → OnG b L G t → (∀ x ∈ xs, OnG b L G x) → (∀ x ∈ acc, OnG b L G x) →
    OnG b L G p.1 ∧ (∀ x ∈ p.2, OnG b L G x) ∧ p.1 + p.2.sum = t + xs.sum + acc.sum ∧ p.2.length = acc.length + xs.length
  | [], t, acc, p, h, ht, _, ha => by
    cases h
    exact ⟨ht, ha, by simp, by simp⟩
  | x :: xs, t, acc, p, h, ht, hx, ha => by
    unfold psum at h
    by_cases hc : (rn b L (t + x)).natAbs ≤ G
    · rw [if_pos hc] at h
      have hx0 := hx x List.mem_cons_self
      obtain ⟨s1, _, _⟩ := sum_left g ht hx0
      have hr : OnG b L G (rn b L (t + x)) := by
        obtain ⟨q, e, h1, h2⟩ := rn_cases (L := L) g.hb (t + x)
        have hu : (t + x).natAbs < L * spc b L (t + x).natAbs := spx_up g.hb (by have := g.L1; omega)
        have hs := spc_pos (L := L) (n := (t + x).natAbs) g.hb
        refine onG_mul (k := spx b L (t + x).natAbs) (q := q) g hc ?_ e
        show _ ≤ L * spc b L (t + x).natAbs
        generalize spc b L (t + x).natAbs = S at *
        have e2 : (rn b L (t + x)).natAbs = q.natAbs * S := by rw [e, natAbs_mulI]
        have h4 : q.natAbs * S < (L + 1) * S := by
          rw [← e2, Nat.add_mul]
          omega
        have := Nat.lt_of_mul_lt_mul_right h4
        rw [e2]
        exact Nat.mul_le_mul_right S (by omega)
      have ih := psum_facts g xs _ _ p h hr (fun y hy => hx y (List.mem_cons_of_mem _ hy)) (fun y hy => by
        rcases List.mem_append.mp hy with hy | hy
        · exact ha y hy
        · rw [List.mem_singleton.mp hy]; exact s1)
      obtain ⟨i1, i2, i3, i4⟩ := ih
      refine ⟨i1, i2, ?_, ?_⟩
      · rw [i3, List.sum_append, List.sum_cons, List.sum_cons, List.sum_nil]
        omega
      · rw [i4]
        simp
        omega
    · rw [if_neg hc] at h
      cases h
theorem onG_two (g : Gr b f r L G) {d : Int} (h0 : 0 ≤ d) (h2 : d < 3) (hG : d.natAbs ≤ G) : OnG b L G d := by
  by_cases h : d.natAbs < L
  · have := onG_small (n := d.natAbs) g h
    have e : ((d.natAbs : Nat) : Int) = d := by omega
    rwa [e] at this
  · have hL := g.L1
    have hd : d = 2 := by omega
    have hL2 : L = 2 := by omega
    subst hd
    have hb2 : b = 2 := by
      have h1 : b ^ 1 ≤ b ^ f := Nat.pow_le_pow_right (by have := g.hb; omega) g.hf
      rw [← g.eL, Nat.pow_one] at h1
      have := g.hb
      omega
    have hr : 1 ≤ r := by
      refine Nat.one_le_iff_ne_zero.mpr fun z => ?_
      have := g.eG
      rw [z, hL2, Nat.pow_zero] at this
      have h3 : (2 : Int).natAbs = 2 := rfl
      omega
    have := onG_rung (n := 1) (k := 1) g (by omega) hr
    rw [hb2] at this ⊢
    exact this
theorem onG_top (g : Gr b f r L G) : OnG b L G (G : Int) := by
  have := onG_rung (n := L - 1) (k := r) g (by have := g.L1; omega) (Nat.le_refl _)
  have e : b ^ r * (L - 1) = G := by rw [g.eG, Nat.mul_comm]
  rwa [e] at this
end
end My

namespace My
section
variable {b f r L G : Nat}
theorem rn_onG2 (g : Gr b f r L G) {t : Int} (h : (rn b L t).natAbs ≤ G) : OnG b L G (rn b L t) := by
  obtain ⟨q, e, h1, h2⟩ := rn_cases (L := L) g.hb t
  have hu : t.natAbs < L * spc b L t.natAbs := spx_up g.hb (by have := g.L1; omega)
  have hs := spc_pos (L := L) (n := t.natAbs) g.hb
  refine onG_mul (k := spx b L t.natAbs) (q := q) g h ?_ e
  show _ ≤ L * spc b L t.natAbs
  generalize spc b L t.natAbs = S at *
  have e2 : (rn b L t).natAbs = q.natAbs * S := by rw [e, natAbs_mulI]
  have h4 : q.natAbs * S < (L + 1) * S := by
    rw [← e2, Nat.add_mul]
    omega
  have := Nat.lt_of_mul_lt_mul_right h4
  rw [e2]
  exact Nat.mul_le_mul_right S (by omega)
theorem rn_mono (g : Gr b f r L G) {x y : Int} (hx : (rn b L x).natAbs ≤ G) (hy : (rn b L y).natAbs ≤ G) (h : x ≤ y) : rn b L x ≤ rn b L y := by
  by_cases e : x = y
  · subst e; exact Int.le_refl _
  · have n1 := rn_near (w := x) g (rn_onG2 g hy)
    have n2 := rn_near (w := y) g (rn_onG2 g hx)
    omega
/-- the sign -/
def sgn (t : Int) : Int := if t < 0 then -1 else if 0 < t then 1 else 0
theorem sgn_neg (t : Int) : sgn (-t) = -sgn t := by
  unfold sgn
  split <;> split <;> (try split) <;> omega
theorem sgn_cases (t : Int) : -1 ≤ sgn t ∧ sgn t ≤ 1 := by
  unfold sgn
  split <;> (try split) <;> omega
theorem sgn_cross (g : Gr b f r L G) {x y : Int} (hx : (rn b L x).natAbs ≤ G) (hy : (rn b L y).natAbs ≤ G) : sgn (rn b L x - rn b L y) = 0 ∨ sgn (rn b L x - rn b L y) = sgn (x - y) := by
  rcases Int.lt_trichotomy x y with h | h | h
  · have := rn_mono g hx hy (by omega)
    unfold sgn
    (repeat' split) <;> omega
  · subst h
    rw [Int.sub_self, Int.sub_self]
    exact .inr rfl
  · have := rn_mono g hy hx (by omega)
    unfold sgn
    (repeat' split) <;> omega
theorem rn_sgn (g : Gr b f r L G) (t : Int) : sgn (rn b L t) = sgn t := by
  have := rn_half g (t := t)
  unfold sgn
  (repeat' split) <;> omega
theorem rn_zero (hb : 2 ≤ b) : rn b L 0 = 0 := rn_self hb (by simp)
theorem rn_spx (g : Gr b f r L G) (t : Int) : spx b L t.natAbs ≤ spx b L (rn b L t).natAbs := by
  have hL := g.L1
  refine Nat.le_of_not_lt fun hlt => ?_
  have he : 0 < spx b L t.natAbs := by omega
  have lw := spx_low (n := t.natAbs) g.hb (spx b L t.natAbs - 1) L (by omega) (by omega)
  have up := spx_up (n := (rn b L t).natAbs) (L := L) g.hb (by omega)
  have hle : L * b ^ spx b L (rn b L t).natAbs ≤ L * b ^ (spx b L t.natAbs - 1) := Nat.mul_le_mul_left _ (Nat.pow_le_pow_right (by have := g.hb; omega) (by omega))
  have hd : spc b L t.natAbs ∣ L * b ^ (spx b L t.natAbs - 1) := by
    rw [g.eL, ← Nat.pow_add]
    exact Nat.pow_dvd_pow b (by have := g.hf; omega)
  generalize L * b ^ (spx b L t.natAbs - 1) = B at *
  have hh := rn_half g (t := t)
  by_cases ht : 0 ≤ t
  · have := rn_near_mul (L := L) g.hb (w := t) (y := (B : Int)) (Int.natCast_dvd_natCast.mpr hd)
    omega
  · have := rn_near_mul (L := L) g.hb (w := t) (y := -(B : Int)) (Int.dvd_neg.mpr (Int.natCast_dvd_natCast.mpr hd))
    omega
theorem rn_spc (g : Gr b f r L G) (t : Int) : spc b L t.natAbs ≤ spc b L (rn b L t).natAbs := Nat.pow_le_pow_right (by have := g.hb; omega) (rn_spx g t)
theorem pow_odd {b n : Nat} (h : b ^ n % 2 = 1) (hn : 0 < n) : b % 2 = 1 := by
  rcases Nat.mod_two_eq_zero_or_one b with h0 | h1
  · rw [Nat.pow_mod, h0, Nat.zero_pow hn] at h
    simp at h
  · exact h1
theorem odd_pow {b n : Nat} (h : b % 2 = 1) : b ^ n % 2 = 1 := by
  rw [Nat.pow_mod, h, Nat.one_pow]
theorem rn_fits (g : Gr b f r L G) {e : Nat} {t : Int} (h : 2 * t.natAbs ≤ b ^ e) : 2 * (rn b L t).natAbs ≤ b ^ e := by
  by_cases h0 : t = 0
  · rw [h0, rn_zero g.hb]; simp
  have hb := g.hb
  have hL := g.L1
  have he : 0 < e := by
    refine Nat.pos_of_ne_zero fun z => ?_
    rw [z, Nat.pow_zero] at h
    omega
  have hbL : b ≤ L := by
    have h1 : b ^ 1 ≤ b ^ f := Nat.pow_le_pow_right (by omega) g.hf
    rw [Nat.pow_one, ← g.eL] at h1
    exact h1
  have hk : spx b L t.natAbs ≤ e - 1 := by
    refine spx_le hb (by omega) ?_
    have h1 : b * b ^ (e - 1) ≤ L * b ^ (e - 1) := Nat.mul_le_mul_right _ hbL
    have h2 : b ^ e = b * b ^ (e - 1) := by
      rw [Nat.mul_comm, ← Nat.pow_succ]
      congr 1
      omega
    omega
  obtain ⟨q, eq, h1, h2⟩ := rn_cases (L := L) hb t
  have hs := spc_pos (L := L) (n := t.natAbs) hb
  have hc : b ^ e = b ^ (e - spx b L t.natAbs) * spc b L t.natAbs := by
    unfold spc
    rw [← Nat.pow_add]
    congr 1
    omega
  have e2 : (rn b L t).natAbs = q.natAbs * spc b L t.natAbs := by rw [eq, natAbs_mulI]
  refine Nat.le_of_not_lt fun hlt => ?_
  have hodd := @pow_odd b (e - spx b L t.natAbs)
  have hod2 := @odd_pow b e
  generalize spc b L t.natAbs = S at *
  generalize hcd : b ^ (e - spx b L t.natAbs) = c at *
  rw [e2, hc] at hlt
  have hlt' : c * S < 2 * q.natAbs * S := by rw [Nat.mul_assoc]; exact hlt
  have h3 := Nat.lt_of_mul_lt_mul_right hlt'
  have h4 : (c + 1) * S ≤ 2 * q.natAbs * S := Nat.mul_le_mul_right _ h3
  rw [Nat.add_mul, Nat.one_mul, Nat.mul_assoc, ← e2] at h4
  have h5 : 2 * (rn b L t).natAbs = (c + 1) * S := by
    rw [Nat.add_mul, Nat.one_mul]
    omega
  have h6 : 2 * t.natAbs = b ^ e := by
    rw [Nat.add_mul, Nat.one_mul] at h5
    omega
  have h7 : 2 * q.natAbs = c + 1 := by
    rw [e2, ← Nat.mul_assoc] at h5
    exact Nat.mul_right_cancel hs h5
  have h8 := hod2 (hodd (by omega) (by omega))
  omega
theorem rn_next (g : Gr b f r L G) (t : Int) : 2 * (rn b L (t - rn b L t)).natAbs ≤ spc b L (rn b L t).natAbs := by
  obtain ⟨q, e, h1, h2⟩ := rn_cases (L := L) g.hb t
  have h3 : 2 * (t - rn b L t).natAbs ≤ b ^ spx b L t.natAbs := by
    show _ ≤ spc b L t.natAbs
    omega
  exact Nat.le_trans (rn_fits g h3) (rn_spc g t)
theorem row_next (g : Gr b f r L G) (t : Int) : ∀ (i : Nat) (x y : Int), (row b L t)[i]? = some x → (row b L t)[i + 1]? = some y → y ≠ 0 ∧ 2 * y.natAbs ≤ spc b L x.natAbs := by
  refine row_ind g (P := fun t => ∀ (i : Nat) (x y : Int), (row b L t)[i]? = some x → (row b L t)[i + 1]? = some y → y ≠ 0 ∧ 2 * y.natAbs ≤ spc b L x.natAbs) (fun i x y h _ => by cases h) (fun t h ih i x y hx hy => ?_) t
  rw [row_cons g h] at hx hy
  cases i with
  | succ i => exact ih i x y hx hy
  | zero =>
    cases hx
    have hy : (row b L (t - rn b L t))[0]? = some y := hy
    by_cases h0 : t - rn b L t = 0
    · rw [h0] at hy
      cases hy
    · rw [row_cons g h0] at hy
      cases hy
      refine ⟨?_, rn_next g t⟩
      have := rn_half g (t := t - rn b L t)
      omega
theorem row_empty (g : Gr b f r L G) {t : Int} : row b L t = [] ↔ t = 0 := by
  constructor
  · intro h
    by_cases h0 : t = 0
    · exact h0
    · rw [row_cons g h0] at h
      cases h
  · intro h
    rw [h]; rfl
/-! ranks -/
def rk (b L n : Nat) : Nat := n / spc b L n + spx b L n * (L - L / b)
theorem div_b (g : Gr b f r L G) : 1 ≤ L / b ∧ L / b < L := by
  have hb := g.hb
  have h1 : b ^ 1 ≤ b ^ f := Nat.pow_le_pow_right (by omega) g.hf
  rw [Nat.pow_one, ← g.eL] at h1
  exact ⟨(Nat.one_le_div_iff (by omega)).mpr h1, Nat.div_lt_self (by omega) (by omega)⟩
theorem spx_top (g : Gr b f r L G) : spx b L G = r := by
  have hL := g.L1
  have h1 : spx b L G ≤ r := spx_le g.hb (by omega) g.Gl
  refine Nat.le_antisymm h1 (Nat.le_of_not_lt fun hlt => ?_)
  have up := spx_up (n := G) (L := L) g.hb (by omega)
  have hle : L * b ^ spx b L G ≤ L * b ^ (r - 1) := Nat.mul_le_mul_left _ (Nat.pow_le_pow_right (by have := g.hb; omega) (by omega))
  have h2 : b ^ r = b * b ^ (r - 1) := by
    rw [Nat.mul_comm, ← Nat.pow_succ]
    congr 1
    omega
  have h3 : L ≤ (L - 1) * b := by
    have : (L - 1) * 2 ≤ (L - 1) * b := Nat.mul_le_mul_left _ g.hb
    omega
  have h4 : L * b ^ (r - 1) ≤ (L - 1) * b * b ^ (r - 1) := Nat.mul_le_mul_right _ h3
  rw [Nat.mul_assoc, ← h2, ← g.eG] at h4
  omega
theorem rk_top (g : Gr b f r L G) : rk b L G = (L - 1) + r * (L - L / b) := by
  unfold rk spc
  rw [spx_top g]
  congr 1
  rw [g.eG]
  exact Nat.mul_div_cancel _ (Nat.pow_pos (by have := g.hb; omega))
theorem rk_lt (g : Gr b f r L G) {n : Nat} (h : n < G) : rk b L n < rk b L G := by
  have hL := g.L1
  have hp := spc_pos (L := L) (n := n) g.hb
  have hr : spx b L n ≤ r := spx_le g.hb (by omega) (Nat.lt_trans h g.Gl)
  obtain ⟨d1, d2⟩ := div_b g
  have hm : n / spc b L n < L := (Nat.div_lt_iff_lt_mul hp).mpr (spx_up g.hb (by omega))
  rw [rk_top g]
  unfold rk
  by_cases he : spx b L n = r
  · have : n / spc b L n < L - 1 := by
      refine (Nat.div_lt_iff_lt_mul hp).mpr ?_
      unfold spc
      rw [he, ← g.eG]
      exact h
    rw [he]
    omega
  · have : (spx b L n + 1) * (L - L / b) ≤ r * (L - L / b) := Nat.mul_le_mul_right _ (by omega)
    rw [Nat.add_mul] at this
    omega
theorem rk_le (g : Gr b f r L G) {n : Nat} (h : n ≤ G) : rk b L n ≤ rk b L G := by
  by_cases e : n = G
  · rw [e]; exact Nat.le_refl _
  · exact Nat.le_of_lt (rk_lt g (by omega))
theorem rk_pos (g : Gr b f r L G) : 1 ≤ rk b L G := by
  rw [rk_top g]
  have := g.L1
  omega
theorem rk_sz (g : Gr b f r L G) {n : Nat} (h : n ≤ G) : rk b L n ≤ L + r * L := by
  have h1 := rk_le g h
  rw [rk_top g] at h1
  have : r * (L - L / b) ≤ r * L := Nat.mul_le_mul_left _ (Nat.sub_le _ _)
  omega
def lev (b L k : Nat) : Nat := (k - L / b) / (L - L / b)
theorem lev_facts (g : Gr b f r L G) {k : Nat} (h : k ≤ rk b L G) : lev b L k ≤ r ∧ lev b L k * (L - L / b) ≤ k ∧ k - lev b L k * (L - L / b) < L := by
  obtain ⟨d1, d2⟩ := div_b g
  rw [rk_top g] at h
  unfold lev
  generalize L / b = q at *
  have hs : 0 < L - q := by omega
  have hm := Nat.div_add_mod (k - q) (L - q)
  have hl := Nat.mod_lt (k - q) hs
  rw [Nat.mul_comm] at hm
  refine ⟨?_, by omega, by omega⟩
  have : (k - q) / (L - q) * (L - q) < (r + 1) * (L - q) := by
    rw [Nat.add_mul]
    omega
  have := Nat.lt_of_mul_lt_mul_right this
  omega
theorem num_onG (g : Gr b f r L G) {k : Nat} (h : k ≤ rk b L G) : OnG b L G (((k - lev b L k * (L - L / b)) * b ^ lev b L k : Nat) : Int) := by
  obtain ⟨h1, h2, h3⟩ := lev_facts g h
  rw [Nat.mul_comm]
  exact onG_rung g h3 h1
end
end My

namespace My
/-! ### rounding of fractions, by four ways -/
inductive Wy
  | near | down | up | zero
def wup : Wy → Int → Int → Int → Bool
  | .near, q, m, s => decide (s < m * 2) || (decide (m * 2 = s) && decide (q % 2 = 1))
  | .down, _, _, _ => false
  | .up, _, _, _ => true
  | .zero, q, _, _ => decide (q < 0)
/-- the spacing at the fraction t / d -/
def sps (b L : Nat) (t : Int) (d : Nat) : Nat := spc b L (t.natAbs / d)
/-- rounded; without an end -/
def rg (y : Wy) (b L : Nat) (t : Int) (d : Nat) : Int :=
  if (t % ((d : Int) * (sps b L t d : Int)) != 0) = true ∧ wup y (t / ((d : Int) * (sps b L t d : Int))) (t % ((d : Int) * (sps b L t d : Int))) ((d : Int) * (sps b L t d : Int)) = true then (t / ((d : Int) * (sps b L t d : Int)) + 1) * (sps b L t d : Int)
  else t / ((d : Int) * (sps b L t d : Int)) * (sps b L t d : Int)
section
variable {b L : Nat}
theorem sps_pos (hb : 2 ≤ b) (t : Int) (d : Nat) : (0 : Int) < (sps b L t d : Int) := spcI_pos hb _
theorem rg_cases (y : Wy) (t : Int) (d : Nat) : ∃ q : Int, (q = t / ((d : Int) * (sps b L t d : Int)) ∨ (q = t / ((d : Int) * (sps b L t d : Int)) + 1 ∧ t % ((d : Int) * (sps b L t d : Int)) ≠ 0)) ∧ rg y b L t d = q * (sps b L t d : Int) := by
  unfold rg
  split
  · rename_i h
    exact ⟨_, .inr ⟨rfl, by simpa using h.1⟩, rfl⟩
  · exact ⟨_, .inl rfl, rfl⟩
/-- a multiple of the spacing stays -/
theorem rg_self (y : Wy) {n : Int} {d : Nat} (hb : 2 ≤ b) (hd : 0 < d) (h : n % (spc b L n.natAbs : Int) = 0) : rg y b L (n * (d : Int)) d = n := by
  have e : (n * (d : Int)).natAbs / d = n.natAbs := by
    rw [Int.natAbs_mul, Int.natAbs_natCast]
    exact Nat.mul_div_cancel _ hd
  have hs := spcI_pos (L := L) hb n.natAbs
  unfold rg sps
  rw [e]
  obtain ⟨c, hc⟩ := Int.dvd_of_emod_eq_zero h
  generalize (spc b L n.natAbs : Int) = s at *
  have hds : 0 < (d : Int) * s := Int.mul_pos (by omega) hs
  have e2 : n * (d : Int) = c * ((d : Int) * s) := by rw [hc, Int.mul_comm s c, Int.mul_assoc, Int.mul_comm s]
  rw [e2, Int.mul_emod_left, if_neg (by simp), Int.mul_ediv_cancel _ (by omega), hc, Int.mul_comm]
theorem rg_down_le (hb : 2 ≤ b) (t : Int) {d : Nat} (hd : 0 < d) : rg .down b L t d * (d : Int) ≤ t := by
  have hs := sps_pos (L := L) hb t d
  have hds : 0 < (d : Int) * (sps b L t d : Int) := Int.mul_pos (by omega) hs
  unfold rg
  rw [if_neg (by intro z; have h := z.2; cases h)]
  obtain ⟨h1, h2, h3⟩ := div_facts t _ hds
  generalize (sps b L t d : Int) = s at *
  have : t / ((d : Int) * s) * s * (d : Int) = t / ((d : Int) * s) * ((d : Int) * s) := by rw [Int.mul_assoc, Int.mul_comm s]
  omega
theorem rg_up_ge (hb : 2 ≤ b) (t : Int) {d : Nat} (hd : 0 < d) : t ≤ rg .up b L t d * (d : Int) := by
  have hs := sps_pos (L := L) hb t d
  have hds : 0 < (d : Int) * (sps b L t d : Int) := Int.mul_pos (by omega) hs
  obtain ⟨h1, h2, h3⟩ := div_facts t _ hds
  unfold rg
  generalize (sps b L t d : Int) = s at *
  split
  · have : (t / ((d : Int) * s) + 1) * s * (d : Int) = t / ((d : Int) * s) * ((d : Int) * s) + (d : Int) * s := by
      rw [Int.mul_assoc, Int.mul_comm s, Int.add_mul, Int.one_mul]
    omega
  · rename_i h
    have hm : t % ((d : Int) * s) = 0 := by
      by_cases z : t % ((d : Int) * s) = 0
      · exact z
      · exact absurd ⟨by simpa using z, rfl⟩ h
    have : t / ((d : Int) * s) * s * (d : Int) = t / ((d : Int) * s) * ((d : Int) * s) := by rw [Int.mul_assoc, Int.mul_comm s]
    omega
end
end My

namespace My
/-! ### rounding of fractions: it ascends, it is of the grid, twice and at once -/
section
variable {b f L : Nat}
theorem spx_mono (hb : 2 ≤ b) (hL : 1 ≤ L) {n n' : Nat} (h : n ≤ n') : spx b L n ≤ spx b L n' := spx_le hb hL (Nat.lt_of_le_of_lt h (spx_up hb hL))
theorem rg_form (y : Wy) (hb : 2 ≤ b) (t : Int) {d : Nat} (hd : 0 < d) :
    t = t / ((d : Int) * (sps b L t d : Int)) * ((d : Int) * (sps b L t d : Int)) + t % ((d : Int) * (sps b L t d : Int)) ∧ 0 ≤ t % ((d : Int) * (sps b L t d : Int)) ∧ t % ((d : Int) * (sps b L t d : Int)) < (d : Int) * (sps b L t d : Int) ∧
    ((rg y b L t d = t / ((d : Int) * (sps b L t d : Int)) * (sps b L t d : Int) ∧ (t % ((d : Int) * (sps b L t d : Int)) ≠ 0 → wup y (t / ((d : Int) * (sps b L t d : Int))) (t % ((d : Int) * (sps b L t d : Int))) ((d : Int) * (sps b L t d : Int)) = false)) ∨
    (rg y b L t d = (t / ((d : Int) * (sps b L t d : Int)) + 1) * (sps b L t d : Int) ∧ t % ((d : Int) * (sps b L t d : Int)) ≠ 0 ∧ wup y (t / ((d : Int) * (sps b L t d : Int))) (t % ((d : Int) * (sps b L t d : Int))) ((d : Int) * (sps b L t d : Int)) = true)) := by
  have hs := sps_pos (L := L) hb t d
  have hS : 0 < (d : Int) * (sps b L t d : Int) := Int.mul_pos (by omega) hs
  obtain ⟨h1, h2, h3⟩ := div_facts t _ hS
  refine ⟨h1, h2, h3, ?_⟩
  unfold rg
  split
  · rename_i h
    exact .inr ⟨rfl, by simpa using h.1, h.2⟩
  · rename_i h
    refine .inl ⟨rfl, fun hm => ?_⟩
    by_cases hw : wup y (t / ((d : Int) * (sps b L t d : Int))) (t % ((d : Int) * (sps b L t d : Int))) ((d : Int) * (sps b L t d : Int)) = true
    · exact absurd ⟨by simpa using hm, hw⟩ h
    · simpa using hw
theorem rg_le_of (y : Wy) (hb : 2 ≤ b) {t : Int} {d : Nat} (hd : 0 < d) {c : Int} (h : t ≤ c * ((d : Int) * (sps b L t d : Int))) : rg y b L t d ≤ c * (sps b L t d : Int) := by
  obtain ⟨h1, h2, h3, h4⟩ := rg_form (L := L) y hb t hd
  have hs := sps_pos (L := L) hb t d
  generalize t / ((d : Int) * (sps b L t d : Int)) = q at *
  generalize t % ((d : Int) * (sps b L t d : Int)) = m at *
  have hS : 0 < (d : Int) * (sps b L t d : Int) := Int.mul_pos (by omega) hs
  rcases h4 with ⟨e, _⟩ | ⟨e, hm, _⟩
  · rw [e]
    refine Int.mul_le_mul_of_nonneg_right ?_ (by omega)
    exact Int.le_of_mul_le_mul_right (by omega) hS
  · rw [e]
    refine Int.mul_le_mul_of_nonneg_right ?_ (by omega)
    have : q * ((d : Int) * (sps b L t d : Int)) < c * ((d : Int) * (sps b L t d : Int)) := by omega
    have := Int.lt_of_mul_lt_mul_right this (by omega)
    omega
theorem le_rg_of (y : Wy) (hb : 2 ≤ b) {t : Int} {d : Nat} (hd : 0 < d) {c : Int} (h : c * ((d : Int) * (sps b L t d : Int)) ≤ t) : c * (sps b L t d : Int) ≤ rg y b L t d := by
  obtain ⟨h1, h2, h3, h4⟩ := rg_form (L := L) y hb t hd
  have hs := sps_pos (L := L) hb t d
  generalize t / ((d : Int) * (sps b L t d : Int)) = q at *
  generalize t % ((d : Int) * (sps b L t d : Int)) = m at *
  have hS : 0 < (d : Int) * (sps b L t d : Int) := Int.mul_pos (by omega) hs
  have hq : c ≤ q := by
    have : c * ((d : Int) * (sps b L t d : Int)) < (q + 1) * ((d : Int) * (sps b L t d : Int)) := by
      rw [Int.add_mul, Int.one_mul]; omega
    have := Int.lt_of_mul_lt_mul_right this (by omega)
    omega
  rcases h4 with ⟨e, _⟩ | ⟨e, _, _⟩
  · rw [e]
    exact Int.mul_le_mul_of_nonneg_right hq (by omega)
  · rw [e]
    exact Int.mul_le_mul_of_nonneg_right (by omega) (by omega)
/-- the same of any number that the spacing divides -/
theorem rg_le_dvd (y : Wy) (hb : 2 ≤ b) {t : Int} {d : Nat} (hd : 0 < d) {B : Int} (hB : (sps b L t d : Int) ∣ B) (h : t ≤ B * (d : Int)) : rg y b L t d ≤ B := by
  obtain ⟨c, rfl⟩ := hB
  rw [Int.mul_comm]
  refine rg_le_of y hb hd ?_
  have : (sps b L t d : Int) * c * (d : Int) = c * ((d : Int) * (sps b L t d : Int)) := by
    rw [Int.mul_comm (sps b L t d : Int) c, Int.mul_assoc, Int.mul_comm (sps b L t d : Int)]
  omega
theorem dvd_le_rg (y : Wy) (hb : 2 ≤ b) {t : Int} {d : Nat} (hd : 0 < d) {B : Int} (hB : (sps b L t d : Int) ∣ B) (h : B * (d : Int) ≤ t) : B ≤ rg y b L t d := by
  obtain ⟨c, rfl⟩ := hB
  rw [Int.mul_comm (sps b L t d : Int) c]
  refine le_rg_of y hb hd ?_
  have : (sps b L t d : Int) * c * (d : Int) = c * ((d : Int) * (sps b L t d : Int)) := by
    rw [Int.mul_comm (sps b L t d : Int) c, Int.mul_assoc, Int.mul_comm (sps b L t d : Int)]
  omega
theorem wup_mono {y : Wy} {q m m' s : Int} (h : m ≤ m') (hu : wup y q m s = true) : wup y q m' s = true := by
  cases y with
  | near =>
    simp [wup] at *
    omega
  | down => exact hu
  | up => exact hu
  | zero => exact hu
theorem rg_mono_same (y : Wy) (hb : 2 ≤ b) {t t' : Int} {d : Nat} (hd : 0 < d) (h : t ≤ t') (hs : sps b L t d = sps b L t' d) : rg y b L t d ≤ rg y b L t' d := by
  have hs0 := sps_pos (L := L) hb t d
  have hS : 0 < (d : Int) * (sps b L t d : Int) := Int.mul_pos (by omega) hs0
  obtain ⟨a1, a2, a3, a4⟩ := rg_form (L := L) y hb t hd
  obtain ⟨c1, c2, c3, c4⟩ := rg_form (L := L) y hb t' hd
  have up1 : ∀ c, t ≤ c * ((d : Int) * (sps b L t d : Int)) → rg y b L t d ≤ c * (sps b L t d : Int) := fun c => rg_le_of y hb hd
  have lo2 : ∀ c, c * ((d : Int) * (sps b L t' d : Int)) ≤ t' → c * (sps b L t' d : Int) ≤ rg y b L t' d := fun c => le_rg_of y hb hd
  have hq : t / ((d : Int) * (sps b L t d : Int)) ≤ t' / ((d : Int) * (sps b L t d : Int)) := Int.ediv_le_ediv hS h
  rw [← hs] at *
  generalize (sps b L t d : Int) = s at *
  generalize t / ((d : Int) * s) = q at *
  generalize t % ((d : Int) * s) = m at *
  generalize t' / ((d : Int) * s) = q' at *
  generalize t' % ((d : Int) * s) = m' at *
  generalize (d : Int) * s = S at *
  by_cases hqq : q = q'
  · subst hqq
    have hm : m ≤ m' := by omega
    rcases a4 with ⟨e, _⟩ | ⟨e, hm0, hu⟩
    · rw [e]
      exact lo2 q (by omega)
    · have hu' := wup_mono hm hu
      rcases c4 with ⟨_, hf⟩ | ⟨e', _, _⟩
      · rw [hf (by omega)] at hu'
        cases hu'
      · rw [e, e']
        exact Int.le_refl _
  · have h1 := up1 (q + 1) (by rw [Int.add_mul, Int.one_mul]; omega)
    have h2 := lo2 q' (by omega)
    have h3 : (q + 1) * s ≤ q' * s := Int.mul_le_mul_of_nonneg_right (by omega) (by omega)
    omega
theorem band (hb : 2 ≤ b) (hf : 1 ≤ f) {n n' : Nat} (h : spx b (b ^ f) n < spx b (b ^ f) n') : ∃ B : Nat, n < B ∧ B ≤ n' ∧ spc b (b ^ f) n ∣ B ∧ spc b (b ^ f) n' ∣ B := by
  have hL : 1 ≤ b ^ f := Nat.pow_pos (by omega)
  refine ⟨b ^ f * b ^ (spx b (b ^ f) n' - 1), ?_, spx_low hb _ _ hL (by omega), ?_, ?_⟩
  · exact Nat.lt_of_lt_of_le (spx_up hb hL) (Nat.mul_le_mul_left _ (Nat.pow_le_pow_right (by omega) (by omega)))
  · rw [← Nat.pow_add]
    exact Nat.pow_dvd_pow b (by omega)
  · rw [← Nat.pow_add]
    exact Nat.pow_dvd_pow b (by omega)
theorem rg_mono (y : Wy) (hb : 2 ≤ b) (hf : 1 ≤ f) {t t' : Int} {d : Nat} (hd : 0 < d) (h : t ≤ t') : rg y b (b ^ f) t d ≤ rg y b (b ^ f) t' d := by
  have hL : 1 ≤ b ^ f := Nat.pow_pos (by omega)
  have mulc : ∀ B : Nat, ((B * d : Nat) : Int) = (B : Int) * (d : Int) := fun B => Int.natCast_mul B d
  by_cases h0 : 0 ≤ t
  · have hn : t.natAbs / d ≤ t'.natAbs / d := Nat.div_le_div_right (by omega)
    have he := spx_mono hb hL hn
    by_cases hee : spx b (b ^ f) (t.natAbs / d) = spx b (b ^ f) (t'.natAbs / d)
    · exact rg_mono_same y hb hd h (by unfold sps spc; rw [hee])
    · obtain ⟨B, b1, b2, b3, b4⟩ := band hb hf (Nat.lt_of_le_of_ne he hee)
      have c1 : t.natAbs < B * d := (Nat.div_lt_iff_lt_mul hd).mp b1
      have c2 : B * d ≤ t'.natAbs := (Nat.le_div_iff_mul_le hd).mp b2
      have r1 := rg_le_dvd (L := b ^ f) y hb hd (B := (B : Int)) (Int.natCast_dvd_natCast.mpr b3) (by rw [← mulc]; omega : t ≤ _)
      have r2 := dvd_le_rg (L := b ^ f) y hb hd (B := (B : Int)) (Int.natCast_dvd_natCast.mpr b4) (by rw [← mulc]; omega : _ ≤ t')
      omega
  · by_cases h1 : 0 ≤ t'
    · have r1 := rg_le_dvd (L := b ^ f) y hb hd (B := 0) (t := t) (Int.dvd_zero _) (by omega)
      have r2 := dvd_le_rg (L := b ^ f) y hb hd (B := 0) (t := t') (Int.dvd_zero _) (by omega)
      omega
    · have hn : t'.natAbs / d ≤ t.natAbs / d := Nat.div_le_div_right (by omega)
      have he := spx_mono hb hL hn
      by_cases hee : spx b (b ^ f) (t'.natAbs / d) = spx b (b ^ f) (t.natAbs / d)
      · exact rg_mono_same y hb hd h (by unfold sps spc; rw [hee])
      · obtain ⟨B, b1, b2, b3, b4⟩ := band hb hf (Nat.lt_of_le_of_ne he hee)
        have c1 : t'.natAbs < B * d := (Nat.div_lt_iff_lt_mul hd).mp b1
        have c2 : B * d ≤ t.natAbs := (Nat.le_div_iff_mul_le hd).mp b2
        have r1 := rg_le_dvd (L := b ^ f) y hb hd (B := -(B : Int)) (Int.dvd_neg.mpr (Int.natCast_dvd_natCast.mpr b4)) (by rw [Int.neg_mul, ← mulc]; omega : t ≤ _)
        have r2 := dvd_le_rg (L := b ^ f) y hb hd (B := -(B : Int)) (Int.dvd_neg.mpr (Int.natCast_dvd_natCast.mpr b3)) (by rw [Int.neg_mul, ← mulc]; omega : _ ≤ t')
        omega
end
end My

namespace My
section
variable {b f : Nat}
/-- a number up to the next power is a multiple of its own spacing -/
theorem mul_self (hb : 2 ≤ b) (hf : 1 ≤ f) {n : Int} {e : Nat} (h1 : n.natAbs ≤ b ^ f * b ^ e) (h2 : ((b ^ e : Nat) : Int) ∣ n) : n % (spc b (b ^ f) n.natAbs : Int) = 0 := by
  have hL : 1 ≤ b ^ f := Nat.pow_pos (by omega)
  refine Int.emod_eq_zero_of_dvd ?_
  by_cases h : n.natAbs < b ^ f * b ^ e
  · exact Int.dvd_trans (Int.natCast_dvd_natCast.mpr (Nat.pow_dvd_pow b (spx_le hb hL h))) h2
  · have h4 : n.natAbs = b ^ (f + e) := by rw [Nat.pow_add]; omega
    have h5 : spx b (b ^ f) n.natAbs ≤ e + 1 := by
      refine spx_le hb hL ?_
      rw [h4, Nat.pow_add]
      exact Nat.mul_lt_mul_of_pos_left (Nat.pow_lt_pow_right (by omega) (by omega)) hL
    have h6 : spc b (b ^ f) n.natAbs ∣ b ^ (f + e) := Nat.pow_dvd_pow b (by omega)
    rw [← h4] at h6
    exact Int.ofNat_dvd_left.mpr h6
theorem sps_up (hb : 2 ≤ b) (t : Int) {d : Nat} (hd : 0 < d) : t.natAbs < b ^ f * spc b (b ^ f) (t.natAbs / d) * d := by
  have hL : 1 ≤ b ^ f := Nat.pow_pos (by omega)
  exact (Nat.div_lt_iff_lt_mul hd).mp (spx_up hb hL)
theorem rg_bound (y : Wy) (hb : 2 ≤ b) (t : Int) {d : Nat} (hd : 0 < d) : (rg y b (b ^ f) t d).natAbs ≤ b ^ f * spc b (b ^ f) (t.natAbs / d) := by
  have h := sps_up (f := f) hb t hd
  have hdv : (sps b (b ^ f) t d : Int) ∣ ((b ^ f * spc b (b ^ f) (t.natAbs / d) : Nat) : Int) := Int.natCast_dvd_natCast.mpr (Nat.dvd_mul_left _ _)
  have mulc : ∀ B : Nat, ((B * d : Nat) : Int) = (B : Int) * (d : Int) := fun B => Int.natCast_mul B d
  have r1 := rg_le_dvd y hb hd hdv (by rw [← mulc]; omega : t ≤ _)
  have r2 := dvd_le_rg y hb hd (Int.dvd_neg.mpr hdv) (by rw [Int.neg_mul, ← mulc]; omega : _ ≤ t)
  omega
theorem rg_mul (y : Wy) (hb : 2 ≤ b) (t : Int) {d : Nat} (hd : 0 < d) : ((spc b (b ^ f) (t.natAbs / d) : Nat) : Int) ∣ rg y b (b ^ f) t d := by
  obtain ⟨_, _, _, h | h⟩ := rg_form (L := b ^ f) y hb t hd
  · rw [h.1]; exact Int.dvd_mul_left _ _
  · rw [h.1]; exact Int.dvd_mul_left _ _
/-- what is rounded is of the grid -/
theorem rg_grid (y : Wy) (hb : 2 ≤ b) (hf : 1 ≤ f) (t : Int) {d : Nat} (hd : 0 < d) : rg y b (b ^ f) t d % (spc b (b ^ f) (rg y b (b ^ f) t d).natAbs : Int) = 0 :=
  mul_self hb hf (rg_bound y hb t hd) (rg_mul y hb t hd)
theorem rg_of_grid (y : Wy) (hb : 2 ≤ b) {n : Int} (h : n % (spc b (b ^ f) n.natAbs : Int) = 0) : rg y b (b ^ f) n 1 = n := by
  have := rg_self y (d := 1) hb (by decide) h
  simpa using this
/-- near: half a spacing at most -/
theorem near_half (hb : 2 ≤ b) (t : Int) {d : Nat} (hd : 0 < d) {L : Nat} : 2 * (t - rg .near b L t d * (d : Int)) ≤ (d : Int) * (sps b L t d : Int) ∧ -((d : Int) * (sps b L t d : Int)) ≤ 2 * (t - rg .near b L t d * (d : Int)) := by
  obtain ⟨h1, h2, h3, h4⟩ := rg_form (L := L) .near hb t hd
  generalize t / ((d : Int) * (sps b L t d : Int)) = q at *
  generalize t % ((d : Int) * (sps b L t d : Int)) = m at *
  have e1 : q * (sps b L t d : Int) * (d : Int) = q * ((d : Int) * (sps b L t d : Int)) := by rw [Int.mul_assoc, Int.mul_comm (sps b L t d : Int)]
  have e2 : (q + 1) * (sps b L t d : Int) * (d : Int) = q * ((d : Int) * (sps b L t d : Int)) + (d : Int) * (sps b L t d : Int) := by rw [Int.mul_assoc, Int.mul_comm (sps b L t d : Int), Int.add_mul, Int.one_mul]
  rcases h4 with ⟨e, hu⟩ | ⟨e, hm, hu⟩
  · rw [e, e1]
    by_cases hm : m = 0
    · omega
    · have := hu hm
      simp [wup] at this
      omega
  · rw [e, e2]
    simp [wup] at hu
    omega
/-- ties of fractions -/
def tie (b L : Nat) (t : Int) (d : Nat) : Prop := t % ((d : Int) * (sps b L t d : Int)) * 2 = (d : Int) * (sps b L t d : Int)
/-- rounding twice is rounding at once, but behind ties -/
theorem twice_once (hb : 2 ≤ b) (hf : 1 ≤ f) (t : Int) {d : Nat} (hd : 0 < d) (h1 : ¬ (b % 2 = 1 ∧ tie b (b ^ f) t d)) (h2 : ¬ tie b (b ^ f) (rg .near b (b ^ (f + 2)) t d) 1) :
    rg .near b (b ^ f) (rg .near b (b ^ (f + 2)) t d) 1 = rg .near b (b ^ f) t d := by
  have hL : 1 ≤ b ^ f := Nat.pow_pos (by omega)
  have hL2 : 1 ≤ b ^ (f + 2) := Nat.pow_pos (by omega)
  have hLL : b ^ f ≤ b ^ (f + 2) := Nat.pow_le_pow_right (by omega) (by omega)
  -- both exponents
  have he : spx b (b ^ (f + 2)) (t.natAbs / d) ≤ spx b (b ^ f) (t.natAbs / d) := by
    refine spx_le hb hL2 ?_
    exact Nat.lt_of_lt_of_le (spx_up hb hL) (Nat.mul_le_mul_right _ hLL)
  by_cases hee : spx b (b ^ (f + 2)) (t.natAbs / d) = spx b (b ^ f) (t.natAbs / d)
  · -- one spacing: at once
    have hs : sps b (b ^ (f + 2)) t d = sps b (b ^ f) t d := by unfold sps spc; rw [hee]
    have hu : rg .near b (b ^ (f + 2)) t d = rg .near b (b ^ f) t d := by unfold rg; rw [hs]
    rw [hu]
    exact rg_of_grid .near hb (rg_grid .near hb hf t hd)
  have nh := near_half (L := b ^ (f + 2)) hb t hd
  obtain ⟨hd2, _⟩ : ((spc b (b ^ (f + 2)) (t.natAbs / d) : Nat) : Int) ∣ rg .near b (b ^ (f + 2)) t d ∧ True := ⟨rg_mul .near hb t hd, trivial⟩
  -- the worth between multiples of the greater spacing
  obtain ⟨a1, a2, a3, a4⟩ := rg_form (L := b ^ f) .near hb t hd
  have hs2 := sps_pos (L := b ^ (f + 2)) hb t d
  have hs0 := sps_pos (L := b ^ f) hb t d
  have hk : ∃ k, 1 ≤ k ∧ sps b (b ^ f) t d = b ^ k * sps b (b ^ (f + 2)) t d := by
    refine ⟨spx b (b ^ f) (t.natAbs / d) - spx b (b ^ (f + 2)) (t.natAbs / d), by omega, ?_⟩
    unfold sps spc
    rw [← Nat.pow_add]
    congr 1
    omega
  obtain ⟨k, hk1, hk⟩ := hk
  have hc2 : 2 ≤ b ^ k := by
    have : b ^ 1 ≤ b ^ k := Nat.pow_le_pow_right (by omega) hk1
    rw [Nat.pow_one] at this
    omega
  have hodd := @pow_odd b k
  -- u stays between them
  have hdv : ∀ c : Int, (sps b (b ^ (f + 2)) t d : Int) ∣ c * (sps b (b ^ f) t d : Int) := fun c => by
    rw [hk, Int.natCast_mul]
    exact Int.dvd_trans (Int.dvd_mul_left _ _) (Int.dvd_mul_left _ _)
  have hlo := dvd_le_rg .near hb hd (t := t) (hdv (t / ((d : Int) * (sps b (b ^ f) t d : Int)))) (by rw [Int.mul_assoc, Int.mul_comm (sps b (b ^ f) t d : Int)]; omega)
  have hhi := rg_le_dvd .near hb hd (t := t) (hdv (t / ((d : Int) * (sps b (b ^ f) t d : Int)) + 1)) (by rw [Int.mul_assoc, Int.mul_comm (sps b (b ^ f) t d : Int), Int.add_mul, Int.one_mul]; omega)
  -- the spacing at u
  have hB := sps_up (f := f) hb t hd
  have mulc : ∀ B : Nat, ((B * d : Nat) : Int) = (B : Int) * (d : Int) := fun B => Int.natCast_mul B d
  have dB : (sps b (b ^ (f + 2)) t d : Int) ∣ ((b ^ f * spc b (b ^ f) (t.natAbs / d) : Nat) : Int) := by
    refine Int.natCast_dvd_natCast.mpr (Nat.dvd_trans ?_ (Nat.dvd_mul_left _ _))
    exact Nat.pow_dvd_pow b he
  have ub1 := rg_le_dvd .near hb hd dB (by rw [← mulc]; omega : t ≤ _)
  have ub2 := dvd_le_rg .near hb hd (Int.dvd_neg.mpr dB) (by rw [Int.neg_mul, ← mulc]; omega : _ ≤ t)
  have lowe : spx b (b ^ f) (t.natAbs / d) ≤ spx b (b ^ f) (rg .near b (b ^ (f + 2)) t d).natAbs := by
    refine Nat.le_of_not_lt fun hlt => ?_
    have l1 := spx_low hb (spx b (b ^ f) (t.natAbs / d) - 1) (b ^ f) (n := t.natAbs / d) hL (by omega)
    have l2 := spx_up (n := (rg .near b (b ^ (f + 2)) t d).natAbs) hb hL
    have l3 : b ^ f * b ^ spx b (b ^ f) (rg .near b (b ^ (f + 2)) t d).natAbs ≤ b ^ f * b ^ (spx b (b ^ f) (t.natAbs / d) - 1) := Nat.mul_le_mul_left _ (Nat.pow_le_pow_right (by omega) (by omega))
    have l4 : (sps b (b ^ (f + 2)) t d : Int) ∣ ((b ^ f * b ^ (spx b (b ^ f) (t.natAbs / d) - 1) : Nat) : Int) := by
      refine Int.natCast_dvd_natCast.mpr ?_
      rw [← Nat.pow_add]
      exact Nat.pow_dvd_pow b (by omega)
    have l5 := (Nat.le_div_iff_mul_le hd).mp l1
    by_cases ht : 0 ≤ t
    · have := dvd_le_rg .near hb hd l4 (by rw [← mulc]; omega : _ ≤ t)
      omega
    · have := rg_le_dvd .near hb hd (Int.dvd_neg.mpr l4) (by rw [Int.neg_mul, ← mulc]; omega : t ≤ _)
      omega
  have hc : (sps b (b ^ f) t d : Int) = ((b ^ k : Nat) : Int) * (sps b (b ^ (f + 2)) t d : Int) := by rw [hk, Int.natCast_mul]
  have hS : (d : Int) * (sps b (b ^ f) t d : Int) = ((b ^ k : Nat) : Int) * ((d : Int) * (sps b (b ^ (f + 2)) t d : Int)) := by
    rw [hc, ← Int.mul_assoc, ← Int.mul_assoc, Int.mul_comm (d : Int)]
  have hz : 0 < (d : Int) * (sps b (b ^ (f + 2)) t d : Int) := Int.mul_pos (by omega) hs2
  have hz2 : 2 * ((d : Int) * (sps b (b ^ (f + 2)) t d : Int)) ≤ ((b ^ k : Nat) : Int) * ((d : Int) * (sps b (b ^ (f + 2)) t d : Int)) := Int.mul_le_mul_of_nonneg_right (by omega) (by omega)
  have hud : ∀ (x w : Int), rg .near b (b ^ (f + 2)) t d = x * (sps b (b ^ f) t d : Int) + w → rg .near b (b ^ (f + 2)) t d * (d : Int) = x * ((d : Int) * (sps b (b ^ f) t d : Int)) + w * (d : Int) := fun x w e => by
    rw [e, Int.add_mul, Int.mul_assoc, Int.mul_comm (sps b (b ^ f) t d : Int)]
  have self : ((sps b (b ^ f) t d : Nat) : Int) ∣ rg .near b (b ^ (f + 2)) t d → rg .near b (b ^ f) (rg .near b (b ^ (f + 2)) t d) 1 = rg .near b (b ^ (f + 2)) t d := fun hdv => by
    refine rg_of_grid .near hb (mul_self (e := spx b (b ^ f) (t.natAbs / d)) hb hf ?_ hdv)
    show _ ≤ b ^ f * spc b (b ^ f) (t.natAbs / d)
    omega
  -- up or not, at the worth
  have vup : (d : Int) * (sps b (b ^ f) t d : Int) < 2 * (t % ((d : Int) * (sps b (b ^ f) t d : Int))) → rg .near b (b ^ f) t d = (t / ((d : Int) * (sps b (b ^ f) t d : Int)) + 1) * (sps b (b ^ f) t d : Int) := fun h => by
    rcases a4 with ⟨e, hu⟩ | ⟨e, _⟩
    · have := hu (by omega)
      simp [wup] at this
      omega
    · exact e
  have vdn : 2 * (t % ((d : Int) * (sps b (b ^ f) t d : Int))) < (d : Int) * (sps b (b ^ f) t d : Int) → rg .near b (b ^ f) t d = t / ((d : Int) * (sps b (b ^ f) t d : Int)) * (sps b (b ^ f) t d : Int) := fun h => by
    rcases a4 with ⟨e, _⟩ | ⟨e, _, hu⟩
    · exact e
    · simp [wup] at hu
      omega
  clear a4
  unfold tie at h1
  generalize hq : t / ((d : Int) * (sps b (b ^ f) t d : Int)) = q at *
  generalize hm : t % ((d : Int) * (sps b (b ^ f) t d : Int)) = m at *
  obtain ⟨w, hw⟩ : ∃ w, rg .near b (b ^ (f + 2)) t d = q * (sps b (b ^ f) t d : Int) + w := ⟨rg .near b (b ^ (f + 2)) t d - q * (sps b (b ^ f) t d : Int), by omega⟩
  have hwd := hud q w hw
  rw [Int.add_mul, Int.one_mul] at hhi vup
  by_cases w0 : w = 0
  · subst w0
    rw [Int.zero_mul, Int.add_zero] at hwd
    rw [Int.add_zero] at hw
    rw [self (by rw [hw]; exact Int.dvd_mul_left _ _), hw, vdn (by omega)]
  by_cases ws : w = (sps b (b ^ f) t d : Int)
  · rw [ws, Int.mul_comm (sps b (b ^ f) t d : Int)] at hwd
    have hw' : rg .near b (b ^ (f + 2)) t d = (q + 1) * (sps b (b ^ f) t d : Int) := by rw [Int.add_mul, Int.one_mul, hw, ws]
    rw [self (by rw [hw']; exact Int.dvd_mul_left _ _), hw', vup (by omega), Int.add_mul, Int.one_mul]
  -- strictly between
  have hwin : 0 < w ∧ w < (sps b (b ^ f) t d : Int) := by omega
  have hu0 : spx b (b ^ f) (rg .near b (b ^ (f + 2)) t d).natAbs = spx b (b ^ f) (t.natAbs / d) := by
    refine Nat.le_antisymm (spx_le hb hL ?_) lowe
    refine Nat.lt_of_le_of_ne (by show _ ≤ b ^ f * spc b (b ^ f) (t.natAbs / d); omega) fun heq => ?_
    have hdvu : ((sps b (b ^ f) t d : Nat) : Int) ∣ rg .near b (b ^ (f + 2)) t d := by
      refine Int.ofNat_dvd_left.mpr ?_
      rw [heq]
      exact Nat.dvd_mul_left _ _
    have hdw : ((sps b (b ^ f) t d : Nat) : Int) ∣ w := by
      have : w = rg .near b (b ^ (f + 2)) t d - q * (sps b (b ^ f) t d : Int) := by omega
      rw [this]
      exact Int.dvd_sub hdvu (Int.dvd_mul_left _ _)
    have := Int.le_of_dvd hwin.1 hdw
    omega
  have hsu : sps b (b ^ f) (rg .near b (b ^ (f + 2)) t d) 1 = sps b (b ^ f) t d := by
    unfold sps spc
    rw [Nat.div_one, hu0]
  obtain ⟨i, hi⟩ : ∃ i, w = i * (sps b (b ^ (f + 2)) t d : Int) := by
    obtain ⟨j, hj⟩ := hd2
    refine ⟨j - q * ((b ^ k : Nat) : Int), ?_⟩
    rw [Int.sub_mul, Int.mul_assoc, ← hc]
    have : j * (sps b (b ^ (f + 2)) t d : Int) = (sps b (b ^ (f + 2)) t d : Int) * j := Int.mul_comm _ _
    have hj' : rg .near b (b ^ (f + 2)) t d = (sps b (b ^ (f + 2)) t d : Int) * j := hj
    omega
  have hwd2 : w * (d : Int) = i * ((d : Int) * (sps b (b ^ (f + 2)) t d : Int)) := by
    rw [hi, Int.mul_assoc, Int.mul_comm (sps b (b ^ (f + 2)) t d : Int)]
  have ltw : ∀ x y : Int, x * ((d : Int) * (sps b (b ^ (f + 2)) t d : Int)) ≤ y * ((d : Int) * (sps b (b ^ (f + 2)) t d : Int)) → x ≤ y := fun x y h => Int.le_of_mul_le_mul_right h hz
  have lts : ∀ x y : Int, x * (sps b (b ^ (f + 2)) t d : Int) ≤ y * (sps b (b ^ (f + 2)) t d : Int) → x ≤ y := fun x y h => Int.le_of_mul_le_mul_right h hs2
  obtain ⟨u1, u2, u3, u4⟩ := rg_form (L := b ^ f) .near hb (rg .near b (b ^ (f + 2)) t d) (d := 1) (by decide)
  unfold tie at h2
  rw [hsu] at u1 u2 u3 u4 h2
  have one : (((1 : Nat) : Int)) * (sps b (b ^ f) t d : Int) = (sps b (b ^ f) t d : Int) := by simp
  rw [one] at u1 u2 u3 u4 h2
  have hq2 : rg .near b (b ^ (f + 2)) t d / (sps b (b ^ f) t d : Int) = q ∧ rg .near b (b ^ (f + 2)) t d % (sps b (b ^ f) t d : Int) = w := by
    have e : rg .near b (b ^ (f + 2)) t d = w + (sps b (b ^ f) t d : Int) * q := by rw [hw, Int.mul_comm q]; omega
    constructor
    · rw [e, Int.add_mul_ediv_left _ _ (by omega), Int.ediv_eq_zero_of_lt (by omega) hwin.2, Int.zero_add]
    · rw [e, Int.add_mul_emod_self_left]
      exact Int.emod_eq_of_lt (by omega) hwin.2
  rw [hq2.1, hq2.2] at u4
  rw [hq2.2] at h2
  have h2i : 2 * i ≠ ((b ^ k : Nat) : Int) := fun z => h2 (by
    rw [hi, hc, ← z]
    rw [Int.mul_comm _ 2, ← Int.mul_assoc])
  -- no tie of the worth between the finer multiples
  have notie : m * 2 = (d : Int) * (sps b (b ^ f) t d : Int) → ((b ^ k : Nat) : Int) % 2 = 1 → False := fun z1 z2 => h1 ⟨hodd (by omega) (by omega), z1⟩
  have key : (2 * i > ((b ^ k : Nat) : Int) → (d : Int) * (sps b (b ^ f) t d : Int) < 2 * m) ∧ (2 * i < ((b ^ k : Nat) : Int) → 2 * m < (d : Int) * (sps b (b ^ f) t d : Int)) := by
    generalize ((b ^ k : Nat) : Int) = c at *
    generalize (d : Int) * (sps b (b ^ (f + 2)) t d : Int) = z at *
    have ei : (2 * i) * z = 2 * (i * z) := Int.mul_assoc _ _ _
    have ei1 : (2 * i - 1) * z = 2 * (i * z) - z := by rw [Int.sub_mul, Int.one_mul, ei]
    have ei2 : (2 * i + 1) * z = 2 * (i * z) + z := by rw [Int.add_mul, Int.one_mul, ei]
    constructor
    · intro h
      have g1 : c * z ≤ (2 * i - 1) * z := Int.mul_le_mul_of_nonneg_right (by omega) (by omega)
      by_cases hne : m * 2 = (d : Int) * (sps b (b ^ f) t d : Int)
      · exfalso
        have := ltw (2 * i - 1) c (by omega)
        exact notie hne (by omega)
      · omega
    · intro h
      have g1 : (2 * i + 1) * z ≤ c * z := Int.mul_le_mul_of_nonneg_right (by omega) (by omega)
      by_cases hne : m * 2 = (d : Int) * (sps b (b ^ f) t d : Int)
      · exfalso
        have := ltw c (2 * i + 1) (by omega)
        exact notie hne (by omega)
      · omega
  have w2 : w * 2 = (2 * i) * (sps b (b ^ (f + 2)) t d : Int) := by rw [hi, Int.mul_comm _ 2, ← Int.mul_assoc]
  rcases u4 with ⟨e, hu⟩ | ⟨e, _, hu⟩
  · have hnot := hu (by omega)
    have hlt : 2 * i < ((b ^ k : Nat) : Int) := by
      simp [wup] at hnot
      have : (2 * i) * (sps b (b ^ (f + 2)) t d : Int) ≤ ((b ^ k : Nat) : Int) * (sps b (b ^ (f + 2)) t d : Int) := by rw [← w2, ← hc]; omega
      have := lts _ _ this
      omega
    rw [e, vdn (key.2 hlt)]
  · have hgt : 2 * i > ((b ^ k : Nat) : Int) := by
      simp [wup] at hu
      have : ((b ^ k : Nat) : Int) * (sps b (b ^ (f + 2)) t d : Int) ≤ (2 * i) * (sps b (b ^ (f + 2)) t d : Int) := by rw [← w2, ← hc]; omega
      have := lts _ _ this
      omega
    rw [e, vup (key.1 hgt), Int.add_mul, Int.one_mul]
end
end My

namespace My
/-! ### the multiples around a fraction, and what is left -/
section
variable {b L : Nat}
theorem ceil_eq {t S : Int} (hS : 0 < S) : -(-t / S) = if t % S = 0 then t / S else t / S + 1 := by
  obtain ⟨h1, h2, h3⟩ := div_facts t S hS
  by_cases h : t % S = 0
  · have e : -t = -(t / S) * S := by rw [Int.neg_mul]; omega
    rw [if_pos h, e, Int.mul_ediv_cancel _ (by omega)]
    omega
  · have e : -t = (S - t % S) + S * (-(t / S) - 1) := by
      rw [Int.mul_sub, Int.mul_neg, Int.mul_comm S (t / S)]
      omega
    rw [if_neg h, e, Int.add_mul_ediv_left _ _ (by omega), Int.ediv_eq_zero_of_lt (by omega) (by omega)]
    omega
def blw (b L : Nat) (t : Int) (d : Nat) : Int := t / ((d : Int) * (sps b L t d : Int)) * (sps b L t d : Int)
def abv (b L : Nat) (t : Int) (d : Nat) : Int := -(-t / ((d : Int) * (sps b L t d : Int))) * (sps b L t d : Int)
theorem around_facts (hb : 2 ≤ b) (t : Int) {d : Nat} (hd : 0 < d) : blw b L t d * (d : Int) ≤ t ∧ t ≤ abv b L t d * (d : Int) ∧ blw b L t d ≤ abv b L t d ∧
    (∀ y, rg y b L t d = blw b L t d ∨ rg y b L t d = abv b L t d) ∧ rg .down b L t d = blw b L t d ∧ rg .up b L t d = abv b L t d ∧
    rg .zero b L t d = (if 0 < t then blw b L t d else abv b L t d) ∧
    2 * (t - rg .near b L t d * (d : Int)) ≤ (abv b L t d - blw b L t d) * (d : Int) ∧ -((abv b L t d - blw b L t d) * (d : Int)) ≤ 2 * (t - rg .near b L t d * (d : Int)) := by
  have hs := sps_pos (L := L) hb t d
  have hS : 0 < (d : Int) * (sps b L t d : Int) := Int.mul_pos (by omega) hs
  have nh := near_half (L := L) hb t hd
  have F := fun y => rg_form (L := L) y hb t hd
  obtain ⟨a1, a2, a3, _⟩ := F .near
  have hc := ceil_eq (t := t) hS
  unfold blw abv
  rw [hc]
  have mulq : ∀ x : Int, x * (sps b L t d : Int) * (d : Int) = x * ((d : Int) * (sps b L t d : Int)) := fun x => by rw [Int.mul_assoc, Int.mul_comm (sps b L t d : Int)]
  have hneg : t / ((d : Int) * (sps b L t d : Int)) < 0 ↔ t < 0 := by
    constructor
    · intro z
      by_cases w : t < 0
      · exact w
      · exact absurd (Int.ediv_nonneg (show 0 ≤ t by omega) (show 0 ≤ (d : Int) * (sps b L t d : Int) by omega)) (by omega)
    · intro z
      exact Int.ediv_neg_of_neg_of_pos z hS
  have Fn := F .near
  have Fd := F .down
  have Fu := F .up
  have Fz := F .zero
  by_cases hm : t % ((d : Int) * (sps b L t d : Int)) = 0
  · rw [if_pos hm, mulq]
    have all : ∀ y, rg y b L t d = t / ((d : Int) * (sps b L t d : Int)) * (sps b L t d : Int) := fun y => by
      rcases (F y).2.2.2 with ⟨e, _⟩ | ⟨_, h, _⟩
      · exact e
      · exact absurd hm h
    refine ⟨by omega, by omega, Int.le_refl _, fun y => .inl (all y), all _, all _, ?_, ?_, ?_⟩
    · rw [all]; split <;> rfl
    · rw [all, mulq, Int.sub_self, Int.zero_mul]; omega
    · rw [all, mulq, Int.sub_self, Int.zero_mul]; omega
  · rw [if_neg hm]
    have e1 : (t / ((d : Int) * (sps b L t d : Int)) + 1) * ((d : Int) * (sps b L t d : Int)) = t / ((d : Int) * (sps b L t d : Int)) * ((d : Int) * (sps b L t d : Int)) + (d : Int) * (sps b L t d : Int) := by rw [Int.add_mul, Int.one_mul]
    have e2 : (t / ((d : Int) * (sps b L t d : Int)) + 1) * (sps b L t d : Int) = t / ((d : Int) * (sps b L t d : Int)) * (sps b L t d : Int) + (sps b L t d : Int) := by rw [Int.add_mul, Int.one_mul]
    have gap : ((t / ((d : Int) * (sps b L t d : Int)) + 1) * (sps b L t d : Int) - t / ((d : Int) * (sps b L t d : Int)) * (sps b L t d : Int)) * (d : Int) = (d : Int) * (sps b L t d : Int) := by
      rw [e2]
      have : t / ((d : Int) * (sps b L t d : Int)) * (sps b L t d : Int) + (sps b L t d : Int) - t / ((d : Int) * (sps b L t d : Int)) * (sps b L t d : Int) = (sps b L t d : Int) := by
        generalize t / ((d : Int) * (sps b L t d : Int)) * (sps b L t d : Int) = z
        omega
      rw [this, Int.mul_comm]
    rw [gap]
    refine ⟨by rw [mulq]; omega, by rw [mulq, e1]; omega, by rw [e2]; omega, fun y => ?_, ?_, ?_, ?_, nh.1, nh.2⟩
    · rcases (F y).2.2.2 with ⟨e, _⟩ | ⟨e, _, _⟩
      · exact .inl e
      · exact .inr e
    · rcases Fd.2.2.2 with ⟨e, _⟩ | ⟨_, _, h⟩
      · exact e
      · cases h
    · rcases Fu.2.2.2 with ⟨_, h⟩ | ⟨e, _, _⟩
      · exact absurd (h hm) (by intro z; cases z)
      · exact e
    · have ht0 : t ≠ 0 := fun z => hm (by rw [z]; simp)
      rcases Fz.2.2.2 with ⟨e, h⟩ | ⟨e, _, h⟩
      · have := h hm
        simp [wup] at this
        rw [e, if_pos]
        have h2 : ¬ t < 0 := fun z => by have := hneg.mpr z; omega
        omega
      · simp [wup] at h
        rw [e, if_neg]
        have := hneg.mp h
        omega
/-- in least terms: the same fraction, the same sign -/
theorem red_facts (x : Int) {d : Nat} (hd : 0 < d) : x / ((Nat.gcd x.natAbs d : Nat) : Int) * (d : Int) = x * ((d / Nat.gcd x.natAbs d : Nat) : Int) ∧ (0 ≤ x → 0 ≤ x / ((Nat.gcd x.natAbs d : Nat) : Int)) ∧ (x ≤ 0 → x / ((Nat.gcd x.natAbs d : Nat) : Int) ≤ 0) := by
  have hg : 0 < Nat.gcd x.natAbs d := Nat.gcd_pos_of_pos_right _ hd
  obtain ⟨c, hc⟩ : ((Nat.gcd x.natAbs d : Nat) : Int) ∣ x := Int.ofNat_dvd_left.mpr (Nat.gcd_dvd_left _ _)
  obtain ⟨e, he⟩ := Nat.gcd_dvd_right x.natAbs d
  have h2 : d / Nat.gcd x.natAbs d = e := by
    rw [Nat.div_eq_iff_eq_mul_right hg (Nat.gcd_dvd_right _ _)]
    exact he
  have h1 : x / ((Nat.gcd x.natAbs d : Nat) : Int) = c := by
    have : x / ((Nat.gcd x.natAbs d : Nat) : Int) = (((Nat.gcd x.natAbs d : Nat) : Int) * c) / ((Nat.gcd x.natAbs d : Nat) : Int) := by rw [← hc]
    rw [this]
    exact Int.mul_ediv_cancel_left _ (by omega)
  rw [h1, h2]
  have he' : (d : Int) = ((Nat.gcd x.natAbs d : Nat) : Int) * (e : Int) := by
    rw [← Int.natCast_mul, ← he]
  generalize Nat.gcd x.natAbs d = g at *
  refine ⟨?_, fun h => ?_, fun h => ?_⟩
  · rw [he', hc, Int.mul_left_comm, Int.mul_assoc]
  · by_cases z : c < 0
    · have : (g : Int) * c < 0 := Int.mul_neg_of_pos_of_neg (by omega) z
      omega
    · omega
  · by_cases z : 0 < c
    · have : 0 < (g : Int) * c := Int.mul_pos (by omega) z
      omega
    · omega
end
end My

namespace My
/-! ### what is rounded ascends: nothing at both ends alone -/
def cutO (M : Nat) (x : Int) : Option Int := if x.natAbs ≤ M then some x else none
theorem cut_above {M : Nat} : ∀ {xs : List Int}, (∀ x ∈ xs, (M : Int) < x) → xs.map (cutO M) = List.replicate xs.length none
  | [], _ => rfl
  | x :: xs, h => by
    have h1 := h x List.mem_cons_self
    rw [List.map_cons, List.length_cons, List.replicate_succ, cut_above fun y hy => h y (List.mem_cons_of_mem _ hy)]
    unfold cutO
    rw [if_neg (by omega)]
theorem cut_from {M : Nat} : ∀ {xs : List Int}, xs.Pairwise (· ≤ ·) → (∀ x ∈ xs, -(M : Int) ≤ x) → ∃ (ys : List Int) (j : Nat), xs.map (cutO M) = ys.map some ++ List.replicate j none ∧ ys.Pairwise (· ≤ ·) ∧ ∀ y ∈ ys, y ∈ xs
  | [], _, _ => ⟨[], 0, rfl, .nil, fun y hy => by cases hy⟩
  | x :: xs, hp, h => by
    obtain ⟨p1, p2⟩ := List.pairwise_cons.mp hp
    have h1 := h x List.mem_cons_self
    by_cases hx : x.natAbs ≤ M
    · obtain ⟨ys, j, e, q1, q2⟩ := cut_from p2 fun y hy => h y (List.mem_cons_of_mem _ hy)
      refine ⟨x :: ys, j, ?_, List.pairwise_cons.mpr ⟨fun y hy => p1 y (q2 y hy), q1⟩, fun y hy => ?_⟩
      · rw [List.map_cons, e, List.map_cons]
        unfold cutO
        rw [if_pos hx]
        rfl
      · rcases List.mem_cons.mp hy with rfl | hy
        · exact List.mem_cons_self
        · exact List.mem_cons_of_mem _ (q2 y hy)
    · refine ⟨[], (x :: xs).length, ?_, .nil, fun y hy => by cases hy⟩
      rw [cut_above]
      · rfl
      · intro y hy
        rcases List.mem_cons.mp hy with rfl | hy
        · omega
        · have := p1 y hy
          omega
theorem cut_all {M : Nat} : ∀ {xs : List Int}, xs.Pairwise (· ≤ ·) → ∃ (i : Nat) (ys : List Int) (j : Nat), xs.map (cutO M) = List.replicate i none ++ ys.map some ++ List.replicate j none ∧ ys.Pairwise (· ≤ ·)
  | [], _ => ⟨0, [], 0, rfl, .nil⟩
  | x :: xs, hp => by
    obtain ⟨p1, p2⟩ := List.pairwise_cons.mp hp
    by_cases hx : -(M : Int) ≤ x
    · obtain ⟨ys, j, e, q1, _⟩ := cut_from (M := M) hp fun y hy => by
        rcases List.mem_cons.mp hy with rfl | hy
        · exact hx
        · have := p1 y hy
          omega
      exact ⟨0, ys, j, e, q1⟩
    · obtain ⟨i, ys, j, e, q1⟩ := cut_all (M := M) p2
      refine ⟨i + 1, ys, j, ?_, q1⟩
      rw [List.map_cons, e, List.replicate_succ]
      unfold cutO
      rw [if_neg (by omega)]
      rfl
theorem next_le {ys : List Int} (h : ys.Pairwise (· ≤ ·)) (k : Nat) (x y : Int) (hx : ys[k]? = some x) (hy : ys[k + 1]? = some y) : x ≤ y := by
  obtain ⟨h1, rfl⟩ := List.getElem?_eq_some_iff.mp hx
  obtain ⟨h2, rfl⟩ := List.getElem?_eq_some_iff.mp hy
  exact List.pairwise_iff_getElem.mp h k (k + 1) h1 h2 (by omega)
theorem rg_asc {b f : Nat} (y : Wy) (hb : 2 ≤ b) (hf : 1 ≤ f) {d : Nat} (hd : 0 < d) {ts : List Int} (h : ts.Pairwise (· < ·)) : (ts.map fun t => rg y b (b ^ f) t d).Pairwise (· ≤ ·) :=
  List.pairwise_map.mpr (h.imp fun {s t} hst => rg_mono y hb hf hd (by omega))
end My

namespace My
/-! ### all numbers of a grid in a row, and those around a fraction -/
section
variable {b f : Nat}
def lad (b L : Nat) : Nat → List Int
  | 0 => (List.range L).map fun i => ((i : Nat) : Int)
  | k + 1 => lad b L k ++ (List.range (L - L / b)).map fun j => ((b ^ (k + 1) * (L / b + j) : Nat) : Int)
theorem Ldiv (hb : 2 ≤ b) (hf : 1 ≤ f) : b ^ f / b * b = b ^ f := Nat.div_mul_cancel (Nat.dvd_trans (by rw [Nat.pow_one]; exact Nat.dvd_refl b) (Nat.pow_dvd_pow b hf))
theorem lad_bound (hb : 2 ≤ b) (hf : 1 ≤ f) : ∀ (k : Nat) (x : Int), x ∈ lad b (b ^ f) k → ∃ n : Nat, x = (n : Int) ∧ n < b ^ f * b ^ k
  | 0, x, h => by
    obtain ⟨i, hi, rfl⟩ := List.mem_map.mp h
    exact ⟨i, rfl, by rw [Nat.pow_zero, Nat.mul_one]; exact List.mem_range.mp hi⟩
  | k + 1, x, h => by
    have hL : 1 ≤ b ^ f := Nat.pow_pos (by omega)
    rcases List.mem_append.mp h with h | h
    · obtain ⟨n, rfl, hn⟩ := lad_bound hb hf k x h
      refine ⟨n, rfl, Nat.lt_of_lt_of_le hn (Nat.mul_le_mul_left _ (Nat.pow_le_pow_right (by omega) (by omega)))⟩
    · obtain ⟨j, hj, rfl⟩ := List.mem_map.mp h
      have hj := List.mem_range.mp hj
      refine ⟨_, rfl, ?_⟩
      rw [Nat.mul_comm]
      exact Nat.mul_lt_mul_of_pos_right (by omega) (Nat.pow_pos (by omega))
theorem lad_asc (hb : 2 ≤ b) (hf : 1 ≤ f) : ∀ k : Nat, (lad b (b ^ f) k).Pairwise (· < ·)
  | 0 => List.pairwise_map.mpr (List.pairwise_lt_range.imp fun {x y} h => by omega)
  | k + 1 => by
    refine List.pairwise_append.mpr ⟨lad_asc hb hf k, List.pairwise_map.mpr (List.pairwise_lt_range.imp fun {x y} h => ?_), fun x hx y hy => ?_⟩
    · have : b ^ (k + 1) * (b ^ f / b + x) < b ^ (k + 1) * (b ^ f / b + y) := Nat.mul_lt_mul_of_pos_left (by omega) (Nat.pow_pos (by omega))
      omega
    · obtain ⟨n, rfl, hn⟩ := lad_bound hb hf k x hx
      obtain ⟨j, _, rfl⟩ := List.mem_map.mp hy
      have h1 : b ^ f * b ^ k = b ^ (k + 1) * (b ^ f / b) := by
        rw [Nat.pow_succ, Nat.mul_assoc, Nat.mul_comm b (b ^ f / b), Ldiv hb hf, Nat.mul_comm]
      have h2 : b ^ (k + 1) * (b ^ f / b) ≤ b ^ (k + 1) * (b ^ f / b + j) := Nat.mul_le_mul_left _ (by omega)
      omega
theorem lad_mem (hb : 2 ≤ b) (hf : 1 ≤ f) : ∀ (k n : Nat), ((n : Int) ∈ lad b (b ^ f) k) ↔ n < b ^ f * b ^ k ∧ spc b (b ^ f) n ∣ n
  | 0, n => by
    have hL : 1 ≤ b ^ f := Nat.pow_pos (by omega)
    rw [Nat.pow_zero, Nat.mul_one]
    constructor
    · intro h
      obtain ⟨i, hi, e⟩ := List.mem_map.mp h
      have hi := List.mem_range.mp hi
      have e : i = n := by omega
      subst e
      refine ⟨hi, ?_⟩
      unfold spc
      rw [spx_lt hi, Nat.pow_zero]
      exact Nat.one_dvd _
    · rintro ⟨h, _⟩
      exact List.mem_map.mpr ⟨n, List.mem_range.mpr h, rfl⟩
  | k + 1, n => by
    have hL : 1 ≤ b ^ f := Nat.pow_pos (by omega)
    have hp : 0 < b ^ (k + 1) := Nat.pow_pos (by omega)
    have h1 : b ^ f * b ^ k = b ^ (k + 1) * (b ^ f / b) := by
      rw [Nat.pow_succ, Nat.mul_assoc, Nat.mul_comm b (b ^ f / b), Ldiv hb hf, Nat.mul_comm]
    have ih := lad_mem hb hf k n
    constructor
    · intro h
      rcases List.mem_append.mp h with h | h
      · obtain ⟨h2, h3⟩ := ih.mp h
        exact ⟨Nat.lt_of_lt_of_le h2 (Nat.mul_le_mul_left _ (Nat.pow_le_pow_right (by omega) (by omega))), h3⟩
      · obtain ⟨j, hj, e⟩ := List.mem_map.mp h
        have hj := List.mem_range.mp hj
        have e : b ^ (k + 1) * (b ^ f / b + j) = n := by omega
        have hlt : n < b ^ f * b ^ (k + 1) := by
          rw [← e, Nat.mul_comm]
          exact Nat.mul_lt_mul_of_pos_right (by omega) hp
        refine ⟨hlt, Nat.dvd_trans (Nat.pow_dvd_pow b (spx_le hb hL hlt)) ?_⟩
        rw [← e]
        exact Nat.dvd_mul_right _ _
    · rintro ⟨h2, h3⟩
      refine List.mem_append.mpr ?_
      by_cases h4 : n < b ^ f * b ^ k
      · exact .inl (ih.mpr ⟨h4, h3⟩)
      · refine .inr ?_
        have h5 : spx b (b ^ f) n = k + 1 := by
          refine Nat.le_antisymm (spx_le hb hL h2) (Nat.lt_of_not_le fun h => ?_)
          have h6 := spx_up (n := n) hb hL
          have h7 : b ^ f * b ^ spx b (b ^ f) n ≤ b ^ f * b ^ k := Nat.mul_le_mul_left _ (Nat.pow_le_pow_right (by omega) h)
          omega
        unfold spc at h3
        rw [h5] at h3
        obtain ⟨c, rfl⟩ := h3
        have c1 : c < b ^ f := by
          rw [Nat.mul_comm] at h2
          exact Nat.lt_of_mul_lt_mul_right h2
        have c2 : b ^ f / b ≤ c := by
          refine Nat.le_of_mul_le_mul_left ?_ hp
          omega
        refine List.mem_map.mpr ⟨c - b ^ f / b, List.mem_range.mpr (by omega), ?_⟩
        have : b ^ f / b + (c - b ^ f / b) = c := by omega
        rw [this]
/-- the ladder to both sides -/
def rgs (b L k : Nat) : List Int := ((lad b L k).drop 1).reverse.map (fun x => -x) ++ lad b L k
theorem lad_cons (hb : 2 ≤ b) (hf : 1 ≤ f) : ∀ k : Nat, ∃ xs, lad b (b ^ f) k = 0 :: xs
  | 0 => by
    obtain ⟨m, hm⟩ : ∃ m, b ^ f = m + 1 := ⟨b ^ f - 1, by have : 1 ≤ b ^ f := Nat.pow_pos (by omega); omega⟩
    refine ⟨(List.range m).map fun i => ((i + 1 : Nat) : Int), ?_⟩
    unfold lad
    rw [hm, List.range_succ_eq_map, List.map_cons, List.map_map]
    rfl
  | k + 1 => by
    obtain ⟨xs, h⟩ := lad_cons hb hf k
    refine ⟨xs ++ (List.range (b ^ f - b ^ f / b)).map fun j => ((b ^ (k + 1) * (b ^ f / b + j) : Nat) : Int), ?_⟩
    show lad b (b ^ f) k ++ _ = _
    rw [h, List.cons_append]
theorem lad_tail (hb : 2 ≤ b) (hf : 1 ≤ f) {k : Nat} {x : Int} (h : x ∈ (lad b (b ^ f) k).drop 1) : 0 < x ∧ x ∈ lad b (b ^ f) k := by
  obtain ⟨xs, e⟩ := lad_cons hb hf k
  have ha := lad_asc hb hf k
  rw [e] at ha h ⊢
  exact ⟨(List.pairwise_cons.mp ha).1 x h, List.mem_cons_of_mem _ h⟩
theorem rgs_asc (hb : 2 ≤ b) (hf : 1 ≤ f) (k : Nat) : (rgs b (b ^ f) k).Pairwise (· < ·) := by
  refine List.pairwise_append.mpr ⟨List.pairwise_map.mpr (List.pairwise_reverse.mpr (List.Pairwise.imp ?_ (List.Pairwise.sublist (List.drop_sublist 1 _) (lad_asc hb hf k)))), lad_asc hb hf k, fun x hx y hy => ?_⟩
  · intro x y h
    omega
  · obtain ⟨z, hz, rfl⟩ := List.mem_map.mp hx
    have h1 := (lad_tail hb hf (List.mem_reverse.mp hz)).1
    obtain ⟨n, rfl, _⟩ := lad_bound hb hf k y hy
    omega
theorem rgs_mem (hb : 2 ≤ b) (hf : 1 ≤ f) (k : Nat) (n : Int) : n ∈ rgs b (b ^ f) k ↔ n.natAbs < b ^ f * b ^ k ∧ n % (spc b (b ^ f) n.natAbs : Int) = 0 := by
  have key : ∀ n : Nat, ((n : Int) ∈ lad b (b ^ f) k) ↔ n < b ^ f * b ^ k ∧ spc b (b ^ f) n ∣ n := lad_mem hb hf k
  have dv : n % (spc b (b ^ f) n.natAbs : Int) = 0 ↔ spc b (b ^ f) n.natAbs ∣ n.natAbs := by
    rw [← Int.dvd_iff_emod_eq_zero]
    exact Int.ofNat_dvd_left
  rw [dv, ← key]
  constructor
  · intro h
    rcases List.mem_append.mp h with h | h
    · obtain ⟨z, hz, rfl⟩ := List.mem_map.mp h
      obtain ⟨z0, hz⟩ := lad_tail hb hf (List.mem_reverse.mp hz)
      have : ((-z).natAbs : Int) = z := by omega
      rw [this]
      exact hz
    · obtain ⟨m, rfl, _⟩ := lad_bound hb hf k n h
      exact h
  · intro h
    refine List.mem_append.mpr ?_
    by_cases h0 : 0 ≤ n
    · have : ((n.natAbs : Nat) : Int) = n := by omega
      rw [this] at h
      exact .inr h
    · refine .inl (List.mem_map.mpr ⟨(n.natAbs : Int), List.mem_reverse.mpr ?_, by omega⟩)
      obtain ⟨xs, e⟩ := lad_cons hb hf k
      rw [e] at h ⊢
      rcases List.mem_cons.mp h with h | h
      · omega
      · exact h
/-- the last of those below, the first of those above -/
theorem last_is {ys : List Int} {B : Int} (ha : ys.Pairwise (· < ·)) (hB : B ∈ ys) (hm : ∀ y ∈ ys, y ≤ B) : ∃ zs, ys = zs ++ [B] := by
  have hne : ys ≠ [] := List.ne_nil_of_mem hB
  refine ⟨ys.dropLast, ?_⟩
  have e := List.dropLast_concat_getLast hne
  have h1 := hm _ (List.getLast_mem hne)
  rw [← e] at ha hB
  rcases List.mem_append.mp hB with h | h
  · have := (List.pairwise_append.mp ha).2.2 B h _ (List.mem_singleton.mpr rfl)
    omega
  · have h := List.mem_singleton.mp h
    rw [h]
    exact e.symm
theorem first_is {ys : List Int} {A : Int} (ha : ys.Pairwise (· < ·)) (hA : A ∈ ys) (hm : ∀ y ∈ ys, A ≤ y) : ∃ zs, ys = A :: zs := by
  cases ys with
  | nil => cases hA
  | cons y ys =>
    refine ⟨ys, ?_⟩
    have h1 := hm y List.mem_cons_self
    rcases List.mem_cons.mp hA with h | h
    · rw [h]
    · have := (List.pairwise_cons.mp ha).1 A h
      omega
end
end My

namespace My
section
variable {b f r : Nat}
/-- the multiples around a fraction are numbers of the ladder -/
theorem rg_in (y : Wy) (hb : 2 ≤ b) (hf : 1 ≤ f) {t : Int} {d : Nat} (hd : 0 < d) (h : t.natAbs ≤ 3 * d * ((b ^ f - 1) * b ^ r)) : rg y b (b ^ f) t d ∈ rgs b (b ^ f) (r + 2) := by
  have hL : 1 ≤ b ^ f := Nat.pow_pos (by omega)
  have hL2 : 2 ≤ b ^ f := by
    have h1 : b ^ 1 ≤ b ^ f := Nat.pow_le_pow_right (by omega) hf
    rw [Nat.pow_one] at h1
    omega
  have hpr : 0 < b ^ r := Nat.pow_pos (by omega)
  have hp2 : 4 * b ^ r ≤ b ^ (r + 2) := by
    rw [Nat.pow_succ, Nat.pow_succ]
    have h1 : b ^ r * 2 ≤ b ^ r * b := Nat.mul_le_mul_left _ hb
    have h2 : b ^ r * b * 2 ≤ b ^ r * b * b := Nat.mul_le_mul_left _ hb
    omega
  have e1 : (b ^ f - 1) * (4 * b ^ r) ≤ (b ^ f - 1) * b ^ (r + 2) := Nat.mul_le_mul_left _ hp2
  have e1' : (b ^ f - 1) * (4 * b ^ r) = 4 * ((b ^ f - 1) * b ^ r) := Nat.mul_left_comm _ _ _
  have h3 : t.natAbs / d ≤ 3 * ((b ^ f - 1) * b ^ r) := by
    refine Nat.div_le_of_le_mul ?_
    rw [← Nat.mul_assoc, Nat.mul_comm d 3]
    exact h
  have hlt : (b ^ f - 1) * b ^ (r + 2) < b ^ f * b ^ (r + 2) := Nat.mul_lt_mul_of_pos_right (by omega) (Nat.pow_pos (by omega))
  have hx : spx b (b ^ f) (t.natAbs / d) ≤ r + 2 := spx_le hb hL (by omega)
  have hdv : (sps b (b ^ f) t d : Int) ∣ (((b ^ f - 1) * b ^ (r + 2) : Nat) : Int) := Int.natCast_dvd_natCast.mpr (Nat.dvd_trans (Nat.pow_dvd_pow b hx) (Nat.dvd_mul_left _ _))
  have mulc : ∀ B : Nat, ((B * d : Nat) : Int) = (B : Int) * (d : Int) := fun B => Int.natCast_mul B d
  have hM : t.natAbs ≤ (b ^ f - 1) * b ^ (r + 2) * d := by
    refine Nat.le_trans h ?_
    rw [Nat.mul_comm 3 d, Nat.mul_assoc, Nat.mul_comm _ d]
    exact Nat.mul_le_mul_left _ (by omega)
  have r1 := rg_le_dvd y hb hd hdv (by rw [← mulc]; omega : t ≤ _)
  have r2 := dvd_le_rg y hb hd (Int.dvd_neg.mpr hdv) (by rw [Int.neg_mul, ← mulc]; omega : _ ≤ t)
  exact (rgs_mem hb hf (r + 2) _).mpr ⟨by omega, rg_grid y hb hf t hd⟩
theorem le_blw (hb : 2 ≤ b) (hf : 1 ≤ f) {t n : Int} {d : Nat} (hd : 0 < d) (hn : n % (spc b (b ^ f) n.natAbs : Int) = 0) (h : n * (d : Int) ≤ t) : n ≤ blw b (b ^ f) t d := by
  obtain ⟨_, _, _, _, e, _⟩ := around_facts (L := b ^ f) hb t hd
  rw [← e, ← rg_self .down hb hd hn]
  exact rg_mono .down hb hf hd h
theorem abv_le (hb : 2 ≤ b) (hf : 1 ≤ f) {t n : Int} {d : Nat} (hd : 0 < d) (hn : n % (spc b (b ^ f) n.natAbs : Int) = 0) (h : t ≤ n * (d : Int)) : abv b (b ^ f) t d ≤ n := by
  obtain ⟨_, _, _, _, _, e, _⟩ := around_facts (L := b ^ f) hb t hd
  rw [← e, ← rg_self .up hb hd hn]
  exact rg_mono .up hb hf hd h
theorem below_is (hb : 2 ≤ b) (hf : 1 ≤ f) {t : Int} {d : Nat} (hd : 0 < d) (h : t.natAbs ≤ 3 * d * ((b ^ f - 1) * b ^ r)) :
    ∃ zs, (rgs b (b ^ f) (r + 2)).filter (fun n => decide (n * (d : Int) ≤ t)) = zs ++ [blw b (b ^ f) t d] := by
  obtain ⟨a1, _, _, _, e, _⟩ := around_facts (L := b ^ f) hb t hd
  refine last_is ((rgs_asc hb hf _).filter _) (List.mem_filter.mpr ⟨?_, decide_eq_true a1⟩) fun n hn => ?_
  · rw [← e]; exact rg_in .down hb hf hd h
  · obtain ⟨h1, h2⟩ := List.mem_filter.mp hn
    exact le_blw hb hf hd ((rgs_mem hb hf _ n).mp h1).2 (of_decide_eq_true h2)
theorem above_is (hb : 2 ≤ b) (hf : 1 ≤ f) {t : Int} {d : Nat} (hd : 0 < d) (h : t.natAbs ≤ 3 * d * ((b ^ f - 1) * b ^ r)) :
    ∃ zs, (rgs b (b ^ f) (r + 2)).filter (fun n => decide (t ≤ n * (d : Int))) = abv b (b ^ f) t d :: zs := by
  obtain ⟨_, a1, _, _, _, e, _⟩ := around_facts (L := b ^ f) hb t hd
  refine first_is ((rgs_asc hb hf _).filter _) (List.mem_filter.mpr ⟨?_, decide_eq_true a1⟩) fun n hn => ?_
  · rw [← e]; exact rg_in .up hb hf hd h
  · obtain ⟨h1, h2⟩ := List.mem_filter.mp hn
    exact abv_le hb hf hd ((rgs_mem hb hf _ n).mp h1).2 (of_decide_eq_true h2)
end
section
variable {b L : Nat}
/-- turned about -/
def trn : Wy → Wy
  | .near => .near
  | .down => .up
  | .up => .down
  | .zero => .zero
theorem sps_neg (t : Int) (d : Nat) : sps b L (-t) d = sps b L t d := by
  unfold sps
  rw [Int.natAbs_neg]
theorem rg_neg (y : Wy) (hb : 2 ≤ b) (t : Int) {d : Nat} (hd : 0 < d) : rg (trn y) b L (-t) d = -rg y b L t d := by
  have hs := sps_pos (L := L) hb t d
  have hS : 0 < (d : Int) * (sps b L t d : Int) := Int.mul_pos (by omega) hs
  unfold rg
  rw [sps_neg]
  generalize (sps b L t d : Int) = s at *
  generalize (d : Int) * s = S at *
  obtain ⟨h1, h2, h3⟩ := div_facts t S hS
  by_cases h : t % S = 0
  · have e : -t = -(t / S) * S := by rw [Int.neg_mul]; omega
    have e1 : (-t) / S = -(t / S) := by rw [e, Int.mul_ediv_cancel _ (by omega)]
    have e2 : (-t) % S = 0 := by rw [e]; exact Int.mul_emod_left _ _
    rw [e1, e2, h, if_neg (by simp), if_neg (by simp), Int.neg_mul]
  · have e : -t = (S - t % S) + S * (-(t / S) - 1) := by
      rw [Int.mul_sub, Int.mul_neg, Int.mul_comm S (t / S)]
      omega
    have e1 : (-t) / S = -(t / S) - 1 := by
      rw [e, Int.add_mul_ediv_left _ _ (by omega), Int.ediv_eq_zero_of_lt (by omega) (by omega)]
      omega
    have e2 : (-t) % S = S - t % S := by
      rw [e, Int.add_mul_emod_self_left]
      exact Int.emod_eq_of_lt (by omega) (by omega)
    rw [e1, e2]
    have hm0 : (t % S != 0) = true := by simpa using h
    have hm1 : (S - t % S != 0) = true := by simp; omega
    generalize t % S = m at *
    generalize t / S = q at *
    have key : wup (trn y) (-q - 1) (S - m) S = !wup y q m S := by
      cases y with
      | near =>
        rw [Bool.eq_iff_iff]
        simp [wup, trn]
        omega
      | down => rfl
      | up => rfl
      | zero =>
        rw [Bool.eq_iff_iff]
        simp [wup, trn]
        omega
    rw [hm0, hm1, key]
    cases hw : wup y q m S with
    | true =>
      rw [if_neg (by simp), if_pos (by simp), Int.sub_mul, Int.add_mul, Int.neg_mul]
      omega
    | false =>
      rw [if_pos (by simp), if_neg (by simp), Int.add_mul, Int.sub_mul, Int.neg_mul]
      omega
/-- the middle -/
theorem mid_tie (hb : 2 ≤ b) (t : Int) {d : Nat} (hd : 0 < d) : (blw b L t d < abv b L t d ∧ 2 * t = (blw b L t d + abv b L t d) * (d : Int)) ↔ tie b L t d := by
  have hs := sps_pos (L := L) hb t d
  have hS : 0 < (d : Int) * (sps b L t d : Int) := Int.mul_pos (by omega) hs
  have hc := ceil_eq (t := t) hS
  unfold blw abv tie
  rw [hc]
  obtain ⟨h1, h2, h3⟩ := div_facts t _ hS
  by_cases hm : t % ((d : Int) * (sps b L t d : Int)) = 0
  · rw [if_pos hm, hm]
    constructor
    · rintro ⟨h, _⟩
      omega
    · intro h
      omega
  · rw [if_neg hm]
    have e : (t / ((d : Int) * (sps b L t d : Int)) * (sps b L t d : Int) + (t / ((d : Int) * (sps b L t d : Int)) + 1) * (sps b L t d : Int)) * (d : Int) = 2 * (t / ((d : Int) * (sps b L t d : Int)) * ((d : Int) * (sps b L t d : Int))) + (d : Int) * (sps b L t d : Int) := by
      generalize t / ((d : Int) * (sps b L t d : Int)) = q
      generalize (sps b L t d : Int) = s
      have e1 : (q * s + (q + 1) * s) * (d : Int) = 2 * (q * s * (d : Int)) + s * (d : Int) := by
        rw [Int.add_mul, Int.add_mul q 1 s, Int.one_mul, Int.add_mul]
        omega
      rw [e1, Int.mul_assoc q, Int.mul_comm s]
    have e2 : (t / ((d : Int) * (sps b L t d : Int)) + 1) * (sps b L t d : Int) = t / ((d : Int) * (sps b L t d : Int)) * (sps b L t d : Int) + (sps b L t d : Int) := by rw [Int.add_mul, Int.one_mul]
    rw [e, e2]
    generalize t / ((d : Int) * (sps b L t d : Int)) * ((d : Int) * (sps b L t d : Int)) = z at *
    generalize t / ((d : Int) * (sps b L t d : Int)) * (sps b L t d : Int) = z2 at *
    constructor
    · rintro ⟨_, h⟩
      omega
    · intro h
      exact ⟨by omega, by omega⟩
/-- near, told by the distances -/
theorem near_due (hb : 2 ≤ b) (t : Int) {d : Nat} (hd : 0 < d) : rg .near b L t d =
    if t - blw b L t d * (d : Int) = abv b L t d * (d : Int) - t ∧ blw b L t d < abv b L t d then (if blw b L t d / (abv b L t d - blw b L t d) % 2 = 0 then blw b L t d else abv b L t d)
    else if t - blw b L t d * (d : Int) < abv b L t d * (d : Int) - t then blw b L t d else abv b L t d := by
  have hs := sps_pos (L := L) hb t d
  have hS : 0 < (d : Int) * (sps b L t d : Int) := Int.mul_pos (by omega) hs
  have hc := ceil_eq (t := t) hS
  obtain ⟨h1, h2, h3, h4⟩ := rg_form (L := L) .near hb t hd
  unfold blw abv
  rw [hc]
  have mulq : ∀ x : Int, x * (sps b L t d : Int) * (d : Int) = x * ((d : Int) * (sps b L t d : Int)) := fun x => by rw [Int.mul_assoc, Int.mul_comm (sps b L t d : Int)]
  by_cases hm : t % ((d : Int) * (sps b L t d : Int)) = 0
  · rw [if_pos hm, if_neg (by omega), mulq, if_neg (by omega)]
    rcases h4 with ⟨e, _⟩ | ⟨_, h, _⟩
    · exact e
    · exact absurd hm h
  · rw [if_neg hm]
    have e1 : (t / ((d : Int) * (sps b L t d : Int)) + 1) * ((d : Int) * (sps b L t d : Int)) = t / ((d : Int) * (sps b L t d : Int)) * ((d : Int) * (sps b L t d : Int)) + (d : Int) * (sps b L t d : Int) := by rw [Int.add_mul, Int.one_mul]
    have e2 : (t / ((d : Int) * (sps b L t d : Int)) + 1) * (sps b L t d : Int) - t / ((d : Int) * (sps b L t d : Int)) * (sps b L t d : Int) = (sps b L t d : Int) := by
      rw [Int.add_mul, Int.one_mul]
      generalize t / ((d : Int) * (sps b L t d : Int)) * (sps b L t d : Int) = z
      omega
    have e3 : t / ((d : Int) * (sps b L t d : Int)) * (sps b L t d : Int) / (sps b L t d : Int) = t / ((d : Int) * (sps b L t d : Int)) := Int.mul_ediv_cancel _ (by omega)
    rw [mulq, mulq, e1, e2, e3]
    have e4 : t / ((d : Int) * (sps b L t d : Int)) * (sps b L t d : Int) < (t / ((d : Int) * (sps b L t d : Int)) + 1) * (sps b L t d : Int) := by omega
    generalize t / ((d : Int) * (sps b L t d : Int)) * ((d : Int) * (sps b L t d : Int)) = z at *
    generalize (t / ((d : Int) * (sps b L t d : Int)) + 1) * (sps b L t d : Int) = up at *
    generalize t / ((d : Int) * (sps b L t d : Int)) * (sps b L t d : Int) = dn at *
    generalize t / ((d : Int) * (sps b L t d : Int)) = q at *
    generalize t % ((d : Int) * (sps b L t d : Int)) = m at *
    generalize (d : Int) * (sps b L t d : Int) = S at *
    rcases h4 with ⟨e, hu⟩ | ⟨e, _, hu⟩
    · have hu := hu hm
      simp [wup] at hu
      rw [e]
      by_cases c : t - z = z + S - t
      · rw [if_pos ⟨c, e4⟩, if_pos (by omega)]
      · rw [if_neg (fun h => c h.1), if_pos (by omega)]
    · simp [wup] at hu
      rw [e]
      by_cases c : t - z = z + S - t
      · rw [if_pos ⟨c, e4⟩, if_neg (by omega)]
      · rw [if_neg (fun h => c h.1), if_neg (by omega)]
/-- the greatest common part, by what is left -/
theorem gcd_step (x y : Nat) (hy : 0 < y) : Nat.gcd y (x % y) = Nat.gcd x y := by
  rw [Nat.gcd_comm x y, Nat.gcd_rec y x, Nat.gcd_comm]
/-- a number of the grid is one of each finer grid -/
theorem finer {b f m : Nat} (hb : 2 ≤ b) {n : Int} (h : n % (spc b (b ^ f) n.natAbs : Int) = 0) : n % (spc b (b ^ (f + m)) n.natAbs : Int) = 0 := by
  have hL : 1 ≤ b ^ f := Nat.pow_pos (by omega)
  have hL2 : 1 ≤ b ^ (f + m) := Nat.pow_pos (by omega)
  have hle : spx b (b ^ (f + m)) n.natAbs ≤ spx b (b ^ f) n.natAbs := by
    refine spx_le hb hL2 (Nat.lt_of_lt_of_le (spx_up (n := n.natAbs) hb hL) (Nat.mul_le_mul_right _ (Nat.pow_le_pow_right (by omega) (by omega))))
  exact Int.emod_eq_zero_of_dvd (Int.dvd_trans (Int.natCast_dvd_natCast.mpr (Nat.pow_dvd_pow b hle)) (Int.dvd_of_emod_eq_zero h))
end
end My

namespace My
/-! ### how many numbers a worth takes at the least, by going through all sums -/
def lk : List (Int × Int) → Int → Option Int
  | [], _ => none
  | p :: ps, w => if p.1 = w then some p.2 else lk ps w
def lenGo (M2 : Nat) (size worth : Int) : List Int → List (Int × Int) → List Int → List (Int × Int) × List Int
  | [], kv, la => (kv, la)
  | n :: ns, kv, la => if (lk kv (worth + n)).isNone = true ∧ (worth + n).natAbs ≤ M2 then lenGo M2 size worth ns ((worth + n, size) :: kv) ((worth + n) :: la) else lenGo M2 size worth ns kv la
def lenRows (M2 : Nat) (size : Int) (every : List Int) : List Int → List (Int × Int) → List Int → List (Int × Int) × List Int
  | [], kv, la => (kv, la)
  | w :: ws, kv, la => match lenGo M2 size w every kv la with
    | (kv', la') => lenRows M2 size every ws kv' la'
def lens (M2 : Nat) (every : List Int) : List (Int × Int) × List Int :=
  match lenRows M2 1 every [0] [(0, 0)] [] with
  | (k1, l1) => match lenRows M2 2 every l1.reverse k1 [] with
    | (k2, l2) => lenRows M2 3 every l2.reverse k2 []
/-- both sides of a ladder, without nought -/
def evr (b L k : Nat) : List Int := ((lad b L k).drop 1).reverse.map (fun x => -x) ++ (lad b L k).drop 1
/-- spacings, rounding, rows by a bound -/
def spF : Nat → Nat → Nat → Nat → Nat
  | 0, _, _, _ => 0
  | k + 1, b, L, n => if n < L then 0 else 1 + spF k b (L * b) n
theorem spF_eq {b n : Nat} (hb : 2 ≤ b) : ∀ (k L : Nat), 1 ≤ L → n < L * b ^ k → spx b L n = spF k b L n
  | 0, L, hL, h => by
    rw [Nat.pow_zero, Nat.mul_one] at h
    rw [spx_lt h]
    rfl
  | k + 1, L, hL, h => by
    by_cases h2 : n < L
    · rw [spx_lt h2]
      show _ = if n < L then 0 else _
      rw [if_pos h2]
    · rw [spx_ge hb hL (by omega)]
      show _ = if n < L then 0 else _
      rw [if_neg h2, spF_eq hb k (L * b) (Nat.mul_pos hL (by omega)) (by rw [Nat.mul_assoc, Nat.mul_comm b, ← Nat.pow_succ]; exact h)]
def rnF (k b L : Nat) (t : Int) : Int :=
  let s : Int := (b ^ spF k b L t.natAbs : Nat)
  let m := t % s
  let q := t / s
  if s < 2 * m ∨ (2 * m = s ∧ q % 2 = 1) then (q + 1) * s else q * s
theorem rnF_eq {b L k : Nat} (hb : 2 ≤ b) (hL : 1 ≤ L) {t : Int} (h : t.natAbs < L * b ^ k) : rn b L t = rnF k b L t := by
  unfold rn rnF spc
  rw [spF_eq hb k L hL h]
def rowF (k b L : Nat) : Nat → Int → Nat
  | 0, _ => 0
  | n + 1, t => if t = 0 then 0 else 1 + rowF k b L n (t - rnF k b L t)
def goodW (k b L : Nat) (kv : List (Int × Int)) (w : Int) : Bool :=
  match lk kv w with
  | some z => decide (z = (rowF k b L 12 w : Nat)) && decide (rowF k b L 12 w < 4)
  | none => decide (4 ≤ rowF k b L 12 w)
def goodG (k b f r : Nat) : Bool :=
  let M := (b ^ f - 1) * b ^ r
  match lens (2 * M) (evr b (b ^ f) r) with
  | (kv, _) => decide (kv.length ≤ 1000) && (List.range (2 * M + 1)).all fun i => goodW k b (b ^ f) kv ((i : Int) - (M : Int))
/-! ### the same with a mask, to be gone through -/
def okM (M2 m : Nat) (x : Int) : Bool := Nat.ble x.natAbs M2 && !(Nat.testBit m (x + M2).toNat)
def goM (M2 : Nat) (size worth : Int) : List Int → Nat → List (Int × Int) → List Int → Nat × List (Int × Int) × List Int
  | [], m, kv, la => (m, kv, la)
  | n :: ns, m, kv, la => match okM M2 m (worth + n) with
    | true => goM M2 size worth ns (m ||| 2 ^ (worth + n + M2).toNat) ((worth + n, size) :: kv) ((worth + n) :: la)
    | false => goM M2 size worth ns m kv la
def rowsM (M2 : Nat) (size : Int) (every : List Int) : List Int → Nat → List (Int × Int) → List Int → Nat × List (Int × Int) × List Int
  | [], m, kv, la => (m, kv, la)
  | w :: ws, m, kv, la => match goM M2 size w every m kv la with
    | (m', kv', la') => rowsM M2 size every ws m' kv' la'
def lensM (M2 : Nat) (every : List Int) : List (Int × Int) × List Int :=
  match rowsM M2 1 every [0] (2 ^ M2) [(0, 0)] [] with
  | (m1, k1, l1) => match rowsM M2 2 every l1.reverse m1 k1 [] with
    | (m2, k2, l2) => (rowsM M2 3 every l2.reverse m2 k2 []).2
def Sim (M2 m : Nat) (kv : List (Int × Int)) : Prop := ∀ x : Int, x.natAbs ≤ M2 → Nat.testBit m (x + M2).toNat = (lk kv x).isSome
theorem Sim.put {M2 m : Nat} {kv : List (Int × Int)} {y s : Int} (h : Sim M2 m kv) (hy : y.natAbs ≤ M2) : Sim M2 (m ||| 2 ^ (y + M2).toNat) ((y, s) :: kv) := fun x hx => by
  rw [Nat.testBit_or, Nat.testBit_two_pow, h x hx]
  show _ = (if y = x then some s else lk kv x).isSome
  by_cases e : y = x
  · subst e
    simp
  · rw [if_neg e, decide_eq_false (by omega), Bool.or_false]
theorem okM_iff {M2 m : Nat} {kv : List (Int × Int)} {y : Int} (h : Sim M2 m kv) : okM M2 m y = true ↔ ((lk kv y).isNone = true ∧ y.natAbs ≤ M2) := by
  unfold okM
  rw [Bool.and_eq_true, Nat.ble_eq]
  constructor
  · rintro ⟨h1, h2⟩
    refine ⟨?_, h1⟩
    rw [h y h1] at h2
    cases hl : lk kv y with
    | none => rfl
    | some z => rw [hl] at h2; cases h2
  · rintro ⟨h1, h2⟩
    refine ⟨h2, ?_⟩
    rw [h y h2]
    cases hl : lk kv y with
    | none => rfl
    | some z => rw [hl] at h1; cases h1
theorem goM_sim {M2 : Nat} {s w : Int} : ∀ (ns : List Int) (m : Nat) (kv : List (Int × Int)) (la : List Int), Sim M2 m kv → (goM M2 s w ns m kv la).2 = lenGo M2 s w ns kv la ∧ Sim M2 (goM M2 s w ns m kv la).1 (goM M2 s w ns m kv la).2.1
  | [], m, kv, la, h => ⟨rfl, h⟩
  | n :: ns, m, kv, la, h => by
    unfold goM lenGo
    have hk := okM_iff (y := w + n) h
    cases ho : okM M2 m (w + n) with
    | true =>
      have hq := hk.mp ho
      rw [if_pos hq]
      exact goM_sim ns _ _ _ (h.put hq.2)
    | false =>
      rw [if_neg (fun hq => by rw [hk.mpr hq] at ho; cases ho)]
      exact goM_sim ns _ _ _ h
theorem rowsM_sim {M2 : Nat} {s : Int} {ev : List Int} : ∀ (ws : List Int) (m : Nat) (kv : List (Int × Int)) (la : List Int), Sim M2 m kv → (rowsM M2 s ev ws m kv la).2 = lenRows M2 s ev ws kv la ∧ Sim M2 (rowsM M2 s ev ws m kv la).1 (rowsM M2 s ev ws m kv la).2.1
  | [], m, kv, la, h => ⟨rfl, h⟩
  | w :: ws, m, kv, la, h => by
    obtain ⟨h1, h2⟩ := goM_sim (s := s) (w := w) ev m kv la h
    unfold rowsM lenRows
    rw [← h1]
    exact rowsM_sim ws _ _ _ h2
theorem lensM_eq (M2 : Nat) (ev : List Int) : lens M2 ev = lensM M2 ev := by
  have h0 : Sim M2 (2 ^ M2) [(0, 0)] := fun x hx => by
    rw [Nat.testBit_two_pow]
    show _ = (if (0 : Int) = x then some 0 else none).isSome
    by_cases e : (0 : Int) = x
    · subst e
      simp
    · rw [if_neg e, decide_eq_false (by omega)]
      rfl
  obtain ⟨a1, b1⟩ := rowsM_sim (s := 1) (ev := ev) [0] (2 ^ M2) [(0, 0)] [] h0
  obtain ⟨a2, b2⟩ := rowsM_sim (s := 2) (ev := ev) (rowsM M2 1 ev [0] (2 ^ M2) [(0, 0)] []).2.2.reverse _ _ [] b1
  obtain ⟨a3, _⟩ := rowsM_sim (s := 3) (ev := ev) (rowsM M2 2 ev (rowsM M2 1 ev [0] (2 ^ M2) [(0, 0)] []).2.2.reverse (rowsM M2 1 ev [0] (2 ^ M2) [(0, 0)] []).1 (rowsM M2 1 ev [0] (2 ^ M2) [(0, 0)] []).2.1 []).2.2.reverse _ _ [] b2
  have e : lens M2 ev = lenRows M2 3 ev (lenRows M2 2 ev (lenRows M2 1 ev [0] [(0, 0)] []).2.reverse (lenRows M2 1 ev [0] [(0, 0)] []).1 []).2.reverse (lenRows M2 2 ev (lenRows M2 1 ev [0] [(0, 0)] []).2.reverse (lenRows M2 1 ev [0] [(0, 0)] []).1 []).1 [] := rfl
  rw [e, ← a1, ← a2, ← a3]
  rfl
def goodM (k b f r : Nat) : Bool :=
  let M := (b ^ f - 1) * b ^ r
  match lensM (2 * M) (evr b (b ^ f) r) with
  | (kv, _) => decide (kv.length ≤ 1000) && (List.range (2 * M + 1)).all fun i => goodW k b (b ^ f) kv ((i : Int) - (M : Int))
theorem goodM_eq {k b f r : Nat} (h : goodM k b f r = true) : goodG k b f r = true := by
  unfold goodG
  dsimp only
  rw [lensM_eq]
  exact h
theorem gg1 : goodG 6 2 1 4 = true := goodM_eq (by decide +kernel)
theorem gg2 : goodG 6 2 2 4 = true := goodM_eq (by decide +kernel)
theorem gg3 : goodG 6 2 3 3 = true := goodM_eq (by decide +kernel)
theorem gg4 : goodG 6 3 1 3 = true := goodM_eq (by decide +kernel)
theorem gg5 : goodG 6 3 2 2 = true := goodM_eq (by decide +kernel)
theorem gg6 : goodG 6 5 1 2 = true := goodM_eq (by decide +kernel)
theorem gg7 : goodG 6 10 1 1 = true := goodM_eq (by decide +kernel)
end My

set_option Elab.async false
set_option maxRecDepth 100000
set_option maxHeartbeats 1000000
namespace My
open PySem L2 Evl
/-! ### data -/
theorem pw400 {b i : Nat} (hb : b ≤ 10) (hi : i ≤ 100) : b ^ i < 2 ^ 400 := by
  have h1 : b ^ i ≤ 10 ^ i := Nat.pow_le_pow_left hb i
  have h2 : 10 ^ i ≤ 10 ^ 100 := Nat.pow_le_pow_right (by decide) hi
  have h3 : 10 ^ 100 < 2 ^ 400 := by decide +kernel
  omega
theorem wm {i j : Int} (ha : i.natAbs < 2 ^ 5000) (hb : j.natAbs < 2 ^ 5000) : CMulW i j := wide_mul ha hb (by decide) (by decide) (by decide)
theorem wd {i j : Int} (h : 0 < j) (hb : j.natAbs < 2 ^ 5000) : CDivW i j := wide_div h hb (by decide) (by decide)
theorem p5000 {n k : Nat} (h : n < 2 ^ k) (hk : k ≤ 5000 := by decide) : n < 2 ^ 5000 := Nat.lt_of_lt_of_le h (Nat.pow_le_pow_right (by decide) hk)
def gfl (b f r p u : Int) (lim tops : Addr) (G : Int) : List (Str × V) :=
  putF "greatest" (.int G) (putF "tops" (.ref tops) (putF "limits" (.ref lim) (putF "unit" (.int u) (putF "places" (.int p) (putF "reach" (.int r) (putF "figures" (.int f) (putF "base" (.int b) [])))))))
section
variable {b f r p u G : Int} {lim tops : Addr}
theorem gfl_base : (gfl b f r p u lim tops G).lookup ("base" : Str) = some (.int b) := by
  unfold gfl
  repeat (first | rw [lookup_putF, if_pos (by decide +kernel)] | rw [lookup_putF, if_neg (by decide +kernel)])
theorem gfl_limits : (gfl b f r p u lim tops G).lookup ("limits" : Str) = some (.ref lim) := by
  unfold gfl
  repeat (first | rw [lookup_putF, if_pos (by decide +kernel)] | rw [lookup_putF, if_neg (by decide +kernel)])
theorem gfl_tops : (gfl b f r p u lim tops G).lookup ("tops" : Str) = some (.ref tops) := by
  unfold gfl
  repeat (first | rw [lookup_putF, if_pos (by decide +kernel)] | rw [lookup_putF, if_neg (by decide +kernel)])
theorem gfl_greatest : (gfl b f r p u lim tops G).lookup ("greatest" : Str) = some (.int G) := by
  unfold gfl
  rw [lookup_putF, if_pos (by decide +kernel)]
end
/-- a Grid stands at g -/
structure GridAt (a : Ad) (H : Hp) (g : Addr) (b f r L G : Nat) : Prop where
  gr : Gr b f r L G
  ub : b ≤ 10
  uf : f ≤ 30
  ur : r ≤ 60
  ob : ∃ (dx lim tops : Addr) (p u : Int) (xs ys : List V), H g = some (.ins a.Grid dx (gfl b f r p u lim tops G)) ∧ H lim = some (.tup xs) ∧ H tops = some (.tup ys) ∧
    (∀ m : Nat, m ≤ 3 → xs[m]? = some (.int ((b ^ (f + m) : Nat) : Int))) ∧ (∀ m : Nat, m ≤ 3 → ys[m]? = some (.int (((b ^ (f + m) - 1) * b ^ r : Nat) : Int)))
theorem GridAt.mono {a : Ad} {H H' : Hp} {g : Addr} {b f r L G : Nat} (e : Ex H H') (h : GridAt a H g b f r L G) : GridAt a H' g b f r L G := by
  obtain ⟨h1, h2, h3, h4, dx, lim, tops, p, u, xs, ys, h5, h6, h7, h8⟩ := h
  exact ⟨h1, h2, h3, h4, dx, lim, tops, p, u, xs, ys, e _ _ h5, e _ _ h6, e _ _ h7, h8⟩
theorem GridAt.bG {a : Ad} {H : Hp} {g : Addr} {b f r L G : Nat} (h : GridAt a H g b f r L G) : G < 2 ^ 400 := by
  have h1 := h.gr.Gl
  rw [h.gr.eL, ← Nat.pow_add] at h1
  exact Nat.lt_trans h1 (pw400 h.ub (by have := h.uf; have := h.ur; omega))
theorem atN {xs : List V} {m : Nat} {v : V} (h : xs[m]? = some v) : atI xs ((m : Nat) : Int) = some v := at_of rfl h

/-! ### promises of the program's defs -/
def sp_is_whole : Sp := fun vs H Q _ => ∃ n : Int, vs = [.int n] ∧ ∀ H', Ex H H' → Q (.bl true) H'
def sp_is_from_to : Sp := fun vs H Q _ => ∃ v lo hi : Int, vs = [.int v, .int lo, .int hi] ∧ ∀ H', Ex H H' → Q (.bl (decide (lo ≤ v) && decide (v ≤ hi))) H'
def sp_power : Sp := fun vs H Q _ => ∃ b e : Nat, vs = [.int b, .int e] ∧ b ≤ 10 ∧ e ≤ 100 ∧ ∀ H', Ex H H' → Q (.int ((b ^ e : Nat) : Int)) H'
def sp_is_grid (K : PySem.W.Frag) : Sp := fun vs H Q _ => ∃ (t : Addr) (b f r p : Nat), vs = [.ref t] ∧ SqT K H t [.int b, .int f, .int r, .int p] ∧ (2 ≤ b ∧ b ≤ 10 ∧ 1 ≤ f ∧ f ≤ 30 ∧ r ≤ 60 ∧ p ≤ 30) ∧ ∀ H', Ex H H' → Q (.bl true) H'
def sp_spacing_at (a : Ad) : Sp := fun vs H Q _ => ∃ (g : Addr) (b f r L G n m : Nat), vs = [.ref g, .int n, .int m] ∧ GridAt a H g b f r L G ∧ m ≤ 3 ∧ n < 2 ^ 4000 ∧ ∀ H', Ex H H' → Q (.int (spc b (b ^ (f + m)) n : Nat)) H'
def sp_goes_up : Sp := fun vs H Q _ => ∃ q m s : Int, vs = [.int q, .int m, .int s, .str "near"] ∧ m.natAbs < 2 ^ 4500 ∧ ∀ H', Ex H H' → Q (.bl (decide (s < m * 2) || (decide (m * 2 = s) && decide (q % 2 = 1)))) H'
def rnO (b L G : Nat) (t : Int) : V := if (rn b L t).natAbs ≤ G then .int (rn b L t) else .non
def sp_fitted (a : Ad) : Sp := fun vs H Q _ => ∃ (g : Addr) (b f r L G : Nat) (t : Int), vs = [.ref g, .int t, .int 1, .str "near", .int 0] ∧ GridAt a H g b f r L G ∧ t.natAbs < 2 ^ 4000 ∧ ∀ H', Ex H H' → Q (rnO b L G t) H'
def sp_contains (a : Ad) : Sp := fun vs H Q _ => ∃ (g : Addr) (b f r L G : Nat) (n : Int), vs = [.ref g, .int n] ∧ GridAt a H g b f r L G ∧ OnG b L G n ∧ ∀ H', Ex H H' → Q (.bl true) H'

section
variable {P : Program} {w : World} {K : PySem.W.Frag} {mg : Str → Option Value} {base : Heap} {a : Ad}
theorem ok_is_whole (T : Txt K mg a) : FnOk P w K mg base CX0 1 a.is_whole a.is_whole_fd ["value"] sp_is_whole := by
  refine T.F_is_whole.ok sc_is_whole (fun vs H Q E h => ?_) (fun cdv A outer s H vs Q E hr h => ?_)
  · obtain ⟨n, rfl, _⟩ := h
    rfl
  · obtain ⟨n, rfl, k⟩ := h
    refine ⟨_, (pss_one (ps_ret (pe_and (pe_callB call_isi (by rfl) T.n_isinstance (by decide +kernel) (pa_cons (pv 0) (pa_cons (pe_bltn (v := .ty "int") (u := .type "int") rfl T.n_int (by decide +kernel) rfl) pa_nil))) (pe_one (pe_not (pe_callB call_isi (by rfl) T.n_isinstance (by decide +kernel) (pa_cons (pv 0) (pa_cons (pe_bltn (v := .ty "bool") (u := .type "bool") rfl T.n_bool (by decide +kernel) rfl) pa_nil)))))))), ?_⟩
    refine ⟨_, rfl, _, _, _, _, true, rfl, .ty _, .base (.int n), kit_ty (by decide +kernel), true, rfl, iteT ?_⟩
    refine ⟨_, rfl, _, _, _, _, false, rfl, .ty _, .base (.int n), kit_ty (by decide +kernel), false, rfl, ?_⟩
    exact k H (Ex.refl H)
theorem ok_is_from_to (T : Txt K mg a) : FnOk P w K mg base CX0 2 a.is_from_to a.is_from_to_fd ["value", "low", "high"] sp_is_from_to := by
  refine T.F_is_from_to.ok sc_is_from_to (fun vs H Q E h => ?_) (fun cdv A outer s H vs Q E hr h => ?_)
  · obtain ⟨v, lo, hi, rfl, _⟩ := h
    rfl
  · obtain ⟨v, lo, hi, rfl, k⟩ := h
    refine ⟨_, (pss_one (ps_ret (pe_and (pe_call (ok_is_whole T) (hr.mono (by decide)) rfl T.g_is_whole T.k_is_whole T.B_is_whole .nil pass0 (pa_cons (pv 0) pa_nil)) (pe_one (pe_chain op_le op_le (pv 1) (pv 0) (pv 2)))))), ?_⟩
    refine ⟨_, rfl, v, rfl, fun H' e => ⟨true, rfl, iteT ?_⟩⟩
    refine ⟨_, rfl, _, rfl, _, _, rfl, rfl, _, rfl, ?_⟩
    by_cases h : lo ≤ v
    · rw [if_pos (decide_eq_true h)]
      refine ⟨_, rfl, _, _, rfl, rfl, ?_⟩
      have := k H' e
      rw [decide_eq_true h, Bool.true_and] at this
      exact this
    · rw [if_neg (by simpa using h)]
      have := k H' e
      rw [decide_eq_false h, Bool.false_and] at this
      exact this
theorem ok_power (T : Txt K mg a) : FnOk P w K mg base CX0 1 a.power a.power_fd ["base", "exponent"] sp_power := by
  refine T.F_power.ok sc_power (fun vs H Q E h => ?_) (fun cdv A outer s H vs Q E hr h => ?_)
  · obtain ⟨b, e, rfl, _⟩ := h
    rfl
  · obtain ⟨b, n, rfl, hb, hn, k⟩ := h
    refine ⟨_, (pss_cons (ps_set (i := 2) sc_power.nd rfl (Or.inl rfl) pe_int)
      (pss_cons (ps_for PassesOwn.never rfl (pi_range1 rfl T.n_range (pa_cons (pv 1) pa_nil)) (pg_name (i := 3) sc_power.nd rfl (Or.inl rfl)) (pss_one (ps_set (i := 2) sc_power.nd rfl (Or.inl rfl) (pe_op op_mulW (pv 2) (pv 0)))))
      (pss_one (ps_ret (pv 2))))), ?_⟩
    refine ⟨_, rfl, _, rfl, by omega, by omega, for_range (lo := 0) (n := n) (fun i σ H' => H' = H ∧ ∃ v, σ = [some (.int b), some (.int n), some (.int ((b ^ i : Nat) : Int)), v]) ⟨rfl, none, rfl⟩ ?_ ?_⟩
    · rintro i σ H' hi ⟨rfl, v, rfl⟩
      refine ⟨_, rfl, _, rfl, _, _, rfl, rfl, wm (p5000 (pw400 hb (by omega))) (p5000 (k := 400) (by rw [Int.natAbs_natCast]; exact Nat.lt_of_le_of_lt hb (by decide +kernel))), rfl, some (.int (0 + (i : Int))), ?_⟩
      show [_, _, some (V.int (((b ^ i : Nat) : Int) * (b : Int))), _] = _
      rw [Nat.pow_succ, Int.natCast_mul]
    · rintro σ H' ⟨rfl, v, rfl⟩
      exact ⟨_, rfl, k _ (Ex.refl _)⟩
theorem ok_is_grid (T : Txt K mg a) : FnOk P w K mg base CX0 3 a.is_grid a.is_grid_fd ["told"] (sp_is_grid K) := by
  refine T.F_is_grid.ok sc_is_grid (fun vs H Q E h => ?_) (fun cdv A outer s H vs Q E hr h => ?_)
  · obtain ⟨t, b, f, r, p, rfl, _⟩ := h
    rfl
  · obtain ⟨t, b, f, r, p, rfl, ht, ⟨h1, h2, h3, h4, h5, h6⟩, k⟩ := h
    refine ⟨_, (pss_cons (ps_asg (pv 0) (pg_tup rfl (pgs_cons (pg_name (i := 1) sc_is_grid.nd rfl (Or.inl rfl)) (pgs_cons (pg_name (i := 2) sc_is_grid.nd rfl (Or.inl rfl)) (pgs_cons (pg_name (i := 3) sc_is_grid.nd rfl (Or.inl rfl)) (pgs_cons (pg_name (i := 4) sc_is_grid.nd rfl (Or.inl rfl)) pgs_nil))))))
      (pss_one (ps_ret (pe_and (pe_call (ok_is_from_to T) (hr.mono (by decide)) rfl T.g_is_from_to T.k_is_from_to T.B_is_from_to .nil pass0 (pa_cons (pv 1) (pa_cons pe_int (pa_cons pe_int pa_nil)))) (pe_and (pe_call (ok_is_from_to T) (hr.mono (by decide)) rfl T.g_is_from_to T.k_is_from_to T.B_is_from_to .nil pass0 (pa_cons (pv 2) (pa_cons pe_int (pa_cons (pe_glob (v := .int 30) rfl T.c_MOST_FIGURES.choose_spec ⟨_, rfl⟩) pa_nil)))) (pe_and (pe_call (ok_is_from_to T) (hr.mono (by decide)) rfl T.g_is_from_to T.k_is_from_to T.B_is_from_to .nil pass0 (pa_cons (pv 3) (pa_cons pe_int (pa_cons pe_int pa_nil)))) (pe_one (pe_call (ok_is_from_to T) (hr.mono (by decide)) rfl T.g_is_from_to T.k_is_from_to T.B_is_from_to .nil pass0 (pa_cons (pv 4) (pa_cons pe_int (pa_cons pe_int pa_nil))))))))))), ?_⟩
    refine ⟨_, rfl, t, _, rfl, ht, rfl, _, _, rfl, _, _, rfl, _, _, rfl, _, _, rfl, rfl, ?_⟩
    refine ⟨_, rfl, (b : Int), 2, 10, rfl, fun H1 e1 => ⟨true, ?_, iteT ?_⟩⟩
    · show V.bl (decide ((2 : Int) ≤ b) && decide ((b : Int) ≤ 10)) = _
      rw [decide_eq_true (by omega), decide_eq_true (by omega)]
      rfl
    refine ⟨_, rfl, (f : Int), 1, 30, rfl, fun H2 e2 => ⟨true, ?_, iteT ?_⟩⟩
    · show V.bl (decide ((1 : Int) ≤ f) && decide ((f : Int) ≤ 30)) = _
      rw [decide_eq_true (by omega), decide_eq_true (by omega)]
      rfl
    refine ⟨_, rfl, (r : Int), 0, 60, rfl, fun H3 e3 => ⟨true, ?_, iteT ?_⟩⟩
    · show V.bl (decide ((0 : Int) ≤ r) && decide ((r : Int) ≤ 60)) = _
      rw [decide_eq_true (by omega), decide_eq_true (by omega)]
      rfl
    refine ⟨_, rfl, (p : Int), 0, 30, rfl, fun H4 e4 => ?_⟩
    rw [decide_eq_true (by omega), decide_eq_true (by omega)]
    exact k H4 (((e1.trans e2).trans e3).trans e4)
theorem ok_spacing_at (T : Txt K mg a) : FnOk P w K mg base CX0 1 a.spacing_at a.spacing_at_fd ["grid", "size", "more"] (sp_spacing_at a) := by
  refine T.F_spacing_at.ok sc_spacing_at (fun vs H Q E h => ?_) (fun cdv A outer s H vs Q E hr h => ?_)
  · obtain ⟨g, b, f, r, L, G, n, m, rfl, _⟩ := h
    rfl
  · obtain ⟨g, b, f, r, L, G, n, m, rfl, hg, hm, hn, k⟩ := h
    refine ⟨_, (pss_cons (ps_set (i := 3) sc_spacing_at.nd rfl (Or.inl rfl) pe_int)
      (pss_cons (ps_set (i := 4) sc_spacing_at.nd rfl (Or.inl rfl) (pe_ix ix_tup (pe_fld (pv 0) rfl) (pv 2) (fun _ _ => rfl)))
      (pss_cons (ps_while PassesOwn.never (pt_cmpR op_ge (pv 1) (pv 4) (nomark _)) (pss_cons (ps_set (i := 4) sc_spacing_at.nd rfl (Or.inl rfl) (pe_op op_mulW (pv 4) (pe_fld (pv 0) rfl)))
      (pss_one (ps_set (i := 3) sc_spacing_at.nd rfl (Or.inl rfl) (pe_op op_mulW (pv 3) (pe_fld (pv 0) rfl))))))
      (pss_one (ps_ret (pv 3)))))), ?_⟩
    have hb := hg.gr.hb
    have ub := hg.ub
    have uf := hg.uf
    obtain ⟨dx, lim, tops, p, u, xs, ys, o1, o2, o3, o4, o5⟩ := hg.ob
    refine ⟨_, rfl, g, _, dx, _, _, rfl, o1, T.cl_Grid, T.f_Grid_limits, gfl_limits, _, rfl, lim, xs, _, _, rfl, rfl, SqT.of o2, atN (o4 m hm), ?_⟩
    have hM : 1 ≤ b ^ (f + m) := Nat.pow_pos (by omega)
    have hMl : b ^ (f + m) < 2 ^ 400 := pw400 ub (by omega)
    generalize hMe : b ^ (f + m) = M at *
    refine ⟨fun c σ H' => ∃ k : Nat, H' = H ∧ c = spx b (M * b ^ k) n ∧ spx b M n = k + spx b (M * b ^ k) n ∧ M * b ^ k < 2 ^ 4010 ∧ σ = [some (.ref g), some (.int n), some (.int m), some (.int ((b ^ k : Nat) : Int)), some (.int ((M * b ^ k : Nat) : Int))],
      ⟨_, 0, rfl, rfl, by rw [Nat.pow_zero, Nat.mul_one]; omega, by rw [Nat.pow_zero, Nat.mul_one]; exact Nat.lt_trans hMl (by decide +kernel), by rw [Nat.pow_zero, Nat.mul_one]; rfl⟩, ?_⟩
    rintro c σ H' ⟨k', rfl, rfl, h1, h2, rfl⟩
    have hbk : b ^ k' < 2 ^ 4010 := Nat.lt_of_le_of_lt (Nat.le_mul_of_pos_left _ hM) h2
    refine ⟨_, rfl, _, rfl, _, _, rfl, rfl, _, rfl, ?_⟩
    refine ite2 (fun hc => ?_) (fun hc => ?_)
    · have hc := Int.ofNat_le.mp (of_decide_eq_true hc)
      refine ⟨fun σ' H2 => H2 = H' ∧ σ' = [some (.ref g), some (.int n), some (.int m), some (.int ((b ^ (k' + 1) : Nat) : Int)), some (.int ((M * b ^ (k' + 1) : Nat) : Int))], ?_, ?_⟩
      · rintro σ' H2 ⟨rfl, rfl⟩
        have hpos : 1 ≤ M * b ^ k' := Nat.mul_pos hM (Nat.pow_pos (by omega))
        have hstep : spx b (M * b ^ k') n = 1 + spx b (M * b ^ (k' + 1)) n := by
          rw [Nat.pow_succ, ← Nat.mul_assoc]
          exact spx_ge hb hpos hc
        refine ⟨_, ?_, k' + 1, rfl, rfl, by omega, ?_, rfl⟩
        · omega
        · rw [Nat.pow_succ, ← Nat.mul_assoc]
          have : M * b ^ k' * b ≤ n * 10 := Nat.mul_le_mul hc ub
          have h10 : 2 ^ 4000 * 10 ≤ 2 ^ 4010 := by decide +kernel
          omega
      · refine ⟨_, rfl, _, rfl, g, _, dx, _, _, rfl, o1, T.cl_Grid, T.f_Grid_base, gfl_base, _, _, rfl, rfl, wm (p5000 h2) (p5000 (k := 400) (by rw [Int.natAbs_natCast]; exact Nat.lt_of_le_of_lt ub (by decide +kernel))), ?_⟩
        refine ⟨_, rfl, _, rfl, g, _, dx, _, _, rfl, o1, T.cl_Grid, T.f_Grid_base, gfl_base, _, _, rfl, rfl, wm (p5000 hbk) (p5000 (k := 400) (by rw [Int.natAbs_natCast]; exact Nat.lt_of_le_of_lt ub (by decide +kernel))), rfl, ?_⟩
        show [_, _, _, some (V.int (((b ^ k' : Nat) : Int) * (b : Int))), some (V.int (((M * b ^ k' : Nat) : Int) * (b : Int)))] = _
        rw [Nat.pow_succ, ← Nat.mul_assoc, Int.natCast_mul (M * b ^ k') b, Int.natCast_mul (b ^ k') b]
    · have hc : ¬ ((M * b ^ k' : Nat) : Int) ≤ (n : Int) := fun z => hc (decide_eq_true z)
      refine ⟨_, rfl, ?_⟩
      have h0 : spx b (M * b ^ k') n = 0 := spx_lt (by omega)
      have : spc b M n = b ^ k' := by
        unfold spc
        rw [h1, h0, Nat.add_zero]
      rw [← this]
      exact k _ (Ex.refl _)
theorem ok_goes_up (T : Txt K mg a) : FnOk P w K mg base CX0 1 a.goes_up a.goes_up_fd ["below", "left", "step", "way"] sp_goes_up := by
  refine T.F_goes_up.ok sc_goes_up (fun vs H Q E h => ?_) (fun cdv A outer s H vs Q E hr h => ?_)
  · obtain ⟨q, m, s, rfl, _⟩ := h
    rfl
  · obtain ⟨q, m, s, rfl, hm, k⟩ := h
    refine ⟨_, (pss_cons (ps_if (pt_cmpR op_eq (pv 3) pe_str (nomark _)) (pss_one (ps_ret (pe_cmpR op_lt (pv 0) pe_int (nomark _)))) pss_nil)
      (pss_cons (ps_if (pt_cmpR op_ne (pv 3) pe_str (nomark _)) (pss_one (ps_ret (pe_cmpR op_eq (pv 3) pe_str (nomark _)))) pss_nil)
      (pss_one (ps_ret (pe_or (pe_cmpR op_gt (pe_op op_mulW (pv 1) pe_int) (pv 2) (nomark _)) (pe_one (pe_and (pe_cmpR op_eq (pe_op op_mulW (pv 1) pe_int) (pv 2) (nomark _)) (pe_one (pe_cmpR op_eq (pe_op op_mod (pv 0) pe_int) pe_int (nomark _)))))))))), ?_⟩
    refine ⟨_, rfl, rfl, _, rfl, ?_⟩
    rw [show decide (V.str "near" = V.str "zero") = false from by decide +kernel]
    refine iteF ⟨_, rfl, rfl, _, rfl, ?_⟩
    rw [show (!decide (V.str "near" = V.str "near")) = false from by decide +kernel]
    refine iteF ⟨_, rfl, _, _, rfl, rfl, wm (p5000 hm) (by decide +kernel), _, rfl, _, _, rfl, rfl, _, rfl, ?_⟩
    have kk := k H (Ex.refl H)
    by_cases h : s < m * 2
    · rw [if_pos (decide_eq_true h)]
      rw [decide_eq_true h, Bool.true_or] at kk
      exact kk
    · rw [if_neg (by simpa using h)]
      rw [decide_eq_false h, Bool.false_or] at kk
      refine ⟨_, rfl, _, _, rfl, rfl, wm (p5000 hm) (by decide +kernel), _, rfl, rfl, _, rfl, ?_⟩
      have e1 : decide (V.int (m * 2) = V.int s) = decide (m * 2 = s) := by simp
      rw [e1]
      by_cases h2 : m * 2 = s
      · rw [if_pos (decide_eq_true h2)]
        rw [decide_eq_true h2, Bool.true_and] at kk
        refine ⟨_, rfl, _, _, rfl, rfl, (by show (0 : Int) < 2; decide), rfl, ?_⟩
        have e2 : decide (V.int (q % 2) = V.int 1) = decide (q % 2 = 1) := by simp
        show Q (V.bl (decide (V.int (q % 2) = V.int 1))) H
        rw [e2]
        exact kk
      · rw [if_neg (by simpa using h2)]
        rw [decide_eq_false h2, Bool.false_and] at kk
        exact kk
end
end My


set_option Elab.async false
set_option maxRecDepth 100000
set_option maxHeartbeats 1000000
set_option exponentiation.threshold 6000
namespace My
open PySem L2 Evl
def iv (xs : List Int) : List V := xs.map V.int
def sp_rounded_parts (a : Ad) : Sp := fun vs H Q _ => ∃ (g : Addr) (b f r L G : Nat) (t : Int), vs = [.ref g, .int t] ∧ GridAt a H g b f r L G ∧ t.natAbs ≤ G ∧ ∀ p H', Ex H H' → H' p = some (.tup (iv (row b L t))) → Q (.ref p) H'
def sp_check_reached (a : Ad) : Sp := fun vs H Q _ => ∃ (g : Addr) (b f r L G : Nat) (t : Int), vs = [.ref g, .int t] ∧ GridAt a H g b f r L G ∧ t.natAbs ≤ G ∧ ∀ H', Ex H H' → Q .non H'
def sp_product_row (a : Ad) : Sp := fun vs H Q _ => ∃ (g : Addr) (b f r L G : Nat) (x y : Int), vs = [.ref g, .int x, .int y] ∧ GridAt a H g b f r L G ∧ OnG b L G x ∧ OnG b L G y ∧
  (G < (x * y).natAbs → ∀ H', Ex H H' → Q .non H') ∧ ((x * y).natAbs ≤ G → ∀ p H', Ex H H' → H' p = some (.tup (iv (row b L (x * y)))) → Q (.ref p) H')
def sp_is_numbers (a : Ad) : Sp := fun vs H Q _ => ∃ (g : Addr) (b f r L G : Nat) (t : Addr) (xs : List Int), vs = [.ref g, .ref t] ∧ GridAt a H g b f r L G ∧ H t = some (.tup (iv xs)) ∧ xs.length ≤ 1000 ∧ (∀ x ∈ xs, OnG b L G x) ∧ ∀ H', Ex H H' → Q (.bl true) H'
def sp_is_row (a : Ad) : Sp := fun vs H Q _ => ∃ (g : Addr) (b f r L G : Nat) (t : Addr) (xs : List Int), vs = [.ref g, .ref t] ∧ GridAt a H g b f r L G ∧ H t = some (.tup (iv xs)) ∧ xs.length ≤ 100 ∧ (∀ x ∈ xs, OnG b L G x) ∧ ∀ H', Ex H H' → Q (.bl true) H'
def sp_shows_shortest (a : Ad) : Sp := fun vs H Q _ => ∃ (g : Addr) (b f r L G : Nat) (t : Int) (p : Addr), vs = [.ref g, .int t, .ref p] ∧ GridAt a H g b f r L G ∧ t.natAbs ≤ G ∧ H p = some (.tup (iv (row b L t))) ∧ (row b L t).length ≤ 100 ∧ ∀ H', Ex H H' → Q (.bl true) H'
def sp_init (a : Ad) : Sp := fun vs H Q _ => ∃ (p dx : Addr) (b f r pl : Nat), vs = [.ref p, .int b, .int f, .int r, .int pl] ∧ H p = some (.ins a.Grid dx []) ∧ (2 ≤ b ∧ b ≤ 10 ∧ 1 ≤ f ∧ f ≤ 30 ∧ r ≤ 60 ∧ pl ≤ 30) ∧
  ∀ H', (∀ c o, H c = some o → c ≠ p → H' c = some o) → GridAt a H' p b f r (b ^ f) ((b ^ f - 1) * b ^ r) → Q .non H'
theorem G1 {b f r L G : Nat} (h : Gr b f r L G) : b ^ (f + 0) = L := by rw [Nat.add_zero, h.eL]
theorem absI (t : Int) : (if t < 0 then -t else t) = (t.natAbs : Int) := by split <;> omega
theorem spc_lt {b L n : Nat} (hb : 2 ≤ b) (hL : 1 ≤ L) : spc b L n ≤ n * b + 1 := by
  unfold spc
  by_cases h : spx b L n = 0
  · rw [h, Nat.pow_zero]; omega
  · have h1 := spx_low (n := n) hb (spx b L n - 1) L hL (by omega)
    have h2 : b ^ spx b L n = b ^ (spx b L n - 1) * b := by
      rw [← Nat.pow_succ]
      congr 1
      omega
    have h3 : b ^ (spx b L n - 1) ≤ n := Nat.le_trans (Nat.le_mul_of_pos_left _ hL) h1
    rw [h2]
    exact Nat.le_trans (Nat.mul_le_mul_right _ h3) (Nat.le_succ _)
theorem spc_sz {b L n : Nat} (hb : 2 ≤ b) (ub : b ≤ 10) (hL : 1 ≤ L) (hn : n < 2 ^ 4000) : spc b L n < 2 ^ 4010 := by
  have h1 := spc_lt (n := n) hb hL
  have h2 : n * b ≤ n * 10 := Nat.mul_le_mul_left n ub
  have h10 : 2 ^ 4000 * 10 + 1 < 2 ^ 4010 := by decide +kernel
  omega
theorem rn_alt {b L : Nat} (hb : 2 ≤ b) (t : Int) : rn b L t = if (t % (spc b L t.natAbs : Int) != 0) = true ∧ (decide ((spc b L t.natAbs : Int) < t % (spc b L t.natAbs : Int) * 2) || (decide (t % (spc b L t.natAbs : Int) * 2 = (spc b L t.natAbs : Int)) && decide (t / (spc b L t.natAbs : Int) % 2 = 1))) = true then (t / (spc b L t.natAbs : Int) + 1) * (spc b L t.natAbs : Int) else t / (spc b L t.natAbs : Int) * (spc b L t.natAbs : Int) := by
  have hs := spcI_pos (L := L) hb t.natAbs
  unfold rn
  generalize (spc b L t.natAbs : Int) = s at *
  by_cases hm : t % s = 0
  · rw [hm, if_neg (by simp; omega), if_neg (by simp)]
  · have : (s < 2 * (t % s) ∨ 2 * (t % s) = s ∧ t / s % 2 = 1) ↔ ((t % s != 0) = true ∧ (decide (s < t % s * 2) || (decide (t % s * 2 = s) && decide (t / s % 2 = 1))) = true) := by
      simp [hm]
      constructor <;> intro h <;> omega
    by_cases hc : (s < 2 * (t % s) ∨ 2 * (t % s) = s ∧ t / s % 2 = 1)
    · rw [if_pos hc, if_pos (this.mp hc)]
    · rw [if_neg hc, if_neg (fun z => hc (this.mpr z))]
theorem rnO_in {b L G : Nat} {t : Int} (h : (rn b L t).natAbs ≤ G) : rnO b L G t = .int (rn b L t) := if_pos h
theorem quo_sz {t s : Int} {k : Nat} (hs : 0 < s) (h : t.natAbs < 2 ^ k) : (t / s).natAbs < 2 ^ k + 1 := by
  have h1 := Int.natAbs_ediv_le_natAbs t s
  omega
theorem quo_sz' {t s : Int} (hs : 0 < s) (h : t.natAbs < 2 ^ 4000) : (t / s).natAbs < 2 ^ 4001 ∧ (t / s + 1).natAbs < 2 ^ 4001 := by
  have h1 := quo_sz hs h
  have h2 : 2 ^ 4000 + 2 < 2 ^ 4001 := by decide +kernel
  omega
theorem mod_sz {t s : Int} {k : Nat} (hs : 0 < s) (h : s.natAbs < 2 ^ k) : (t % s).natAbs < 2 ^ k := by
  have h1 := Int.emod_nonneg t (show s ≠ 0 by omega)
  have h2 := Int.emod_lt_of_pos t hs
  omega
section
variable {P : Program} {w : World} {K : PySem.W.Frag} {mg : Str → Option Value} {base : Heap} {a : Ad}
theorem ok_fitted (T : Txt K mg a) : FnOk P w K mg base CX0 2 a.fitted a.fitted_fd ["grid", "top", "bottom", "way", "more"] (sp_fitted a) := by
  refine T.F_fitted.ok sc_fitted (fun vs H Q E h => ?_) (fun cdv A outer s H vs Q E hr h => ?_)
  · obtain ⟨g, b, f, r, L, G, t, rfl, _⟩ := h
    rfl
  · obtain ⟨g, b, f, r, L, G, t, rfl, hg, ht, k⟩ := h
    refine ⟨_, (pss_cons (ps_set (i := 5) sc_fitted.nd rfl (Or.inl rfl) (pe_call (ok_spacing_at T) (hr.mono (by decide)) rfl T.g_spacing_at T.k_spacing_at T.B_spacing_at .nil pass0 (pa_cons (pv 0) (pa_cons (pe_op op_fdivW (pe_callB call_abs (by rfl) T.n_abs (by decide +kernel) (pa_cons (pv 1) pa_nil)) (pv 2)) (pa_cons (pv 4) pa_nil)))))
      (pss_cons (ps_set (i := 6) sc_fitted.nd rfl (Or.inl rfl) (pe_op op_mulW (pv 2) (pv 5)))
      (pss_cons (ps_set (i := 7) sc_fitted.nd rfl (Or.inl rfl) (pe_op op_fdivW (pv 1) (pv 6)))
      (pss_cons (ps_set (i := 8) sc_fitted.nd rfl (Or.inl rfl) (pe_op op_sub (pv 1) (pe_op op_mulW (pv 7) (pv 6))))
      (pss_cut (ps_set (i := 9) sc_fitted.nd rfl (Or.inl rfl) (pe_ifExp (PW.pt (pw_and (pt_truth (pv 8) (by intro _; rfl)) (pw_and1 (pt_val (pe_call (ok_goes_up T) (hr.mono (by decide)) rfl T.g_goes_up T.k_goes_up T.B_goes_up .nil pass0 (pa_cons (pv 7) (pa_cons (pv 8) (pa_cons (pv 6) (pa_cons (pv 3) pa_nil))))))))) (pe_op op_mulW (pe_op op_add (pv 7) pe_int) (pv 5)) (pe_op op_mulW (pv 7) (pv 5))))
      (pss_one (ps_ret (pe_ifExp (pt_cmpR op_gt (pe_callB call_abs (by rfl) T.n_abs (by decide +kernel) (pa_cons (pv 9) pa_nil)) (pe_ix ix_tup (pe_fld (pv 0) rfl) (pv 4) (fun _ _ => rfl)) (nomark _)) pe_non (pv 9))))))))), ?_⟩
    have hb := hg.gr.hb
    have hL := hg.gr.L1
    refine ⟨_, rfl, _, rfl, _, rfl, _, rfl, _, _, rfl, rfl, wd (by decide) (by decide +kernel), _, rfl, g, b, f, r, L, G, t.natAbs, 0, by dsimp only; rw [absI, Int.ediv_one]; rfl, hg, by decide, ht, fun H1 e1 => ?_⟩
    have hs := spcI_pos (L := L) hb t.natAbs
    have hsz := spc_sz hb hg.ub (by omega : 1 ≤ L) ht
    have hsz' : ((spc b L t.natAbs : Nat) : Int).natAbs < 2 ^ 4010 := by rw [Int.natAbs_natCast]; exact hsz
    have hrn := rn_alt (L := L) hb t
    rw [G1 hg.gr]
    generalize ((spc b L t.natAbs : Nat) : Int) = s at *
    refine ⟨_, rfl, _, rfl, _, _, rfl, rfl, wm (by decide +kernel) (p5000 hsz'), ?_⟩
    dsimp only
    rw [Int.one_mul]
    refine ⟨_, rfl, _, rfl, _, _, rfl, rfl, wd hs (p5000 hsz'), ?_⟩
    obtain ⟨q1, q2⟩ := quo_sz' hs ht
    refine ⟨_, rfl, _, rfl, _, rfl, _, _, rfl, rfl, wm (p5000 q1) (p5000 hsz'), _, _, rfl, rfl, ?_⟩
    have em : t - t / s * s = t % s := by
      have := (div_facts t s hs).1
      omega
    dsimp only
    rw [em]
    refine ⟨fun σ H2 => Ex H H2 ∧ ∃ z1 z2 z3, σ = [some (.ref g), some (.int t), some (.int 1), some (.str "near"), some (.int 0), z1, z2, z3, some (.int (t % s)), some (.int (rn b L t))], ?_, ?_⟩
    · refine ⟨_, rfl, _, rfl, ite2 (fun h1 => ?_) (fun h1 => ?_)⟩
      · refine ⟨_, rfl, _, rfl, _, rfl, _, rfl, t / s, t % s, s, rfl, Nat.lt_trans (mod_sz hs hsz') (by decide +kernel), fun H2 e2 => ⟨_, rfl, ite2 (fun h2 => ?_) (fun h2 => ?_)⟩⟩
        · refine ⟨_, rfl, _, _, rfl, rfl, _, rfl, _, _, rfl, rfl, wm (p5000 q2) (p5000 hsz'), e1.trans e2, some (.int s), some (.int s), some (.int (t / s)), ?_⟩
          rw [hrn, if_pos ⟨h1, h2⟩]
          rfl
        · refine ⟨_, rfl, _, rfl, _, _, rfl, rfl, wm (p5000 q1) (p5000 hsz'), e1.trans e2, some (.int s), some (.int s), some (.int (t / s)), ?_⟩
          rw [hrn, if_neg (fun z => h2 z.2)]
          rfl
      · refine ite2 (fun h2 => absurd h2 (by simp)) (fun h2 => ?_)
        refine ⟨_, rfl, _, rfl, _, _, rfl, rfl, wm (p5000 q1) (p5000 hsz'), e1, some (.int s), some (.int s), some (.int (t / s)), ?_⟩
        rw [hrn, if_neg (fun z => h1 z.1)]
        rfl
    · rintro σ H2 ⟨e2, z1, z2, z3, rfl⟩
      obtain ⟨dx, lim, tops, p, u, xs, ys, o1, o2, o3, o4, o5⟩ := (hg.mono e2).ob
      have o6 := o5 0 (by decide)
      rw [G1 hg.gr, ← hg.gr.eG] at o6
      refine ⟨_, rfl, _, rfl, _, rfl, g, _, dx, _, _, rfl, o1, T.cl_Grid, T.f_Grid_tops, gfl_tops, _, rfl, tops, ys, _, _, rfl, rfl, SqT.of o3, atN o6, _, _, rfl, rfl, _, rfl, ?_⟩
      have kk := k H2 e2
      unfold rnO at kk
      rw [absI]
      refine ite2 (fun h => ?_) (fun h => ?_)
      · have h := of_decide_eq_true h
        rw [if_neg (by omega)] at kk
        exact kk
      · have h : ¬ (G : Int) < ((rn b L t).natAbs : Int) := fun z => h (decide_eq_true z)
        rw [if_pos (by omega)] at kk
        exact ⟨_, rfl, kk⟩
theorem ok_Grid_contains (T : Txt K mg a) : FnOk P w K mg base CX0 2 a.Grid_contains a.Grid_contains_fd ["self", "value"] (sp_contains a) := by
  refine T.F_Grid_contains.ok sc_Grid_contains (fun vs H Q E h => ?_) (fun cdv A outer s H vs Q E hr h => ?_)
  · obtain ⟨g, b, f, r, L, G, n, rfl, _⟩ := h
    rfl
  · obtain ⟨g, b, f, r, L, G, n, rfl, hg, ⟨hn, hm⟩, k⟩ := h
    refine ⟨_, (pss_cons (ps_if (PW.pt (pw_or (pt_not (pt_val (pe_call (ok_is_whole T) (hr.mono (by decide)) rfl T.g_is_whole T.k_is_whole T.B_is_whole .nil pass0 (pa_cons (pv 1) pa_nil)))) (pw_or1 (pt_cmpR op_gt (pe_callB call_abs (by rfl) T.n_abs (by decide +kernel) (pa_cons (pv 1) pa_nil)) (pe_fld (pv 0) rfl) (nomark _))))) (pss_one (ps_ret pe_bl)) pss_nil)
      (pss_one (ps_ret (pe_cmpR op_eq (pe_op op_mod (pv 1) (pe_call (ok_spacing_at T) (hr.mono (by decide)) rfl T.g_spacing_at T.k_spacing_at T.B_spacing_at .nil pass0 (pa_cons (pv 0) (pa_cons (pe_callB call_abs (by rfl) T.n_abs (by decide +kernel) (pa_cons (pv 1) pa_nil)) (pa_cons pe_int pa_nil))))) pe_int (nomark _))))), ?_⟩
    have hb := hg.gr.hb
    have hL := hg.gr.L1
    obtain ⟨dx, lim, tops, p, u, xs, ys, o1, o2, o3, o4, o5⟩ := hg.ob
    have hs := spcI_pos (L := L) hb n.natAbs
    refine ⟨_, rfl, n, rfl, fun H1 e1 => ⟨true, rfl, ?_⟩⟩
    refine ite2 (fun h => absurd h (by simp)) (fun _ => ?_)
    refine ⟨_, rfl, _, rfl, _, rfl, g, _, dx, _, _, rfl, e1 _ _ o1, T.cl_Grid, T.f_Grid_greatest, gfl_greatest, _, _, rfl, rfl, _, rfl, ?_⟩
    rw [absI]
    refine ite2 (fun h => absurd (of_decide_eq_true h) (by omega)) (fun _ => ?_)
    refine ⟨_, rfl, _, rfl, _, rfl, _, rfl, g, b, f, r, L, G, n.natAbs, 0, by rw [absI]; rfl, hg.mono e1, by decide, Nat.lt_of_le_of_lt hn (Nat.lt_trans hg.bG (by decide +kernel)), fun H2 e2 => ?_⟩
    rw [G1 hg.gr]
    refine ⟨_, _, rfl, rfl, hs, rfl, ?_⟩
    show Q (V.bl (decide (V.int (n % (spc b L n.natAbs : Int)) = V.int 0))) H2
    rw [hm]
    exact k H2 (e1.trans e2)
theorem ok_rounded_parts (T : Txt K mg a) : FnOk P w K mg base CX0 3 a.rounded_parts a.rounded_parts_fd ["grid", "worth"] (sp_rounded_parts a) := by
  refine T.F_rounded_parts.ok sc_rounded_parts (fun vs H Q E h => ?_) (fun cdv A outer s H vs Q E hr h => ?_)
  · obtain ⟨g, b, f, r, L, G, t, rfl, _⟩ := h
    rfl
  · obtain ⟨g, b, f, r, L, G, t, rfl, hg, ht, k⟩ := h
    refine ⟨_, (pss_cons (ps_set (i := 2) sc_rounded_parts.nd rfl (Or.inl rfl) (pe_lst pa_nil))
      (pss_cons (ps_set (i := 3) sc_rounded_parts.nd rfl (Or.inl rfl) (pv 1))
      (pss_cons (ps_while PassesOwn.never (pt_cmpR op_ne (pv 3) pe_int (nomark _)) (pss_cons (ps_set (i := 4) sc_rounded_parts.nd rfl (Or.inl rfl) (pe_call (ok_fitted T) (hr.mono (by decide)) rfl T.g_fitted T.k_fitted T.B_fitted .nil pass0 (pa_cons (pv 0) (pa_cons (pv 3) (pa_cons pe_int (pa_cons pe_str (pa_cons pe_int pa_nil)))))))
      (pss_cons (ps_expr (pe_bm PySem.F.plainAttrs_list PySem.F.slot_list_append PySem.F.type_list_append mt_append (pv 2) (pa_cons (pv 4) pa_nil)))
      (pss_one (ps_set (i := 3) sc_rounded_parts.nd rfl (Or.inl rfl) (pe_op op_sub (pv 3) (pv 4)))))))
      (pss_one (ps_ret (pe_callTy call_tuple_of (by rfl) T.n_tuple (by decide +kernel) (pa_cons (pv 2) pa_nil))))))), ?_⟩
    have hb := hg.gr.hb
    have hG := hg.bG
    refine ⟨Nat.zero_le _, fun p hp => ?_⟩
    refine ⟨_, rfl, ?_⟩
    refine ⟨fun c σ H' => ∃ (acc : List Int) (left : Int) (v : Option V), c = left.natAbs ∧ Ex H H' ∧ H' p = some (.lst (iv acc)) ∧ acc ++ row b L left = row b L t ∧ left.natAbs * 2 ^ acc.length ≤ t.natAbs ∧ σ = [some (.ref g), some (.int t), some (.ref p), some (.int left), v],
      ⟨_, [], t, none, rfl, Ex.new hp, upd_same, rfl, by rw [List.length_nil, Nat.pow_zero]; omega, rfl⟩, ?_⟩
    rintro c σ H' ⟨acc, left, v, rfl, e1, h1, h2, h3, rfl⟩
    refine ⟨_, rfl, rfl, _, rfl, ?_⟩
    refine ite2 (fun hc => ?_) (fun hc => ?_)
    · have hl : left ≠ 0 := by
        intro z
        subst z
        simp at hc
      have hlt : left.natAbs ≤ t.natAbs := Nat.le_trans (Nat.le_mul_of_pos_right _ (Nat.pow_pos (by decide))) h3
      have hacc : 2 ^ acc.length < 2 ^ 400 := by
        have : 1 * 2 ^ acc.length ≤ left.natAbs * 2 ^ acc.length := Nat.mul_le_mul_right _ (by omega)
        omega
      have hacc := (Nat.pow_lt_pow_iff_right (by decide : 1 < 2)).mp hacc
      have hhalf := rn_half hg.gr (t := left)
      refine ⟨fun σ' H' => ∃ (acc : List Int) (left' : Int) (v : Option V), left'.natAbs < left.natAbs ∧ Ex H H' ∧ H' p = some (.lst (iv acc)) ∧ acc ++ row b L left' = row b L t ∧ left'.natAbs * 2 ^ acc.length ≤ t.natAbs ∧ σ' = [some (.ref g), some (.int t), some (.ref p), some (.int left'), v],
        fun σ' H' ⟨acc, l', v, q1, q2, q3, q4, q5, q6⟩ => ⟨_, q1, acc, l', v, rfl, q2, q3, q4, q5, q6⟩, ?_⟩
      refine ⟨_, rfl, _, rfl, g, b, f, r, L, G, left, rfl, hg.mono e1, Nat.lt_of_le_of_lt (Nat.le_trans hlt ht) (Nat.lt_trans hG (by decide +kernel)), fun H2 e2 => ?_⟩
      rw [rnO_in (rn_le hg.gr (Nat.le_trans hlt ht))]
      refine ⟨_, rfl, .inl ⟨rfl, _, SqL.of (e2 _ _ h1)⟩, _, rfl, p, _, _, rfl, rfl, e2 _ _ h1, small1000 (by unfold iv; rw [List.length_map]; omega), ?_⟩
      refine ⟨_, rfl, _, rfl, _, _, rfl, rfl, ?_⟩
      refine ⟨acc ++ [rn b L left], left - rn b L left, _, by omega, Ex.mut (e1.trans e2) hp, ?_, ?_, ?_, rfl⟩
      · rw [upd_same]
        unfold iv
        rw [List.map_append]
        rfl
      · rw [List.append_assoc, ← h2, row_cons hg.gr hl]
        rfl
      · rw [List.length_append, List.length_singleton, Nat.pow_succ]
        have : (left - rn b L left).natAbs * (2 ^ acc.length * 2) = (2 * (left - rn b L left).natAbs) * 2 ^ acc.length := by
          rw [Nat.mul_comm (2 ^ acc.length) 2, ← Nat.mul_assoc, Nat.mul_comm _ 2]
        rw [this]
        exact Nat.le_trans (Nat.mul_le_mul_right _ hhalf) h3
    · have hl : left = 0 := by
        by_cases z : left = 0
        · exact z
        · exact absurd (by simp [z]) hc
      subst hl
      rw [row_zero, List.append_nil] at h2
      subst h2
      refine ⟨_, rfl, p, _, rfl, .inl ⟨SqL.of h1, fun q hq => ?_⟩⟩
      exact k q _ (Ex.mut e1 (fresh_back e1 hq)) upd_same
theorem ok_check_reached (T : Txt K mg a) : FnOk P w K mg base CX0 3 a.check_reached a.check_reached_fd ["grid", "worth"] (sp_check_reached a) := by
  refine T.F_check_reached.ok sc_check_reached (fun vs H Q E h => ?_) (fun cdv A outer s H vs Q E hr h => ?_)
  · obtain ⟨g, b, f, r, L, G, t, rfl, _⟩ := h
    rfl
  · obtain ⟨g, b, f, r, L, G, t, rfl, hg, ht, k⟩ := h
    refine ⟨_, (pss_one (ps_if (pt_not (pt_val (pe_call (ok_is_from_to T) (hr.mono (by decide)) rfl T.g_is_from_to T.k_is_from_to T.B_is_from_to .nil pass0 (pa_cons (pv 1) (pa_cons (pe_un un_neg (pe_fld (pv 0) rfl)) (pa_cons (pe_fld (pv 0) rfl) pa_nil)))))) (pss_one ps_never) pss_nil)), ?_⟩
    obtain ⟨dx, lim, tops, p, u, xs, ys, o1, o2, o3, o4, o5⟩ := hg.ob
    refine ⟨_, rfl, _, rfl, g, _, dx, _, _, rfl, o1, T.cl_Grid, T.f_Grid_greatest, gfl_greatest, _, rfl, _, rfl, g, _, dx, _, _, rfl, o1, T.cl_Grid, T.f_Grid_greatest, gfl_greatest, t, -(G : Int), G, rfl, fun H1 e1 => ⟨true, ?_, ?_⟩⟩
    · rw [decide_eq_true (by omega), decide_eq_true (by omega)]
      rfl
    · refine ite2 (fun h => absurd h (by simp)) (fun _ => ?_)
      exact k H1 e1
theorem ok_renewed (T : Txt K mg a) : FnOk P w K mg base CX0 4 a.renewed a.renewed_fd ["grid", "worth"] (sp_rounded_parts a) := by
  refine T.F_renewed.ok sc_renewed (fun vs H Q E h => ?_) (fun cdv A outer s H vs Q E hr h => ?_)
  · obtain ⟨g, b, f, r, L, G, t, rfl, _⟩ := h
    rfl
  · obtain ⟨g, b, f, r, L, G, t, rfl, hg, ht, k⟩ := h
    refine ⟨_, (pss_cons (ps_expr (pe_call (ok_check_reached T) (hr.mono (by decide)) rfl T.g_check_reached T.k_check_reached T.B_check_reached .nil pass0 (pa_cons (pv 0) (pa_cons (pv 1) pa_nil))))
      (pss_one (ps_ret (pe_call (ok_rounded_parts T) (hr.mono (by decide)) rfl T.g_rounded_parts T.k_rounded_parts T.B_rounded_parts .nil pass0 (pa_cons (pv 0) (pa_cons (pv 1) pa_nil)))))), ?_⟩
    refine ⟨_, rfl, _, rfl, g, b, f, r, L, G, t, rfl, hg, ht, fun H1 e1 => ?_⟩
    exact ⟨_, rfl, _, rfl, g, b, f, r, L, G, t, rfl, hg.mono e1, ht, fun p H2 e2 h => k p H2 (e1.trans e2) h⟩
end
end My


set_option Elab.async false
set_option maxRecDepth 100000
set_option maxHeartbeats 1000000
set_option exponentiation.threshold 6000
namespace My
open PySem L2 Evl
theorem all_rep (n : Nat) : (List.replicate n true).all id = true := by
  induction n with
  | zero => rfl
  | succ n ih => rw [List.replicate_succ, List.all_cons, ih]; rfl
theorem rep_snoc {α : Type} (n : Nat) (v : α) : List.replicate n v ++ [v] = List.replicate (n + 1) v := by
  rw [List.replicate_succ']
theorem ln {f : Str} {v : V} {fs : List (Str × V)} {n : Nat} (h : fs.length ≤ n) : (putF f v fs).length ≤ n + 1 := Nat.le_trans (length_putF f v fs) (by omega)
theorem lt1000 {fs : List (Str × V)} {n : Nat} (h : fs.length ≤ n) (hn : n ≤ 20 := by decide) : fs.length < 1000 := by omega
/-- all but what stands at p -/
def Kp (p : Addr) (H H' : Hp) : Prop := ∀ c o, H c = some o → c ≠ p → H' c = some o
theorem Kp.ex {p : Addr} {H H1 H2 : Hp} (h : Kp p H H1) (e : Ex H1 H2) : Kp p H H2 := fun c o hc hn => e _ _ (h c o hc hn)
theorem Kp.set {p : Addr} {H H1 : Hp} {o : HO} (h : Kp p H H1) : Kp p H (upd H1 p o) := fun c u hc hn => by
  rw [upd_ne hn]
  exact h c u hc hn
theorem Kp.refl {p : Addr} {H : Hp} : Kp p H H := fun _ _ h _ => h
section
variable {P : Program} {w : World} {K : PySem.W.Frag} {mg : Str → Option Value} {base : Heap} {a : Ad}
theorem ok_is_numbers (T : Txt K mg a) : FnOk P w K mg base CX0 4 a.is_numbers a.is_numbers_fd ["grid", "value"] (sp_is_numbers a) := by
  refine T.F_is_numbers.ok sc_is_numbers (fun vs H Q E h => ?_) (fun cdv A outer s H vs Q E hr h => ?_)
  · obtain ⟨g, b, f, r, L, G, t, xs, rfl, _⟩ := h
    rfl
  · obtain ⟨g, b, f, r, L, G, t, xs, rfl, hg, ht, hl, hx, k⟩ := h
    refine ⟨_, (pss_one (ps_ret (pe_and (pe_callB call_isi (by rfl) T.n_isinstance (by decide +kernel) (pa_cons (pv 1) (pa_cons (pe_bltn (v := .ty "tuple") (u := .type "tuple") rfl T.n_tuple (by decide +kernel) rfl) pa_nil))) (pe_one (pe_callB (cr_all rfl) (by rfl) T.n_all (by decide +kernel) (pa_cons (pe_lc (own := [("part", 2)]) (g := gName 2) (by rfl) sc_is_numbers.nd (pi_tup (pv 1)) (blkOk_by (own := [("part", 2)]) (N := N_is_numbers) (sc := defScope s_is_numbers) (by decide +kernel)) (fun _ _ _ _ _ => pg_name (i := 2) sc_is_numbers.nd rfl (Or.inl rfl)) (fun _ _ _ _ _ => pts_nil) (fun _ _ _ _ _ => (pe_cmpR (op_inOwn (ok_Grid_contains T) (hr.mono (by decide)) T.cl_Grid T.m_Grid_contains T.B_Grid_contains pass0) (pv 2) (pv 0) (by rfl)))) pa_nil)))))), ?_⟩
    have hlen : (iv xs).length = xs.length := by unfold iv; rw [List.length_map]
    refine ⟨_, rfl, _, _, _, _, true, rfl, .ty _, .base (.tup ht), kit_ty (by decide +kernel), true, rfl, iteT ?_⟩
    refine ⟨_, rfl, t, rfl, ⟨_, SqT.of ht⟩, fun D hD => lc_tup (K := K) (a := t) (xs := iv xs) (fun i H' => Ex H H' ∧ H' D = some (.lst (List.replicate i (.bl true)))) ⟨Ex.new hD, upd_same⟩ (fun i H' _ q => SqT.of (q.1 _ _ ht)) ?_ ?_⟩
    · rintro i x H' hi ⟨e1, h1⟩
      have hi' := (List.getElem?_eq_some_iff.mp hi).1
      obtain ⟨n, hn, rfl⟩ : ∃ n, n ∈ xs ∧ x = .int n := by
        unfold iv at hi
        rw [List.getElem?_map] at hi
        cases e : xs[i]? with
        | none => rw [e] at hi; cases hi
        | some n => rw [e] at hi; exact ⟨n, List.mem_of_getElem? e, (Option.some.inj hi).symm⟩
      obtain ⟨dx, lim, tops, p, u, ys, zs, o1, o2, o3, o4, o5⟩ := (hg.mono e1).ob
      refine ⟨rfl, ?_⟩
      dsimp only [tYes]
      refine iteT ?_
      refine ⟨_, rfl, _, rfl, g, dx, _, rfl, o1, g, b, f, r, L, G, n, rfl, hg.mono e1, hx n hn, fun H3 e3 => ⟨true, rfl, _, e3 _ _ h1, small1000 (by rw [List.length_replicate]; omega), Ex.mut (e1.trans e3) hD, ?_⟩⟩
      rw [upd_same]
      show some (HO.lst (List.replicate i (V.bl true) ++ [V.bl true])) = _
      rw [rep_snoc]
    · rintro H' ⟨e1, h1⟩
      refine ⟨D, List.replicate (iv xs).length true, rfl, SqL.of (by rw [List.map_replicate]; exact h1), ?_⟩
      rw [all_rep]
      exact k H' e1
theorem ok_is_row (T : Txt K mg a) : FnOk P w K mg base CX0 5 a.is_row a.is_row_fd ["grid", "value"] (sp_is_row a) := by
  refine T.F_is_row.ok sc_is_row (fun vs H Q E h => ?_) (fun cdv A outer s H vs Q E hr h => ?_)
  · obtain ⟨g, b, f, r, L, G, t, xs, rfl, _⟩ := h
    rfl
  · obtain ⟨g, b, f, r, L, G, t, xs, rfl, hg, ht, hl, hx, k⟩ := h
    refine ⟨_, (pss_one (ps_ret (pe_and (pe_call (ok_is_numbers T) (hr.mono (by decide)) rfl T.g_is_numbers T.k_is_numbers T.B_is_numbers .nil pass0 (pa_cons (pv 0) (pa_cons (pv 1) pa_nil))) (pe_one (pe_cmpR op_le (pe_callB call_len_seq (by rfl) T.n_len (by decide +kernel) (pa_cons (pv 1) pa_nil)) (pe_glob (v := .int 100) rfl T.c_LONGEST_ROW.choose_spec ⟨_, rfl⟩) (nomark _)))))), ?_⟩
    have hlen : (iv xs).length = xs.length := by unfold iv; rw [List.length_map]
    refine ⟨_, rfl, _, rfl, g, b, f, r, L, G, t, xs, rfl, hg, ht, by omega, hx, fun H1 e1 => ⟨true, rfl, iteT ?_⟩⟩
    refine ⟨_, rfl, t, _, rfl, .inr (SqT.of (e1 _ _ ht)), _, _, rfl, rfl, ?_⟩
    show Q (V.bl (decide (((iv xs).length : Int) ≤ 100))) H1
    rw [decide_eq_true (by omega)]
    exact k H1 e1
theorem ok_shows_shortest (T : Txt K mg a) : FnOk P w K mg base CX0 6 a.shows_shortest a.shows_shortest_fd ["grid", "worth", "value"] (sp_shows_shortest a) := by
  refine T.F_shows_shortest.ok sc_shows_shortest (fun vs H Q E h => ?_) (fun cdv A outer s H vs Q E hr h => ?_)
  · obtain ⟨g, b, f, r, L, G, t, p, rfl, _⟩ := h
    rfl
  · obtain ⟨g, b, f, r, L, G, t, p, rfl, hg, ht, hp, hl, k⟩ := h
    refine ⟨_, (pss_cons (ps_expr (pe_call (ok_check_reached T) (hr.mono (by decide)) rfl T.g_check_reached T.k_check_reached T.B_check_reached .nil pass0 (pa_cons (pv 0) (pa_cons (pv 1) pa_nil))))
      (pss_one (ps_ret (pe_and (pe_call (ok_is_row T) (hr.mono (by decide)) rfl T.g_is_row T.k_is_row T.B_is_row .nil pass0 (pa_cons (pv 0) (pa_cons (pv 2) pa_nil))) (pe_and (pe_cmpR op_eq (pe_callB (cr_sumT rfl) (by rfl) T.n_sum (by decide +kernel) (pa_cons (pv 2) pa_nil)) (pv 1) (nomark _)) (pe_one (pe_cmpR op_eq (pe_callB call_len_seq (by rfl) T.n_len (by decide +kernel) (pa_cons (pv 2) pa_nil)) (pe_callB call_len_seq (by rfl) T.n_len (by decide +kernel) (pa_cons (pe_call (ok_rounded_parts T) (hr.mono (by decide)) rfl T.g_rounded_parts T.k_rounded_parts T.B_rounded_parts .nil pass0 (pa_cons (pv 0) (pa_cons (pv 1) pa_nil))) pa_nil)) (nomark _)))))))), ?_⟩
    refine ⟨_, rfl, _, rfl, g, b, f, r, L, G, t, rfl, hg, ht, fun H1 e1 => ?_⟩
    refine ⟨_, rfl, _, rfl, g, b, f, r, L, G, p, row b L t, rfl, hg.mono e1, e1 _ _ hp, hl, row_onG hg.gr t ht, fun H2 e2 => ⟨true, rfl, iteT ?_⟩⟩
    refine ⟨_, rfl, p, row b L t, rfl, SqT.of (e2 _ _ (e1 _ _ hp)), _, rfl, rfl, true, ?_, iteT ?_⟩
    · show V.bl (decide (V.int (row b L t).sum = V.int t)) = _
      rw [row_sum hg.gr, decide_eq_true rfl]
    refine ⟨_, rfl, p, _, rfl, .inr (SqT.of (e2 _ _ (e1 _ _ hp))), _, rfl, _, rfl, g, b, f, r, L, G, t, rfl, (hg.mono e1).mono e2, ht, fun q H3 e3 h3 => ?_⟩
    refine ⟨q, _, rfl, .inr (SqT.of h3), rfl, ?_⟩
    show Q (V.bl (decide (V.int ((iv (row b L t)).length : Int) = V.int ((iv (row b L t)).length : Int)))) H3
    rw [decide_eq_true rfl]
    exact k H3 ((e1.trans e2).trans e3)
theorem ok_Grid_init (T : Txt K mg a) : FnOk P w K mg base CX0 4 a.Grid_init a.Grid_init_fd ["self", "base", "figures", "reach", "places"] (sp_init a) := by
  refine T.F_Grid_init.ok sc_Grid_init (fun vs H Q E h => ?_) (fun cdv A outer s H vs Q E hr h => ?_)
  · obtain ⟨p, dx, b, f, r, pl, rfl, _⟩ := h
    rfl
  · obtain ⟨p, dx, b, f, r, pl, rfl, hp, hv, k⟩ := h
    refine ⟨_, (pss_cons (ps_set (i := 5) sc_Grid_init.nd rfl (Or.inl rfl) (pe_tup (pa_cons (pv 1) (pa_cons (pv 2) (pa_cons (pv 3) (pa_cons (pv 4) pa_nil))))))
      (pss_cons (ps_if (pt_not (pt_val (pe_call (ok_is_grid T) (hr.mono (by decide)) rfl T.g_is_grid T.k_is_grid T.B_is_grid .nil pass0 (pa_cons (pv 5) pa_nil)))) (pss_one ps_never) pss_nil)
      (pss_cons (ps_fld (pv 0) (pv 1) rfl)
      (pss_cons (ps_fld (pv 0) (pv 2) rfl)
      (pss_cons (ps_fld (pv 0) (pv 3) rfl)
      (pss_cons (ps_fld (pv 0) (pv 4) rfl)
      (pss_cons (ps_fld (pv 0) (pe_call (ok_power T) (hr.mono (by decide)) rfl T.g_power T.k_power T.B_power .nil pass0 (pa_cons (pv 1) (pa_cons (pv 4) pa_nil))) rfl)
      (pss_cons (ps_fld (pv 0) (pe_callTy call_tuple_of (by rfl) T.n_tuple (by decide +kernel) (pa_cons (pe_lc (own := [("extra", 6)]) (g := gName 6) (by rfl) sc_Grid_init.nd (pi_range1 rfl T.n_range (pa_cons (pe_op op_add (pe_glob (v := .int 3) rfl T.c_MOST_MORE.choose_spec ⟨_, rfl⟩) pe_int) pa_nil)) (blkOk_by (own := [("extra", 6)]) (N := N_Grid_init) (sc := defScope s_Grid_init) (by decide +kernel)) (fun _ _ _ _ _ => pg_name (i := 6) sc_Grid_init.nd rfl (Or.inl rfl)) (fun _ _ _ _ _ => pts_nil) (fun _ _ _ _ _ => (pe_call (ok_power T) (hr.mono (by decide)) rfl T.g_power T.k_power T.B_power .nil pass0 (pa_cons (pv 1) (pa_cons (pe_op op_add (pv 2) (pv 6)) pa_nil))))) pa_nil)) rfl)
      (pss_cons (ps_fld (pv 0) (pe_callTy call_tuple_of (by rfl) T.n_tuple (by decide +kernel) (pa_cons (pe_lc (own := [("limit", 7)]) (g := gName 7) (by rfl) sc_Grid_init.nd (pi_tup (pe_fld (pv 0) rfl)) (blkOk_by (own := [("limit", 7)]) (N := N_Grid_init) (sc := defScope s_Grid_init) (by decide +kernel)) (fun _ _ _ _ _ => pg_name (i := 7) sc_Grid_init.nd rfl (Or.inl rfl)) (fun _ _ _ _ _ => pts_nil) (fun _ _ _ _ _ => (pe_op op_mulW (pe_op op_sub (pv 7) pe_int) (pe_call (ok_power T) (hr.mono (by decide)) rfl T.g_power T.k_power T.B_power .nil pass0 (pa_cons (pv 1) (pa_cons (pv 3) pa_nil)))))) pa_nil)) rfl)
      (pss_one (ps_fld (pv 0) (pe_ix ix_tup (pe_fld (pv 0) rfl) pe_int (fun _ _ => rfl)) rfl))))))))))), ?_⟩
    obtain ⟨v1, v2, v3, v4, v5, v6⟩ := id hv
    refine ⟨_, rfl, _, rfl, _, rfl, _, rfl, by show 4 ≤ sizeLine; decide, fun t ht => ?_⟩
    refine ⟨_, rfl, t, b, f, r, pl, rfl, SqT.of upd_same, hv, fun H1 e1 => ⟨true, rfl, ite2 (fun h => absurd h (by simp)) (fun _ => ?_)⟩⟩
    have x1 : Ex H H1 := (Ex.new ht).trans e1
    have k1 : Kp p H H1 := Kp.refl.ex x1
    refine ⟨_, rfl, _, rfl, p, a.Grid, dx, [], rfl, x1 _ _ hp, T.cl_Grid, T.f_Grid_base, (by show 0 < 1000; decide), ?_⟩
    refine ⟨_, rfl, _, rfl, p, a.Grid, dx, _, rfl, upd_same, T.cl_Grid, T.f_Grid_figures, lt1000 (ln (Nat.le_refl 0)), ?_⟩
    refine ⟨_, rfl, _, rfl, p, a.Grid, dx, _, rfl, upd_same, T.cl_Grid, T.f_Grid_reach, lt1000 (ln (ln (Nat.le_refl 0))), ?_⟩
    refine ⟨_, rfl, _, rfl, p, a.Grid, dx, _, rfl, upd_same, T.cl_Grid, T.f_Grid_places, lt1000 (ln (ln (ln (Nat.le_refl 0)))), ?_⟩
    have k2 := (((k1.set (o := HO.ins a.Grid dx (putF "base" (V.int b) []))).set (o := HO.ins a.Grid dx (putF "figures" (V.int f) (putF "base" (V.int b) [])))).set (o := HO.ins a.Grid dx (putF "reach" (V.int r) (putF "figures" (V.int f) (putF "base" (V.int b) []))))).set (o := HO.ins a.Grid dx (putF "places" (V.int pl) (putF "reach" (V.int r) (putF "figures" (V.int f) (putF "base" (V.int b) [])))))
    refine ⟨_, rfl, _, rfl, b, pl, rfl, v2, by omega, fun H2 e2 => ?_⟩
    refine ⟨_, rfl, p, a.Grid, dx, _, rfl, e2 _ _ upd_same, T.cl_Grid, T.f_Grid_unit, lt1000 (ln (ln (ln (ln (Nat.le_refl 0))))), ?_⟩
    have k3 := (k2.ex e2).set (o := HO.ins a.Grid dx (putF "unit" (V.int ((b ^ pl : Nat) : Int)) (putF "places" (V.int pl) (putF "reach" (V.int r) (putF "figures" (V.int f) (putF "base" (V.int b) []))))))
    have p3 : (upd H2 p (HO.ins a.Grid dx (putF "unit" (V.int ((b ^ pl : Nat) : Int)) (putF "places" (V.int pl) (putF "reach" (V.int r) (putF "figures" (V.int f) (putF "base" (V.int b) []))))))) p = some (HO.ins a.Grid dx (putF "unit" (V.int ((b ^ pl : Nat) : Int)) (putF "places" (V.int pl) (putF "reach" (V.int r) (putF "figures" (V.int f) (putF "base" (V.int b) [])))))) := upd_same
    generalize hH3 : (upd H2 p (HO.ins a.Grid dx (putF "unit" (V.int ((b ^ pl : Nat) : Int)) (putF "places" (V.int pl) (putF "reach" (V.int r) (putF "figures" (V.int f) (putF "base" (V.int b) []))))))) = H3 at k3 p3
    have pd : ∀ {D : Addr}, H3 D = none → D ≠ p := fun {D} hD q => by
      rw [q, p3] at hD
      cases hD
    refine ⟨_, _, rfl, rfl, _, rfl, by decide, by decide, fun D hD => lc_range (lo := 0) (n := 4) (fun i H' => Ex H3 H' ∧ H' D = some (.lst ((List.range i).map fun m => V.int ((b ^ (f + m) : Nat) : Int)))) ⟨Ex.new hD, upd_same⟩ ?_ ?_⟩
    · rintro i H' hi ⟨e4, h4⟩
      refine ⟨rfl, ?_⟩
      dsimp only [tYes]
      refine iteT ?_
      refine ⟨_, rfl, _, rfl, _, rfl, _, _, rfl, rfl, b, f + i, ?_, v2, by omega, fun H5 e5 => ⟨_, e5 _ _ h4, small1000 (by rw [List.length_map, List.length_range]; omega), Ex.mut (e4.trans e5) hD, ?_⟩⟩
      · show [V.int b, V.int ((f : Int) + (0 + (i : Int)))] = _
        rw [Int.zero_add, Int.natCast_add]
      · rw [upd_same, List.range_succ, List.map_append]
        rfl
    rintro H4 ⟨e4, h4⟩
    refine ⟨D, _, rfl, .inl ⟨SqL.of h4, fun l hl => ?_⟩⟩
    have e5 : Ex H4 (upd H4 l (.tup ((List.range 4).map fun m => V.int ((b ^ (f + m) : Nat) : Int)))) := Ex.new hl
    have l5 : (upd H4 l (.tup ((List.range 4).map fun m => V.int ((b ^ (f + m) : Nat) : Int)))) l = some (.tup ((List.range 4).map fun m => V.int ((b ^ (f + m) : Nat) : Int))) := upd_same
    generalize (upd H4 l (.tup ((List.range 4).map fun m => V.int ((b ^ (f + m) : Nat) : Int)))) = H5 at *
    have k5 := k3.ex (e4.trans e5)
    have p5 := e5 _ _ (e4 _ _ p3)
    have nlp : l ≠ p := fun q => by
      rw [q] at l5
      rw [p5] at l5
      cases l5
    refine ⟨_, rfl, p, a.Grid, dx, _, rfl, p5, T.cl_Grid, T.f_Grid_limits, lt1000 (ln (ln (ln (ln (ln (Nat.le_refl 0)))))), ?_⟩
    have k6 := k5.set (o := HO.ins a.Grid dx (putF "limits" (V.ref l) (putF "unit" (V.int ((b ^ pl : Nat) : Int)) (putF "places" (V.int pl) (putF "reach" (V.int r) (putF "figures" (V.int f) (putF "base" (V.int b) [])))))))
    have p6 : (upd H5 p (HO.ins a.Grid dx (putF "limits" (V.ref l) (putF "unit" (V.int ((b ^ pl : Nat) : Int)) (putF "places" (V.int pl) (putF "reach" (V.int r) (putF "figures" (V.int f) (putF "base" (V.int b) [])))))))) p = _ := upd_same
    have l6 : (upd H5 p (HO.ins a.Grid dx (putF "limits" (V.ref l) (putF "unit" (V.int ((b ^ pl : Nat) : Int)) (putF "places" (V.int pl) (putF "reach" (V.int r) (putF "figures" (V.int f) (putF "base" (V.int b) [])))))))) l = _ := (upd_ne nlp).trans l5
    generalize (upd H5 p (HO.ins a.Grid dx (putF "limits" (V.ref l) (putF "unit" (V.int ((b ^ pl : Nat) : Int)) (putF "places" (V.int pl) (putF "reach" (V.int r) (putF "figures" (V.int f) (putF "base" (V.int b) [])))))))) = H6 at *
    refine ⟨_, rfl, p, a.Grid, dx, _, _, rfl, p6, T.cl_Grid, T.f_Grid_limits, by rw [lookup_putF, if_pos rfl], l, rfl, ⟨_, SqT.of l6⟩, fun D2 hD2 => lc_tup (K := K) (a := l) (xs := (List.range 4).map fun m => V.int ((b ^ (f + m) : Nat) : Int)) (fun i H' => Ex H6 H' ∧ H' D2 = some (.lst ((List.range i).map fun m => V.int (((b ^ (f + m) - 1) * b ^ r : Nat) : Int)))) ⟨Ex.new hD2, upd_same⟩ (fun i H' _ q => SqT.of (q.1 _ _ l6)) ?_ ?_⟩
    · rintro i x H' hi ⟨e7, h7⟩
      have hi4 : i < 4 := by
        have := (List.getElem?_eq_some_iff.mp hi).1
        simpa using this
      have hx : x = V.int ((b ^ (f + i) : Nat) : Int) := by
        rw [List.getElem?_map, List.getElem?_range hi4] at hi
        exact (Option.some.inj hi).symm
      subst hx
      refine ⟨rfl, ?_⟩
      dsimp only [tYes]
      refine iteT ?_
      have hpos : 1 ≤ b ^ (f + i) := Nat.pow_pos (by omega)
      have h4a : b ^ (f + i) < 2 ^ 400 := pw400 v2 (by omega)
      refine ⟨_, rfl, _, _, rfl, rfl, _, rfl, _, rfl, b, r, rfl, v2, by omega, fun H8 e8 => ?_⟩
      refine ⟨_, _, rfl, rfl, wm (p5000 (k := 400) (by omega)) (p5000 (pw400 v2 (by omega))), _, e8 _ _ h7, small1000 (by rw [List.length_map, List.length_range]; omega), Ex.mut (e7.trans e8) hD2, ?_⟩
      rw [upd_same, List.range_succ, List.map_append]
      show some (HO.lst (_ ++ [V.int ((((b ^ (f + i) : Nat) : Int) - 1) * ((b ^ r : Nat) : Int))])) = some (HO.lst (_ ++ [V.int (((b ^ (f + i) - 1) * b ^ r : Nat) : Int)]))
      rw [Int.natCast_mul, Int.natCast_sub hpos]
      rfl
    rintro H7 ⟨e7, h7⟩
    have h7 : H7 D2 = some (.lst ((List.range 4).map fun m => V.int (((b ^ (f + m) - 1) * b ^ r : Nat) : Int))) := h7
    refine ⟨D2, _, rfl, .inl ⟨SqL.of h7, fun l2 hl2 => ?_⟩⟩
    have e8 : Ex H7 (upd H7 l2 (.tup ((List.range 4).map fun m => V.int (((b ^ (f + m) - 1) * b ^ r : Nat) : Int)))) := Ex.new hl2
    have l8 : (upd H7 l2 (.tup ((List.range 4).map fun m => V.int (((b ^ (f + m) - 1) * b ^ r : Nat) : Int)))) l2 = some (.tup ((List.range 4).map fun m => V.int (((b ^ (f + m) - 1) * b ^ r : Nat) : Int))) := upd_same
    generalize (upd H7 l2 (.tup ((List.range 4).map fun m => V.int (((b ^ (f + m) - 1) * b ^ r : Nat) : Int)))) = H8 at *
    have k8 := k6.ex (e7.trans e8)
    have p8 := e8 _ _ (e7 _ _ p6)
    have l8' := e8 _ _ (e7 _ _ l6)
    have nl2 : l2 ≠ p := fun q => by
      rw [q] at l8
      rw [p8] at l8
      cases l8
    refine ⟨_, rfl, p, a.Grid, dx, _, rfl, p8, T.cl_Grid, T.f_Grid_tops, lt1000 (ln (ln (ln (ln (ln (ln (Nat.le_refl 0))))))), ?_⟩
    have o5 : ((List.range 4).map fun m => V.int (((b ^ (f + m) - 1) * b ^ r : Nat) : Int))[0]? = some (V.int (((b ^ f - 1) * b ^ r : Nat) : Int)) := rfl
    refine ⟨_, rfl, p, a.Grid, dx, _, _, rfl, upd_same, T.cl_Grid, T.f_Grid_tops, by rw [lookup_putF, if_pos rfl], l2, _, _, _, rfl, rfl, SqT.of ((upd_ne nl2).trans l8), atN (m := 0) o5, ?_⟩
    refine ⟨_, rfl, p, a.Grid, dx, _, rfl, upd_same, T.cl_Grid, T.f_Grid_greatest, lt1000 (ln (ln (ln (ln (ln (ln (ln (Nat.le_refl 0)))))))), ?_⟩
    refine k _ (k8.set.set) ⟨⟨v1, v3, rfl, rfl⟩, v2, v4, v5, dx, l, l2, pl, ((b ^ pl : Nat) : Int), _, _, upd_same, ((upd_ne nlp).trans (upd_ne nlp)).trans l8', ((upd_ne nl2).trans (upd_ne nl2)).trans l8, fun m hm => ?_, fun m hm => ?_⟩
    · rw [List.getElem?_map, List.getElem?_range (by omega)]
      rfl
    · rw [List.getElem?_map, List.getElem?_range (by omega)]
      rfl
end
end My


set_option Elab.async false
set_option maxRecDepth 100000
set_option maxHeartbeats 1000000
set_option exponentiation.threshold 6000
namespace My
open PySem L2 Evl
/-! ### the law's own defs -/
/-- a pot of draws stands at p; n draws at the most were reckoned -/
def PotAt (H : Hp) (p : Addr) (n : Nat) : Prop := ∃ x y c : Int, H p = some (.lst [.int x, .int y, .int c]) ∧ 0 ≤ x ∧ x.natAbs < 2 ^ 1000 ∧ 0 ≤ y ∧ y < 2 ^ 61 ∧ 0 ≤ c ∧ c ≤ (n : Int)
theorem PotAt.mono {H : Hp} {p : Addr} {n m : Nat} (h : PotAt H p n) (hm : n ≤ m) : PotAt H p m := by
  obtain ⟨x, y, c, h1, h2, h3, h4, h5, h6, h7⟩ := h
  exact ⟨x, y, c, h1, h2, h3, h4, h5, h6, by omega⟩
theorem PotAt.ex {H H' : Hp} {p : Addr} {n : Nat} (h : PotAt H p n) (e : Ex H H') : PotAt H' p n := by
  obtain ⟨x, y, c, h1, h2⟩ := h
  exact ⟨x, y, c, e _ _ h1, h2⟩
theorem PotAt.ne {H : Hp} {p q : Addr} {n : Nat} (h : PotAt H p n) (hq : H q = none) : q ≠ p := fun e => by
  obtain ⟨x, y, c, h1, h2⟩ := h
  rw [e, h1] at hq
  cases hq
theorem Ex.kp {p : Addr} {H H' : Hp} (e : Ex H H') : Kp p H H' := fun c o h _ => e c o h
theorem Kp.trans {p : Addr} {H H1 H2 : Hp} (h : Kp p H H1) (h' : Kp p H1 H2) : Kp p H H2 := fun c o hc hn => h' c o (h c o hc hn) hn
theorem Kp.back {p : Addr} {H H1 : Hp} {q : Addr} (h : Kp p H H1) (hq : H1 q = none) (hn : q ≠ p) : H q = none := by
  cases e : H q with
  | none => rfl
  | some o => rw [h q o e hn] at hq; cases hq
def TG (K : PySem.W.Frag) (H : Hp) (t : Addr) (b f r pl : Nat) : Prop := SqT K H t [.int b, .int f, .int r, .int pl]
theorem TG.ex {K : PySem.W.Frag} {H H' : Hp} {t : Addr} {b f r pl : Nat} (h : TG K H t b f r pl) (e : Ex H H') : TG K H' t b f r pl := ex_t e h
def sp_pot (K : PySem.W.Frag) : Sp := fun vs H Q _ => ∃ (s : Addr) (ns : List Int) (place : Nat), vs = [.ref s, .int place] ∧ SqL K H s (ns.map V.int) ∧ place ≤ 4 ∧ ∀ p H', Ex H H' → H p = none → PotAt H' p 0 → Q (.ref p) H'
def sp_take : Sp := fun vs H Q _ => ∃ (p : Addr) (u : Int) (n : Nat), vs = [.ref p, .int u] ∧ PotAt H p n ∧ n ≤ 100000 ∧ 0 < u ∧ u.natAbs < 2 ^ 4000 ∧ ∀ d H', Kp p H H' → PotAt H' p (n + 1) → 0 ≤ d → d < u → Q (.int d) H'
def sp_of : Sp := fun vs H Q _ => ∃ (p s : Addr) (n : Nat) (xs : List V), vs = [.ref p, .ref s] ∧ PotAt H p n ∧ n ≤ 100000 ∧ H s = some (.lst xs) ∧ s ≠ p ∧ 0 < xs.length ∧ xs.length ≤ 100000 ∧ ∀ (i : Nat) (v : V) H', xs[i]? = some v → Kp p H H' → PotAt H' p (n + 1) → Q v H'
def sp_greatest (K : PySem.W.Frag) : Sp := fun vs H Q _ => ∃ (t : Addr) (b f r pl : Nat), vs = [.ref t] ∧ TG K H t b f r pl ∧ (2 ≤ b ∧ b ≤ 10 ∧ f ≤ 33 ∧ r ≤ 60) ∧ ∀ H', Ex H H' → Q (.int (((b ^ f - 1) * b ^ r : Nat) : Int)) H'
def sp_lspacing (K : PySem.W.Frag) : Sp := fun vs H Q _ => ∃ (t : Addr) (b f r pl : Nat) (x : Int), vs = [.ref t, .int x, .int 1] ∧ TG K H t b f r pl ∧ (2 ≤ b ∧ b ≤ 10 ∧ f ≤ 33 ∧ r ≤ 60) ∧ x.natAbs < 2 ^ 4000 ∧ ∀ H', Ex H H' → Q (.int (spc b (b ^ f) x.natAbs : Nat)) H'
def sp_has (K : PySem.W.Frag) : Sp := fun vs H Q _ => ∃ (t : Addr) (b f r pl : Nat) (x : Int), vs = [.ref t, .int x] ∧ TG K H t b f r pl ∧ (2 ≤ b ∧ b ≤ 10 ∧ f ≤ 33 ∧ r ≤ 60) ∧ x.natAbs < 2 ^ 4000 ∧ ∀ H', Ex H H' → Q (.bl (decide (x.natAbs ≤ (b ^ f - 1) * b ^ r) && decide (x % (spc b (b ^ f) x.natAbs : Nat) = 0))) H'
def sp_more (K : PySem.W.Frag) : Sp := fun vs H Q _ => ∃ (t : Addr) (b f r pl m : Nat), vs = [.ref t, .int m] ∧ TG K H t b f r pl ∧ ∀ q H', Ex H H' → H' q = some (.tup [.int b, .int ((f + m : Nat) : Int), .int r, .int pl]) → Q (.ref q) H'
def rzO (b L G : Nat) (t : Int) : V := if (rz b L t).natAbs ≤ G then .int (rz b L t) else .non
def sp_lrounded (K : PySem.W.Frag) : Sp := fun vs H Q _ => ∃ (t : Addr) (b f r pl : Nat) (x : Int) (way : Bool), vs = [.ref t, .int x, .int 1, .str (if way then "near" else "zero"), .int 0] ∧ TG K H t b f r pl ∧ (2 ≤ b ∧ b ≤ 10 ∧ f ≤ 33 ∧ r ≤ 60) ∧ x.natAbs < 2 ^ 4000 ∧
  ∀ H', Ex H H' → Q (if way then rnO b (b ^ f) ((b ^ f - 1) * b ^ r) x else rzO b (b ^ f) ((b ^ f - 1) * b ^ r) x) H'
theorem t10 : (10 : Int) ^ (60 : Int).toNat = 10 ^ 60 := by decide +kernel
theorem t300 : ((10 : Int) ^ (60 : Int).toNat) ^ (5 : Int).toNat = 10 ^ 300 := by decide +kernel
section
variable {P : Program} {w : World} {K : PySem.W.Frag} {mg : Str → Option Value} {base : Heap} {a : Ad}
theorem ok_l_take (T : Txt K mg a) : FnOk P w K mg base CX0 1 a.l_take a.l_take_fd ["pot", "upto"] sp_take := by
  refine T.F_l_take.ok sc_l_take (fun vs H Q E h => ?_) (fun cdv A outer s H vs Q E hr h => ?_)
  · obtain ⟨p, u, n, rfl, _⟩ := h
    rfl
  · obtain ⟨p, u, n, rfl, hp, hn, hu, hus, k⟩ := h
    refine ⟨_, (pss_cons (ps_if (pt_cmpR op_gt (pe_ix ix_list (pv 0) pe_int (fun _ _ => rfl)) pe_int (nomark _)) (pss_cons (ps_set (i := 4) sc_l_take.nd rfl (Or.inl rfl) (pe_op op_mod (pe_callTy call_int1 (by rfl) T.n_int (by decide +kernel) (pa_cons (pe_ix ix_list (pv 0) pe_int (fun _ _ => rfl)) pa_nil)) (pv 1)))
      (pss_cons (ps_asg (pe_op op_fdivW (pe_ix ix_list (pv 0) pe_int (fun _ _ => rfl)) (pv 1)) (pg_sub (pv 0) pe_int set_list))
      (pss_one (ps_ret (pv 4))))) pss_nil)
      (pss_cons (ps_asg (pe_op op_add (pe_ix ix_list (pv 0) pe_int (fun _ _ => rfl)) pe_int) (pg_sub (pv 0) pe_int set_list))
      (pss_cons (ps_set (i := 2) sc_l_take.nd rfl (Or.inl rfl) (pe_ix ix_list (pe_lst (pa_cons pe_int (pa_cons pe_int (pa_cons pe_int (pa_cons pe_int (pa_cons pe_int pa_nil)))))) (pe_op op_mod (pe_callTy call_int1 (by rfl) T.n_int (by decide +kernel) (pa_cons (pe_ix ix_list (pv 0) pe_int (fun _ _ => rfl)) pa_nil)) pe_int) (fun _ _ => rfl)))
      (pss_cons (ps_set (i := 3) sc_l_take.nd rfl (Or.inl rfl) (pe_op op_mod (pe_callTy call_int1 (by rfl) T.n_int (by decide +kernel) (pa_cons (pe_op op_pow (pe_callTy call_int1 (by rfl) T.n_int (by decide +kernel) (pa_cons (pe_op op_add (pe_op op_add (pe_ix ix_list (pv 0) pe_int (fun _ _ => rfl)) (pe_op op_mulW (pe_op op_mulW pe_int (pe_ix ix_list (pv 0) pe_int (fun _ _ => rfl))) (pe_ix ix_list (pv 0) pe_int (fun _ _ => rfl)))) pe_int) pa_nil)) pe_int) pa_nil)) (pv 2)))
      (pss_cons (ps_set (i := 3) sc_l_take.nd rfl (Or.inl rfl) (pe_op op_mod (pe_callTy call_int1 (by rfl) T.n_int (by decide +kernel) (pa_cons (pe_op op_mulW (pv 3) (pe_op op_add (pe_op op_mod (pe_callTy call_int1 (by rfl) T.n_int (by decide +kernel) (pa_cons (pv 3) pa_nil)) pe_int) (pe_op op_mulW pe_int (pe_ix ix_list (pv 0) pe_int (fun _ _ => rfl))))) pa_nil)) pe_int))
      (pss_one (ps_ret (pe_op op_mod (pe_callTy call_int1 (by rfl) T.n_int (by decide +kernel) (pa_cons (pe_op op_fdivW (pv 3) pe_int) pa_nil)) (pv 1))))))))), ?_⟩
    obtain ⟨x, y, c, h1, h2, h3, h4, h5, h6, h7⟩ := hp
    have a0 : atI [V.int x, V.int y, V.int c] 0 = some (.int x) := atN (m := 0) rfl
    have a1 : atI [V.int x, V.int y, V.int c] 1 = some (.int y) := atN (m := 1) rfl
    have a2 : atI [V.int x, V.int y, V.int c] 2 = some (.int c) := atN (m := 2) rfl
    refine ⟨_, rfl, p, _, _, _, rfl, rfl, SqL.of h1, a0, _, _, rfl, rfl, _, rfl, ?_⟩
    refine ite2 (fun hc => ?_) (fun hc => ?_)
    · have hx := of_decide_eq_true hc
      refine ⟨_, rfl, p, _, _, _, rfl, rfl, SqL.of h1, a0, .inl ⟨_, rfl, _, rfl, _, _, rfl, rfl, hu, ?_⟩⟩
      refine ⟨_, rfl, p, _, _, _, rfl, rfl, SqL.of h1, a0, _, rfl, _, _, rfl, rfl, wd hu (p5000 hus), _, rfl, p, _, _, 0, rfl, rfl, h1, rfl, ?_⟩
      refine ⟨_, rfl, ?_⟩
      refine k _ _ (Kp.refl.set) ⟨x / u, y, c, upd_same, Int.ediv_nonneg h2 (by omega), ?_, h4, h5, h6, by omega⟩ (Int.emod_nonneg _ (by omega)) (Int.emod_lt_of_pos _ hu)
      have := Int.natAbs_ediv_le_natAbs x u
      omega
    · refine ⟨_, rfl, p, _, _, _, rfl, rfl, SqL.of h1, a2, _, _, rfl, rfl, _, rfl, p, _, _, 2, rfl, rfl, h1, rfl, ?_⟩
      have b1 : atI (List.set [V.int x, V.int y, V.int c] 2 (V.int (c + 1))) 1 = some (.int y) := atN (m := 1) rfl
      have b2 : atI (List.set [V.int x, V.int y, V.int c] 2 (V.int (c + 1))) 2 = some (.int (c + 1)) := atN (m := 2) rfl
      obtain ⟨pr, hpr, hpr0⟩ : ∃ pr : Int, atI [V.int 2147483647, V.int 2147483629, V.int 2147483587, V.int 2147483579, V.int 2147483563] ((c + 1) % 5) = some (.int pr) ∧ 0 < pr := by
        have h5 : (c + 1) % 5 = ((0 : Nat) : Int) ∨ (c + 1) % 5 = ((1 : Nat) : Int) ∨ (c + 1) % 5 = ((2 : Nat) : Int) ∨ (c + 1) % 5 = ((3 : Nat) : Int) ∨ (c + 1) % 5 = ((4 : Nat) : Int) := by omega
        rcases h5 with h | h | h | h | h
        · rw [h]; exact ⟨_, atN (m := 0) rfl, by decide⟩
        · rw [h]; exact ⟨_, atN (m := 1) rfl, by decide⟩
        · rw [h]; exact ⟨_, atN (m := 2) rfl, by decide⟩
        · rw [h]; exact ⟨_, atN (m := 3) rfl, by decide⟩
        · rw [h]; exact ⟨_, atN (m := 4) rfl, by decide⟩
      have kp : Kp p H (upd H p (.lst (List.set [V.int x, V.int y, V.int c] 2 (V.int (c + 1))))) := Kp.refl.set
      have hq : (upd H p (.lst (List.set [V.int x, V.int y, V.int c] 2 (V.int (c + 1))))) p = some (.lst (List.set [V.int x, V.int y, V.int c] 2 (V.int (c + 1)))) := upd_same
      generalize (upd H p (.lst (List.set [V.int x, V.int y, V.int c] 2 (V.int (c + 1))))) = H1 at *
      refine ⟨by decide, fun l hl => ?_⟩
      have lp : p ≠ l := ne_of_none hq hl
      have kp2 : Kp p H (upd H1 l (.lst [V.int 2147483647, V.int 2147483629, V.int 2147483587, V.int 2147483579, V.int 2147483563])) := kp.ex (Ex.new hl)
      have hq2 : (upd H1 l (.lst [V.int 2147483647, V.int 2147483629, V.int 2147483587, V.int 2147483579, V.int 2147483563])) p = some (.lst (List.set [V.int x, V.int y, V.int c] 2 (V.int (c + 1)))) := (upd_ne lp).trans hq
      have hl2 : (upd H1 l (.lst [V.int 2147483647, V.int 2147483629, V.int 2147483587, V.int 2147483579, V.int 2147483563])) l = some (.lst [V.int 2147483647, V.int 2147483629, V.int 2147483587, V.int 2147483579, V.int 2147483563]) := upd_same
      generalize (upd H1 l (.lst [V.int 2147483647, V.int 2147483629, V.int 2147483587, V.int 2147483579, V.int 2147483563])) = H2 at *
      refine ⟨_, rfl, p, _, _, _, rfl, rfl, SqL.of hq2, b2, .inl ⟨_, rfl, _, _, rfl, rfl, (by show (0 : Int) < 5; decide), l, _, _, _, rfl, rfl, SqL.of hl2, hpr, ?_⟩⟩
      have m1 : 0 ≤ c + 1 := by omega
      have m2 : c + 1 ≤ 100001 := by omega
      have m3 : 132080 * (c + 1) * (c + 1) ≤ 132080 * 100001 * 100001 := Int.mul_le_mul (by omega) m2 m1 (by decide)
      have m4 : 0 ≤ 132080 * (c + 1) * (c + 1) := Int.mul_nonneg (by omega) m1
      refine ⟨_, rfl, p, _, _, _, rfl, rfl, SqL.of hq2, b1, _, rfl, p, _, _, _, rfl, rfl, SqL.of hq2, b2, _, _, rfl, rfl, wm (p5000 (k := 64) (by decide)) (p5000 (k := 64) (by omega)), _, rfl, p, _, _, _, rfl, rfl, SqL.of hq2, b2, _, _, rfl, rfl, wm (p5000 (k := 64) (by omega)) (p5000 (k := 64) (by omega)), _, _, rfl, rfl, _, _, rfl, rfl, .inl ⟨_, rfl, _, _, rfl, rfl, ⟨by decide, by decide, ?_⟩, .inl ⟨_, rfl, _, rfl, _, _, rfl, rfl, hpr0, ?_⟩⟩⟩
      · omega
      generalize hbl : (y + 132080 * (c + 1) * (c + 1) + 4316) ^ (3 : Int).toNat % pr = bl
      have hprs : pr < 2 ^ 31 := by
        have h5 : (c + 1) % 5 = ((0 : Nat) : Int) ∨ (c + 1) % 5 = ((1 : Nat) : Int) ∨ (c + 1) % 5 = ((2 : Nat) : Int) ∨ (c + 1) % 5 = ((3 : Nat) : Int) ∨ (c + 1) % 5 = ((4 : Nat) : Int) := by omega
        rcases h5 with h | h | h | h | h <;> rw [h] at hpr <;> cases hpr <;> decide
      have hb1 : 0 ≤ bl := by rw [← hbl]; exact Int.emod_nonneg _ (by omega)
      have hb2 : bl < 2 ^ 31 := by rw [← hbl]; exact Int.lt_trans (Int.emod_lt_of_pos _ hpr0) hprs
      refine ⟨_, rfl, _, rfl, .inl ⟨_, rfl, _, _, rfl, rfl, (by show (0 : Int) < 18190; decide), _, rfl, p, _, _, _, rfl, rfl, SqL.of hq2, b2, _, _, rfl, rfl, wm (p5000 (k := 64) (by decide)) (p5000 (k := 64) (by omega)), _, _, rfl, rfl, _, _, rfl, rfl, wm (p5000 (k := 64) (by omega)) (p5000 (k := 64) (by omega)), .inl ⟨_, rfl, _, _, rfl, rfl, (by show (0 : Int) < 2305843009213693907; decide), ?_⟩⟩⟩
      refine ⟨_, rfl, _, _, rfl, rfl, wd (by decide) (by decide +kernel), .inl ⟨_, rfl, _, rfl, _, _, rfl, rfl, hu, ?_⟩⟩
      exact k _ _ kp2 ⟨x, y, c + 1, hq2, h2, h3, h4, h5, m1, by omega⟩ (Int.emod_nonneg _ (by omega)) (Int.emod_lt_of_pos _ hu)
theorem ok_l_of (T : Txt K mg a) : FnOk P w K mg base CX0 2 a.l_of a.l_of_fd ["pot", "some"] sp_of := by
  refine T.F_l_of.ok sc_l_of (fun vs H Q E h => ?_) (fun cdv A outer s H vs Q E hr h => ?_)
  · obtain ⟨p, s, n, xs, rfl, _⟩ := h
    rfl
  · obtain ⟨p, q, n, xs, rfl, hp, hn, hs, hne, hl0, hl, k⟩ := h
    refine ⟨_, (pss_one (ps_ret (pe_ix ix_list (pv 1) (pe_call (ok_l_take T) (hr.mono (by decide)) rfl T.g_l_take T.k_l_take T.B_l_take .nil pass0 (pa_cons (pv 0) (pa_cons (pe_callB call_len_seq (by rfl) T.n_len (by decide +kernel) (pa_cons (pv 1) pa_nil)) pa_nil))) (fun _ _ => rfl)))), ?_⟩
    refine ⟨_, rfl, _, rfl, _, rfl, q, _, rfl, .inl (SqL.of hs), p, _, n, rfl, hp, hn, by omega, ?_, fun d H1 kp hp1 h0 h1 => ?_⟩
    · rw [Int.natAbs_natCast]
      exact Nat.lt_of_le_of_lt hl (by decide +kernel)
    · have hd : d = ((d.toNat : Nat) : Int) := by omega
      have hlt : d.toNat < xs.length := by omega
      exact ⟨q, _, _, _, rfl, rfl, SqL.of (kp _ _ hs hne), at_of hd (List.getElem?_eq_getElem hlt), k _ _ _ (List.getElem?_eq_getElem hlt) kp hp1⟩
theorem ok_l_grid_power (T : Txt K mg a) : FnOk P w K mg base CX0 1 a.l_grid_power a.l_grid_power_fd ["base", "many"] sp_power := by
  refine T.F_l_grid_power.ok sc_l_grid_power (fun vs H Q E h => ?_) (fun cdv A outer s H vs Q E hr h => ?_)
  · obtain ⟨b, e, rfl, _⟩ := h
    rfl
  · obtain ⟨b, n, rfl, hb, hn, k⟩ := h
    refine ⟨_, (pss_cons (ps_set (i := 2) sc_l_grid_power.nd rfl (Or.inl rfl) pe_int)
      (pss_cons (ps_for PassesOwn.never rfl (pi_range1 rfl T.n_range (pa_cons (pv 1) pa_nil)) (pg_name (i := 3) sc_l_grid_power.nd rfl (Or.inl rfl)) (pss_one (ps_set (i := 2) sc_l_grid_power.nd rfl (Or.inl rfl) (pe_op op_mulW (pv 2) (pe_callTy call_int1 (by rfl) T.n_int (by decide +kernel) (pa_cons (pv 0) pa_nil))))))
      (pss_one (ps_ret (pv 2))))), ?_⟩
    refine ⟨_, rfl, _, rfl, by omega, by omega, for_range (lo := 0) (n := n) (fun i σ H' => H' = H ∧ ∃ v, σ = [some (.int b), some (.int n), some (.int ((b ^ i : Nat) : Int)), v]) ⟨rfl, none, rfl⟩ ?_ ?_⟩
    · rintro i σ H' hi ⟨rfl, v, rfl⟩
      refine ⟨_, rfl, _, rfl, .inl ⟨_, rfl, _, _, rfl, rfl, wm (p5000 (pw400 hb (by omega))) (p5000 (k := 400) (by rw [Int.natAbs_natCast]; exact Nat.lt_of_le_of_lt hb (by decide +kernel))), rfl, some (.int (0 + (i : Int))), ?_⟩⟩
      show [_, _, some (V.int (((b ^ i : Nat) : Int) * (b : Int))), _] = _
      rw [Nat.pow_succ, Int.natCast_mul]
    · rintro σ H' ⟨rfl, v, rfl⟩
      exact ⟨_, rfl, k _ (Ex.refl _)⟩
end
section
theorem g0 {b f r pl : Nat} : atI [V.int b, V.int f, V.int r, V.int pl] 0 = some (.int b) := atN (m := 0) rfl
theorem g1 {b f r pl : Nat} : atI [V.int b, V.int f, V.int r, V.int pl] 1 = some (.int f) := atN (m := 1) rfl
theorem g2 {b f r pl : Nat} : atI [V.int b, V.int f, V.int r, V.int pl] 2 = some (.int r) := atN (m := 2) rfl
theorem g3 {b f r pl : Nat} : atI [V.int b, V.int f, V.int r, V.int pl] 3 = some (.int pl) := atN (m := 3) rfl
variable {P : Program} {w : World} {K : PySem.W.Frag} {mg : Str → Option Value} {base : Heap} {a : Ad}
theorem ok_l_grid_greatest (T : Txt K mg a) : FnOk P w K mg base CX0 2 a.l_grid_greatest a.l_grid_greatest_fd ["grid"] (sp_greatest K) := by
  refine T.F_l_grid_greatest.ok sc_l_grid_greatest (fun vs H Q E h => ?_) (fun cdv A outer s H vs Q E hr h => ?_)
  · obtain ⟨t, b, f, r, pl, rfl, _⟩ := h
    rfl
  · obtain ⟨t, b, f, r, pl, rfl, ht, ⟨hb, ub, uf, ur⟩, k⟩ := h
    refine ⟨_, (pss_one (ps_ret (pe_op op_mulW (pe_op op_sub (pe_call (ok_l_grid_power T) (hr.mono (by decide)) rfl T.g_l_grid_power T.k_l_grid_power T.B_l_grid_power .nil pass0 (pa_cons (pe_ix ix_tup (pv 0) pe_int (fun _ _ => rfl)) (pa_cons (pe_ix ix_tup (pv 0) pe_int (fun _ _ => rfl)) pa_nil))) pe_int) (pe_call (ok_l_grid_power T) (hr.mono (by decide)) rfl T.g_l_grid_power T.k_l_grid_power T.B_l_grid_power .nil pass0 (pa_cons (pe_ix ix_tup (pv 0) pe_int (fun _ _ => rfl)) (pa_cons (pe_ix ix_tup (pv 0) pe_int (fun _ _ => rfl)) pa_nil)))))), ?_⟩
    refine ⟨_, rfl, t, _, _, _, rfl, rfl, ht, g0, _, rfl, t, _, _, _, rfl, rfl, ht, g1, b, f, rfl, ub, by omega, fun H1 e1 => ?_⟩
    refine ⟨_, _, rfl, rfl, _, rfl, t, _, _, _, rfl, rfl, ht.ex e1, g0, _, rfl, t, _, _, _, rfl, rfl, ht.ex e1, g2, b, r, rfl, ub, by omega, fun H2 e2 => ?_⟩
    have hpos : 1 ≤ b ^ f := Nat.pow_pos (by omega)
    have hs : b ^ f < 2 ^ 400 := pw400 ub (by omega)
    refine ⟨_, _, rfl, rfl, wm (p5000 (k := 400) (by omega)) (p5000 (pw400 ub (by omega))), ?_⟩
    have kk := k H2 (e1.trans e2)
    rw [Int.natCast_mul, Int.natCast_sub hpos] at kk
    exact kk
theorem ok_l_grid_spacing (T : Txt K mg a) : FnOk P w K mg base CX0 2 a.l_grid_spacing a.l_grid_spacing_fd ["grid", "top", "bottom"] (sp_lspacing K) := by
  refine T.F_l_grid_spacing.ok sc_l_grid_spacing (fun vs H Q E h => ?_) (fun cdv A outer s H vs Q E hr h => ?_)
  · obtain ⟨t, b, f, r, pl, x, rfl, _⟩ := h
    rfl
  · obtain ⟨t, b, f, r, pl, x, rfl, ht, ⟨hb, ub, uf, ur⟩, hx, k⟩ := h
    refine ⟨_, (pss_cons (ps_par (i := 3) (j := 4) (by rfl) sc_l_grid_spacing.nd rfl rfl (by decide) rfl rfl (pa_cons pe_int (pa_cons (pe_call (ok_l_grid_power T) (hr.mono (by decide)) rfl T.g_l_grid_power T.k_l_grid_power T.B_l_grid_power .nil pass0 (pa_cons (pe_ix ix_tup (pv 0) pe_int (fun _ _ => rfl)) (pa_cons (pe_ix ix_tup (pv 0) pe_int (fun _ _ => rfl)) pa_nil))) pa_nil)) (by rfl))
      (pss_cons (ps_while PassesOwn.never (pt_cmpR op_ge (pe_callB call_abs (by rfl) T.n_abs (by decide +kernel) (pa_cons (pv 1) pa_nil)) (pe_op op_mulW (pe_op op_mulW (pv 2) (pv 4)) (pv 3)) (nomark _)) (pss_one (ps_set (i := 3) sc_l_grid_spacing.nd rfl (Or.inl rfl) (pe_op op_mulW (pv 3) (pe_ix ix_tup (pv 0) pe_int (fun _ _ => rfl))))))
      (pss_one (ps_ret (pv 3))))), ?_⟩
    refine ⟨_, rfl, t, _, _, _, rfl, rfl, ht, g0, _, rfl, t, _, _, _, rfl, rfl, ht, g1, b, f, rfl, ub, by omega, fun H1 e1 => ⟨_, _, rfl, ?_⟩⟩
    have hM : 1 ≤ b ^ f := Nat.pow_pos (by omega)
    have hMl : b ^ f < 2 ^ 400 := pw400 ub (by omega)
    have ht1 := ht.ex e1
    generalize hMe : b ^ f = M at *
    refine ⟨fun c σ H' => ∃ k : Nat, H' = H1 ∧ c = spx b (M * b ^ k) x.natAbs ∧ spx b M x.natAbs = k + spx b (M * b ^ k) x.natAbs ∧ M * b ^ k < 2 ^ 4010 ∧ σ = [some (.ref t), some (.int x), some (.int 1), some (.int ((b ^ k : Nat) : Int)), some (.int (M : Int))],
      ⟨_, 0, rfl, rfl, by rw [Nat.pow_zero, Nat.mul_one]; omega, by rw [Nat.pow_zero, Nat.mul_one]; exact Nat.lt_trans hMl (by decide +kernel), by rw [Nat.pow_zero]; rfl⟩, ?_⟩
    rintro c σ H' ⟨k', rfl, rfl, h1, h2, rfl⟩
    have hbk : b ^ k' < 2 ^ 4010 := Nat.lt_of_le_of_lt (Nat.le_mul_of_pos_left _ hM) h2
    refine ⟨_, rfl, _, rfl, _, rfl, _, rfl, _, _, rfl, rfl, wm (by decide +kernel) (p5000 (k := 400) hMl), _, rfl, _, _, rfl, rfl, wm (p5000 (k := 400) (by rw [Int.one_mul]; exact hMl)) (p5000 hbk), _, _, rfl, rfl, _, rfl, ?_⟩
    rw [absI, Int.one_mul]
    refine ite2 (fun hc => ?_) (fun hc => ?_)
    · have hc : M * b ^ k' ≤ x.natAbs := by
        have := of_decide_eq_true hc
        rw [← Int.natCast_mul] at this
        exact Int.ofNat_le.mp this
      refine ⟨fun σ' H2 => H2 = H' ∧ σ' = [some (.ref t), some (.int x), some (.int 1), some (.int ((b ^ (k' + 1) : Nat) : Int)), some (.int (M : Int))], ?_, ?_⟩
      · rintro σ' H2 ⟨rfl, rfl⟩
        have hpos : 1 ≤ M * b ^ k' := Nat.mul_pos hM (Nat.pow_pos (by omega))
        have hstep : spx b (M * b ^ k') x.natAbs = 1 + spx b (M * b ^ (k' + 1)) x.natAbs := by
          rw [Nat.pow_succ, ← Nat.mul_assoc]
          exact spx_ge hb hpos hc
        refine ⟨_, ?_, k' + 1, rfl, rfl, by omega, ?_, rfl⟩
        · omega
        · rw [Nat.pow_succ, ← Nat.mul_assoc]
          have : M * b ^ k' * b ≤ x.natAbs * 10 := Nat.mul_le_mul hc ub
          have h10 : 2 ^ 4000 * 10 ≤ 2 ^ 4010 := by decide +kernel
          omega
      · refine ⟨_, rfl, _, rfl, t, _, _, _, rfl, rfl, ht1, g0, _, _, rfl, rfl, wm (p5000 hbk) (p5000 (k := 400) (by rw [Int.natAbs_natCast]; exact Nat.lt_of_le_of_lt ub (by decide +kernel))), rfl, ?_⟩
        show [_, _, _, some (V.int (((b ^ k' : Nat) : Int) * (b : Int))), _] = _
        rw [Nat.pow_succ, Int.natCast_mul (b ^ k') b]
    · have hc : ¬ M * b ^ k' ≤ x.natAbs := fun z => hc (decide_eq_true (by rw [← Int.natCast_mul]; exact Int.ofNat_le.mpr z))
      refine ⟨_, rfl, ?_⟩
      have h0 : spx b (M * b ^ k') x.natAbs = 0 := spx_lt (by omega)
      have : spc b M x.natAbs = b ^ k' := by
        unfold spc
        rw [h1, h0, Nat.add_zero]
      rw [← this]
      exact k _ e1
theorem ok_l_grid_has (T : Txt K mg a) : FnOk P w K mg base CX0 3 a.l_grid_has a.l_grid_has_fd ["grid", "number"] (sp_has K) := by
  refine T.F_l_grid_has.ok sc_l_grid_has (fun vs H Q E h => ?_) (fun cdv A outer s H vs Q E hr h => ?_)
  · obtain ⟨t, b, f, r, pl, x, rfl, _⟩ := h
    rfl
  · obtain ⟨t, b, f, r, pl, x, rfl, ht, hv, hx, k⟩ := h
    refine ⟨_, (pss_one (ps_ret (pe_and (pe_cmpR op_le (pe_callB call_abs (by rfl) T.n_abs (by decide +kernel) (pa_cons (pv 1) pa_nil)) (pe_call (ok_l_grid_greatest T) (hr.mono (by decide)) rfl T.g_l_grid_greatest T.k_l_grid_greatest T.B_l_grid_greatest .nil pass0 (pa_cons (pv 0) pa_nil)) (nomark _)) (pe_one (pe_cmpR op_eq (pe_op op_mod (pe_callTy call_int1 (by rfl) T.n_int (by decide +kernel) (pa_cons (pv 1) pa_nil)) (pe_call (ok_l_grid_spacing T) (hr.mono (by decide)) rfl T.g_l_grid_spacing T.k_l_grid_spacing T.B_l_grid_spacing .nil pass0 (pa_cons (pv 0) (pa_cons (pv 1) (pa_cons pe_int pa_nil))))) pe_int (nomark _)))))), ?_⟩
    refine ⟨_, rfl, _, rfl, _, rfl, t, b, f, r, pl, rfl, ht, hv, fun H1 e1 => ⟨_, _, rfl, rfl, _, rfl, ?_⟩⟩
    rw [absI]
    refine ite2 (fun h => ?_) (fun h => ?_)
    · have h := Int.ofNat_le.mp (of_decide_eq_true h)
      have hs := spcI_pos (L := b ^ f) hv.1 x.natAbs
      refine ⟨_, rfl, .inl ⟨_, rfl, _, rfl, _, rfl, t, b, f, r, pl, x, rfl, ht.ex e1, hv, hx, fun H2 e2 => ⟨_, _, rfl, rfl, hs, rfl, ?_⟩⟩⟩
      have kk := k H2 (e1.trans e2)
      rw [decide_eq_true h, Bool.true_and] at kk
      show Q (V.bl (decide (V.int (x % (spc b (b ^ f) x.natAbs : Nat)) = V.int 0))) H2
      have : decide (V.int (x % (spc b (b ^ f) x.natAbs : Nat)) = V.int 0) = decide (x % (spc b (b ^ f) x.natAbs : Nat) = 0) := by simp
      rw [this]
      exact kk
    · have h : ¬ x.natAbs ≤ (b ^ f - 1) * b ^ r := fun z => h (decide_eq_true (Int.ofNat_le.mpr z))
      have kk := k H1 e1
      rw [decide_eq_false h, Bool.false_and] at kk
      exact kk
theorem ok_l_grid_more (T : Txt K mg a) : FnOk P w K mg base CX0 1 a.l_grid_more a.l_grid_more_fd ["grid", "more"] (sp_more K) := by
  refine T.F_l_grid_more.ok sc_l_grid_more (fun vs H Q E h => ?_) (fun cdv A outer s H vs Q E hr h => ?_)
  · obtain ⟨t, b, f, r, pl, m, rfl, _⟩ := h
    rfl
  · obtain ⟨t, b, f, r, pl, m, rfl, ht, k⟩ := h
    refine ⟨_, (pss_one (ps_ret (pe_tup (pa_cons (pe_ix ix_tup (pv 0) pe_int (fun _ _ => rfl)) (pa_cons (pe_op op_add (pe_ix ix_tup (pv 0) pe_int (fun _ _ => rfl)) (pv 1)) (pa_cons (pe_ix ix_tup (pv 0) pe_int (fun _ _ => rfl)) (pa_cons (pe_ix ix_tup (pv 0) pe_int (fun _ _ => rfl)) pa_nil))))))), ?_⟩
    refine ⟨_, rfl, t, _, _, _, rfl, rfl, ht, g0, _, rfl, t, _, _, _, rfl, rfl, ht, g1, _, rfl, _, _, rfl, rfl, _, rfl, t, _, _, _, rfl, rfl, ht, g2, _, rfl, t, _, _, _, rfl, rfl, ht, g3, by show 4 ≤ sizeLine; decide, fun q hq => ?_⟩
    refine k q _ (Ex.new hq) ?_
    rw [upd_same, Int.natCast_add]
end
end My


set_option Elab.async false
set_option maxRecDepth 100000
set_option maxHeartbeats 1000000
set_option exponentiation.threshold 6000
namespace My
open PySem L2 Evl
def sp_rnd (K : PySem.W.Frag) : Sp := fun vs H Q _ => ∃ (t : Addr) (b f r pl : Nat) (x : Int) (way : Str), vs = [.ref t, .int x, .int 1, .str way, .int 0] ∧ TG K H t b f r pl ∧ (2 ≤ b ∧ b ≤ 10 ∧ f ≤ 33 ∧ r ≤ 60) ∧ x.natAbs < 2 ^ 4000 ∧
  ((way = "near" ∧ ∀ H', Ex H H' → Q (rnO b (b ^ f) ((b ^ f - 1) * b ^ r) x) H') ∨ (way = "zero" ∧ ∀ H', Ex H H' → Q (rzO b (b ^ f) ((b ^ f - 1) * b ^ r) x) H'))
section
variable {P : Program} {w : World} {K : PySem.W.Frag} {mg : Str → Option Value} {base : Heap} {a : Ad}
theorem ok_l_grid_rounded (T : Txt K mg a) : FnOk P w K mg base CX0 3 a.l_grid_rounded a.l_grid_rounded_fd ["grid", "top", "bottom", "way", "more"] (sp_rnd K) := by
  refine T.F_l_grid_rounded.ok sc_l_grid_rounded (fun vs H Q E h => ?_) (fun cdv A outer s H vs Q E hr h => ?_)
  · obtain ⟨t, b, f, r, pl, x, way, rfl, _⟩ := h
    rfl
  · obtain ⟨t, b, f, r, pl, x, way, rfl, ht, hv, hx, k⟩ := h
    refine ⟨_, (pss_cons (ps_set (i := 5) sc_l_grid_rounded.nd rfl (Or.inl rfl) (pe_call (ok_l_grid_more T) (hr.mono (by decide)) rfl T.g_l_grid_more T.k_l_grid_more T.B_l_grid_more .nil pass0 (pa_cons (pv 0) (pa_cons (pv 4) pa_nil))))
      (pss_cons (ps_set (i := 6) sc_l_grid_rounded.nd rfl (Or.inl rfl) (pe_call (ok_l_grid_spacing T) (hr.mono (by decide)) rfl T.g_l_grid_spacing T.k_l_grid_spacing T.B_l_grid_spacing .nil pass0 (pa_cons (pv 5) (pa_cons (pv 1) (pa_cons (pv 2) pa_nil)))))
      (pss_cons (ps_par (i := 7) (j := 8) (by rfl) sc_l_grid_rounded.nd rfl rfl (by decide) rfl rfl (pa_cons (pe_op op_fdivW (pe_callTy call_int1 (by rfl) T.n_int (by decide +kernel) (pa_cons (pv 1) pa_nil)) (pe_op op_mulW (pv 2) (pv 6))) (pa_cons (pe_op op_mod (pe_callTy call_int1 (by rfl) T.n_int (by decide +kernel) (pa_cons (pv 1) pa_nil)) (pe_op op_mulW (pv 2) (pv 6))) pa_nil)) (by rfl))
      (pss_cut (ps_if (pt_cmpR op_eq (pv 3) pe_str (nomark _)) (pss_cons (ps_set (i := 10) sc_l_grid_rounded.nd rfl (Or.inl rfl) (pe_op op_sub (pe_op op_mulW pe_int (pv 8)) (pe_op op_mulW (pv 2) (pv 6))))
      (pss_one (ps_set (i := 11) sc_l_grid_rounded.nd rfl (Or.inl rfl) (pe_callTy call_int1 (by rfl) T.n_int (by decide +kernel) (pa_cons (pe_or (pe_cmpR op_gt (pv 10) pe_int (nomark _)) (pe_one (pe_and (pe_cmpR op_eq (pv 10) pe_int (nomark _)) (pe_one (pe_cmpR op_eq (pe_op op_mod (pe_callTy call_int1 (by rfl) T.n_int (by decide +kernel) (pa_cons (pv 7) pa_nil)) pe_int) pe_int (nomark _)))))) pa_nil))))) (pss_one (ps_set (i := 11) sc_l_grid_rounded.nd rfl (Or.inl rfl) (pe_callTy call_int1 (by rfl) T.n_int (by decide +kernel) (pa_cons (pe_and (pe_cmpR op_gt (pv 8) pe_int (nomark _)) (pe_one (pe_or (pe_cmpR op_eq (pv 3) pe_str (nomark _)) (pe_one (pe_and (pe_cmpR op_eq (pv 3) pe_str (nomark _)) (pe_one (pe_cmpR op_lt (pv 1) pe_int (nomark _)))))))) pa_nil)))))
      (pss_cons (ps_set (i := 9) sc_l_grid_rounded.nd rfl (Or.inl rfl) (pe_op op_mulW (pe_op op_add (pv 7) (pv 11)) (pv 6)))
      (pss_one (ps_ret (pe_ifExp (pt_cmpR op_le (pe_callB call_abs (by rfl) T.n_abs (by decide +kernel) (pa_cons (pv 9) pa_nil)) (pe_call (ok_l_grid_greatest T) (hr.mono (by decide)) rfl T.g_l_grid_greatest T.k_l_grid_greatest T.B_l_grid_greatest .nil pass0 (pa_cons (pv 5) pa_nil)) (nomark _)) (pv 9) pe_non)))))))), ?_⟩
    obtain ⟨hb, ub, uf, ur⟩ := id hv
    refine ⟨_, rfl, _, rfl, t, b, f, r, pl, 0, rfl, ht, fun q H1 e1 hq => ?_⟩
    rw [Nat.add_zero] at hq
    have hq : TG K H1 q b f r pl := SqT.of hq
    refine ⟨_, rfl, _, rfl, _, rfl, q, b, f, r, pl, x, rfl, hq, hv, hx, fun H2 e2 => ?_⟩
    have hL : 1 ≤ b ^ f := Nat.pow_pos (by omega)
    have hs := spcI_pos (L := b ^ f) hb x.natAbs
    have hsz := spc_sz hb ub hL hx
    have hsz' : ((spc b (b ^ f) x.natAbs : Nat) : Int).natAbs < 2 ^ 4010 := by rw [Int.natAbs_natCast]; exact hsz
    have ern : ∀ st : Int, (((spc b (b ^ f) x.natAbs : Nat) : Int) < 2 * (x % ((spc b (b ^ f) x.natAbs : Nat) : Int)) ∨ 2 * (x % ((spc b (b ^ f) x.natAbs : Nat) : Int)) = ((spc b (b ^ f) x.natAbs : Nat) : Int) ∧ x / ((spc b (b ^ f) x.natAbs : Nat) : Int) % 2 = 1) ∧ st = 1 ∨
        ¬ (((spc b (b ^ f) x.natAbs : Nat) : Int) < 2 * (x % ((spc b (b ^ f) x.natAbs : Nat) : Int)) ∨ 2 * (x % ((spc b (b ^ f) x.natAbs : Nat) : Int)) = ((spc b (b ^ f) x.natAbs : Nat) : Int) ∧ x / ((spc b (b ^ f) x.natAbs : Nat) : Int) % 2 = 1) ∧ st = 0 → (x / ((spc b (b ^ f) x.natAbs : Nat) : Int) + st) * ((spc b (b ^ f) x.natAbs : Nat) : Int) = rn b (b ^ f) x := by
      rintro st (⟨h1, rfl⟩ | ⟨h1, rfl⟩)
      · unfold rn; rw [if_pos h1]
      · unfold rn; rw [if_neg h1, Int.add_zero]
    have erz : ∀ st : Int, (0 < x % ((spc b (b ^ f) x.natAbs : Nat) : Int) ∧ x < 0) ∧ st = 1 ∨ ¬ (0 < x % ((spc b (b ^ f) x.natAbs : Nat) : Int) ∧ x < 0) ∧ st = 0 → (x / ((spc b (b ^ f) x.natAbs : Nat) : Int) + st) * ((spc b (b ^ f) x.natAbs : Nat) : Int) = rz b (b ^ f) x := by
      rintro st (⟨h1, rfl⟩ | ⟨h1, rfl⟩)
      · unfold rz; rw [if_pos h1]
      · unfold rz; rw [if_neg h1, Int.add_zero]
    generalize ((spc b (b ^ f) x.natAbs : Nat) : Int) = s at *
    have h1s : (1 * s).natAbs < 2 ^ 4010 := by rw [Int.one_mul]; exact hsz'
    have h1p : 0 < 1 * s := by rw [Int.one_mul]; exact hs
    refine ⟨_, rfl, .inl ⟨_, rfl, _, rfl, _, rfl, _, _, rfl, rfl, wm (by decide +kernel) (p5000 hsz'), _, _, rfl, rfl, wd h1p (p5000 h1s), _, rfl, .inl ⟨_, rfl, _, rfl, _, rfl, _, _, rfl, rfl, wm (by decide +kernel) (p5000 hsz'), _, _, rfl, rfl, h1p, _, _, rfl, ?_⟩⟩⟩
    dsimp only
    rw [Int.one_mul]
    obtain ⟨q1, q2⟩ := quo_sz' hs hx
    have qm := mod_sz (t := x) hs hsz'
    refine ⟨fun σ H3 => Ex H H3 ∧ TG K H3 q b f r pl ∧ ∃ z2 st v, σ = [some (.ref t), some (.int x), some (.int 1), some (.str way), some (.int 0), some (.ref q), some (.int s), some (.int (x / s)), some (.int (x % s)), none, z2, some (.int st)] ∧ (st = 0 ∨ st = 1) ∧ (x / s + st) * s = v ∧
      ∀ H', Ex H H' → Q (if v.natAbs ≤ (b ^ f - 1) * b ^ r then .int v else .non) H', ?_, ?_⟩
    · have hq2 := hq.ex e2
      have e12 := e1.trans e2
      rcases k with ⟨rfl, k⟩ | ⟨rfl, k⟩
      · refine ⟨_, rfl, rfl, _, rfl, ?_⟩
        refine ite2 (fun _ => ?_) (fun h => absurd (by decide +kernel) h)
        refine ⟨_, rfl, _, _, rfl, rfl, wm (by decide +kernel) (p5000 qm), _, rfl, _, rfl, _, _, rfl, rfl, wm (by decide +kernel) (p5000 hsz'), _, _, rfl, rfl, ?_⟩
        dsimp only
        rw [Int.one_mul]
        refine ⟨_, rfl, _, _, rfl, rfl, _, rfl, ?_⟩
        refine ite2 (fun h => ?_) (fun h => ?_)
        · have h := of_decide_eq_true h
          exact .inr ⟨_, rfl, e12, hq2, _, 1, _, rfl, .inr rfl, ern 1 (.inl ⟨by omega, rfl⟩), k⟩
        · have h : ¬ (0 < 2 * (x % s) - s) := fun z => h (decide_eq_true z)
          refine ⟨_, rfl, rfl, _, rfl, ?_⟩
          refine ite2 (fun h2 => ?_) (fun h2 => ?_)
          · have h2 : 2 * (x % s) - s = 0 := by simpa using h2
            refine ⟨_, rfl, .inl ⟨_, rfl, _, _, rfl, rfl, (by show (0 : Int) < 2; decide), rfl, ?_⟩⟩
            refine .inr ⟨_, rfl, e12, hq2, _, if decide (V.int (x / s % 2) = V.int 1) = true then 1 else 0, _, rfl, ?_, ern _ ?_, k⟩
            · split
              · exact .inr rfl
              · exact .inl rfl
            · by_cases h3 : x / s % 2 = 1
              · exact .inl ⟨.inr ⟨by omega, h3⟩, by rw [h3]; rfl⟩
              · exact .inr ⟨fun z => z.elim (fun z => by omega) (fun z => h3 z.2), by rw [if_neg]; simpa using h3⟩
          · have h2 : ¬ 2 * (x % s) - s = 0 := by simpa using h2
            exact .inr ⟨_, rfl, e12, hq2, _, 0, _, rfl, .inl rfl, ern 0 (.inr ⟨fun z => z.elim (fun z => by omega) (fun z => by omega), rfl⟩), k⟩
      · refine ⟨_, rfl, rfl, _, rfl, ?_⟩
        refine ite2 (fun h => absurd h (by decide +kernel)) (fun _ => ?_)
        refine ⟨_, rfl, _, _, rfl, rfl, _, rfl, ?_⟩
        refine ite2 (fun h => ?_) (fun h => ?_)
        · have h := of_decide_eq_true h
          refine ⟨_, rfl, rfl, _, rfl, ?_⟩
          refine ite2 (fun h => absurd h (by decide +kernel)) (fun _ => ?_)
          refine ⟨_, rfl, rfl, _, rfl, ?_⟩
          refine ite2 (fun _ => ?_) (fun h => absurd (by decide +kernel) h)
          refine ⟨_, rfl, _, _, rfl, rfl, ?_⟩
          refine .inr ⟨_, rfl, e12, hq2, _, if decide (x < 0) = true then 1 else 0, _, rfl, ?_, erz _ ?_, k⟩
          · split
            · exact .inr rfl
            · exact .inl rfl
          · by_cases h3 : x < 0
            · exact .inl ⟨⟨h, h3⟩, by rw [if_pos (decide_eq_true h3)]⟩
            · exact .inr ⟨fun z => h3 z.2, by rw [if_neg]; simpa using h3⟩
        · have h : ¬ 0 < x % s := fun z => h (decide_eq_true z)
          exact .inr ⟨_, rfl, e12, hq2, _, 0, _, rfl, .inl rfl, erz 0 (.inr ⟨fun z => h z.1, rfl⟩), k⟩
    · rintro σ H3 ⟨e3, hq3, z2, st, v, rfl, hst, hv2, kk⟩
      have hsz2 : (x / s + st).natAbs < 2 ^ 4001 := by
        rcases hst with rfl | rfl
        · rw [Int.add_zero]; exact q1
        · exact q2
      refine ⟨_, rfl, _, rfl, _, _, rfl, rfl, _, rfl, _, _, rfl, rfl, wm (p5000 hsz2) (p5000 hsz'), ?_⟩
      dsimp only
      rw [hv2]
      refine ⟨_, rfl, _, rfl, _, rfl, q, b, f, r, pl, rfl, hq3, hv, fun H4 e4 => ⟨_, _, rfl, rfl, _, rfl, ?_⟩⟩
      rw [absI]
      have kq := kk H4 (e3.trans e4)
      refine ite2 (fun h => ?_) (fun h => ?_)
      · have h := Int.ofNat_le.mp (of_decide_eq_true h)
        rw [if_pos h] at kq
        exact ⟨_, rfl, kq⟩
      · have h : ¬ v.natAbs ≤ (b ^ f - 1) * b ^ r := fun z => h (decide_eq_true (Int.ofNat_le.mpr z))
        rw [if_neg h] at kq
        exact kq
end
end My


set_option Elab.async false
set_option maxRecDepth 100000
set_option maxHeartbeats 1000000
set_option exponentiation.threshold 6000
namespace My
open PySem L2 Evl
def okg (b f r : Nat) : Prop := 2 ≤ b ∧ b ≤ 10 ∧ 1 ≤ f ∧ f ≤ 30 ∧ r ≤ 60
def gG (b f r : Nat) : Nat := (b ^ f - 1) * b ^ r
theorem okg.gr {b f r : Nat} (h : okg b f r) : Gr b f r (b ^ f) (gG b f r) := ⟨h.1, h.2.2.1, rfl, rfl⟩
theorem okg.bG {b f r : Nat} (h : okg b f r) : gG b f r < 2 ^ 400 := by
  have h1 := h.gr.Gl
  rw [← Nat.pow_add] at h1
  exact Nat.lt_trans h1 (pw400 h.2.1 (by have := h.2.2.2.1; have := h.2.2.2.2; omega))
theorem okg.v {b f r : Nat} (h : okg b f r) : 2 ≤ b ∧ b ≤ 10 ∧ f ≤ 33 ∧ r ≤ 60 := ⟨h.1, h.2.1, by have := h.2.2.2.1; omega, h.2.2.2.2⟩
theorem TG.kp {K : PySem.W.Frag} {H H' : Hp} {t p : Addr} {b f r pl : Nat} (h : H t = some (.tup [.int b, .int f, .int r, .int pl])) (e : Kp p H H') (hn : t ≠ p) : TG K H' t b f r pl := SqT.of (e _ _ h hn)
theorem rz_onG2 {b f r L G : Nat} (g : Gr b f r L G) {t : Int} (h : (rz b L t).natAbs ≤ G) : OnG b L G (rz b L t) := by
  obtain ⟨q, e, h1⟩ := rz_cases (L := L) g.hb t
  have hu : t.natAbs < L * spc b L t.natAbs := spx_up g.hb (by have := g.L1; omega)
  exact onG_mul (k := spx b L t.natAbs) (q := q) g h (by show _ ≤ L * spc b L t.natAbs; omega) e
def sp_a_number (K : PySem.W.Frag) : Sp := fun vs H Q _ => ∃ (p t : Addr) (n b f r pl : Nat), vs = [.ref p, .ref t] ∧ PotAt H p n ∧ n + 10 ≤ 100000 ∧ H t = some (.tup [.int b, .int f, .int r, .int pl]) ∧ t ≠ p ∧ okg b f r ∧
  ∀ z H', Kp p H H' → PotAt H' p (n + 4) → OnG b (b ^ f) (gG b f r) z → Q (.int z) H'
def sp_cells (K : PySem.W.Frag) : Sp := fun vs H Q _ => ∃ (s : Addr) (ns : List Int) (m : Nat), vs = [.ref s, .int m] ∧ SqL K H s (ns.map V.int) ∧ 1 ≤ m ∧ m ≤ 5 ∧ ∀ (l : Addr) (k : Nat) H', Ex H H' → k ≤ m → H' l = some (.lst ((List.range k).map fun (i : Nat) => V.int (i : Int))) → Q (.ref l) H'
theorem ne_tup {H : Hp} {t p : Addr} {xs : List V} {n : Nat} (h : H t = some (.tup xs)) (hp : PotAt H p n) : t ≠ p := fun e => by
  obtain ⟨x, y, c, h1, _⟩ := hp
  rw [e, h1] at h
  cases h
section
variable {P : Program} {w : World} {K : PySem.W.Frag} {mg : Str → Option Value} {base : Heap} {a : Ad}
theorem ok_l_cells (T : Txt K mg a) : FnOk P w K mg base CX0 1 a.l_cells a.l_cells_fd ["script", "most"] (sp_cells K) := by
  refine T.F_l_cells.ok sc_l_cells (fun vs H Q E h => ?_) (fun cdv A outer s H vs Q E hr h => ?_)
  · obtain ⟨q, ns, m, rfl, _⟩ := h
    rfl
  · obtain ⟨q, ns, m, rfl, hs, h1, h5, k⟩ := h
    refine ⟨_, (pss_one (ps_ret (pe_listRg rfl rfl T.n_list (prg_1 rfl T.n_range (pe_callB (call_max2 rfl) (by rfl) T.n_max (by decide +kernel) (pa_cons pe_int (pa_cons (pe_callB (call_min2 rfl) (by rfl) T.n_min (by decide +kernel) (pa_cons (pv 1) (pa_cons (pe_callB call_len_seq (by rfl) T.n_len (by decide +kernel) (pa_cons (pv 0) pa_nil)) pa_nil))) pa_nil))))))), ?_⟩
    refine ⟨_, rfl, _, rfl, q, _, rfl, .inl hs, _, _, rfl, _, _, rfl, _, rfl, ⟨by decide, by decide, ?_, ?_, ?_⟩, fun l hl => ?_⟩
    · split <;> split <;> omega
    · split <;> split <;> omega
    · split <;> split <;> omega
    · obtain ⟨j, hj, hjm⟩ : ∃ j : Nat, (if (if ((ns.map V.int).length : Int) < (m : Int) then ((ns.map V.int).length : Int) else (m : Int)) > 1 then (if ((ns.map V.int).length : Int) < (m : Int) then ((ns.map V.int).length : Int) else (m : Int)) else 1) = (j : Int) ∧ j ≤ m := by
        refine ⟨(if (if ((ns.map V.int).length : Int) < (m : Int) then ((ns.map V.int).length : Int) else (m : Int)) > 1 then (if ((ns.map V.int).length : Int) < (m : Int) then ((ns.map V.int).length : Int) else (m : Int)) else 1).toNat, ?_, ?_⟩ <;> split <;> split <;> omega
      rw [hj]
      refine k l j _ (Ex.new hl) hjm ?_
      rw [upd_same]
      unfold rgV
      have : ((j : Int) - 0).toNat = j := by omega
      rw [this]
      congr 2
      exact List.map_congr_left fun i _ => by rw [Int.zero_add]
end
end My


set_option Elab.async false
set_option maxRecDepth 100000
set_option maxHeartbeats 1000000
set_option exponentiation.threshold 6000
namespace My
open PySem L2 Evl
def Lst (xs : List Int) : Prop := ∃ ys m, xs = ys ++ [m] ∧ (1 : Int) ≤ m
theorem lst_app (xs : List Int) {ys : List Int} (h : ∀ y ∈ ys, (1 : Int) ≤ y) (h0 : ys ≠ []) : Lst (xs ++ ys) :=
  ⟨xs ++ ys.dropLast, ys.getLast h0, by rw [List.append_assoc, List.dropLast_concat_getLast], h _ (List.getLast_mem h0)⟩
def sp_ladder (K : PySem.W.Frag) : Sp := fun vs H Q _ => ∃ (t : Addr) (b f r pl : Nat), vs = [.ref t] ∧ TG K H t b f r pl ∧ okg b f r ∧ b ^ f ≤ 1000 ∧
  ∀ (l : Addr) H', H l = none → Ex H H' → H' l = some (.lst (iv (lad b (b ^ f) r))) → Q (.ref l) H'
theorem lad_len (b L : Nat) : ∀ k : Nat, (lad b L k).length ≤ L * (k + 1)
  | 0 => by
    unfold lad
    rw [List.length_map, List.length_range]
    omega
  | k + 1 => by
    unfold lad
    rw [List.length_append, List.length_map, List.length_range]
    have := lad_len b L k
    have e : L * (k + 1 + 1) = L * (k + 1) + L := Nat.mul_succ _ _
    rw [e]
    have h2 : L - L / b ≤ L := Nat.sub_le _ _
    exact Nat.add_le_add this h2
theorem lo_facts {M b : Nat} (hb : 2 ≤ b) : 0 ≤ ((M : Nat) : Int) / (b : Int) ∧ ((M : Nat) : Int) / (b : Int) ≤ (M : Int) := by
  refine ⟨Int.ediv_nonneg (by omega) (by omega), ?_⟩
  exact Int.ediv_le_self _ (by omega)
theorem b_sz (c : Bool) : (if c = true then (1 : Int) else 0).natAbs < 2 ^ 5000 := by cases c <;> decide +kernel
theorem own_sz (z : Int) (c : Bool) : 0 ≤ z % (((10 : Int) ^ (60 : Int).toNat) ^ (5 : Int).toNat) * (if c = true then 1 else 0) ∧ (z % (((10 : Int) ^ (60 : Int).toNat) ^ (5 : Int).toNat) * (if c = true then 1 else 0)).natAbs < 2 ^ 1000 := by
  rw [t300]
  have h0 : (0 : Int) < 10 ^ 300 := by decide +kernel
  have h1 := Int.emod_nonneg z (show (10 : Int) ^ 300 ≠ 0 by omega)
  have h2 := Int.emod_lt_of_pos z h0
  have h3 : (10 : Int) ^ 300 < 2 ^ 1000 := by decide +kernel
  cases c
  · rw [if_neg (by decide), Int.mul_zero]
    exact ⟨by omega, by decide +kernel⟩
  · rw [if_pos rfl, Int.mul_one]
    exact ⟨h1, by omega⟩
section
variable {P : Program} {w : World} {K : PySem.W.Frag} {mg : Str → Option Value} {base : Heap} {a : Ad}
theorem ok_l_grid_ladder (T : Txt K mg a) : FnOk P w K mg base CX0 2 a.l_grid_ladder a.l_grid_ladder_fd ["grid"] (sp_ladder K) := by
  refine T.F_l_grid_ladder.ok sc_l_grid_ladder (fun vs H Q E h => ?_) (fun cdv A outer s H vs Q E hr h => ?_)
  · obtain ⟨t, b, f, r, pl, rfl, _⟩ := h
    rfl
  · obtain ⟨t, b, f, r, pl, rfl, ht, hok, hM, k⟩ := h
    refine ⟨_, (pss_cons (ps_asg (pe_tup (pa_cons (pe_call (ok_l_grid_power T) (hr.mono (by decide)) rfl T.g_l_grid_power T.k_l_grid_power T.B_l_grid_power .nil pass0 (pa_cons (pe_ix ix_tup (pv 0) pe_int (fun _ _ => rfl)) (pa_cons (pe_ix ix_tup (pv 0) pe_int (fun _ _ => rfl)) pa_nil))) (pa_cons pe_int pa_nil))) (pg_tup rfl (pgs_cons (pg_name (i := 1) sc_l_grid_ladder.nd rfl (Or.inl rfl)) (pgs_cons (pg_name (i := 2) sc_l_grid_ladder.nd rfl (Or.inr rfl)) pgs_nil))))
      (pss_cons (ps_set (i := 3) sc_l_grid_ladder.nd rfl (Or.inl rfl) (pe_listRg rfl rfl T.n_list (prg_1 rfl T.n_range (pv 1))))
      (pss_cons (ps_for PassesOwn.never rfl (pi_range1 rfl T.n_range (pa_cons (pe_ix ix_tup (pv 0) pe_int (fun _ _ => rfl)) pa_nil)) (pg_name (i := 4) sc_l_grid_ladder.nd rfl (Or.inl rfl)) (pss_cons (ps_set (i := 2) sc_l_grid_ladder.nd rfl (Or.inr rfl) (pe_op op_mulW (pv 2) (pe_ix ix_tup (pv 0) pe_int (fun _ _ => rfl))))
      (pss_one (ps_expr (pe_bm PySem.F.plainAttrs_list PySem.F.slot_list_extend PySem.F.type_list_extend mt_extend (pv 3) (pa_cons (pe_lc (own := [("at", 5)]) (g := gName 5) (by rfl) sc_l_grid_ladder.nd (pi_range2 rfl T.n_range (pa_cons (pe_op op_fdivW (pv 1) (pe_ix ix_tup (pv 0) pe_int (fun _ _ => rfl))) (pa_cons (pv 1) pa_nil))) (blkOk_by (own := [("at", 5)]) (N := N_l_grid_ladder) (sc := defScope s_l_grid_ladder) (by decide +kernel)) (fun _ _ _ _ _ => pg_name (i := 5) sc_l_grid_ladder.nd rfl (Or.inl rfl)) (fun _ _ _ _ _ => pts_nil) (fun _ _ _ _ _ => (pe_op op_mulW (pv 2) (pv 5)))) pa_nil))))))
      (pss_one (ps_ret (pv 3)))))), ?_⟩
    obtain ⟨hb, ub, f1, uf, ur⟩ := id hok
    have gr := hok.gr
    refine ⟨_, rfl, t, _, _, _, rfl, rfl, ht, g0, _, rfl, t, _, _, _, rfl, rfl, ht, g1, b, f, rfl, ub, by omega, fun H1 e1 => ⟨by show 2 ≤ sizeLine; decide, fun u hu => ?_⟩⟩
    refine ⟨u, _, rfl, SqT.of upd_same, rfl, _, _, rfl, _, _, rfl, rfl, ?_⟩
    have e2 : Ex H (upd H1 u (.tup [V.int ((b ^ f : Nat) : Int), V.int 1])) := e1.trans (Ex.new hu)
    generalize (upd H1 u (.tup [V.int ((b ^ f : Nat) : Int), V.int 1])) = H2 at *
    refine ⟨_, rfl, _, rfl, ⟨by omega, by omega, by omega, by omega, by omega⟩, fun l hl => ?_⟩
    have hl0 := fresh_back e2 hl
    have hM1 : 1 ≤ b ^ f := Nat.pow_pos (by omega)
    have start : rgV 0 ((b ^ f : Nat) : Int) = iv (lad b (b ^ f) 0) := by
      unfold rgV iv lad
      have : (((b ^ f : Nat) : Int) - 0).toNat = b ^ f := by omega
      rw [this, List.map_map]
      exact List.map_congr_left fun i _ => by simp
    refine ⟨_, rfl, t, _, _, _, rfl, rfl, ht.ex (e2.trans (Ex.new hl)), g2, _, rfl, by omega, by omega, for_range (lo := 0) (n := r) (fun i σ H' => ∃ (v : Option V), Ex H H' ∧ H' l = some (.lst (iv (lad b (b ^ f) i))) ∧ σ = [some (.ref t), some (.int ((b ^ f : Nat) : Int)), some (.int ((b ^ i : Nat) : Int)), some (.ref l), v, none])
      ⟨none, e2.trans (Ex.new hl), by rw [upd_same, start], rfl⟩ ?_ ?_⟩
    · rintro i σ H' hi ⟨v, e3, h3, rfl⟩
      have hll := lad_len b (b ^ f) i
      have hll2 : b ^ f * (i + 1) ≤ 1000 * 61 := Nat.mul_le_mul hM (by omega)
      have hbi : b ^ i < 2 ^ 400 := pw400 ub (by omega)
      have hb400 : ((b : Nat) : Int).natAbs < 2 ^ 400 := by rw [Int.natAbs_natCast]; exact Nat.lt_of_le_of_lt ub (by decide +kernel)
      obtain ⟨lo0, lo1⟩ := lo_facts (M := b ^ f) hb
      have lo2 : 1 ≤ ((b ^ f : Nat) : Int) / (b : Int) := by
        have q := (div_b gr).1
        have q2 : ((b ^ f : Nat) : Int) / (b : Int) = ((b ^ f / b : Nat) : Int) := rfl
        omega
      have lo3 : ((b ^ f : Nat) : Int) / (b : Int) < ((b ^ f : Nat) : Int) := by
        have q := (div_b gr).2
        have q2 : ((b ^ f : Nat) : Int) / (b : Int) = ((b ^ f / b : Nat) : Int) := rfl
        omega
      refine ⟨_, rfl, _, rfl, t, _, _, _, rfl, rfl, ht.ex e3, g0, _, _, rfl, rfl, wm (p5000 hbi) (p5000 hb400), ?_⟩
      refine ⟨_, rfl, .inl ⟨rfl, _, SqL.of h3⟩, _, rfl, _, rfl, t, _, _, _, rfl, rfl, ht.ex e3, g0, _, _, rfl, rfl, wd (by omega) (p5000 hb400), _, rfl, _, _, rfl, ⟨by omega, by omega, by omega, by omega⟩, fun D hD => ?_⟩
      have elo : ((b ^ f : Nat) : Int) / (b : Int) = ((b ^ f / b : Nat) : Int) := rfl
      have en : (((b ^ f : Nat) : Int) - ((b ^ f : Nat) : Int) / (b : Int)).toNat = b ^ f - b ^ f / b := by rw [elo]; omega
      rw [en, elo]
      refine lc_range (lo := ((b ^ f / b : Nat) : Int)) (n := b ^ f - b ^ f / b) (fun j H'' => Ex H' H'' ∧ H'' D = some (.lst (iv ((List.range j).map fun q => ((b ^ (i + 1) * (b ^ f / b + q) : Nat) : Int))))) ⟨Ex.new hD, upd_same⟩ ?_ ?_
      · rintro j H'' hj ⟨e4, h4⟩
        refine ⟨rfl, ?_⟩
        dsimp only [tYes]
        refine iteT ?_
        have hn : ((b ^ f / b : Nat) : Int) + (j : Int) = ((b ^ f / b + j : Nat) : Int) := by omega
        have hlt : b ^ f / b + j < b ^ f := by omega
        have hbi1 : b ^ (i + 1) < 2 ^ 400 := pw400 ub (by omega)
        have ebi : ((b ^ i : Nat) : Int) * (b : Int) = ((b ^ (i + 1) : Nat) : Int) := by rw [Nat.pow_succ, Int.natCast_mul]
        refine ⟨_, rfl, _, rfl, _, _, rfl, rfl, wm (p5000 (k := 400) (by rw [ebi]; exact hbi1)) (p5000 (k := 400) (by rw [hn, Int.natAbs_natCast]; exact Nat.lt_of_lt_of_le (Nat.lt_of_lt_of_le hlt hM) (by decide +kernel))), _, h4, sz_lt (by unfold iv; rw [List.length_map, List.length_map, List.length_range]; omega), Ex.mut e4 hD, ?_⟩
        rw [upd_same, List.range_succ, List.map_append]
        show some (HO.lst (iv _ ++ [V.int (((b ^ i : Nat) : Int) * (b : Int) * (((b ^ f / b : Nat) : Int) + (j : Int)))])) = _
        rw [ebi, hn, ← Int.natCast_mul]
        unfold iv
        rw [List.map_append]
        rfl
      · rintro H'' ⟨e4, h4⟩
        refine ⟨l, D, _, _, rfl, rfl, e4 _ _ h3, h4, sz_of (by unfold iv; rw [List.length_map, List.length_map, List.length_map, List.length_range]; omega), ?_⟩
        refine ⟨some (.int (0 + (i : Int))), Ex.mut (e3.trans e4) hl0, ?_, ?_⟩
        · rw [upd_same]
          unfold iv
          rw [← List.map_append]
          rfl
        · show [_, _, some (V.int (((b ^ i : Nat) : Int) * (b : Int))), _, some (V.int (0 + (i : Int))), _] = _
          rw [Nat.pow_succ, Int.natCast_mul]
    · rintro σ H' ⟨v, e3, h3, rfl⟩
      exact ⟨_, rfl, k l H' hl0 e3 h3⟩
theorem ok_l_pot (T : Txt K mg a) : FnOk P w K mg base CX0 1 a.l_pot a.l_pot_fd ["script", "place"] (sp_pot K) := by
  refine T.F_l_pot.ok sc_l_pot (fun vs H Q E h => ?_) (fun cdv A outer s H vs Q E hr h => ?_)
  · obtain ⟨s, ns, place, rfl, _⟩ := h
    rfl
  · obtain ⟨q, ns, place, rfl, hs, hp, k⟩ := h
    refine ⟨_, (pss_cut (ps_set (i := 2) sc_l_pot.nd rfl (Or.inl rfl) (pe_ifExp (pt_cmpR op_lt (pv 1) (pe_callB call_len_seq (by rfl) T.n_len (by decide +kernel) (pa_cons (pv 0) pa_nil)) (nomark _)) (pe_ix ix_list (pv 0) (pv 1) (fun _ _ => rfl)) (pe_op op_add (pe_op op_add (pe_op op_mod (pe_callB (cr_sum rfl) (by rfl) T.n_sum (by decide +kernel) (pa_cons (pe_slice sl_list (pv 0) po_none (po_some pe_int)) pa_nil)) pe_int) (pe_op op_mulW pe_int (pv 1))) pe_int)))
      (pss_cons (ps_set (i := 3) sc_l_pot.nd rfl (Or.inl rfl) (pe_op op_mulW (pe_op op_mod (pe_callTy call_int1 (by rfl) T.n_int (by decide +kernel) (pa_cons (pe_callB call_abs (by rfl) T.n_abs (by decide +kernel) (pa_cons (pv 2) pa_nil)) pa_nil)) (pe_op op_powK (pe_op op_pow pe_int pe_int) pe_int)) (pe_callTy call_int1 (by rfl) T.n_int (by decide +kernel) (pa_cons (pe_cmpR op_ge (pe_callB call_abs (by rfl) T.n_abs (by decide +kernel) (pa_cons (pv 2) pa_nil)) (pe_op op_pow pe_int pe_int) (nomark _)) pa_nil))))
      (pss_cons (ps_set (i := 4) sc_l_pot.nd rfl (Or.inl rfl) (pe_op op_mod (pe_callTy call_int1 (by rfl) T.n_int (by decide +kernel) (pa_cons (pv 2) pa_nil)) pe_int))
      (pss_one (ps_ret (pe_lst (pa_cons (pv 3) (pa_cons (pe_op op_mod (pe_callTy call_int1 (by rfl) T.n_int (by decide +kernel) (pa_cons (pe_op op_add (pe_op op_add (pe_op op_mulW (pv 4) pe_int) (pe_op op_mulW (pe_op op_mulW pe_int (pv 1)) (pv 1))) pe_int) pa_nil)) pe_int) (pa_cons pe_int pa_nil))))))))), ?_⟩
    refine ⟨fun σ H2 => Ex H H2 ∧ ∃ z : Int, σ = [some (.ref q), some (.int place), some (.int z), none, none], ?_, ?_⟩
    · refine ⟨_, rfl, _, rfl, q, _, rfl, .inl hs, _, _, rfl, rfl, _, rfl, ?_⟩
      refine ite2 (fun h => ?_) (fun h => ?_)
      · have h : place < ns.length := by
          have := Int.ofNat_lt.mp (of_decide_eq_true h)
          rwa [List.length_map] at this
        exact ⟨_, rfl, _, rfl, q, _, _, _, rfl, rfl, hs, atN (by rw [List.getElem?_map, List.getElem?_eq_getElem h]; rfl), Ex.refl H, _, rfl⟩
      · refine ⟨_, rfl, _, rfl, q, _, rfl, hs, fun p hpn => ?_⟩
        obtain ⟨ms, hms⟩ : ∃ ms : List Int, cutV (ns.map V.int) none (some 1) = ms.map V.int := by
          unfold cutV
          rw [← List.map_drop, ← List.map_take]
          exact ⟨_, rfl⟩
        rw [hms]
        refine ⟨p, ms, rfl, SqL.of upd_same, _, _, rfl, rfl, (by show (0 : Int) < 1000003; decide), _, rfl, _, _, rfl, rfl, wm (by decide +kernel) (p5000 (k := 64) (by omega)), _, _, rfl, rfl, _, _, rfl, rfl, Ex.new hpn, _, rfl⟩
    · rintro σ H2 ⟨e2, z, rfl⟩
      refine ⟨_, rfl, _, rfl, .inl ⟨_, rfl, _, _, rfl, rfl, ⟨by decide, by decide, by decide⟩, _, _, rfl, rfl, ⟨by decide, by rw [t10]; decide +kernel⟩, _, _, rfl, rfl, (by show (0 : Int) < ((10 : Int) ^ (60 : Int).toNat) ^ (5 : Int).toNat; rw [t300]; decide +kernel), _, rfl, _, rfl, _, _, rfl, rfl, ⟨by decide, by decide, by decide⟩, _, _, rfl, rfl, .inr ⟨_, rfl, _, _, rfl, rfl, ?_, ?_⟩⟩⟩
      · have := own_sz ((if z < 0 then -z else z)) true
        rw [if_pos rfl, Int.mul_one] at this
        exact wm (p5000 this.2) (b_sz _)
      obtain ⟨o1, o2⟩ := own_sz (if z < 0 then -z else z) (decide ((10 : Int) ^ (18 : Int).toNat ≤ if z < 0 then -z else z))
      refine ⟨_, rfl, .inl ⟨_, rfl, _, _, rfl, rfl, (by show (0 : Int) < 2305843009213693951; decide), ?_⟩⟩
      have s1 := Int.emod_nonneg z (show (2305843009213693951 : Int) ≠ 0 by decide)
      have s2 := Int.emod_lt_of_pos z (show (0 : Int) < 2305843009213693951 by decide)
      refine ⟨_, rfl, _, rfl, _, _, rfl, rfl, wm (p5000 (k := 64) (by omega)) (by decide +kernel), _, rfl, _, _, rfl, rfl, wm (by decide +kernel) (p5000 (k := 64) (by omega)), _, rfl, _, _, rfl, rfl, wm (p5000 (k := 64) (by omega)) (p5000 (k := 64) (by omega)), _, _, rfl, rfl, _, _, rfl, rfl, .inl ⟨_, rfl, _, _, rfl, rfl, (by show (0 : Int) < 2305843009213693921; decide), by show 3 ≤ sizeLine; decide, fun p hpn => ?_⟩⟩
      refine k p _ (e2.trans (Ex.new hpn)) (fresh_back e2 hpn) ⟨_, _, _, upd_same, o1, o2, Int.emod_nonneg _ (by decide), Int.lt_trans (Int.emod_lt_of_pos _ (by decide)) (by decide), by decide, by decide⟩
end
end My


set_option Elab.async false
set_option maxRecDepth 100000
set_option maxHeartbeats 2000000
set_option exponentiation.threshold 6000
namespace My
open PySem L2 Evl
def psRow (b L G : Nat) : List Int → Option (Int × List Int)
  | [] => some (0, [])
  | x :: xs => psum b L G x xs []
/-- what plain_sum tells -/
def Tells (H : Hp) (v : V) : Option (Int × List Int) → Prop
  | none => v = .non
  | some p => ∃ q1 q2, v = .ref q1 ∧ H q1 = some (.tup [.int p.1, .ref q2]) ∧ H q2 = some (.tup (iv p.2))
theorem Tells.ex {H H' : Hp} {v : V} {o : Option (Int × List Int)} (h : Tells H v o) (e : Ex H H') : Tells H' v o := by
  cases o with
  | none => exact h
  | some p =>
    obtain ⟨q1, q2, h1, h2, h3⟩ := h
    exact ⟨q1, q2, h1, e _ _ h2, e _ _ h3⟩
/-- what renewed_row tells -/
def Rens (H : Hp) (v : V) (b L G : Nat) (t : Int) : Prop := (t.natAbs ≤ G ∧ ∃ q, v = .ref q ∧ H q = some (.tup (iv (row b L t)))) ∨ (G < t.natAbs ∧ v = .non)
theorem Rens.ex {H H' : Hp} {v : V} {b L G : Nat} {t : Int} (h : Rens H v b L G t) (e : Ex H H') : Rens H' v b L G t := by
  rcases h with ⟨h1, q, h2, h3⟩ | h
  · exact .inl ⟨h1, q, h2, e _ _ h3⟩
  · exact .inr h
def sp_split (a : Ad) : Sp := fun vs H Q _ => ∃ (g : Addr) (b f r L G : Nat) (t : Int), vs = [.ref g, .int t] ∧ GridAt a H g b f r L G ∧ t.natAbs < 2 ^ 4000 ∧
  ((rn b L t).natAbs ≤ G → ∀ q H', Ex H H' → H' q = some (.tup [.int (rn b L t), .int (t - rn b L t)]) → Q (.ref q) H') ∧ (¬ (rn b L t).natAbs ≤ G → ∀ H', Ex H H' → Q .non H')
def sp_check_row (a : Ad) : Sp := fun vs H Q _ => ∃ (g : Addr) (b f r L G : Nat) (t : Addr) (xs : List Int), vs = [.ref g, .ref t] ∧ GridAt a H g b f r L G ∧ H t = some (.tup (iv xs)) ∧ xs.length ≤ 100 ∧ (∀ x ∈ xs, OnG b L G x) ∧ ∀ H', Ex H H' → Q .non H'
def sp_row_worth (a : Ad) : Sp := fun vs H Q _ => ∃ (g : Addr) (b f r L G : Nat) (t : Addr) (xs : List Int), vs = [.ref g, .ref t] ∧ GridAt a H g b f r L G ∧ H t = some (.tup (iv xs)) ∧ xs.length ≤ 100 ∧ (∀ x ∈ xs, OnG b L G x) ∧ ∀ H', Ex H H' → Q (.int xs.sum) H'
def sp_renewed_row (a : Ad) : Sp := fun vs H Q _ => ∃ (g : Addr) (b f r L G : Nat) (t : Addr) (xs : List Int), vs = [.ref g, .ref t] ∧ GridAt a H g b f r L G ∧ H t = some (.tup (iv xs)) ∧ xs.length ≤ 100 ∧ (∀ x ∈ xs, OnG b L G x) ∧ ∀ v H', Ex H H' → Rens H' v b L G xs.sum → Q v H'
def sp_plain_sum (a : Ad) : Sp := fun vs H Q _ => ∃ (g : Addr) (b f r L G : Nat) (t : Addr) (xs : List Int), vs = [.ref g, .ref t] ∧ GridAt a H g b f r L G ∧ H t = some (.tup (iv xs)) ∧ xs.length ≤ 100 ∧ (∀ x ∈ xs, OnG b L G x) ∧ ∀ v H', Ex H H' → Tells H' v (psRow b L G xs) → Q v H'
theorem iv_len (xs : List Int) : (iv xs).length = xs.length := by unfold iv; rw [List.length_map]
theorem iv_get {xs : List Int} {i : Nat} {v : V} (h : (iv xs)[i]? = some v) : ∃ z, xs[i]? = some z ∧ v = .int z := by
  unfold iv at h
  rw [List.getElem?_map] at h
  cases e : xs[i]? with
  | none => rw [e] at h; cases h
  | some n => rw [e] at h; exact ⟨n, rfl, (Option.some.inj h).symm⟩
theorem iv_app (xs ys : List Int) : iv (xs ++ ys) = iv xs ++ iv ys := by unfold iv; rw [List.map_append]
theorem cut1 (xs : List V) : cutV xs (some 1) none = xs.drop 1 := by
  unfold cutV
  have h1 : HT.sIx xs.length 0 (some ((1 : Nat) : Int)) = min 1 xs.length := HT.sIx_nat _ _ _
  have h2 : HT.sIx xs.length 0 (some (1 : Int)) = min 1 xs.length := h1
  have h3 : HT.sIx xs.length xs.length none = xs.length := HT.sIx_none _ _
  rw [h2, h3]
  cases xs with
  | nil => rfl
  | cons x xs =>
    have : min 1 (x :: xs).length = 1 := by rw [List.length_cons]; omega
    rw [this, List.length_cons]
    show (xs).take (xs.length + 1 - 1) = xs
    rw [Nat.add_sub_cancel, List.take_length]
theorem whole1 (xs : List V) : (HT.sIx xs.length 0 (some 1) = 0 ∧ HT.sIx xs.length xs.length none = xs.length) → xs = [] := by
  rintro ⟨h, _⟩
  have h1 : HT.sIx xs.length 0 (some ((1 : Nat) : Int)) = min 1 xs.length := HT.sIx_nat _ _ _
  have h2 : HT.sIx xs.length 0 (some (1 : Int)) = min 1 xs.length := h1
  rw [h2] at h
  cases xs with
  | nil => rfl
  | cons x xs => rw [List.length_cons] at h; omega
theorem addsz {x y : Int} (hx : x.natAbs < 2 ^ 400) (hy : y.natAbs < 2 ^ 400) : (x + y).natAbs < 2 ^ 4000 := by
  have : 2 ^ 400 + 2 ^ 400 < 2 ^ 4000 := by decide +kernel
  omega
section
variable {P : Program} {w : World} {K : PySem.W.Frag} {mg : Str → Option Value} {base : Heap} {a : Ad}
theorem ok_check_row (T : Txt K mg a) : FnOk P w K mg base CX0 6 a.check_row a.check_row_fd ["grid", "row"] (sp_check_row a) := by
  refine T.F_check_row.ok sc_check_row (fun vs H Q E h => ?_) (fun cdv A outer s H vs Q E hr h => ?_)
  · obtain ⟨g, b, f, r, L, G, t, xs, rfl, _⟩ := h
    rfl
  · obtain ⟨g, b, f, r, L, G, t, xs, rfl, hg, ht, hl, hx, k⟩ := h
    refine ⟨_, (pss_one (ps_if (pt_not (pt_val (pe_call (ok_is_row T) (hr.mono (by decide)) rfl T.g_is_row T.k_is_row T.B_is_row .nil pass0 (pa_cons (pv 0) (pa_cons (pv 1) pa_nil))))) (pss_one ps_never) pss_nil)), ?_⟩
    refine ⟨_, rfl, _, rfl, g, b, f, r, L, G, t, xs, rfl, hg, ht, hl, hx, fun H1 e1 => ⟨true, rfl, ?_⟩⟩
    refine ite2 (fun z => absurd z (by simp)) (fun _ => ?_)
    exact k H1 e1
theorem ok_row_worth (T : Txt K mg a) : FnOk P w K mg base CX0 7 a.row_worth a.row_worth_fd ["grid", "row"] (sp_row_worth a) := by
  refine T.F_row_worth.ok sc_row_worth (fun vs H Q E h => ?_) (fun cdv A outer s H vs Q E hr h => ?_)
  · obtain ⟨g, b, f, r, L, G, t, xs, rfl, _⟩ := h
    rfl
  · obtain ⟨g, b, f, r, L, G, t, xs, rfl, hg, ht, hl, hx, k⟩ := h
    refine ⟨_, (pss_cons (ps_expr (pe_call (ok_check_row T) (hr.mono (by decide)) rfl T.g_check_row T.k_check_row T.B_check_row .nil pass0 (pa_cons (pv 0) (pa_cons (pv 1) pa_nil))))
      (pss_one (ps_ret (pe_callB (cr_sumT rfl) (by rfl) T.n_sum (by decide +kernel) (pa_cons (pv 1) pa_nil))))), ?_⟩
    refine ⟨_, rfl, _, rfl, g, b, f, r, L, G, t, xs, rfl, hg, ht, hl, hx, fun H1 e1 => ?_⟩
    exact ⟨_, rfl, t, xs, rfl, SqT.of (e1 _ _ ht), k H1 e1⟩
theorem ok_renewed_row (T : Txt K mg a) : FnOk P w K mg base CX0 8 a.renewed_row a.renewed_row_fd ["grid", "row"] (sp_renewed_row a) := by
  refine T.F_renewed_row.ok sc_renewed_row (fun vs H Q E h => ?_) (fun cdv A outer s H vs Q E hr h => ?_)
  · obtain ⟨g, b, f, r, L, G, t, xs, rfl, _⟩ := h
    rfl
  · obtain ⟨g, b, f, r, L, G, t, xs, rfl, hg, ht, hl, hx, k⟩ := h
    refine ⟨_, (pss_cons (ps_set (i := 2) sc_renewed_row.nd rfl (Or.inl rfl) (pe_call (ok_row_worth T) (hr.mono (by decide)) rfl T.g_row_worth T.k_row_worth T.B_row_worth .nil pass0 (pa_cons (pv 0) (pa_cons (pv 1) pa_nil))))
      (pss_one (ps_ret (pe_ifExp (pt_cmpR op_le (pe_callB call_abs (by rfl) T.n_abs (by decide +kernel) (pa_cons (pv 2) pa_nil)) (pe_fld (pv 0) rfl) (nomark _)) (pe_call (ok_rounded_parts T) (hr.mono (by decide)) rfl T.g_rounded_parts T.k_rounded_parts T.B_rounded_parts .nil pass0 (pa_cons (pv 0) (pa_cons (pv 2) pa_nil))) pe_non)))), ?_⟩
    refine ⟨_, rfl, _, rfl, g, b, f, r, L, G, t, xs, rfl, hg, ht, hl, hx, fun H1 e1 => ?_⟩
    obtain ⟨dx, lim, tops, p, u, ys, zs, o1, o2, o3, o4, o5⟩ := (hg.mono e1).ob
    refine ⟨_, rfl, _, rfl, _, rfl, g, _, dx, _, _, rfl, o1, T.cl_Grid, T.f_Grid_greatest, gfl_greatest, _, _, rfl, rfl, _, rfl, ?_⟩
    rw [absI]
    refine ite2 (fun h => ?_) (fun h => ?_)
    · have h := Int.ofNat_le.mp (of_decide_eq_true h)
      exact ⟨_, rfl, _, rfl, g, b, f, r, L, G, xs.sum, rfl, hg.mono e1, h, fun q H2 e2 h2 => k _ H2 (e1.trans e2) (.inl ⟨h, q, rfl, h2⟩)⟩
    · have h : ¬ xs.sum.natAbs ≤ G := fun z => h (decide_eq_true (Int.ofNat_le.mpr z))
      exact k _ H1 e1 (.inr ⟨by omega, rfl⟩)
end
end My


set_option Elab.async false
set_option maxRecDepth 100000
set_option maxHeartbeats 2000000
set_option exponentiation.threshold 6000
namespace My
open PySem L2 Evl
def sp_drawn : Sp := fun vs H Q _ => ∃ (p : Addr) (n : Nat), vs = [.ref p] ∧ PotAt H p n ∧ n + 10 ≤ 100000 ∧
  ∀ (t : Addr) (b f r pl : Nat) H', Kp p H H' → PotAt H' p (n + 4) → H' t = some (.tup [.int b, .int f, .int r, .int pl]) → okg b f r → pl ≤ 30 → Q (.ref t) H'
def sp_a_row : Sp := fun vs H Q _ => ∃ (p t : Addr) (n b f r pl : Nat) (fl : Bool), vs = [.ref p, .ref t, .bl fl] ∧ PotAt H p n ∧ n + 60 ≤ 100000 ∧ H t = some (.tup [.int b, .int f, .int r, .int pl]) ∧ okg b f r ∧
  ∀ (q : Addr) (xs : List Int) H', Kp p H H' → PotAt H' p (n + 40) → H' q = some (.tup (iv xs)) → xs.length ≤ 100 → (∀ x ∈ xs, OnG b (b ^ f) (gG b f r) x) → Q (.ref q) H'
def sp_gone (K : PySem.W.Frag) : Sp := fun vs H Q _ => ∃ (t rw : Addr) (b f r pl : Nat) (xs : List Int), vs = [.ref t, .ref rw] ∧ TG K H t b f r pl ∧ okg b f r ∧ H rw = some (.tup (iv xs)) ∧ xs.length ≤ 100 ∧ (∀ x ∈ xs, OnG b (b ^ f) (gG b f r) x) ∧
  ∀ v H', Ex H H' → Tells H' v (psRow b (b ^ f) (gG b f r) xs) → Q v H'
def sp_own (K : PySem.W.Frag) : Sp := fun vs H Q _ => ∃ (t : Addr) (b f r pl : Nat) (w : Int), vs = [.ref t, .int w] ∧ TG K H t b f r pl ∧ okg b f r ∧ w.natAbs ≤ gG b f r ∧ ∀ q H', Ex H H' → H' q = some (.tup (iv (row b (b ^ f) w))) → Q (.ref q) H'
theorem Kp.new {p D : Addr} {H H1 : Hp} {o : HO} (h : Kp p H H1) (hD : H D = none) : Kp p H (upd H1 D o) := fun c u hc hn => by
  rw [upd_ne (ne_of_none hc hD)]
  exact h c u hc hn
theorem PotAt.upd {H : Hp} {p q : Addr} {n : Nat} {o : HO} (h : PotAt H p n) (hn : q ≠ p) : PotAt (L2.upd H q o) p n := by
  obtain ⟨x, y, c, h1, h2⟩ := h
  exact ⟨x, y, c, by rw [upd_ne hn.symm]; exact h1, h2⟩
theorem dp_ints {K : PySem.W.Frag} {H : Hp} : ∀ xs : List Int, DpAll K H (iv xs) (xs.map PyData.int)
  | [] => .nil
  | x :: xs => .cons (.int x) (dp_ints xs)
theorem lay_ints : ∀ xs : List Int, PyData.canLayAll0 (xs.map PyData.int) = true
  | [] => rfl
  | x :: xs => by
    show (PyData.canLay0 (.int x) && PyData.canLayAll0 (xs.map PyData.int)) = true
    rw [lay_ints xs]; rfl
theorem dep_ints : ∀ xs : List Int, PyData.depthAll (xs.map PyData.int) = 0
  | [] => rfl
  | x :: xs => by
    show max (PyData.depth (.int x)) (PyData.depthAll (xs.map PyData.int)) = 0
    rw [dep_ints xs]; rfl
theorem sh_ints (xs : List Int) : SeqAt.shaped (.tuple (xs.map PyData.int)) = true := by
  unfold SeqAt.shaped
  have h1 : (PyData.tuple (xs.map PyData.int)).canLay0 = true := lay_ints xs
  have h2 : (PyData.tuple (xs.map PyData.int)).depth = 1 := by
    show PyData.depthAll (xs.map PyData.int) + 1 = 1
    rw [dep_ints]
  rw [h1, h2]; rfl
theorem sh_intsL (xs : List Int) : SeqAt.shaped (.list (xs.map PyData.int)) = true := by
  unfold SeqAt.shaped
  have h1 : (PyData.list (xs.map PyData.int)).canLay0 = true := lay_ints xs
  have h2 : (PyData.list (xs.map PyData.int)).depth = 1 := by
    show PyData.depthAll (xs.map PyData.int) + 1 = 1
    rw [dep_ints]
  rw [h1, h2]; rfl
theorem eqv_nil (xs : List Int) : PyData.eqv (.tuple (xs.map PyData.int)) (.tuple []) = xs.isEmpty := by
  cases xs with
  | nil => rfl
  | cons x xs => rfl
theorem eqv_nilL (xs : List Int) : PyData.eqv (.list (xs.map PyData.int)) (.list []) = xs.isEmpty := by
  cases xs with
  | nil => rfl
  | cons x xs => rfl
theorem cut100 (xs : List Int) : ∃ ms : List Int, cutV (List.replicate (100 : Int).toNat (iv xs)).flatten none (some 100) = iv ms ∧ (∀ m ∈ ms, m ∈ xs) ∧ ms.length ≤ 100 := by
  have e : (List.replicate (100 : Int).toNat (iv xs)).flatten = iv (List.replicate (100 : Int).toNat xs).flatten := by
    unfold iv
    rw [List.map_flatten, List.map_replicate]
  rw [e]
  unfold cutV iv
  rw [← List.map_drop, ← List.map_take]
  refine ⟨_, rfl, fun m hm => ?_, ?_⟩
  · have := List.mem_of_mem_drop (List.mem_of_mem_take hm)
    obtain ⟨l, hl, hml⟩ := List.mem_flatten.mp this
    rw [(List.mem_replicate.mp hl).2] at hml
    exact hml
  · rw [List.length_take]
    generalize (List.replicate (100 : Int).toNat xs).flatten = ys
    have h1 : HT.sIx (ys.map V.int).length (ys.map V.int).length (some ((100 : Nat) : Int)) = min 100 (ys.map V.int).length := HT.sIx_nat _ _ _
    have h2 : HT.sIx (ys.map V.int).length (ys.map V.int).length (some (100 : Int)) = min 100 (ys.map V.int).length := h1
    rw [h2]
    omega
section
variable {P : Program} {w : World} {K : PySem.W.Frag} {mg : Str → Option Value} {base : Heap} {a : Ad}
end
end My


set_option Elab.async false
set_option maxRecDepth 100000
set_option maxHeartbeats 2000000
set_option exponentiation.threshold 6000
namespace My
open PySem L2 Evl
/-! ### values of any kind -/
inductive NotInt (H : Hp) : V → Prop
  | non : NotInt H .non
  | bl (b : Bool) : NotInt H (.bl b)
  | str (s : Str) : NotInt H (.str s)
  | tup {a : Addr} {xs : List V} (h : H a = some (.tup xs)) : NotInt H (.ref a)
  | lst {a : Addr} {xs : List V} (h : H a = some (.lst xs)) : NotInt H (.ref a)
  | dK {a : Addr} {kvs : List (Key × V)} (h : H a = some (.dK kvs)) : NotInt H (.ref a)
inductive NotTup (H : Hp) : V → Prop
  | non : NotTup H .non
  | bl (b : Bool) : NotTup H (.bl b)
  | int (i : Int) : NotTup H (.int i)
  | str (s : Str) : NotTup H (.str s)
  | lst {a : Addr} {xs : List V} (h : H a = some (.lst xs)) : NotTup H (.ref a)
  | dK {a : Addr} {kvs : List (Key × V)} (h : H a = some (.dK kvs)) : NotTup H (.ref a)
theorem NotInt.ex {H H' : Hp} {v : V} (h : NotInt H v) (e : Ex H H') : NotInt H' v := by
  cases h with
  | non => exact .non
  | bl b => exact .bl b
  | str s => exact .str s
  | tup h => exact .tup (e _ _ h)
  | lst h => exact .lst (e _ _ h)
  | dK h => exact .dK (e _ _ h)
theorem NotTup.ex {H H' : Hp} {v : V} (h : NotTup H v) (e : Ex H H') : NotTup H' v := by
  cases h with
  | non => exact .non
  | bl b => exact .bl b
  | int i => exact .int i
  | str s => exact .str s
  | lst h => exact .lst (e _ _ h)
  | dK h => exact .dK (e _ _ h)
def Part (H : Hp) (v : V) : Prop := (∃ i, v = .int i) ∨ NotInt H v
theorem Part.ex {H H' : Hp} {v : V} (h : Part H v) (e : Ex H H') : Part H' v := h.imp id fun z => z.ex e
def onB (b L G : Nat) : V → Bool
  | .int n => decide (n.natAbs ≤ G) && decide (n % (spc b L n.natAbs : Int) = 0)
  | _ => false
def iOf : V → Int
  | .int i => i
  | _ => 0
def vIs (b L G : Nat) (H : Hp) (v : V) (c : Bool) : Prop := (NotTup H v ∧ c = false) ∨ ∃ (a : Addr) (xs : List V), v = .ref a ∧ H a = some (.tup xs) ∧ xs.length ≤ 100 ∧ (∀ y ∈ xs, Part H y) ∧ c = xs.all (onB b L G)
theorem vIs.ex {b L G : Nat} {H H' : Hp} {v : V} {c : Bool} (h : vIs b L G H v c) (e : Ex H H') : vIs b L G H' v c := by
  rcases h with ⟨h, hc⟩ | ⟨a, xs, h1, h2, h3, h4, h5⟩
  · exact .inl ⟨h.ex e, hc⟩
  · exact .inr ⟨a, xs, h1, e _ _ h2, h3, fun y hy => (h4 y hy).ex e, h5⟩
theorem onB_iff {b L G : Nat} {n : Int} : onB b L G (.int n) = true ↔ OnG b L G n := by
  unfold onB OnG
  rw [Bool.and_eq_true, decide_eq_true_eq, decide_eq_true_eq]
theorem all_on {b L G : Nat} : ∀ {xs : List V}, xs.all (onB b L G) = true → xs = iv (xs.map iOf) ∧ ∀ x ∈ xs.map iOf, OnG b L G x
  | [], _ => ⟨rfl, fun x hx => by cases hx⟩
  | v :: xs, h => by
    rw [List.all_cons, Bool.and_eq_true] at h
    obtain ⟨e, ho⟩ := all_on h.2
    cases v with
    | int n =>
      refine ⟨?_, fun x hx => ?_⟩
      · show V.int n :: xs = V.int n :: iv (xs.map iOf)
        rw [← e]
      · rcases List.mem_cons.mp hx with rfl | hx
        · exact onB_iff.mp h.1
        · exact ho x hx
    | _ => exact absurd h.1 (by simp [onB])
def shB (b L G : Nat) (t : Int) (n : Nat) (xs : List V) : Bool := xs.all (onB b L G) && (decide ((xs.map iOf).sum = t) && decide (xs.length = n))
def sIs (b L G : Nat) (t : Int) (n : Nat) (H : Hp) (v : V) (c : Bool) : Prop := (NotTup H v ∧ c = false) ∨ ∃ (a : Addr) (xs : List V), v = .ref a ∧ H a = some (.tup xs) ∧ xs.length ≤ 100 ∧ (∀ y ∈ xs, Part H y) ∧ c = shB b L G t n xs
def sp_whole_any : Sp := fun vs H Q _ => ∃ v : V, vs = [v] ∧ ((∃ i, v = .int i) ∧ (∀ H', Ex H H' → Q (.bl true) H') ∨ NotInt H v ∧ ∀ H', Ex H H' → Q (.bl false) H')
def sp_contains_any (a : Ad) : Sp := fun vs H Q _ => ∃ (g : Addr) (b f r L G : Nat) (v : V), vs = [.ref g, v] ∧ GridAt a H g b f r L G ∧ Part H v ∧ ∀ H', Ex H H' → Q (.bl (onB b L G v)) H'
def sp_nums_any (a : Ad) : Sp := fun vs H Q _ => ∃ (g : Addr) (b f r L G : Nat) (v : V) (c : Bool), vs = [.ref g, v] ∧ GridAt a H g b f r L G ∧ vIs b L G H v c ∧ ∀ H', Ex H H' → Q (.bl c) H'
def sp_shows_any (a : Ad) : Sp := fun vs H Q _ => ∃ (g : Addr) (b f r L G : Nat) (t : Int) (v : V) (c : Bool), vs = [.ref g, .int t, v] ∧ GridAt a H g b f r L G ∧ t.natAbs ≤ G ∧ sIs b L G t (row b L t).length H v c ∧ ∀ H', Ex H H' → Q (.bl c) H'
section
variable {P : Program} {w : World} {K : PySem.W.Frag} {mg : Str → Option Value} {base : Heap} {a : Ad}
theorem ok_is_whole_any (T : Txt K mg a) : FnOk P w K mg base CX0 1 a.is_whole a.is_whole_fd ["value"] sp_whole_any := by
  refine T.F_is_whole.ok sc_is_whole (fun vs H Q E h => ?_) (fun cdv A outer s H vs Q E hr h => ?_)
  · obtain ⟨v, rfl, _⟩ := h
    rfl
  · obtain ⟨v, rfl, h⟩ := h
    refine ⟨_, (pss_one (ps_ret (pe_and (pe_callB call_isi (by rfl) T.n_isinstance (by decide +kernel) (pa_cons (pv 0) (pa_cons (pe_bltn (v := .ty "int") (u := .type "int") rfl T.n_int (by decide +kernel) rfl) pa_nil))) (pe_one (pe_not (pe_callB call_isi (by rfl) T.n_isinstance (by decide +kernel) (pa_cons (pv 0) (pa_cons (pe_bltn (v := .ty "bool") (u := .type "bool") rfl T.n_bool (by decide +kernel) rfl) pa_nil)))))))), ?_⟩
    rcases h with ⟨⟨n, rfl⟩, k⟩ | ⟨hn, k⟩
    · refine ⟨_, rfl, _, _, _, _, true, rfl, .ty _, .base (.int n), kit_ty (by decide +kernel), true, rfl, iteT ?_⟩
      refine ⟨_, rfl, _, _, _, _, false, rfl, .ty _, .base (.int n), kit_ty (by decide +kernel), false, rfl, ?_⟩
      exact k H (Ex.refl H)
    · cases hn with
      | non => exact ⟨_, rfl, _, _, _, _, false, rfl, .ty _, .base .non, kit_ty (by decide +kernel), false, rfl, ite2 (fun h => absurd h (by decide)) fun _ => k H (Ex.refl H)⟩
      | bl b =>
        refine ⟨_, rfl, _, _, _, _, true, rfl, .ty _, .base (.bl b), kit_ty (by decide +kernel), true, rfl, iteT ?_⟩
        refine ⟨_, rfl, _, _, _, _, true, rfl, .ty _, .base (.bl b), kit_ty (by decide +kernel), true, rfl, ?_⟩
        exact k H (Ex.refl H)
      | str s => exact ⟨_, rfl, _, _, _, _, false, rfl, .ty _, .base (.str s), kit_ty (by decide +kernel), false, rfl, ite2 (fun h => absurd h (by decide)) fun _ => k H (Ex.refl H)⟩
      | tup h => exact ⟨_, rfl, _, _, _, _, false, rfl, .ty _, .base (.tup h), kit_ty (by decide +kernel), false, rfl, ite2 (fun h => absurd h (by decide)) fun _ => k H (Ex.refl H)⟩
      | lst h => exact ⟨_, rfl, _, _, _, _, false, rfl, .ty _, .base (.lst h), kit_ty (by decide +kernel), false, rfl, ite2 (fun h => absurd h (by decide)) fun _ => k H (Ex.refl H)⟩
      | dK h => exact ⟨_, rfl, _, _, _, _, false, rfl, .ty _, .base (.dK h), kit_ty (by decide +kernel), false, rfl, ite2 (fun h => absurd h (by decide)) fun _ => k H (Ex.refl H)⟩
theorem ok_contains_any (T : Txt K mg a) : FnOk P w K mg base CX0 2 a.Grid_contains a.Grid_contains_fd ["self", "value"] (sp_contains_any a) := by
  refine T.F_Grid_contains.ok sc_Grid_contains (fun vs H Q E h => ?_) (fun cdv A outer s H vs Q E hr h => ?_)
  · obtain ⟨g, b, f, r, L, G, v, rfl, _⟩ := h
    rfl
  · obtain ⟨g, b, f, r, L, G, v, rfl, hg, hv, k⟩ := h
    refine ⟨_, (pss_cons (ps_if (PW.pt (pw_or (pt_not (pt_val (pe_call (ok_is_whole_any T) (hr.mono (by decide)) rfl T.g_is_whole T.k_is_whole T.B_is_whole .nil pass0 (pa_cons (pv 1) pa_nil)))) (pw_or1 (pt_cmpR op_gt (pe_callB call_abs (by rfl) T.n_abs (by decide +kernel) (pa_cons (pv 1) pa_nil)) (pe_fld (pv 0) rfl) (nomark _))))) (pss_one (ps_ret pe_bl)) pss_nil)
      (pss_one (ps_ret (pe_cmpR op_eq (pe_op op_mod (pv 1) (pe_call (ok_spacing_at T) (hr.mono (by decide)) rfl T.g_spacing_at T.k_spacing_at T.B_spacing_at .nil pass0 (pa_cons (pv 0) (pa_cons (pe_callB call_abs (by rfl) T.n_abs (by decide +kernel) (pa_cons (pv 1) pa_nil)) (pa_cons pe_int pa_nil))))) pe_int (nomark _))))), ?_⟩
    have hb := hg.gr.hb
    have hL := hg.gr.L1
    obtain ⟨dx, lim, tops, p, u, xs, ys, o1, o2, o3, o4, o5⟩ := hg.ob
    rcases hv with ⟨n, rfl⟩ | hv
    · have hs := spcI_pos (L := L) hb n.natAbs
      refine ⟨_, rfl, _, rfl, .inl ⟨⟨n, rfl⟩, fun H1 e1 => ⟨true, rfl, ?_⟩⟩⟩
      refine ite2 (fun h => absurd h (by simp)) (fun _ => ?_)
      refine ⟨_, rfl, _, rfl, _, rfl, g, _, dx, _, _, rfl, e1 _ _ o1, T.cl_Grid, T.f_Grid_greatest, gfl_greatest, _, _, rfl, rfl, _, rfl, ?_⟩
      rw [absI]
      refine ite2 (fun h => ?_) (fun h => ?_)
      · have h := of_decide_eq_true h
        have e : onB b L G (.int n) = false := by
          show (decide (n.natAbs ≤ G) && decide (n % (spc b L n.natAbs : Int) = 0)) = false
          rw [decide_eq_false (by omega), Bool.false_and]
        have q := k H1 e1
        rw [e] at q
        exact q
      have hn : n.natAbs ≤ G := by
        have : ¬ (G : Int) < (n.natAbs : Int) := fun z => h (decide_eq_true z)
        omega
      refine ⟨_, rfl, _, rfl, _, rfl, _, rfl, g, b, f, r, L, G, n.natAbs, 0, by rw [absI]; rfl, hg.mono e1, by decide, Nat.lt_of_le_of_lt hn (Nat.lt_trans hg.bG (by decide +kernel)), fun H2 e2 => ?_⟩
      rw [G1 hg.gr]
      refine ⟨_, _, rfl, rfl, hs, rfl, ?_⟩
      have q := k H2 (e1.trans e2)
      have e : onB b L G (.int n) = decide (V.int (n % (spc b L n.natAbs : Int)) = V.int 0) := by
        show (decide (n.natAbs ≤ G) && decide (n % (spc b L n.natAbs : Int) = 0)) = _
        rw [decide_eq_true hn, Bool.true_and]
        simp
      rw [e] at q
      exact q
    · have e : onB b L G v = false := by cases hv <;> rfl
      refine ⟨_, rfl, v, rfl, .inr ⟨hv, fun H1 e1 => ⟨false, rfl, ?_⟩⟩⟩
      refine ite2 (fun _ => ?_) (fun h => absurd (by rfl) h)
      have q := k H1 e1
      rw [e] at q
      exact q
theorem ok_is_numbers_any (T : Txt K mg a) : FnOk P w K mg base CX0 4 a.is_numbers a.is_numbers_fd ["grid", "value"] (sp_nums_any a) := by
  refine T.F_is_numbers.ok sc_is_numbers (fun vs H Q E h => ?_) (fun cdv A outer s H vs Q E hr h => ?_)
  · obtain ⟨g, b, f, r, L, G, v, c, rfl, _⟩ := h
    rfl
  · obtain ⟨g, b, f, r, L, G, v, c, rfl, hg, hv, k⟩ := h
    refine ⟨_, (pss_one (ps_ret (pe_and (pe_callB call_isi (by rfl) T.n_isinstance (by decide +kernel) (pa_cons (pv 1) (pa_cons (pe_bltn (v := .ty "tuple") (u := .type "tuple") rfl T.n_tuple (by decide +kernel) rfl) pa_nil))) (pe_one (pe_callB (cr_all rfl) (by rfl) T.n_all (by decide +kernel) (pa_cons (pe_lc (own := [("part", 2)]) (g := gName 2) (by rfl) sc_is_numbers.nd (pi_tup (pv 1)) (blkOk_by (own := [("part", 2)]) (N := N_is_numbers) (sc := defScope s_is_numbers) (by decide +kernel)) (fun _ _ _ _ _ => pg_name (i := 2) sc_is_numbers.nd rfl (Or.inl rfl)) (fun _ _ _ _ _ => pts_nil) (fun _ _ _ _ _ => (pe_cmpR (op_inOwn (ok_contains_any T) (hr.mono (by decide)) T.cl_Grid T.m_Grid_contains T.B_Grid_contains pass0) (pv 2) (pv 0) (by rfl)))) pa_nil)))))), ?_⟩
    have kf : ∀ H', Ex H H' → c = false → Q (.bl false) H' := fun H' e z => by have q := k H' e; rw [z] at q; exact q
    rcases hv with ⟨hv, hc⟩ | ⟨t, xs, rfl, ht, hl, hp, rfl⟩
    · cases hv with
      | non => exact ⟨_, rfl, _, _, _, _, false, rfl, .ty _, .base .non, kit_ty (by decide +kernel), false, rfl, ite2 (fun h => absurd h (by decide)) fun _ => kf H (Ex.refl H) hc⟩
      | bl b => exact ⟨_, rfl, _, _, _, _, false, rfl, .ty _, .base (.bl b), kit_ty (by decide +kernel), false, rfl, ite2 (fun h => absurd h (by decide)) fun _ => kf H (Ex.refl H) hc⟩
      | int i => exact ⟨_, rfl, _, _, _, _, false, rfl, .ty _, .base (.int i), kit_ty (by decide +kernel), false, rfl, ite2 (fun h => absurd h (by decide)) fun _ => kf H (Ex.refl H) hc⟩
      | str s => exact ⟨_, rfl, _, _, _, _, false, rfl, .ty _, .base (.str s), kit_ty (by decide +kernel), false, rfl, ite2 (fun h => absurd h (by decide)) fun _ => kf H (Ex.refl H) hc⟩
      | lst h => exact ⟨_, rfl, _, _, _, _, false, rfl, .ty _, .base (.lst h), kit_ty (by decide +kernel), false, rfl, ite2 (fun h => absurd h (by decide)) fun _ => kf H (Ex.refl H) hc⟩
      | dK h => exact ⟨_, rfl, _, _, _, _, false, rfl, .ty _, .base (.dK h), kit_ty (by decide +kernel), false, rfl, ite2 (fun h => absurd h (by decide)) fun _ => kf H (Ex.refl H) hc⟩
    · refine ⟨_, rfl, _, _, _, _, true, rfl, .ty _, .base (.tup ht), kit_ty (by decide +kernel), true, rfl, iteT ?_⟩
      refine ⟨_, rfl, t, rfl, ⟨_, SqT.of ht⟩, fun D hD => lc_tup (K := K) (a := t) (xs := xs) (fun i H' => Ex H H' ∧ H' D = some (.lst (((xs.take i).map (onB b L G)).map V.bl))) ⟨Ex.new hD, upd_same⟩ (fun i H' _ q => SqT.of (q.1 _ _ ht)) ?_ ?_⟩
      · rintro i x H' hi ⟨e1, h1⟩
        have hx := hp x (List.mem_of_getElem? hi)
        have hi' := (List.getElem?_eq_some_iff.mp hi).1
        obtain ⟨dx, lim, tops, p, u, ys, zs, o1, o2, o3, o4, o5⟩ := (hg.mono e1).ob
        refine ⟨rfl, ?_⟩
        dsimp only [tYes]
        refine iteT ?_
        refine ⟨_, rfl, _, rfl, g, dx, _, rfl, o1, g, b, f, r, L, G, x, rfl, hg.mono e1, hx.ex e1, fun H3 e3 => ⟨_, rfl, _, e3 _ _ h1, small1000 (by rw [List.length_map, List.length_map, List.length_take]; omega), Ex.mut (e1.trans e3) hD, ?_⟩⟩
        rw [upd_same, List.take_add_one, hi, List.map_append, List.map_append]
        rfl
      · rintro H' ⟨e1, h1⟩
        rw [List.take_length] at h1
        refine ⟨D, xs.map (onB b L G), rfl, SqL.of h1, ?_⟩
        have e : (xs.map (onB b L G)).all id = xs.all (onB b L G) := by rw [List.all_map]; rfl
        rw [e]
        exact k H' e1
theorem ok_is_row_any (T : Txt K mg a) : FnOk P w K mg base CX0 5 a.is_row a.is_row_fd ["grid", "value"] (sp_nums_any a) := by
  refine T.F_is_row.ok sc_is_row (fun vs H Q E h => ?_) (fun cdv A outer s H vs Q E hr h => ?_)
  · obtain ⟨g, b, f, r, L, G, v, c, rfl, _⟩ := h
    rfl
  · obtain ⟨g, b, f, r, L, G, v, c, rfl, hg, hv, k⟩ := h
    refine ⟨_, (pss_one (ps_ret (pe_and (pe_call (ok_is_numbers_any T) (hr.mono (by decide)) rfl T.g_is_numbers T.k_is_numbers T.B_is_numbers .nil pass0 (pa_cons (pv 0) (pa_cons (pv 1) pa_nil))) (pe_one (pe_cmpR op_le (pe_callB call_len_seq (by rfl) T.n_len (by decide +kernel) (pa_cons (pv 1) pa_nil)) (pe_glob (v := .int 100) rfl T.c_LONGEST_ROW.choose_spec ⟨_, rfl⟩) (nomark _)))))), ?_⟩
    refine ⟨_, rfl, _, rfl, g, b, f, r, L, G, v, c, rfl, hg, hv, fun H1 e1 => ⟨c, rfl, ?_⟩⟩
    refine ite2 (fun hc => ?_) (fun hc => ?_)
    · rcases hv with ⟨_, z⟩ | ⟨t, xs, rfl, ht, hl, hp, _⟩
      · rw [z] at hc; cases hc
      refine ⟨_, rfl, t, _, rfl, .inr (SqT.of (e1 _ _ ht)), _, _, rfl, rfl, ?_⟩
      show Q (V.bl (decide ((xs.length : Int) ≤ 100))) H1
      rw [decide_eq_true (by omega)]
      have q := k H1 e1
      rw [hc] at q
      exact q
    · have q := k H1 e1
      have : c = false := by cases c; rfl; exact absurd rfl hc
      rw [this] at q
      exact q
theorem ok_shows_any (T : Txt K mg a) : FnOk P w K mg base CX0 6 a.shows_shortest a.shows_shortest_fd ["grid", "worth", "value"] (sp_shows_any a) := by
  refine T.F_shows_shortest.ok sc_shows_shortest (fun vs H Q E h => ?_) (fun cdv A outer s H vs Q E hr h => ?_)
  · obtain ⟨g, b, f, r, L, G, t, v, c, rfl, _⟩ := h
    rfl
  · obtain ⟨g, b, f, r, L, G, t, v, c, rfl, hg, htG, hv, k⟩ := h
    refine ⟨_, (pss_cons (ps_expr (pe_call (ok_check_reached T) (hr.mono (by decide)) rfl T.g_check_reached T.k_check_reached T.B_check_reached .nil pass0 (pa_cons (pv 0) (pa_cons (pv 1) pa_nil))))
      (pss_one (ps_ret (pe_and (pe_call (ok_is_row_any T) (hr.mono (by decide)) rfl T.g_is_row T.k_is_row T.B_is_row .nil pass0 (pa_cons (pv 0) (pa_cons (pv 2) pa_nil))) (pe_and (pe_cmpR op_eq (pe_callB (cr_sumT rfl) (by rfl) T.n_sum (by decide +kernel) (pa_cons (pv 2) pa_nil)) (pv 1) (nomark _)) (pe_one (pe_cmpR op_eq (pe_callB call_len_seq (by rfl) T.n_len (by decide +kernel) (pa_cons (pv 2) pa_nil)) (pe_callB call_len_seq (by rfl) T.n_len (by decide +kernel) (pa_cons (pe_call (ok_rounded_parts T) (hr.mono (by decide)) rfl T.g_rounded_parts T.k_rounded_parts T.B_rounded_parts .nil pass0 (pa_cons (pv 0) (pa_cons (pv 1) pa_nil))) pa_nil)) (nomark _)))))))), ?_⟩
    refine ⟨_, rfl, _, rfl, g, b, f, r, L, G, t, rfl, hg, htG, fun H1 e1 => ?_⟩
    rcases hv with ⟨hv, rfl⟩ | ⟨q, xs, rfl, hq, hl, hp, rfl⟩
    · refine ⟨_, rfl, _, rfl, g, b, f, r, L, G, v, false, rfl, hg.mono e1, .inl ⟨hv.ex e1, rfl⟩, fun H2 e2 => ⟨false, rfl, ?_⟩⟩
      exact ite2 (fun h => absurd h (by decide)) (fun _ => k H2 (e1.trans e2))
    · refine ⟨_, rfl, _, rfl, g, b, f, r, L, G, .ref q, xs.all (onB b L G), rfl, hg.mono e1, .inr ⟨q, xs, rfl, e1 _ _ hq, hl, fun y hy => (hp y hy).ex e1, rfl⟩, fun H2 e2 => ⟨_, rfl, ?_⟩⟩
      have kk := fun H' (e : Ex H H') => k H' e
      unfold shB at kk
      refine ite2 (fun hc => ?_) (fun hc => ?_)
      · rw [hc, Bool.true_and] at kk
        obtain ⟨e, hon⟩ := all_on hc
        have hq2 := e2 _ _ (e1 _ _ hq)
        have hq3 : H2 q = some (.tup (iv (xs.map iOf))) := by rw [← e]; exact hq2
        refine ⟨_, rfl, q, xs.map iOf, rfl, SqT.of hq3, _, rfl, rfl, ?_⟩
        have ev : decide (V.int (xs.map iOf).sum = V.int t) = decide ((xs.map iOf).sum = t) := by simp
        refine ⟨_, rfl, ?_⟩
        rw [ev]
        refine ite2 (fun h1 => ?_) (fun h1 => ?_)
        · rw [h1, Bool.true_and] at kk
          refine ⟨_, rfl, q, _, rfl, .inr (SqT.of hq2), _, rfl, _, rfl, g, b, f, r, L, G, t, rfl, (hg.mono e1).mono e2, htG, fun q3 H3 e3 h3 => ?_⟩
          refine ⟨q3, _, rfl, .inr (SqT.of h3), rfl, ?_⟩
          have el : decide (V.int ((xs.length : Nat) : Int) = V.int (((iv (row b L t)).length : Nat) : Int)) = decide (xs.length = (row b L t).length) := by
            rw [iv_len, Bool.eq_iff_iff, decide_eq_true_eq, decide_eq_true_eq]
            constructor
            · intro z
              injection z with z
              omega
            · intro z
              rw [z]
          show Q (V.bl (decide (V.int ((xs.length : Nat) : Int) = V.int (((iv (row b L t)).length : Nat) : Int)))) H3
          rw [el]
          exact kk H3 ((e1.trans e2).trans e3)
        · have z : decide ((xs.map iOf).sum = t) = false := by cases h : decide ((xs.map iOf).sum = t); rfl; exact absurd h h1
          have q9 := kk H2 (e1.trans e2)
          rw [z, Bool.false_and] at q9
          exact q9
      · have z : xs.all (onB b L G) = false := by cases h : xs.all (onB b L G); rfl; exact absurd h hc
        have q9 := kk H2 (e1.trans e2)
        rw [z, Bool.false_and] at q9
        exact q9
end
end My


set_option Elab.async false
set_option maxRecDepth 100000
set_option maxHeartbeats 2000000
set_option exponentiation.threshold 6000
namespace My
open PySem L2 Evl
def inR (lo hi : Int) : V → Bool
  | .int n => decide (lo ≤ n) && decide (n ≤ hi)
  | _ => false
theorem all_in {lo hi : Int} : ∀ {xs : List V}, xs.all (inR lo hi) = true → xs = iv (xs.map iOf) ∧ ∀ x ∈ xs.map iOf, lo ≤ x ∧ x ≤ hi
  | [], _ => ⟨rfl, fun x hx => by cases hx⟩
  | v :: xs, h => by
    rw [List.all_cons, Bool.and_eq_true] at h
    obtain ⟨e, ho⟩ := all_in h.2
    cases v with
    | int n =>
      have h1 : lo ≤ n ∧ n ≤ hi := by
        have := h.1
        unfold inR at this
        simpa using this
      refine ⟨?_, fun x hx => ?_⟩
      · show V.int n :: xs = V.int n :: iv (xs.map iOf)
        rw [← e]
      · rcases List.mem_cons.mp hx with rfl | hx
        · exact h1
        · exact ho x hx
    | _ => exact absurd h.1 (by simp [inR])
theorem on_in {b L G : Nat} (hG : G ≤ 10 ^ 9) {xs : List V} (h : xs.all (onB b L G) = true) : xs.all (inR (-10 ^ 9) (10 ^ 9)) = true := by
  rw [List.all_eq_true] at h ⊢
  intro v hv
  have h1 := h v hv
  cases v with
  | int n =>
    have h2 := (onB_iff.mp h1).1
    show (decide (_ ≤ n) && decide (n ≤ _)) = true
    rw [decide_eq_true (by omega), decide_eq_true (by omega)]
    rfl
  | _ => exact absurd h1 (by simp [onB])
def sp_lint : Sp := fun vs H Q _ => ∃ (v : V) (lo hi : Int), vs = [v, .int lo, .int hi] ∧ Part H v ∧ ∀ H', Ex H H' → Q (.bl (inR lo hi v)) H'
def sp_lsh (K : PySem.W.Frag) : Sp := fun vs H Q _ => ∃ (t : Addr) (b f r pl : Nat) (z : Int) (n : Nat) (v : V) (c : Bool), vs = [.ref t, .int z, .int n, v] ∧ TG K H t b f r pl ∧ okg b f r ∧ gG b f r ≤ 10 ^ 9 ∧ sIs b (b ^ f) (gG b f r) z n H v c ∧ ∀ H', Ex H H' → Q (.bl c) H'
section
variable {P : Program} {w : World} {K : PySem.W.Frag} {mg : Str → Option Value} {base : Heap} {a : Ad}
theorem ok_l_is_int (T : Txt K mg a) : FnOk P w K mg base CX0 1 a.l_is_int a.l_is_int_fd ["value", "low", "high"] sp_lint := by
  refine T.F_l_is_int.ok sc_l_is_int (fun vs H Q E h => ?_) (fun cdv A outer s H vs Q E hr h => ?_)
  · obtain ⟨v, lo, hi, rfl, _⟩ := h
    rfl
  · obtain ⟨v, lo, hi, rfl, hv, k⟩ := h
    refine ⟨_, (pss_one (ps_ret (pe_and (pe_callB call_isi (by rfl) T.n_isinstance (by decide +kernel) (pa_cons (pv 0) (pa_cons (pe_bltn (v := .ty "int") (u := .type "int") rfl T.n_int (by decide +kernel) rfl) pa_nil))) (pe_and (pe_not (pe_callB call_isi (by rfl) T.n_isinstance (by decide +kernel) (pa_cons (pv 0) (pa_cons (pe_bltn (v := .ty "bool") (u := .type "bool") rfl T.n_bool (by decide +kernel) rfl) pa_nil)))) (pe_one (pe_chain op_le op_le (pv 1) (pv 0) (pv 2))))))), ?_⟩
    rcases hv with ⟨n, rfl⟩ | hn
    · refine ⟨_, rfl, _, _, _, _, true, rfl, .ty _, .base (.int n), kit_ty (by decide +kernel), true, rfl, iteT ?_⟩
      refine ⟨_, rfl, _, _, _, _, false, rfl, .ty _, .base (.int n), kit_ty (by decide +kernel), false, rfl, true, rfl, iteT ?_⟩
      have kk : Q (.bl (decide (lo ≤ n) && decide (n ≤ hi))) H := k H (Ex.refl H)
      refine ⟨_, rfl, _, rfl, _, _, rfl, rfl, _, rfl, ?_⟩
      by_cases h : lo ≤ n
      · rw [if_pos (decide_eq_true h)]
        refine ⟨_, rfl, _, _, rfl, rfl, ?_⟩
        rw [decide_eq_true h, Bool.true_and] at kk
        exact kk
      · rw [if_neg (by simpa using h)]
        rw [decide_eq_false h, Bool.false_and] at kk
        exact kk
    · have kk := k H (Ex.refl H)
      cases hn with
      | non => exact ⟨_, rfl, _, _, _, _, false, rfl, .ty _, .base .non, kit_ty (by decide +kernel), false, rfl, ite2 (fun h => absurd h (by decide)) fun _ => kk⟩
      | bl b =>
        refine ⟨_, rfl, _, _, _, _, true, rfl, .ty _, .base (.bl b), kit_ty (by decide +kernel), true, rfl, iteT ?_⟩
        exact ⟨_, rfl, _, _, _, _, true, rfl, .ty _, .base (.bl b), kit_ty (by decide +kernel), true, rfl, false, rfl, ite2 (fun h => absurd h (by decide)) fun _ => kk⟩
      | str s => exact ⟨_, rfl, _, _, _, _, false, rfl, .ty _, .base (.str s), kit_ty (by decide +kernel), false, rfl, ite2 (fun h => absurd h (by decide)) fun _ => kk⟩
      | tup h => exact ⟨_, rfl, _, _, _, _, false, rfl, .ty _, .base (.tup h), kit_ty (by decide +kernel), false, rfl, ite2 (fun h => absurd h (by decide)) fun _ => kk⟩
      | lst h => exact ⟨_, rfl, _, _, _, _, false, rfl, .ty _, .base (.lst h), kit_ty (by decide +kernel), false, rfl, ite2 (fun h => absurd h (by decide)) fun _ => kk⟩
      | dK h => exact ⟨_, rfl, _, _, _, _, false, rfl, .ty _, .base (.dK h), kit_ty (by decide +kernel), false, rfl, ite2 (fun h => absurd h (by decide)) fun _ => kk⟩
theorem ok_l_is_shortest (T : Txt K mg a) : FnOk P w K mg base CX0 4 a.l_is_shortest a.l_is_shortest_fd ["grid", "worth", "size", "value"] (sp_lsh K) := by
  refine T.F_l_is_shortest.ok sc_l_is_shortest (fun vs H Q E h => ?_) (fun cdv A outer s H vs Q E hr h => ?_)
  · obtain ⟨t, b, f, r, pl, z, n, v, c, rfl, _⟩ := h
    rfl
  · obtain ⟨t, b, f, r, pl, z, n, v, c, rfl, ht, hok, hG9, hv, k⟩ := h
    refine ⟨_, (pss_cons (ps_if (PW.pt (pw_or (pt_not (pt_val (pe_callB call_isi (by rfl) T.n_isinstance (by decide +kernel) (pa_cons (pv 3) (pa_cons (pe_bltn (v := .ty "tuple") (u := .type "tuple") rfl T.n_tuple (by decide +kernel) rfl) pa_nil))))) (pw_or1 (pt_not (pt_val (pe_callB (cr_all rfl) (by rfl) T.n_all (by decide +kernel) (pa_cons (pe_lc (own := [("one", 4)]) (g := gName 4) (by rfl) sc_l_is_shortest.nd (pi_tup (pv 3)) (blkOk_by (own := [("one", 4)]) (N := N_l_is_shortest) (sc := defScope s_l_is_shortest) (by decide +kernel)) (fun _ _ _ _ _ => pg_name (i := 4) sc_l_is_shortest.nd rfl (Or.inl rfl)) (fun _ _ _ _ _ => pts_nil) (fun _ _ _ _ _ => (pe_call (ok_l_is_int T) (hr.mono (by decide)) rfl T.g_l_is_int T.k_l_is_int T.B_l_is_int .nil pass0 (pa_cons (pv 4) (pa_cons (pe_un un_neg (pe_op op_pow pe_int pe_int)) (pa_cons (pe_op op_pow pe_int pe_int) pa_nil)))))) pa_nil))))))) (pss_one (ps_ret pe_bl)) pss_nil)
      (pss_one (ps_ret (pe_and (pe_callB (cr_all rfl) (by rfl) T.n_all (by decide +kernel) (pa_cons (pe_lc (own := [("one", 4)]) (g := gName 4) (by rfl) sc_l_is_shortest.nd (pi_tup (pv 3)) (blkOk_by (own := [("one", 4)]) (N := N_l_is_shortest) (sc := defScope s_l_is_shortest) (by decide +kernel)) (fun _ _ _ _ _ => pg_name (i := 4) sc_l_is_shortest.nd rfl (Or.inl rfl)) (fun _ _ _ _ _ => pts_nil) (fun _ _ _ _ _ => (pe_call (ok_l_grid_has T) (hr.mono (by decide)) rfl T.g_l_grid_has T.k_l_grid_has T.B_l_grid_has .nil pass0 (pa_cons (pv 0) (pa_cons (pv 4) pa_nil))))) pa_nil)) (pe_and (pe_cmpR op_eq (pe_callB (cr_sumT rfl) (by rfl) T.n_sum (by decide +kernel) (pa_cons (pv 3) pa_nil)) (pv 1) (nomark _)) (pe_one (pe_cmpR op_eq (pe_callB call_len_seq (by rfl) T.n_len (by decide +kernel) (pa_cons (pv 3) pa_nil)) (pv 2) (nomark _)))))))), ?_⟩
    rcases hv with ⟨hv, rfl⟩ | ⟨q, xs, rfl, hq, hl, hp, rfl⟩
    · have kk := k H (Ex.refl H)
      cases hv with
      | non => exact ⟨_, rfl, _, _, _, _, false, rfl, .ty _, .base .non, kit_ty (by decide +kernel), false, rfl, ite2 (fun _ => kk) fun h => absurd (by decide) h⟩
      | bl b => exact ⟨_, rfl, _, _, _, _, false, rfl, .ty _, .base (.bl b), kit_ty (by decide +kernel), false, rfl, ite2 (fun _ => kk) fun h => absurd (by decide) h⟩
      | int i => exact ⟨_, rfl, _, _, _, _, false, rfl, .ty _, .base (.int i), kit_ty (by decide +kernel), false, rfl, ite2 (fun _ => kk) fun h => absurd (by decide) h⟩
      | str s => exact ⟨_, rfl, _, _, _, _, false, rfl, .ty _, .base (.str s), kit_ty (by decide +kernel), false, rfl, ite2 (fun _ => kk) fun h => absurd (by decide) h⟩
      | lst h => exact ⟨_, rfl, _, _, _, _, false, rfl, .ty _, .base (.lst h), kit_ty (by decide +kernel), false, rfl, ite2 (fun _ => kk) fun h => absurd (by decide) h⟩
      | dK h => exact ⟨_, rfl, _, _, _, _, false, rfl, .ty _, .base (.dK h), kit_ty (by decide +kernel), false, rfl, ite2 (fun _ => kk) fun h => absurd (by decide) h⟩
    · refine ⟨_, rfl, _, _, _, _, true, rfl, .ty _, .base (.tup hq), kit_ty (by decide +kernel), true, rfl, ?_⟩
      refine ite2 (fun h => absurd h (by decide)) (fun _ => ?_)
      refine ⟨_, rfl, q, rfl, ⟨_, SqT.of hq⟩, fun D hD => lc_tup (K := K) (a := q) (xs := xs) (fun i H' => Ex H H' ∧ H' D = some (.lst (((xs.take i).map (inR (-10 ^ 9) (10 ^ 9))).map V.bl))) ⟨Ex.new hD, upd_same⟩ (fun i H' _ q => SqT.of (q.1 _ _ hq)) ?_ ?_⟩
      · rintro i x H' hi ⟨e1, h1⟩
        refine ⟨rfl, ?_⟩
        dsimp only [tYes]
        refine iteT ?_
        refine ⟨_, rfl, _, _, rfl, rfl, ⟨by decide, by decide, by decide⟩, _, rfl, _, _, rfl, rfl, ⟨by decide, by decide, by decide⟩, x, -10 ^ 9, 10 ^ 9, rfl, (hp x (List.mem_of_getElem? hi)).ex e1, fun H3 e3 => ?_⟩
        have hi' := (List.getElem?_eq_some_iff.mp hi).1
        refine ⟨_, e3 _ _ h1, small1000 (by rw [List.length_map, List.length_map, List.length_take]; omega), Ex.mut (e1.trans e3) hD, ?_⟩
        rw [upd_same, List.take_add_one, hi, List.map_append, List.map_append]
        rfl
      rintro H1 ⟨e1, h1⟩
      rw [List.take_length] at h1
      refine ⟨D, xs.map (inR (-10 ^ 9) (10 ^ 9)), rfl, SqL.of h1, ?_⟩
      have e : (xs.map (inR (-10 ^ 9) (10 ^ 9))).all id = xs.all (inR (-10 ^ 9) (10 ^ 9)) := by rw [List.all_map]; rfl
      rw [e]
      have kk := fun H' (e : Ex H H') => k H' e
      unfold shB at kk
      refine ⟨_, rfl, ?_⟩
      refine ite2 (fun hc => ?_) (fun hc => ?_)
      · have z : xs.all (onB b (b ^ f) (gG b f r)) = false := by
          cases h : xs.all (onB b (b ^ f) (gG b f r))
          · rfl
          · rw [on_in hG9 h] at hc
            cases hc
        have q9 := kk H1 e1
        rw [z, Bool.false_and] at q9
        exact q9
      have hc : xs.all (inR (-10 ^ 9) (10 ^ 9)) = true := by
        cases h : xs.all (inR (-10 ^ 9) (10 ^ 9))
        · rw [h] at hc
          exact absurd rfl hc
        · rfl
      obtain ⟨exs, hin⟩ := all_in hc
      have hq1 := e1 _ _ hq
      refine ⟨_, rfl, q, rfl, ⟨_, SqT.of hq1⟩, fun D2 hD2 => lc_tup (K := K) (a := q) (xs := xs) (fun i H' => Ex H1 H' ∧ H' D2 = some (.lst (((xs.take i).map (onB b (b ^ f) (gG b f r))).map V.bl))) ⟨Ex.new hD2, upd_same⟩ (fun i H' _ q => SqT.of (q.1 _ _ hq1)) ?_ ?_⟩
      · rintro i x H' hi ⟨e2, h2⟩
        have hi' := (List.getElem?_eq_some_iff.mp hi).1
        obtain ⟨m, hm, rfl⟩ : ∃ m : Int, m ∈ xs.map iOf ∧ x = .int m := by
          rw [exs] at hi
          obtain ⟨m, h1, h2⟩ := iv_get hi
          exact ⟨m, List.mem_of_getElem? h1, h2⟩
        have hmr := hin m hm
        have msz : m.natAbs < 2 ^ 4000 := Nat.lt_of_le_of_lt (by omega : m.natAbs ≤ 10 ^ 9) (by decide +kernel)
        refine ⟨rfl, ?_⟩
        dsimp only [tYes]
        refine iteT ?_
        refine ⟨_, rfl, _, rfl, t, b, f, r, pl, m, rfl, ht.ex (e1.trans e2), hok.v, msz, fun H3 e3 => ?_⟩
        refine ⟨_, e3 _ _ h2, small1000 (by rw [List.length_map, List.length_map, List.length_take]; omega), Ex.mut (e2.trans e3) hD2, ?_⟩
        rw [upd_same, List.take_add_one, hi, List.map_append, List.map_append]
        rfl
      rintro H2 ⟨e2, h2⟩
      rw [List.take_length] at h2
      refine ⟨D2, xs.map (onB b (b ^ f) (gG b f r)), rfl, SqL.of h2, ?_⟩
      have eo : (xs.map (onB b (b ^ f) (gG b f r))).all id = xs.all (onB b (b ^ f) (gG b f r)) := by rw [List.all_map]; rfl
      rw [eo]
      refine ⟨_, rfl, ?_⟩
      have e12 := e1.trans e2
      refine ite2 (fun ho => ?_) (fun ho => ?_)
      · rw [ho, Bool.true_and] at kk
        have hq3 : H2 q = some (.tup (iv (xs.map iOf))) := by rw [← exs]; exact e2 _ _ hq1
        have ev : decide (V.int (xs.map iOf).sum = V.int z) = decide ((xs.map iOf).sum = z) := by simp
        refine ⟨_, rfl, q, xs.map iOf, rfl, SqT.of hq3, _, rfl, rfl, _, rfl, ?_⟩
        rw [ev]
        refine ite2 (fun h1 => ?_) (fun h1 => ?_)
        · rw [h1, Bool.true_and] at kk
          refine ⟨_, rfl, q, _, rfl, .inr (SqT.of (e2 _ _ hq1)), _, rfl, rfl, ?_⟩
          have el : decide (V.int ((xs.length : Nat) : Int) = V.int ((n : Nat) : Int)) = decide (xs.length = n) := by
            rw [Bool.eq_iff_iff, decide_eq_true_eq, decide_eq_true_eq]
            constructor
            · intro z
              injection z with z
              omega
            · intro z
              rw [z]
          show Q (V.bl (decide (V.int ((xs.length : Nat) : Int) = V.int ((n : Nat) : Int)))) H2
          rw [el]
          exact kk H2 e12
        · have z9 : decide ((xs.map iOf).sum = z) = false := by cases h : decide ((xs.map iOf).sum = z); rfl; exact absurd h h1
          have q9 := kk H2 e12
          rw [z9, Bool.false_and] at q9
          exact q9
      · have z9 : xs.all (onB b (b ^ f) (gG b f r)) = false := by cases h : xs.all (onB b (b ^ f) (gG b f r)); rfl; exact absurd h ho
        have q9 := kk H2 e12
        rw [z9, Bool.false_and] at q9
        exact q9
end
end My


set_option Elab.async false
set_option maxRecDepth 100000
set_option maxHeartbeats 2000000
set_option exponentiation.threshold 6000
namespace My
open PySem L2 Evl
/-- the seven small grids -/
def sm (b f r : Nat) : Prop := (b, f, r) ∈ [(2, 1, 4), (2, 2, 4), (2, 3, 3), (3, 1, 3), (3, 2, 2), (5, 1, 2), (10, 1, 1)]
theorem sm_cases {b f r : Nat} {D : Nat → Nat → Nat → Prop} (h : sm b f r) (h1 : D 2 1 4) (h2 : D 2 2 4) (h3 : D 2 3 3) (h4 : D 3 1 3) (h5 : D 3 2 2) (h6 : D 5 1 2) (h7 : D 10 1 1) : D b f r := by
  unfold sm at h
  simp only [List.mem_cons, List.not_mem_nil, or_false, Prod.mk.injEq] at h
  rcases h with ⟨rfl, rfl, rfl⟩ | ⟨rfl, rfl, rfl⟩ | ⟨rfl, rfl, rfl⟩ | ⟨rfl, rfl, rfl⟩ | ⟨rfl, rfl, rfl⟩ | ⟨rfl, rfl, rfl⟩ | ⟨rfl, rfl, rfl⟩ <;> assumption
theorem sm_facts {b f r : Nat} (h : sm b f r) : okg b f r ∧ b ^ f ≤ 1000 ∧ gG b f r ≤ 100 ∧ goodG 6 b f r = true ∧ lad b (b ^ f) r = (lad b (b ^ f) r).dropLast ++ [((gG b f r : Nat) : Int)] ∧ gG b f r < b ^ f * b ^ 6 ∧ (lad b (b ^ f) r).length ≤ 100 := by
  refine sm_cases (D := fun b f r => okg b f r ∧ b ^ f ≤ 1000 ∧ gG b f r ≤ 100 ∧ goodG 6 b f r = true ∧ lad b (b ^ f) r = (lad b (b ^ f) r).dropLast ++ [((gG b f r : Nat) : Int)] ∧ gG b f r < b ^ f * b ^ 6 ∧ (lad b (b ^ f) r).length ≤ 100) h ?_ ?_ ?_ ?_ ?_ ?_ ?_
  · exact ⟨by unfold okg; decide, by decide, by decide, gg1, by decide +kernel, by decide, by decide +kernel⟩
  · exact ⟨by unfold okg; decide, by decide, by decide, gg2, by decide +kernel, by decide, by decide +kernel⟩
  · exact ⟨by unfold okg; decide, by decide, by decide, gg3, by decide +kernel, by decide, by decide +kernel⟩
  · exact ⟨by unfold okg; decide, by decide, by decide, gg4, by decide +kernel, by decide, by decide +kernel⟩
  · exact ⟨by unfold okg; decide, by decide, by decide, gg5, by decide +kernel, by decide, by decide +kernel⟩
  · exact ⟨by unfold okg; decide, by decide, by decide, gg6, by decide +kernel, by decide, by decide +kernel⟩
  · exact ⟨by unfold okg; decide, by decide, by decide, gg7, by decide +kernel, by decide, by decide +kernel⟩
def sp_small : Sp := fun vs H Q _ => ∃ (p : Addr) (n : Nat), vs = [.ref p] ∧ PotAt H p n ∧ n + 10 ≤ 100000 ∧
  ∀ (q t l : Addr) (b f r pl : Nat) H', Kp p H H' → PotAt H' p (n + 1) → H' q = some (.tup [.ref t, .ref l]) → H' t = some (.tup [.int b, .int f, .int r, .int pl]) → H' l = some (.lst (iv (lad b (b ^ f) r))) → sm b f r → pl ≤ 30 → l ≠ p → Q (.ref q) H'
section
variable {P : Program} {w : World} {K : PySem.W.Frag} {mg : Str → Option Value} {base : Heap} {a : Ad}
theorem ok_l_own_renewed (T : Txt K mg a) : FnOk P w K mg base CX0 4 a.l_own_renewed a.l_own_renewed_fd ["grid", "worth"] (sp_own K) := by
  refine T.F_l_own_renewed.ok sc_l_own_renewed (fun vs H Q E h => ?_) (fun cdv A outer s H vs Q E hr h => ?_)
  · obtain ⟨t, b, f, r, pl, w', rfl, _⟩ := h
    rfl
  · obtain ⟨t, b, f, r, pl, w0, rfl, ht, hok, hw, k⟩ := h
    refine ⟨_, (pss_cons (ps_set (i := 2) sc_l_own_renewed.nd rfl (Or.inl rfl) (pe_lst pa_nil))
      (pss_cons (ps_while PassesOwn.never (pt_cmpR op_ne (pv 1) pe_int (nomark _)) (pss_cons (ps_set (i := 3) sc_l_own_renewed.nd rfl (Or.inl rfl) (pe_call (ok_l_grid_rounded T) (hr.mono (by decide)) rfl T.g_l_grid_rounded T.k_l_grid_rounded T.B_l_grid_rounded .nil pass0 (pa_cons (pv 0) (pa_cons (pv 1) (pa_cons pe_int (pa_cons pe_str (pa_cons pe_int pa_nil)))))))
      (pss_cons (ps_expr (pe_bm PySem.F.plainAttrs_list PySem.F.slot_list_append PySem.F.type_list_append mt_append (pv 2) (pa_cons (pv 3) pa_nil)))
      (pss_one (ps_set (i := 1) sc_l_own_renewed.nd rfl (Or.inl rfl) (pe_op op_sub (pv 1) (pv 3)))))))
      (pss_one (ps_ret (pe_callTy call_tuple_of (by rfl) T.n_tuple (by decide +kernel) (pa_cons (pv 2) pa_nil)))))), ?_⟩
    have gr := hok.gr
    have hG := hok.bG
    have hG' : gG b f r = (b ^ f - 1) * b ^ r := rfl
    refine ⟨Nat.zero_le _, fun p hp => ?_⟩
    refine ⟨fun c σ H' => ∃ (acc : List Int) (left : Int) (v : Option V), c = left.natAbs ∧ Ex H H' ∧ H' p = some (.lst (iv acc)) ∧ acc ++ row b (b ^ f) left = row b (b ^ f) w0 ∧ left.natAbs * 2 ^ acc.length ≤ w0.natAbs ∧ σ = [some (.ref t), some (.int left), some (.ref p), v],
      ⟨_, [], w0, none, rfl, Ex.new hp, upd_same, rfl, by rw [List.length_nil, Nat.pow_zero]; omega, rfl⟩, ?_⟩
    rintro c σ H' ⟨acc, left, v, rfl, e1, h1, h2, h3, rfl⟩
    refine ⟨_, rfl, rfl, _, rfl, ?_⟩
    refine ite2 (fun hc => ?_) (fun hc => ?_)
    · have hl : left ≠ 0 := by
        intro z
        subst z
        simp at hc
      have hlt : left.natAbs ≤ w0.natAbs := Nat.le_trans (Nat.le_mul_of_pos_right _ (Nat.pow_pos (by decide))) h3
      have hacc : 2 ^ acc.length < 2 ^ 400 := by
        have : 1 * 2 ^ acc.length ≤ left.natAbs * 2 ^ acc.length := Nat.mul_le_mul_right _ (by omega)
        omega
      have hacc := (Nat.pow_lt_pow_iff_right (by decide : 1 < 2)).mp hacc
      have hhalf := rn_half gr (t := left)
      refine ⟨fun σ' H' => ∃ (acc : List Int) (left' : Int) (v : Option V), left'.natAbs < left.natAbs ∧ Ex H H' ∧ H' p = some (.lst (iv acc)) ∧ acc ++ row b (b ^ f) left' = row b (b ^ f) w0 ∧ left'.natAbs * 2 ^ acc.length ≤ w0.natAbs ∧ σ' = [some (.ref t), some (.int left'), some (.ref p), v],
        fun σ' H' ⟨acc, l', v, q1, q2, q3, q4, q5, q6⟩ => ⟨_, q1, acc, l', v, rfl, q2, q3, q4, q5, q6⟩, ?_⟩
      refine ⟨_, rfl, _, rfl, t, b, f, r, pl, left, "near", rfl, ht.ex e1, hok.v, Nat.lt_of_le_of_lt (Nat.le_trans hlt hw) (Nat.lt_trans hG (by decide +kernel)), .inl ⟨rfl, fun H2 e2 => ?_⟩⟩
      rw [← hG', rnO_in (rn_le gr (Nat.le_trans hlt hw))]
      refine ⟨_, rfl, .inl ⟨rfl, _, SqL.of (e2 _ _ h1)⟩, _, rfl, p, _, _, rfl, rfl, e2 _ _ h1, small1000 (by rw [iv_len]; omega), ?_⟩
      refine ⟨_, rfl, _, rfl, _, _, rfl, rfl, ?_⟩
      refine ⟨acc ++ [rn b (b ^ f) left], left - rn b (b ^ f) left, _, by omega, Ex.mut (e1.trans e2) hp, ?_, ?_, ?_, rfl⟩
      · rw [upd_same, iv_app]
        rfl
      · rw [List.append_assoc, ← h2, row_cons gr hl]
        rfl
      · rw [List.length_append, List.length_singleton, Nat.pow_succ]
        have : (left - rn b (b ^ f) left).natAbs * (2 ^ acc.length * 2) = (2 * (left - rn b (b ^ f) left).natAbs) * 2 ^ acc.length := by
          rw [Nat.mul_comm (2 ^ acc.length) 2, ← Nat.mul_assoc, Nat.mul_comm _ 2]
        rw [this]
        exact Nat.le_trans (Nat.mul_le_mul_right _ hhalf) h3
    · have hl : left = 0 := by
        by_cases z : left = 0
        · exact z
        · exact absurd (by simp [z]) hc
      subst hl
      rw [row_zero, List.append_nil] at h2
      subst h2
      refine ⟨_, rfl, p, _, rfl, .inl ⟨SqL.of h1, fun q hq => ?_⟩⟩
      exact k q _ (Ex.mut e1 (fresh_back e1 hq)) upd_same
theorem ok_l_small (T : Txt K mg a) : FnOk P w K mg base CX0 3 a.l_small a.l_small_fd ["pot"] sp_small := by
  refine T.F_l_small.ok sc_l_small (fun vs H Q E h => ?_) (fun cdv A outer s H vs Q E hr h => ?_)
  · obtain ⟨p, n, rfl, _⟩ := h
    rfl
  · obtain ⟨p, n, rfl, hp, hn, k⟩ := h
    refine ⟨_, (pss_cut (ps_set (i := 1) sc_l_small.nd rfl (Or.inl rfl) (pe_call (ok_l_of T) (hr.mono (by decide)) rfl T.g_l_of T.k_l_of T.B_l_of .nil pass0 (pa_cons (pv 0) (pa_cons (pe_lst (pa_cons (pe_tup (pa_cons pe_int (pa_cons pe_int (pa_cons pe_int (pa_cons pe_int pa_nil))))) (pa_cons (pe_tup (pa_cons pe_int (pa_cons pe_int (pa_cons pe_int (pa_cons pe_int pa_nil))))) (pa_cons (pe_tup (pa_cons pe_int (pa_cons pe_int (pa_cons pe_int (pa_cons pe_int pa_nil))))) (pa_cons (pe_tup (pa_cons pe_int (pa_cons pe_int (pa_cons pe_int (pa_cons pe_int pa_nil))))) (pa_cons (pe_tup (pa_cons pe_int (pa_cons pe_int (pa_cons pe_int (pa_cons pe_int pa_nil))))) (pa_cons (pe_tup (pa_cons pe_int (pa_cons pe_int (pa_cons pe_int (pa_cons pe_int pa_nil))))) (pa_cons (pe_tup (pa_cons pe_int (pa_cons pe_int (pa_cons pe_int (pa_cons pe_int pa_nil))))) pa_nil)))))))) pa_nil))))
      (pss_one (ps_ret (pe_tup (pa_cons (pv 1) (pa_cons (pe_call (ok_l_grid_ladder T) (hr.mono (by decide)) rfl T.g_l_grid_ladder T.k_l_grid_ladder T.B_l_grid_ladder .nil pass0 (pa_cons (pv 1) pa_nil)) pa_nil)))))), ?_⟩
    refine ⟨fun σ H2 => ∃ (t : Addr) (b f r pl : Nat), σ = [some (.ref p), some (.ref t)] ∧ Kp p H H2 ∧ PotAt H2 p (n + 1) ∧ H2 t = some (.tup [.int b, .int f, .int r, .int pl]) ∧ sm b f r ∧ pl ≤ 30, ?_, ?_⟩
    rotate_left
    · rintro σ H2 ⟨t, b, f, r, pl, rfl, k2, p2, ht, hsm, hpl⟩
      obtain ⟨hok, hM, _⟩ := sm_facts hsm
      refine ⟨_, rfl, _, rfl, t, b, f, r, pl, rfl, SqT.of ht, hok, hM, fun l H3 hl e3 h3 => ⟨by show 2 ≤ sizeLine; decide, fun q hq => ?_⟩⟩
      have e4 := Ex.new (o := .tup [V.ref t, V.ref l]) hq
      exact k q t l b f r pl _ (k2.ex (e3.trans e4)) (p2.ex (e3.trans e4)) upd_same (e4 _ _ (e3 _ _ ht)) (e4 _ _ h3) hsm hpl (p2.ne hl)
    refine ⟨_, rfl, by show 4 ≤ sizeLine; decide, fun t1 h1 => ?_⟩
    have e1 : Ex H (upd H t1 (.tup [V.int 2, V.int 1, V.int 4, V.int 0])) := Ex.new h1
    have c1 : (upd H t1 (.tup [V.int 2, V.int 1, V.int 4, V.int 0])) t1 = some (.tup [V.int 2, V.int 1, V.int 4, V.int 0]) := upd_same
    generalize (upd H t1 (.tup [V.int 2, V.int 1, V.int 4, V.int 0])) = H1 at *
    refine ⟨by show 4 ≤ sizeLine; decide, fun t2 h2 => ?_⟩
    have e2 : Ex H1 (upd H1 t2 (.tup [V.int 2, V.int 2, V.int 4, V.int 0])) := Ex.new h2
    have c2 : (upd H1 t2 (.tup [V.int 2, V.int 2, V.int 4, V.int 0])) t2 = some (.tup [V.int 2, V.int 2, V.int 4, V.int 0]) := upd_same
    generalize (upd H1 t2 (.tup [V.int 2, V.int 2, V.int 4, V.int 0])) = H2 at *
    refine ⟨by show 4 ≤ sizeLine; decide, fun t3 h3 => ?_⟩
    have e3 : Ex H2 (upd H2 t3 (.tup [V.int 2, V.int 3, V.int 3, V.int 0])) := Ex.new h3
    have c3 : (upd H2 t3 (.tup [V.int 2, V.int 3, V.int 3, V.int 0])) t3 = some (.tup [V.int 2, V.int 3, V.int 3, V.int 0]) := upd_same
    generalize (upd H2 t3 (.tup [V.int 2, V.int 3, V.int 3, V.int 0])) = H3 at *
    refine ⟨by show 4 ≤ sizeLine; decide, fun t4 h4 => ?_⟩
    have e4 : Ex H3 (upd H3 t4 (.tup [V.int 3, V.int 1, V.int 3, V.int 0])) := Ex.new h4
    have c4 : (upd H3 t4 (.tup [V.int 3, V.int 1, V.int 3, V.int 0])) t4 = some (.tup [V.int 3, V.int 1, V.int 3, V.int 0]) := upd_same
    generalize (upd H3 t4 (.tup [V.int 3, V.int 1, V.int 3, V.int 0])) = H4 at *
    refine ⟨by show 4 ≤ sizeLine; decide, fun t5 h5 => ?_⟩
    have e5 : Ex H4 (upd H4 t5 (.tup [V.int 3, V.int 2, V.int 2, V.int 0])) := Ex.new h5
    have c5 : (upd H4 t5 (.tup [V.int 3, V.int 2, V.int 2, V.int 0])) t5 = some (.tup [V.int 3, V.int 2, V.int 2, V.int 0]) := upd_same
    generalize (upd H4 t5 (.tup [V.int 3, V.int 2, V.int 2, V.int 0])) = H5 at *
    refine ⟨by show 4 ≤ sizeLine; decide, fun t6 h6 => ?_⟩
    have e6 : Ex H5 (upd H5 t6 (.tup [V.int 5, V.int 1, V.int 2, V.int 0])) := Ex.new h6
    have c6 : (upd H5 t6 (.tup [V.int 5, V.int 1, V.int 2, V.int 0])) t6 = some (.tup [V.int 5, V.int 1, V.int 2, V.int 0]) := upd_same
    generalize (upd H5 t6 (.tup [V.int 5, V.int 1, V.int 2, V.int 0])) = H6 at *
    refine ⟨by show 4 ≤ sizeLine; decide, fun t7 h7 => ?_⟩
    have e7 : Ex H6 (upd H6 t7 (.tup [V.int 10, V.int 1, V.int 1, V.int 0])) := Ex.new h7
    have c7 : (upd H6 t7 (.tup [V.int 10, V.int 1, V.int 1, V.int 0])) t7 = some (.tup [V.int 10, V.int 1, V.int 1, V.int 0]) := upd_same
    generalize (upd H6 t7 (.tup [V.int 10, V.int 1, V.int 1, V.int 0])) = H7 at *
    refine ⟨by show 7 ≤ sizeLine; decide, fun l hl => ?_⟩
    have el : Ex H7 (upd H7 l (.lst [V.ref t1, V.ref t2, V.ref t3, V.ref t4, V.ref t5, V.ref t6, V.ref t7])) := Ex.new hl
    have cl : (upd H7 l (.lst [V.ref t1, V.ref t2, V.ref t3, V.ref t4, V.ref t5, V.ref t6, V.ref t7])) l = some (.lst [V.ref t1, V.ref t2, V.ref t3, V.ref t4, V.ref t5, V.ref t6, V.ref t7]) := upd_same
    generalize (upd H7 l (.lst [V.ref t1, V.ref t2, V.ref t3, V.ref t4, V.ref t5, V.ref t6, V.ref t7])) = H8 at *
    have x7 : Ex H7 H8 := el
    have x6 : Ex H6 H8 := e7.trans x7
    have x5 : Ex H5 H8 := e6.trans x6
    have x4 : Ex H4 H8 := e5.trans x5
    have x3 : Ex H3 H8 := e4.trans x4
    have x2 : Ex H2 H8 := e3.trans x3
    have x1 : Ex H1 H8 := e2.trans x2
    have x0 : Ex H H8 := e1.trans x1
    have p8 := hp.ex x0
    have nl : l ≠ p := (hp.ex (((((((e1.trans e2).trans e3).trans e4).trans e5).trans e6).trans e7))).ne hl
    refine ⟨p, l, n, _, rfl, p8, by omega, cl, nl, by show 0 < 7; decide, by show 7 ≤ 100000; decide, fun i v H9 hv k9 p9 => ?_⟩
    have key : ∃ (t : Addr) (b f r pl : Nat), v = .ref t ∧ H8 t = some (.tup [.int b, .int f, .int r, .int pl]) ∧ sm b f r ∧ pl ≤ 30 := by
      match i, hv with
      | 0, hv => cases hv; exact ⟨t1, 2, 1, 4, 0, rfl, x1 _ _ c1, by unfold sm; decide, by decide⟩
      | 1, hv => cases hv; exact ⟨t2, 2, 2, 4, 0, rfl, x2 _ _ c2, by unfold sm; decide, by decide⟩
      | 2, hv => cases hv; exact ⟨t3, 2, 3, 3, 0, rfl, x3 _ _ c3, by unfold sm; decide, by decide⟩
      | 3, hv => cases hv; exact ⟨t4, 3, 1, 3, 0, rfl, x4 _ _ c4, by unfold sm; decide, by decide⟩
      | 4, hv => cases hv; exact ⟨t5, 3, 2, 2, 0, rfl, x5 _ _ c5, by unfold sm; decide, by decide⟩
      | 5, hv => cases hv; exact ⟨t6, 5, 1, 2, 0, rfl, x6 _ _ c6, by unfold sm; decide, by decide⟩
      | 6, hv => cases hv; exact ⟨t7, 10, 1, 1, 0, rfl, x7 _ _ c7, by unfold sm; decide, by decide⟩
    obtain ⟨t, b, f, r, pl, rfl, ht, hok, hpl⟩ := key
    have nt : t ≠ p := ne_tup ht p8
    exact ⟨t, b, f, r, pl, rfl, (Ex.kp x0).trans k9, p9, k9 _ _ ht nt, hok, hpl⟩
end
end My


set_option Elab.async false
set_option maxRecDepth 100000
set_option maxHeartbeats 4000000
set_option exponentiation.threshold 6000
namespace My
open PySem L2 Evl
theorem lenGo_le {M2 : Nat} {s w : Int} : ∀ (ns : List Int) (kv : List (Int × Int)) (la : List Int), kv.length ≤ (lenGo M2 s w ns kv la).1.length
  | [], kv, la => Nat.le_refl _
  | n :: ns, kv, la => by
    unfold lenGo
    split
    · have := lenGo_le (M2 := M2) (s := s) (w := w) ns ((w + n, s) :: kv) ((w + n) :: la)
      rw [List.length_cons] at this
      omega
    · exact lenGo_le ns kv la
theorem lenRows_cons (M2 : Nat) (s : Int) (ev : List Int) (w : Int) (ws : List Int) (kv : List (Int × Int)) (la : List Int) : lenRows M2 s ev (w :: ws) kv la = lenRows M2 s ev ws (lenGo M2 s w ev kv la).1 (lenGo M2 s w ev kv la).2 := rfl
theorem lenRows_le {M2 : Nat} {s : Int} {ev : List Int} : ∀ (ws : List Int) (kv : List (Int × Int)) (la : List Int), kv.length ≤ (lenRows M2 s ev ws kv la).1.length
  | [], kv, la => Nat.le_refl _
  | w :: ws, kv, la => by
    rw [lenRows_cons]
    exact Nat.le_trans (lenGo_le ev kv la) (lenRows_le ws _ _)
def lapN (M2 : Nat) (ev : List Int) : Nat → List (Int × Int) × List Int
  | 0 => ([(0, 0)], [0])
  | i + 1 => ((lenRows M2 ((i : Int) + 1) ev (lapN M2 ev i).2 (lapN M2 ev i).1 []).1, (lenRows M2 ((i : Int) + 1) ev (lapN M2 ev i).2 (lapN M2 ev i).1 []).2.reverse)
theorem lapN_lens (M2 : Nat) (ev : List Int) : (lapN M2 ev 3).1 = (lens M2 ev).1 := rfl
theorem lapN_le (M2 : Nat) (ev : List Int) (i : Nat) : (lapN M2 ev i).1.length ≤ (lapN M2 ev (i + 1)).1.length := lenRows_le _ _ _
theorem lapN_le3 (M2 : Nat) (ev : List Int) : ∀ i, i ≤ 3 → (lapN M2 ev i).1.length ≤ (lapN M2 ev 3).1.length
  | 0, _ => Nat.le_trans (lapN_le M2 ev 0) (Nat.le_trans (lapN_le M2 ev 1) (lapN_le M2 ev 2))
  | 1, _ => Nat.le_trans (lapN_le M2 ev 1) (lapN_le M2 ev 2)
  | 2, _ => lapN_le M2 ev 2
  | 3, _ => Nat.le_refl _
  | i + 4, h => by omega
def evl (b f r : Nat) : List Int := evr b (b ^ f) r
theorem good_len {b f r : Nat} (h : sm b f r) : (lens (2 * gG b f r) (evl b f r)).1.length ≤ 1000 := by
  have hg := (sm_facts h).2.2.2.1
  unfold goodG at hg
  have e : ∀ p : List (Int × Int) × List Int, (match p with | (kv, _) => decide (kv.length ≤ 1000) && (List.range (2 * ((b ^ f - 1) * b ^ r) + 1)).all fun i => goodW 6 b (b ^ f) kv ((i : Int) - (((b ^ f - 1) * b ^ r : Nat) : Int))) = true → p.1.length ≤ 1000 := by
    rintro ⟨kv, la⟩ h
    exact of_decide_eq_true (Bool.and_eq_true _ _ ▸ h).1
  exact e _ hg
def Rel (kvs : List (Key × V)) (kv : List (Int × Int)) : Prop := kvs.length = kv.length ∧ ∀ w : Int, valV kvs (Sum.inl w) = (lk kv w).map V.int
theorem Rel.put {kvs : List (Key × V)} {kv : List (Int × Int)} (h : Rel kvs kv) {w s : Int} (hn : lk kv w = none) : Rel (putK kvs (Sum.inl w) (V.int s)) ((w, s) :: kv) := by
  have hv : valV kvs (Sum.inl w) = none := by rw [h.2, hn]; rfl
  constructor
  · have hna : (kvs.any fun kv => decide (kv.1 = Sum.inl w)) = false := by
      rw [List.any_eq_false]
      intro x hx hd
      unfold valV at hv
      rw [Option.map_eq_none_iff, List.find?_eq_none] at hv
      exact hv x hx hd
    unfold putK
    rw [hna, if_neg (by decide), List.length_append, List.length_cons, h.1]
    rfl
  · intro j
    rw [valV_put]
    show _ = (if w = j then some s else lk kv j).map V.int
    by_cases e : j = w
    · subst e
      rw [if_pos rfl, if_pos rfl]
      rfl
    · rw [if_neg (fun z => e (by injection z)), if_neg (fun z => e z.symm)]
      exact h.2 j
def sp_lengths (K : PySem.W.Frag) : Sp := fun vs H Q _ => ∃ (l : Addr) (b f r : Nat), vs = [.ref l] ∧ H l = some (.lst (iv (lad b (b ^ f) r))) ∧ sm b f r ∧
  ∀ (D : Addr) (kvs : List (Key × V)) H', Ex H H' → H' D = some (.dK kvs) → Rel kvs (lens (2 * gG b f r) (evl b f r)).1 → Q (.ref D) H'
theorem at_last (ys : List Int) (m : Int) : atI (iv (ys ++ [m])) (-1) = some (.int m) := by
  have hl : (iv (ys ++ [m])).length = ys.length + 1 := by rw [iv_len, List.length_append]; rfl
  unfold atI ixN
  rw [hl, if_neg (by decide), if_pos (by omega)]
  have e : ((-1 : Int) + ((ys.length + 1 : Nat) : Int)).toNat = ys.length := by omega
  show (iv (ys ++ [m]))[((-1 : Int) + ((ys.length + 1 : Nat) : Int)).toNat]? = _
  rw [e]
  unfold iv
  rw [List.getElem?_map, List.getElem?_append_right (Nat.le_refl _), Nat.sub_self]
  rfl
theorem iv_ext (xs ys : List Int) : iv xs ++ iv ys = iv (xs ++ ys) := by unfold iv; rw [List.map_append]
theorem ev_sz {b f r : Nat} (h : sm b f r) : (evl b f r).length ≤ 200 ∧ ∀ x ∈ evl b f r, x.natAbs ≤ 2 ^ 400 := by
  obtain ⟨hok, _, _, _, _, _, hl⟩ := sm_facts h
  have key : ∀ x ∈ lad b (b ^ f) r, x.natAbs ≤ 2 ^ 400 := fun x hx => by
    obtain ⟨n, rfl, hn⟩ := lad_bound hok.1 hok.2.2.1 r x hx
    rw [← Nat.pow_add] at hn
    have := pw400 hok.2.1 (i := f + r) (by have := hok.2.2.2.1; have := hok.2.2.2.2; omega)
    omega
  unfold evl evr
  constructor
  · rw [List.length_append, List.length_map, List.length_reverse, List.length_drop]
    omega
  · intro x hx
    rcases List.mem_append.mp hx with hx | hx
    · obtain ⟨z, hz, rfl⟩ := List.mem_map.mp hx
      have := key z (List.mem_of_mem_drop (List.mem_reverse.mp hz))
      omega
    · exact key x (List.mem_of_mem_drop hx)
section
variable {P : Program} {w : World} {K : PySem.W.Frag} {mg : Str → Option Value} {base : Heap} {a : Ad}
theorem ok_l_lengths (T : Txt K mg a) : FnOk P w K mg base CX0 4 a.l_lengths a.l_lengths_fd ["ladder"] (sp_lengths K) := by
  refine T.F_l_lengths.ok sc_l_lengths (fun vs H Q E h => ?_) (fun cdv A outer s H vs Q E hr h => ?_)
  · obtain ⟨l, b, f, r, rfl, _⟩ := h
    rfl
  · obtain ⟨l, b, f, r, rfl, hl, hsm, k⟩ := h
    refine ⟨_, (pss_cut (ps_set (i := 1) sc_l_lengths.nd rfl (Or.inl rfl) (pe_op op_cat (pe_lc (own := [("number", 8)]) (g := gName 8) (by rfl) sc_l_lengths.nd (pi_list (pe_pick (pv 0) po_none (po_some pe_int) (po_some (pe_un un_neg pe_int)))) (blkOk_by (own := [("number", 8)]) (N := N_l_lengths) (sc := defScope s_l_lengths) (by decide +kernel)) (fun _ _ _ _ _ => pg_name (i := 8) sc_l_lengths.nd rfl (Or.inl rfl)) (fun _ _ _ _ _ => pts_nil) (fun _ _ _ _ _ => (pe_un un_neg (pv 8)))) (pe_slice sl_list (pv 0) (po_some pe_int) po_none)))
      (pss_cut (ps_par3 (i := 2) (j := 3) (l := 4) rfl sc_l_lengths.nd rfl rfl rfl (by decide) (by decide) (by decide) rfl rfl rfl (pa_cons (pe_disp (pps_cons pe_int pe_int pps_nil) (by rfl) (by rfl) (fun z => by cases z) (by decide)) (pa_cons (pe_lst (pa_cons pe_int pa_nil)) (pa_cons (pe_ix ix_list (pv 0) (pe_un un_neg pe_int) (fun _ _ => rfl)) pa_nil))) (by rfl))
      (pss_cons (ps_for PassesOwn.never rfl (pi_range2 rfl T.n_range (pa_cons pe_int (pa_cons pe_int pa_nil))) (pg_name (i := 5) sc_l_lengths.nd rfl (Or.inl rfl)) (pss_cons (ps_set (i := 6) sc_l_lengths.nd rfl (Or.inl rfl) (pe_lst pa_nil))
      (pss_cons (ps_for PassesOwn.never rfl (pi_list (pv 3)) (pg_name (i := 7) sc_l_lengths.nd rfl (Or.inl rfl)) (pss_one (ps_for PassesOwn.never rfl (pi_list (pv 1)) (pg_name (i := 8) sc_l_lengths.nd rfl (Or.inl rfl)) (pss_one (ps_if (PW.pt (pw_and (pt_cmp (pc_dnotin (hu_of hr) (pe_op op_add (pv 7) (pv 8)) (pv 2))) (pw_and1 (pt_cmpR op_le (pe_callB call_abs (by rfl) T.n_abs (by decide +kernel) (pa_cons (pe_op op_add (pv 7) (pv 8)) pa_nil)) (pe_op op_mulW pe_int (pv 4)) (nomark _))))) (pss_cons (ps_dput (hu_of hr) (pv 2) (pe_op op_add (pv 7) (pv 8)) (pv 5) rfl)
      (pss_one (ps_expr (pe_bm PySem.F.plainAttrs_list PySem.F.slot_list_append PySem.F.type_list_append mt_append (pv 6) (pa_cons (pe_op op_add (pv 7) (pv 8)) pa_nil))))) pss_nil)))))
      (pss_one (ps_set (i := 3) sc_l_lengths.nd rfl (Or.inl rfl) (pv 6))))))
      (pss_one (ps_ret (pv 2)))))), ?_⟩
    obtain ⟨hok, hM, hG, hgood, hlast, hG6, hll⟩ := sm_facts hsm
    obtain ⟨evlen, evsz⟩ := ev_sz hsm
    have h3 := good_len hsm
    rw [← lapN_lens] at h3 k
    obtain ⟨xs0, hxs0⟩ := lad_cons hok.1 hok.2.2.1 r
    have hpk : pickV (iv (lad b (b ^ f) r)) none (some 0) (some (-1)) = iv ((lad b (b ^ f) r).drop 1).reverse := by
      rw [pick_back _ (by rw [iv_len, hxs0]; exact Nat.succ_pos _)]
      unfold iv
      rw [List.map_reverse, List.map_drop]
    have hdr : (iv (lad b (b ^ f) r)).drop 1 = iv ((lad b (b ^ f) r).drop 1) := by unfold iv; rw [List.map_drop]
    refine ⟨fun σ H' => ∃ E : Addr, Ex H H' ∧ H' E = some (.lst (iv (evl b f r))) ∧ σ = [some (.ref l), some (.ref E), none, none, none, none, none, none, none], ?_, ?_⟩
    · have sz9 : 1000 < sizeLine := by decide
      refine ⟨_, rfl, _, rfl, _, rfl, _, rfl, l, _, rfl, SqL.of hl, by decide, fun p hp => ?_⟩
      rw [hpk]
      have e4 := Ex.new (o := .lst (iv ((lad b (b ^ f) r).drop 1).reverse)) hp
      have h4p : (upd H p (.lst (iv ((lad b (b ^ f) r).drop 1).reverse))) p = some (.lst (iv ((lad b (b ^ f) r).drop 1).reverse)) := upd_same
      have h4 := e4 _ _ hl
      generalize (upd H p (.lst (iv ((lad b (b ^ f) r).drop 1).reverse))) = H4 at *
      refine ⟨p, rfl, ⟨_, SqL.of h4p⟩, fun D hD => lc_list (K := K) (a := p) (xs := iv ((lad b (b ^ f) r).drop 1).reverse) (fun i H' => Ex H4 H' ∧ H' D = some (.lst (iv ((((lad b (b ^ f) r).drop 1).reverse.take i).map fun x => -x)))) ⟨Ex.new hD, upd_same⟩ (fun i H' _ z => SqL.of (z.1 _ _ h4p)) ?_ ?_⟩
      · rintro i v H' hv ⟨e5, h5⟩
        obtain ⟨x, hx, rfl⟩ := iv_get hv
        refine ⟨rfl, ?_⟩
        dsimp only [tYes]
        refine iteT ?_
        refine ⟨_, rfl, _, rfl, _, h5, Nat.lt_of_le_of_lt (by rw [iv_len, List.length_map, List.length_take, List.length_reverse, List.length_drop]; omega) sz9, Ex.mut e5 hD, ?_⟩
        rw [upd_same, List.take_add_one, hx, List.map_append]
        exact congrArg (fun q => some (HO.lst q)) (by unfold iv; rw [List.map_append]; rfl)
      · rintro H5 ⟨e5, h5⟩
        rw [iv_len, List.take_length] at h5
        have hl5 := e5 _ _ h4
        refine ⟨_, rfl, _, rfl, l, _, rfl, SqL.of hl5, fun p2 hp2 => ?_⟩
        rw [cut1, hdr]
        have e6 := Ex.new (o := .lst (iv ((lad b (b ^ f) r).drop 1))) hp2
        have h6 : (upd H5 p2 (.lst (iv ((lad b (b ^ f) r).drop 1)))) p2 = some (.lst (iv ((lad b (b ^ f) r).drop 1))) := upd_same
        have h56 := e6 _ _ h5
        generalize (upd H5 p2 (.lst (iv ((lad b (b ^ f) r).drop 1)))) = H6 at *
        refine ⟨D, p2, _, _, rfl, rfl, h56, h6, ?_, fun z hz => ?_⟩
        · refine Nat.le_trans ?_ (Nat.le_of_lt sz9)
          rw [iv_len, iv_len, List.length_map, List.length_reverse, List.length_drop]
          omega
        · refine ⟨z, (e4.trans (e5.trans e6)).trans (Ex.new hz), ?_, rfl⟩
          rw [upd_same, iv_ext]
          rfl
    rintro σ H1 ⟨E1, e1, hE, rfl⟩
    have hl1 := e1 _ _ hl
    refine ⟨fun σ H' => ∃ (D F : Addr) (kvs : List (Key × V)), Ex H1 H' ∧ H1 D = none ∧ H1 F = none ∧ H' D = some (.dK kvs) ∧ Rel kvs (lapN (2 * gG b f r) (evl b f r) 0).1 ∧ H' F = some (.lst (iv (lapN (2 * gG b f r) (evl b f r) 0).2)) ∧ σ = [some (.ref l), some (.ref E1), some (.ref D), some (.ref F), some (.int (gG b f r)), none, none, none, none], ?_, ?_⟩
    · refine fun D hD => ?_
      refine ⟨upd_same, [(Sum.inl 0, V.int 0)], rfl, by show 1 ≤ 15; decide, ?_⟩
      have e2 : Ex H1 (upd (upd H1 D (.dK [])) D (.dK (mergeK [] [(Sum.inl 0, V.int 0)]))) := Ex.mut (Ex.new hD) hD
      have d2 : (upd (upd H1 D (.dK [])) D (.dK (mergeK [] [(Sum.inl 0, V.int 0)]))) D = some (.dK (mergeK [] [(Sum.inl 0, V.int 0)])) := upd_same
      generalize (upd (upd H1 D (.dK [])) D (.dK (mergeK [] [(Sum.inl 0, V.int 0)]))) = H2 at *
      refine ⟨by show 1 ≤ sizeLine; decide, fun F hF => ?_⟩
      have e3 := Ex.new (o := .lst [V.int 0]) hF
      have f3 : (upd H2 F (.lst [V.int 0])) F = some (.lst [V.int 0]) := upd_same
      have d3 := e3 _ _ d2
      generalize (upd H2 F (.lst [V.int 0])) = H3 at *
      have hl3 := e3 _ _ (e2 _ _ hl1)
      refine ⟨_, rfl, _, rfl, l, _, _, _, rfl, rfl, SqL.of hl3, (by rw [hlast]; exact at_last _ _), _, _, _, rfl, D, F, _, e2.trans e3, hD, fresh_back e2 hF, d3, ⟨rfl, fun w => ?_⟩, f3, rfl⟩
      show valV [(Sum.inl 0, V.int 0)] (Sum.inl w) = (if (0 : Int) = w then some (0 : Int) else none).map V.int
      by_cases h : w = 0
      · subst h
        rfl
      · rw [if_neg (fun z => h z.symm)]
        unfold valV
        rw [List.find?_cons_of_neg (by simp; exact fun z => h z.symm)]
        rfl
    rintro σ H2 ⟨D, F, kvs, e2, hD, hF, d2, hrel, f2, rfl⟩
    have hE2 := e2 _ _ hE
    have nDE : E1 ≠ D := ne_of_none hE hD
    have len3 : ∀ i, i ≤ 3 → (lapN (2 * gG b f r) (evl b f r) i).1.length ≤ 1000 := fun i hi => Nat.le_trans (lapN_le3 _ _ i hi) h3
    have sz9 : 1000 < sizeLine := by decide
    refine ⟨_, _, rfl, ⟨by decide, by decide, by decide, by decide⟩, for_range (lo := 1) (n := 3) (fun i σ H' => ∃ (F : Addr) (kvs : List (Key × V)) (z5 z6 z7 z8 : Option V), Ex H1 H' ∧ H1 F = none ∧ H' D = some (.dK kvs) ∧ Rel kvs (lapN (2 * gG b f r) (evl b f r) i).1 ∧ H' F = some (.lst (iv (lapN (2 * gG b f r) (evl b f r) i).2)) ∧ σ = [some (.ref l), some (.ref E1), some (.ref D), some (.ref F), some (.int (gG b f r)), z5, z6, z7, z8])
      ⟨F, kvs, none, none, none, none, e2, hF, d2, hrel, f2, rfl⟩ ?_ ?_⟩
    · clear hF d2 hrel f2 e2 hE2
      rintro i σ H3 hi ⟨F, kvs, z5, z6, z7, z8, e3, hF, d3, hrel, f3, rfl⟩
      have lenT := len3 (i + 1) (by omega)
      have hT : (lapN (2 * gG b f r) (evl b f r) (i + 1)) = ((lenRows (2 * gG b f r) ((i : Int) + 1) (evl b f r) (lapN (2 * gG b f r) (evl b f r) i).2 (lapN (2 * gG b f r) (evl b f r) i).1 []).1, (lenRows (2 * gG b f r) ((i : Int) + 1) (evl b f r) (lapN (2 * gG b f r) (evl b f r) i).2 (lapN (2 * gG b f r) (evl b f r) i).1 []).2.reverse) := rfl
      have nlen : 0 < (lapN (2 * gG b f r) (evl b f r) i).1.length := by
        have : ∀ i, 0 < (lapN (2 * gG b f r) (evl b f r) i).1.length := fun i => by
          induction i with
          | zero => exact Nat.succ_pos _
          | succ i ih => exact Nat.lt_of_lt_of_le ih (lapN_le _ _ i)
        exact this i
      rw [hT] at lenT ⊢
      generalize hTg : lenRows (2 * gG b f r) ((i : Int) + 1) (evl b f r) (lapN (2 * gG b f r) (evl b f r) i).2 (lapN (2 * gG b f r) (evl b f r) i).1 [] = Tg at *
      generalize (lapN (2 * gG b f r) (evl b f r) i).1 = kv0 at *
      generalize (lapN (2 * gG b f r) (evl b f r) i).2 = ends at *
      have es : (1 : Int) + (i : Int) = (i : Int) + 1 := by omega
      refine ⟨by show 0 ≤ sizeLine; decide, fun G hG => ?_⟩
      have nFG : F ≠ G := ne_of_none f3 hG
      have nDG : D ≠ G := ne_of_none d3 hG
      have hE3 := e3 _ _ hE
      have nEG : E1 ≠ G := ne_of_none hE3 hG
      have nFD : F ≠ D := ne_of f3 d3 (by intro z; cases z)
      have hG1 : H1 G = none := fresh_back e3 hG
      have e4 := Ex.new (o := .lst []) hG
      have g4 : (upd H3 G (.lst [])) G = some (.lst (iv [])) := upd_same
      have d4 := e4 _ _ d3
      have f4 := e4 _ _ f3
      have e14 := e3.trans e4
      generalize (upd H3 G (.lst [])) = H4 at *
      refine ⟨_, rfl, F, rfl, ⟨_, SqL.of f4⟩, for_list (K := K) (a := F) (xs := iv ends) (fun j σ H' => ∃ (kv : List (Int × Int)) (la : List Int) (kvs : List (Key × V)) (z7 z8 : Option V), Ex H1 H' ∧ H' D = some (.dK kvs) ∧ Rel kvs kv ∧ H' F = some (.lst (iv ends)) ∧ H' G = some (.lst (iv la.reverse)) ∧ la.length ≤ kv.length ∧ lenRows (2 * gG b f r) ((i : Int) + 1) (evl b f r) (ends.drop j) kv la = Tg ∧ σ = [some (.ref l), some (.ref E1), some (.ref D), some (.ref F), some (.int (gG b f r)), some (.int (1 + (i : Int))), some (.ref G), z7, z8])
        ⟨kv0, [], kvs, z7, z8, e14, d4, hrel, f4, g4, Nat.zero_le _, hTg, rfl⟩ (fun j σ H' _ z => by obtain ⟨_, _, _, _, _, _, _, _, z, _⟩ := z; exact SqL.of z) ?_ ?_⟩
      · clear hrel d4 f4 g4 e14 e4 hG d3 f3
        rintro j v σ H5 hv ⟨kv, la, kvs, z7, z8, e5, d5, hrel, f5, g5, hlk, hTg2, rfl⟩
        obtain ⟨wo, hwo, rfl⟩ := iv_get hv
        have hjl := (List.getElem?_eq_some_iff.mp hwo).1
        have hdr : ends.drop j = wo :: ends.drop (j + 1) := by
          rw [List.drop_eq_getElem_cons hjl]
          congr 1
          exact (List.getElem?_eq_some_iff.mp hwo).2
        rw [hdr, lenRows_cons] at hTg2
        have hkT : (lenGo (2 * gG b f r) ((i : Int) + 1) wo (evl b f r) kv la).1.length ≤ 1000 := by
          have := lenRows_le (M2 := 2 * gG b f r) (s := (i : Int) + 1) (ev := evl b f r) (ends.drop (j + 1)) (lenGo (2 * gG b f r) ((i : Int) + 1) wo (evl b f r) kv la).1 (lenGo (2 * gG b f r) ((i : Int) + 1) wo (evl b f r) kv la).2
          rw [hTg2] at this
          exact Nat.le_trans this lenT
        generalize hT2 : lenGo (2 * gG b f r) ((i : Int) + 1) wo (evl b f r) kv la = T2 at *
        have hE5 := e5 _ _ hE
        refine ⟨_, rfl, E1, rfl, ⟨_, SqL.of hE5⟩, for_list (K := K) (a := E1) (xs := iv (evl b f r)) (fun j2 σ H' => ∃ (kv : List (Int × Int)) (la : List Int) (kvs : List (Key × V)) (z8 : Option V), Ex H1 H' ∧ H' D = some (.dK kvs) ∧ Rel kvs kv ∧ H' F = some (.lst (iv ends)) ∧ H' G = some (.lst (iv la.reverse)) ∧ la.length ≤ kv.length ∧ lenGo (2 * gG b f r) ((i : Int) + 1) wo ((evl b f r).drop j2) kv la = T2 ∧ σ = [some (.ref l), some (.ref E1), some (.ref D), some (.ref F), some (.int (gG b f r)), some (.int (1 + (i : Int))), some (.ref G), some (.int wo), z8])
          ⟨kv, la, kvs, z8, e5, d5, hrel, f5, g5, hlk, hT2, rfl⟩ (fun j σ H' _ z => by obtain ⟨_, _, _, _, z, _⟩ := z; exact SqL.of (z _ _ hE)) ?_ ?_⟩
        · clear hrel d5 f5 g5 e5 hlk hT2 hE5
          rintro j2 v2 σ H6 hv2 ⟨kv, la, kvs, z8, e6, d6, hrel, f6, g6, hlk, hT2, rfl⟩
          obtain ⟨nu, hnu, rfl⟩ := iv_get hv2
          have hj2 := (List.getElem?_eq_some_iff.mp hnu).1
          have hdr2 : (evl b f r).drop j2 = nu :: (evl b f r).drop (j2 + 1) := by
            rw [List.drop_eq_getElem_cons hj2]
            congr 1
            exact (List.getElem?_eq_some_iff.mp hnu).2
          rw [hdr2] at hT2
          have hkv : kv.length ≤ 1000 := by
            have := lenGo_le (M2 := 2 * gG b f r) (s := (i : Int) + 1) (w := wo) (nu :: (evl b f r).drop (j2 + 1)) kv la
            rw [hT2] at this
            exact Nat.le_trans this hkT
          have hstep : lenGo (2 * gG b f r) ((i : Int) + 1) wo (nu :: (evl b f r).drop (j2 + 1)) kv la = if (lk kv (wo + nu)).isNone = true ∧ (wo + nu).natAbs ≤ 2 * gG b f r then lenGo (2 * gG b f r) ((i : Int) + 1) wo ((evl b f r).drop (j2 + 1)) ((wo + nu, (i : Int) + 1) :: kv) ((wo + nu) :: la) else lenGo (2 * gG b f r) ((i : Int) + 1) wo ((evl b f r).drop (j2 + 1)) kv la := rfl
          rw [hstep] at hT2
          have skip : ¬ ((lk kv (wo + nu)).isNone = true ∧ (wo + nu).natAbs ≤ 2 * gG b f r) → ∃ (kv : List (Int × Int)) (la : List Int) (kvs : List (Key × V)) (z8 : Option V), Ex H1 H6 ∧ H6 D = some (.dK kvs) ∧ Rel kvs kv ∧ H6 F = some (.lst (iv ends)) ∧ H6 G = some (.lst (iv la.reverse)) ∧ la.length ≤ kv.length ∧ lenGo (2 * gG b f r) ((i : Int) + 1) wo ((evl b f r).drop (j2 + 1)) kv la = T2 ∧ [some (V.ref l), some (V.ref E1), some (V.ref D), some (V.ref F), some (V.int (gG b f r)), some (V.int (1 + (i : Int))), some (V.ref G), some (V.int wo), some (V.int nu)] = [some (.ref l), some (.ref E1), some (.ref D), some (.ref F), some (.int (gG b f r)), some (.int (1 + (i : Int))), some (.ref G), some (.int wo), z8] := fun hc => by
            rw [if_neg hc] at hT2
            exact ⟨kv, la, kvs, _, e6, d6, hrel, f6, g6, hlk, hT2, rfl⟩
          refine ⟨_, rfl, _, rfl, _, _, rfl, rfl, _, rfl, D, _, rfl, DGet.k (k := Sum.inl (wo + nu)) d6, _, rfl, ?_⟩
          rw [hrel.2]
          refine ite2 (fun hc => ?_) (fun hc => ?_)
          · have hn : lk kv (wo + nu) = none := by
              cases h : lk kv (wo + nu)
              · rfl
              · rw [h] at hc; cases hc
            refine ⟨_, rfl, _, rfl, _, _, rfl, rfl, _, rfl, _, rfl, _, _, rfl, rfl, wm (by decide +kernel) (p5000 (k := 7) (by rw [Int.natAbs_natCast]; omega)), _, _, rfl, rfl, _, rfl, ?_⟩
            rw [absI]
            refine ite2 (fun h2 => ?_) (fun h2 => ?_)
            · have h2 : (wo + nu).natAbs ≤ 2 * gG b f r := by have := of_decide_eq_true h2; omega
              rw [if_pos ⟨by rw [hn]; rfl, h2⟩] at hT2
              refine ⟨_, rfl, _, rfl, _, rfl, _, rfl, _, _, rfl, rfl, D, _, rfl, DPut.k (k := Sum.inl (wo + nu)) d6 (by rw [hrel.1]; omega), ?_⟩
              have g7 : (upd H6 D (.dK (putK kvs (Sum.inl (wo + nu)) (V.int (1 + (i : Int)))))) G = some (.lst (iv la.reverse)) := by rw [upd_ne (Ne.symm nDG)]; exact g6
              have f7 : (upd H6 D (.dK (putK kvs (Sum.inl (wo + nu)) (V.int (1 + (i : Int)))))) F = some (.lst (iv ends)) := by rw [upd_ne nFD]; exact f6
              have d7 : (upd H6 D (.dK (putK kvs (Sum.inl (wo + nu)) (V.int (1 + (i : Int)))))) D = some (.dK (putK kvs (Sum.inl (wo + nu)) (V.int (1 + (i : Int))))) := upd_same
              have e7 : Ex H1 (upd H6 D (.dK (putK kvs (Sum.inl (wo + nu)) (V.int (1 + (i : Int)))))) := Ex.mut e6 hD
              generalize (upd H6 D (.dK (putK kvs (Sum.inl (wo + nu)) (V.int (1 + (i : Int)))))) = H7 at *
              refine ⟨_, rfl, .inl ⟨rfl, _, SqL.of g7⟩, _, rfl, _, rfl, _, _, rfl, rfl, G, _, _, rfl, rfl, g7, Nat.lt_of_le_of_lt (by rw [iv_len, List.length_reverse]; omega) sz9, ?_⟩
              refine ⟨(wo + nu, (i : Int) + 1) :: kv, (wo + nu) :: la, putK kvs (Sum.inl (wo + nu)) (V.int (1 + (i : Int))), _, Ex.mut e7 hG1, by rw [upd_ne nDG]; exact d7, ?_, by rw [upd_ne nFG]; exact f7, ?_, by rw [List.length_cons, List.length_cons]; omega, hT2, rfl⟩
              · rw [es]
                exact hrel.put hn
              · rw [upd_same, List.reverse_cons]
                exact congrArg (fun q => some (HO.lst q)) (iv_ext la.reverse [wo + nu])
            · exact skip (fun z => h2 (decide_eq_true (by have := z.2; omega)))
          · exact skip (fun z => hc (by
              cases h : lk kv (wo + nu)
              · rfl
              · rw [h] at z; cases z.1))
        · rintro σ H6 ⟨kv, la, kvs, z8, e6, d6, hrel, f6, g6, hlk, hT2, rfl⟩
          rw [iv_len, List.drop_length] at hT2
          have hT3 : (kv, la) = T2 := hT2
          refine ⟨kv, la, kvs, _, _, e6, d6, hrel, f6, g6, hlk, ?_, rfl⟩
          rw [← hTg2, ← hT3]
      · rintro σ H5 ⟨kv, la, kvs, z7, z8, e5, d5, hrel, f5, g5, hlk, hTg2, rfl⟩
        rw [iv_len, List.drop_length] at hTg2
        have hT3 : (kv, la) = Tg := hTg2
        refine ⟨_, rfl, G, kvs, _, _, _, _, e5, hG1, d5, ?_, ?_, rfl⟩
        · rw [← hT3]; exact hrel
        · rw [← hT3]; exact g5
    · rintro σ H3 ⟨F, kvs, z5, z6, z7, z8, e3, hF, d3, hrel, f3, rfl⟩
      exact ⟨_, rfl, k D kvs H3 (e1.trans e3) d3 hrel⟩
end
end My


set_option Elab.async false
set_option maxRecDepth 100000
set_option maxHeartbeats 4000000
set_option exponentiation.threshold 6000
namespace My
open PySem L2 Evl
def Val (H : Hp) (v : V) : Prop := NotTup H v ∨ ∃ (a : Addr) (xs : List V), v = .ref a ∧ H a = some (.tup xs) ∧ xs.length ≤ 100 ∧ ∀ y ∈ xs, Part H y
theorem Val.ex {H H' : Hp} {v : V} (h : Val H v) (e : Ex H H') : Val H' v := by
  rcases h with h | ⟨a, xs, h1, h2, h3, h4⟩
  · exact .inl (h.ex e)
  · exact .inr ⟨a, xs, h1, e _ _ h2, h3, fun y hy => (h4 y hy).ex e⟩
theorem NotInt.kp {H H' : Hp} {v : V} {p : Addr} {n m : Nat} (h : NotInt H v) (hp : PotAt H p n) (hp' : PotAt H' p m) (e : Kp p H H') : NotInt H' v := by
  obtain ⟨x, y, c, hpp, _⟩ := hp
  cases h with
  | non => exact .non
  | bl b => exact .bl b
  | str s => exact .str s
  | tup h => exact .tup (e _ _ h (ne_of h hpp (by intro z; cases z)))
  | @lst a xs h =>
    by_cases ha : a = p
    · subst ha
      obtain ⟨x, y, c, hp2, _⟩ := hp'
      exact .lst hp2
    · exact .lst (e _ _ h ha)
  | dK h => exact .dK (e _ _ h (ne_of h hpp (by intro z; cases z)))
theorem Part.kp {H H' : Hp} {v : V} {p : Addr} {n m : Nat} (h : Part H v) (hp : PotAt H p n) (hp' : PotAt H' p m) (e : Kp p H H') : Part H' v := h.imp id fun z => z.kp hp hp' e
theorem Val.kp {H H' : Hp} {v : V} {p : Addr} {n m : Nat} (h : Val H v) (hp : PotAt H p n) (hp' : PotAt H' p m) (e : Kp p H H') : Val H' v := by
  rcases h with h | ⟨a, xs, h1, h2, h3, h4⟩
  · obtain ⟨x, y, c, hpp, _⟩ := id hp
    refine .inl ?_
    cases h with
    | non => exact .non
    | bl b => exact .bl b
    | int i => exact .int i
    | str s => exact .str s
    | @lst a xs h =>
      by_cases ha : a = p
      · subst ha
        obtain ⟨x, y, c, hp2, _⟩ := hp'
        exact .lst hp2
      · exact .lst (e _ _ h ha)
    | dK h => exact .dK (e _ _ h (ne_of h hpp (by intro z; cases z)))
  · obtain ⟨x, y, c, hpp, _⟩ := id hp
    exact .inr ⟨a, xs, h1, e _ _ h2 (ne_of h2 hpp (by intro z; cases z)), h3, fun y hy => (h4 y hy).kp hp hp' e⟩
theorem ints_part {H : Hp} (xs : List Int) : ∀ y ∈ iv xs, Part H y := fun y hy => by
  obtain ⟨i, _, rfl⟩ := List.mem_map.mp hy
  exact .inl ⟨i, rfl⟩
theorem val_iv {H : Hp} {a : Addr} {xs : List Int} (h : H a = some (.tup (iv xs))) (hl : xs.length ≤ 100) : Val H (.ref a) := .inr ⟨a, iv xs, rfl, h, by rw [iv_len]; exact hl, ints_part xs⟩
theorem catA_of {K : PySem.W.Frag} {H : Hp} {a b : Addr} {xs ys : List V} {Q : VK} (ha : H a = some (.tup xs)) (hb : H b = some (.tup ys)) (hz : xs.length + ys.length ≤ sizeLine)
    (k : ∀ q H', Ex H H' → H' q = some (.tup (xs ++ ys)) → Q (.ref q) H') : rCatA K (.ref a) (.ref b) H Q := by
  refine ⟨a, b, xs, ys, rfl, rfl, SqT.of ha, SqT.of hb, hz, fun h => ?_, fun _ h => ?_, fun _ _ q hq => ?_⟩
  · subst h
    exact k b H (Ex.refl _) hb
  · subst h
    exact k a H (Ex.refl _) (by rw [List.append_nil]; exact ha)
  · exact k q _ (Ex.new hq) upd_same
theorem cut_mem {xs : List V} {lo hi : Option Int} : (∀ y ∈ cutV xs lo hi, y ∈ xs) ∧ (cutV xs lo hi).length ≤ xs.length := by
  unfold cutV
  refine ⟨fun y hy => List.mem_of_mem_drop (List.mem_of_mem_take hy), ?_⟩
  rw [List.length_take, List.length_drop]
  omega
theorem slA_of {K : PySem.W.Frag} {H : Hp} {a : Addr} {xs : List V} {lo hi : Option Int} {Q : VK} (ha : H a = some (.tup xs))
    (k : ∀ q ys H', Ex H H' → H' q = some (.tup ys) → (∀ y ∈ ys, y ∈ xs) → ys.length ≤ xs.length → Q (.ref q) H') : rSlA K (.ref a) lo hi H Q := by
  refine ⟨a, xs, rfl, SqT.of ha, fun _ => k a xs H (Ex.refl _) ha (fun y hy => hy) (Nat.le_refl _), fun _ q hq => ?_⟩
  exact k q _ _ (Ex.new hq) upd_same cut_mem.1 cut_mem.2
theorem lg {i : Int} {k : Nat} (h : i.natAbs < 2 ^ k) (h0 : 0 < k) (hk : k ≤ 1920) : i.natAbs.log2 < 1920 := Nat.lt_of_lt_of_le (PySem.Flt.log2_lt_of h0 h) hk
def sp_bent_in : Sp := fun vs H Q _ => ∃ (p : Addr) (n : Nat) (i : Int), vs = [.ref p, .int i] ∧ PotAt H p n ∧ n + 10 ≤ 100000 ∧ ∀ v H', Kp p H H' → PotAt H' p (n + 1) → Part H' v → Q v H'
def sp_bent : Sp := fun vs H Q _ => ∃ (p a : Addr) (n : Nat) (xs : List Int), vs = [.ref p, .ref a] ∧ PotAt H p n ∧ n + 20 ≤ 100000 ∧ H a = some (.tup (iv xs)) ∧ xs.length ≤ 40 ∧ ∀ v H', Kp p H H' → PotAt H' p (n + 4) → Val H' v → Q v H'
section
variable {P : Program} {w : World} {K : PySem.W.Frag} {mg : Str → Option Value} {base : Heap} {a : Ad}
theorem ok_l_bent_in (T : Txt K mg a) : FnOk P w K mg base CX0 4 a.l_bent a.l_bent_fd ["pot", "value"] sp_bent_in := by
  refine T.F_l_bent.ok sc_l_bent (fun vs H Q E h => ?_) (fun cdv A outer s H vs Q E hr h => ?_)
  · obtain ⟨p, n, i, rfl, _⟩ := h
    rfl
  · obtain ⟨p, n, i, rfl, hp, hn, k⟩ := h
    refine ⟨_, (pss_cut (ps_if (PW.pt (pw_and (pt_val (pe_callB call_isi (by rfl) T.n_isinstance (by decide +kernel) (pa_cons (pv 1) (pa_cons (pe_bltn (v := .ty "tuple") (u := .type "tuple") rfl T.n_tuple (by decide +kernel) rfl) pa_nil)))) (pw_and (pt_cmpR (op_neD hr.units) (pv 1) (pe_tup pa_nil) (nomark _)) (pw_and1 (pt_cmpR op_gt (pe_call (ok_l_take T) (hr.mono (by decide)) rfl T.g_l_take T.k_l_take T.B_l_take .nil pass0 (pa_cons (pv 0) (pa_cons pe_int pa_nil))) pe_int (nomark _)))))) pss_never pss_nil)
      (pss_cons (ps_if (pt_val (pe_callB call_isi (by rfl) T.n_isinstance (by decide +kernel) (pa_cons (pv 1) (pa_cons (pe_bltn (v := .ty "tuple") (u := .type "tuple") rfl T.n_tuple (by decide +kernel) rfl) pa_nil)))) pss_never pss_nil)
      (pss_cons (ps_if (pt_val (pe_callB call_isi (by rfl) T.n_isinstance (by decide +kernel) (pa_cons (pv 1) (pa_cons (pe_bltn (v := .ty "bool") (u := .type "bool") rfl T.n_bool (by decide +kernel) rfl) pa_nil)))) pss_never pss_nil)
      (pss_cons (ps_if (pt_val (pe_callB call_isi (by rfl) T.n_isinstance (by decide +kernel) (pa_cons (pv 1) (pa_cons (pe_bltn (v := .ty "int") (u := .type "int") rfl T.n_int (by decide +kernel) rfl) pa_nil)))) (pss_one (ps_ret (pe_call (ok_l_of T) (hr.mono (by decide)) rfl T.g_l_of T.k_l_of T.B_l_of .nil pass0 (pa_cons (pv 0) (pa_cons (pe_lst (pa_cons (pe_op op_add (pv 1) pe_int) (pa_cons (pe_op op_sub (pv 1) pe_int) (pa_cons (pe_cmpR op_eq (pv 1) pe_int (nomark _)) (pa_cons (pe_un un_neg (pv 1)) (pa_cons (pe_callTy call_str_int (by rfl) T.n_str (by decide +kernel) (pa_cons (pe_op op_mod (pe_callTy call_int1 (by rfl) T.n_int (by decide +kernel) (pa_cons (pv 1) pa_nil)) (pe_op op_pow pe_int pe_int)) pa_nil)) (pa_cons pe_non (pa_cons (pe_tup (pa_cons (pv 1) pa_nil)) pa_nil)))))))) pa_nil))))) pss_nil)
      pss_never)))), ?_⟩
    refine ⟨fun σ H' => σ = [some (.ref p), some (.int i), none, none, none] ∧ H = H', ⟨_, rfl, _, _, _, _, false, rfl, .ty _, .base (.int i), kit_ty (by decide +kernel), false, rfl, ite2 (fun h => absurd h (by decide)) fun _ => ⟨rfl, rfl⟩⟩, ?_⟩
    rintro _ _ ⟨rfl, rfl⟩
    refine ⟨_, rfl, _, _, _, _, false, rfl, .ty _, .base (.int i), kit_ty (by decide +kernel), false, rfl, ite2 (fun h => absurd h (by decide)) fun _ => ?_⟩
    refine ⟨_, rfl, _, _, _, _, false, rfl, .ty _, .base (.int i), kit_ty (by decide +kernel), false, rfl, ite2 (fun h => absurd h (by decide)) fun _ => ?_⟩
    refine ⟨_, rfl, _, _, _, _, true, rfl, .ty _, .base (.int i), kit_ty (by decide +kernel), true, rfl, ite2 (fun _ => ?_) fun h => absurd (by decide) h⟩
    have h6 : (0 : Int) < (10 : Int) ^ (6 : Int).toNat := by decide
    have m6 : (i % (10 : Int) ^ (6 : Int).toNat).natAbs < 2 ^ 64 := by
      have h1 := Int.emod_nonneg i (show (10 : Int) ^ (6 : Int).toNat ≠ 0 by decide)
      have h2 := Int.emod_lt_of_pos i h6
      have h3 : (10 : Int) ^ (6 : Int).toNat < 2 ^ 64 := by decide
      omega
    refine ⟨_, rfl, _, rfl, _, _, rfl, rfl, _, rfl, _, _, rfl, rfl, _, rfl, rfl, _, rfl, _, rfl, _, rfl, .inl ⟨_, rfl, _, _, rfl, rfl, ⟨by decide, by decide, by decide⟩, _, _, rfl, rfl, h6, _, rfl, lg m6 (by decide) (by decide), ?_⟩⟩
    refine ⟨_, rfl, by show 1 ≤ sizeLine; decide, fun u hu => ?_⟩
    have e1 := Ex.new (o := .tup [V.int i]) hu
    have u1 : (upd H u (.tup [V.int i])) u = some (.tup [V.int i]) := upd_same
    generalize (upd H u (.tup [V.int i])) = H1 at *
    refine ⟨by show 7 ≤ sizeLine; decide, fun l hl => ?_⟩
    have p1 := hp.ex e1
    refine ⟨p, l, n, _, rfl, p1.ex (Ex.new hl), by omega, upd_same, p1.ne hl, by show 0 < 7; decide, by show 7 ≤ 100000; decide, fun j v H3 hv k3 p3 => ?_⟩
    have e2 := e1.trans (Ex.new (o := .lst [V.int (i + 1), V.int (i - 1), V.bl (decide (V.int i = V.int 1)), V.int (-i), V.str (Str.ofString (toString (i % (10 : Int) ^ (6 : Int).toNat))), V.non, V.ref u]) hl)
    refine k v H3 ((Ex.kp e2).trans k3) p3 ?_
    match j, hv with
    | 0, hv => cases hv; exact .inl ⟨_, rfl⟩
    | 1, hv => cases hv; exact .inl ⟨_, rfl⟩
    | 2, hv => cases hv; exact .inr (.bl _)
    | 3, hv => cases hv; exact .inl ⟨_, rfl⟩
    | 4, hv => cases hv; exact .inr (.str _)
    | 5, hv => cases hv; exact .inr .non
    | 6, hv => cases hv; exact .inr (.tup (k3 _ _ ((Ex.new hl) _ _ u1) (ne_tup u1 p1)))
theorem ok_l_bent (T : Txt K mg a) : FnOk P w K mg base CX0 5 a.l_bent a.l_bent_fd ["pot", "value"] sp_bent := by
  refine T.F_l_bent.ok sc_l_bent (fun vs H Q E h => ?_) (fun cdv A outer s H vs Q E hr h => ?_)
  · obtain ⟨p, t, n, xs, rfl, _⟩ := h
    rfl
  · obtain ⟨p, t, n, xs, rfl, hp, hn, ht, hl, k⟩ := h
    have big : ∀ k : Nat, k ≤ 1000 → k ≤ sizeLine := fun k hk => Nat.le_trans hk (by decide)
    refine ⟨_, (pss_cut (ps_if (PW.pt (pw_and (pt_val (pe_callB call_isi (by rfl) T.n_isinstance (by decide +kernel) (pa_cons (pv 1) (pa_cons (pe_bltn (v := .ty "tuple") (u := .type "tuple") rfl T.n_tuple (by decide +kernel) rfl) pa_nil)))) (pw_and (pt_cmpR (op_neD hr.units) (pv 1) (pe_tup pa_nil) (nomark _)) (pw_and1 (pt_cmpR op_gt (pe_call (ok_l_take T) (hr.mono (by decide)) rfl T.g_l_take T.k_l_take T.B_l_take .nil pass0 (pa_cons (pv 0) (pa_cons pe_int pa_nil))) pe_int (nomark _)))))) (pss_cons (ps_set (i := 2) sc_l_bent.nd rfl (Or.inr rfl) (pe_call (ok_l_take T) (hr.mono (by decide)) rfl T.g_l_take T.k_l_take T.B_l_take .nil pass0 (pa_cons (pv 0) (pa_cons (pe_callB call_len_seq (by rfl) T.n_len (by decide +kernel) (pa_cons (pv 1) pa_nil)) pa_nil))))
      (pss_one (ps_ret (pe_op op_catA (pe_op op_catA (pe_slice sl_tupA (pv 1) po_none (po_some (pv 2))) (pe_tup (pa_cons (pe_call (ok_l_bent_in T) (hr.mono (by decide)) rfl T.g_l_bent T.k_l_bent T.B_l_bent .nil pass0 (pa_cons (pv 0) (pa_cons (pe_ix ix_tup (pv 1) (pv 2) (fun _ _ => rfl)) pa_nil))) pa_nil))) (pe_slice sl_tupA (pv 1) (po_some (pe_op op_add (pv 2) pe_int)) po_none))))) pss_nil)
      (pss_cons (ps_if (pt_val (pe_callB call_isi (by rfl) T.n_isinstance (by decide +kernel) (pa_cons (pv 1) (pa_cons (pe_bltn (v := .ty "tuple") (u := .type "tuple") rfl T.n_tuple (by decide +kernel) rfl) pa_nil)))) (pss_cons (ps_set (i := 3) sc_l_bent.nd rfl (Or.inl rfl) (pe_lst (pa_cons (pe_callTy call_list_of (by rfl) T.n_list (by decide +kernel) (pa_cons (pv 1) pa_nil)) (pa_cons (pe_slice sl_tupA (pv 1) (po_some pe_int) po_none) (pa_cons (pe_slice sl_tupA (pv 1) po_none (po_some (pe_un un_neg pe_int))) (pa_cons (pe_op op_catA (pv 1) (pe_slice sl_tupA (pv 1) (po_some (pe_un un_neg pe_int)) po_none)) (pa_cons (pe_revT (pv 1)) (pa_cons (pe_tup pa_nil) (pa_cons pe_non (pa_cons (pe_op op_catA (pv 1) (pe_tup (pa_cons pe_int pa_nil))) pa_nil))))))))))
      (pss_one (ps_ret (pe_call (ok_l_of T) (hr.mono (by decide)) rfl T.g_l_of T.k_l_of T.B_l_of .nil pass0 (pa_cons (pv 0) (pa_cons (pv 3) pa_nil)))))) pss_nil)
      pss_never)), ?_⟩
    refine ⟨fun σ H' => ∃ m : Nat, m ≤ 1 ∧ Kp p H H' ∧ PotAt H' p (n + m) ∧ H' t = some (.tup (iv xs)) ∧ σ = [some (.ref p), some (.ref t), none, none, none], ?_, ?_⟩
    rotate_left
    · rintro σ H1 ⟨m, hm, k1, p1, t1, rfl⟩
      refine ⟨_, rfl, _, _, _, _, true, rfl, .ty _, .base (.tup t1), kit_ty (by decide +kernel), true, rfl, ite2 (fun _ => ?_) fun h => absurd (by decide) h⟩
      have p1' := p1
      refine ⟨_, rfl, t, _, rfl, .inr (SqT.of t1), fun l1 hl1 => ?_⟩
      have e1 := Ex.new (o := .lst (iv xs)) hl1
      have w1 : NotTup (upd H1 l1 (.lst (iv xs))) (.ref l1) := .lst upd_same
      have t2 := e1 _ _ t1
      have p2 := p1.ex e1
      have k2 := k1.ex e1
      generalize (upd H1 l1 (.lst (iv xs))) = H2 at *
      refine ⟨_, rfl, _, rfl, ?_⟩
      unfold tNoPart
      refine slA_of t2 fun q3 ys3 H3 e3 hq3 my3 ly3 => ?_
      have t3 := e3 _ _ t2
      refine ⟨_, rfl, _, rfl, _, rfl, slA_of t3 fun q4 ys4 H4 e4 hq4 my4 ly4 => ?_⟩
      have t4 := e4 _ _ t3
      refine ⟨_, rfl, _, rfl, _, rfl, _, rfl, slA_of t4 fun q5 ys5 H5 e5 hq5 my5 ly5 => ?_⟩
      have t5 := e5 _ _ t4
      rw [iv_len] at ly3 ly4 ly5
      refine catA_of t5 hq5 (big _ (by rw [iv_len]; omega)) fun q6 H6 e6 hq6 => ?_
      have t6 := e6 _ _ t5
      refine ⟨_, rfl, t, _, rfl, SqT.of t6, fun q7 hq7 => ?_⟩
      have e7 := Ex.new (o := .tup (iv xs).reverse) hq7
      have w7 : (upd H6 q7 (.tup (iv xs).reverse)) q7 = some (.tup (iv xs).reverse) := upd_same
      have t7 := e7 _ _ t6
      generalize (upd H6 q7 (.tup (iv xs).reverse)) = H7 at *
      refine ⟨by show 0 ≤ sizeLine; decide, fun q8 hq8 => ?_⟩
      have e8 := Ex.new (o := .tup []) hq8
      have w8 : (upd H7 q8 (.tup [])) q8 = some (.tup []) := upd_same
      have t8 := e8 _ _ t7
      generalize (upd H7 q8 (.tup [])) = H8 at *
      refine ⟨_, rfl, by show 1 ≤ sizeLine; decide, fun qz hqz => ?_⟩
      have ez := Ex.new (o := .tup [V.int 0]) hqz
      have wz : (upd H8 qz (.tup [V.int 0])) qz = some (.tup [V.int 0]) := upd_same
      have tz := ez _ _ t8
      generalize (upd H8 qz (.tup [V.int 0])) = Hz at *
      refine catA_of tz wz (big _ (by rw [iv_len]; show xs.length + 1 ≤ 1000; omega)) fun q9 H9 e9 hq9 => ?_
      have p9 := (((((((p2.ex e3).ex e4).ex e5).ex e6).ex e7).ex e8).ex ez).ex e9
      have k9 := (((((((k2.ex e3).ex e4).ex e5).ex e6).ex e7).ex e8).ex ez).ex e9
      refine ⟨by show 8 ≤ sizeLine; decide, fun l hl => ?_⟩
      refine ⟨_, rfl, _, rfl, p, l, n + m, _, rfl, p9.ex (Ex.new hl), by omega, upd_same, p9.ne hl, by show 0 < 8; decide, by show 8 ≤ 100000; decide, fun j v H10 hv k10 p10 => ?_⟩
      have el := Ex.new (o := .lst [V.ref l1, V.ref q3, V.ref q4, V.ref q6, V.ref q7, V.ref q8, V.non, V.ref q9]) hl
      have kq := (Ex.kp (p := p) el).trans k10
      have up : ∀ {y : V}, Val H9 y → Val H10 y := fun h => (h.ex el).kp (p9.ex el) p10 k10
      refine k v H10 (k9.trans kq) (p10.mono (by omega)) ?_
      have sub : ∀ {H : Hp} {q : Addr} {ys : List V}, H q = some (.tup ys) → (∀ y ∈ ys, y ∈ iv xs) → ys.length ≤ xs.length → Val H (.ref q) := fun h1 h2 h3 => .inr ⟨_, _, rfl, h1, by omega, fun y hy => ints_part xs y (h2 y hy)⟩
      match j, hv with
      | 0, hv => cases hv; exact up (.inl (w1.ex (e3.trans (e4.trans (e5.trans (e6.trans (e7.trans (e8.trans (ez.trans e9)))))))))
      | 1, hv => cases hv; exact up ((sub hq3 my3 ly3).ex (e4.trans (e5.trans (e6.trans (e7.trans (e8.trans (ez.trans e9)))))))
      | 2, hv => cases hv; exact up ((sub hq4 my4 ly4).ex (e5.trans (e6.trans (e7.trans (e8.trans (ez.trans e9))))))
      | 3, hv =>
        cases hv
        refine up (Val.ex (.inr ⟨q6, _, rfl, hq6, by rw [List.length_append, iv_len]; omega, fun y hy => ?_⟩) (e7.trans (e8.trans (ez.trans e9))))
        rcases List.mem_append.mp hy with h | h
        · exact ints_part xs y h
        · exact ints_part xs y (my5 y h)
      | 4, hv => cases hv; exact up (Val.ex (.inr ⟨q7, _, rfl, w7, by rw [List.length_reverse, iv_len]; omega, fun y hy => ints_part xs y (List.mem_reverse.mp hy)⟩) (e8.trans (ez.trans e9)))
      | 5, hv => cases hv; exact up (Val.ex (.inr ⟨q8, _, rfl, w8, by decide, fun y hy => by cases hy⟩) (ez.trans e9))
      | 6, hv => cases hv; exact .inl .non
      | 7, hv =>
        cases hv
        refine up (.inr ⟨q9, _, rfl, hq9, by rw [List.length_append, iv_len]; show xs.length + 1 ≤ 100; omega, fun y hy => ?_⟩)
        rcases List.mem_append.mp hy with h | h
        · exact ints_part xs y h
        · rw [List.mem_singleton.mp h]; exact .inl ⟨0, rfl⟩
    refine ⟨_, rfl, _, _, _, _, true, rfl, .ty _, .base (.tup ht), kit_ty (by decide +kernel), true, rfl, ite2 (fun _ => ?_) fun h => absurd (by decide) h⟩
    refine ⟨_, rfl, by show 0 ≤ sizeLine; decide, fun u hu => ?_⟩
    have e1 := Ex.new (o := .tup []) hu
    have u1 : (upd H u (.tup [])) u = some (.tup []) := upd_same
    have t1 := e1 _ _ ht
    have p1 := hp.ex e1
    refine ⟨_, _, .tup (SqT.of t1) (dp_ints xs), .tup (SqT.of upd_same) .nil, sh_ints xs, sh_ints [], _, rfl, ?_⟩
    rw [eqv_nil]
    generalize (upd H u (.tup [])) = H1 at *
    refine ite2 (fun hne => ?_) (fun hem => ?_)
    · have pos : 0 < xs.length := by cases xs with
        | nil => cases hne
        | cons x xs => exact Nat.succ_pos _
      refine ⟨_, rfl, p, 6, n, rfl, p1, by omega, by decide, by decide +kernel, fun d H2 k2 p2 d0 d6 => ⟨_, _, rfl, rfl, _, rfl, ?_⟩⟩
      have k12 := (Ex.kp (p := p) e1).trans k2
      have nt := ne_tup t1 p1
      have t2 := k2 _ _ t1 nt
      refine ite2 (fun _ => ?_) (fun _ => ?_)
      · refine ⟨_, rfl, _, rfl, t, _, rfl, .inr (SqT.of t2), p, _, n + 1, rfl, p2, by omega, by rw [iv_len]; omega, by rw [iv_len]; exact Nat.lt_of_le_of_lt (by omega : ((xs.length : Nat) : Int).natAbs ≤ 90) (by decide +kernel), fun at' H3 k3 p3 a0 a1 => ?_⟩
        rw [iv_len] at a1
        have t3 := k3 _ _ t2 nt
        obtain ⟨x, hx, hat⟩ : ∃ x, x ∈ xs ∧ atI (iv xs) at' = some (.int x) := by
          obtain ⟨m, rfl⟩ : ∃ m : Nat, at' = m := ⟨at'.toNat, by omega⟩
          have hm : m < xs.length := by omega
          refine ⟨xs[m], List.getElem_mem hm, atN (m := m) ?_⟩
          unfold iv
          rw [List.getElem?_map, List.getElem?_eq_getElem hm]
          rfl
        refine ⟨_, rfl, _, rfl, _, rfl, slA_of t3 fun q1 ys1 H4 e4 hq1 my1 ly1 => ?_⟩
        have t4 := e4 _ _ t3
        have p4 := p3.ex e4
        refine ⟨_, rfl, _, rfl, _, rfl, t, _, _, _, rfl, rfl, SqT.of t4, hat, p, n + 2, x, rfl, p4, by omega, fun v H5 k5 p5 hv => ?_⟩
        have nq1 := ne_tup hq1 p4
        refine ⟨by show 1 ≤ sizeLine; decide, fun u6 hu6 => ?_⟩
        have e6 := Ex.new (o := .tup [v]) hu6
        have x6 : (upd H5 u6 (.tup [v])) u6 = some (.tup [v]) := upd_same
        have q6 := e6 _ _ (k5 _ _ hq1 nq1)
        have t6 := e6 _ _ (k5 _ _ t4 nt)
        have v6 := hv.ex e6
        have p6 := p5.ex e6
        have k6 := (((k12.trans k3).ex e4).trans k5).ex e6
        generalize (upd H5 u6 (.tup [v])) = H6 at *
        rw [iv_len] at ly1
        refine catA_of q6 x6 (big _ (by show ys1.length + 1 ≤ 1000; omega)) fun q7 H7 e7 hq7 => ?_
        have t7 := e7 _ _ t6
        refine ⟨_, rfl, _, rfl, _, _, rfl, rfl, _, rfl, ?_⟩
        unfold tNoPart
        refine slA_of t7 fun q8 ys8 H8 e8 hq8 my8 ly8 => ?_
        rw [iv_len] at ly8
        refine catA_of (e8 _ _ hq7) hq8 (big _ (by rw [List.length_append]; show ys1.length + 1 + ys8.length ≤ 1000; omega)) fun q9 H9 e9 hq9 => ?_
        have e69 := (e7.trans e8).trans e9
        refine k _ H9 (k6.ex e69) ((p6.ex e69).mono (by omega)) ?_
        exact .inr ⟨q9, _, rfl, hq9, by rw [List.length_append, List.length_append]; show ys1.length + 1 + ys8.length ≤ 100; omega, fun y hy => by
          rcases List.mem_append.mp hy with h | h
          · rcases List.mem_append.mp h with h | h
            · exact ints_part xs y (my1 y h)
            · rw [List.mem_singleton.mp h]; exact v6.ex e69
          · exact ints_part xs y (my8 y h)⟩
      · exact ⟨1, by decide, k12, p2, t2, rfl⟩
    · exact ⟨0, by decide, Ex.kp e1, p1, t1, rfl⟩
end
end My


set_option Elab.async false
set_option maxRecDepth 100000
set_option maxHeartbeats 4000000
set_option exponentiation.threshold 6000
namespace My
open PySem L2 Evl
def sp_odd : Sp := fun vs H Q _ => ∃ (p : Addr) (n : Nat), vs = [.ref p] ∧ PotAt H p n ∧ n ≤ 100000 ∧ ∀ v H', Kp p H H' → PotAt H' p (n + 1) → Val H' v → Q v H'
theorem ex_twice {H : Hp} {q : Addr} {o o' : HO} (h : H q = none) : Ex H (upd (upd H q o) q o') := fun b x hb => by
  have hn : b ≠ q := by rintro rfl; rw [h] at hb; cases hb
  rw [upd_ne hn, upd_ne hn]; exact hb
section
variable {P : Program} {w : World} {K : PySem.W.Frag} {mg : Str → Option Value} {base : Heap} {a : Ad}
theorem ok_l_odd (T : Txt K mg a) : FnOk P w K mg base CX0 3 a.l_odd a.l_odd_fd ["pot"] sp_odd := by
  refine T.F_l_odd.ok sc_l_odd (fun vs H Q E h => ?_) (fun cdv A outer s H vs Q E hr h => ?_)
  · obtain ⟨p, n, rfl, _⟩ := h
    rfl
  · obtain ⟨p, n, rfl, hp, hn, k⟩ := h
    refine ⟨_, (pss_cut (ps_set (i := 1) sc_l_odd.nd rfl (Or.inl rfl) (pe_lst (pa_cons pe_non (pa_cons pe_bl (pa_cons pe_bl (pa_cons pe_int (pa_cons pe_int (pa_cons (pe_un un_neg pe_int) (pa_cons pe_int (pa_cons (pe_op op_pow pe_int pe_int) (pa_cons pe_str (pa_cons pe_str (pa_cons pe_str (pa_cons pe_str (pa_cons pe_str (pa_cons pe_str (pa_cons (pe_tup pa_nil) (pa_cons (pe_lst pa_nil) (pa_cons pe_dnewK (pa_cons (pe_tup (pa_cons pe_int pa_nil)) (pa_cons (pe_tup (pa_cons pe_int (pa_cons pe_int pa_nil))) pa_nil)))))))))))))))))))))
      (pss_cons (ps_set (i := 1) sc_l_odd.nd rfl (Or.inl rfl) (pe_op op_cat (pv 1) (pe_lst (pa_cons (pe_tup (pa_cons pe_int (pa_cons pe_int pa_nil))) (pa_cons (pe_tup (pa_cons (pe_tup pa_nil) pa_nil)) (pa_cons (pe_lst (pa_cons pe_int pa_nil)) (pa_cons (pe_tup (pa_cons pe_non pa_nil)) (pa_cons (pe_disp (pps_cons pe_str pe_int pps_nil) (by rfl) (by rfl) (fun z => by cases z) (by decide)) (pa_cons (pe_tup (pa_cons pe_bl pa_nil)) (pa_cons pe_str (pa_cons (pe_tup (pa_cons pe_str pa_nil)) (pa_cons (pe_tup (pa_cons pe_str pa_nil)) (pa_cons (pe_tup (pa_cons pe_str pa_nil)) (pa_cons (pe_tup (pa_cons pe_int (pa_cons pe_int pa_nil))) pa_nil))))))))))))))
      (pss_one (ps_ret (pe_call (ok_l_of T) (hr.mono (by decide)) rfl T.g_l_of T.k_l_of T.B_l_of .nil pass0 (pa_cons (pv 0) (pa_cons (pv 1) pa_nil))))))), ?_⟩
    refine ⟨fun σ H' => ∃ (l : Addr) (vs : List V), Ex H H' ∧ H l = none ∧ H' l = some (.lst vs) ∧ vs.length = 19 ∧ (∀ v ∈ vs, Val H' v) ∧ σ = [some (.ref p), some (.ref l)], ?_, ?_⟩
    · refine ⟨_, rfl, ?_⟩
      refine ⟨_, _, rfl, rfl, ⟨by decide, by decide, by decide⟩, ?_⟩
      refine ⟨by show 0 ≤ sizeLine; decide, fun q1 h1 => ?_⟩
      have e1 := Ex.new (o := .tup []) h1
      have w1 : (upd H q1 (.tup [])) q1 = some (.tup []) := upd_same
      generalize (upd H q1 (.tup [])) = A1 at *
      refine ⟨by show 0 ≤ sizeLine; decide, fun q2 h2 => ?_⟩
      have e2 := Ex.new (o := .lst []) h2
      have w2 : (upd A1 q2 (.lst [])) q2 = some (.lst []) := upd_same
      generalize (upd A1 q2 (.lst [])) = A2 at *
      refine fun q3 h3 => ?_
      have e3 := Ex.new (o := .dK []) h3
      have w3 : (upd A2 q3 (.dK [])) q3 = some (.dK []) := upd_same
      generalize (upd A2 q3 (.dK [])) = A3 at *
      refine ⟨by show 1 ≤ sizeLine; decide, fun q4 h4 => ?_⟩
      have e4 := Ex.new (o := .tup [V.int 0]) h4
      have w4 : (upd A3 q4 (.tup [V.int 0])) q4 = some (.tup [V.int 0]) := upd_same
      generalize (upd A3 q4 (.tup [V.int 0])) = A4 at *
      refine ⟨by show 2 ≤ sizeLine; decide, fun q5 h5 => ?_⟩
      have e5 := Ex.new (o := .tup [V.int 0, V.int 1]) h5
      have w5 : (upd A4 q5 (.tup [V.int 0, V.int 1])) q5 = some (.tup [V.int 0, V.int 1]) := upd_same
      generalize (upd A4 q5 (.tup [V.int 0, V.int 1])) = A5 at *
      refine ⟨by show 19 ≤ sizeLine; decide, fun l hl => ?_⟩
      have el := Ex.new (o := .lst [V.non, V.bl true, V.bl false, V.int 0, V.int 1, V.int (-1), V.int 7, V.int (10 ^ (8 : Int).toNat), V.str (Str.ofString ""), V.str (Str.ofString "s"), V.str (Str.ofString "t"), V.str (Str.ofString "near"), V.str (Str.ofString "x"), V.str (Str.ofString "tell t"), V.ref q1, V.ref q2, V.ref q3, V.ref q4, V.ref q5]) hl
      have c5 := el
      have c4 := e5.trans c5
      have c3 := e4.trans c4
      have c2 := e3.trans c3
      have c1 := e2.trans c2
      have c0 := e1.trans c1
      have hl0 : H l = none := by
       cases hh : H l with
       | none => rfl
       | some o => exact absurd ((((((e1.trans e2).trans e3).trans e4).trans e5) _ _ hh).symm.trans hl) (by intro z; cases z)
      refine ⟨l, _, c0, hl0, upd_same, rfl, ?_, rfl⟩
      intro v hv
      rcases List.mem_cons.mp hv with rfl | hv
      · exact .inl .non
      rcases List.mem_cons.mp hv with rfl | hv
      · exact .inl (.bl _)
      rcases List.mem_cons.mp hv with rfl | hv
      · exact .inl (.bl _)
      rcases List.mem_cons.mp hv with rfl | hv
      · exact .inl (.int _)
      rcases List.mem_cons.mp hv with rfl | hv
      · exact .inl (.int _)
      rcases List.mem_cons.mp hv with rfl | hv
      · exact .inl (.int _)
      rcases List.mem_cons.mp hv with rfl | hv
      · exact .inl (.int _)
      rcases List.mem_cons.mp hv with rfl | hv
      · exact .inl (.int _)
      rcases List.mem_cons.mp hv with rfl | hv
      · exact .inl (.str _)
      rcases List.mem_cons.mp hv with rfl | hv
      · exact .inl (.str _)
      rcases List.mem_cons.mp hv with rfl | hv
      · exact .inl (.str _)
      rcases List.mem_cons.mp hv with rfl | hv
      · exact .inl (.str _)
      rcases List.mem_cons.mp hv with rfl | hv
      · exact .inl (.str _)
      rcases List.mem_cons.mp hv with rfl | hv
      · exact .inl (.str _)
      rcases List.mem_cons.mp hv with rfl | hv
      · exact .inr ⟨_, _, rfl, c1 _ _ w1, by decide, fun y hy => by cases hy⟩
      rcases List.mem_cons.mp hv with rfl | hv
      · exact .inl (.lst (c2 _ _ w2))
      rcases List.mem_cons.mp hv with rfl | hv
      · exact .inl (.dK (c3 _ _ w3))
      rcases List.mem_cons.mp hv with rfl | hv
      · exact .inr ⟨_, _, rfl, c4 _ _ w4, by decide, fun y hy => by rw [List.mem_singleton.mp hy]; exact .inl ⟨0, rfl⟩⟩
      rcases List.mem_cons.mp hv with rfl | hv
      · exact .inr ⟨_, _, rfl, c5 _ _ w5, by decide, fun y hy => by rcases List.mem_cons.mp hy with rfl | hy; exact .inl ⟨0, rfl⟩; rw [List.mem_singleton.mp hy]; exact .inl ⟨1, rfl⟩⟩
      cases hv
    · rintro σ G0 ⟨l, vs, eG, hl, hlv, h19, hvs, rfl⟩
      refine ⟨_, rfl, ?_⟩
      refine ⟨by show 2 ≤ sizeLine; decide, fun q1 h1 => ?_⟩
      have e1 := Ex.new (o := .tup [V.int 1, V.int 0]) h1
      have w1 : (upd G0 q1 (.tup [V.int 1, V.int 0])) q1 = some (.tup [V.int 1, V.int 0]) := upd_same
      generalize (upd G0 q1 (.tup [V.int 1, V.int 0])) = B1 at *
      refine ⟨by show 0 ≤ sizeLine; decide, fun q2 h2 => ?_⟩
      have e2 := Ex.new (o := .tup []) h2
      have w2 : (upd B1 q2 (.tup [])) q2 = some (.tup []) := upd_same
      generalize (upd B1 q2 (.tup [])) = B2 at *
      refine ⟨by show 1 ≤ sizeLine; decide, fun q3 h3 => ?_⟩
      have e3 := Ex.new (o := .tup [V.ref q2]) h3
      have w3 : (upd B2 q3 (.tup [V.ref q2])) q3 = some (.tup [V.ref q2]) := upd_same
      generalize (upd B2 q3 (.tup [V.ref q2])) = B3 at *
      refine ⟨by show 1 ≤ sizeLine; decide, fun q4 h4 => ?_⟩
      have e4 := Ex.new (o := .lst [V.int 0]) h4
      have w4 : (upd B3 q4 (.lst [V.int 0])) q4 = some (.lst [V.int 0]) := upd_same
      generalize (upd B3 q4 (.lst [V.int 0])) = B4 at *
      refine ⟨by show 1 ≤ sizeLine; decide, fun q5 h5 => ?_⟩
      have e5 := Ex.new (o := .tup [V.non]) h5
      have w5 : (upd B4 q5 (.tup [V.non])) q5 = some (.tup [V.non]) := upd_same
      generalize (upd B4 q5 (.tup [V.non])) = B5 at *
      refine fun q6 h6 => ⟨upd_same, [(.inr (Str.ofString "a"), V.int 1)], rfl, by decide, ?_⟩
      obtain ⟨B6, w6, e6, hG⟩ : ∃ G, G q6 = some (.dK (mergeK [] [(.inr (Str.ofString "a"), V.int 1)])) ∧ Ex B5 G ∧ (upd (upd B5 q6 (.dK [])) q6 (.dK (mergeK [] [(.inr (Str.ofString "a"), V.int 1)]))) = G := ⟨_, upd_same, ex_twice h6, rfl⟩
      rw [hG]
      refine ⟨by show 1 ≤ sizeLine; decide, fun q7 h7 => ?_⟩
      have e7 := Ex.new (o := .tup [V.bl true]) h7
      have w7 : (upd B6 q7 (.tup [V.bl true])) q7 = some (.tup [V.bl true]) := upd_same
      generalize (upd B6 q7 (.tup [V.bl true])) = B7 at *
      refine ⟨by show 1 ≤ sizeLine; decide, fun q8 h8 => ?_⟩
      have e8 := Ex.new (o := .tup [V.str (Str.ofString "s")]) h8
      have w8 : (upd B7 q8 (.tup [V.str (Str.ofString "s")])) q8 = some (.tup [V.str (Str.ofString "s")]) := upd_same
      generalize (upd B7 q8 (.tup [V.str (Str.ofString "s")])) = B8 at *
      refine ⟨by show 1 ≤ sizeLine; decide, fun q9 h9 => ?_⟩
      have e9 := Ex.new (o := .tup [V.str (Str.ofString "box")]) h9
      have w9 : (upd B8 q9 (.tup [V.str (Str.ofString "box")])) q9 = some (.tup [V.str (Str.ofString "box")]) := upd_same
      generalize (upd B8 q9 (.tup [V.str (Str.ofString "box")])) = B9 at *
      refine ⟨by show 1 ≤ sizeLine; decide, fun q10 h10 => ?_⟩
      have e10 := Ex.new (o := .tup [V.str (Str.ofString "sound")]) h10
      have w10 : (upd B9 q10 (.tup [V.str (Str.ofString "sound")])) q10 = some (.tup [V.str (Str.ofString "sound")]) := upd_same
      generalize (upd B9 q10 (.tup [V.str (Str.ofString "sound")])) = B10 at *
      refine ⟨by show 2 ≤ sizeLine; decide, fun q11 h11 => ?_⟩
      have e11 := Ex.new (o := .tup [V.int 0, V.int 16]) h11
      have w11 : (upd B10 q11 (.tup [V.int 0, V.int 16])) q11 = some (.tup [V.int 0, V.int 16]) := upd_same
      generalize (upd B10 q11 (.tup [V.int 0, V.int 16])) = B11 at *
      refine ⟨by show 11 ≤ sizeLine; decide, fun m hm => ?_⟩
      have em := Ex.new (o := .lst [V.ref q1, V.ref q3, V.ref q4, V.ref q5, V.ref q6, V.ref q7, V.str (Str.ofString "sound"), V.ref q8, V.ref q9, V.ref q10, V.ref q11]) hm
      have wm : (upd B11 m (.lst [V.ref q1, V.ref q3, V.ref q4, V.ref q5, V.ref q6, V.ref q7, V.str (Str.ofString "sound"), V.ref q8, V.ref q9, V.ref q10, V.ref q11])) m = some (.lst [V.ref q1, V.ref q3, V.ref q4, V.ref q5, V.ref q6, V.ref q7, V.str (Str.ofString "sound"), V.ref q8, V.ref q9, V.ref q10, V.ref q11]) := upd_same
      generalize (upd B11 m (.lst [V.ref q1, V.ref q3, V.ref q4, V.ref q5, V.ref q6, V.ref q7, V.str (Str.ofString "sound"), V.ref q8, V.ref q9, V.ref q10, V.ref q11])) = B12 at *
      have c11 := em
      have c10 := e11.trans c11
      have c9 := e10.trans c10
      have c8 := e9.trans c9
      have c7 := e8.trans c8
      have c6 := e7.trans c7
      have c5 := e6.trans c6
      have c4 := e5.trans c5
      have c3 := e4.trans c4
      have c2 := e3.trans c3
      have c1 := e2.trans c2
      have c0 := e1.trans c1
      have all2 : ∀ v ∈ [V.ref q1, V.ref q3, V.ref q4, V.ref q5, V.ref q6, V.ref q7, V.str (Str.ofString "sound"), V.ref q8, V.ref q9, V.ref q10, V.ref q11], Val B12 v := by
        intro v hv
        rcases List.mem_cons.mp hv with rfl | hv
        · exact .inr ⟨_, _, rfl, c1 _ _ w1, by decide, fun y hy => by rcases List.mem_cons.mp hy with rfl | hy; exact .inl ⟨1, rfl⟩; rw [List.mem_singleton.mp hy]; exact .inl ⟨0, rfl⟩⟩
        rcases List.mem_cons.mp hv with rfl | hv
        · exact .inr ⟨_, _, rfl, c3 _ _ w3, Nat.le_of_ble_eq_true rfl, fun y hy => by rw [List.mem_singleton.mp hy]; exact .inr (.tup (c2 _ _ w2))⟩
        rcases List.mem_cons.mp hv with rfl | hv
        · exact .inl (.lst (c4 _ _ w4))
        rcases List.mem_cons.mp hv with rfl | hv
        · exact .inr ⟨_, _, rfl, c5 _ _ w5, Nat.le_of_ble_eq_true rfl, fun y hy => by rw [List.mem_singleton.mp hy]; exact .inr .non⟩
        rcases List.mem_cons.mp hv with rfl | hv
        · exact .inl (.dK (c6 _ _ w6))
        rcases List.mem_cons.mp hv with rfl | hv
        · exact .inr ⟨_, _, rfl, c7 _ _ w7, Nat.le_of_ble_eq_true rfl, fun y hy => by rw [List.mem_singleton.mp hy]; exact .inr (.bl _)⟩
        rcases List.mem_cons.mp hv with rfl | hv
        · exact .inl (.str _)
        rcases List.mem_cons.mp hv with rfl | hv
        · exact .inr ⟨_, _, rfl, c8 _ _ w8, Nat.le_of_ble_eq_true rfl, fun y hy => by rw [List.mem_singleton.mp hy]; exact .inr (.str _)⟩
        rcases List.mem_cons.mp hv with rfl | hv
        · exact .inr ⟨_, _, rfl, c9 _ _ w9, Nat.le_of_ble_eq_true rfl, fun y hy => by rw [List.mem_singleton.mp hy]; exact .inr (.str _)⟩
        rcases List.mem_cons.mp hv with rfl | hv
        · exact .inr ⟨_, _, rfl, c10 _ _ w10, Nat.le_of_ble_eq_true rfl, fun y hy => by rw [List.mem_singleton.mp hy]; exact .inr (.str _)⟩
        rcases List.mem_cons.mp hv with rfl | hv
        · exact .inr ⟨_, _, rfl, c11 _ _ w11, by decide, fun y hy => by rcases List.mem_cons.mp hy with rfl | hy; exact .inl ⟨0, rfl⟩; rw [List.mem_singleton.mp hy]; exact .inl ⟨16, rfl⟩⟩
        cases hv
      refine ⟨l, m, vs, _, rfl, rfl, c0 _ _ hlv, wm, by rw [h19]; show 19 + 11 ≤ sizeLine; decide, fun z hz => ?_⟩
      have pz := ((hp.ex eG).ex c0).ex (Ex.new (o := .lst (vs ++ [V.ref q1, V.ref q3, V.ref q4, V.ref q5, V.ref q6, V.ref q7, V.str (Str.ofString "sound"), V.ref q8, V.ref q9, V.ref q10, V.ref q11])) hz)
      refine ⟨_, rfl, _, rfl, p, z, n, _, rfl, pz, hn, upd_same, ((hp.ex eG).ex c0).ne hz, by rw [List.length_append, h19]; show 0 < 19 + 11; decide, by rw [List.length_append, h19]; show 19 + 11 ≤ 100000; decide, fun j v H' hv kp pp => ?_⟩
      refine k v H' (((Ex.kp (p := p) (eG.trans c0)).ex (Ex.new hz)).trans kp) pp ?_
      refine Val.kp (Val.ex (?_ : Val B12 v) (Ex.new hz)) pz pp kp
      rcases List.mem_append.mp (List.mem_of_getElem? hv) with h | h
      · exact (hvs v h).ex c0
      · exact all2 v h
end
end My


set_option Elab.async false
set_option maxRecDepth 100000
set_option maxHeartbeats 4000000
set_option exponentiation.threshold 6000
namespace My
open PySem L2 Evl
def sp_near : Sp := fun vs H Q _ => ∃ (p t e : Addr) (n : Nat) (xs es : List Int), vs = [.ref p, .ref t, .ref e] ∧ PotAt H p n ∧ n + 1 ≤ 100000 ∧ H t = some (.tup (iv xs)) ∧ xs.length ≤ 40 ∧ H e = some (.lst (iv es)) ∧ e ≠ p ∧ 0 < es.length ∧ es.length ≤ 100000 ∧
  ∀ (l : Addr) (vs : List V) (m : Nat) (H' : Hp), Kp p H H' → H l = none → PotAt H' p (n + m) → m ≤ 1 → H' l = some (.lst vs) → vs.length ≤ 12 → (∀ v ∈ vs, Val H' v) → Q (.ref l) H'
section
variable {P : Program} {w : World} {K : PySem.W.Frag} {mg : Str → Option Value} {base : Heap} {a : Ad}
theorem ok_l_near_rows (T : Txt K mg a) : FnOk P w K mg base CX0 3 a.l_near_rows a.l_near_rows_fd ["pot", "row", "every"] sp_near := by
  refine T.F_l_near_rows.ok sc_l_near_rows (fun vs H Q E h => ?_) (fun cdv A outer s H vs Q E hr h => ?_)
  · obtain ⟨p, t, e, n, xs, es, rfl, _⟩ := h
    rfl
  · obtain ⟨p, t, e, n, xs, es, rfl, hp, hn, ht, hx, he, hep, hes, hes2, k⟩ := h
    have big : ∀ k : Nat, k ≤ 1000 → k ≤ sizeLine := fun k hk => Nat.le_trans hk (by decide)
    obtain ⟨e0, hat⟩ : ∃ x, atI (iv es) 0 = some (.int x) := by
      cases es with
      | nil => exact absurd hes (by decide)
      | cons x es => exact ⟨x, atN (m := 0) rfl⟩
    have Ht := ht
    refine ⟨_, (pss_cut (ps_set (i := 3) sc_l_near_rows.nd rfl (Or.inl rfl) (pe_lst (pa_cons (pv 1) (pa_cons (pe_revT (pv 1)) (pa_cons (pe_op op_catA (pv 1) (pe_tup (pa_cons pe_int pa_nil))) (pa_cons (pe_slice sl_tupA (pv 1) po_none (po_some (pe_un un_neg pe_int))) (pa_cons (pe_callTy call_list_of (by rfl) T.n_list (by decide +kernel) (pa_cons (pv 1) pa_nil)) (pa_cons (pe_op op_catA (pv 1) (pe_tup (pa_cons (pe_ix ix_list (pv 2) pe_int (fun _ _ => rfl)) (pa_cons (pe_un un_neg (pe_ix ix_list (pv 2) pe_int (fun _ _ => rfl))) pa_nil)))) (pa_cons (pe_tup (pa_cons (pe_callB (cr_sumT rfl) (by rfl) T.n_sum (by decide +kernel) (pa_cons (pv 1) pa_nil)) pa_nil)) (pa_cons (pe_tup pa_nil) (pa_cons pe_non pa_nil)))))))))))
      (pss_cons (ps_if (pt_cmpR (op_neD hr.units) (pv 1) (pe_tup pa_nil) (nomark _)) (pss_cons (ps_par (i := 4) (j := 5) (by rfl) sc_l_near_rows.nd rfl rfl (by decide) rfl rfl (pa_cons (pe_call (ok_l_of T) (hr.mono (by decide)) rfl T.g_l_of T.k_l_of T.B_l_of .nil pass0 (pa_cons (pv 0) (pa_cons (pv 2) pa_nil))) (pa_cons (pe_ix ix_tup (pv 1) pe_int (fun _ _ => rfl)) pa_nil)) (by rfl))
      (pss_one (ps_expr (pe_bm PySem.F.plainAttrs_list PySem.F.slot_list_extend PySem.F.type_list_extend mt_extend (pv 3) (pa_cons (pe_lst (pa_cons (pe_op op_catA (pe_tup (pa_cons (pv 4) (pa_cons (pe_op op_sub (pv 5) (pv 4)) pa_nil))) (pe_slice sl_tupA (pv 1) (po_some pe_int) po_none)) (pa_cons (pe_op op_catA (pe_tup (pa_cons (pe_op op_sub (pv 5) (pv 4)) (pa_cons (pv 4) pa_nil))) (pe_slice sl_tupA (pv 1) (po_some pe_int) po_none)) (pa_cons (pe_op op_catA (pe_tup (pa_cons (pv 5) (pa_cons pe_int pa_nil))) (pe_slice sl_tupA (pv 1) (po_some pe_int) po_none)) pa_nil)))) pa_nil))))) pss_nil)
      (pss_one (ps_ret (pv 3))))), ?_⟩
    refine ⟨fun σ H' => ∃ (l : Addr) (HA : Hp) (vs : List V), Ex H HA ∧ HA l = none ∧ H' = upd HA l (.lst vs) ∧ vs.length = 9 ∧ (∀ v ∈ vs, Val HA v) ∧ σ = [some (.ref p), some (.ref t), some (.ref e), some (.ref l), none, none], ?_, ?_⟩
    · refine ⟨_, rfl, _, rfl, t, _, rfl, SqT.of ht, fun q1 h1 => ?_⟩
      have e1 := Ex.new (o := .tup (iv xs).reverse) h1
      have w1 : (upd H q1 (.tup (iv xs).reverse)) q1 = some (.tup (iv xs).reverse) := upd_same
      have ht := e1 _ _ ht
      have he := e1 _ _ he
      generalize (upd H q1 (.tup (iv xs).reverse)) = A1 at *
      refine ⟨_, rfl, by show 1 ≤ sizeLine; decide, fun q2 h2 => ?_⟩
      have e2 := Ex.new (o := .tup [V.int 0]) h2
      have w2 : (upd A1 q2 (.tup [V.int 0])) q2 = some (.tup [V.int 0]) := upd_same
      have ht := e2 _ _ ht
      have he := e2 _ _ he
      generalize (upd A1 q2 (.tup [V.int 0])) = A2 at *
      refine catA_of ht w2 (big _ (by rw [iv_len]; show xs.length + 1 ≤ 1000; omega)) fun q3 A3 e3 w3 => ?_
      have ht := e3 _ _ ht
      have he := e3 _ _ he
      refine ⟨_, rfl, ?_⟩
      unfold tNoPart
      refine ⟨_, rfl, _, rfl, slA_of ht fun q4 ys4 A4 e4 w4 my4 ly4 => ?_⟩
      have ht := e4 _ _ ht
      have he := e4 _ _ he
      refine ⟨_, rfl, t, _, rfl, .inr (SqT.of ht), fun q5 h5 => ?_⟩
      have e5 := Ex.new (o := .lst (iv xs)) h5
      have w5 : (upd A4 q5 (.lst (iv xs))) q5 = some (.lst (iv xs)) := upd_same
      have ht := e5 _ _ ht
      have he := e5 _ _ he
      generalize (upd A4 q5 (.lst (iv xs))) = A5 at *
      refine ⟨_, rfl, _, rfl, e, _, _, _, rfl, rfl, SqL.of he, hat, _, rfl, e, _, _, _, rfl, rfl, SqL.of he, hat, _, rfl, by show 2 ≤ sizeLine; decide, fun q6 h6 => ?_⟩
      have e6 := Ex.new (o := .tup [V.int e0, V.int (-e0)]) h6
      have w6 : (upd A5 q6 (.tup [V.int e0, V.int (-e0)])) q6 = some (.tup [V.int e0, V.int (-e0)]) := upd_same
      have ht := e6 _ _ ht
      generalize (upd A5 q6 (.tup [V.int e0, V.int (-e0)])) = A6 at *
      refine catA_of ht w6 (big _ (by rw [iv_len]; show xs.length + 2 ≤ 1000; omega)) fun q7 A7 e7 w7 => ?_
      have ht := e7 _ _ ht
      refine ⟨_, rfl, t, xs, rfl, SqT.of ht, by show 1 ≤ sizeLine; decide, fun q8 h8 => ?_⟩
      have e8 := Ex.new (o := .tup [V.int xs.sum]) h8
      have w8 : (upd A7 q8 (.tup [V.int xs.sum])) q8 = some (.tup [V.int xs.sum]) := upd_same
      have ht := e8 _ _ ht
      generalize (upd A7 q8 (.tup [V.int xs.sum])) = A8 at *
      refine ⟨by show 0 ≤ sizeLine; decide, fun q9 h9 => ?_⟩
      have e9 := Ex.new (o := .tup []) h9
      have w9 : (upd A8 q9 (.tup [])) q9 = some (.tup []) := upd_same
      have ht := e9 _ _ ht
      generalize (upd A8 q9 (.tup [])) = A9 at *
      refine ⟨by show 9 ≤ sizeLine; decide, fun l hl => ?_⟩
      have c8 := e9
      have c7 := e8.trans c8
      have c6 := e7.trans c7
      have c5 := e6.trans c6
      have c4 := e5.trans c5
      have c3 := e4.trans c4
      have c2 := e3.trans c3
      have c1 := e2.trans c2
      have c0 := e1.trans c1
      refine ⟨l, A9, _, c0, hl, rfl, rfl, ?_, rfl⟩
      rw [iv_len] at ly4
      have sub : ∀ {H : Hp} {q : Addr} {ys : List V}, H q = some (.tup ys) → ys.length ≤ 100 → (∀ y ∈ ys, ∃ i : Int, y = .int i) → Val H (.ref q) := fun h1 h2 h3 => .inr ⟨_, _, rfl, h1, h2, fun y hy => .inl (h3 y hy)⟩
      have ivm : ∀ y ∈ iv xs, ∃ i : Int, y = .int i := fun y hy => by
        obtain ⟨i, _, rfl⟩ := List.mem_map.mp hy
        exact ⟨i, rfl⟩
      intro v hv
      rcases List.mem_cons.mp hv with rfl | hv
      · exact sub ht (by rw [iv_len]; omega) ivm
      rcases List.mem_cons.mp hv with rfl | hv
      · exact sub (c1 _ _ w1) (by rw [List.length_reverse, iv_len]; omega) fun y hy => ivm y (List.mem_reverse.mp hy)
      rcases List.mem_cons.mp hv with rfl | hv
      · refine sub (c3 _ _ w3) (by rw [List.length_append, iv_len]; show xs.length + 1 ≤ 100; omega) fun y hy => ?_
        rcases List.mem_append.mp hy with h | h
        · exact ivm y h
        · exact ⟨0, List.mem_singleton.mp h⟩
      rcases List.mem_cons.mp hv with rfl | hv
      · exact sub (c4 _ _ w4) (by omega) fun y hy => ivm y (my4 y hy)
      rcases List.mem_cons.mp hv with rfl | hv
      · exact .inl (.lst (c5 _ _ w5))
      rcases List.mem_cons.mp hv with rfl | hv
      · refine sub (c7 _ _ w7) (by rw [List.length_append, iv_len]; show xs.length + 2 ≤ 100; omega) fun y hy => ?_
        rcases List.mem_append.mp hy with h | h
        · exact ivm y h
        · rcases List.mem_cons.mp h with rfl | h
          · exact ⟨_, rfl⟩
          · exact ⟨_, List.mem_singleton.mp h⟩
      rcases List.mem_cons.mp hv with rfl | hv
      · exact sub (c8 _ _ w8) (Nat.le_of_ble_eq_true rfl) fun y hy => ⟨_, List.mem_singleton.mp hy⟩
      rcases List.mem_cons.mp hv with rfl | hv
      · exact sub w9 (Nat.le_of_ble_eq_true rfl) fun y hy => by cases hy
      rcases List.mem_cons.mp hv with rfl | hv
      · exact .inl .non
      cases hv
    · rintro σ _ ⟨l, HA, vs, eA, hl, rfl, h9, hvs, rfl⟩
      have kA := Ex.kp (p := p) eA
      have pA := hp.ex eA
      have e0' := Ex.new (o := .lst vs) hl
      have hG : (upd HA l (.lst vs)) l = some (.lst vs) := upd_same
      have hl0 : H l = none := by
        cases hh : H l with
        | none => rfl
        | some o => exact absurd ((eA _ _ hh).symm.trans hl) (by intro z; cases z)
      have ht := e0' _ _ (eA _ _ ht)
      have he := e0' _ _ (eA _ _ he)
      have p0 := pA.ex e0'
      have hlp : l ≠ p := pA.ne hl
      generalize (upd HA l (.lst vs)) = G0 at *
      refine ⟨_, rfl, by show 0 ≤ sizeLine; decide, fun u hu => ?_⟩
      have e1 := Ex.new (o := .tup []) hu
      have u1 : (upd G0 u (.tup [])) u = some (.tup []) := upd_same
      have t1 := e1 _ _ ht
      have s1 := e1 _ _ he
      have p1 := p0.ex e1
      have l1 := e1 _ _ hG
      refine ⟨_, _, .tup (SqT.of t1) (dp_ints xs), .tup (SqT.of upd_same) .nil, sh_ints xs, sh_ints [], _, rfl, ?_⟩
      rw [eqv_nil]
      generalize (upd G0 u (.tup [])) = G1 at *
      refine ite2 (fun hne => ?_) (fun hem => ?_)
      · have pos : 0 < xs.length := by cases xs with
          | nil => cases hne
          | cons x xs => exact Nat.succ_pos _
        obtain ⟨x0, hx0⟩ : ∃ x, atI (iv xs) 0 = some (.int x) := by
          cases xs with
          | nil => exact absurd pos (by decide)
          | cons x xs => exact ⟨x, atN (m := 0) rfl⟩
        refine ⟨_, rfl, _, rfl, p, e, n, iv es, rfl, p1, by omega, s1, hep, by rw [iv_len]; exact hes, by rw [iv_len]; exact hes2, fun i v G2 hv k2 p2 => ?_⟩
        obtain ⟨z, hz, rfl⟩ := iv_get hv
        have t2 := k2 _ _ t1 (ne_tup t1 p1)
        have l2 := k2 _ _ l1 hlp
        refine ⟨_, rfl, t, _, _, _, rfl, rfl, SqT.of t2, hx0, ?_⟩
        refine ⟨_, _, rfl, ?_⟩
        have k02 := ((kA.ex e0').ex e1).trans k2
        unfold tNoPart
        refine ⟨_, rfl, .inl ⟨rfl, _, SqL.of l2⟩, _, rfl, _, rfl, _, rfl, _, _, rfl, rfl, by show 2 ≤ sizeLine; decide, fun qa0 ha0 => ?_⟩
        have ea0 := Ex.new (o := .tup [V.int z, V.int (x0 - z)]) ha0
        have wa0 : (upd G2 qa0 (.tup [V.int z, V.int (x0 - z)])) qa0 = some (.tup [V.int z, V.int (x0 - z)]) := upd_same
        have t2 := ea0 _ _ t2
        generalize (upd G2 qa0 (.tup [V.int z, V.int (x0 - z)])) = A0 at *
        refine ⟨_, rfl, _, rfl, slA_of t2 fun qb0 ys0 B0 eb0 hb0 my0 ly0 => ?_⟩
        have t2 := eb0 _ _ t2
        rw [iv_len] at ly0
        refine catA_of (eb0 _ _ wa0) hb0 (big _ (by show 2 + ys0.length ≤ 1000; omega)) fun qc0 C0 ec0 wc0 => ?_
        have t2 := ec0 _ _ t2
        refine ⟨_, rfl, _, rfl, _, _, rfl, rfl, _, rfl, by show 2 ≤ sizeLine; decide, fun qa1 ha1 => ?_⟩
        have ea1 := Ex.new (o := .tup [V.int (x0 - z), V.int z]) ha1
        have wa1 : (upd C0 qa1 (.tup [V.int (x0 - z), V.int z])) qa1 = some (.tup [V.int (x0 - z), V.int z]) := upd_same
        have t2 := ea1 _ _ t2
        generalize (upd C0 qa1 (.tup [V.int (x0 - z), V.int z])) = A1 at *
        refine ⟨_, rfl, _, rfl, slA_of t2 fun qb1 ys1 B1 eb1 hb1 my1 ly1 => ?_⟩
        have t2 := eb1 _ _ t2
        rw [iv_len] at ly1
        refine catA_of (eb1 _ _ wa1) hb1 (big _ (by show 2 + ys1.length ≤ 1000; omega)) fun qc1 C1 ec1 wc1 => ?_
        have t2 := ec1 _ _ t2
        refine ⟨_, rfl, by show 2 ≤ sizeLine; decide, fun qa2 ha2 => ?_⟩
        have ea2 := Ex.new (o := .tup [V.int x0, V.int 1]) ha2
        have wa2 : (upd C1 qa2 (.tup [V.int x0, V.int 1])) qa2 = some (.tup [V.int x0, V.int 1]) := upd_same
        have t2 := ea2 _ _ t2
        generalize (upd C1 qa2 (.tup [V.int x0, V.int 1])) = A2 at *
        refine ⟨_, rfl, _, rfl, slA_of t2 fun qb2 ys2 B2 eb2 hb2 my2 ly2 => ?_⟩
        have t2 := eb2 _ _ t2
        rw [iv_len] at ly2
        refine catA_of (eb2 _ _ wa2) hb2 (big _ (by show 2 + ys2.length ≤ 1000; omega)) fun qc2 C2 ec2 wc2 => ?_
        have t2 := ec2 _ _ t2
        refine ⟨by show 3 ≤ sizeLine; decide, fun m hm => ?_⟩
        have em := Ex.new (o := .lst [V.ref qc0, V.ref qc1, V.ref qc2]) hm
        have wm : (upd C2 m (.lst [V.ref qc0, V.ref qc1, V.ref qc2])) m = some (.lst [V.ref qc0, V.ref qc1, V.ref qc2]) := upd_same
        generalize (upd C2 m (.lst [V.ref qc0, V.ref qc1, V.ref qc2])) = M at *
        have f2 := em
        have f1 := (ea2.trans (eb2.trans ec2)).trans f2
        have f0 := (ea1.trans (eb1.trans ec1)).trans f1
        have fG := (ea0.trans (eb0.trans ec0)).trans f0
        have lM := fG _ _ l2
        refine ⟨l, m, vs, _, rfl, rfl, lM, wm, big _ (by rw [h9]; show 9 + 3 ≤ 1000; decide), ?_⟩
        have kM := k02.ex fG
        have pM := p2.ex fG
        have kF : Kp p HA (upd M l (.lst (vs ++ [V.ref qc0, V.ref qc1, V.ref qc2]))) := fun c o hc hn => by
          have hcl : c ≠ l := fun e => by rw [e, hl] at hc; cases hc
          rw [upd_ne hcl]
          exact ((((Ex.kp (p := p) e0').ex e1).trans k2).ex fG) c o hc hn
        have pF : PotAt (upd M l (.lst (vs ++ [V.ref qc0, V.ref qc1, V.ref qc2]))) p (n + 1) := pM.upd hlp
        refine ⟨_, rfl, k l _ 1 _ (kA.trans kF) hl0 pF (Nat.le_refl _) upd_same (by rw [List.length_append, h9]; show 9 + 3 ≤ 12; decide) fun v hv => ?_⟩
        rcases List.mem_append.mp hv with h | h
        · exact (hvs v h).kp pA pF kF
        have tupV : ∀ {q : Addr} {c d : Int} {ys : List V}, M q = some (.tup ([V.int c, V.int d] ++ ys)) → (∀ y ∈ ys, y ∈ iv xs) → ys.length ≤ xs.length → Val (upd M l (.lst (vs ++ [V.ref qc0, V.ref qc1, V.ref qc2]))) (.ref q) := fun {q c d ys} h1 h2 h3 => by
          refine .inr ⟨q, _, rfl, (by rw [upd_ne (fun e => by rw [e, lM] at h1; cases h1)]; exact h1), by rw [List.length_append]; show 2 + ys.length ≤ 100; omega, fun y hy => ?_⟩
          rcases List.mem_append.mp hy with h | h
          · rcases List.mem_cons.mp h with rfl | h
            · exact .inl ⟨_, rfl⟩
            · exact .inl ⟨_, List.mem_singleton.mp h⟩
          · exact ints_part xs y (h2 y h)
        rcases List.mem_cons.mp h with rfl | h
        · exact tupV (f0 _ _ wc0) my0 ly0
        rcases List.mem_cons.mp h with rfl | h
        · exact tupV (f1 _ _ wc1) my1 ly1
        rw [List.mem_singleton.mp h]
        exact tupV (f2 _ _ wc2) my2 ly2
      · have kF : Kp p HA G1 := (Ex.kp (p := p) e0').ex e1
        refine ⟨_, rfl, k l vs 0 G1 (kA.trans kF) hl0 p1 (Nat.zero_le _) l1 (by omega) fun v hv => (hvs v hv).kp pA p1 kF⟩
end
end My


set_option Elab.async false
set_option maxRecDepth 100000
set_option maxHeartbeats 4000000
set_option exponentiation.threshold 6000
namespace My
open PySem L2 Evl
theorem rowF_len {b f r L G k : Nat} (g : Gr b f r L G) (hL : 1 ≤ L) : ∀ (n : Nat) (t : Int), t.natAbs < 2 ^ n → t.natAbs < L * b ^ k → rowF k b L n t = (row b L t).length
  | 0, t, h, _ => by
    have : t = 0 := by rw [Nat.pow_zero] at h; omega
    subst this
    rw [row_zero]
    rfl
  | n + 1, t, h, h2 => by
    by_cases h0 : t = 0
    · subst h0
      rw [row_zero]
      rfl
    · have hh := rn_half g (t := t)
      rw [Nat.pow_succ] at h
      rw [row_cons g h0, List.length_cons, ← rowF_len (k := k) g hL n (t - rn b L t) (by omega) (by omega), rnF_eq g.hb hL h2]
      show (if t = 0 then 0 else 1 + rowF k b L n (t - rnF k b L t)) = _
      rw [if_neg h0, Nat.add_comm]
theorem good_at {b f r : Nat} (h : sm b f r) {w : Int} (hw : w.natAbs ≤ gG b f r) :
    (lk (lens (2 * gG b f r) (evl b f r)).1 w = some (((row b (b ^ f) w).length : Nat) : Int) ∧ (row b (b ^ f) w).length < 4) ∨ (lk (lens (2 * gG b f r) (evl b f r)).1 w = none ∧ 4 ≤ (row b (b ^ f) w).length) := by
  obtain ⟨hok, _, hG, hg, _, hb6, _⟩ := sm_facts h
  have hlen := rowF_len (k := 6) hok.gr (Nat.pow_pos (by have := hok.1; omega)) 12 w (by have : (2 : Nat) ^ 12 = 4096 := by decide
                                                                                         omega) (by omega)
  unfold goodG at hg
  have e : ∀ p : List (Int × Int) × List Int, (match p with | (kv, _) => decide (kv.length ≤ 1000) && (List.range (2 * ((b ^ f - 1) * b ^ r) + 1)).all fun i => goodW 6 b (b ^ f) kv ((i : Int) - (((b ^ f - 1) * b ^ r : Nat) : Int))) = true → goodW 6 b (b ^ f) p.1 w = true := by
    rintro ⟨kv, la⟩ h
    have h2 := (Bool.and_eq_true _ _ ▸ h).2
    have hGG : gG b f r = (b ^ f - 1) * b ^ r := rfl
    rw [← hGG] at h2
    have h3 := List.all_eq_true.mp h2 (w + (gG b f r : Int)).toNat (List.mem_range.mpr (by omega))
    have e3 : (((w + (gG b f r : Int)).toNat : Nat) : Int) - ((gG b f r : Nat) : Int) = w := by omega
    rw [e3] at h3
    exact h3
  have h4 : goodW 6 b (b ^ f) (lens (2 * gG b f r) (evl b f r)).1 w = true := e _ hg
  generalize (lens (2 * gG b f r) (evl b f r)).1 = kv at h4 ⊢
  unfold goodW at h4
  rw [hlen] at h4
  generalize lk kv w = o at h4 ⊢
  cases o with
  | none => exact .inr ⟨rfl, of_decide_eq_true h4⟩
  | some z =>
    obtain ⟨q1, q2⟩ := Bool.and_eq_true_iff.mp h4
    have q1 := of_decide_eq_true q1
    subst q1
    exact .inl ⟨rfl, of_decide_eq_true q2⟩
theorem sm_two {b f r : Nat} (h : sm b f r) : 0 < ((lad b (b ^ f) r).drop 1).length := by
  refine sm_cases (D := fun b f r => 0 < ((lad b (b ^ f) r).drop 1).length) h ?_ ?_ ?_ ?_ ?_ ?_ ?_ <;> decide +kernel
def Rp (d : PyData) : Prop := d.showable = true ∧ d.hasDict = false ∧ d.depth ≤ 60 ∧ (∀ z, d ≠ .str z) ∧ d.shown.length ≤ sizeLine
theorem rp_ints {xs : List Int} (h : ∀ x ∈ xs, x.natAbs.log2 < 1920) (hl : xs.length ≤ 1000) : Rp (.tuple (xs.map PyData.int)) := by
  refine ⟨able_ints h, nodict_ints xs, ?_, nofun, Nat.le_trans (shown_ints h hl) (by decide)⟩
  show PyData.depthAll (xs.map PyData.int) + 1 ≤ 60
  rw [dep_ints]; decide
theorem rp_bool (c : Bool) : Rp (.bool c) := ⟨rfl, rfl, Nat.zero_le _, nofun, by cases c <;> decide +kernel⟩
theorem ex_made {H H1 : Hp} {x dx C : Addr} (nx : H x = none) (nd : H dx = none) (k : Kp x (upd (upd H dx (.own x)) x (.ins C dx [])) H1) : Ex H H1 := Same.made nx nd k
theorem GridAt.kp {a : Ad} {H H' : Hp} {g p : Addr} {b f r L G n : Nat} (h : GridAt a H g b f r L G) (hp : PotAt H p n) (kq : Kp p H H') : GridAt a H' g b f r L G := by
  obtain ⟨h1, h2, h3, h4, dx', lim, tops, p', u', xs', ys', h5, h6, h7, h8⟩ := h
  obtain ⟨y1, y2, y3, hpp, _⟩ := hp
  have q1 : g ≠ p := ne_of h5 hpp (by intro z; cases z)
  have q2 : lim ≠ p := ne_of h6 hpp (by intro z; cases z)
  have q3 : tops ≠ p := ne_of h7 hpp (by intro z; cases z)
  exact ⟨h1, h2, h3, h4, dx', lim, tops, p', u', xs', ys', kq _ _ h5 q1, kq _ _ h6 q2, kq _ _ h7 q3, h8⟩
theorem Val.is {H : Hp} {v : V} (b L G : Nat) (t : Int) (n : Nat) (h : Val H v) : ∃ c, sIs b L G t n H v c := by
  rcases h with h | ⟨a, xs, h1, h2, h3, h4⟩
  · exact ⟨false, .inl ⟨h, rfl⟩⟩
  · exact ⟨_, .inr ⟨a, xs, h1, h2, h3, h4, rfl⟩⟩
theorem sIs.ex {b L G : Nat} {t : Int} {n : Nat} {H H' : Hp} {v : V} {c : Bool} (h : sIs b L G t n H v c) (e : Ex H H') : sIs b L G t n H' v c := by
  rcases h with ⟨h, hc⟩ | ⟨a, xs, h1, h2, h3, h4, h5⟩
  · exact .inl ⟨h.ex e, hc⟩
  · exact .inr ⟨a, xs, h1, e _ _ h2, h3, fun y hy => (h4 y hy).ex e, h5⟩
theorem all_id : ∀ bs : List Bool, (∀ b ∈ bs, b = true) → bs.all id = true
  | [], _ => rfl
  | b :: bs, h => by
    rw [List.all_cons, all_id bs (fun c hc => h c (List.mem_cons_of_mem _ hc)), h b List.mem_cons_self]; rfl
def sp_right : Sp := fun vs H Q _ => ∃ (p : Addr) (n : Nat), vs = [.ref p] ∧ PotAt H p n ∧ n + 2000 ≤ 100000 ∧ ∀ H', Kp p H H' → Q (.bl true) H'
def spLaw (K : PySem.W.Frag) : Sp := fun vs H Q _ => ∃ (a : Addr) (ns : List Int), vs = [.ref a] ∧ SqL K H a (ns.map V.int) ∧ ns.length ≤ 63 ∧ ∀ H', Q (.bl true) H'
section
variable {P : Program} {w : World} {K : PySem.W.Frag} {mg : Str → Option Value} {base : Heap} {a : Ad}
theorem ok_l_right (T : Txt K mg a) : GOk P w K mg base 9 a.l_right a.l_right_fd ["pot"] sp_right := by
  refine okG T.F_l_right sc_l_right (fun vs H Q E h => ?_) (fun cdv A outer s H vs Q E hG hr h => ?_)
  · obtain ⟨p, n, rfl, _⟩ := h
    rfl
  · obtain ⟨p, n, rfl, hp, hn, k⟩ := h
    refine ⟨_, (pss_cut (ps_asg (pe_call (ok_l_small T) (hr.mono (by decide)) rfl T.g_l_small T.k_l_small T.B_l_small .nil pass0 (pa_cons (pv 0) pa_nil)) (pg_tup rfl (pgs_cons (pg_name (i := 1) sc_l_right.nd rfl (Or.inl rfl)) (pgs_cons (pg_name (i := 2) sc_l_right.nd rfl (Or.inl rfl)) pgs_nil))))
      (pss_cut (ps_par3 (i := 3) (j := 4) (l := 5) rfl sc_l_right.nd rfl rfl rfl (by decide) (by decide) (by decide) rfl rfl rfl (pa_cons (pe_make T.mk_Grid (ok_Grid_init T) (hr.mono (by decide)) rfl T.g_Grid T.B_Grid_init .nil pass0 (pa_cons (pe_ix ix_tup (pv 1) pe_int (fun _ _ => rfl)) (pa_cons (pe_ix ix_tup (pv 1) pe_int (fun _ _ => rfl)) (pa_cons (pe_ix ix_tup (pv 1) pe_int (fun _ _ => rfl)) (pa_cons (pe_ix ix_tup (pv 1) pe_int (fun _ _ => rfl)) pa_nil))))) (pa_cons (pe_ix ix_list (pv 2) (pe_un un_neg pe_int) (fun _ _ => rfl)) (pa_cons (pe_slice sl_list (pv 2) (po_some pe_int) po_none) pa_nil))) (by rfl))
      (pss_cut (ps_set (i := 6) sc_l_right.nd rfl (Or.inl rfl) (pe_call (ok_l_lengths T) (hr.mono (by decide)) rfl T.g_l_lengths T.k_l_lengths T.B_l_lengths .nil pass0 (pa_cons (pv 2) pa_nil)))
      (pss_cut (ps_for PassesOwn.never rfl (pi_range2 rfl T.n_range (pa_cons (pe_un un_neg (pv 4)) (pa_cons (pe_op op_add (pv 4) pe_int) pa_nil))) (pg_name (i := 7) sc_l_right.nd rfl (Or.inl rfl)) (pss_cut (ps_set (i := 9) sc_l_right.nd rfl (Or.inl rfl) (pe_call (ok_renewed T) (hr.mono (by decide)) rfl T.g_renewed T.k_renewed T.B_renewed .nil pass0 (pa_cons (pv 3) (pa_cons (pv 7) pa_nil))))
      (pss_cut (ps_if (PW.pt (pw_or (pt_cmpR op_ne (pe_callB (cr_repr hG hr.units) (by rfl) T.n_repr (by decide +kernel) (pa_cons (pv 9) pa_nil)) (pe_callB (cr_repr hG hr.units) (by rfl) T.n_repr (by decide +kernel) (pa_cons (pe_call (ok_l_own_renewed T) (hr.mono (by decide)) rfl T.g_l_own_renewed T.k_l_own_renewed T.B_l_own_renewed .nil pass0 (pa_cons (pv 1) (pa_cons (pv 7) pa_nil))) pa_nil)) (nomark _)) (pw_or1 (pt_cmpR op_gt (pe_dget2 (hu_of hr) (pv 6) (pv 7) pe_int ⟨rfl, rfl, rfl, rfl⟩) (pe_callB call_len_seq (by rfl) T.n_len (by decide +kernel) (pa_cons (pv 9) pa_nil)) (nomark _))))) (pss_one (ps_ret pe_bl)) pss_nil)
      (pss_one (ps_if (PW.pt (pw_or (PW.pt (pw_and (pt_cmpR op_lt (pe_callB call_len_seq (by rfl) T.n_len (by decide +kernel) (pa_cons (pv 9) pa_nil)) pe_int (nomark _)) (pw_and1 (pt_cmpR op_ne (pe_dget (hu_of hr) (pv 6) (pv 7) (fun _ _ => rfl)) (pe_callB call_len_seq (by rfl) T.n_len (by decide +kernel) (pa_cons (pv 9) pa_nil)) (nomark _))))) (pw_or1 (PW.pt (pw_and (pt_cmpR op_gt (pe_callB call_len_seq (by rfl) T.n_len (by decide +kernel) (pa_cons (pv 9) pa_nil)) pe_int (nomark _)) (pw_and1 (pt_cmp (pc_din (hu_of hr) (pv 7) (pv 6))))))))) (pss_one (ps_ret pe_bl)) pss_nil)))))
      (pss_cons (ps_for PassesOwn.never rfl (pi_range1 rfl T.n_range (pa_cons pe_int pa_nil)) (pg_name (i := 8) sc_l_right.nd rfl (Or.inl rfl)) (pss_cut (ps_set (i := 7) sc_l_right.nd rfl (Or.inl rfl) (pe_op op_sub (pe_call (ok_l_take T) (hr.mono (by decide)) rfl T.g_l_take T.k_l_take T.B_l_take .nil pass0 (pa_cons (pv 0) (pa_cons (pe_op op_add (pe_op op_mulW pe_int (pv 4)) pe_int) pa_nil))) (pv 4)))
      (pss_cut (ps_set (i := 9) sc_l_right.nd rfl (Or.inl rfl) (pe_call (ok_renewed T) (hr.mono (by decide)) rfl T.g_renewed T.k_renewed T.B_renewed .nil pass0 (pa_cons (pv 3) (pa_cons (pv 7) pa_nil))))
      (pss_cut (ps_if (pt_cmpR op_ne (pe_callB (cr_repr hG hr.units) (by rfl) T.n_repr (by decide +kernel) (pa_cons (pe_call (ok_renewed_row T) (hr.mono (by decide)) rfl T.g_renewed_row T.k_renewed_row T.B_renewed_row .nil pass0 (pa_cons (pv 3) (pa_cons (pe_op op_catA (pe_revT (pv 9)) (pe_tup (pa_cons pe_int pa_nil))) pa_nil))) pa_nil)) (pe_callB (cr_repr hG hr.units) (by rfl) T.n_repr (by decide +kernel) (pa_cons (pv 9) pa_nil)) (nomark _)) (pss_one (ps_ret pe_bl)) pss_nil)
      (pss_one (ps_for PassesOwn.never rfl (pi_list (pe_op op_cat (pe_call (ok_l_near_rows T) (hr.mono (by decide)) rfl T.g_l_near_rows T.k_l_near_rows T.B_l_near_rows .nil pass0 (pa_cons (pv 0) (pa_cons (pv 9) (pa_cons (pv 5) pa_nil)))) (pe_lst (pa_cons (pe_call (ok_l_odd T) (hr.mono (by decide)) rfl T.g_l_odd T.k_l_odd T.B_l_odd .nil pass0 (pa_cons (pv 0) pa_nil)) (pa_cons (pe_call (ok_l_bent T) (hr.mono (by decide)) rfl T.g_l_bent T.k_l_bent T.B_l_bent .nil pass0 (pa_cons (pv 0) (pa_cons (pv 9) pa_nil))) pa_nil))))) (pg_name (i := 10) sc_l_right.nd rfl (Or.inl rfl)) (pss_one (ps_if (pt_cmpR op_ne (pe_callB (cr_repr hG hr.units) (by rfl) T.n_repr (by decide +kernel) (pa_cons (pe_call (ok_shows_any T) (hr.mono (by decide)) rfl T.g_shows_shortest T.k_shows_shortest T.B_shows_shortest .nil pass0 (pa_cons (pv 3) (pa_cons (pv 7) (pa_cons (pv 10) pa_nil)))) pa_nil)) (pe_callB (cr_repr hG hr.units) (by rfl) T.n_repr (by decide +kernel) (pa_cons (pe_call (ok_l_is_shortest T) (hr.mono (by decide)) rfl T.g_l_is_shortest T.k_l_is_shortest T.B_l_is_shortest .nil pass0 (pa_cons (pv 1) (pa_cons (pv 7) (pa_cons (pe_callB call_len_seq (by rfl) T.n_len (by decide +kernel) (pa_cons (pv 9) pa_nil)) (pa_cons (pv 10) pa_nil))))) pa_nil)) (nomark _)) (pss_one (ps_ret pe_bl)) pss_nil))))))))
      (pss_one (ps_ret pe_bl))))))), ?_⟩
    refine ⟨fun σ H1 => ∃ (gt l : Addr) (b f r pl : Nat), Kp p H H1 ∧ PotAt H1 p (n + 1) ∧ H1 gt = some (.tup [.int b, .int f, .int r, .int pl]) ∧ H1 l = some (.lst (iv (lad b (b ^ f) r))) ∧ sm b f r ∧ pl ≤ 30 ∧ l ≠ p ∧ σ = [some (.ref p), some (.ref gt), some (.ref l), none, none, none, none, none, none, none, none], ?_, ?_⟩
    · refine ⟨_, rfl, p, n, rfl, hp, by omega, fun q t l b f r pl H' k1 p1 hq ht hl hs hpl hlp => ?_⟩
      refine ⟨q, _, rfl, SqT.of hq, rfl, _, _, rfl, _, _, rfl, rfl, ?_⟩
      exact ⟨t, l, b, f, r, pl, k1, p1, ht, hl, hs, hpl, hlp, rfl⟩
    rintro σ H1 ⟨gt, l, b, f, r, pl, k1, p1, hgt, hl, hsm, hpl, hlp, rfl⟩
    obtain ⟨hok, _, hG100, _, hlast, _, hl100⟩ := sm_facts hsm
    have ngt := ne_tup hgt p1
    have hdr : (iv (lad b (b ^ f) r)).drop 1 = iv ((lad b (b ^ f) r).drop 1) := by unfold iv; rw [List.map_drop]
    refine ⟨fun σ H2 => ∃ (g ev : Addr), Ex H1 H2 ∧ GridAt a H2 g b f r (b ^ f) (gG b f r) ∧ H2 ev = some (.lst (iv ((lad b (b ^ f) r).drop 1))) ∧ ev ≠ p ∧ σ = [some (.ref p), some (.ref gt), some (.ref l), some (.ref g), some (.int (gG b f r : Nat)), some (.ref ev), none, none, none, none, none], ?_, ?_⟩
    · have tg := SqT.of (K := K) hgt
      refine ⟨_, rfl, gt, _, _, _, rfl, rfl, tg, g0, _, rfl, gt, _, _, _, rfl, rfl, tg, g1, _, rfl, gt, _, _, _, rfl, rfl, tg, g2, _, rfl, gt, _, _, _, rfl, rfl, tg, g3, fun x dx nx ndx nex => ?_⟩
      refine ⟨x, dx, b, f, r, pl, rfl, upd_same, ⟨hok.1, hok.2.1, hok.2.2.1, hok.2.2.2.1, hok.2.2.2.2, hpl⟩, fun H2 k2 ga => ⟨rfl, ?_⟩⟩
      have e2 : Ex H1 H2 := ex_made nx ndx k2
      have hl2 := e2 _ _ hl
      refine ⟨_, rfl, _, rfl, l, _, _, _, rfl, rfl, SqL.of hl2, (by rw [hlast]; exact at_last _ _), _, rfl, _, rfl, ?_⟩
      unfold tNoPart
      refine ⟨l, _, rfl, SqL.of hl2, fun ev hev => ?_⟩
      rw [cut1, hdr]
      refine ⟨_, _, _, rfl, x, ev, e2.trans (Ex.new hev), ga.mono (Ex.new hev), upd_same, (p1.ex e2).ne hev, rfl⟩
    rintro σ H2 ⟨g, ev, e2, ga2, hev2, hevp, rfl⟩
    refine ⟨fun σ H3 => ∃ (D : Addr) (kvs : List (Key × V)), Ex H2 H3 ∧ H3 D = some (.dK kvs) ∧ Rel kvs (lens (2 * gG b f r) (evl b f r)).1 ∧ σ = [some (.ref p), some (.ref gt), some (.ref l), some (.ref g), some (.int (gG b f r : Nat)), some (.ref ev), some (.ref D), none, none, none, none], ?_, ?_⟩
    · refine ⟨_, rfl, l, b, f, r, rfl, e2 _ _ hl, hsm, fun D kvs H3 e3 hD hR => ⟨D, kvs, e3, hD, hR, rfl⟩⟩
    rintro σ H3 ⟨D, kvs, e3, hD, hR, rfl⟩
    have k3 := k1.ex (e2.trans e3)
    have p3 := p1.ex (e2.trans e3)
    have hgt3 := (e2.trans e3) _ _ hgt
    have ga3 := ga2.mono e3
    have hev3 := e3 _ _ hev2
    clear hl hev2 ga2 hgt
    have rpw : ∀ t : Int, t.natAbs ≤ gG b f r → Rp (.tuple ((row b (b ^ f) t).map PyData.int)) := fun t ht => by
      refine rp_ints (fun x hx => ?_) (Nat.le_trans (row_len hok.gr t 12 ?_) (by decide))
      · have := (row_onG hok.gr t ht x hx).1
        exact lg (k := 12) (by have : (2 : Nat) ^ 12 = 4096 := by decide
                               omega) (by decide) (by decide)
      · have : (2 : Nat) ^ 12 = 4096 := by decide
        omega
    have rlen : ∀ t : Int, t.natAbs ≤ gG b f r → (row b (b ^ f) t).length ≤ 12 := fun t ht => row_len hok.gr t 12 (by
      have : (2 : Nat) ^ 12 = 4096 := by decide
      omega)
    refine ⟨fun σ H4 => Ex H3 H4 ∧ ∃ z7 z9 : Option V, σ = [some (.ref p), some (.ref gt), some (.ref l), some (.ref g), some (.int (gG b f r : Nat)), some (.ref ev), some (.ref D), z7, none, z9, none], ?_, ?_⟩
    · refine ⟨_, rfl, _, rfl, _, rfl, _, _, rfl, rfl, _, _, rfl, ⟨by omega, by omega, by omega, by omega⟩, for_range (lo := -((gG b f r : Nat) : Int)) (n := (((gG b f r : Nat) : Int) + 1 - -((gG b f r : Nat) : Int)).toNat) (fun i σ H4 => Ex H3 H4 ∧ ∃ z7 z9 : Option V, σ = [some (.ref p), some (.ref gt), some (.ref l), some (.ref g), some (.int (gG b f r : Nat)), some (.ref ev), some (.ref D), z7, none, z9, none])
        ⟨Ex.refl _, none, none, rfl⟩ ?_ (fun σ H4 h => h)⟩
      rintro i σ H4 hi ⟨e4, z7, z9, rfl⟩
      obtain ⟨wo, hwo, hw⟩ : ∃ wo : Int, -((gG b f r : Nat) : Int) + (i : Nat) = wo ∧ wo.natAbs ≤ gG b f r := ⟨_, rfl, by omega⟩
      rw [hwo]
      have ga4 := ga3.mono e4
      have hr0 := rpw wo hw
      refine ⟨fun σ H5 => ∃ q : Addr, Ex H3 H5 ∧ H5 q = some (.tup (iv (row b (b ^ f) wo))) ∧ σ = [some (.ref p), some (.ref gt), some (.ref l), some (.ref g), some (.int (gG b f r : Nat)), some (.ref ev), some (.ref D), some (.int wo), none, some (.ref q), none], ?_, ?_⟩
      · exact ⟨_, rfl, _, rfl, g, b, f, r, b ^ f, gG b f r, wo, rfl, ga4, hw, fun q H5 e5 hq => ⟨q, e4.trans e5, hq, rfl⟩⟩
      rintro σ H5 ⟨q, e5, hq, rfl⟩
      have hgood := good_at hsm hw
      have hDv : valV kvs (Sum.inl wo) = (lk (lens (2 * gG b f r) (evl b f r)).1 wo).map V.int := hR.2 wo
      have hD5 := e5 _ _ hD
      obtain ⟨m, hm, hml⟩ : ∃ m : Int, (valV kvs (Sum.inl wo)).getD (V.int 4) = .int m ∧ ¬ ((((iv (row b (b ^ f) wo)).length : Nat) : Int) < m) := by
        rw [hDv]
        rcases hgood with ⟨h1, h2⟩ | ⟨h1, h2⟩
        · rw [h1]
          exact ⟨_, rfl, by rw [iv_len]; omega⟩
        · rw [h1]
          exact ⟨4, rfl, by rw [iv_len]; omega⟩
      refine ⟨fun σ H6 => Ex H3 H6 ∧ H6 q = some (.tup (iv (row b (b ^ f) wo))) ∧ σ = [some (.ref p), some (.ref gt), some (.ref l), some (.ref g), some (.int (gG b f r : Nat)), some (.ref ev), some (.ref D), some (.int wo), none, some (.ref q), none], ?_, ?_⟩
      · refine ⟨_, rfl, _, _, rfl, .tup (SqT.of hq) (dp_ints _), hr0.1, hr0.2.1, hr0.2.2.1, hr0.2.2.2.1, hr0.2.2.2.2, ?_⟩
        refine ⟨_, rfl, _, rfl, gt, b, f, r, pl, wo, rfl, SqT.of (e5 _ _ hgt3), hok, hw, fun q2 H6 e6 hq2 => ?_⟩
        refine ⟨_, _, rfl, .tup (SqT.of hq2) (dp_ints _), hr0.1, hr0.2.1, hr0.2.2.1, hr0.2.2.2.1, hr0.2.2.2.2, rfl, _, rfl, ?_⟩
        refine ite2 (fun h => absurd h (by simp)) (fun _ => ?_)
        have hD6 := e6 _ _ hD5
        refine ⟨_, rfl, D, rfl, .inl ⟨_, .inl hD6⟩, _, rfl, _, DGet.k (k := Sum.inl wo) hD6, _, rfl, q, _, rfl, .inr (SqT.of (e6 _ _ hq)), _, _, hm, rfl, _, rfl, ?_⟩
        refine ite2 (fun h => absurd (of_decide_eq_true h) hml) (fun _ => ?_)
        exact ⟨e5.trans e6, e6 _ _ hq, rfl⟩
      rintro σ H6 ⟨e6, hq6, rfl⟩
      have hD6 := e6 _ _ hD
      have hL : (iv (row b (b ^ f) wo)).length = (row b (b ^ f) wo).length := iv_len _
      rcases hgood with ⟨h1, h2⟩ | ⟨h1, h2⟩
      · rw [h1] at hDv
        refine ⟨_, rfl, q, _, rfl, .inr (SqT.of hq6), _, _, rfl, rfl, _, rfl, ?_⟩
        refine ite2 (fun _ => ?_) (fun h => absurd (decide_eq_true (by rw [hL]; omega)) h)
        refine ⟨_, rfl, _, rfl, D, _, rfl, hDv ▸ DGet.k (k := Sum.inl wo) hD6, _, rfl, q, _, rfl, .inr (SqT.of hq6), rfl, _, rfl, ?_⟩
        rw [hL, decide_eq_true rfl]
        refine ite2 (fun h => absurd h (by decide)) (fun _ => ?_)
        refine ⟨_, rfl, q, _, rfl, .inr (SqT.of hq6), _, _, rfl, rfl, _, rfl, ?_⟩
        refine ite2 (fun h => absurd (of_decide_eq_true h) (by rw [hL]; omega)) (fun _ => ?_)
        refine ite2 (fun h => absurd h (by decide)) (fun _ => ?_)
        exact ⟨e6, _, _, rfl⟩
      · rw [h1] at hDv
        refine ⟨_, rfl, q, _, rfl, .inr (SqT.of hq6), _, _, rfl, rfl, _, rfl, ?_⟩
        refine ite2 (fun h => absurd (of_decide_eq_true h) (by rw [hL]; omega)) (fun _ => ?_)
        refine ite2 (fun h => absurd h (by decide)) (fun _ => ?_)
        refine ⟨_, rfl, q, _, rfl, .inr (SqT.of hq6), _, _, rfl, rfl, _, rfl, ?_⟩
        refine ite2 (fun _ => ?_) (fun h => absurd (decide_eq_true (by rw [hL]; omega)) h)
        refine ⟨_, rfl, _, rfl, D, _, rfl, hDv ▸ DGet.k (k := Sum.inl wo) hD6, _, rfl, ?_⟩
        refine ite2 (fun h => absurd h (by decide)) (fun _ => ?_)
        exact ⟨e6, _, _, rfl⟩
    rintro σ H4 ⟨e4, z7, z9, rfl⟩
    have k4 := k3.ex e4
    have p4 := p3.ex e4
    have ga4 := ga3.mono e4
    have hgt4 := e4 _ _ hgt3
    have hev4 := e4 _ _ hev3
    clear hgt3 hev3 ga3
    have hcm : CMulW 2 ((gG b f r : Nat) : Int) := by
      unfold CMulW
      have h4096 : (2 : Nat) ^ 12 = 4096 := by decide
      have h1 : ((gG b f r : Nat) : Int).natAbs.log2 < 1920 := lg (k := 12) (by omega) (by decide) (by decide)
      have h2 : (2 : Int).natAbs.log2 = 1 := by decide +kernel
      omega
    refine ⟨_, rfl, by decide, by decide, for_range (lo := 0) (n := 6) (fun i σ H5 => Kp p H4 H5 ∧ PotAt H5 p (n + 1 + 10 * i) ∧ ∃ z7 z8 z9 z10 : Option V, σ = [some (.ref p), some (.ref gt), some (.ref l), some (.ref g), some (.int (gG b f r : Nat)), some (.ref ev), some (.ref D), z7, z8, z9, z10])
      ⟨Kp.refl, p4, _, _, _, _, rfl⟩ ?_ ?_⟩
    · rintro i σ H5 hi ⟨k5, p5, z7, z8, z9, z10, rfl⟩
      refine ⟨fun σ H6 => ∃ wo : Int, wo.natAbs ≤ gG b f r ∧ Kp p H4 H6 ∧ PotAt H6 p (n + 2 + 10 * i) ∧ σ = [some (.ref p), some (.ref gt), some (.ref l), some (.ref g), some (.int (gG b f r : Nat)), some (.ref ev), some (.ref D), some (.int wo), some (.int (0 + (i : Int))), z9, z10], ?_, ?_⟩
      · refine ⟨_, rfl, _, rfl, _, _, rfl, rfl, hcm, _, _, rfl, rfl, p, _, n + 1 + 10 * i, rfl, p5, by omega, by omega, ?_, fun d H6 k6 p6 d0 d1 => ?_⟩
        · have h1 : (2 * ((gG b f r : Nat) : Int) + 1).natAbs < 2 ^ 12 := by
            have : (2 : Nat) ^ 12 = 4096 := by decide
            omega
          exact Nat.lt_of_lt_of_le h1 (Nat.pow_le_pow_right (by decide) (by decide))
        refine ⟨_, rfl, _, _, rfl, rfl, ?_⟩
        exact ⟨_, by omega, k5.trans k6, p6.mono (by omega), rfl⟩
      rintro σ H6 ⟨wo, hw, k6, p6, rfl⟩
      have ga6 := ga4.kp p4 k6
      refine ⟨fun σ H7 => ∃ q : Addr, Ex H6 H7 ∧ H7 q = some (.tup (iv (row b (b ^ f) wo))) ∧ σ = [some (.ref p), some (.ref gt), some (.ref l), some (.ref g), some (.int (gG b f r : Nat)), some (.ref ev), some (.ref D), some (.int wo), some (.int (0 + (i : Int))), some (.ref q), z10], ?_, ?_⟩
      · exact ⟨_, rfl, _, rfl, g, b, f, r, b ^ f, gG b f r, wo, rfl, ga6, hw, fun q H7 e7 hq => ⟨q, e7, hq, rfl⟩⟩
      rintro σ H7 ⟨q, e7, hq, rfl⟩
      have hr0 := rpw wo hw
      have hl12 := rlen wo hw
      refine ⟨fun σ H8 => Ex H7 H8 ∧ σ = [some (.ref p), some (.ref gt), some (.ref l), some (.ref g), some (.int (gG b f r : Nat)), some (.ref ev), some (.ref D), some (.int wo), some (.int (0 + (i : Int))), some (.ref q), z10], ?_, ?_⟩
      · refine ⟨_, rfl, _, rfl, q, _, rfl, SqT.of hq, fun q1 h1 => ?_⟩
        have e1 := Ex.new (o := .tup (iv (row b (b ^ f) wo)).reverse) h1
        have w1 : (upd H7 q1 (.tup (iv (row b (b ^ f) wo)).reverse)) q1 = some (.tup (iv (row b (b ^ f) wo)).reverse) := upd_same
        generalize (upd H7 q1 (.tup (iv (row b (b ^ f) wo)).reverse)) = A1 at *
        refine ⟨by show 1 ≤ sizeLine; decide, fun q2 h2 => ?_⟩
        have e2 := Ex.new (o := .tup [V.int 0]) h2
        have w2 : (upd A1 q2 (.tup [V.int 0])) q2 = some (.tup [V.int 0]) := upd_same
        generalize (upd A1 q2 (.tup [V.int 0])) = A2 at *
        refine catA_of (e2 _ _ w1) w2 (Nat.le_trans (by rw [List.length_reverse, iv_len]; show _ + 1 ≤ 1000; omega) (by decide)) fun q3 A3 e3 w3 => ?_
        have e123 := (e1.trans e2).trans e3
        have hxs : (iv (row b (b ^ f) wo)).reverse ++ [V.int 0] = iv ((row b (b ^ f) wo).reverse ++ [0]) := by
          unfold iv
          rw [List.map_append, List.map_reverse]
          rfl
        rw [hxs] at w3
        have hsum : ((row b (b ^ f) wo).reverse ++ [0]).sum = wo := by
          rw [List.sum_append, List.sum_reverse, row_sum hok.gr]
          show wo + (0 + 0) = wo
          omega
        refine ⟨g, b, f, r, b ^ f, gG b f r, q3, _, rfl, ga6.mono (e7.trans e123), w3, by rw [List.length_append, List.length_reverse]; show _ + 1 ≤ 100; omega, fun x hx => ?_, fun v H8 e8 hv => ?_⟩
        · rcases List.mem_append.mp hx with h | h
          · exact row_onG hok.gr wo hw x (List.mem_reverse.mp h)
          · rw [List.mem_singleton.mp h]
            exact onG_small hok.gr (n := 0) (by have := hok.gr.L1; omega)
        rw [hsum] at hv
        obtain ⟨_, q4, rfl, hq4⟩ : wo.natAbs ≤ gG b f r ∧ ∃ q4, v = .ref q4 ∧ H8 q4 = some (.tup (iv (row b (b ^ f) wo))) := by
          rcases hv with h | ⟨h, _⟩
          · exact h
          · omega
        refine ⟨_, _, rfl, .tup (SqT.of hq4) (dp_ints _), hr0.1, hr0.2.1, hr0.2.2.1, hr0.2.2.2.1, hr0.2.2.2.2, ?_⟩
        refine ⟨_, rfl, _, _, rfl, .tup (SqT.of ((e123.trans e8) _ _ hq)) (dp_ints _), hr0.1, hr0.2.1, hr0.2.2.1, hr0.2.2.2.1, hr0.2.2.2.2, rfl, _, rfl, ?_⟩
        refine ite2 (fun h => absurd h (by simp)) (fun _ => ?_)
        exact ⟨e123.trans e8, rfl⟩
      rintro σ H8 ⟨e8, rfl⟩
      have e78 := e7.trans e8
      have hq8 := e8 _ _ hq
      have k8 := k6.ex e78
      have p8 := p6.ex e78
      have ga8 := ga6.mono e78
      have hev8 := k8 _ _ hev4 hevp
      have hgt8 := k8 _ _ hgt4 ngt
      have nq := ne_tup hq8 p8
      refine ⟨_, rfl, _, rfl, _, rfl, p, q, ev, n + 2 + 10 * i, row b (b ^ f) wo, (lad b (b ^ f) r).drop 1, rfl, p8, by omega, hq8, by omega, hev8, hevp, ?_, ?_, fun ln vs m H9 k9 hln p9 hm hl9 hvl hvs => ?_⟩
      · exact sm_two hsm
      · rw [List.length_drop]; omega
      have nln := p8.ne hln
      refine ⟨_, rfl, p, n + 2 + 10 * i + m, rfl, p9, by omega, fun v1 H10 k10 p10 hv1 => ?_⟩
      refine ⟨_, rfl, _, rfl, p, q, n + 2 + 10 * i + m + 1, row b (b ^ f) wo, rfl, p10, by omega, k10 _ _ (k9 _ _ hq8 nq) nq, by omega, fun v2 H11 k11 p11 hv2 => ?_⟩
      refine ⟨by show 2 ≤ sizeLine; decide, fun l2 hl2 => ?_⟩
      have e12 := Ex.new (o := .lst [v1, v2]) hl2
      have w12 : (upd H11 l2 (.lst [v1, v2])) l2 = some (.lst [v1, v2]) := upd_same
      have p12 := p11.ex e12
      generalize (upd H11 l2 (.lst [v1, v2])) = H12 at *
      have ln12 := e12 _ _ (k11 _ _ (k10 _ _ hl9 nln) nln)
      refine ⟨ln, l2, vs, [v1, v2], rfl, rfl, ln12, w12, Nat.le_trans (by show vs.length + 2 ≤ 1000; omega) (by decide), fun l3 hl3 => ?_⟩
      have e13 := Ex.new (o := .lst (vs ++ [v1, v2])) hl3
      have w13 : (upd H12 l3 (.lst (vs ++ [v1, v2]))) l3 = some (.lst (vs ++ [v1, v2])) := upd_same
      have p13 := p12.ex e13
      have k813 := (((k9.trans k10).trans k11).ex e12).ex e13
      have val13 : ∀ v ∈ vs ++ [v1, v2], Val (upd H12 l3 (.lst (vs ++ [v1, v2]))) v := fun v hv => by
        rcases List.mem_append.mp hv with h | h
        · exact ((((hvs v h).kp p9 p10 k10).kp p10 p11 k11).ex e12).ex e13
        · rcases List.mem_cons.mp h with rfl | h
          · exact ((hv1.kp p10 p11 k11).ex e12).ex e13
          · rw [List.mem_singleton.mp h]
            exact (hv2.ex e12).ex e13
      generalize (upd H12 l3 (.lst (vs ++ [v1, v2]))) = H13 at *
      have ga13 := ga8.kp p8 k813
      have hgt13 := k813 _ _ hgt8 ngt
      have hq13 := k813 _ _ hq8 nq
      refine ⟨l3, rfl, ⟨_, SqL.of w13⟩, for_list (K := K) (a := l3) (xs := vs ++ [v1, v2]) (fun j σ H14 => Ex H13 H14 ∧ ∃ z10 : Option V, σ = [some (.ref p), some (.ref gt), some (.ref l), some (.ref g), some (.int (gG b f r : Nat)), some (.ref ev), some (.ref D), some (.int wo), some (.int (0 + (i : Int))), some (.ref q), z10])
        ⟨Ex.refl _, _, rfl⟩ (fun j σ H14 _ z => SqL.of (z.1 _ _ w13)) ?_ ?_⟩
      · rintro j v σ H14 hv ⟨e14, z10, rfl⟩
        obtain ⟨c, hc⟩ := (val13 v (List.mem_of_getElem? hv)).is b (b ^ f) (gG b f r) wo (row b (b ^ f) wo).length
        have rb := rp_bool c
        refine ⟨_, rfl, _, rfl, _, rfl, g, b, f, r, b ^ f, gG b f r, wo, v, c, rfl, ga13.mono e14, hw, hc.ex e14, fun H15 e15 => ?_⟩
        refine ⟨_, _, rfl, .bl c, rb.1, rb.2.1, rb.2.2.1, rb.2.2.2.1, rb.2.2.2.2, ?_⟩
        have e1415 := e14.trans e15
        refine ⟨_, rfl, _, rfl, _, rfl, q, _, rfl, .inr (SqT.of (e1415 _ _ hq13)), _, rfl, gt, b, f, r, pl, wo, (row b (b ^ f) wo).length, v, c, by rw [iv_len]; rfl, SqT.of (e1415 _ _ hgt13), hok, Nat.le_trans hG100 (by decide), hc.ex e1415, fun H16 e16 => ?_⟩
        refine ⟨_, _, rfl, .bl c, rb.1, rb.2.1, rb.2.2.1, rb.2.2.2.1, rb.2.2.2.2, rfl, _, rfl, ?_⟩
        refine ite2 (fun h => absurd h (by simp)) (fun _ => ?_)
        exact ⟨e1415.trans e16, _, rfl⟩
      · rintro σ H14 ⟨e14, z10, rfl⟩
        exact ⟨(k8.trans k813).ex e14, (p13.ex e14).mono (by omega), _, _, _, _, rfl⟩
    · rintro σ H5 ⟨k5, p5, z7, z8, z9, z10, rfl⟩
      exact k H5 (k4.trans k5)
theorem ok_law (T : Txt K mg a) : GOk P w K mg base 10 a.law a.law_fd ["script"] (spLaw K) := by
  refine okG T.F_law sc_law (fun vs H Q E h => ?_) (fun cdv A outer s H vs Q E hG hr h => ?_)
  · obtain ⟨q, ns, rfl, _⟩ := h
    rfl
  · obtain ⟨q, ns, rfl, hs, hl, k⟩ := h
    refine ⟨_, (pss_one (ps_ret (pe_callB (cr_all rfl) (by rfl) T.n_all (by decide +kernel) (pa_cons (pe_lc (own := [("place", 1)]) (g := gName 1) (by rfl) sc_law.nd (pi_list (pe_call (ok_l_cells T) (hr.mono (by decide)) rfl T.g_l_cells T.k_l_cells T.B_l_cells .nil pass0 (pa_cons (pv 0) (pa_cons pe_int pa_nil)))) (blkOk_by (own := [("place", 1)]) (N := N_law) (sc := defScope s_law) (by decide +kernel)) (fun _ _ _ _ _ => pg_name (i := 1) sc_law.nd rfl (Or.inl rfl)) (fun _ _ _ _ _ => pts_nil) (fun _ _ _ _ _ => (pe_callG (ok_l_right T) hG (hr.mono (by decide)) rfl T.g_l_right T.k_l_right T.B_l_right .nil (pa_cons (pe_call (ok_l_pot T) (hr.mono (by decide)) rfl T.g_l_pot T.k_l_pot T.B_l_pot .nil pass0 (pa_cons (pv 0) (pa_cons (pv 1) pa_nil))) pa_nil)))) pa_nil)))), ?_⟩
    refine ⟨_, rfl, q, ns, 1, rfl, hs, by decide, by decide, fun l c H1 e1 hc hl1 => ⟨l, rfl, ⟨_, SqL.of hl1⟩, fun D hD => lc_list (K := K) (a := l) (xs := (List.range c).map fun (i : Nat) => V.int (i : Int)) (fun j H2 => Ex H1 H2 ∧ ∃ bs : List Bool, H2 D = some (.lst (bs.map V.bl)) ∧ (∀ b ∈ bs, b = true) ∧ bs.length ≤ j)
      ⟨Ex.new hD, [], upd_same, fun b hb => (by cases hb), Nat.le_refl _⟩ (fun j H2 _ z => SqL.of (z.1 _ _ hl1)) ?_ ?_⟩⟩
    · rintro j v H2 hv ⟨e2, bs, hb1, hb2, hb3⟩
      obtain ⟨hjc, rfl⟩ : j < c ∧ v = V.int (j : Int) := by
        have h1 := (List.getElem?_eq_some_iff.mp hv).1
        rw [List.length_map, List.length_range] at h1
        rw [List.getElem?_map, List.getElem?_range h1] at hv
        exact ⟨h1, (Option.some.inj hv).symm⟩
      refine ⟨rfl, ?_⟩
      dsimp only [tYes]
      refine iteT ?_
      refine ⟨_, rfl, _, rfl, q, ns, j, rfl, ex_l (e1.trans e2) hs, by omega, fun p H3 e3 hp p3 => ⟨p, 0, rfl, p3, by decide, fun H4 k4 => ?_⟩⟩
      have e4 : Ex H2 H4 := fun b o hb => k4 b o (e3 b o hb) (ne_of_none hb hp)
      refine ⟨_, e4 _ _ hb1, small1000 (by rw [List.length_map]; omega), Ex.mut (e2.trans e4) hD, bs ++ [true], ?_, ?_, ?_⟩
      · rw [upd_same, List.map_append]; rfl
      · intro b hb
        rcases List.mem_append.mp hb with hb | hb
        · exact hb2 b hb
        · exact List.mem_singleton.mp hb
      · rw [List.length_append, List.length_singleton]; omega
    · rintro H2 ⟨e2, bs, hb1, hb2, hb3⟩
      refine ⟨D, bs, rfl, SqL.of hb1, ?_⟩
      rw [all_id bs hb2]
      exact k H2
end
end My


set_option Elab.async false
set_option maxRecDepth 100000
namespace My
open PySem L2 Evl
set_option maxHeartbeats 0 in
theorem all_mk {l : PySem.W.OpenLaw} {w : World} {K : PySem.W.Frag} {h : Heap} {mg : Str → Option Value} {fa f_is_whole f_is_from_to f_power f_Grid_init f_Grid_contains f_is_grid f_spacing_at f_fitted f_goes_up f_row_worth f_renewed f_renewed_row f_shows_shortest f_rounded_parts f_is_numbers f_is_row f_check_row f_check_reached f_l_pot f_l_take f_l_of f_l_grid_power f_l_grid_ladder f_l_grid_more f_l_grid_spacing f_l_grid_greatest f_l_grid_rounded f_l_is_int f_l_grid_has f_l_odd f_l_bent f_l_cells f_l_small f_l_lengths f_l_own_renewed f_l_near_rows f_l_is_shortest f_l_right f_law C_Grid : Addr} (X : K.In h) (G : h.Ns mainGlobals mg) (hfa : mg "law" = some (.ref fa))
    {od_is_whole an_is_whole od_is_from_to an_is_from_to od_power an_power od_Grid_init an_Grid_init od_Grid_contains an_Grid_contains od_is_grid an_is_grid od_spacing_at an_spacing_at od_fitted an_fitted od_goes_up an_goes_up od_row_worth an_row_worth od_renewed an_renewed od_renewed_row an_renewed_row od_shows_shortest an_shows_shortest od_rounded_parts an_rounded_parts od_is_numbers an_is_numbers od_is_row an_is_row od_check_row an_check_row od_check_reached an_check_reached od_l_pot an_l_pot od_l_take an_l_take od_l_of an_l_of od_l_grid_power an_l_grid_power od_l_grid_ladder an_l_grid_ladder od_l_grid_more an_l_grid_more od_l_grid_spacing an_l_grid_spacing od_l_grid_greatest an_l_grid_greatest od_l_grid_rounded an_l_grid_rounded od_l_is_int an_l_is_int od_l_grid_has an_l_grid_has od_l_odd an_l_odd od_l_bent an_l_bent od_l_cells an_l_cells od_l_small an_l_small od_l_lengths an_l_lengths od_l_own_renewed an_l_own_renewed od_l_near_rows an_l_near_rows od_l_is_shortest an_l_is_shortest od_l_right an_l_right od_law an_law : Option Addr} {sl_is_whole sl_is_from_to sl_power sl_Grid_init sl_Grid_contains sl_is_grid sl_spacing_at sl_fitted sl_goes_up sl_row_worth sl_renewed sl_renewed_row sl_shows_shortest sl_rounded_parts sl_is_numbers sl_is_row sl_check_row sl_check_reached sl_l_pot sl_l_take sl_l_of sl_l_grid_power sl_l_grid_ladder sl_l_grid_more sl_l_grid_spacing sl_l_grid_greatest sl_l_grid_rounded sl_l_is_int sl_l_grid_has sl_l_odd sl_l_bent sl_l_cells sl_l_small sl_l_lengths sl_l_own_renewed sl_l_near_rows sl_l_is_shortest sl_l_right sl_law : Array (Option Value)} {oc_is_whole kV_is_whole dc_is_whole pm_is_whole cd_is_whole ct_is_whole oc_is_from_to kV_is_from_to dc_is_from_to pm_is_from_to cd_is_from_to ct_is_from_to oc_power kV_power dc_power pm_power cd_power ct_power oc_Grid_init kV_Grid_init dc_Grid_init pm_Grid_init cd_Grid_init ct_Grid_init oc_Grid_contains kV_Grid_contains dc_Grid_contains pm_Grid_contains cd_Grid_contains ct_Grid_contains oc_is_grid kV_is_grid dc_is_grid pm_is_grid cd_is_grid ct_is_grid oc_spacing_at kV_spacing_at dc_spacing_at pm_spacing_at cd_spacing_at ct_spacing_at oc_fitted kV_fitted dc_fitted pm_fitted cd_fitted ct_fitted oc_goes_up kV_goes_up dc_goes_up pm_goes_up cd_goes_up ct_goes_up oc_row_worth kV_row_worth dc_row_worth pm_row_worth cd_row_worth ct_row_worth oc_renewed kV_renewed dc_renewed pm_renewed cd_renewed ct_renewed oc_renewed_row kV_renewed_row dc_renewed_row pm_renewed_row cd_renewed_row ct_renewed_row oc_shows_shortest kV_shows_shortest dc_shows_shortest pm_shows_shortest cd_shows_shortest ct_shows_shortest oc_rounded_parts kV_rounded_parts dc_rounded_parts pm_rounded_parts cd_rounded_parts ct_rounded_parts oc_is_numbers kV_is_numbers dc_is_numbers pm_is_numbers cd_is_numbers ct_is_numbers oc_is_row kV_is_row dc_is_row pm_is_row cd_is_row ct_is_row oc_check_row kV_check_row dc_check_row pm_check_row cd_check_row ct_check_row oc_check_reached kV_check_reached dc_check_reached pm_check_reached cd_check_reached ct_check_reached oc_l_pot kV_l_pot dc_l_pot pm_l_pot cd_l_pot ct_l_pot oc_l_take kV_l_take dc_l_take pm_l_take cd_l_take ct_l_take oc_l_of kV_l_of dc_l_of pm_l_of cd_l_of ct_l_of oc_l_grid_power kV_l_grid_power dc_l_grid_power pm_l_grid_power cd_l_grid_power ct_l_grid_power oc_l_grid_ladder kV_l_grid_ladder dc_l_grid_ladder pm_l_grid_ladder cd_l_grid_ladder ct_l_grid_ladder oc_l_grid_more kV_l_grid_more dc_l_grid_more pm_l_grid_more cd_l_grid_more ct_l_grid_more oc_l_grid_spacing kV_l_grid_spacing dc_l_grid_spacing pm_l_grid_spacing cd_l_grid_spacing ct_l_grid_spacing oc_l_grid_greatest kV_l_grid_greatest dc_l_grid_greatest pm_l_grid_greatest cd_l_grid_greatest ct_l_grid_greatest oc_l_grid_rounded kV_l_grid_rounded dc_l_grid_rounded pm_l_grid_rounded cd_l_grid_rounded ct_l_grid_rounded oc_l_is_int kV_l_is_int dc_l_is_int pm_l_is_int cd_l_is_int ct_l_is_int oc_l_grid_has kV_l_grid_has dc_l_grid_has pm_l_grid_has cd_l_grid_has ct_l_grid_has oc_l_odd kV_l_odd dc_l_odd pm_l_odd cd_l_odd ct_l_odd oc_l_bent kV_l_bent dc_l_bent pm_l_bent cd_l_bent ct_l_bent oc_l_cells kV_l_cells dc_l_cells pm_l_cells cd_l_cells ct_l_cells oc_l_small kV_l_small dc_l_small pm_l_small cd_l_small ct_l_small oc_l_lengths kV_l_lengths dc_l_lengths pm_l_lengths cd_l_lengths ct_l_lengths oc_l_own_renewed kV_l_own_renewed dc_l_own_renewed pm_l_own_renewed cd_l_own_renewed ct_l_own_renewed oc_l_near_rows kV_l_near_rows dc_l_near_rows pm_l_near_rows cd_l_near_rows ct_l_near_rows oc_l_is_shortest kV_l_is_shortest dc_l_is_shortest pm_l_is_shortest cd_l_is_shortest ct_l_is_shortest oc_l_right kV_l_right dc_l_right pm_l_right cd_l_right ct_l_right oc_law kV_law dc_law pm_law cd_law ct_law : Value} {t_MOST_FIGURES t_MOST_MORE t_LONGEST_ROW : Tok}
    (aC_Grid : PySem.W.nsIn K mainGlobals "Grid" = some (some (.ref C_Grid)))
    (a_is_whole : PySem.W.nsIn K mainGlobals "is_whole" = some (some (.ref f_is_whole)))
    (l_is_whole : K.lookup f_is_whole = some ⟨oc_is_whole, od_is_whole, .func (PySem.W.fnOf "is_whole" "is_whole" (defArgs s_is_whole) (defBody s_is_whole) (defScope s_is_whole) .none kV_is_whole dc_is_whole pm_is_whole an_is_whole cd_is_whole ct_is_whole), sl_is_whole⟩)
    (c_is_whole : PySem.W.codeIn K cd_is_whole "is_whole" = true)
    (k_is_whole : PySem.W.keepIn K (.ref f_is_whole) = true)
    (a_is_from_to : PySem.W.nsIn K mainGlobals "is_from_to" = some (some (.ref f_is_from_to)))
    (l_is_from_to : K.lookup f_is_from_to = some ⟨oc_is_from_to, od_is_from_to, .func (PySem.W.fnOf "is_from_to" "is_from_to" (defArgs s_is_from_to) (defBody s_is_from_to) (defScope s_is_from_to) .none kV_is_from_to dc_is_from_to pm_is_from_to an_is_from_to cd_is_from_to ct_is_from_to), sl_is_from_to⟩)
    (c_is_from_to : PySem.W.codeIn K cd_is_from_to "is_from_to" = true)
    (k_is_from_to : PySem.W.keepIn K (.ref f_is_from_to) = true)
    (a_power : PySem.W.nsIn K mainGlobals "power" = some (some (.ref f_power)))
    (l_power : K.lookup f_power = some ⟨oc_power, od_power, .func (PySem.W.fnOf "power" "power" (defArgs s_power) (defBody s_power) (defScope s_power) .none kV_power dc_power pm_power an_power cd_power ct_power), sl_power⟩)
    (c_power : PySem.W.codeIn K cd_power "power" = true)
    (k_power : PySem.W.keepIn K (.ref f_power) = true)
    (a_Grid_init : PySem.W.findIn K (.ref C_Grid) "__init__" = some (some (.ref f_Grid_init)))
    (i_Grid_init : PySem.W.isFn K (.ref f_Grid_init) = true)
    (l_Grid_init : K.lookup f_Grid_init = some ⟨oc_Grid_init, od_Grid_init, .func (PySem.W.fnOf "__init__" "Grid.__init__" (defArgs s_Grid_init) (defBody s_Grid_init) (defScope s_Grid_init) .none kV_Grid_init dc_Grid_init pm_Grid_init an_Grid_init cd_Grid_init ct_Grid_init), sl_Grid_init⟩)
    (c_Grid_init : PySem.W.codeIn K cd_Grid_init "Grid.__init__" = true)
    (k_Grid_init : PySem.W.keepIn K (.ref f_Grid_init) = true)
    (a_Grid_contains : PySem.W.findIn K (.ref C_Grid) "__contains__" = some (some (.ref f_Grid_contains)))
    (i_Grid_contains : PySem.W.isFn K (.ref f_Grid_contains) = true)
    (l_Grid_contains : K.lookup f_Grid_contains = some ⟨oc_Grid_contains, od_Grid_contains, .func (PySem.W.fnOf "__contains__" "Grid.__contains__" (defArgs s_Grid_contains) (defBody s_Grid_contains) (defScope s_Grid_contains) .none kV_Grid_contains dc_Grid_contains pm_Grid_contains an_Grid_contains cd_Grid_contains ct_Grid_contains), sl_Grid_contains⟩)
    (c_Grid_contains : PySem.W.codeIn K cd_Grid_contains "Grid.__contains__" = true)
    (k_Grid_contains : PySem.W.keepIn K (.ref f_Grid_contains) = true)
    (a_is_grid : PySem.W.nsIn K mainGlobals "is_grid" = some (some (.ref f_is_grid)))
    (l_is_grid : K.lookup f_is_grid = some ⟨oc_is_grid, od_is_grid, .func (PySem.W.fnOf "is_grid" "is_grid" (defArgs s_is_grid) (defBody s_is_grid) (defScope s_is_grid) .none kV_is_grid dc_is_grid pm_is_grid an_is_grid cd_is_grid ct_is_grid), sl_is_grid⟩)
    (c_is_grid : PySem.W.codeIn K cd_is_grid "is_grid" = true)
    (k_is_grid : PySem.W.keepIn K (.ref f_is_grid) = true)
    (a_spacing_at : PySem.W.nsIn K mainGlobals "spacing_at" = some (some (.ref f_spacing_at)))
    (l_spacing_at : K.lookup f_spacing_at = some ⟨oc_spacing_at, od_spacing_at, .func (PySem.W.fnOf "spacing_at" "spacing_at" (defArgs s_spacing_at) (defBody s_spacing_at) (defScope s_spacing_at) .none kV_spacing_at dc_spacing_at pm_spacing_at an_spacing_at cd_spacing_at ct_spacing_at), sl_spacing_at⟩)
    (c_spacing_at : PySem.W.codeIn K cd_spacing_at "spacing_at" = true)
    (k_spacing_at : PySem.W.keepIn K (.ref f_spacing_at) = true)
    (a_fitted : PySem.W.nsIn K mainGlobals "fitted" = some (some (.ref f_fitted)))
    (l_fitted : K.lookup f_fitted = some ⟨oc_fitted, od_fitted, .func (PySem.W.fnOf "fitted" "fitted" (defArgs s_fitted) (defBody s_fitted) (defScope s_fitted) .none kV_fitted dc_fitted pm_fitted an_fitted cd_fitted ct_fitted), sl_fitted⟩)
    (c_fitted : PySem.W.codeIn K cd_fitted "fitted" = true)
    (k_fitted : PySem.W.keepIn K (.ref f_fitted) = true)
    (a_goes_up : PySem.W.nsIn K mainGlobals "goes_up" = some (some (.ref f_goes_up)))
    (l_goes_up : K.lookup f_goes_up = some ⟨oc_goes_up, od_goes_up, .func (PySem.W.fnOf "goes_up" "goes_up" (defArgs s_goes_up) (defBody s_goes_up) (defScope s_goes_up) .none kV_goes_up dc_goes_up pm_goes_up an_goes_up cd_goes_up ct_goes_up), sl_goes_up⟩)
    (c_goes_up : PySem.W.codeIn K cd_goes_up "goes_up" = true)
    (k_goes_up : PySem.W.keepIn K (.ref f_goes_up) = true)
    (a_row_worth : PySem.W.nsIn K mainGlobals "row_worth" = some (some (.ref f_row_worth)))
    (l_row_worth : K.lookup f_row_worth = some ⟨oc_row_worth, od_row_worth, .func (PySem.W.fnOf "row_worth" "row_worth" (defArgs s_row_worth) (defBody s_row_worth) (defScope s_row_worth) .none kV_row_worth dc_row_worth pm_row_worth an_row_worth cd_row_worth ct_row_worth), sl_row_worth⟩)
    (c_row_worth : PySem.W.codeIn K cd_row_worth "row_worth" = true)
    (k_row_worth : PySem.W.keepIn K (.ref f_row_worth) = true)
    (a_renewed : PySem.W.nsIn K mainGlobals "renewed" = some (some (.ref f_renewed)))
    (l_renewed : K.lookup f_renewed = some ⟨oc_renewed, od_renewed, .func (PySem.W.fnOf "renewed" "renewed" (defArgs s_renewed) (defBody s_renewed) (defScope s_renewed) .none kV_renewed dc_renewed pm_renewed an_renewed cd_renewed ct_renewed), sl_renewed⟩)
    (c_renewed : PySem.W.codeIn K cd_renewed "renewed" = true)
    (k_renewed : PySem.W.keepIn K (.ref f_renewed) = true)
    (a_renewed_row : PySem.W.nsIn K mainGlobals "renewed_row" = some (some (.ref f_renewed_row)))
    (l_renewed_row : K.lookup f_renewed_row = some ⟨oc_renewed_row, od_renewed_row, .func (PySem.W.fnOf "renewed_row" "renewed_row" (defArgs s_renewed_row) (defBody s_renewed_row) (defScope s_renewed_row) .none kV_renewed_row dc_renewed_row pm_renewed_row an_renewed_row cd_renewed_row ct_renewed_row), sl_renewed_row⟩)
    (c_renewed_row : PySem.W.codeIn K cd_renewed_row "renewed_row" = true)
    (k_renewed_row : PySem.W.keepIn K (.ref f_renewed_row) = true)
    (a_shows_shortest : PySem.W.nsIn K mainGlobals "shows_shortest" = some (some (.ref f_shows_shortest)))
    (l_shows_shortest : K.lookup f_shows_shortest = some ⟨oc_shows_shortest, od_shows_shortest, .func (PySem.W.fnOf "shows_shortest" "shows_shortest" (defArgs s_shows_shortest) (defBody s_shows_shortest) (defScope s_shows_shortest) .none kV_shows_shortest dc_shows_shortest pm_shows_shortest an_shows_shortest cd_shows_shortest ct_shows_shortest), sl_shows_shortest⟩)
    (c_shows_shortest : PySem.W.codeIn K cd_shows_shortest "shows_shortest" = true)
    (k_shows_shortest : PySem.W.keepIn K (.ref f_shows_shortest) = true)
    (a_rounded_parts : PySem.W.nsIn K mainGlobals "rounded_parts" = some (some (.ref f_rounded_parts)))
    (l_rounded_parts : K.lookup f_rounded_parts = some ⟨oc_rounded_parts, od_rounded_parts, .func (PySem.W.fnOf "rounded_parts" "rounded_parts" (defArgs s_rounded_parts) (defBody s_rounded_parts) (defScope s_rounded_parts) .none kV_rounded_parts dc_rounded_parts pm_rounded_parts an_rounded_parts cd_rounded_parts ct_rounded_parts), sl_rounded_parts⟩)
    (c_rounded_parts : PySem.W.codeIn K cd_rounded_parts "rounded_parts" = true)
    (k_rounded_parts : PySem.W.keepIn K (.ref f_rounded_parts) = true)
    (a_is_numbers : PySem.W.nsIn K mainGlobals "is_numbers" = some (some (.ref f_is_numbers)))
    (l_is_numbers : K.lookup f_is_numbers = some ⟨oc_is_numbers, od_is_numbers, .func (PySem.W.fnOf "is_numbers" "is_numbers" (defArgs s_is_numbers) (defBody s_is_numbers) (defScope s_is_numbers) .none kV_is_numbers dc_is_numbers pm_is_numbers an_is_numbers cd_is_numbers ct_is_numbers), sl_is_numbers⟩)
    (c_is_numbers : PySem.W.codeIn K cd_is_numbers "is_numbers" = true)
    (k_is_numbers : PySem.W.keepIn K (.ref f_is_numbers) = true)
    (a_is_row : PySem.W.nsIn K mainGlobals "is_row" = some (some (.ref f_is_row)))
    (l_is_row : K.lookup f_is_row = some ⟨oc_is_row, od_is_row, .func (PySem.W.fnOf "is_row" "is_row" (defArgs s_is_row) (defBody s_is_row) (defScope s_is_row) .none kV_is_row dc_is_row pm_is_row an_is_row cd_is_row ct_is_row), sl_is_row⟩)
    (c_is_row : PySem.W.codeIn K cd_is_row "is_row" = true)
    (k_is_row : PySem.W.keepIn K (.ref f_is_row) = true)
    (a_check_row : PySem.W.nsIn K mainGlobals "check_row" = some (some (.ref f_check_row)))
    (l_check_row : K.lookup f_check_row = some ⟨oc_check_row, od_check_row, .func (PySem.W.fnOf "check_row" "check_row" (defArgs s_check_row) (defBody s_check_row) (defScope s_check_row) .none kV_check_row dc_check_row pm_check_row an_check_row cd_check_row ct_check_row), sl_check_row⟩)
    (c_check_row : PySem.W.codeIn K cd_check_row "check_row" = true)
    (k_check_row : PySem.W.keepIn K (.ref f_check_row) = true)
    (a_check_reached : PySem.W.nsIn K mainGlobals "check_reached" = some (some (.ref f_check_reached)))
    (l_check_reached : K.lookup f_check_reached = some ⟨oc_check_reached, od_check_reached, .func (PySem.W.fnOf "check_reached" "check_reached" (defArgs s_check_reached) (defBody s_check_reached) (defScope s_check_reached) .none kV_check_reached dc_check_reached pm_check_reached an_check_reached cd_check_reached ct_check_reached), sl_check_reached⟩)
    (c_check_reached : PySem.W.codeIn K cd_check_reached "check_reached" = true)
    (k_check_reached : PySem.W.keepIn K (.ref f_check_reached) = true)
    (a_l_pot : PySem.W.nsIn K mainGlobals "_law_pot" = some (some (.ref f_l_pot)))
    (l_l_pot : K.lookup f_l_pot = some ⟨oc_l_pot, od_l_pot, .func (PySem.W.fnOf "_law_pot" "_law_pot" (defArgs s_l_pot) (defBody s_l_pot) (defScope s_l_pot) .none kV_l_pot dc_l_pot pm_l_pot an_l_pot cd_l_pot ct_l_pot), sl_l_pot⟩)
    (c_l_pot : PySem.W.codeIn K cd_l_pot "_law_pot" = true)
    (k_l_pot : PySem.W.keepIn K (.ref f_l_pot) = true)
    (a_l_take : PySem.W.nsIn K mainGlobals "_law_take" = some (some (.ref f_l_take)))
    (l_l_take : K.lookup f_l_take = some ⟨oc_l_take, od_l_take, .func (PySem.W.fnOf "_law_take" "_law_take" (defArgs s_l_take) (defBody s_l_take) (defScope s_l_take) .none kV_l_take dc_l_take pm_l_take an_l_take cd_l_take ct_l_take), sl_l_take⟩)
    (c_l_take : PySem.W.codeIn K cd_l_take "_law_take" = true)
    (k_l_take : PySem.W.keepIn K (.ref f_l_take) = true)
    (a_l_of : PySem.W.nsIn K mainGlobals "_law_of" = some (some (.ref f_l_of)))
    (l_l_of : K.lookup f_l_of = some ⟨oc_l_of, od_l_of, .func (PySem.W.fnOf "_law_of" "_law_of" (defArgs s_l_of) (defBody s_l_of) (defScope s_l_of) .none kV_l_of dc_l_of pm_l_of an_l_of cd_l_of ct_l_of), sl_l_of⟩)
    (c_l_of : PySem.W.codeIn K cd_l_of "_law_of" = true)
    (k_l_of : PySem.W.keepIn K (.ref f_l_of) = true)
    (a_l_grid_power : PySem.W.nsIn K mainGlobals "_law_grid_power" = some (some (.ref f_l_grid_power)))
    (l_l_grid_power : K.lookup f_l_grid_power = some ⟨oc_l_grid_power, od_l_grid_power, .func (PySem.W.fnOf "_law_grid_power" "_law_grid_power" (defArgs s_l_grid_power) (defBody s_l_grid_power) (defScope s_l_grid_power) .none kV_l_grid_power dc_l_grid_power pm_l_grid_power an_l_grid_power cd_l_grid_power ct_l_grid_power), sl_l_grid_power⟩)
    (c_l_grid_power : PySem.W.codeIn K cd_l_grid_power "_law_grid_power" = true)
    (k_l_grid_power : PySem.W.keepIn K (.ref f_l_grid_power) = true)
    (a_l_grid_ladder : PySem.W.nsIn K mainGlobals "_law_grid_ladder" = some (some (.ref f_l_grid_ladder)))
    (l_l_grid_ladder : K.lookup f_l_grid_ladder = some ⟨oc_l_grid_ladder, od_l_grid_ladder, .func (PySem.W.fnOf "_law_grid_ladder" "_law_grid_ladder" (defArgs s_l_grid_ladder) (defBody s_l_grid_ladder) (defScope s_l_grid_ladder) .none kV_l_grid_ladder dc_l_grid_ladder pm_l_grid_ladder an_l_grid_ladder cd_l_grid_ladder ct_l_grid_ladder), sl_l_grid_ladder⟩)
    (c_l_grid_ladder : PySem.W.codeIn K cd_l_grid_ladder "_law_grid_ladder" = true)
    (k_l_grid_ladder : PySem.W.keepIn K (.ref f_l_grid_ladder) = true)
    (a_l_grid_more : PySem.W.nsIn K mainGlobals "_law_grid_more" = some (some (.ref f_l_grid_more)))
    (l_l_grid_more : K.lookup f_l_grid_more = some ⟨oc_l_grid_more, od_l_grid_more, .func (PySem.W.fnOf "_law_grid_more" "_law_grid_more" (defArgs s_l_grid_more) (defBody s_l_grid_more) (defScope s_l_grid_more) .none kV_l_grid_more dc_l_grid_more pm_l_grid_more an_l_grid_more cd_l_grid_more ct_l_grid_more), sl_l_grid_more⟩)
    (c_l_grid_more : PySem.W.codeIn K cd_l_grid_more "_law_grid_more" = true)
    (k_l_grid_more : PySem.W.keepIn K (.ref f_l_grid_more) = true)
    (a_l_grid_spacing : PySem.W.nsIn K mainGlobals "_law_grid_spacing" = some (some (.ref f_l_grid_spacing)))
    (l_l_grid_spacing : K.lookup f_l_grid_spacing = some ⟨oc_l_grid_spacing, od_l_grid_spacing, .func (PySem.W.fnOf "_law_grid_spacing" "_law_grid_spacing" (defArgs s_l_grid_spacing) (defBody s_l_grid_spacing) (defScope s_l_grid_spacing) .none kV_l_grid_spacing dc_l_grid_spacing pm_l_grid_spacing an_l_grid_spacing cd_l_grid_spacing ct_l_grid_spacing), sl_l_grid_spacing⟩)
    (c_l_grid_spacing : PySem.W.codeIn K cd_l_grid_spacing "_law_grid_spacing" = true)
    (k_l_grid_spacing : PySem.W.keepIn K (.ref f_l_grid_spacing) = true)
    (a_l_grid_greatest : PySem.W.nsIn K mainGlobals "_law_grid_greatest" = some (some (.ref f_l_grid_greatest)))
    (l_l_grid_greatest : K.lookup f_l_grid_greatest = some ⟨oc_l_grid_greatest, od_l_grid_greatest, .func (PySem.W.fnOf "_law_grid_greatest" "_law_grid_greatest" (defArgs s_l_grid_greatest) (defBody s_l_grid_greatest) (defScope s_l_grid_greatest) .none kV_l_grid_greatest dc_l_grid_greatest pm_l_grid_greatest an_l_grid_greatest cd_l_grid_greatest ct_l_grid_greatest), sl_l_grid_greatest⟩)
    (c_l_grid_greatest : PySem.W.codeIn K cd_l_grid_greatest "_law_grid_greatest" = true)
    (k_l_grid_greatest : PySem.W.keepIn K (.ref f_l_grid_greatest) = true)
    (a_l_grid_rounded : PySem.W.nsIn K mainGlobals "_law_grid_rounded" = some (some (.ref f_l_grid_rounded)))
    (l_l_grid_rounded : K.lookup f_l_grid_rounded = some ⟨oc_l_grid_rounded, od_l_grid_rounded, .func (PySem.W.fnOf "_law_grid_rounded" "_law_grid_rounded" (defArgs s_l_grid_rounded) (defBody s_l_grid_rounded) (defScope s_l_grid_rounded) .none kV_l_grid_rounded dc_l_grid_rounded pm_l_grid_rounded an_l_grid_rounded cd_l_grid_rounded ct_l_grid_rounded), sl_l_grid_rounded⟩)
    (c_l_grid_rounded : PySem.W.codeIn K cd_l_grid_rounded "_law_grid_rounded" = true)
    (k_l_grid_rounded : PySem.W.keepIn K (.ref f_l_grid_rounded) = true)
    (a_l_is_int : PySem.W.nsIn K mainGlobals "_law_is_int" = some (some (.ref f_l_is_int)))
    (l_l_is_int : K.lookup f_l_is_int = some ⟨oc_l_is_int, od_l_is_int, .func (PySem.W.fnOf "_law_is_int" "_law_is_int" (defArgs s_l_is_int) (defBody s_l_is_int) (defScope s_l_is_int) .none kV_l_is_int dc_l_is_int pm_l_is_int an_l_is_int cd_l_is_int ct_l_is_int), sl_l_is_int⟩)
    (c_l_is_int : PySem.W.codeIn K cd_l_is_int "_law_is_int" = true)
    (k_l_is_int : PySem.W.keepIn K (.ref f_l_is_int) = true)
    (a_l_grid_has : PySem.W.nsIn K mainGlobals "_law_grid_has" = some (some (.ref f_l_grid_has)))
    (l_l_grid_has : K.lookup f_l_grid_has = some ⟨oc_l_grid_has, od_l_grid_has, .func (PySem.W.fnOf "_law_grid_has" "_law_grid_has" (defArgs s_l_grid_has) (defBody s_l_grid_has) (defScope s_l_grid_has) .none kV_l_grid_has dc_l_grid_has pm_l_grid_has an_l_grid_has cd_l_grid_has ct_l_grid_has), sl_l_grid_has⟩)
    (c_l_grid_has : PySem.W.codeIn K cd_l_grid_has "_law_grid_has" = true)
    (k_l_grid_has : PySem.W.keepIn K (.ref f_l_grid_has) = true)
    (a_l_odd : PySem.W.nsIn K mainGlobals "_law_odd" = some (some (.ref f_l_odd)))
    (l_l_odd : K.lookup f_l_odd = some ⟨oc_l_odd, od_l_odd, .func (PySem.W.fnOf "_law_odd" "_law_odd" (defArgs s_l_odd) (defBody s_l_odd) (defScope s_l_odd) .none kV_l_odd dc_l_odd pm_l_odd an_l_odd cd_l_odd ct_l_odd), sl_l_odd⟩)
    (c_l_odd : PySem.W.codeIn K cd_l_odd "_law_odd" = true)
    (k_l_odd : PySem.W.keepIn K (.ref f_l_odd) = true)
    (a_l_bent : PySem.W.nsIn K mainGlobals "_law_bent" = some (some (.ref f_l_bent)))
    (l_l_bent : K.lookup f_l_bent = some ⟨oc_l_bent, od_l_bent, .func (PySem.W.fnOf "_law_bent" "_law_bent" (defArgs s_l_bent) (defBody s_l_bent) (defScope s_l_bent) .none kV_l_bent dc_l_bent pm_l_bent an_l_bent cd_l_bent ct_l_bent), sl_l_bent⟩)
    (c_l_bent : PySem.W.codeIn K cd_l_bent "_law_bent" = true)
    (k_l_bent : PySem.W.keepIn K (.ref f_l_bent) = true)
    (a_l_cells : PySem.W.nsIn K mainGlobals "_law_cells" = some (some (.ref f_l_cells)))
    (l_l_cells : K.lookup f_l_cells = some ⟨oc_l_cells, od_l_cells, .func (PySem.W.fnOf "_law_cells" "_law_cells" (defArgs s_l_cells) (defBody s_l_cells) (defScope s_l_cells) .none kV_l_cells dc_l_cells pm_l_cells an_l_cells cd_l_cells ct_l_cells), sl_l_cells⟩)
    (c_l_cells : PySem.W.codeIn K cd_l_cells "_law_cells" = true)
    (k_l_cells : PySem.W.keepIn K (.ref f_l_cells) = true)
    (a_l_small : PySem.W.nsIn K mainGlobals "_law_small" = some (some (.ref f_l_small)))
    (l_l_small : K.lookup f_l_small = some ⟨oc_l_small, od_l_small, .func (PySem.W.fnOf "_law_small" "_law_small" (defArgs s_l_small) (defBody s_l_small) (defScope s_l_small) .none kV_l_small dc_l_small pm_l_small an_l_small cd_l_small ct_l_small), sl_l_small⟩)
    (c_l_small : PySem.W.codeIn K cd_l_small "_law_small" = true)
    (k_l_small : PySem.W.keepIn K (.ref f_l_small) = true)
    (a_l_lengths : PySem.W.nsIn K mainGlobals "_law_lengths" = some (some (.ref f_l_lengths)))
    (l_l_lengths : K.lookup f_l_lengths = some ⟨oc_l_lengths, od_l_lengths, .func (PySem.W.fnOf "_law_lengths" "_law_lengths" (defArgs s_l_lengths) (defBody s_l_lengths) (defScope s_l_lengths) .none kV_l_lengths dc_l_lengths pm_l_lengths an_l_lengths cd_l_lengths ct_l_lengths), sl_l_lengths⟩)
    (c_l_lengths : PySem.W.codeIn K cd_l_lengths "_law_lengths" = true)
    (k_l_lengths : PySem.W.keepIn K (.ref f_l_lengths) = true)
    (a_l_own_renewed : PySem.W.nsIn K mainGlobals "_law_own_renewed" = some (some (.ref f_l_own_renewed)))
    (l_l_own_renewed : K.lookup f_l_own_renewed = some ⟨oc_l_own_renewed, od_l_own_renewed, .func (PySem.W.fnOf "_law_own_renewed" "_law_own_renewed" (defArgs s_l_own_renewed) (defBody s_l_own_renewed) (defScope s_l_own_renewed) .none kV_l_own_renewed dc_l_own_renewed pm_l_own_renewed an_l_own_renewed cd_l_own_renewed ct_l_own_renewed), sl_l_own_renewed⟩)
    (c_l_own_renewed : PySem.W.codeIn K cd_l_own_renewed "_law_own_renewed" = true)
    (k_l_own_renewed : PySem.W.keepIn K (.ref f_l_own_renewed) = true)
    (a_l_near_rows : PySem.W.nsIn K mainGlobals "_law_near_rows" = some (some (.ref f_l_near_rows)))
    (l_l_near_rows : K.lookup f_l_near_rows = some ⟨oc_l_near_rows, od_l_near_rows, .func (PySem.W.fnOf "_law_near_rows" "_law_near_rows" (defArgs s_l_near_rows) (defBody s_l_near_rows) (defScope s_l_near_rows) .none kV_l_near_rows dc_l_near_rows pm_l_near_rows an_l_near_rows cd_l_near_rows ct_l_near_rows), sl_l_near_rows⟩)
    (c_l_near_rows : PySem.W.codeIn K cd_l_near_rows "_law_near_rows" = true)
    (k_l_near_rows : PySem.W.keepIn K (.ref f_l_near_rows) = true)
    (a_l_is_shortest : PySem.W.nsIn K mainGlobals "_law_is_shortest" = some (some (.ref f_l_is_shortest)))
    (l_l_is_shortest : K.lookup f_l_is_shortest = some ⟨oc_l_is_shortest, od_l_is_shortest, .func (PySem.W.fnOf "_law_is_shortest" "_law_is_shortest" (defArgs s_l_is_shortest) (defBody s_l_is_shortest) (defScope s_l_is_shortest) .none kV_l_is_shortest dc_l_is_shortest pm_l_is_shortest an_l_is_shortest cd_l_is_shortest ct_l_is_shortest), sl_l_is_shortest⟩)
    (c_l_is_shortest : PySem.W.codeIn K cd_l_is_shortest "_law_is_shortest" = true)
    (k_l_is_shortest : PySem.W.keepIn K (.ref f_l_is_shortest) = true)
    (a_l_right : PySem.W.nsIn K mainGlobals "_law_right" = some (some (.ref f_l_right)))
    (l_l_right : K.lookup f_l_right = some ⟨oc_l_right, od_l_right, .func (PySem.W.fnOf "_law_right" "_law_right" (defArgs s_l_right) (defBody s_l_right) (defScope s_l_right) .none kV_l_right dc_l_right pm_l_right an_l_right cd_l_right ct_l_right), sl_l_right⟩)
    (c_l_right : PySem.W.codeIn K cd_l_right "_law_right" = true)
    (k_l_right : PySem.W.keepIn K (.ref f_l_right) = true)
    (a_law : PySem.W.nsIn K mainGlobals "law" = some (some (.ref f_law)))
    (l_law : K.lookup f_law = some ⟨oc_law, od_law, .func (PySem.W.fnOf "law" "law" (defArgs s_law) (defBody s_law) (defScope s_law) .none kV_law dc_law pm_law an_law cd_law ct_law), sl_law⟩)
    (c_law : PySem.W.codeIn K cd_law "law" = true)
    (k_law : PySem.W.keepIn K (.ref f_law) = true)
    (pg_Grid : PySem.W.plainGet K C_Grid Str.empty = true)
    (hd_Grid : PySem.W.hasDictIn K C_Grid = true)
    (po_Grid : PySem.W.plainOver K C_Grid = true)
    (sa_Grid : PySem.W.findIn K (.ref C_Grid) "__setattr__" = some (some (.builtin "object.__setattr__")))
    (mk_Grid : PySem.W.makesIn K C_Grid = true)
    (kc_Grid : PySem.W.keepIn K (.ref C_Grid) = true)
    (nf_Grid_base : PySem.W.findIn K (.ref C_Grid) "base" = some none)
    (nf_Grid_figures : PySem.W.findIn K (.ref C_Grid) "figures" = some none)
    (nf_Grid_reach : PySem.W.findIn K (.ref C_Grid) "reach" = some none)
    (nf_Grid_places : PySem.W.findIn K (.ref C_Grid) "places" = some none)
    (nf_Grid_unit : PySem.W.findIn K (.ref C_Grid) "unit" = some none)
    (nf_Grid_limits : PySem.W.findIn K (.ref C_Grid) "limits" = some none)
    (nf_Grid_tops : PySem.W.findIn K (.ref C_Grid) "tops" = some none)
    (nf_Grid_greatest : PySem.W.findIn K (.ref C_Grid) "greatest" = some none)
    (v_MOST_FIGURES : PySem.W.nsIn K mainGlobals "MOST_FIGURES" = some (some (.int 30 t_MOST_FIGURES)))
    (v_MOST_MORE : PySem.W.nsIn K mainGlobals "MOST_MORE" = some (some (.int 3 t_MOST_MORE)))
    (v_LONGEST_ROW : PySem.W.nsIn K mainGlobals "LONGEST_ROW" = some (some (.int 100 t_LONGEST_ROW)))
    (z_abs : PySem.W.nsIn K mainGlobals "abs" = some none)
    (z_all : PySem.W.nsIn K mainGlobals "all" = some none)
    (z_bool : PySem.W.nsIn K mainGlobals "bool" = some none)
    (z_int : PySem.W.nsIn K mainGlobals "int" = some none)
    (z_isinstance : PySem.W.nsIn K mainGlobals "isinstance" = some none)
    (z_len : PySem.W.nsIn K mainGlobals "len" = some none)
    (z_list : PySem.W.nsIn K mainGlobals "list" = some none)
    (z_max : PySem.W.nsIn K mainGlobals "max" = some none)
    (z_min : PySem.W.nsIn K mainGlobals "min" = some none)
    (z_range : PySem.W.nsIn K mainGlobals "range" = some none)
    (z_repr : PySem.W.nsIn K mainGlobals "repr" = some none)
    (z_str : PySem.W.nsIn K mainGlobals "str" = some none)
    (z_sum : PySem.W.nsIn K mainGlobals "sum" = some none)
    (z_tuple : PySem.W.nsIn K mainGlobals "tuple" = some none) :
    ∃ fd : FuncData, (∀ (s : Shared) (v : Value), BindsTo s fd ⟨[v], []⟩ [("script", v)]) ∧ ∀ base : Heap, K.In base → base.Ns mainGlobals mg → GOk l.prog w K mg base 10 fa fd ["script"] (spLaw K) := by
  have e := hfa.symm.trans (PySem.W.mg_of X G a_law)
  obtain rfl : f_law = fa := by cases e; rfl
  have F_is_whole := fun_mk (st := s_is_whole) l_is_whole c_is_whole k_is_whole
  have B_is_whole := F_is_whole.binds (ps := ["value"]) fun _ _ _ _ _ _ us hl => match us, hl with | [_], _ => rfl
  have F_is_from_to := fun_mk (st := s_is_from_to) l_is_from_to c_is_from_to k_is_from_to
  have B_is_from_to := F_is_from_to.binds (ps := ["value", "low", "high"]) fun _ _ _ _ _ _ us hl => match us, hl with | [_, _, _], _ => rfl
  have F_power := fun_mk (st := s_power) l_power c_power k_power
  have B_power := F_power.binds (ps := ["base", "exponent"]) fun _ _ _ _ _ _ us hl => match us, hl with | [_, _], _ => rfl
  have F_Grid_init := fun_mk (st := s_Grid_init) l_Grid_init c_Grid_init k_Grid_init
  have B_Grid_init := F_Grid_init.binds (ps := ["self", "base", "figures", "reach", "places"]) fun _ _ _ _ _ _ us hl => match us, hl with | [_, _, _, _, _], _ => rfl
  have F_Grid_contains := fun_mk (st := s_Grid_contains) l_Grid_contains c_Grid_contains k_Grid_contains
  have B_Grid_contains := F_Grid_contains.binds (ps := ["self", "value"]) fun _ _ _ _ _ _ us hl => match us, hl with | [_, _], _ => rfl
  have F_is_grid := fun_mk (st := s_is_grid) l_is_grid c_is_grid k_is_grid
  have B_is_grid := F_is_grid.binds (ps := ["told"]) fun _ _ _ _ _ _ us hl => match us, hl with | [_], _ => rfl
  have F_spacing_at := fun_mk (st := s_spacing_at) l_spacing_at c_spacing_at k_spacing_at
  have B_spacing_at := F_spacing_at.binds (ps := ["grid", "size", "more"]) fun _ _ _ _ _ _ us hl => match us, hl with | [_, _, _], _ => rfl
  have F_fitted := fun_mk (st := s_fitted) l_fitted c_fitted k_fitted
  have B_fitted := F_fitted.binds (ps := ["grid", "top", "bottom", "way", "more"]) fun _ _ _ _ _ _ us hl => match us, hl with | [_, _, _, _, _], _ => rfl
  have F_goes_up := fun_mk (st := s_goes_up) l_goes_up c_goes_up k_goes_up
  have B_goes_up := F_goes_up.binds (ps := ["below", "left", "step", "way"]) fun _ _ _ _ _ _ us hl => match us, hl with | [_, _, _, _], _ => rfl
  have F_row_worth := fun_mk (st := s_row_worth) l_row_worth c_row_worth k_row_worth
  have B_row_worth := F_row_worth.binds (ps := ["grid", "row"]) fun _ _ _ _ _ _ us hl => match us, hl with | [_, _], _ => rfl
  have F_renewed := fun_mk (st := s_renewed) l_renewed c_renewed k_renewed
  have B_renewed := F_renewed.binds (ps := ["grid", "worth"]) fun _ _ _ _ _ _ us hl => match us, hl with | [_, _], _ => rfl
  have F_renewed_row := fun_mk (st := s_renewed_row) l_renewed_row c_renewed_row k_renewed_row
  have B_renewed_row := F_renewed_row.binds (ps := ["grid", "row"]) fun _ _ _ _ _ _ us hl => match us, hl with | [_, _], _ => rfl
  have F_shows_shortest := fun_mk (st := s_shows_shortest) l_shows_shortest c_shows_shortest k_shows_shortest
  have B_shows_shortest := F_shows_shortest.binds (ps := ["grid", "worth", "value"]) fun _ _ _ _ _ _ us hl => match us, hl with | [_, _, _], _ => rfl
  have F_rounded_parts := fun_mk (st := s_rounded_parts) l_rounded_parts c_rounded_parts k_rounded_parts
  have B_rounded_parts := F_rounded_parts.binds (ps := ["grid", "worth"]) fun _ _ _ _ _ _ us hl => match us, hl with | [_, _], _ => rfl
  have F_is_numbers := fun_mk (st := s_is_numbers) l_is_numbers c_is_numbers k_is_numbers
  have B_is_numbers := F_is_numbers.binds (ps := ["grid", "value"]) fun _ _ _ _ _ _ us hl => match us, hl with | [_, _], _ => rfl
  have F_is_row := fun_mk (st := s_is_row) l_is_row c_is_row k_is_row
  have B_is_row := F_is_row.binds (ps := ["grid", "value"]) fun _ _ _ _ _ _ us hl => match us, hl with | [_, _], _ => rfl
  have F_check_row := fun_mk (st := s_check_row) l_check_row c_check_row k_check_row
  have B_check_row := F_check_row.binds (ps := ["grid", "row"]) fun _ _ _ _ _ _ us hl => match us, hl with | [_, _], _ => rfl
  have F_check_reached := fun_mk (st := s_check_reached) l_check_reached c_check_reached k_check_reached
  have B_check_reached := F_check_reached.binds (ps := ["grid", "worth"]) fun _ _ _ _ _ _ us hl => match us, hl with | [_, _], _ => rfl
  have F_l_pot := fun_mk (st := s_l_pot) l_l_pot c_l_pot k_l_pot
  have B_l_pot := F_l_pot.binds (ps := ["script", "place"]) fun _ _ _ _ _ _ us hl => match us, hl with | [_, _], _ => rfl
  have F_l_take := fun_mk (st := s_l_take) l_l_take c_l_take k_l_take
  have B_l_take := F_l_take.binds (ps := ["pot", "upto"]) fun _ _ _ _ _ _ us hl => match us, hl with | [_, _], _ => rfl
  have F_l_of := fun_mk (st := s_l_of) l_l_of c_l_of k_l_of
  have B_l_of := F_l_of.binds (ps := ["pot", "some"]) fun _ _ _ _ _ _ us hl => match us, hl with | [_, _], _ => rfl
  have F_l_grid_power := fun_mk (st := s_l_grid_power) l_l_grid_power c_l_grid_power k_l_grid_power
  have B_l_grid_power := F_l_grid_power.binds (ps := ["base", "many"]) fun _ _ _ _ _ _ us hl => match us, hl with | [_, _], _ => rfl
  have F_l_grid_ladder := fun_mk (st := s_l_grid_ladder) l_l_grid_ladder c_l_grid_ladder k_l_grid_ladder
  have B_l_grid_ladder := F_l_grid_ladder.binds (ps := ["grid"]) fun _ _ _ _ _ _ us hl => match us, hl with | [_], _ => rfl
  have F_l_grid_more := fun_mk (st := s_l_grid_more) l_l_grid_more c_l_grid_more k_l_grid_more
  have B_l_grid_more := F_l_grid_more.binds (ps := ["grid", "more"]) fun _ _ _ _ _ _ us hl => match us, hl with | [_, _], _ => rfl
  have F_l_grid_spacing := fun_mk (st := s_l_grid_spacing) l_l_grid_spacing c_l_grid_spacing k_l_grid_spacing
  have B_l_grid_spacing := F_l_grid_spacing.binds (ps := ["grid", "top", "bottom"]) fun _ _ _ _ _ _ us hl => match us, hl with | [_, _, _], _ => rfl
  have F_l_grid_greatest := fun_mk (st := s_l_grid_greatest) l_l_grid_greatest c_l_grid_greatest k_l_grid_greatest
  have B_l_grid_greatest := F_l_grid_greatest.binds (ps := ["grid"]) fun _ _ _ _ _ _ us hl => match us, hl with | [_], _ => rfl
  have F_l_grid_rounded := fun_mk (st := s_l_grid_rounded) l_l_grid_rounded c_l_grid_rounded k_l_grid_rounded
  have B_l_grid_rounded := F_l_grid_rounded.binds (ps := ["grid", "top", "bottom", "way", "more"]) fun _ _ _ _ _ _ us hl => match us, hl with | [_, _, _, _, _], _ => rfl
  have F_l_is_int := fun_mk (st := s_l_is_int) l_l_is_int c_l_is_int k_l_is_int
  have B_l_is_int := F_l_is_int.binds (ps := ["value", "low", "high"]) fun _ _ _ _ _ _ us hl => match us, hl with | [_, _, _], _ => rfl
  have F_l_grid_has := fun_mk (st := s_l_grid_has) l_l_grid_has c_l_grid_has k_l_grid_has
  have B_l_grid_has := F_l_grid_has.binds (ps := ["grid", "number"]) fun _ _ _ _ _ _ us hl => match us, hl with | [_, _], _ => rfl
  have F_l_odd := fun_mk (st := s_l_odd) l_l_odd c_l_odd k_l_odd
  have B_l_odd := F_l_odd.binds (ps := ["pot"]) fun _ _ _ _ _ _ us hl => match us, hl with | [_], _ => rfl
  have F_l_bent := fun_mk (st := s_l_bent) l_l_bent c_l_bent k_l_bent
  have B_l_bent := F_l_bent.binds (ps := ["pot", "value"]) fun _ _ _ _ _ _ us hl => match us, hl with | [_, _], _ => rfl
  have F_l_cells := fun_mk (st := s_l_cells) l_l_cells c_l_cells k_l_cells
  have B_l_cells := F_l_cells.binds (ps := ["script", "most"]) fun _ _ _ _ _ _ us hl => match us, hl with | [_, _], _ => rfl
  have F_l_small := fun_mk (st := s_l_small) l_l_small c_l_small k_l_small
  have B_l_small := F_l_small.binds (ps := ["pot"]) fun _ _ _ _ _ _ us hl => match us, hl with | [_], _ => rfl
  have F_l_lengths := fun_mk (st := s_l_lengths) l_l_lengths c_l_lengths k_l_lengths
  have B_l_lengths := F_l_lengths.binds (ps := ["ladder"]) fun _ _ _ _ _ _ us hl => match us, hl with | [_], _ => rfl
  have F_l_own_renewed := fun_mk (st := s_l_own_renewed) l_l_own_renewed c_l_own_renewed k_l_own_renewed
  have B_l_own_renewed := F_l_own_renewed.binds (ps := ["grid", "worth"]) fun _ _ _ _ _ _ us hl => match us, hl with | [_, _], _ => rfl
  have F_l_near_rows := fun_mk (st := s_l_near_rows) l_l_near_rows c_l_near_rows k_l_near_rows
  have B_l_near_rows := F_l_near_rows.binds (ps := ["pot", "row", "every"]) fun _ _ _ _ _ _ us hl => match us, hl with | [_, _, _], _ => rfl
  have F_l_is_shortest := fun_mk (st := s_l_is_shortest) l_l_is_shortest c_l_is_shortest k_l_is_shortest
  have B_l_is_shortest := F_l_is_shortest.binds (ps := ["grid", "worth", "size", "value"]) fun _ _ _ _ _ _ us hl => match us, hl with | [_, _, _, _], _ => rfl
  have F_l_right := fun_mk (st := s_l_right) l_l_right c_l_right k_l_right
  have B_l_right := F_l_right.binds (ps := ["pot"]) fun _ _ _ _ _ _ us hl => match us, hl with | [_], _ => rfl
  have F_law := fun_mk (st := s_law) l_law c_law k_law
  have B_law := F_law.binds (ps := ["script"]) fun _ _ _ _ _ _ us hl => match us, hl with | [_], _ => rfl
  have T : Txt K mg ⟨f_is_whole, _, f_is_from_to, _, f_power, _, f_Grid_init, _, f_Grid_contains, _, f_is_grid, _, f_spacing_at, _, f_fitted, _, f_goes_up, _, f_row_worth, _, f_renewed, _, f_renewed_row, _, f_shows_shortest, _, f_rounded_parts, _, f_is_numbers, _, f_is_row, _, f_check_row, _, f_check_reached, _, f_l_pot, _, f_l_take, _, f_l_of, _, f_l_grid_power, _, f_l_grid_ladder, _, f_l_grid_more, _, f_l_grid_spacing, _, f_l_grid_greatest, _, f_l_grid_rounded, _, f_l_is_int, _, f_l_grid_has, _, f_l_odd, _, f_l_bent, _, f_l_cells, _, f_l_small, _, f_l_lengths, _, f_l_own_renewed, _, f_l_near_rows, _, f_l_is_shortest, _, f_l_right, _, f_law, _, C_Grid⟩ := {
    F_is_whole := F_is_whole
    B_is_whole := B_is_whole
    g_is_whole := PySem.W.mg_of X G a_is_whole
    k_is_whole := k_is_whole
    F_is_from_to := F_is_from_to
    B_is_from_to := B_is_from_to
    g_is_from_to := PySem.W.mg_of X G a_is_from_to
    k_is_from_to := k_is_from_to
    F_power := F_power
    B_power := B_power
    g_power := PySem.W.mg_of X G a_power
    k_power := k_power
    F_Grid_init := F_Grid_init
    B_Grid_init := B_Grid_init
    F_Grid_contains := F_Grid_contains
    B_Grid_contains := B_Grid_contains
    m_Grid_contains := ⟨a_Grid_contains, i_Grid_contains⟩
    F_is_grid := F_is_grid
    B_is_grid := B_is_grid
    g_is_grid := PySem.W.mg_of X G a_is_grid
    k_is_grid := k_is_grid
    F_spacing_at := F_spacing_at
    B_spacing_at := B_spacing_at
    g_spacing_at := PySem.W.mg_of X G a_spacing_at
    k_spacing_at := k_spacing_at
    F_fitted := F_fitted
    B_fitted := B_fitted
    g_fitted := PySem.W.mg_of X G a_fitted
    k_fitted := k_fitted
    F_goes_up := F_goes_up
    B_goes_up := B_goes_up
    g_goes_up := PySem.W.mg_of X G a_goes_up
    k_goes_up := k_goes_up
    F_row_worth := F_row_worth
    B_row_worth := B_row_worth
    g_row_worth := PySem.W.mg_of X G a_row_worth
    k_row_worth := k_row_worth
    F_renewed := F_renewed
    B_renewed := B_renewed
    g_renewed := PySem.W.mg_of X G a_renewed
    k_renewed := k_renewed
    F_renewed_row := F_renewed_row
    B_renewed_row := B_renewed_row
    g_renewed_row := PySem.W.mg_of X G a_renewed_row
    k_renewed_row := k_renewed_row
    F_shows_shortest := F_shows_shortest
    B_shows_shortest := B_shows_shortest
    g_shows_shortest := PySem.W.mg_of X G a_shows_shortest
    k_shows_shortest := k_shows_shortest
    F_rounded_parts := F_rounded_parts
    B_rounded_parts := B_rounded_parts
    g_rounded_parts := PySem.W.mg_of X G a_rounded_parts
    k_rounded_parts := k_rounded_parts
    F_is_numbers := F_is_numbers
    B_is_numbers := B_is_numbers
    g_is_numbers := PySem.W.mg_of X G a_is_numbers
    k_is_numbers := k_is_numbers
    F_is_row := F_is_row
    B_is_row := B_is_row
    g_is_row := PySem.W.mg_of X G a_is_row
    k_is_row := k_is_row
    F_check_row := F_check_row
    B_check_row := B_check_row
    g_check_row := PySem.W.mg_of X G a_check_row
    k_check_row := k_check_row
    F_check_reached := F_check_reached
    B_check_reached := B_check_reached
    g_check_reached := PySem.W.mg_of X G a_check_reached
    k_check_reached := k_check_reached
    F_l_pot := F_l_pot
    B_l_pot := B_l_pot
    g_l_pot := PySem.W.mg_of X G a_l_pot
    k_l_pot := k_l_pot
    F_l_take := F_l_take
    B_l_take := B_l_take
    g_l_take := PySem.W.mg_of X G a_l_take
    k_l_take := k_l_take
    F_l_of := F_l_of
    B_l_of := B_l_of
    g_l_of := PySem.W.mg_of X G a_l_of
    k_l_of := k_l_of
    F_l_grid_power := F_l_grid_power
    B_l_grid_power := B_l_grid_power
    g_l_grid_power := PySem.W.mg_of X G a_l_grid_power
    k_l_grid_power := k_l_grid_power
    F_l_grid_ladder := F_l_grid_ladder
    B_l_grid_ladder := B_l_grid_ladder
    g_l_grid_ladder := PySem.W.mg_of X G a_l_grid_ladder
    k_l_grid_ladder := k_l_grid_ladder
    F_l_grid_more := F_l_grid_more
    B_l_grid_more := B_l_grid_more
    g_l_grid_more := PySem.W.mg_of X G a_l_grid_more
    k_l_grid_more := k_l_grid_more
    F_l_grid_spacing := F_l_grid_spacing
    B_l_grid_spacing := B_l_grid_spacing
    g_l_grid_spacing := PySem.W.mg_of X G a_l_grid_spacing
    k_l_grid_spacing := k_l_grid_spacing
    F_l_grid_greatest := F_l_grid_greatest
    B_l_grid_greatest := B_l_grid_greatest
    g_l_grid_greatest := PySem.W.mg_of X G a_l_grid_greatest
    k_l_grid_greatest := k_l_grid_greatest
    F_l_grid_rounded := F_l_grid_rounded
    B_l_grid_rounded := B_l_grid_rounded
    g_l_grid_rounded := PySem.W.mg_of X G a_l_grid_rounded
    k_l_grid_rounded := k_l_grid_rounded
    F_l_is_int := F_l_is_int
    B_l_is_int := B_l_is_int
    g_l_is_int := PySem.W.mg_of X G a_l_is_int
    k_l_is_int := k_l_is_int
    F_l_grid_has := F_l_grid_has
    B_l_grid_has := B_l_grid_has
    g_l_grid_has := PySem.W.mg_of X G a_l_grid_has
    k_l_grid_has := k_l_grid_has
    F_l_odd := F_l_odd
    B_l_odd := B_l_odd
    g_l_odd := PySem.W.mg_of X G a_l_odd
    k_l_odd := k_l_odd
    F_l_bent := F_l_bent
    B_l_bent := B_l_bent
    g_l_bent := PySem.W.mg_of X G a_l_bent
    k_l_bent := k_l_bent
    F_l_cells := F_l_cells
    B_l_cells := B_l_cells
    g_l_cells := PySem.W.mg_of X G a_l_cells
    k_l_cells := k_l_cells
    F_l_small := F_l_small
    B_l_small := B_l_small
    g_l_small := PySem.W.mg_of X G a_l_small
    k_l_small := k_l_small
    F_l_lengths := F_l_lengths
    B_l_lengths := B_l_lengths
    g_l_lengths := PySem.W.mg_of X G a_l_lengths
    k_l_lengths := k_l_lengths
    F_l_own_renewed := F_l_own_renewed
    B_l_own_renewed := B_l_own_renewed
    g_l_own_renewed := PySem.W.mg_of X G a_l_own_renewed
    k_l_own_renewed := k_l_own_renewed
    F_l_near_rows := F_l_near_rows
    B_l_near_rows := B_l_near_rows
    g_l_near_rows := PySem.W.mg_of X G a_l_near_rows
    k_l_near_rows := k_l_near_rows
    F_l_is_shortest := F_l_is_shortest
    B_l_is_shortest := B_l_is_shortest
    g_l_is_shortest := PySem.W.mg_of X G a_l_is_shortest
    k_l_is_shortest := k_l_is_shortest
    F_l_right := F_l_right
    B_l_right := B_l_right
    g_l_right := PySem.W.mg_of X G a_l_right
    k_l_right := k_l_right
    F_law := F_law
    B_law := B_law
    g_law := PySem.W.mg_of X G a_law
    k_law := k_law
    cl_Grid := ⟨pg_Grid, hd_Grid, po_Grid, sa_Grid⟩
    mk_Grid := ⟨mk_Grid, a_Grid_init, i_Grid_init, kc_Grid⟩
    g_Grid := PySem.W.mg_of X G aC_Grid
    f_Grid_base := nf_Grid_base
    f_Grid_figures := nf_Grid_figures
    f_Grid_reach := nf_Grid_reach
    f_Grid_places := nf_Grid_places
    f_Grid_unit := nf_Grid_unit
    f_Grid_limits := nf_Grid_limits
    f_Grid_tops := nf_Grid_tops
    f_Grid_greatest := nf_Grid_greatest
    c_MOST_FIGURES := ⟨_, PySem.W.mg_of X G v_MOST_FIGURES⟩
    c_MOST_MORE := ⟨_, PySem.W.mg_of X G v_MOST_MORE⟩
    c_LONGEST_ROW := ⟨_, PySem.W.mg_of X G v_LONGEST_ROW⟩
    n_abs := PySem.W.mg_none_of X G z_abs
    n_all := PySem.W.mg_none_of X G z_all
    n_bool := PySem.W.mg_none_of X G z_bool
    n_int := PySem.W.mg_none_of X G z_int
    n_isinstance := PySem.W.mg_none_of X G z_isinstance
    n_len := PySem.W.mg_none_of X G z_len
    n_list := PySem.W.mg_none_of X G z_list
    n_max := PySem.W.mg_none_of X G z_max
    n_min := PySem.W.mg_none_of X G z_min
    n_range := PySem.W.mg_none_of X G z_range
    n_repr := PySem.W.mg_none_of X G z_repr
    n_str := PySem.W.mg_none_of X G z_str
    n_sum := PySem.W.mg_none_of X G z_sum
    n_tuple := PySem.W.mg_none_of X G z_tuple }
  exact ⟨PySem.W.fnOf "law" "law" (defArgs s_law) (defBody s_law) (defScope s_law) .none kV_law dc_law pm_law an_law cd_law ct_law, fun s v => .of_eq rfl, fun base _ _ => ok_law T⟩
theorem walk {l : PySem.W.OpenLaw} {q : Program} {loose : List Str} {XP : (Str → Option Value) → Heap → Prop} {YP : World → Heap → Prop} {d : DefRec} {K : Params → PySem.W.Frag} (hn : l.most = some 63) (hdf : d.params.defaults = [])
    (hY : ∀ (w : World) (h : Heap), YP w h → (K w.params).In h)
    (F : ∀ (w : World) (mg : Str → Option Value) (fa : Addr) (h : Heap), (K w.params).In h → h.Ns mainGlobals mg → mg d.name = some (.ref fa) →
      ∃ fd : FuncData, (∀ (s : Shared) (u : Value), BindsTo s fd ⟨[u], []⟩ [("script", u)]) ∧ ∀ base : Heap, (K w.params).In base → base.Ns mainGlobals mg → GOk l.prog w (K w.params) mg base 10 fa fd ["script"] (spLaw (K w.params))) :
    PySem.W.WalkO q loose XP YP l.row.toRowW d [] (fun f vs => PySem.call f vs) :=
  My.walk_ofG (n := 63) (k := 10) (x := "script") (sp := fun w => spLaw (K w.params)) hn (by decide) hdf ⟨rfl, by decide, by decide⟩ hY F (fun _ _ a ns hl hS => ⟨a, ns, rfl, hS, hl, fun _ => rfl⟩)
end My
open PySem PySem.W PyProof.Rows
set_option maxRecDepth 100000 in
set_option maxHeartbeats 0 in
theorem PySem.Challenge.cw_roundedsteps_k81_whole_rows_renewed_and_holds : PySem.Challenge.rw_roundedsteps_k81_whole_rows_renewed_and.Holds := by
  w_on; o_law; k_head; (case hw => w_witness2)
  k_fill
  refine My.walk (l := PySem.Challenge.rw_roundedsteps_k81_whole_rows_renewed_and) rfl rfl (fun w h Y => PySem.W.kIn_of Y) ?F
  case F =>
    intro w mg fa h KX G hmg
    refine' My.all_mk KX G hmg ?aC_Grid ?a_is_whole ?l_is_whole ?c_is_whole ?k_is_whole ?a_is_from_to ?l_is_from_to ?c_is_from_to ?k_is_from_to ?a_power ?l_power ?c_power ?k_power ?a_Grid_init ?i_Grid_init ?l_Grid_init ?c_Grid_init ?k_Grid_init ?a_Grid_contains ?i_Grid_contains ?l_Grid_contains ?c_Grid_contains ?k_Grid_contains ?a_is_grid ?l_is_grid ?c_is_grid ?k_is_grid ?a_spacing_at ?l_spacing_at ?c_spacing_at ?k_spacing_at ?a_fitted ?l_fitted ?c_fitted ?k_fitted ?a_goes_up ?l_goes_up ?c_goes_up ?k_goes_up ?a_row_worth ?l_row_worth ?c_row_worth ?k_row_worth ?a_renewed ?l_renewed ?c_renewed ?k_renewed ?a_renewed_row ?l_renewed_row ?c_renewed_row ?k_renewed_row ?a_shows_shortest ?l_shows_shortest ?c_shows_shortest ?k_shows_shortest ?a_rounded_parts ?l_rounded_parts ?c_rounded_parts ?k_rounded_parts ?a_is_numbers ?l_is_numbers ?c_is_numbers ?k_is_numbers ?a_is_row ?l_is_row ?c_is_row ?k_is_row ?a_check_row ?l_check_row ?c_check_row ?k_check_row ?a_check_reached ?l_check_reached ?c_check_reached ?k_check_reached ?a_l_pot ?l_l_pot ?c_l_pot ?k_l_pot ?a_l_take ?l_l_take ?c_l_take ?k_l_take ?a_l_of ?l_l_of ?c_l_of ?k_l_of ?a_l_grid_power ?l_l_grid_power ?c_l_grid_power ?k_l_grid_power ?a_l_grid_ladder ?l_l_grid_ladder ?c_l_grid_ladder ?k_l_grid_ladder ?a_l_grid_more ?l_l_grid_more ?c_l_grid_more ?k_l_grid_more ?a_l_grid_spacing ?l_l_grid_spacing ?c_l_grid_spacing ?k_l_grid_spacing ?a_l_grid_greatest ?l_l_grid_greatest ?c_l_grid_greatest ?k_l_grid_greatest ?a_l_grid_rounded ?l_l_grid_rounded ?c_l_grid_rounded ?k_l_grid_rounded ?a_l_is_int ?l_l_is_int ?c_l_is_int ?k_l_is_int ?a_l_grid_has ?l_l_grid_has ?c_l_grid_has ?k_l_grid_has ?a_l_odd ?l_l_odd ?c_l_odd ?k_l_odd ?a_l_bent ?l_l_bent ?c_l_bent ?k_l_bent ?a_l_cells ?l_l_cells ?c_l_cells ?k_l_cells ?a_l_small ?l_l_small ?c_l_small ?k_l_small ?a_l_lengths ?l_l_lengths ?c_l_lengths ?k_l_lengths ?a_l_own_renewed ?l_l_own_renewed ?c_l_own_renewed ?k_l_own_renewed ?a_l_near_rows ?l_l_near_rows ?c_l_near_rows ?k_l_near_rows ?a_l_is_shortest ?l_l_is_shortest ?c_l_is_shortest ?k_l_is_shortest ?a_l_right ?l_l_right ?c_l_right ?k_l_right ?a_law ?l_law ?c_law ?k_law ?pg_Grid ?hd_Grid ?po_Grid ?sa_Grid ?mk_Grid ?kc_Grid ?nf_Grid_base ?nf_Grid_figures ?nf_Grid_reach ?nf_Grid_places ?nf_Grid_unit ?nf_Grid_limits ?nf_Grid_tops ?nf_Grid_greatest ?v_MOST_FIGURES ?v_MOST_MORE ?v_LONGEST_ROW ?z_abs ?z_all ?z_bool ?z_int ?z_isinstance ?z_len ?z_list ?z_max ?z_min ?z_range ?z_repr ?z_str ?z_sum ?z_tuple
    (case aC_Grid => k_is)
    (case a_is_whole => k_is)
    (case l_is_whole => k_is)
    (case c_is_whole => k_is)
    (case k_is_whole => k_is)
    (case a_is_from_to => k_is)
    (case l_is_from_to => k_is)
    (case c_is_from_to => k_is)
    (case k_is_from_to => k_is)
    (case a_power => k_is)
    (case l_power => k_is)
    (case c_power => k_is)
    (case k_power => k_is)
    (case a_Grid_init => k_is)
    (case i_Grid_init => k_is)
    (case l_Grid_init => k_is)
    (case c_Grid_init => k_is)
    (case k_Grid_init => k_is)
    (case a_Grid_contains => k_is)
    (case i_Grid_contains => k_is)
    (case l_Grid_contains => k_is)
    (case c_Grid_contains => k_is)
    (case k_Grid_contains => k_is)
    (case a_is_grid => k_is)
    (case l_is_grid => k_is)
    (case c_is_grid => k_is)
    (case k_is_grid => k_is)
    (case a_spacing_at => k_is)
    (case l_spacing_at => k_is)
    (case c_spacing_at => k_is)
    (case k_spacing_at => k_is)
    (case a_fitted => k_is)
    (case l_fitted => k_is)
    (case c_fitted => k_is)
    (case k_fitted => k_is)
    (case a_goes_up => k_is)
    (case l_goes_up => k_is)
    (case c_goes_up => k_is)
    (case k_goes_up => k_is)
    (case a_row_worth => k_is)
    (case l_row_worth => k_is)
    (case c_row_worth => k_is)
    (case k_row_worth => k_is)
    (case a_renewed => k_is)
    (case l_renewed => k_is)
    (case c_renewed => k_is)
    (case k_renewed => k_is)
    (case a_renewed_row => k_is)
    (case l_renewed_row => k_is)
    (case c_renewed_row => k_is)
    (case k_renewed_row => k_is)
    (case a_shows_shortest => k_is)
    (case l_shows_shortest => k_is)
    (case c_shows_shortest => k_is)
    (case k_shows_shortest => k_is)
    (case a_rounded_parts => k_is)
    (case l_rounded_parts => k_is)
    (case c_rounded_parts => k_is)
    (case k_rounded_parts => k_is)
    (case a_is_numbers => k_is)
    (case l_is_numbers => k_is)
    (case c_is_numbers => k_is)
    (case k_is_numbers => k_is)
    (case a_is_row => k_is)
    (case l_is_row => k_is)
    (case c_is_row => k_is)
    (case k_is_row => k_is)
    (case a_check_row => k_is)
    (case l_check_row => k_is)
    (case c_check_row => k_is)
    (case k_check_row => k_is)
    (case a_check_reached => k_is)
    (case l_check_reached => k_is)
    (case c_check_reached => k_is)
    (case k_check_reached => k_is)
    (case a_l_pot => k_is)
    (case l_l_pot => k_is)
    (case c_l_pot => k_is)
    (case k_l_pot => k_is)
    (case a_l_take => k_is)
    (case l_l_take => k_is)
    (case c_l_take => k_is)
    (case k_l_take => k_is)
    (case a_l_of => k_is)
    (case l_l_of => k_is)
    (case c_l_of => k_is)
    (case k_l_of => k_is)
    (case a_l_grid_power => k_is)
    (case l_l_grid_power => k_is)
    (case c_l_grid_power => k_is)
    (case k_l_grid_power => k_is)
    (case a_l_grid_ladder => k_is)
    (case l_l_grid_ladder => k_is)
    (case c_l_grid_ladder => k_is)
    (case k_l_grid_ladder => k_is)
    (case a_l_grid_more => k_is)
    (case l_l_grid_more => k_is)
    (case c_l_grid_more => k_is)
    (case k_l_grid_more => k_is)
    (case a_l_grid_spacing => k_is)
    (case l_l_grid_spacing => k_is)
    (case c_l_grid_spacing => k_is)
    (case k_l_grid_spacing => k_is)
    (case a_l_grid_greatest => k_is)
    (case l_l_grid_greatest => k_is)
    (case c_l_grid_greatest => k_is)
    (case k_l_grid_greatest => k_is)
    (case a_l_grid_rounded => k_is)
    (case l_l_grid_rounded => k_is)
    (case c_l_grid_rounded => k_is)
    (case k_l_grid_rounded => k_is)
    (case a_l_is_int => k_is)
    (case l_l_is_int => k_is)
    (case c_l_is_int => k_is)
    (case k_l_is_int => k_is)
    (case a_l_grid_has => k_is)
    (case l_l_grid_has => k_is)
    (case c_l_grid_has => k_is)
    (case k_l_grid_has => k_is)
    (case a_l_odd => k_is)
    (case l_l_odd => k_is)
    (case c_l_odd => k_is)
    (case k_l_odd => k_is)
    (case a_l_bent => k_is)
    (case l_l_bent => k_is)
    (case c_l_bent => k_is)
    (case k_l_bent => k_is)
    (case a_l_cells => k_is)
    (case l_l_cells => k_is)
    (case c_l_cells => k_is)
    (case k_l_cells => k_is)
    (case a_l_small => k_is)
    (case l_l_small => k_is)
    (case c_l_small => k_is)
    (case k_l_small => k_is)
    (case a_l_lengths => k_is)
    (case l_l_lengths => k_is)
    (case c_l_lengths => k_is)
    (case k_l_lengths => k_is)
    (case a_l_own_renewed => k_is)
    (case l_l_own_renewed => k_is)
    (case c_l_own_renewed => k_is)
    (case k_l_own_renewed => k_is)
    (case a_l_near_rows => k_is)
    (case l_l_near_rows => k_is)
    (case c_l_near_rows => k_is)
    (case k_l_near_rows => k_is)
    (case a_l_is_shortest => k_is)
    (case l_l_is_shortest => k_is)
    (case c_l_is_shortest => k_is)
    (case k_l_is_shortest => k_is)
    (case a_l_right => k_is)
    (case l_l_right => k_is)
    (case c_l_right => k_is)
    (case k_l_right => k_is)
    (case a_law => k_is)
    (case l_law => k_is)
    (case c_law => k_is)
    (case k_law => k_is)
    (case pg_Grid => k_is)
    (case hd_Grid => k_is)
    (case po_Grid => k_is)
    (case sa_Grid => k_is)
    (case mk_Grid => k_is)
    (case kc_Grid => k_is)
    (case nf_Grid_base => k_is)
    (case nf_Grid_figures => k_is)
    (case nf_Grid_reach => k_is)
    (case nf_Grid_places => k_is)
    (case nf_Grid_unit => k_is)
    (case nf_Grid_limits => k_is)
    (case nf_Grid_tops => k_is)
    (case nf_Grid_greatest => k_is)
    (case v_MOST_FIGURES => k_is)
    (case v_MOST_MORE => k_is)
    (case v_LONGEST_ROW => k_is)
    (case z_abs => k_is)
    (case z_all => k_is)
    (case z_bool => k_is)
    (case z_int => k_is)
    (case z_isinstance => k_is)
    (case z_len => k_is)
    (case z_list => k_is)
    (case z_max => k_is)
    (case z_min => k_is)
    (case z_range => k_is)
    (case z_repr => k_is)
    (case z_str => k_is)
    (case z_sum => k_is)
    (case z_tuple => k_is)
#print axioms PySem.Challenge.cw_roundedsteps_k81_whole_rows_renewed_and_holds

