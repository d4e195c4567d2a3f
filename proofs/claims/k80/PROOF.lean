import PyProof.Rows.All
import Wide.All
import OpenK.AllK
import Wide.FinOn
import HandS.ForMost
import HandS.Wide
import HandS.IsInst
import HandS.TupLe
import HandS.Evl
import HandS.Conv
import HandS.Style
import HandS.RaiseMore
import HandS.TupAny
import HandS.Zip
import PySem.Challenge.RW_roundedsteps_k80_whole_signs_of_rows_and
set_option Elab.async false
set_option maxRecDepth 100000
set_option exponentiation.threshold 6000
set_option Elab.async false
set_option maxRecDepth 100000
namespace My
open PySem L2 PyProof.Rows
/-! ### rules of my own -/
section
variable {prog : Program} {w : World} {A : Around} {E : Value → Shared → Prop} {s : Shared} {l : Addr} {its : List Value} {ns : List Int} {xs : Array (Int × Tok)} {Q : Value → Shared → Prop}
theorem sum_intTupG (hh : A.handled = none) (hl : s.heap.IsTuple l (intItems xs))
    (h : ∀ h' tk t', (∀ b o, s.heap.get? b = some o → h'.get? b = some o) → Q (.int (preSum (numAt xs) xs.size) t') { s with heap := h', toks := tk }) :
    wpAny (model prog w) A (call (.builtin "sum") [.ref l]) Q E s := by
  have hlt : l < s.heap.objs.size := by
    obtain ⟨o, e, _⟩ := hl
    exact Heap.lt_size e
  refine call_sum_walkG (wpAny_pyIter_tuple hl ?_)
  refine ⟨_, [s.heap.objs.size, l], [s.heap.objs.size], _, _, _, numAt xs, rfl, Walks.tuple (A := A.in1) hh _ l (Nat.ne_of_lt hlt) (intItems xs), ⟨⟨_, Heap.get?_push_size _ rfl, rfl, rfl⟩, hl.push _⟩, fun c hc => ?_, (fun _ _ => intItems_at), fun h' tk t' hk => ?_⟩
  · show c < (s.heap.push _).objs.size
    rw [Heap.size_push]
    rcases List.mem_cons.mp hc with rfl | hc
    · exact Nat.lt_succ_self _
    · rcases List.mem_cons.mp hc with rfl | hc
      · exact Nat.lt_succ_of_lt hlt
      · cases hc
  · have hold : ∀ c o, s.heap.get? c = some o → h'.get? c = some o := fun c o e => by
      refine hk c o (fun hm => ?_) (Heap.get?_push_of_some _ e)
      rcases List.mem_cons.mp hm with e1 | hm
      · have := Heap.lt_size e; rw [e1] at this; exact Nat.lt_irrefl _ this
      · cases hm
    have := h h' tk t' hold
    simpa [intItems] using this
theorem sum_rawT (hh : A.handled = none) (hl : s.heap.IsTuple l its.toArray) (hi : IntsAre its ns)
    (h : ∀ h' tk t', (∀ b o, s.heap.get? b = some o → h'.get? b = some o) → Q (.int ns.sum t') { s with heap := h', toks := tk }) : wpAny (model prog w) A (call (.builtin "sum") [.ref l]) Q E s := by
  obtain ⟨xs, e⟩ := hi.allInts.items
  have hn : numsOf (intItems xs).toList = ns := by rw [← e]; exact hi.numsOf
  rw [nums_intItems] at hn
  rw [e] at hl
  refine sum_intTupG hh hl fun h' tk t' hk => ?_
  have := h h' tk t' hk
  rw [preSum_eq, List.take_of_length_le (by simp), hn]; exact this
end
section
variable {X : Cx}
def rSumT (K : PySem.W.Frag) : List V → Hp → VK → Prop := fun vs H Q => ∃ (a : Addr) (ns : List Int), vs = [V.ref a] ∧ SqT K H a (ns.map V.int) ∧ Q (.int ns.sum) H
theorem cr_sumT (hc : X.calm = true) : CallR X (.builtin "sum") (rSumT X.K) := by
  intro pins s σ H vs us Q I r h
  obtain ⟨a, ns, rfl, hs, q⟩ := h
  obtain ⟨its, rv, hl, _⟩ := I.tuple hs
  rw [Vals.ref1 r]
  exact sum_rawT (I.ok.hd hc) hl rv.ints fun h' tk t' hk => ⟨.int _, H, I.kept hk, ⟨_, rfl⟩, q⟩
def CPowK (i j : Int) : Prop := 0 ≤ j ∧ (Builtin.Int.intBits i : Int) * j ≤ 2 ^ 27
theorem op_powK : OpR X (binaryOp .Pow) (rI CPowK fun i j => .int (i ^ j.toNat)) := opI fun _ _ _ _ _ _ _ hc q => pow_int hc.1 hc.2 q

/-- x in o, o an instance of a class with its own __contains__ that hands back a bool -/
theorem contains_own {CX : CXT} {C f : Addr} {k : Nat} {fd : FuncData} {ps : List Str} {sp : Sp} {E : XK} (F : FnOk X.prog X.w X.K X.mg X.base CX k f fd ps sp) (hr : Room k X.A)
    (hs : PySem.W.findIn X.K (.ref C) "__contains__" = some (some (.ref f))) (hf : PySem.W.isFn X.K (.ref f) = true) (hb : L2.Binds X.K fd ps []) (hx : Passes CX X E)
    {pins : List (Addr × Obj)} {σ : L2.St} {H : Hp} {s : Shared} {a dx : Addr} {fs : List (Str × V)} {x : V} {u : Value} {Q : VK} {g : Bool → Bool} (I : Inv X pins σ H s) (rx : L2.RelV x u) (ha : H a = some (.ins C dx fs))
    (h : sp [.ref a, x] H (fun v H' => ∃ b, v = .bl b ∧ Q (.bl (g b)) H') E) :
    wpAny (model X.prog X.w) X.A (contains (.ref a) u) (fun b s' => EP X pins σ Q (.bool (g b)) s') X.xe s := by
  obtain ⟨mA, J, _⟩ := ins_get I.hok ha
  obtain ⟨od, J, _⟩ := J.look
  unfold contains
  refine wpAny_holding ?_
  rw [stdlibNamesSay?_ref]
  refine wpAny_bind (wpAny_bind (J.type.here ((PySem.W.looks_findIn I.kIn hs).here ?_)))
  show wpAny _ _ (if (some (Value.ref f) == some Value.none) = true then _ else _) _ _ _
  rw [if_neg (by simp)]
  refine wpAny_bind (m := callSpecialUnlessNone? (.ref a) (Str.ofString "__contains__") _ _) ?_
  unfold callSpecialUnlessNone?
  refine wpAny_bind (wpAny_bind (J.type.here ((PySem.W.looks_findIn I.kIn hs).here (wpAny_holding (wpAny_bind ((PySem.W.bind_fn I.kIn _ (beq_iff_eq.mp hf)).here ?_))))))
  show wpAny _ _ (if (Value.ref f == Value.none) = true then _ else _) _ _ _
  rw [if_neg (by simp)]
  have hsp := run_fn (us := [.ref a, u]) (vs := [.ref a, x]) F hr hb .nil hx I (.cons rfl (.cons rx .nil)) h
  refine wpAny_bind (wpAny_mono hsp (fun v s' hv => ?_) fun _ _ z => z)
  obtain ⟨y, H', I', ry, b, ey, q⟩ := hv
  subst ey
  cases ry
  exact wpAny_pure (wpAny_truthy_bool ⟨.bl (g b), H', I', rfl, q⟩)
def rInOwn (sp : Sp) (E : XK) (C : Addr) (neg : Bool) : R2 := fun x y H Q => ∃ a dx fs, y = .ref a ∧ H a = some (.ins C dx fs) ∧ sp [.ref a, x] H (fun v H' => ∃ b, v = .bl b ∧ Q (.bl (if neg then !b else b)) H') E
theorem op_inOwn {CX : CXT} {C f : Addr} {k : Nat} {fd : FuncData} {ps : List Str} {sp : Sp} {E : XK} (F : FnOk X.prog X.w X.K X.mg X.base CX k f fd ps sp) (hr : Room k X.A) (_c : Cls X.K C)
    (hm : PySem.W.findIn X.K (.ref C) "__contains__" = some (some (.ref f)) ∧ PySem.W.isFn X.K (.ref f) = true) (hb : L2.Binds X.K fd ps []) (hx : Passes CX X E) : OpR X (compareOp .In) (rInOwn sp E C false) := by
  intro pins s σ H x y u v Q I rx ry h
  obtain ⟨a, dx, fs, rfl, ha, q⟩ := h
  cases ry
  exact wpAny_bind (wpAny_mono (contains_own (g := fun b => b) F hr hm.1 hm.2 hb hx I rx ha q) (fun b s' hq => wpAny_pure hq) fun _ _ z => z)
theorem op_ninOwn {CX : CXT} {C f : Addr} {k : Nat} {fd : FuncData} {ps : List Str} {sp : Sp} {E : XK} (F : FnOk X.prog X.w X.K X.mg X.base CX k f fd ps sp) (hr : Room k X.A) (_c : Cls X.K C)
    (hm : PySem.W.findIn X.K (.ref C) "__contains__" = some (some (.ref f)) ∧ PySem.W.isFn X.K (.ref f) = true) (hb : L2.Binds X.K fd ps []) (hx : Passes CX X E) : OpR X (compareOp .NotIn) (rInOwn sp E C true) := by
  intro pins s σ H x y u v Q I rx ry h
  obtain ⟨a, dx, fs, rfl, ha, q⟩ := h
  cases ry
  exact wpAny_bind (wpAny_mono (contains_own (g := fun b => !b) F hr hm.1 hm.2 hb hx I rx ha q) (fun b s' hq => wpAny_pure hq) fun _ _ z => z)
end
end My

set_option Elab.async false
set_option maxRecDepth 100000
namespace My
open PySem L2 PyProof.Rows
/-! ### promises kept where no guard is around (repr of containers asks that) -/
section
variable {P : Program} {w : World} {K : PySem.W.Frag} {mg : Str → Option Value} {base : Heap}
structure GOk (P : Program) (w : World) (K : PySem.W.Frag) (mg : Str → Option Value) (base : Heap)
    (k : Nat) (f : Addr) (fd : FuncData) (ps : List Str) (sp : Sp) : Prop where
  len : ∀ vs H Q E, sp vs H Q E → vs.length = ps.length
  run : ∀ (A : Around) (out : List Env) (s : Shared) (H : Hp) (args : Args) (us : List Value)
    (vs : List V) (Q : VK) (E : XK), A.guards = some [] → Room k A →
    Env0 P w K mg base A out s H → BindsTo s fd args (ps.zip us) → Vals vs us → sp vs H Q E →
    codeAny (model P w) A (.call (.ref f) args) (CR CX0 out P w H s Q E) s
theorem FnOk.g {k : Nat} {f : Addr} {fd : FuncData} {ps : List Str} {sp : Sp}
    (F : FnOk P w K mg base CX0 k f fd ps sp) : GOk P w K mg base k f fd ps sp :=
  ⟨F.len, fun A out s H args us vs Q E _ => F.run A out s H args us vs Q E⟩
theorem GOk.mono {j k : Nat} {f : Addr} {fd : FuncData} {ps : List Str} {sp : Sp}
    (F : GOk P w K mg base j f fd ps sp) (h : j ≤ k) : GOk P w K mg base k f fd ps sp :=
  ⟨F.len, fun A out s H args us vs Q E g r => F.run A out s H args us vs Q E g (r.mono h)⟩
/-- a def by its body, the guards known -/
theorem okG {x qual : Str} {st : Stmt} {f : Addr} {fd : FuncData} {N ps : List Str} {k : Nat} {sp : Sp}
    (F : Fun K x qual st f fd) (S : FnScope N ps (defScope st)) (len : ∀ vs H Q E, sp vs H Q E → vs.length = ps.length)
    (body : ∀ (cdv : Value) (A : Around) (out : List Env) (s : Shared) (H : Hp) (vs : List V) (Q : VK) (E : XK),
      (A.deeper (envOfC qual (defScope st) s.heap.objs.size f cdv)).guards = some [] →
      Room k (A.deeper (envOfC qual (defScope st) s.heap.objs.size f cdv)) → sp vs H Q E →
      ∃ t, PSs (cxOf CX0 P w K mg base N qual (defScope st) f cdv A out s H E).nox (defBody st) t ∧
        t { nx := fun _ H' => Q .non H', rt := Q } (start N vs) H) :
    GOk P w K mg base (k + 1) f fd ps sp := by
  obtain ⟨oc, od, kV, doc, pm, an, cdv, ct, osl, rfl, lk, hcd⟩ := F.ex
  constructor
  · exact len
  intro A out s H args us vs Q E hG room e0 hb rv hsp
  have n1 := len _ _ _ _ hsp
  have inS : K.In s.heap := e0.mod.kin.keeps fun b o h => (e0.bs b o h).1
  have nolim : s.heap.NoLimit := e0.mod.nolimit.keeps fun b o h => (e0.bs b o h).1
  refine codeAny_call_function room.depth (inS _ _ lk) rfl S.co S.gen rfl (PySem.W.codeRec_of inS hcd) (hb _ _ _ _ ?_)
  refine wpAny_newFunctionEnv_cells S.kind ?_ fun env he s1 ic => ?_
  · rintro ⟨y, v⟩ hy
    cases S.par y (List.of_mem_zip hy).1 with
    | inl h => exact .inl h
    | inr h => exact .inr ⟨h, PySem.W.cellsFrom_some _ _ _ (.inl h)⟩
  cases he
  refine ⟨nolim.keeps ic.toInCall.keep, codeAny_func ?_⟩
  have hG2 : (A.deeper (envOfC qual (defScope st) s.heap.objs.size f cdv)).guards = some [] := hG
  obtain ⟨t, ht, hq⟩ := body cdv A out s H vs Q E hG2 (room.deeper _) hsp
  have I0 := inv_start (CX := CX0) (E := E) (qual := qual) (f := f) (cd := cdv) S room.hd e0 n1 rv ic
  refine wpAny_mono (ht.nox.run [] s1 (start N vs) H _ I0 hq) (fun fl s' hs => ?_) fun _ _ z => z
  cases fl with
  | ret u =>
    obtain ⟨v, σ', H', J, rv', q⟩ := hs
    exact ⟨v, H', J.os, J.bare, J.base, J.hok, rv', q⟩
  | next =>
    obtain ⟨σ', H', J, q⟩ := hs
    exact ⟨V.non, H', J.os, J.bare, J.base, J.hok, rfl, q⟩
  | brk =>
    obtain ⟨_, _, _, q⟩ := hs
    exact q.elim
  | cont =>
    obtain ⟨_, _, _, q⟩ := hs
    exact q.elim
end
section
variable {X : Cx} {k : Nat} {f : Addr} {fd : FuncData} {ps : List Str} {sp : Sp} {dvs : List V} {ds : List Value} {x : Str} {p pos : Pos} {e : Expr} {es : List Expr} {t : TA}
/-- f(..), f's promise wanting that no guard is around -/
theorem pe_callG (F : GOk X.prog X.w X.K X.mg X.base k f fd ps sp) (hG : X.A.guards = some []) (hr : Room k X.A)
    (hg : Gl X x) (hm : X.mg x = some (.ref f)) (hk : PySem.W.keepIn X.K (.ref f) = true)
    (hb : L2.Binds X.K fd ps ds) (hd : Vals dvs ds) (ha : PA X (e :: es) t)
    (hdb : (x == ("__debug__" : Str)) = false := by decide)
    (he : starEach (e :: es) X.env = (false, eval e X.env) :: starEach es X.env := by rfl)
    (hpl : (backTo pos (starEach es X.env)).any (·.1) = false := by rfl) :
    PE X (.Call (.Name x p) (e :: es) [] pos) (tCall sp dvs E0 t) := by
  constructor
  intro pins s σ H Q I h
  refine wpAny_Call_Name_kw (ld_glob I hg hm ?_ hdb)
  refine PySem.W.callWith_K (h₀ := X.base) I.ok.mod.kin hk ?_ he hpl
  refine thn (ha.run pos pins s σ H _ I h) ?_
  rintro us s1 ⟨vs, H1, I1, r, q⟩
  refine ⟨I1.kIn, ?_⟩
  have r2 : Vals (vs ++ dvs) (us ++ ds) := r.append hd
  have hl : (us ++ ds).length = ps.length := by rw [← r2.length]; exact F.len _ _ _ _ q
  refine wpAny_call (codeAny_mono (F.run X.A X.stack s1 H1 ⟨us, []⟩ _ _ Q E0 hG hr I1.env0 (hb s1 us I1.kIn hl) r2 q) ?_)
  intro r s' hq
  cases r with
  | error _ => exact (hq : False).elim
  | ok fl => cases fl <;> first | exact I1.after hq | exact (hq : False).elim
/-- repr of data -/
def rRepr (K : PySem.W.Frag) : List V → Hp → VK → Prop := fun vs H Q => ∃ x d, vs = [x] ∧ Dp K H x d ∧ d.showable = true ∧ d.hasDict = false ∧ d.depth ≤ 60 ∧ (∀ z, d ≠ .str z) ∧ d.shown.length ≤ sizeLine ∧ Q (.str d.shown) H
theorem cr_repr (hG : X.A.guards = some []) (hu : X.A.units + 64 < cLine) : CallR X (.builtin "repr") (rRepr X.K) := by
  intro pins s σ H vs us Q I r h
  obtain ⟨x, d, rfl, hd, hs, hn, hdep, hnz, hz, q⟩ := h
  cases r with
  | cons rx rt =>
    cases rt
    rename_i u
    obtain ⟨as, rd⟩ := Dp.reads I d x u hd rx
    cases hd with
    | int i =>
      obtain ⟨t, rfl⟩ := rx
      exact PySem.P.repr_of_int (of_decide_eq_true hs) ⟨.str _, H, I.tok _, ⟨_, rfl⟩, q⟩
    | lst h1 h2 =>
      cases rx
      exact repr_of_reads' rd hs (PyData.noDict_hsm hn) hG (by omega) (fun _ _ z => z) (fun h' t tk hk => ⟨.str _, H, I.kept hk, ⟨_, rfl⟩, q⟩) hz
    | tup h1 h2 =>
      cases rx
      exact repr_of_reads' rd hs (PyData.noDict_hsm hn) hG (by omega) (fun _ _ z => z) (fun h' t tk hk => ⟨.str _, H, I.kept hk, ⟨_, rfl⟩, q⟩) hz
    | non =>
      cases rx
      exact PySem.P.repr_of_none ⟨.str _, H, I.tok _, ⟨_, rfl⟩, q⟩
    | bl b =>
      cases rx
      exact PySem.P.repr_of_bool ⟨.str _, H, I.tok _, ⟨_, rfl⟩, q⟩
    | str z => exact absurd rfl (hnz z)
end
/-! ### the end of a law's row over such a promise -/
section
variable {P : Program} {w : World} {K : PySem.W.Frag} {mg mb : Str → Option Value} {k : Nat} {fa a : Addr}
  {fd : FuncData} {x : Str} {sp : Sp} {s₁ : Shared} {vs : List Value} {ns : List Int}
theorem law_at (KX : K.In s₁.heap) (hns : s₁.heap.Ns mainGlobals mg) (hb : s₁.heap.Ns builtinsNs mb)
    (hbb : ∀ x : Str, x ≠ "__name__" → mb x = bootBuiltins x) (hlim : s₁.heap.NoLimit) (hg : s₁.gens = #[])
    (ha : s₁.heap.get? a = some { cls := .type "list", data := .seq vs.toArray })
    (hl : ns.length ≤ sizeLine) (hr : Room k callerA) (rv : Vals (ns.map V.int) vs)
    (F : ∀ base : Heap, K.In base → base.Ns mainGlobals mg → GOk P w K mg base k fa fd [x] sp)
    (hbind : ∀ (s : Shared) (u : Value), BindsTo s fd ⟨[u], []⟩ [(x, u)])
    (H : Hp) (hS : SqL K H a (ns.map V.int)) (hok : HOk P w H s₁.heap) (hA : ∀ b, H b ≠ none → b = a)
    (hK : H a ≠ none → K.lookup a = none) (hz : ∀ b, H b = none ∨ ∃ o xs, H b = some (.frz o (.lst xs)))
    (hsp : sp [.ref a] H (fun v _ => v = .bl true) E0) :
    codeAny (model P w) callerA (.call (.ref fa) ⟨[.ref a], []⟩)
      (fun r s' => r = .ok (.ret (.bool true)) ∧ PySem.OldK s₁.heap s'.heap ∧ s'.os = s₁.os ∧ AllBare s'.gens) s₁ := by
  have free : ∀ {b : Addr} {o : Obj}, b ≠ a → s₁.heap.get? b = some o → (hidT s₁.heap H).get? b = some o := by
    intro b o hne hget
    refine hidT_get hget ?_
    by_cases q : H b = none
    · exact q
    · exact absurd (hA b q) hne
  have dicts : ∀ {b : Addr} {m : Str → Option Value}, s₁.heap.Ns b m → (hidT s₁.heap H).Ns b m := by
    rintro b m ⟨o, es, ep, hget, hd, hm⟩
    refine ⟨o, es, ep, free ?_ hget, hd, hm⟩
    rintro rfl
    rw [ha] at hget
    cases hget
    cases hd
  have kin : K.In (hidT s₁.heap H) := by
    intro b o hlk
    have hget := KX b o hlk
    by_cases q : H b = none
    · exact hidT_get hget q
    · have hba := hA b q
      subst hba
      rw [hK q] at hlk
      cases hlk
  have md : Mod K mg (hidT s₁.heap H) := by
    obtain ⟨mc, h1, h2⟩ := hlim
    exact ⟨kin, dicts hns, ⟨mb, dicts hb, hbb⟩, mc, dicts h1, h2⟩
  have e0 : Env0 P w K mg (hidT s₁.heap H) callerA [] s₁ H :=
    ⟨rfl, md, fun b o => of_hidT, Nat.le_of_eq (hidT_size _ _), trivial, nofun, hok, .of_eq hg⟩
  have gk := F _ kin (dicts hns)
  refine codeAny_mono (gk.run callerA [] s₁ H ⟨[.ref a], []⟩ [.ref a] [.ref a] _ E0 rfl hr e0 (hbind s₁ _) (.cons rfl .nil) hsp) ?_
  rintro (err | fl) s' h
  · exact (h : False).elim
  cases fl with
  | next => exact (h : False).elim
  | brk => exact (h : False).elim
  | cont => exact (h : False).elim
  | ret u =>
    obtain ⟨v, H', ho, hbare, un, hok', hu, hv⟩ := h
    have hv : v = .bl true := hv
    cases hv
    cases hu
    refine ⟨rfl, PySem.OldK.of_keep ?_, ho, hbare⟩
    intro b o hget
    rcases hz b with q | ⟨ob, xs, q⟩
    · exact un.keep b o hget q (fun z => nomatch z) (by simp)
    · obtain ⟨w1, _⟩ := hok b _ q
      obtain ⟨w2, _⟩ := hok' b _ (un.frzs b ob _ q)
      rw [hget] at w1
      cases w1
      exact w2
end
theorem walk_ofG {l : PySem.W.OpenLaw} {n k : Nat} {q : Program} {loose : List Str} {XP : (Str → Option Value) → Heap → Prop}
    {YP : World → Heap → Prop} {d : DefRec} {K : Params → PySem.W.Frag} {sp : World → Sp} {x : Str}
    (hn : l.most = some n) (hn2 : n ≤ sizeLine) (hdf : d.params.defaults = []) (hr : Room k callerA)
    (hY : ∀ (w : World) (h : Heap), YP w h → (K w.params).In h)
    (F : ∀ (w : World) (mg : Str → Option Value) (fa : Addr) (h : Heap), (K w.params).In h → h.Ns mainGlobals mg →
      mg d.name = some (.ref fa) → ∃ fd : FuncData, (∀ (s : Shared) (u : Value), BindsTo s fd ⟨[u], []⟩ [(x, u)]) ∧
        ∀ base : Heap, (K w.params).In base → base.Ns mainGlobals mg → GOk l.prog w (K w.params) mg base k fa fd [x] (sp w))
    (hsp : ∀ (w : World) (H : Hp) (a : Addr) (ns : List Int), ns.length ≤ n → SqL (K w.params) H a (ns.map V.int) →
      sp w [.ref a] H (fun v _ => v = .bl true) E0) :
    PySem.W.WalkO q loose XP YP l.row.toRowW d [] (fun f vs => PySem.call f vs) := by
  refine Att.attach_call hn hdf ?_
  intro w s₀ s₁ mg mb fa o pm cd doc a vs ns G Y ho hd hcd hmg hobj hints hlen hg
  have KX := hY w _ Y
  obtain ⟨fd, hb, hF⟩ := F w mg fa _ KX G.T.g hmg
  have rv := vals_ints hints
  have go := fun (H : Hp) hS hok hA hK hz => law_at (H := H) KX G.T.g G.T.b G.T.builtins G.T.nolimit hg hobj
    (Nat.le_trans hlen hn2) hr rv hF hb hS hok hA hK hz (hsp w H a ns hlen hS)
  have sz : vs.toArray.size ≤ sizeLine := by rw [List.size_toArray, hints.length]; exact Nat.le_trans hlen hn2
  cases hk : (K w.params).lookup a with
  | some ob =>
    have hob := KX a ob hk
    rw [hobj] at hob
    cases hob
    refine go (fun _ => none) (.inr ⟨_, vs.toArray, _, hk, rfl, rfl, rfl, sz, by simpa using rv⟩) (fun b u z => nomatch z) (fun b z => absurd rfl z) (fun z => absurd rfl z) (fun b => .inl rfl)
  | none =>
    refine go (fun b => if b = a then some (.frz { cls := .type "list", data := .seq vs.toArray } (.lst (ns.map V.int))) else none) (.inl (.inr ⟨_, if_pos rfl⟩)) ?_ ?_ (fun _ => hk) ?_
    · intro b u hbu
      by_cases e : b = a
      · subst e
        have hbu := (if_pos rfl).symm.trans hbu
        cases hbu
        exact ⟨hobj, by rw [List.length_map]; exact Nat.le_trans hlen hn2, vs, _, rv, hobj⟩
      · have hbu := (if_neg e).symm.trans hbu
        cases hbu
    · intro b hne
      by_cases e : b = a
      · exact e
      · exact absurd (if_neg e) hne
    · intro b
      by_cases e : b = a
      · exact .inr ⟨_, _, if_pos e⟩
      · exact .inl (if_neg e)
end My

set_option Elab.async false
set_option maxRecDepth 100000
namespace My
open PySem L2 PyProof.Rows
theorem len_app (x y : Str) : (x ++ y).length = x.length + y.length := by
  first | exact Str.length_append x y | simp
theorem piled_le {M : Nat} : ∀ ts : List Str, (∀ t ∈ ts, t.length ≤ M) → piled ts ≤ (M + 2) * ts.length
  | [], _ => by simp [piled]
  | t :: ts, h => by
    have h1 := piled_le ts fun x hx => h x (List.mem_cons_of_mem _ hx)
    have h2 := h t List.mem_cons_self
    rw [piled_cons, List.length_cons, Nat.mul_add, Nat.mul_one]
    omega
theorem tupleText_le {M : Nat} {ts : List Str} (h : ∀ t ∈ ts, t.length ≤ M) : (tupleText ts).length ≤ (M + 2) * ts.length + 10 := by
  unfold tupleText
  rw [len_app, len_app]
  have h0 : (Str.ofString "(").length = 1 := by decide +kernel
  have h3 : (Str.join (Str.ofString ", ") ts).length ≤ (M + 2) * ts.length := by
    cases ts with
    | nil => exact Nat.le_trans (Nat.le_of_eq (by decide +kernel : (Str.join (Str.ofString ", ") []).length = 0)) (Nat.zero_le _)
    | cons t ts =>
      have := join_length_add (t :: ts) (by simp)
      have := piled_le (t :: ts) h
      omega
  have h4 : ∀ c : Bool, (Str.ofString (if c = true then ",)" else ")")).length ≤ 2 := by
    intro c
    cases c <;> decide +kernel
  have := h4 (ts.length == 1)
  omega
theorem shownAll_ints (xs : List Int) : PyData.shownAll (xs.map PyData.int) = xs.map fun x => (Str.ofString (toString x)) := by
  induction xs with
  | nil => rfl
  | cons x xs ih =>
    show PyData.shown (.int x) :: PyData.shownAll (xs.map PyData.int) = _
    rw [ih]; rfl
theorem shown_ints {xs : List Int} (h : ∀ x ∈ xs, x.natAbs.log2 < 1920) (hl : xs.length ≤ 1000) : (PyData.tuple (xs.map PyData.int)).shown.length ≤ 2000000 := by
  show (tupleText (PyData.shownAll (xs.map PyData.int))).length ≤ _
  rw [shownAll_ints]
  have := tupleText_le (M := 1921) (ts := xs.map fun x => (Str.ofString (toString x))) (fun t ht => by
    obtain ⟨x, hx, rfl⟩ := List.mem_map.mp ht
    exact int_text_len_1921 (h x hx))
  rw [List.length_map] at this
  omega
theorem able_ints : ∀ {xs : List Int}, (∀ x ∈ xs, x.natAbs.log2 < 1920) → PyData.showableAll (xs.map PyData.int) = true
  | [], _ => rfl
  | x :: xs, h => by
    show (PyData.showable (.int x) && PyData.showableAll (xs.map PyData.int)) = true
    rw [able_ints fun y hy => h y (List.mem_cons_of_mem _ hy)]
    show (decide (x.natAbs.log2 < 1920) && true) = true
    rw [decide_eq_true (h x List.mem_cons_self)]; rfl
theorem nodict_ints : ∀ xs : List Int, PyData.hasDictAll (xs.map PyData.int) = false
  | [] => rfl
  | x :: xs => by
    show (PyData.hasDict (.int x) || PyData.hasDictAll (xs.map PyData.int)) = false
    rw [nodict_ints xs]; rfl
end My

set_option Elab.async false
set_option maxRecDepth 100000
namespace My
open PySem L2 PyProof.Rows
/-! ### a list's slice with a step -/
def tStep (K : PySem.W.Frag) (te : TE) (tl th ts : TO) : TE := fun σ H Q => te σ H fun x H1 => tl σ H1 fun l H2 => th σ H2 fun u H3 => ts σ H3 fun s H4 =>
  ∃ a xs, x = .ref a ∧ SqL K H4 a xs ∧ s ≠ some 0 ∧ ∀ p ys, H4 p = none → (∀ y ∈ ys, y ∈ xs) → ys.length ≤ xs.length → Q (.ref p) (upd H4 p (.lst ys))
theorem picked_vals {xs : List V} {its : List Value} (r : Vals xs its) : ∀ ks : List Nat, Vals (ks.filterMap (xs[·]?)) (ks.filterMap (its[·]?))
  | [] => .nil
  | k :: ks => by
    have ih := picked_vals r ks
    have hl := r.length
    by_cases h : k < xs.length
    · obtain ⟨u, hu, ru⟩ := r.get (List.getElem?_eq_getElem h)
      rw [List.filterMap_cons, List.filterMap_cons, List.getElem?_eq_getElem h, hu]
      exact .cons ru ih
    · have h2 : its[k]? = none := List.getElem?_eq_none (by omega)
      have h1 : xs[k]? = none := List.getElem?_eq_none (by omega)
      rw [List.filterMap_cons, List.filterMap_cons, h1, h2]
      exact ih
section
variable {X : Cx} {e : Expr} {te : TE} {lo hi : Option Expr} {st : Expr} {tl th ts : TO} {p2 pos : Pos}
theorem pe_sliceS (he : PE X e te) (hl : PO X lo tl) (hu : PO X hi th) (hs : PO X (some st) ts) :
    PE X (.Subscript e (.Slice lo hi (some st) p2) pos) (tStep X.K te tl th ts) := by
  constructor
  intro pins s σ H Q I h
  refine Subscript_ (thn (he.run pins s σ H _ I h) ?_)
  rintro v s1 ⟨x, H1, I1, r1, q1⟩
  refine wpAny_Slice (thn (hl.run pins s1 σ H1 _ I1 q1) ?_)
  rintro vl s2 ⟨l, H2, I2, pl, q2⟩
  refine thn (hu.run pins s2 σ H2 _ I2 q2) ?_
  rintro vu s3 ⟨u, H3, I3, pu, q3⟩
  refine thn (hs.run pins s3 σ H3 _ I3 q3) ?_
  rintro vs s4 ⟨so, H4, I4, ps, a, xs, rfl, hx, hne, k⟩
  cases r1
  have J : Inv X pins σ H4 { s4 with heap := s4.heap.push { cls := .type "slice", data := .fields #[vl, vu, vs] } } :=
    I4.kept (t' := s4.toks) fun b ob q => Heap.get?_push_of_some _ q
  obtain ⟨its, r, pL, hz⟩ := J.list hx
  have n1 := r.length
  show wpAny (model X.prog X.w) X.A (subscriptTail e (.Slice lo hi (some st) p2) (.ref a) (.ref s4.heap.objs.size)) (EP X pins σ Q) X.xe
    { s4 with heap := s4.heap.push { cls := .type "slice", data := .fields #[vl, vu, vs] } }
  refine tail_any (ops := [.ref a, .ref s4.heap.objs.size]) pL.isList.typeIs PySem.slot_list_getitem.lookup ?_ (by with_unfolding_all rfl)
  refine wpAny_getItem_list_slice pL.isList (Heap.IsSliceOf.new _ vl vu vs) pl pu ps hne ?_ (by rw [List.size_toArray]; omega)
  have hsz := slicePick_size_le its.toArray l u so
  generalize hpk : slicePick its.toArray l u so = pk at *
  have hszl : pk.toList.length ≤ its.length := by simpa using hsz
  have hform : pk.toList = ((sliceRange (sliceBounds l u so its.toArray.size).1 (sliceBounds l u so its.toArray.size).2.1 (sliceBounds l u so its.toArray.size).2.2).filterMap (its[·]?)) := by
    rw [← hpk]
    unfold slicePick
    simp
  have rv := picked_vals r (sliceRange (sliceBounds l u so its.toArray.size).1 (sliceBounds l u so its.toArray.size).2.1 (sliceBounds l u so its.toArray.size).2.2)
  rw [← hform] at rv
  generalize hys : (sliceRange (sliceBounds l u so its.toArray.size).1 (sliceBounds l u so its.toArray.size).2.1 (sliceBounds l u so its.toArray.size).2.2).filterMap (xs[·]?) = ys at rv
  have hsub : ∀ y ∈ ys, y ∈ xs := by
    intro y hy
    rw [← hys] at hy
    obtain ⟨j, _, hj⟩ := List.mem_filterMap.mp hy
    exact List.mem_of_getElem? hj
  have hlen : ys.length ≤ xs.length := by
    have h2 := rv.length
    omega
  refine ⟨.ref _, _, J.laid (t' := s4.toks) (o := .lst ys) (fun b ob q => Heap.get?_push_of_some _ q) (Nat.le_refl _) ?_, rfl, k _ ys (J.hok.fresh (Nat.le_refl _)) hsub hlen⟩
  exact ⟨by omega, pk.toList, 0, rv, Heap.get?_push_size _ rfl⟩
end
end My

set_option Elab.async false
set_option maxRecDepth 100000
namespace My
open PySem L2 PyProof.Rows
/-! ### list(range(a, b, c)) -/
def rgV3 (a c : Int) (n : Nat) : List V := (List.range n).map fun i => V.int (a + (i : Nat) * c)
theorem rgV3_length (a c : Int) (n : Nat) : (rgV3 a c n).length = n := by unfold rgV3; rw [List.length_map, List.length_range]
theorem vals_rg3 {a c : Int} {n : Nat} {acc : Array Value} (h : ItemsOf (fun i v => ∃ t, v = .int (a + i * c) t) acc n) : Vals (rgV3 a c n) acc.toList := by
  have e : acc.toList.length = n := by rw [Array.length_toList]; exact h.1
  unfold rgV3
  rw [← e]
  refine vals_of_get acc.toList _ fun j u hj => ?_
  obtain ⟨t, rfl⟩ := h.2 j u (by rw [← hj, Array.getElem?_toList])
  exact ⟨t, rfl⟩
theorem small_up {a b c : Int} (ha : -(2 ^ 31) ≤ a) (ha' : a < 2 ^ 31) (hb : -(2 ^ 31) ≤ b) (hb' : b < 2 ^ 31) (hc : 0 < c) (hc' : c < 2 ^ 29) : Builtin.Range.small a b c = true := by
  have h1 := rangeSize_toNat_le a b c
  have h2 := rangeSize_toNat a b c
  unfold Builtin.Range.small
  unfold Builtin.Range.rangeSize at *
  simp only [Builtin.Range.rangeFitsLong, Bool.and_eq_true, Bool.or_eq_true, decide_eq_true_eq, beq_iff_eq, if_pos (show c > 0 from hc)] at *
  split at h2
  · rename_i hab
    have h3 := Int.ediv_mul_le (b - a - 1) (show c ≠ 0 by omega)
    rw [if_pos hab] at *
    generalize (b - a - 1) / c = q at *
    have h5 : (q + 1) * c = q * c + c := by rw [Int.add_mul, Int.one_mul]
    generalize q * c = z at *
    omega
  · rename_i hab
    rw [if_neg hab] at *
    omega
section
variable {X : Cx} {a b c : Expr} {ta : TA}
def tLst3 (ta : TA) : TE := fun σ H Q => ta σ H fun vs H1 => ∃ (i j k : Int) (n : Nat), vs = [.int i, .int j, .int k] ∧ RgC i j k n ∧ n ≤ 2 ^ 24 ∧ ∀ q, H1 q = none → Q (.ref q) (upd H1 q (.lst (rgV3 i k n)))
theorem pe_listRg3 {p p2 pos pos2 : Pos} (hc : X.calm = true) (hg : Gl X "list") (hm : X.mg "list" = none) (hg2 : Gl X "range") (hm2 : X.mg "range" = none) (ha : PA X [a, b, c] ta)
    (hs : starEach [a, b, c] X.env = (false, eval a X.env) :: starEach [b, c] X.env := by rfl) (hpl : (backTo pos2 (starEach [b, c] X.env)).any (·.1) = false := by rfl)
    (na : starEach [(.Call (.Name "range" p2) [a, b, c] [] pos2)] X.env = (false, eval (.Call (.Name "range" p2) [a, b, c] [] pos2) X.env) :: starEach [] X.env := by rfl) :
    PE X (.Call (.Name "list" p) [.Call (.Name "range" p2) [a, b, c] [] pos2] [] pos) (tLst3 ta) := by
  refine ⟨fun pins s σ H Q I h => ?_⟩
  have hr : wpAny (model X.prog X.w) X.A (eval (.Call (.Name "range" p2) [a, b, c] [] pos2) X.env) (fun x s' => ∃ r i j k n t u v H', x = .ref r ∧ IsRange s'.heap r i j k t u v ∧ Inv X pins σ H' s' ∧ RgC i j k n ∧ n ≤ 2 ^ 24 ∧ ∀ q, H' q = none → Q (.ref q) (upd H' q (.lst (rgV3 i k n)))) X.xe s := by
    refine Call_ (ld_blt I hg2 hm2 boot_range (PyProof.Rows.callWith_type1 (thn (ha.run pos2 pins s σ H _ I h) fun us s1 ⟨vs, H1, I1, r1, q1⟩ => ?_) hs hpl))
    obtain ⟨i, j, k, n, e, hk, hn, q⟩ := q1
    subst e
    cases r1 with
    | cons r rr =>
      cases rr with
      | cons r' rr =>
        cases rr with
        | cons r'' rr =>
          cases rr
          obtain ⟨t, rfl⟩ := r
          obtain ⟨t', rfl⟩ := r'
          obtain ⟨t'', rfl⟩ := r''
          exact call_range_3 hk.1 ⟨_, i, j, k, n, _, _, _, H1, rfl, IsRange.new .., I1.kept (t' := s1.toks) fun b o e => Heap.get?_push_of_some _ e, hk, hn, q⟩ (.inl (PyProof.noPylong_small hk.2.1))
  refine Call_ (ld_blt I hg hm boot_list (PyProof.Rows.callWith_type1 (args_cons (thn hr fun x s1 ⟨r, i, j, k, n, t, u, v, H1, ex, hr, I1, ⟨c0, c1, c2, c3⟩, hn, q⟩ => args_nil ?_) na) na))
  subst ex
  refine call_list_range (n := n) (I1.ok.hd hc) hr c2 c3 hn fun h' tk acc c' hk e' hi => ?_
  refine ⟨.ref s1.heap.objs.size, upd H1 s1.heap.objs.size (.lst (rgV3 i k n)), I1.laid hk (Nat.le_refl _) (show ObjOk X.prog X.w _ _ _ (.lst (rgV3 i k n)) from ⟨?_, acc.toList, c', vals_rg3 hi, ?_⟩), rfl, q _ (I1.hok.fresh (Nat.le_refl _))⟩
  · rw [rgV3_length, sizeLine_eq]; omega
  · rw [Array.toArray_toList]; exact e'
end
/-- what stands in list(range(a, b, c)) -/
theorem rg3_mem {a b c : Int} (hc : 0 < c) {n : Nat} (hn : Builtin.Range.rangeSize a b c = n) {i : Nat} (hi : i < n) : a ≤ a + (i : Int) * c ∧ a + (i : Int) * c < b := by
  unfold Builtin.Range.rangeSize at hn
  rw [if_pos hc] at hn
  have h0 : 0 ≤ (i : Int) * c := Int.mul_nonneg (by omega) (by omega)
  split at hn
  · have h1 : (i : Int) ≤ (b - a - 1) / c := by omega
    have h2 := Int.mul_le_mul_of_nonneg_right h1 (show 0 ≤ c by omega)
    have h3 := Int.ediv_mul_le (b - a - 1) (show c ≠ 0 by omega)
    omega
  · omega
/-- a loop over zip of two tuples, the one that ends first ends it -/
theorem for_zipT2 {K : PySem.W.Frag} {a b : Addr} {xs ys : List V} {g : TG} {tb : TS} {D : Ends} {σ : L2.St} {H : Hp} (Pv : Nat → L2.St → Hp → Prop) (h0 : Pv 0 σ H) (hq : ∀ i σ H, Pv i σ H → SqT K H a xs ∧ SqT K H b ys)
    (hs : ∀ (i : Nat) (x y : V) (T : Addr) (σ : L2.St) (H : Hp), xs[i]? = some x → ys[i]? = some y → Pv i σ H → H T = none → g (.ref T) σ (upd H T (.tup [x, y])) fun σ2 H2 => tb { D with nx := Pv (i + 1), ct := Pv (i + 1), bk := D.nx } σ2 H2) (hd : ∀ i σ H, Pv i σ H → D.nx σ H) :
    ∃ W : Nat → Nat → L2.St → Hp → Prop, (∃ m, W 0 m σ H) ∧ ∀ i m σ H, W i m σ H →
      ((RZ.ItzT K a b).stop i H ∧ D.nx σ H) ∨ ((RZ.ItzT K a b).go i H ∧ ∃ N : L2.St → Hp → Prop, (∀ σ' H', N σ' H' → ∃ m', m' < m ∧ W (i + 1) m' σ' H') ∧ ∀ v H', (RZ.ItzT K a b).yld i H v H' → g v σ H' fun σ2 H2 => tb { D with nx := N, ct := N, bk := D.nx } σ2 H2) := by
  refine ⟨fun i m σ H => m = xs.length - i ∧ Pv i σ H, ⟨xs.length, rfl, h0⟩, ?_⟩
  rintro i m σ H ⟨rfl, p⟩
  obtain ⟨qx, qy⟩ := hq i σ H p
  by_cases hlt : i < xs.length ∧ i < ys.length
  · have hx : xs[i]? = some xs[i] := List.getElem?_eq_getElem hlt.1
    have hy : ys[i]? = some ys[i] := List.getElem?_eq_getElem hlt.2
    refine .inr ⟨⟨xs, ys, _, _, qx, qy, hx, hy⟩, Pv (i + 1), fun σ' H' p' => ⟨xs.length - (i + 1), by omega, rfl, p'⟩, fun v H' y => ?_⟩
    obtain ⟨T, x', y', rfl, hT, rfl, f1, f2⟩ := y
    exact hs i x' y' T σ H (f1 xs qx) (f2 ys qy) p hT
  · exact .inl ⟨⟨xs, ys, qx, qy, by omega⟩, hd i σ H p⟩
end My

set_option Elab.async false
set_option maxRecDepth 100000
namespace My
open PySem L2 Evl
def top (i : Nat) : Stmt := PySem.Challenge.pw_roundedsteps_k80_whole_signs_of_rows_and.main.body.getD i (.Pass ⟨0, 0, 0, 0⟩)
abbrev s_is_whole : Stmt := (top 9)
abbrev N_is_whole : List Str := ["value"]
theorem sc_is_whole : FnScope N_is_whole ["value"] (defScope s_is_whole) := ⟨rfl, rfl, rfl, by decide +kernel, rfl, by decide +kernel, by decide +kernel⟩
abbrev s_is_from_to : Stmt := (top 10)
abbrev N_is_from_to : List Str := ["value", "low", "high"]
theorem sc_is_from_to : FnScope N_is_from_to ["value", "low", "high"] (defScope s_is_from_to) := ⟨rfl, rfl, rfl, by decide +kernel, rfl, by decide +kernel, by decide +kernel⟩
abbrev s_power : Stmt := (top 11)
abbrev N_power : List Str := ["base", "exponent", "number", "_"]
theorem sc_power : FnScope N_power ["base", "exponent"] (defScope s_power) := ⟨rfl, rfl, rfl, by decide +kernel, rfl, by decide +kernel, by decide +kernel⟩
abbrev s_sign_of : Stmt := (top 12)
abbrev N_sign_of : List Str := ["number"]
theorem sc_sign_of : FnScope N_sign_of ["number"] (defScope s_sign_of) := ⟨rfl, rfl, rfl, by decide +kernel, rfl, by decide +kernel, by decide +kernel⟩
abbrev s_Grid_init : Stmt := (inClass (top 16) 0)
abbrev N_Grid_init : List Str := ["self", "base", "figures", "reach", "places", "told", "extra", "limit"]
theorem sc_Grid_init : FnScope N_Grid_init ["self", "base", "figures", "reach", "places"] (defScope s_Grid_init) := ⟨rfl, rfl, rfl, by decide +kernel, rfl, by decide +kernel, by decide +kernel⟩
abbrev s_Grid_contains : Stmt := (inClass (top 16) 2)
abbrev N_Grid_contains : List Str := ["self", "value"]
theorem sc_Grid_contains : FnScope N_Grid_contains ["self", "value"] (defScope s_Grid_contains) := ⟨rfl, rfl, rfl, by decide +kernel, rfl, by decide +kernel, by decide +kernel⟩
abbrev s_Grid_rank : Stmt := (inClass (top 16) 4)
abbrev N_Grid_rank : List Str := ["self", "number", "size", "spacing", "passed", "rank"]
theorem sc_Grid_rank : FnScope N_Grid_rank ["self", "number"] (defScope s_Grid_rank) := ⟨rfl, rfl, rfl, by decide +kernel, rfl, by decide +kernel, by decide +kernel⟩
abbrev s_Grid_number : Stmt := (inClass (top 16) 5)
abbrev N_Grid_number : List Str := ["self", "rank", "size", "level", "number"]
theorem sc_Grid_number : FnScope N_Grid_number ["self", "rank"] (defScope s_Grid_number) := ⟨rfl, rfl, rfl, by decide +kernel, rfl, by decide +kernel, by decide +kernel⟩
abbrev s_Grid_after : Stmt := (inClass (top 16) 6)
abbrev N_Grid_after : List Str := ["self", "number", "rank"]
theorem sc_Grid_after : FnScope N_Grid_after ["self", "number"] (defScope s_Grid_after) := ⟨rfl, rfl, rfl, by decide +kernel, rfl, by decide +kernel, by decide +kernel⟩
abbrev s_Grid_before : Stmt := (inClass (top 16) 7)
abbrev N_Grid_before : List Str := ["self", "number", "rank"]
theorem sc_Grid_before : FnScope N_Grid_before ["self", "number"] (defScope s_Grid_before) := ⟨rfl, rfl, rfl, by decide +kernel, rfl, by decide +kernel, by decide +kernel⟩
abbrev s_is_grid : Stmt := (top 17)
abbrev N_is_grid : List Str := ["told", "base", "figures", "reach", "places"]
theorem sc_is_grid : FnScope N_is_grid ["told"] (defScope s_is_grid) := ⟨rfl, rfl, rfl, by decide +kernel, rfl, by decide +kernel, by decide +kernel⟩
abbrev s_spacing_at : Stmt := (top 18)
abbrev N_spacing_at : List Str := ["grid", "size", "more", "spacing", "limit"]
theorem sc_spacing_at : FnScope N_spacing_at ["grid", "size", "more"] (defScope s_spacing_at) := ⟨rfl, rfl, rfl, by decide +kernel, rfl, by decide +kernel, by decide +kernel⟩
abbrev s_spans_below : Stmt := (top 19)
abbrev N_spans_below : List Str := ["grid", "spacing", "level"]
theorem sc_spans_below : FnScope N_spans_below ["grid", "spacing"] (defScope s_spans_below) := ⟨rfl, rfl, rfl, by decide +kernel, rfl, by decide +kernel, by decide +kernel⟩
abbrev s_span_size : Stmt := (top 20)
abbrev N_span_size : List Str := ["grid"]
theorem sc_span_size : FnScope N_span_size ["grid"] (defScope s_span_size) := ⟨rfl, rfl, rfl, by decide +kernel, rfl, by decide +kernel, by decide +kernel⟩
abbrev s_fitted : Stmt := (top 22)
abbrev N_fitted : List Str := ["grid", "top", "bottom", "way", "more", "spacing", "step", "below", "left", "number"]
theorem sc_fitted : FnScope N_fitted ["grid", "top", "bottom", "way", "more"] (defScope s_fitted) := ⟨rfl, rfl, rfl, by decide +kernel, rfl, by decide +kernel, by decide +kernel⟩
abbrev s_goes_up : Stmt := (top 23)
abbrev N_goes_up : List Str := ["below", "left", "step", "way"]
theorem sc_goes_up : FnScope N_goes_up ["below", "left", "step", "way"] (defScope s_goes_up) := ⟨rfl, rfl, rfl, by decide +kernel, rfl, by decide +kernel, by decide +kernel⟩
abbrev s_renewed : Stmt := (top 25)
abbrev N_renewed : List Str := ["grid", "worth"]
theorem sc_renewed : FnScope N_renewed ["grid", "worth"] (defScope s_renewed) := ⟨rfl, rfl, rfl, by decide +kernel, rfl, by decide +kernel, by decide +kernel⟩
abbrev s_cross_signs : Stmt := (top 26)
abbrev N_cross_signs : List Str := ["grid", "four", "ahead", "behind", "one", "other", "plain"]
theorem sc_cross_signs : FnScope N_cross_signs ["grid", "four"] (defScope s_cross_signs) := ⟨rfl, rfl, rfl, by decide +kernel, rfl, by decide +kernel, by decide +kernel⟩
abbrev s_rounded_parts : Stmt := (top 27)
abbrev N_rounded_parts : List Str := ["grid", "worth", "row", "left", "number"]
theorem sc_rounded_parts : FnScope N_rounded_parts ["grid", "worth"] (defScope s_rounded_parts) := ⟨rfl, rfl, rfl, by decide +kernel, rfl, by decide +kernel, by decide +kernel⟩
abbrev s_is_numbers : Stmt := (top 28)
abbrev N_is_numbers : List Str := ["grid", "value", "part"]
theorem sc_is_numbers : FnScope N_is_numbers ["grid", "value"] (defScope s_is_numbers) := ⟨rfl, rfl, rfl, by decide +kernel, rfl, by decide +kernel, by decide +kernel⟩
abbrev s_check_reached : Stmt := (top 29)
abbrev N_check_reached : List Str := ["grid", "worth"]
theorem sc_check_reached : FnScope N_check_reached ["grid", "worth"] (defScope s_check_reached) := ⟨rfl, rfl, rfl, by decide +kernel, rfl, by decide +kernel, by decide +kernel⟩
abbrev s_l_pot : Stmt := (top 31)
abbrev N_l_pot : List Str := ["script", "place", "cell", "own", "small"]
theorem sc_l_pot : FnScope N_l_pot ["script", "place"] (defScope s_l_pot) := ⟨rfl, rfl, rfl, by decide +kernel, rfl, by decide +kernel, by decide +kernel⟩
abbrev s_l_take : Stmt := (top 32)
abbrev N_l_take : List Str := ["pot", "upto", "prime", "blend", "digit"]
theorem sc_l_take : FnScope N_l_take ["pot", "upto"] (defScope s_l_take) := ⟨rfl, rfl, rfl, by decide +kernel, rfl, by decide +kernel, by decide +kernel⟩
abbrev s_l_of : Stmt := (top 33)
abbrev N_l_of : List Str := ["pot", "some"]
theorem sc_l_of : FnScope N_l_of ["pot", "some"] (defScope s_l_of) := ⟨rfl, rfl, rfl, by decide +kernel, rfl, by decide +kernel, by decide +kernel⟩
abbrev s_l_grid_power : Stmt := (top 34)
abbrev N_l_grid_power : List Str := ["base", "many", "found", "lap"]
theorem sc_l_grid_power : FnScope N_l_grid_power ["base", "many"] (defScope s_l_grid_power) := ⟨rfl, rfl, rfl, by decide +kernel, rfl, by decide +kernel, by decide +kernel⟩
abbrev s_l_grid_ladder : Stmt := (top 35)
abbrev N_l_grid_ladder : List Str := ["grid", "bound", "spacing", "found", "lap", "at"]
theorem sc_l_grid_ladder : FnScope N_l_grid_ladder ["grid"] (defScope s_l_grid_ladder) := ⟨rfl, rfl, rfl, by decide +kernel, rfl, by decide +kernel, by decide +kernel⟩
abbrev s_l_grid_spacing : Stmt := (top 36)
abbrev N_l_grid_spacing : List Str := ["grid", "top", "bottom", "spacing", "bound"]
theorem sc_l_grid_spacing : FnScope N_l_grid_spacing ["grid", "top", "bottom"] (defScope s_l_grid_spacing) := ⟨rfl, rfl, rfl, by decide +kernel, rfl, by decide +kernel, by decide +kernel⟩
abbrev s_l_grid_more : Stmt := (top 37)
abbrev N_l_grid_more : List Str := ["grid", "more"]
theorem sc_l_grid_more : FnScope N_l_grid_more ["grid", "more"] (defScope s_l_grid_more) := ⟨rfl, rfl, rfl, by decide +kernel, rfl, by decide +kernel, by decide +kernel⟩
abbrev s_l_grid_greatest : Stmt := (top 38)
abbrev N_l_grid_greatest : List Str := ["grid"]
theorem sc_l_grid_greatest : FnScope N_l_grid_greatest ["grid"] (defScope s_l_grid_greatest) := ⟨rfl, rfl, rfl, by decide +kernel, rfl, by decide +kernel, by decide +kernel⟩
abbrev s_l_grid_rounded : Stmt := (top 39)
abbrev N_l_grid_rounded : List Str := ["grid", "top", "bottom", "way", "more", "fine", "spacing", "below", "left", "number", "twice", "step"]
theorem sc_l_grid_rounded : FnScope N_l_grid_rounded ["grid", "top", "bottom", "way", "more"] (defScope s_l_grid_rounded) := ⟨rfl, rfl, rfl, by decide +kernel, rfl, by decide +kernel, by decide +kernel⟩
abbrev s_l_grid_a_number : Stmt := (top 40)
abbrev N_l_grid_a_number : List Str := ["pot", "grid", "way", "most", "number", "power_v", "less"]
theorem sc_l_grid_a_number : FnScope N_l_grid_a_number ["pot", "grid"] (defScope s_l_grid_a_number) := ⟨rfl, rfl, rfl, by decide +kernel, rfl, by decide +kernel, by decide +kernel⟩
abbrev s_l_cells : Stmt := (top 41)
abbrev N_l_cells : List Str := ["script", "most"]
theorem sc_l_cells : FnScope N_l_cells ["script", "most"] (defScope s_l_cells) := ⟨rfl, rfl, rfl, by decide +kernel, rfl, by decide +kernel, by decide +kernel⟩
abbrev s_l_small : Stmt := (top 42)
abbrev N_l_small : List Str := ["pot", "grid"]
theorem sc_l_small : FnScope N_l_small ["pot"] (defScope s_l_small) := ⟨rfl, rfl, rfl, by decide +kernel, rfl, by decide +kernel, by decide +kernel⟩
abbrev s_l_sign : Stmt := (top 43)
abbrev N_l_sign : List Str := ["number"]
theorem sc_l_sign : FnScope N_l_sign ["number"] (defScope s_l_sign) := ⟨rfl, rfl, rfl, by decide +kernel, rfl, by decide +kernel, by decide +kernel⟩
abbrev s_l_is_told_right : Stmt := (top 44)
abbrev N_l_is_told_right : List Str := ["made", "grid", "worth", "row", "one", "other"]
theorem sc_l_is_told_right : FnScope N_l_is_told_right ["made", "grid", "worth"] (defScope s_l_is_told_right) := ⟨rfl, rfl, rfl, by decide +kernel, rfl, by decide +kernel, by decide +kernel⟩
abbrev s_l_are_crossed_right : Stmt := (top 45)
abbrev N_l_are_crossed_right : List Str := ["made", "grid", "four", "one", "other", "sides", "plain", "sign", "told", "due", "others", "product", "its"]
theorem sc_l_are_crossed_right : FnScope N_l_are_crossed_right ["made", "grid", "four"] (defScope s_l_are_crossed_right) := ⟨rfl, rfl, rfl, by decide +kernel, rfl, by decide +kernel, by decide +kernel⟩
abbrev s_l_right : Stmt := (top 46)
abbrev N_l_right : List Str := ["pot", "grid", "ladder", "made", "most", "step", "worth", "lap", "great", "base", "some", "four", "one", "turn"]
theorem sc_l_right : FnScope N_l_right ["pot"] (defScope s_l_right) := ⟨rfl, rfl, rfl, by decide +kernel, rfl, by decide +kernel, by decide +kernel⟩
abbrev s_law : Stmt := (top 47)
abbrev N_law : List Str := ["script", "place"]
theorem sc_law : FnScope N_law ["script"] (defScope s_law) := ⟨rfl, rfl, rfl, by decide +kernel, rfl, by decide +kernel, by decide +kernel⟩
structure Ad where
  is_whole : Addr
  is_whole_fd : FuncData
  is_from_to : Addr
  is_from_to_fd : FuncData
  power : Addr
  power_fd : FuncData
  sign_of : Addr
  sign_of_fd : FuncData
  Grid_init : Addr
  Grid_init_fd : FuncData
  Grid_contains : Addr
  Grid_contains_fd : FuncData
  Grid_rank : Addr
  Grid_rank_fd : FuncData
  Grid_number : Addr
  Grid_number_fd : FuncData
  Grid_after : Addr
  Grid_after_fd : FuncData
  Grid_before : Addr
  Grid_before_fd : FuncData
  is_grid : Addr
  is_grid_fd : FuncData
  spacing_at : Addr
  spacing_at_fd : FuncData
  spans_below : Addr
  spans_below_fd : FuncData
  span_size : Addr
  span_size_fd : FuncData
  fitted : Addr
  fitted_fd : FuncData
  goes_up : Addr
  goes_up_fd : FuncData
  renewed : Addr
  renewed_fd : FuncData
  cross_signs : Addr
  cross_signs_fd : FuncData
  rounded_parts : Addr
  rounded_parts_fd : FuncData
  is_numbers : Addr
  is_numbers_fd : FuncData
  check_reached : Addr
  check_reached_fd : FuncData
  l_pot : Addr
  l_pot_fd : FuncData
  l_take : Addr
  l_take_fd : FuncData
  l_of : Addr
  l_of_fd : FuncData
  l_grid_power : Addr
  l_grid_power_fd : FuncData
  l_grid_ladder : Addr
  l_grid_ladder_fd : FuncData
  l_grid_spacing : Addr
  l_grid_spacing_fd : FuncData
  l_grid_more : Addr
  l_grid_more_fd : FuncData
  l_grid_greatest : Addr
  l_grid_greatest_fd : FuncData
  l_grid_rounded : Addr
  l_grid_rounded_fd : FuncData
  l_grid_a_number : Addr
  l_grid_a_number_fd : FuncData
  l_cells : Addr
  l_cells_fd : FuncData
  l_small : Addr
  l_small_fd : FuncData
  l_sign : Addr
  l_sign_fd : FuncData
  l_is_told_right : Addr
  l_is_told_right_fd : FuncData
  l_are_crossed_right : Addr
  l_are_crossed_right_fd : FuncData
  l_right : Addr
  l_right_fd : FuncData
  law : Addr
  law_fd : FuncData
  Grid : Addr
structure Txt (K : PySem.W.Frag) (mg : Str → Option Value) (a : Ad) : Prop where
  F_is_whole : Fun K "is_whole" "is_whole" s_is_whole a.is_whole a.is_whole_fd
  B_is_whole : Binds K a.is_whole_fd ["value"] []
  g_is_whole : mg "is_whole" = some (.ref a.is_whole)
  k_is_whole : PySem.W.keepIn K (.ref a.is_whole) = true
  F_is_from_to : Fun K "is_from_to" "is_from_to" s_is_from_to a.is_from_to a.is_from_to_fd
  B_is_from_to : Binds K a.is_from_to_fd ["value", "low", "high"] []
  g_is_from_to : mg "is_from_to" = some (.ref a.is_from_to)
  k_is_from_to : PySem.W.keepIn K (.ref a.is_from_to) = true
  F_power : Fun K "power" "power" s_power a.power a.power_fd
  B_power : Binds K a.power_fd ["base", "exponent"] []
  g_power : mg "power" = some (.ref a.power)
  k_power : PySem.W.keepIn K (.ref a.power) = true
  F_sign_of : Fun K "sign_of" "sign_of" s_sign_of a.sign_of a.sign_of_fd
  B_sign_of : Binds K a.sign_of_fd ["number"] []
  g_sign_of : mg "sign_of" = some (.ref a.sign_of)
  k_sign_of : PySem.W.keepIn K (.ref a.sign_of) = true
  F_Grid_init : Fun K "__init__" "Grid.__init__" s_Grid_init a.Grid_init a.Grid_init_fd
  B_Grid_init : Binds K a.Grid_init_fd ["self", "base", "figures", "reach", "places"] []
  F_Grid_contains : Fun K "__contains__" "Grid.__contains__" s_Grid_contains a.Grid_contains a.Grid_contains_fd
  B_Grid_contains : Binds K a.Grid_contains_fd ["self", "value"] []
  m_Grid_contains : PySem.W.findIn K (.ref a.Grid) "__contains__" = some (some (.ref a.Grid_contains)) ∧ PySem.W.isFn K (.ref a.Grid_contains) = true
  F_Grid_rank : Fun K "rank" "Grid.rank" s_Grid_rank a.Grid_rank a.Grid_rank_fd
  B_Grid_rank : Binds K a.Grid_rank_fd ["self", "number"] []
  m_Grid_rank : Meth K a.Grid "rank" a.Grid_rank
  F_Grid_number : Fun K "number" "Grid.number" s_Grid_number a.Grid_number a.Grid_number_fd
  B_Grid_number : Binds K a.Grid_number_fd ["self", "rank"] []
  m_Grid_number : Meth K a.Grid "number" a.Grid_number
  F_Grid_after : Fun K "after" "Grid.after" s_Grid_after a.Grid_after a.Grid_after_fd
  B_Grid_after : Binds K a.Grid_after_fd ["self", "number"] []
  m_Grid_after : Meth K a.Grid "after" a.Grid_after
  F_Grid_before : Fun K "before" "Grid.before" s_Grid_before a.Grid_before a.Grid_before_fd
  B_Grid_before : Binds K a.Grid_before_fd ["self", "number"] []
  m_Grid_before : Meth K a.Grid "before" a.Grid_before
  F_is_grid : Fun K "is_grid" "is_grid" s_is_grid a.is_grid a.is_grid_fd
  B_is_grid : Binds K a.is_grid_fd ["told"] []
  g_is_grid : mg "is_grid" = some (.ref a.is_grid)
  k_is_grid : PySem.W.keepIn K (.ref a.is_grid) = true
  F_spacing_at : Fun K "spacing_at" "spacing_at" s_spacing_at a.spacing_at a.spacing_at_fd
  B_spacing_at : Binds K a.spacing_at_fd ["grid", "size", "more"] []
  g_spacing_at : mg "spacing_at" = some (.ref a.spacing_at)
  k_spacing_at : PySem.W.keepIn K (.ref a.spacing_at) = true
  F_spans_below : Fun K "spans_below" "spans_below" s_spans_below a.spans_below a.spans_below_fd
  B_spans_below : Binds K a.spans_below_fd ["grid", "spacing"] []
  g_spans_below : mg "spans_below" = some (.ref a.spans_below)
  k_spans_below : PySem.W.keepIn K (.ref a.spans_below) = true
  F_span_size : Fun K "span_size" "span_size" s_span_size a.span_size a.span_size_fd
  B_span_size : Binds K a.span_size_fd ["grid"] []
  g_span_size : mg "span_size" = some (.ref a.span_size)
  k_span_size : PySem.W.keepIn K (.ref a.span_size) = true
  F_fitted : Fun K "fitted" "fitted" s_fitted a.fitted a.fitted_fd
  B_fitted : Binds K a.fitted_fd ["grid", "top", "bottom", "way", "more"] []
  g_fitted : mg "fitted" = some (.ref a.fitted)
  k_fitted : PySem.W.keepIn K (.ref a.fitted) = true
  F_goes_up : Fun K "goes_up" "goes_up" s_goes_up a.goes_up a.goes_up_fd
  B_goes_up : Binds K a.goes_up_fd ["below", "left", "step", "way"] []
  g_goes_up : mg "goes_up" = some (.ref a.goes_up)
  k_goes_up : PySem.W.keepIn K (.ref a.goes_up) = true
  F_renewed : Fun K "renewed" "renewed" s_renewed a.renewed a.renewed_fd
  B_renewed : Binds K a.renewed_fd ["grid", "worth"] []
  g_renewed : mg "renewed" = some (.ref a.renewed)
  k_renewed : PySem.W.keepIn K (.ref a.renewed) = true
  F_cross_signs : Fun K "cross_signs" "cross_signs" s_cross_signs a.cross_signs a.cross_signs_fd
  B_cross_signs : Binds K a.cross_signs_fd ["grid", "four"] []
  g_cross_signs : mg "cross_signs" = some (.ref a.cross_signs)
  k_cross_signs : PySem.W.keepIn K (.ref a.cross_signs) = true
  F_rounded_parts : Fun K "rounded_parts" "rounded_parts" s_rounded_parts a.rounded_parts a.rounded_parts_fd
  B_rounded_parts : Binds K a.rounded_parts_fd ["grid", "worth"] []
  g_rounded_parts : mg "rounded_parts" = some (.ref a.rounded_parts)
  k_rounded_parts : PySem.W.keepIn K (.ref a.rounded_parts) = true
  F_is_numbers : Fun K "is_numbers" "is_numbers" s_is_numbers a.is_numbers a.is_numbers_fd
  B_is_numbers : Binds K a.is_numbers_fd ["grid", "value"] []
  g_is_numbers : mg "is_numbers" = some (.ref a.is_numbers)
  k_is_numbers : PySem.W.keepIn K (.ref a.is_numbers) = true
  F_check_reached : Fun K "check_reached" "check_reached" s_check_reached a.check_reached a.check_reached_fd
  B_check_reached : Binds K a.check_reached_fd ["grid", "worth"] []
  g_check_reached : mg "check_reached" = some (.ref a.check_reached)
  k_check_reached : PySem.W.keepIn K (.ref a.check_reached) = true
  F_l_pot : Fun K "_law_pot" "_law_pot" s_l_pot a.l_pot a.l_pot_fd
  B_l_pot : Binds K a.l_pot_fd ["script", "place"] []
  g_l_pot : mg "_law_pot" = some (.ref a.l_pot)
  k_l_pot : PySem.W.keepIn K (.ref a.l_pot) = true
  F_l_take : Fun K "_law_take" "_law_take" s_l_take a.l_take a.l_take_fd
  B_l_take : Binds K a.l_take_fd ["pot", "upto"] []
  g_l_take : mg "_law_take" = some (.ref a.l_take)
  k_l_take : PySem.W.keepIn K (.ref a.l_take) = true
  F_l_of : Fun K "_law_of" "_law_of" s_l_of a.l_of a.l_of_fd
  B_l_of : Binds K a.l_of_fd ["pot", "some"] []
  g_l_of : mg "_law_of" = some (.ref a.l_of)
  k_l_of : PySem.W.keepIn K (.ref a.l_of) = true
  F_l_grid_power : Fun K "_law_grid_power" "_law_grid_power" s_l_grid_power a.l_grid_power a.l_grid_power_fd
  B_l_grid_power : Binds K a.l_grid_power_fd ["base", "many"] []
  g_l_grid_power : mg "_law_grid_power" = some (.ref a.l_grid_power)
  k_l_grid_power : PySem.W.keepIn K (.ref a.l_grid_power) = true
  F_l_grid_ladder : Fun K "_law_grid_ladder" "_law_grid_ladder" s_l_grid_ladder a.l_grid_ladder a.l_grid_ladder_fd
  B_l_grid_ladder : Binds K a.l_grid_ladder_fd ["grid"] []
  g_l_grid_ladder : mg "_law_grid_ladder" = some (.ref a.l_grid_ladder)
  k_l_grid_ladder : PySem.W.keepIn K (.ref a.l_grid_ladder) = true
  F_l_grid_spacing : Fun K "_law_grid_spacing" "_law_grid_spacing" s_l_grid_spacing a.l_grid_spacing a.l_grid_spacing_fd
  B_l_grid_spacing : Binds K a.l_grid_spacing_fd ["grid", "top", "bottom"] []
  g_l_grid_spacing : mg "_law_grid_spacing" = some (.ref a.l_grid_spacing)
  k_l_grid_spacing : PySem.W.keepIn K (.ref a.l_grid_spacing) = true
  F_l_grid_more : Fun K "_law_grid_more" "_law_grid_more" s_l_grid_more a.l_grid_more a.l_grid_more_fd
  B_l_grid_more : Binds K a.l_grid_more_fd ["grid", "more"] []
  g_l_grid_more : mg "_law_grid_more" = some (.ref a.l_grid_more)
  k_l_grid_more : PySem.W.keepIn K (.ref a.l_grid_more) = true
  F_l_grid_greatest : Fun K "_law_grid_greatest" "_law_grid_greatest" s_l_grid_greatest a.l_grid_greatest a.l_grid_greatest_fd
  B_l_grid_greatest : Binds K a.l_grid_greatest_fd ["grid"] []
  g_l_grid_greatest : mg "_law_grid_greatest" = some (.ref a.l_grid_greatest)
  k_l_grid_greatest : PySem.W.keepIn K (.ref a.l_grid_greatest) = true
  F_l_grid_rounded : Fun K "_law_grid_rounded" "_law_grid_rounded" s_l_grid_rounded a.l_grid_rounded a.l_grid_rounded_fd
  B_l_grid_rounded : Binds K a.l_grid_rounded_fd ["grid", "top", "bottom", "way", "more"] []
  g_l_grid_rounded : mg "_law_grid_rounded" = some (.ref a.l_grid_rounded)
  k_l_grid_rounded : PySem.W.keepIn K (.ref a.l_grid_rounded) = true
  F_l_grid_a_number : Fun K "_law_grid_a_number" "_law_grid_a_number" s_l_grid_a_number a.l_grid_a_number a.l_grid_a_number_fd
  B_l_grid_a_number : Binds K a.l_grid_a_number_fd ["pot", "grid"] []
  g_l_grid_a_number : mg "_law_grid_a_number" = some (.ref a.l_grid_a_number)
  k_l_grid_a_number : PySem.W.keepIn K (.ref a.l_grid_a_number) = true
  F_l_cells : Fun K "_law_cells" "_law_cells" s_l_cells a.l_cells a.l_cells_fd
  B_l_cells : Binds K a.l_cells_fd ["script", "most"] []
  g_l_cells : mg "_law_cells" = some (.ref a.l_cells)
  k_l_cells : PySem.W.keepIn K (.ref a.l_cells) = true
  F_l_small : Fun K "_law_small" "_law_small" s_l_small a.l_small a.l_small_fd
  B_l_small : Binds K a.l_small_fd ["pot"] []
  g_l_small : mg "_law_small" = some (.ref a.l_small)
  k_l_small : PySem.W.keepIn K (.ref a.l_small) = true
  F_l_sign : Fun K "_law_sign" "_law_sign" s_l_sign a.l_sign a.l_sign_fd
  B_l_sign : Binds K a.l_sign_fd ["number"] []
  g_l_sign : mg "_law_sign" = some (.ref a.l_sign)
  k_l_sign : PySem.W.keepIn K (.ref a.l_sign) = true
  F_l_is_told_right : Fun K "_law_is_told_right" "_law_is_told_right" s_l_is_told_right a.l_is_told_right a.l_is_told_right_fd
  B_l_is_told_right : Binds K a.l_is_told_right_fd ["made", "grid", "worth"] []
  g_l_is_told_right : mg "_law_is_told_right" = some (.ref a.l_is_told_right)
  k_l_is_told_right : PySem.W.keepIn K (.ref a.l_is_told_right) = true
  F_l_are_crossed_right : Fun K "_law_are_crossed_right" "_law_are_crossed_right" s_l_are_crossed_right a.l_are_crossed_right a.l_are_crossed_right_fd
  B_l_are_crossed_right : Binds K a.l_are_crossed_right_fd ["made", "grid", "four"] []
  g_l_are_crossed_right : mg "_law_are_crossed_right" = some (.ref a.l_are_crossed_right)
  k_l_are_crossed_right : PySem.W.keepIn K (.ref a.l_are_crossed_right) = true
  F_l_right : Fun K "_law_right" "_law_right" s_l_right a.l_right a.l_right_fd
  B_l_right : Binds K a.l_right_fd ["pot"] []
  g_l_right : mg "_law_right" = some (.ref a.l_right)
  k_l_right : PySem.W.keepIn K (.ref a.l_right) = true
  F_law : Fun K "law" "law" s_law a.law a.law_fd
  B_law : Binds K a.law_fd ["script"] []
  g_law : mg "law" = some (.ref a.law)
  k_law : PySem.W.keepIn K (.ref a.law) = true
  cl_Grid : Cls K a.Grid
  mk_Grid : Mk K a.Grid a.Grid_init
  g_Grid : mg "Grid" = some (.ref a.Grid)
  f_Grid_base : NoAttr K a.Grid "base"
  f_Grid_figures : NoAttr K a.Grid "figures"
  f_Grid_reach : NoAttr K a.Grid "reach"
  f_Grid_places : NoAttr K a.Grid "places"
  f_Grid_unit : NoAttr K a.Grid "unit"
  f_Grid_limits : NoAttr K a.Grid "limits"
  f_Grid_tops : NoAttr K a.Grid "tops"
  f_Grid_greatest : NoAttr K a.Grid "greatest"
  c_MOST_FIGURES : ∃ t, mg "MOST_FIGURES" = some (.int 30 t)
  c_MOST_MORE : ∃ t, mg "MOST_MORE" = some (.int 3 t)
  n_isinstance : mg "isinstance" = none
  n_int : mg "int" = none
  n_bool : mg "bool" = none
  n_range : mg "range" = none
  n_tuple : mg "tuple" = none
  n_list : mg "list" = none
  n_abs : mg "abs" = none
  n_sum : mg "sum" = none
  n_len : mg "len" = none
  n_all : mg "all" = none
  n_max : mg "max" = none
  n_min : mg "min" = none
  n_repr : mg "repr" = none
  n_zip : mg "zip" = none
end My

namespace My
/-! ### the mathematics: spacings, rounding near and towards zero, renewed rows -/
def spx (b L n : Nat) : Nat := if h : 2 ≤ b ∧ 1 ≤ L ∧ L ≤ n then 1 + spx b (L * b) n else 0
termination_by n + 1 - L
decreasing_by
  have h2 : L * 2 ≤ L * b := Nat.mul_le_mul_left L h.1
  omega
theorem spx_lt {b L n : Nat} (h : n < L) : spx b L n = 0 := by
  unfold spx
  rw [dif_neg (by omega)]
theorem spx_ge {b L n : Nat} (hb : 2 ≤ b) (hL : 1 ≤ L) (h : L ≤ n) : spx b L n = 1 + spx b (L * b) n := by
  rw [spx, dif_pos ⟨hb, hL, h⟩]
theorem spx_bound {b n : Nat} (hb : 2 ≤ b) : ∀ (k L : Nat), n + 1 - L ≤ k → 1 ≤ L → n < L * b ^ spx b L n
  | 0, L, hk, hL => by
    rw [spx_lt (by omega), Nat.pow_zero]
    omega
  | k + 1, L, hk, hL => by
    by_cases h : n < L
    · rw [spx_lt h, Nat.pow_zero]; omega
    · have h2 : L * 2 ≤ L * b := Nat.mul_le_mul_left L hb
      rw [spx_ge hb hL (by omega), Nat.pow_add, Nat.pow_one, ← Nat.mul_assoc]
      exact spx_bound hb k (L * b) (by omega) (by omega)
theorem spx_up {b L n : Nat} (hb : 2 ≤ b) (hL : 1 ≤ L) : n < L * b ^ spx b L n := spx_bound hb _ L (Nat.le_refl _) hL
theorem spx_low {b n : Nat} (hb : 2 ≤ b) : ∀ (k L : Nat), 1 ≤ L → k < spx b L n → L * b ^ k ≤ n
  | 0, L, hL, h => by
    by_cases h' : n < L
    · rw [spx_lt h'] at h; omega
    · rw [Nat.pow_zero]; omega
  | k + 1, L, hL, h => by
    by_cases h' : n < L
    · rw [spx_lt h'] at h; omega
    · rw [spx_ge hb hL (by omega)] at h
      have h2 : L * 2 ≤ L * b := Nat.mul_le_mul_left L hb
      have := spx_low (n := n) hb k (L * b) (by omega) (by omega)
      rw [Nat.pow_succ, Nat.mul_comm (b ^ k) b, ← Nat.mul_assoc]
      exact this
theorem spx_le {b L n k : Nat} (hb : 2 ≤ b) (hL : 1 ≤ L) (h : n < L * b ^ k) : spx b L n ≤ k := by
  refine Nat.le_of_not_lt fun hk => ?_
  have := spx_low hb k L hL hk
  omega
theorem spx_step {b L n k : Nat} (hb : 2 ≤ b) (hL : 1 ≤ L) (h : L * b ^ k ≤ n) (e : spx b L n = k + spx b (L * b ^ k) n) : spx b L n = (k + 1) + spx b (L * b ^ (k + 1)) n := by
  have hp : 1 ≤ b ^ k := Nat.pow_pos (by omega)
  have : 1 ≤ L * b ^ k := Nat.mul_pos hL hp
  rw [e, spx_ge hb this h, Nat.pow_succ, ← Nat.mul_assoc]
  omega

/-- the spacing at a size -/
def spc (b L n : Nat) : Nat := b ^ spx b L n
theorem spc_pos {b L n : Nat} (hb : 2 ≤ b) : 0 < spc b L n := Nat.pow_pos (by omega)

/-- rounded near, rounded towards zero; without an end -/
def rn (b L : Nat) (t : Int) : Int :=
  if (spc b L t.natAbs : Int) < 2 * (t % (spc b L t.natAbs : Int)) ∨ (2 * (t % (spc b L t.natAbs : Int)) = (spc b L t.natAbs : Int) ∧ t / (spc b L t.natAbs : Int) % 2 = 1) then (t / (spc b L t.natAbs : Int) + 1) * (spc b L t.natAbs : Int)
  else t / (spc b L t.natAbs : Int) * (spc b L t.natAbs : Int)
def rz (b L : Nat) (t : Int) : Int :=
  if 0 < t % (spc b L t.natAbs : Int) ∧ t < 0 then (t / (spc b L t.natAbs : Int) + 1) * (spc b L t.natAbs : Int) else t / (spc b L t.natAbs : Int) * (spc b L t.natAbs : Int)

/-- a grid: base, first integer with too many figures, greatest number -/
structure Gr (b f r L G : Nat) : Prop where
  hb : 2 ≤ b
  hf : 1 ≤ f
  eL : L = b ^ f
  eG : G = (L - 1) * b ^ r
theorem Gr.L1 {b f r L G : Nat} (g : Gr b f r L G) : 2 ≤ L := by
  rw [g.eL]
  have h1 : b ^ 1 ≤ b ^ f := Nat.pow_le_pow_right (by have := g.hb; omega) g.hf
  have := g.hb
  rw [Nat.pow_one] at h1
  omega
theorem Gr.Gl {b f r L G : Nat} (g : Gr b f r L G) : G < L * b ^ r := by
  have hp : 1 ≤ b ^ r := Nat.pow_pos (by have := g.hb; omega)
  have h1 := g.L1
  rw [g.eG]
  have : (L - 1) * b ^ r < L * b ^ r := Nat.mul_lt_mul_of_pos_right (by omega) hp
  exact this
def OnG (b L G : Nat) (n : Int) : Prop := n.natAbs ≤ G ∧ n % (spc b L n.natAbs : Int) = 0

section
variable {b f r L G : Nat}
theorem spx_r (g : Gr b f r L G) {t : Int} (h : t.natAbs ≤ G) : spx b L t.natAbs ≤ r :=
  spx_le g.hb (by have := g.L1; omega) (Nat.lt_of_le_of_lt h g.Gl)
theorem spc_dvd {b L n k : Nat} (h : spx b L n ≤ k) : (spc b L n) ∣ b ^ k := Nat.pow_dvd_pow b h
theorem onG_of (g : Gr b f r L G) {n : Int} {k : Nat} (h : n.natAbs ≤ G) (h1 : n.natAbs < L * b ^ k) (h2 : ((b ^ k : Nat) : Int) ∣ n) : OnG b L G n := by
  refine ⟨h, ?_⟩
  have h3 : spx b L n.natAbs ≤ k := spx_le g.hb (by have := g.L1; omega) h1
  exact Int.emod_eq_zero_of_dvd (Int.dvd_trans (Int.natCast_dvd_natCast.mpr (spc_dvd h3)) h2)
theorem OnG.neg {n : Int} (h : OnG b L G n) : OnG b L G (-n) := by
  unfold OnG at *
  rw [Int.natAbs_neg]
  exact ⟨h.1, Int.emod_eq_zero_of_dvd (Int.dvd_neg.mpr (Int.dvd_of_emod_eq_zero h.2))⟩
/-- the parts of a rounding -/
theorem div_facts (t s : Int) (hs : 0 < s) : t = t / s * s + t % s ∧ 0 ≤ t % s ∧ t % s < s := by
  have h1 := Int.mul_ediv_add_emod t s
  rw [Int.mul_comm] at h1
  exact ⟨h1.symm, Int.emod_nonneg t (by omega), Int.emod_lt_of_pos t hs⟩
theorem spcI_pos (hb : 2 ≤ b) (n : Nat) : (0 : Int) < (spc b L n : Int) := by
  have := spc_pos (L := L) (n := n) hb
  omega
theorem rn_cases (hb : 2 ≤ b) (t : Int) : ∃ q : Int, rn b L t = q * (spc b L t.natAbs : Int) ∧ 2 * (t - rn b L t) ≤ (spc b L t.natAbs : Int) ∧ -(spc b L t.natAbs : Int) ≤ 2 * (t - rn b L t) := by
  have hs := spcI_pos (L := L) hb t.natAbs
  obtain ⟨h1, h2, h3⟩ := div_facts t _ hs
  unfold rn
  generalize (spc b L t.natAbs : Int) = s at *
  generalize t / s = q at *
  generalize t % s = m at *
  split
  · refine ⟨q + 1, rfl, ?_, ?_⟩ <;> rw [Int.add_mul] <;> omega
  · refine ⟨q, rfl, ?_, ?_⟩ <;> omega
theorem rz_cases (hb : 2 ≤ b) (t : Int) : ∃ q : Int, rz b L t = q * (spc b L t.natAbs : Int) ∧ (rz b L t).natAbs ≤ t.natAbs := by
  have hs := spcI_pos (L := L) hb t.natAbs
  obtain ⟨h1, h2, h3⟩ := div_facts t _ hs
  unfold rz
  generalize (spc b L t.natAbs : Int) = s at *
  generalize hq : t / s = q at *
  generalize t % s = m at *
  split
  · refine ⟨q + 1, rfl, ?_⟩
    rename_i hc
    rw [Int.add_mul, Int.one_mul]
    have hq1 : q + 1 ≤ 0 := by
      have : q < 0 := by
        rw [← hq]
        exact Int.ediv_neg_of_neg_of_pos hc.2 hs
      omega
    have : (q + 1) * s ≤ 0 * s := Int.mul_le_mul_of_nonneg_right hq1 (by omega)
    rw [Int.add_mul] at this
    omega
  · refine ⟨q, rfl, ?_⟩
    rename_i hc
    by_cases ht : t < 0
    · have : m = 0 := by omega
      subst this
      rw [h1]; omega
    · have hq0 : 0 ≤ q := by
        rw [← hq]
        exact Int.ediv_nonneg (by omega) (by omega)
      have : 0 * s ≤ q * s := Int.mul_le_mul_of_nonneg_right hq0 (by omega)
      omega
/-- a number of the grid stays -/
theorem rn_self {t : Int} (hb : 2 ≤ b) (h : t % (spc b L t.natAbs : Int) = 0) : rn b L t = t := by
  have hs := spcI_pos (L := L) hb t.natAbs
  obtain ⟨h1, _, _⟩ := div_facts t _ hs
  unfold rn
  rw [h]
  rw [h, Int.add_zero] at h1
  rw [if_neg (by omega)]
  exact h1.symm
/-- within the greatest number there is one to go to -/
theorem mul_within {q s M t : Int} (hs : 0 < s) (h : t ≤ M * s) (h2 : q * s ≤ t) : q * s ≤ M * s := by omega
theorem rn_le (g : Gr b f r L G) {t : Int} (h : t.natAbs ≤ G) : (rn b L t).natAbs ≤ G := by
  have hs := spcI_pos (L := L) g.hb t.natAbs
  have he := spx_r g h
  obtain ⟨h1, h2, h3⟩ := div_facts t _ hs
  have hd : ((spc b L t.natAbs : Nat) : Int) ∣ (G : Int) := by
    refine Int.natCast_dvd_natCast.mpr ?_
    rw [g.eG]
    exact Nat.dvd_trans (spc_dvd he) (Nat.dvd_mul_left _ _)
  obtain ⟨M, hM⟩ := hd
  unfold rn
  generalize (spc b L t.natAbs : Int) = s at *
  generalize t / s = q at *
  generalize t % s = m at *
  have hM' : (G : Int) = M * s := by rw [hM, Int.mul_comm]
  have e1 : q * s ≤ M * s := by omega
  have e2 : -(M * s) ≤ q * s + m := by omega
  have q2 : -M ≤ q := by
    have : (-M) * s < (q + 1) * s := by rw [Int.neg_mul, Int.add_mul]; omega
    have := Int.lt_of_mul_lt_mul_right this (by omega)
    omega
  have e3 : (-M) * s ≤ q * s := Int.mul_le_mul_of_nonneg_right q2 (by omega)
  rw [Int.neg_mul] at e3
  split
  · rename_i hc
    have q1 : q < M := by
      refine Int.lt_of_mul_lt_mul_right (a := s) ?_ (by omega)
      omega
    have e4 : (q + 1) * s ≤ M * s := Int.mul_le_mul_of_nonneg_right (by omega) (by omega)
    have e5 : (-M) * s ≤ (q + 1) * s := Int.mul_le_mul_of_nonneg_right (by omega) (by omega)
    rw [Int.neg_mul] at e5
    omega
  · omega
theorem rz_le (hb : 2 ≤ b) {t : Int} (h : t.natAbs ≤ G) : (rz b L t).natAbs ≤ G := by
  obtain ⟨_, _, h2⟩ := rz_cases (L := L) hb t
  omega
theorem natAbs_mulI (q : Int) (s : Nat) : (q * (s : Int)).natAbs = q.natAbs * s := by rw [Int.natAbs_mul]; rfl
theorem onG_mul (g : Gr b f r L G) {n q : Int} {k : Nat} (h : n.natAbs ≤ G) (h1 : n.natAbs ≤ L * b ^ k) (h2 : n = q * ((b ^ k : Nat) : Int)) : OnG b L G n := by
  by_cases h3 : n.natAbs < L * b ^ k
  · exact onG_of g h h3 ⟨q, by rw [h2, Int.mul_comm]⟩
  · have h4 : n.natAbs = b ^ (f + k) := by rw [Nat.pow_add, ← g.eL]; omega
    refine onG_of (k := k + 1) g h ?_ ?_
    · have h5 : L * b ^ k * 2 ≤ L * b ^ k * b := Nat.mul_le_mul_left _ g.hb
      rw [Nat.pow_succ, ← Nat.mul_assoc]
      have : 0 < L * b ^ k := Nat.mul_pos (by have := g.L1; omega) (Nat.pow_pos (by have := g.hb; omega))
      omega
    · refine Int.ofNat_dvd_left.mpr ?_
      rw [h4]
      exact Nat.pow_dvd_pow b (by have := g.hf; omega)
theorem rn_onG (g : Gr b f r L G) {t : Int} (h : t.natAbs ≤ G) : OnG b L G (rn b L t) := by
  obtain ⟨q, e, h1, h2⟩ := rn_cases (L := L) g.hb t
  have hs := spc_pos (L := L) (n := t.natAbs) g.hb
  have hu : t.natAbs < L * spc b L t.natAbs := spx_up g.hb (by have := g.L1; omega)
  refine onG_mul (k := spx b L t.natAbs) (q := q) g (rn_le g h) ?_ e
  show _ ≤ L * spc b L t.natAbs
  generalize hS : spc b L t.natAbs = S at *
  have e2 : (rn b L t).natAbs = q.natAbs * S := by rw [e, natAbs_mulI]
  have h4 : q.natAbs * S < (L + 1) * S := by
    rw [← e2, Nat.add_mul]
    omega
  have := Nat.lt_of_mul_lt_mul_right h4
  rw [e2]
  exact Nat.mul_le_mul_right S (by omega)
theorem rz_onG (g : Gr b f r L G) {t : Int} (h : t.natAbs ≤ G) : OnG b L G (rz b L t) := by
  obtain ⟨q, e, h1⟩ := rz_cases (L := L) g.hb t
  have hu : t.natAbs < L * spc b L t.natAbs := spx_up g.hb (by have := g.L1; omega)
  exact onG_mul (k := spx b L t.natAbs) (q := q) g (rz_le g.hb h) (by show _ ≤ L * spc b L t.natAbs; omega) e
/-- turned about -/
theorem rn_neg (hb : 2 ≤ b) (t : Int) : rn b L (-t) = -rn b L t := by
  unfold rn
  rw [Int.natAbs_neg]
  have hs := spcI_pos (L := L) hb t.natAbs
  generalize (spc b L t.natAbs : Int) = s at *
  obtain ⟨h1, h2, h3⟩ := div_facts t s hs
  have hd : t % s = 0 → (-t) / s = -(t / s) ∧ (-t) % s = 0 := fun h => by
    have e : -t = -(t / s) * s := by rw [Int.neg_mul]; omega
    exact ⟨by rw [e, Int.mul_ediv_cancel _ (by omega)], by rw [e]; exact Int.mul_emod_left _ _⟩
  have hn : t % s ≠ 0 → (-t) / s = -(t / s) - 1 ∧ (-t) % s = s - t % s := fun h => by
    have e : -t = (s - t % s) + s * (-(t / s) - 1) := by
      rw [Int.mul_sub, Int.mul_neg, Int.mul_comm s (t / s)]
      omega
    constructor
    · rw [e, Int.add_mul_ediv_left _ _ (by omega), Int.ediv_eq_zero_of_lt (by omega) (by omega)]
      omega
    · rw [e, Int.add_mul_emod_self_left]
      exact Int.emod_eq_of_lt (by omega) (by omega)
  by_cases h : t % s = 0
  · obtain ⟨e1, e2⟩ := hd h
    rw [e1, e2, h, if_neg (by omega), if_neg (by omega), Int.neg_mul]
  · obtain ⟨e1, e2⟩ := hn h
    rw [e1, e2]
    generalize t % s = m at *
    generalize t / s = q at *
    by_cases hc : s < 2 * m ∨ 2 * m = s ∧ q % 2 = 1
    · rw [if_pos hc, if_neg (by omega), Int.sub_mul, Int.add_mul, Int.neg_mul]
      omega
    · rw [if_neg hc, if_pos (by omega), Int.add_mul, Int.sub_mul, Int.neg_mul]
      omega
/-- what is left is at most half as great -/
theorem rn_half (g : Gr b f r L G) {t : Int} : 2 * (t - rn b L t).natAbs ≤ t.natAbs := by
  obtain ⟨q, e, h1, h2⟩ := rn_cases (L := L) g.hb t
  by_cases h : spx b L t.natAbs = 0
  · have hsp : spc b L t.natAbs = 1 := by unfold spc; rw [h]; rfl
    have : rn b L t = t := rn_self g.hb (by rw [hsp]; show t % 1 = 0; omega)
    rw [this]; omega
  · have h3 := spx_low (n := t.natAbs) g.hb (spx b L t.natAbs - 1) L (by have := g.L1; omega) (by omega)
    have h4 : spc b L t.natAbs ≤ L * b ^ (spx b L t.natAbs - 1) := by
      have e5 : spc b L t.natAbs = b * b ^ (spx b L t.natAbs - 1) := by
        unfold spc
        rw [Nat.mul_comm, ← Nat.pow_succ]
        congr 1
        omega
      rw [e5]
      refine Nat.mul_le_mul_right _ ?_
      rw [g.eL]
      have h1 : b ^ 1 ≤ b ^ f := Nat.pow_le_pow_right (by have := g.hb; omega) g.hf
      rwa [Nat.pow_one] at h1
    omega
/-- the renewed row -/
def pts (b L : Nat) : Nat → Int → List Int
  | 0, _ => []
  | k + 1, t => if t = 0 then [] else rn b L t :: pts b L k (t - rn b L t)
theorem pts_zero (k : Nat) : pts b L k 0 = [] := by cases k <;> rfl
theorem pts_fuel (g : Gr b f r L G) : ∀ (k j : Nat) (t : Int), t.natAbs ≤ k → t.natAbs ≤ j → pts b L k t = pts b L j t
  | 0, j, t, h1, h2 => by
    have : t = 0 := by omega
    subst this
    rw [pts_zero, pts_zero]
  | k + 1, 0, t, h1, h2 => by
    have : t = 0 := by omega
    subst this
    rw [pts_zero, pts_zero]
  | k + 1, j + 1, t, h1, h2 => by
    unfold pts
    by_cases h : t = 0
    · rw [if_pos h, if_pos h]
    · have := rn_half g (t := t)
      rw [if_neg h, if_neg h, pts_fuel g k j _ (by omega) (by omega)]
def row (b L : Nat) (t : Int) : List Int := pts b L t.natAbs t
theorem row_zero : row b L 0 = [] := rfl
theorem row_cons (g : Gr b f r L G) {t : Int} (h : t ≠ 0) : row b L t = rn b L t :: row b L (t - rn b L t) := by
  have h1 := rn_half g (t := t)
  unfold row
  obtain ⟨k, hk⟩ : ∃ k, t.natAbs = k + 1 := ⟨t.natAbs - 1, by omega⟩
  rw [hk]
  show (if t = 0 then [] else rn b L t :: pts b L k (t - rn b L t)) = _
  rw [if_neg h, pts_fuel g k _ _ (by omega) (Nat.le_refl _)]
theorem row_ind (g : Gr b f r L G) {P : Int → Prop} (h0 : P 0) (hs : ∀ t, t ≠ 0 → P (t - rn b L t) → P t) (t : Int) : P t := by
  have : ∀ (k : Nat) (t : Int), t.natAbs ≤ k → P t := by
    intro k
    induction k with
    | zero => intro t h; have : t = 0 := by omega
              subst this; exact h0
    | succ k ih =>
      intro t h
      by_cases h2 : t = 0
      · subst h2; exact h0
      · have := rn_half g (t := t)
        exact hs t h2 (ih _ (by omega))
  exact this _ t (Nat.le_refl _)
theorem row_sum (g : Gr b f r L G) (t : Int) : (row b L t).sum = t := by
  refine row_ind g (P := fun t => (row b L t).sum = t) rfl (fun t h ih => ?_) t
  rw [row_cons g h, List.sum_cons, ih]
  omega
theorem row_neg (g : Gr b f r L G) (t : Int) : row b L (-t) = (row b L t).map (fun x => -x) := by
  refine row_ind g (P := fun t => row b L (-t) = (row b L t).map (fun x => -x)) rfl (fun t h ih => ?_) t
  rw [row_cons g h, row_cons g (t := -t) (by omega), rn_neg g.hb, List.map_cons, ← ih]
  have : -t - -rn b L t = -(t - rn b L t) := by omega
  rw [this]
theorem row_onG (g : Gr b f r L G) (t : Int) (h : t.natAbs ≤ G) : ∀ x ∈ row b L t, OnG b L G x := by
  have := row_ind g (P := fun t => t.natAbs ≤ G → ∀ x ∈ row b L t, OnG b L G x) (fun _ x hx => by cases hx) (fun t h ih hG x hx => ?_) t
  · exact this h
  · rw [row_cons g h] at hx
    have := rn_half g (t := t)
    rcases List.mem_cons.mp hx with rfl | hx
    · exact rn_onG g hG
    · exact ih (by omega) x hx
theorem row_len (g : Gr b f r L G) (t : Int) (n : Nat) (h : t.natAbs < 2 ^ n) : (row b L t).length ≤ n := by
  have := row_ind g (P := fun t => ∀ n, t.natAbs < 2 ^ n → (row b L t).length ≤ n) (fun n _ => Nat.zero_le _) (fun t h ih n hn => ?_) t
  · exact this n h
  · rw [row_cons g h, List.length_cons]
    have h2 := rn_half g (t := t)
    obtain ⟨m, rfl⟩ : ∃ m, n = m + 1 := ⟨n - 1, by
      cases n with
      | zero => simp at hn; omega
      | succ n => rfl⟩
    have := ih m (by rw [Nat.pow_succ] at hn; omega)
    omega
/-- a product: what is left is a number of the grid -/
theorem prod_left (g : Gr b f r L G) {x y : Int} (hx : OnG b L G x) (hy : OnG b L G y) : ∃ k, ((x * y - rn b L (x * y)).natAbs < L * b ^ k) ∧ ((b ^ k : Nat) : Int) ∣ (x * y - rn b L (x * y)) := by
  have hL := g.L1
  obtain ⟨q, e, h1, h2⟩ := rn_cases (L := L) g.hb (x * y)
  have hd : ((b ^ (spx b L x.natAbs + spx b L y.natAbs) : Nat) : Int) ∣ x * y := by
    rw [Nat.pow_add, Int.natCast_mul]
    exact Int.mul_dvd_mul (Int.dvd_of_emod_eq_zero hx.2) (Int.dvd_of_emod_eq_zero hy.2)
  have ux := spx_up (n := x.natAbs) (L := L) g.hb (by omega)
  have uy := spx_up (n := y.natAbs) (L := L) g.hb (by omega)
  generalize hk : spx b L x.natAbs + spx b L y.natAbs = k at *
  have hw : (x * y).natAbs < L * L * b ^ k := by
    rw [Int.natAbs_mul, ← hk, Nat.pow_add, Nat.mul_mul_mul_comm]
    exact Nat.mul_lt_mul'' ux uy
  by_cases h : spx b L (x * y).natAbs ≤ k
  · refine ⟨0, ?_⟩
    have : rn b L (x * y) = x * y := rn_self g.hb (Int.emod_eq_zero_of_dvd (Int.dvd_trans (Int.natCast_dvd_natCast.mpr (spc_dvd h)) hd))
    rw [this, Int.sub_self]
    refine ⟨by show 0 < L * b ^ 0; rw [Nat.pow_zero]; omega, ⟨0, by simp⟩⟩
  · have h3 := spx_low (n := (x * y).natAbs) g.hb (spx b L (x * y).natAbs - 1) L (by omega) (by omega)
    generalize hE : spx b L (x * y).natAbs = E at *
    have h4 : b ^ (E - 1) < b ^ (f + k) := by
      rw [Nat.pow_add, ← g.eL]
      have : L * b ^ (E - 1) < L * (L * b ^ k) := by rw [← Nat.mul_assoc]; omega
      exact Nat.lt_of_mul_lt_mul_left this
    have h5 : E - 1 < f + k := (Nat.pow_lt_pow_iff_right (by have := g.hb; omega)).mp h4
    have h6 : spc b L (x * y).natAbs ≤ L * b ^ k := by
      unfold spc
      rw [hE, g.eL, ← Nat.pow_add]
      exact Nat.pow_le_pow_right (by have := g.hb; omega) (by omega)
    refine ⟨k, ?_, ?_⟩
    · have : 0 < L * b ^ k := Nat.mul_pos (by omega) (Nat.pow_pos (by have := g.hb; omega))
      omega
    · refine Int.dvd_sub hd ?_
      rw [e]
      refine Int.dvd_trans (Int.natCast_dvd_natCast.mpr ?_) (Int.dvd_mul_left _ _)
      unfold spc
      rw [hE]
      exact Nat.pow_dvd_pow b (by omega)
theorem prod_row (g : Gr b f r L G) {x y : Int} (hx : OnG b L G x) (hy : OnG b L G y) :
    row b L (x * y) = if x * y = 0 then [] else if rn b L (x * y) = x * y then [x * y] else [rn b L (x * y), x * y - rn b L (x * y)] := by
  by_cases h : x * y = 0
  · rw [if_pos h, h]; rfl
  · rw [if_neg h, row_cons g h]
    by_cases h2 : rn b L (x * y) = x * y
    · rw [if_pos h2, h2, Int.sub_self]; rfl
    · rw [if_neg h2]
      obtain ⟨k, h3, h4⟩ := prod_left g hx hy
      have h5 : spx b L (x * y - rn b L (x * y)).natAbs ≤ k := spx_le g.hb (by have := g.L1; omega) h3
      have h6 : rn b L (x * y - rn b L (x * y)) = x * y - rn b L (x * y) := rn_self g.hb (Int.emod_eq_zero_of_dvd (Int.dvd_trans (Int.natCast_dvd_natCast.mpr (spc_dvd h5)) h4))
      rw [row_cons g (by omega), h6, Int.sub_self]
      rfl
theorem onG_small (g : Gr b f r L G) {n : Nat} (h : n < L) : OnG b L G (n : Int) := by
  have hp : 1 ≤ b ^ r := Nat.pow_pos (by have := g.hb; omega)
  have : L - 1 ≤ G := by rw [g.eG]; exact Nat.le_mul_of_pos_right _ hp
  exact onG_of (k := 0) g (by omega) (by rw [Nat.pow_zero]; omega) ⟨n, by simp⟩
theorem onG_rung (g : Gr b f r L G) {n k : Nat} (h : n < L) (hk : k ≤ r) : OnG b L G ((b ^ k * n : Nat) : Int) := by
  have hp : b ^ k ≤ b ^ r := Nat.pow_le_pow_right (by have := g.hb; omega) hk
  refine onG_of (k := k) g ?_ ?_ ?_
  · rw [Int.natAbs_natCast, g.eG, Nat.mul_comm]
    exact Nat.mul_le_mul (by omega) hp
  · rw [Int.natAbs_natCast, Nat.mul_comm]
    exact Nat.mul_lt_mul_of_pos_right h (Nat.pow_pos (by have := g.hb; omega))
  · exact Int.natCast_dvd_natCast.mpr (Nat.dvd_mul_right _ _)
end
end My

namespace My
section
variable {b f r L G : Nat}
theorem rn_near_mul (hb : 2 ≤ b) {w y : Int} (h : ((spc b L w.natAbs : Nat) : Int) ∣ y) : (w - rn b L w).natAbs ≤ (w - y).natAbs := by
  have hs := spcI_pos (L := L) hb w.natAbs
  obtain ⟨q, e, h1, h2⟩ := rn_cases (L := L) hb w
  obtain ⟨m, hm⟩ := h
  generalize ((spc b L w.natAbs : Nat) : Int) = s at *
  rw [hm]
  rw [e] at h1 h2 ⊢
  have hc : s * m = m * s := Int.mul_comm _ _
  rw [hc]
  by_cases hqm : m = q
  · rw [hqm]; exact Nat.le_refl _
  · have hd : (m - q) * s = m * s - q * s := Int.sub_mul _ _ _
    rcases Int.lt_or_gt_of_ne hqm with h3 | h3
    · have : (m - q) * s ≤ (-1) * s := Int.mul_le_mul_of_nonneg_right (by omega) (by omega)
      omega
    · have : 1 * s ≤ (m - q) * s := Int.mul_le_mul_of_nonneg_right (by omega) (by omega)
      omega
theorem rn_near (g : Gr b f r L G) {w x : Int} (hx : OnG b L G x) : (w - rn b L w).natAbs ≤ (w - x).natAbs := by
  have hL := g.L1
  by_cases h : spx b L w.natAbs ≤ spx b L x.natAbs
  · exact rn_near_mul g.hb (Int.dvd_trans (Int.natCast_dvd_natCast.mpr (Nat.pow_dvd_pow b h)) (Int.dvd_of_emod_eq_zero hx.2))
  · have ux := spx_up (n := x.natAbs) (L := L) g.hb (by omega)
    have lw := spx_low (n := w.natAbs) g.hb (spx b L w.natAbs - 1) L (by omega) (by omega)
    have hxB : x.natAbs < L * b ^ (spx b L w.natAbs - 1) :=
      Nat.lt_of_lt_of_le ux (Nat.mul_le_mul_left _ (Nat.pow_le_pow_right (by have := g.hb; omega) (by omega)))
    have hdB : spc b L w.natAbs ∣ L * b ^ (spx b L w.natAbs - 1) := by
      rw [g.eL, ← Nat.pow_add]
      exact Nat.pow_dvd_pow b (by have := g.hf; omega)
    generalize L * b ^ (spx b L w.natAbs - 1) = B at *
    by_cases hw : 0 ≤ w
    · have := rn_near_mul (L := L) g.hb (w := w) (y := (B : Int)) (Int.natCast_dvd_natCast.mpr hdB)
      omega
    · have := rn_near_mul (L := L) g.hb (w := w) (y := -(B : Int)) (Int.dvd_neg.mpr (Int.natCast_dvd_natCast.mpr hdB))
      omega
theorem sum_left (g : Gr b f r L G) {x y : Int} (hx : OnG b L G x) (hy : OnG b L G y) :
    OnG b L G (x + y - rn b L (x + y)) ∧ (x + y - rn b L (x + y)).natAbs ≤ x.natAbs ∧ (x + y - rn b L (x + y)).natAbs ≤ y.natAbs := by
  have hL := g.L1
  have n1 := rn_near (w := x + y) g hx
  have n2 := rn_near (w := x + y) g hy
  have e1 : x + y - x = y := by omega
  have e2 : x + y - y = x := by omega
  rw [e1] at n1
  rw [e2] at n2
  refine ⟨?_, n2, n1⟩
  have ux := spx_up (n := x.natAbs) (L := L) g.hb (by omega)
  have uy := spx_up (n := y.natAbs) (L := L) g.hb (by omega)
  have dx := Int.dvd_of_emod_eq_zero hx.2
  have dy := Int.dvd_of_emod_eq_zero hy.2
  obtain ⟨q, e, h1, h2⟩ := rn_cases (L := L) g.hb (x + y)
  have key : ∀ k, ((b ^ k : Nat) : Int) ∣ x → ((b ^ k : Nat) : Int) ∣ y → (x + y - rn b L (x + y)).natAbs < L * b ^ k → OnG b L G (x + y - rn b L (x + y)) := by
    intro k kx ky hlt
    by_cases h : spx b L (x + y).natAbs ≤ k
    · have : rn b L (x + y) = x + y := rn_self g.hb (Int.emod_eq_zero_of_dvd (Int.dvd_trans (Int.natCast_dvd_natCast.mpr (spc_dvd h)) (Int.dvd_add kx ky)))
      rw [this, Int.sub_self]
      exact onG_small (n := 0) g (by omega)
    · refine onG_of (k := k) g (Nat.le_trans n1 hy.1) hlt (Int.dvd_sub (Int.dvd_add kx ky) ?_)
      rw [e]
      exact Int.dvd_trans (Int.natCast_dvd_natCast.mpr (Nat.pow_dvd_pow b (by omega))) (Int.dvd_mul_left _ _)
  by_cases h : spx b L x.natAbs ≤ spx b L y.natAbs
  · exact key _ dx (Int.dvd_trans (Int.natCast_dvd_natCast.mpr (Nat.pow_dvd_pow b h)) dy) (Nat.lt_of_le_of_lt n2 ux)
  · exact key _ (Int.dvd_trans (Int.natCast_dvd_natCast.mpr (Nat.pow_dvd_pow b (by omega))) dx) dy (Nat.lt_of_le_of_lt n1 uy)
/-- adding up, each addition rounded -/
def psum (b L G : Nat) : Int → List Int → List Int → Option (Int × List Int)
  | t, [], acc => some (t, acc)
  | t, x :: xs, acc => if (rn b L (t + x)).natAbs ≤ G then psum b L G (rn b L (t + x)) xs (acc ++ [t + x - rn b L (t + x)]) else none
theorem psum_facts (g : Gr b f r L G) : ∀ (xs : List Int) (t : Int) (acc : List Int) (p : Int × List Int), psum b L G t xs acc = some p → OnG b L G t → (∀ x ∈ xs, OnG b L G x) → (∀ x ∈ acc, OnG b L G x) →
    OnG b L G p.1 ∧ (∀ x ∈ p.2, OnG b L G x) ∧ p.1 + p.2.sum = t + xs.sum + acc.sum ∧ p.2.length = acc.length + xs.length
  | [], t, acc, p, h, ht, _, ha => by
    cases h
    exact ⟨ht, ha, by simp, by simp⟩
  | x :: xs, t, acc, p, h, ht, hx, ha => by
    unfold psum at h
    by_cases hc : (rn b L (t + x)).natAbs ≤ G
    · rw [if_pos hc] at h
      have hx0 := hx x List.mem_cons_self
      obtain ⟨s1, _, _⟩ := sum_left g ht hx0
      have hr : OnG b L G (rn b L (t + x)) := by
        obtain ⟨q, e, h1, h2⟩ := rn_cases (L := L) g.hb (t + x)
        have hu : (t + x).natAbs < L * spc b L (t + x).natAbs := spx_up g.hb (by have := g.L1; omega)
        have hs := spc_pos (L := L) (n := (t + x).natAbs) g.hb
        refine onG_mul (k := spx b L (t + x).natAbs) (q := q) g hc ?_ e
        show _ ≤ L * spc b L (t + x).natAbs
        generalize spc b L (t + x).natAbs = S at *
        have e2 : (rn b L (t + x)).natAbs = q.natAbs * S := by rw [e, natAbs_mulI]
        have h4 : q.natAbs * S < (L + 1) * S := by
          rw [← e2, Nat.add_mul]
          omega
        have := Nat.lt_of_mul_lt_mul_right h4
        rw [e2]
        exact Nat.mul_le_mul_right S (by omega)
      have ih := psum_facts g xs _ _ p h hr (fun y hy => hx y (List.mem_cons_of_mem _ hy)) (fun y hy => by
        rcases List.mem_append.mp hy with hy | hy
        · exact ha y hy
        · rw [List.mem_singleton.mp hy]; exact s1)
      obtain ⟨i1, i2, i3, i4⟩ := ih
      refine ⟨i1, i2, ?_, ?_⟩
      · rw [i3, List.sum_append, List.sum_cons, List.sum_cons, List.sum_nil]
        omega
      · rw [i4]
        simp
        omega
    · rw [if_neg hc] at h
      cases h
theorem onG_two (g : Gr b f r L G) {d : Int} (h0 : 0 ≤ d) (h2 : d < 3) (hG : d.natAbs ≤ G) : OnG b L G d := by
  by_cases h : d.natAbs < L
  · have := onG_small (n := d.natAbs) g h
    have e : ((d.natAbs : Nat) : Int) = d := by omega
    rwa [e] at this
  · have hL := g.L1
    have hd : d = 2 := by omega
    have hL2 : L = 2 := by omega
    subst hd
    have hb2 : b = 2 := by
      have h1 : b ^ 1 ≤ b ^ f := Nat.pow_le_pow_right (by have := g.hb; omega) g.hf
      rw [← g.eL, Nat.pow_one] at h1
      have := g.hb
      omega
    have hr : 1 ≤ r := by
      refine Nat.one_le_iff_ne_zero.mpr fun z => ?_
      have := g.eG
      rw [z, hL2, Nat.pow_zero] at this
      have h3 : (2 : Int).natAbs = 2 := rfl
      omega
    have := onG_rung (n := 1) (k := 1) g (by omega) hr
    rw [hb2] at this ⊢
    exact this
theorem onG_top (g : Gr b f r L G) : OnG b L G (G : Int) := by
  have := onG_rung (n := L - 1) (k := r) g (by have := g.L1; omega) (Nat.le_refl _)
  have e : b ^ r * (L - 1) = G := by rw [g.eG, Nat.mul_comm]
  rwa [e] at this
end
end My

namespace My
section
variable {b f r L G : Nat}
theorem rn_onG2 (g : Gr b f r L G) {t : Int} (h : (rn b L t).natAbs ≤ G) : OnG b L G (rn b L t) := by
  obtain ⟨q, e, h1, h2⟩ := rn_cases (L := L) g.hb t
  have hu : t.natAbs < L * spc b L t.natAbs := spx_up g.hb (by have := g.L1; omega)
  have hs := spc_pos (L := L) (n := t.natAbs) g.hb
  refine onG_mul (k := spx b L t.natAbs) (q := q) g h ?_ e
  show _ ≤ L * spc b L t.natAbs
  generalize spc b L t.natAbs = S at *
  have e2 : (rn b L t).natAbs = q.natAbs * S := by rw [e, natAbs_mulI]
  have h4 : q.natAbs * S < (L + 1) * S := by
    rw [← e2, Nat.add_mul]
    omega
  have := Nat.lt_of_mul_lt_mul_right h4
  rw [e2]
  exact Nat.mul_le_mul_right S (by omega)
theorem rn_mono (g : Gr b f r L G) {x y : Int} (hx : (rn b L x).natAbs ≤ G) (hy : (rn b L y).natAbs ≤ G) (h : x ≤ y) : rn b L x ≤ rn b L y := by
  by_cases e : x = y
  · subst e; exact Int.le_refl _
  · have n1 := rn_near (w := x) g (rn_onG2 g hy)
    have n2 := rn_near (w := y) g (rn_onG2 g hx)
    omega
/-- the sign -/
def sgn (t : Int) : Int := if t < 0 then -1 else if 0 < t then 1 else 0
theorem sgn_neg (t : Int) : sgn (-t) = -sgn t := by
  unfold sgn
  split <;> split <;> (try split) <;> omega
theorem sgn_cases (t : Int) : -1 ≤ sgn t ∧ sgn t ≤ 1 := by
  unfold sgn
  split <;> (try split) <;> omega
theorem sgn_cross (g : Gr b f r L G) {x y : Int} (hx : (rn b L x).natAbs ≤ G) (hy : (rn b L y).natAbs ≤ G) : sgn (rn b L x - rn b L y) = 0 ∨ sgn (rn b L x - rn b L y) = sgn (x - y) := by
  rcases Int.lt_trichotomy x y with h | h | h
  · have := rn_mono g hx hy (by omega)
    unfold sgn
    (repeat' split) <;> omega
  · subst h
    rw [Int.sub_self, Int.sub_self]
    exact .inr rfl
  · have := rn_mono g hy hx (by omega)
    unfold sgn
    (repeat' split) <;> omega
theorem rn_sgn (g : Gr b f r L G) (t : Int) : sgn (rn b L t) = sgn t := by
  have := rn_half g (t := t)
  unfold sgn
  (repeat' split) <;> omega
theorem rn_zero (hb : 2 ≤ b) : rn b L 0 = 0 := rn_self hb (by simp)
theorem rn_spx (g : Gr b f r L G) (t : Int) : spx b L t.natAbs ≤ spx b L (rn b L t).natAbs := by
  have hL := g.L1
  refine Nat.le_of_not_lt fun hlt => ?_
  have he : 0 < spx b L t.natAbs := by omega
  have lw := spx_low (n := t.natAbs) g.hb (spx b L t.natAbs - 1) L (by omega) (by omega)
  have up := spx_up (n := (rn b L t).natAbs) (L := L) g.hb (by omega)
  have hle : L * b ^ spx b L (rn b L t).natAbs ≤ L * b ^ (spx b L t.natAbs - 1) := Nat.mul_le_mul_left _ (Nat.pow_le_pow_right (by have := g.hb; omega) (by omega))
  have hd : spc b L t.natAbs ∣ L * b ^ (spx b L t.natAbs - 1) := by
    rw [g.eL, ← Nat.pow_add]
    exact Nat.pow_dvd_pow b (by have := g.hf; omega)
  generalize L * b ^ (spx b L t.natAbs - 1) = B at *
  have hh := rn_half g (t := t)
  by_cases ht : 0 ≤ t
  · have := rn_near_mul (L := L) g.hb (w := t) (y := (B : Int)) (Int.natCast_dvd_natCast.mpr hd)
    omega
  · have := rn_near_mul (L := L) g.hb (w := t) (y := -(B : Int)) (Int.dvd_neg.mpr (Int.natCast_dvd_natCast.mpr hd))
    omega
theorem rn_spc (g : Gr b f r L G) (t : Int) : spc b L t.natAbs ≤ spc b L (rn b L t).natAbs := Nat.pow_le_pow_right (by have := g.hb; omega) (rn_spx g t)
theorem pow_odd {b n : Nat} (h : b ^ n % 2 = 1) (hn : 0 < n) : b % 2 = 1 := by
  rcases Nat.mod_two_eq_zero_or_one b with h0 | h1
  · rw [Nat.pow_mod, h0, Nat.zero_pow hn] at h
    simp at h
  · exact h1
theorem odd_pow {b n : Nat} (h : b % 2 = 1) : b ^ n % 2 = 1 := by
  rw [Nat.pow_mod, h, Nat.one_pow]
theorem rn_fits (g : Gr b f r L G) {e : Nat} {t : Int} (h : 2 * t.natAbs ≤ b ^ e) : 2 * (rn b L t).natAbs ≤ b ^ e := by
  by_cases h0 : t = 0
  · rw [h0, rn_zero g.hb]; simp
  have hb := g.hb
  have hL := g.L1
  have he : 0 < e := by
    refine Nat.pos_of_ne_zero fun z => ?_
    rw [z, Nat.pow_zero] at h
    omega
  have hbL : b ≤ L := by
    have h1 : b ^ 1 ≤ b ^ f := Nat.pow_le_pow_right (by omega) g.hf
    rw [Nat.pow_one, ← g.eL] at h1
    exact h1
  have hk : spx b L t.natAbs ≤ e - 1 := by
    refine spx_le hb (by omega) ?_
    have h1 : b * b ^ (e - 1) ≤ L * b ^ (e - 1) := Nat.mul_le_mul_right _ hbL
    have h2 : b ^ e = b * b ^ (e - 1) := by
      rw [Nat.mul_comm, ← Nat.pow_succ]
      congr 1
      omega
    omega
  obtain ⟨q, eq, h1, h2⟩ := rn_cases (L := L) hb t
  have hs := spc_pos (L := L) (n := t.natAbs) hb
  have hc : b ^ e = b ^ (e - spx b L t.natAbs) * spc b L t.natAbs := by
    unfold spc
    rw [← Nat.pow_add]
    congr 1
    omega
  have e2 : (rn b L t).natAbs = q.natAbs * spc b L t.natAbs := by rw [eq, natAbs_mulI]
  refine Nat.le_of_not_lt fun hlt => ?_
  have hodd := @pow_odd b (e - spx b L t.natAbs)
  have hod2 := @odd_pow b e
  generalize spc b L t.natAbs = S at *
  generalize hcd : b ^ (e - spx b L t.natAbs) = c at *
  rw [e2, hc] at hlt
  have hlt' : c * S < 2 * q.natAbs * S := by rw [Nat.mul_assoc]; exact hlt
  have h3 := Nat.lt_of_mul_lt_mul_right hlt'
  have h4 : (c + 1) * S ≤ 2 * q.natAbs * S := Nat.mul_le_mul_right _ h3
  rw [Nat.add_mul, Nat.one_mul, Nat.mul_assoc, ← e2] at h4
  have h5 : 2 * (rn b L t).natAbs = (c + 1) * S := by
    rw [Nat.add_mul, Nat.one_mul]
    omega
  have h6 : 2 * t.natAbs = b ^ e := by
    rw [Nat.add_mul, Nat.one_mul] at h5
    omega
  have h7 : 2 * q.natAbs = c + 1 := by
    rw [e2, ← Nat.mul_assoc] at h5
    exact Nat.mul_right_cancel hs h5
  have h8 := hod2 (hodd (by omega) (by omega))
  omega
theorem rn_next (g : Gr b f r L G) (t : Int) : 2 * (rn b L (t - rn b L t)).natAbs ≤ spc b L (rn b L t).natAbs := by
  obtain ⟨q, e, h1, h2⟩ := rn_cases (L := L) g.hb t
  have h3 : 2 * (t - rn b L t).natAbs ≤ b ^ spx b L t.natAbs := by
    show _ ≤ spc b L t.natAbs
    omega
  exact Nat.le_trans (rn_fits g h3) (rn_spc g t)
theorem row_next (g : Gr b f r L G) (t : Int) : ∀ (i : Nat) (x y : Int), (row b L t)[i]? = some x → (row b L t)[i + 1]? = some y → y ≠ 0 ∧ 2 * y.natAbs ≤ spc b L x.natAbs := by
  refine row_ind g (P := fun t => ∀ (i : Nat) (x y : Int), (row b L t)[i]? = some x → (row b L t)[i + 1]? = some y → y ≠ 0 ∧ 2 * y.natAbs ≤ spc b L x.natAbs) (fun i x y h _ => by cases h) (fun t h ih i x y hx hy => ?_) t
  rw [row_cons g h] at hx hy
  cases i with
  | succ i => exact ih i x y hx hy
  | zero =>
    cases hx
    have hy : (row b L (t - rn b L t))[0]? = some y := hy
    by_cases h0 : t - rn b L t = 0
    · rw [h0] at hy
      cases hy
    · rw [row_cons g h0] at hy
      cases hy
      refine ⟨?_, rn_next g t⟩
      have := rn_half g (t := t - rn b L t)
      omega
theorem row_empty (g : Gr b f r L G) {t : Int} : row b L t = [] ↔ t = 0 := by
  constructor
  · intro h
    by_cases h0 : t = 0
    · exact h0
    · rw [row_cons g h0] at h
      cases h
  · intro h
    rw [h]; rfl
/-! ranks -/
def rk (b L n : Nat) : Nat := n / spc b L n + spx b L n * (L - L / b)
theorem div_b (g : Gr b f r L G) : 1 ≤ L / b ∧ L / b < L := by
  have hb := g.hb
  have h1 : b ^ 1 ≤ b ^ f := Nat.pow_le_pow_right (by omega) g.hf
  rw [Nat.pow_one, ← g.eL] at h1
  exact ⟨(Nat.one_le_div_iff (by omega)).mpr h1, Nat.div_lt_self (by omega) (by omega)⟩
theorem spx_top (g : Gr b f r L G) : spx b L G = r := by
  have hL := g.L1
  have h1 : spx b L G ≤ r := spx_le g.hb (by omega) g.Gl
  refine Nat.le_antisymm h1 (Nat.le_of_not_lt fun hlt => ?_)
  have up := spx_up (n := G) (L := L) g.hb (by omega)
  have hle : L * b ^ spx b L G ≤ L * b ^ (r - 1) := Nat.mul_le_mul_left _ (Nat.pow_le_pow_right (by have := g.hb; omega) (by omega))
  have h2 : b ^ r = b * b ^ (r - 1) := by
    rw [Nat.mul_comm, ← Nat.pow_succ]
    congr 1
    omega
  have h3 : L ≤ (L - 1) * b := by
    have : (L - 1) * 2 ≤ (L - 1) * b := Nat.mul_le_mul_left _ g.hb
    omega
  have h4 : L * b ^ (r - 1) ≤ (L - 1) * b * b ^ (r - 1) := Nat.mul_le_mul_right _ h3
  rw [Nat.mul_assoc, ← h2, ← g.eG] at h4
  omega
theorem rk_top (g : Gr b f r L G) : rk b L G = (L - 1) + r * (L - L / b) := by
  unfold rk spc
  rw [spx_top g]
  congr 1
  rw [g.eG]
  exact Nat.mul_div_cancel _ (Nat.pow_pos (by have := g.hb; omega))
theorem rk_lt (g : Gr b f r L G) {n : Nat} (h : n < G) : rk b L n < rk b L G := by
  have hL := g.L1
  have hp := spc_pos (L := L) (n := n) g.hb
  have hr : spx b L n ≤ r := spx_le g.hb (by omega) (Nat.lt_trans h g.Gl)
  obtain ⟨d1, d2⟩ := div_b g
  have hm : n / spc b L n < L := (Nat.div_lt_iff_lt_mul hp).mpr (spx_up g.hb (by omega))
  rw [rk_top g]
  unfold rk
  by_cases he : spx b L n = r
  · have : n / spc b L n < L - 1 := by
      refine (Nat.div_lt_iff_lt_mul hp).mpr ?_
      unfold spc
      rw [he, ← g.eG]
      exact h
    rw [he]
    omega
  · have : (spx b L n + 1) * (L - L / b) ≤ r * (L - L / b) := Nat.mul_le_mul_right _ (by omega)
    rw [Nat.add_mul] at this
    omega
theorem rk_le (g : Gr b f r L G) {n : Nat} (h : n ≤ G) : rk b L n ≤ rk b L G := by
  by_cases e : n = G
  · rw [e]; exact Nat.le_refl _
  · exact Nat.le_of_lt (rk_lt g (by omega))
theorem rk_pos (g : Gr b f r L G) : 1 ≤ rk b L G := by
  rw [rk_top g]
  have := g.L1
  omega
theorem rk_sz (g : Gr b f r L G) {n : Nat} (h : n ≤ G) : rk b L n ≤ L + r * L := by
  have h1 := rk_le g h
  rw [rk_top g] at h1
  have : r * (L - L / b) ≤ r * L := Nat.mul_le_mul_left _ (Nat.sub_le _ _)
  omega
def lev (b L k : Nat) : Nat := (k - L / b) / (L - L / b)
theorem lev_facts (g : Gr b f r L G) {k : Nat} (h : k ≤ rk b L G) : lev b L k ≤ r ∧ lev b L k * (L - L / b) ≤ k ∧ k - lev b L k * (L - L / b) < L := by
  obtain ⟨d1, d2⟩ := div_b g
  rw [rk_top g] at h
  unfold lev
  generalize L / b = q at *
  have hs : 0 < L - q := by omega
  have hm := Nat.div_add_mod (k - q) (L - q)
  have hl := Nat.mod_lt (k - q) hs
  rw [Nat.mul_comm] at hm
  refine ⟨?_, by omega, by omega⟩
  have : (k - q) / (L - q) * (L - q) < (r + 1) * (L - q) := by
    rw [Nat.add_mul]
    omega
  have := Nat.lt_of_mul_lt_mul_right this
  omega
theorem num_onG (g : Gr b f r L G) {k : Nat} (h : k ≤ rk b L G) : OnG b L G (((k - lev b L k * (L - L / b)) * b ^ lev b L k : Nat) : Int) := by
  obtain ⟨h1, h2, h3⟩ := lev_facts g h
  rw [Nat.mul_comm]
  exact onG_rung g h3 h1
end
end My

set_option Elab.async false
set_option maxRecDepth 100000
set_option maxHeartbeats 1000000
namespace My
open PySem L2 Evl
/-! ### data -/
theorem pw400 {b i : Nat} (hb : b ≤ 10) (hi : i ≤ 100) : b ^ i < 2 ^ 400 := by
  have h1 : b ^ i ≤ 10 ^ i := Nat.pow_le_pow_left hb i
  have h2 : 10 ^ i ≤ 10 ^ 100 := Nat.pow_le_pow_right (by decide) hi
  have h3 : 10 ^ 100 < 2 ^ 400 := by decide +kernel
  omega
theorem wm {i j : Int} (ha : i.natAbs < 2 ^ 5000) (hb : j.natAbs < 2 ^ 5000) : CMulW i j := wide_mul ha hb (by decide) (by decide) (by decide)
theorem wd {i j : Int} (h : 0 < j) (hb : j.natAbs < 2 ^ 5000) : CDivW i j := wide_div h hb (by decide) (by decide)
theorem p5000 {n k : Nat} (h : n < 2 ^ k) (hk : k ≤ 5000 := by decide) : n < 2 ^ 5000 := Nat.lt_of_lt_of_le h (Nat.pow_le_pow_right (by decide) hk)
def gfl (b f r p u : Int) (lim tops : Addr) (G : Int) : List (Str × V) :=
  putF "greatest" (.int G) (putF "tops" (.ref tops) (putF "limits" (.ref lim) (putF "unit" (.int u) (putF "places" (.int p) (putF "reach" (.int r) (putF "figures" (.int f) (putF "base" (.int b) [])))))))
section
variable {b f r p u G : Int} {lim tops : Addr}
theorem gfl_base : (gfl b f r p u lim tops G).lookup ("base" : Str) = some (.int b) := by
  unfold gfl
  repeat (first | rw [lookup_putF, if_pos (by decide +kernel)] | rw [lookup_putF, if_neg (by decide +kernel)])
theorem gfl_limits : (gfl b f r p u lim tops G).lookup ("limits" : Str) = some (.ref lim) := by
  unfold gfl
  repeat (first | rw [lookup_putF, if_pos (by decide +kernel)] | rw [lookup_putF, if_neg (by decide +kernel)])
theorem gfl_tops : (gfl b f r p u lim tops G).lookup ("tops" : Str) = some (.ref tops) := by
  unfold gfl
  repeat (first | rw [lookup_putF, if_pos (by decide +kernel)] | rw [lookup_putF, if_neg (by decide +kernel)])
theorem gfl_greatest : (gfl b f r p u lim tops G).lookup ("greatest" : Str) = some (.int G) := by
  unfold gfl
  rw [lookup_putF, if_pos (by decide +kernel)]
end
/-- a Grid stands at g -/
structure GridAt (a : Ad) (H : Hp) (g : Addr) (b f r L G : Nat) : Prop where
  gr : Gr b f r L G
  ub : b ≤ 10
  uf : f ≤ 30
  ur : r ≤ 60
  ob : ∃ (dx lim tops : Addr) (p u : Int) (xs ys : List V), H g = some (.ins a.Grid dx (gfl b f r p u lim tops G)) ∧ H lim = some (.tup xs) ∧ H tops = some (.tup ys) ∧
    (∀ m : Nat, m ≤ 3 → xs[m]? = some (.int ((b ^ (f + m) : Nat) : Int))) ∧ (∀ m : Nat, m ≤ 3 → ys[m]? = some (.int (((b ^ (f + m) - 1) * b ^ r : Nat) : Int)))
theorem GridAt.mono {a : Ad} {H H' : Hp} {g : Addr} {b f r L G : Nat} (e : Ex H H') (h : GridAt a H g b f r L G) : GridAt a H' g b f r L G := by
  obtain ⟨h1, h2, h3, h4, dx, lim, tops, p, u, xs, ys, h5, h6, h7, h8⟩ := h
  exact ⟨h1, h2, h3, h4, dx, lim, tops, p, u, xs, ys, e _ _ h5, e _ _ h6, e _ _ h7, h8⟩
theorem GridAt.bG {a : Ad} {H : Hp} {g : Addr} {b f r L G : Nat} (h : GridAt a H g b f r L G) : G < 2 ^ 400 := by
  have h1 := h.gr.Gl
  rw [h.gr.eL, ← Nat.pow_add] at h1
  exact Nat.lt_trans h1 (pw400 h.ub (by have := h.uf; have := h.ur; omega))
theorem atN {xs : List V} {m : Nat} {v : V} (h : xs[m]? = some v) : atI xs ((m : Nat) : Int) = some v := at_of rfl h

/-! ### promises of the program's defs -/
def sp_is_whole : Sp := fun vs H Q _ => ∃ n : Int, vs = [.int n] ∧ ∀ H', Ex H H' → Q (.bl true) H'
def sp_is_from_to : Sp := fun vs H Q _ => ∃ v lo hi : Int, vs = [.int v, .int lo, .int hi] ∧ ∀ H', Ex H H' → Q (.bl (decide (lo ≤ v) && decide (v ≤ hi))) H'
def sp_power : Sp := fun vs H Q _ => ∃ b e : Nat, vs = [.int b, .int e] ∧ b ≤ 10 ∧ e ≤ 100 ∧ ∀ H', Ex H H' → Q (.int ((b ^ e : Nat) : Int)) H'
def sp_is_grid (K : PySem.W.Frag) : Sp := fun vs H Q _ => ∃ (t : Addr) (b f r p : Nat), vs = [.ref t] ∧ SqT K H t [.int b, .int f, .int r, .int p] ∧ (2 ≤ b ∧ b ≤ 10 ∧ 1 ≤ f ∧ f ≤ 30 ∧ r ≤ 60 ∧ p ≤ 30) ∧ ∀ H', Ex H H' → Q (.bl true) H'
def sp_spacing_at (a : Ad) : Sp := fun vs H Q _ => ∃ (g : Addr) (b f r L G n m : Nat), vs = [.ref g, .int n, .int m] ∧ GridAt a H g b f r L G ∧ m ≤ 3 ∧ n < 2 ^ 4000 ∧ ∀ H', Ex H H' → Q (.int (spc b (b ^ (f + m)) n : Nat)) H'
def sp_goes_up : Sp := fun vs H Q _ => ∃ q m s : Int, vs = [.int q, .int m, .int s, .str "near"] ∧ m.natAbs < 2 ^ 4500 ∧ ∀ H', Ex H H' → Q (.bl (decide (s < m * 2) || (decide (m * 2 = s) && decide (q % 2 = 1)))) H'
def rnO (b L G : Nat) (t : Int) : V := if (rn b L t).natAbs ≤ G then .int (rn b L t) else .non
def sp_fitted (a : Ad) : Sp := fun vs H Q _ => ∃ (g : Addr) (b f r L G : Nat) (t : Int), vs = [.ref g, .int t, .int 1, .str "near", .int 0] ∧ GridAt a H g b f r L G ∧ t.natAbs < 2 ^ 4000 ∧ ∀ H', Ex H H' → Q (rnO b L G t) H'
def sp_contains (a : Ad) : Sp := fun vs H Q _ => ∃ (g : Addr) (b f r L G : Nat) (n : Int), vs = [.ref g, .int n] ∧ GridAt a H g b f r L G ∧ OnG b L G n ∧ ∀ H', Ex H H' → Q (.bl true) H'

section
variable {P : Program} {w : World} {K : PySem.W.Frag} {mg : Str → Option Value} {base : Heap} {a : Ad}
theorem ok_is_whole (T : Txt K mg a) : FnOk P w K mg base CX0 1 a.is_whole a.is_whole_fd ["value"] sp_is_whole := by
  refine T.F_is_whole.ok sc_is_whole (fun vs H Q E h => ?_) (fun cdv A outer s H vs Q E hr h => ?_)
  · obtain ⟨n, rfl, _⟩ := h
    rfl
  · obtain ⟨n, rfl, k⟩ := h
    refine ⟨_, (pss_one (ps_ret (pe_and (pe_callB call_isi (by rfl) T.n_isinstance (by decide +kernel) (pa_cons (pv 0) (pa_cons (pe_bltn (v := .ty "int") (u := .type "int") rfl T.n_int (by decide +kernel) rfl) pa_nil))) (pe_one (pe_not (pe_callB call_isi (by rfl) T.n_isinstance (by decide +kernel) (pa_cons (pv 0) (pa_cons (pe_bltn (v := .ty "bool") (u := .type "bool") rfl T.n_bool (by decide +kernel) rfl) pa_nil)))))))), ?_⟩
    refine ⟨_, rfl, _, _, _, _, true, rfl, .ty _, .base (.int n), kit_ty (by decide +kernel), true, rfl, iteT ?_⟩
    refine ⟨_, rfl, _, _, _, _, false, rfl, .ty _, .base (.int n), kit_ty (by decide +kernel), false, rfl, ?_⟩
    exact k H (Ex.refl H)
theorem ok_is_from_to (T : Txt K mg a) : FnOk P w K mg base CX0 2 a.is_from_to a.is_from_to_fd ["value", "low", "high"] sp_is_from_to := by
  refine T.F_is_from_to.ok sc_is_from_to (fun vs H Q E h => ?_) (fun cdv A outer s H vs Q E hr h => ?_)
  · obtain ⟨v, lo, hi, rfl, _⟩ := h
    rfl
  · obtain ⟨v, lo, hi, rfl, k⟩ := h
    refine ⟨_, (pss_one (ps_ret (pe_and (pe_call (ok_is_whole T) (hr.mono (by decide)) rfl T.g_is_whole T.k_is_whole T.B_is_whole .nil pass0 (pa_cons (pv 0) pa_nil)) (pe_one (pe_chain op_le op_le (pv 1) (pv 0) (pv 2)))))), ?_⟩
    refine ⟨_, rfl, v, rfl, fun H' e => ⟨true, rfl, iteT ?_⟩⟩
    refine ⟨_, rfl, _, rfl, _, _, rfl, rfl, _, rfl, ?_⟩
    by_cases h : lo ≤ v
    · rw [if_pos (decide_eq_true h)]
      refine ⟨_, rfl, _, _, rfl, rfl, ?_⟩
      have := k H' e
      rw [decide_eq_true h, Bool.true_and] at this
      exact this
    · rw [if_neg (by simpa using h)]
      have := k H' e
      rw [decide_eq_false h, Bool.false_and] at this
      exact this
theorem ok_power (T : Txt K mg a) : FnOk P w K mg base CX0 1 a.power a.power_fd ["base", "exponent"] sp_power := by
  refine T.F_power.ok sc_power (fun vs H Q E h => ?_) (fun cdv A outer s H vs Q E hr h => ?_)
  · obtain ⟨b, e, rfl, _⟩ := h
    rfl
  · obtain ⟨b, n, rfl, hb, hn, k⟩ := h
    refine ⟨_, (pss_cons (ps_set (i := 2) sc_power.nd rfl (Or.inl rfl) pe_int)
      (pss_cons (ps_for PassesOwn.never rfl (pi_range1 rfl T.n_range (pa_cons (pv 1) pa_nil)) (pg_name (i := 3) sc_power.nd rfl (Or.inl rfl)) (pss_one (ps_set (i := 2) sc_power.nd rfl (Or.inl rfl) (pe_op op_mulW (pv 2) (pv 0)))))
      (pss_one (ps_ret (pv 2))))), ?_⟩
    refine ⟨_, rfl, _, rfl, by omega, by omega, for_range (lo := 0) (n := n) (fun i σ H' => H' = H ∧ ∃ v, σ = [some (.int b), some (.int n), some (.int ((b ^ i : Nat) : Int)), v]) ⟨rfl, none, rfl⟩ ?_ ?_⟩
    · rintro i σ H' hi ⟨rfl, v, rfl⟩
      refine ⟨_, rfl, _, rfl, _, _, rfl, rfl, wm (p5000 (pw400 hb (by omega))) (p5000 (k := 400) (by rw [Int.natAbs_natCast]; exact Nat.lt_of_le_of_lt hb (by decide +kernel))), rfl, some (.int (0 + (i : Int))), ?_⟩
      show [_, _, some (V.int (((b ^ i : Nat) : Int) * (b : Int))), _] = _
      rw [Nat.pow_succ, Int.natCast_mul]
    · rintro σ H' ⟨rfl, v, rfl⟩
      exact ⟨_, rfl, k _ (Ex.refl _)⟩
theorem ok_is_grid (T : Txt K mg a) : FnOk P w K mg base CX0 3 a.is_grid a.is_grid_fd ["told"] (sp_is_grid K) := by
  refine T.F_is_grid.ok sc_is_grid (fun vs H Q E h => ?_) (fun cdv A outer s H vs Q E hr h => ?_)
  · obtain ⟨t, b, f, r, p, rfl, _⟩ := h
    rfl
  · obtain ⟨t, b, f, r, p, rfl, ht, ⟨h1, h2, h3, h4, h5, h6⟩, k⟩ := h
    refine ⟨_, (pss_cons (ps_asg (pv 0) (pg_tup rfl (pgs_cons (pg_name (i := 1) sc_is_grid.nd rfl (Or.inl rfl)) (pgs_cons (pg_name (i := 2) sc_is_grid.nd rfl (Or.inl rfl)) (pgs_cons (pg_name (i := 3) sc_is_grid.nd rfl (Or.inl rfl)) (pgs_cons (pg_name (i := 4) sc_is_grid.nd rfl (Or.inl rfl)) pgs_nil))))))
      (pss_one (ps_ret (pe_and (pe_call (ok_is_from_to T) (hr.mono (by decide)) rfl T.g_is_from_to T.k_is_from_to T.B_is_from_to .nil pass0 (pa_cons (pv 1) (pa_cons pe_int (pa_cons pe_int pa_nil)))) (pe_and (pe_call (ok_is_from_to T) (hr.mono (by decide)) rfl T.g_is_from_to T.k_is_from_to T.B_is_from_to .nil pass0 (pa_cons (pv 2) (pa_cons pe_int (pa_cons (pe_glob (v := .int 30) rfl T.c_MOST_FIGURES.choose_spec ⟨_, rfl⟩) pa_nil)))) (pe_and (pe_call (ok_is_from_to T) (hr.mono (by decide)) rfl T.g_is_from_to T.k_is_from_to T.B_is_from_to .nil pass0 (pa_cons (pv 3) (pa_cons pe_int (pa_cons pe_int pa_nil)))) (pe_one (pe_call (ok_is_from_to T) (hr.mono (by decide)) rfl T.g_is_from_to T.k_is_from_to T.B_is_from_to .nil pass0 (pa_cons (pv 4) (pa_cons pe_int (pa_cons pe_int pa_nil))))))))))), ?_⟩
    refine ⟨_, rfl, t, _, rfl, ht, rfl, _, _, rfl, _, _, rfl, _, _, rfl, _, _, rfl, rfl, ?_⟩
    refine ⟨_, rfl, (b : Int), 2, 10, rfl, fun H1 e1 => ⟨true, ?_, iteT ?_⟩⟩
    · show V.bl (decide ((2 : Int) ≤ b) && decide ((b : Int) ≤ 10)) = _
      rw [decide_eq_true (by omega), decide_eq_true (by omega)]
      rfl
    refine ⟨_, rfl, (f : Int), 1, 30, rfl, fun H2 e2 => ⟨true, ?_, iteT ?_⟩⟩
    · show V.bl (decide ((1 : Int) ≤ f) && decide ((f : Int) ≤ 30)) = _
      rw [decide_eq_true (by omega), decide_eq_true (by omega)]
      rfl
    refine ⟨_, rfl, (r : Int), 0, 60, rfl, fun H3 e3 => ⟨true, ?_, iteT ?_⟩⟩
    · show V.bl (decide ((0 : Int) ≤ r) && decide ((r : Int) ≤ 60)) = _
      rw [decide_eq_true (by omega), decide_eq_true (by omega)]
      rfl
    refine ⟨_, rfl, (p : Int), 0, 30, rfl, fun H4 e4 => ?_⟩
    rw [decide_eq_true (by omega), decide_eq_true (by omega)]
    exact k H4 (((e1.trans e2).trans e3).trans e4)
theorem ok_spacing_at (T : Txt K mg a) : FnOk P w K mg base CX0 1 a.spacing_at a.spacing_at_fd ["grid", "size", "more"] (sp_spacing_at a) := by
  refine T.F_spacing_at.ok sc_spacing_at (fun vs H Q E h => ?_) (fun cdv A outer s H vs Q E hr h => ?_)
  · obtain ⟨g, b, f, r, L, G, n, m, rfl, _⟩ := h
    rfl
  · obtain ⟨g, b, f, r, L, G, n, m, rfl, hg, hm, hn, k⟩ := h
    refine ⟨_, (pss_cons (ps_set (i := 3) sc_spacing_at.nd rfl (Or.inl rfl) pe_int)
      (pss_cons (ps_set (i := 4) sc_spacing_at.nd rfl (Or.inl rfl) (pe_ix ix_tup (pe_fld (pv 0) rfl) (pv 2) (fun _ _ => rfl)))
      (pss_cons (ps_while PassesOwn.never (pt_cmpR op_ge (pv 1) (pv 4) (nomark _)) (pss_cons (ps_set (i := 4) sc_spacing_at.nd rfl (Or.inl rfl) (pe_op op_mulW (pv 4) (pe_fld (pv 0) rfl)))
      (pss_one (ps_set (i := 3) sc_spacing_at.nd rfl (Or.inl rfl) (pe_op op_mulW (pv 3) (pe_fld (pv 0) rfl))))))
      (pss_one (ps_ret (pv 3)))))), ?_⟩
    have hb := hg.gr.hb
    have ub := hg.ub
    have uf := hg.uf
    obtain ⟨dx, lim, tops, p, u, xs, ys, o1, o2, o3, o4, o5⟩ := hg.ob
    refine ⟨_, rfl, g, _, dx, _, _, rfl, o1, T.cl_Grid, T.f_Grid_limits, gfl_limits, _, rfl, lim, xs, _, _, rfl, rfl, SqT.of o2, atN (o4 m hm), ?_⟩
    have hM : 1 ≤ b ^ (f + m) := Nat.pow_pos (by omega)
    have hMl : b ^ (f + m) < 2 ^ 400 := pw400 ub (by omega)
    generalize hMe : b ^ (f + m) = M at *
    refine ⟨fun c σ H' => ∃ k : Nat, H' = H ∧ c = spx b (M * b ^ k) n ∧ spx b M n = k + spx b (M * b ^ k) n ∧ M * b ^ k < 2 ^ 4010 ∧ σ = [some (.ref g), some (.int n), some (.int m), some (.int ((b ^ k : Nat) : Int)), some (.int ((M * b ^ k : Nat) : Int))],
      ⟨_, 0, rfl, rfl, by rw [Nat.pow_zero, Nat.mul_one]; omega, by rw [Nat.pow_zero, Nat.mul_one]; exact Nat.lt_trans hMl (by decide +kernel), by rw [Nat.pow_zero, Nat.mul_one]; rfl⟩, ?_⟩
    rintro c σ H' ⟨k', rfl, rfl, h1, h2, rfl⟩
    have hbk : b ^ k' < 2 ^ 4010 := Nat.lt_of_le_of_lt (Nat.le_mul_of_pos_left _ hM) h2
    refine ⟨_, rfl, _, rfl, _, _, rfl, rfl, _, rfl, ?_⟩
    refine ite2 (fun hc => ?_) (fun hc => ?_)
    · have hc := Int.ofNat_le.mp (of_decide_eq_true hc)
      refine ⟨fun σ' H2 => H2 = H' ∧ σ' = [some (.ref g), some (.int n), some (.int m), some (.int ((b ^ (k' + 1) : Nat) : Int)), some (.int ((M * b ^ (k' + 1) : Nat) : Int))], ?_, ?_⟩
      · rintro σ' H2 ⟨rfl, rfl⟩
        have hpos : 1 ≤ M * b ^ k' := Nat.mul_pos hM (Nat.pow_pos (by omega))
        have hstep : spx b (M * b ^ k') n = 1 + spx b (M * b ^ (k' + 1)) n := by
          rw [Nat.pow_succ, ← Nat.mul_assoc]
          exact spx_ge hb hpos hc
        refine ⟨_, ?_, k' + 1, rfl, rfl, by omega, ?_, rfl⟩
        · omega
        · rw [Nat.pow_succ, ← Nat.mul_assoc]
          have : M * b ^ k' * b ≤ n * 10 := Nat.mul_le_mul hc ub
          have h10 : 2 ^ 4000 * 10 ≤ 2 ^ 4010 := by decide +kernel
          omega
      · refine ⟨_, rfl, _, rfl, g, _, dx, _, _, rfl, o1, T.cl_Grid, T.f_Grid_base, gfl_base, _, _, rfl, rfl, wm (p5000 h2) (p5000 (k := 400) (by rw [Int.natAbs_natCast]; exact Nat.lt_of_le_of_lt ub (by decide +kernel))), ?_⟩
        refine ⟨_, rfl, _, rfl, g, _, dx, _, _, rfl, o1, T.cl_Grid, T.f_Grid_base, gfl_base, _, _, rfl, rfl, wm (p5000 hbk) (p5000 (k := 400) (by rw [Int.natAbs_natCast]; exact Nat.lt_of_le_of_lt ub (by decide +kernel))), rfl, ?_⟩
        show [_, _, _, some (V.int (((b ^ k' : Nat) : Int) * (b : Int))), some (V.int (((M * b ^ k' : Nat) : Int) * (b : Int)))] = _
        rw [Nat.pow_succ, ← Nat.mul_assoc, Int.natCast_mul (M * b ^ k') b, Int.natCast_mul (b ^ k') b]
    · have hc : ¬ ((M * b ^ k' : Nat) : Int) ≤ (n : Int) := fun z => hc (decide_eq_true z)
      refine ⟨_, rfl, ?_⟩
      have h0 : spx b (M * b ^ k') n = 0 := spx_lt (by omega)
      have : spc b M n = b ^ k' := by
        unfold spc
        rw [h1, h0, Nat.add_zero]
      rw [← this]
      exact k _ (Ex.refl _)
theorem ok_goes_up (T : Txt K mg a) : FnOk P w K mg base CX0 1 a.goes_up a.goes_up_fd ["below", "left", "step", "way"] sp_goes_up := by
  refine T.F_goes_up.ok sc_goes_up (fun vs H Q E h => ?_) (fun cdv A outer s H vs Q E hr h => ?_)
  · obtain ⟨q, m, s, rfl, _⟩ := h
    rfl
  · obtain ⟨q, m, s, rfl, hm, k⟩ := h
    refine ⟨_, (pss_cons (ps_if (pt_cmpR op_eq (pv 3) pe_str (nomark _)) (pss_one (ps_ret (pe_cmpR op_lt (pv 0) pe_int (nomark _)))) pss_nil)
      (pss_cons (ps_if (pt_cmpR op_ne (pv 3) pe_str (nomark _)) (pss_one (ps_ret (pe_cmpR op_eq (pv 3) pe_str (nomark _)))) pss_nil)
      (pss_one (ps_ret (pe_or (pe_cmpR op_gt (pe_op op_mulW (pv 1) pe_int) (pv 2) (nomark _)) (pe_one (pe_and (pe_cmpR op_eq (pe_op op_mulW (pv 1) pe_int) (pv 2) (nomark _)) (pe_one (pe_cmpR op_eq (pe_op op_mod (pv 0) pe_int) pe_int (nomark _)))))))))), ?_⟩
    refine ⟨_, rfl, rfl, _, rfl, ?_⟩
    rw [show decide (V.str "near" = V.str "zero") = false from by decide +kernel]
    refine iteF ⟨_, rfl, rfl, _, rfl, ?_⟩
    rw [show (!decide (V.str "near" = V.str "near")) = false from by decide +kernel]
    refine iteF ⟨_, rfl, _, _, rfl, rfl, wm (p5000 hm) (by decide +kernel), _, rfl, _, _, rfl, rfl, _, rfl, ?_⟩
    have kk := k H (Ex.refl H)
    by_cases h : s < m * 2
    · rw [if_pos (decide_eq_true h)]
      rw [decide_eq_true h, Bool.true_or] at kk
      exact kk
    · rw [if_neg (by simpa using h)]
      rw [decide_eq_false h, Bool.false_or] at kk
      refine ⟨_, rfl, _, _, rfl, rfl, wm (p5000 hm) (by decide +kernel), _, rfl, rfl, _, rfl, ?_⟩
      have e1 : decide (V.int (m * 2) = V.int s) = decide (m * 2 = s) := by simp
      rw [e1]
      by_cases h2 : m * 2 = s
      · rw [if_pos (decide_eq_true h2)]
        rw [decide_eq_true h2, Bool.true_and] at kk
        refine ⟨_, rfl, _, _, rfl, rfl, (by show (0 : Int) < 2; decide), rfl, ?_⟩
        have e2 : decide (V.int (q % 2) = V.int 1) = decide (q % 2 = 1) := by simp
        show Q (V.bl (decide (V.int (q % 2) = V.int 1))) H
        rw [e2]
        exact kk
      · rw [if_neg (by simpa using h2)]
        rw [decide_eq_false h2, Bool.false_and] at kk
        exact kk
end
end My


set_option Elab.async false
set_option maxRecDepth 100000
set_option maxHeartbeats 1000000
set_option exponentiation.threshold 6000
namespace My
open PySem L2 Evl
def iv (xs : List Int) : List V := xs.map V.int
def sp_rounded_parts (a : Ad) : Sp := fun vs H Q _ => ∃ (g : Addr) (b f r L G : Nat) (t : Int), vs = [.ref g, .int t] ∧ GridAt a H g b f r L G ∧ t.natAbs ≤ G ∧ ∀ p H', Ex H H' → H' p = some (.tup (iv (row b L t))) → Q (.ref p) H'
def sp_check_reached (a : Ad) : Sp := fun vs H Q _ => ∃ (g : Addr) (b f r L G : Nat) (t : Int), vs = [.ref g, .int t] ∧ GridAt a H g b f r L G ∧ t.natAbs ≤ G ∧ ∀ H', Ex H H' → Q .non H'
def sp_product_row (a : Ad) : Sp := fun vs H Q _ => ∃ (g : Addr) (b f r L G : Nat) (x y : Int), vs = [.ref g, .int x, .int y] ∧ GridAt a H g b f r L G ∧ OnG b L G x ∧ OnG b L G y ∧
  (G < (x * y).natAbs → ∀ H', Ex H H' → Q .non H') ∧ ((x * y).natAbs ≤ G → ∀ p H', Ex H H' → H' p = some (.tup (iv (row b L (x * y)))) → Q (.ref p) H')
def sp_is_numbers (a : Ad) : Sp := fun vs H Q _ => ∃ (g : Addr) (b f r L G : Nat) (t : Addr) (xs : List Int), vs = [.ref g, .ref t] ∧ GridAt a H g b f r L G ∧ H t = some (.tup (iv xs)) ∧ xs.length ≤ 1000 ∧ (∀ x ∈ xs, OnG b L G x) ∧ ∀ H', Ex H H' → Q (.bl true) H'
def sp_is_row (a : Ad) : Sp := fun vs H Q _ => ∃ (g : Addr) (b f r L G : Nat) (t : Addr) (xs : List Int), vs = [.ref g, .ref t] ∧ GridAt a H g b f r L G ∧ H t = some (.tup (iv xs)) ∧ xs.length ≤ 100 ∧ (∀ x ∈ xs, OnG b L G x) ∧ ∀ H', Ex H H' → Q (.bl true) H'
def sp_shows_shortest (a : Ad) : Sp := fun vs H Q _ => ∃ (g : Addr) (b f r L G : Nat) (t : Int) (p : Addr), vs = [.ref g, .int t, .ref p] ∧ GridAt a H g b f r L G ∧ t.natAbs ≤ G ∧ H p = some (.tup (iv (row b L t))) ∧ (row b L t).length ≤ 100 ∧ ∀ H', Ex H H' → Q (.bl true) H'
def sp_init (a : Ad) : Sp := fun vs H Q _ => ∃ (p dx : Addr) (b f r pl : Nat), vs = [.ref p, .int b, .int f, .int r, .int pl] ∧ H p = some (.ins a.Grid dx []) ∧ (2 ≤ b ∧ b ≤ 10 ∧ 1 ≤ f ∧ f ≤ 30 ∧ r ≤ 60 ∧ pl ≤ 30) ∧
  ∀ H', (∀ c o, H c = some o → c ≠ p → H' c = some o) → GridAt a H' p b f r (b ^ f) ((b ^ f - 1) * b ^ r) → Q .non H'
theorem G1 {b f r L G : Nat} (h : Gr b f r L G) : b ^ (f + 0) = L := by rw [Nat.add_zero, h.eL]
theorem absI (t : Int) : (if t < 0 then -t else t) = (t.natAbs : Int) := by split <;> omega
theorem spc_lt {b L n : Nat} (hb : 2 ≤ b) (hL : 1 ≤ L) : spc b L n ≤ n * b + 1 := by
  unfold spc
  by_cases h : spx b L n = 0
  · rw [h, Nat.pow_zero]; omega
  · have h1 := spx_low (n := n) hb (spx b L n - 1) L hL (by omega)
    have h2 : b ^ spx b L n = b ^ (spx b L n - 1) * b := by
      rw [← Nat.pow_succ]
      congr 1
      omega
    have h3 : b ^ (spx b L n - 1) ≤ n := Nat.le_trans (Nat.le_mul_of_pos_left _ hL) h1
    rw [h2]
    exact Nat.le_trans (Nat.mul_le_mul_right _ h3) (Nat.le_succ _)
theorem spc_sz {b L n : Nat} (hb : 2 ≤ b) (ub : b ≤ 10) (hL : 1 ≤ L) (hn : n < 2 ^ 4000) : spc b L n < 2 ^ 4010 := by
  have h1 := spc_lt (n := n) hb hL
  have h2 : n * b ≤ n * 10 := Nat.mul_le_mul_left n ub
  have h10 : 2 ^ 4000 * 10 + 1 < 2 ^ 4010 := by decide +kernel
  omega
theorem rn_alt {b L : Nat} (hb : 2 ≤ b) (t : Int) : rn b L t = if (t % (spc b L t.natAbs : Int) != 0) = true ∧ (decide ((spc b L t.natAbs : Int) < t % (spc b L t.natAbs : Int) * 2) || (decide (t % (spc b L t.natAbs : Int) * 2 = (spc b L t.natAbs : Int)) && decide (t / (spc b L t.natAbs : Int) % 2 = 1))) = true then (t / (spc b L t.natAbs : Int) + 1) * (spc b L t.natAbs : Int) else t / (spc b L t.natAbs : Int) * (spc b L t.natAbs : Int) := by
  have hs := spcI_pos (L := L) hb t.natAbs
  unfold rn
  generalize (spc b L t.natAbs : Int) = s at *
  by_cases hm : t % s = 0
  · rw [hm, if_neg (by simp; omega), if_neg (by simp)]
  · have : (s < 2 * (t % s) ∨ 2 * (t % s) = s ∧ t / s % 2 = 1) ↔ ((t % s != 0) = true ∧ (decide (s < t % s * 2) || (decide (t % s * 2 = s) && decide (t / s % 2 = 1))) = true) := by
      simp [hm]
      constructor <;> intro h <;> omega
    by_cases hc : (s < 2 * (t % s) ∨ 2 * (t % s) = s ∧ t / s % 2 = 1)
    · rw [if_pos hc, if_pos (this.mp hc)]
    · rw [if_neg hc, if_neg (fun z => hc (this.mpr z))]
theorem rnO_in {b L G : Nat} {t : Int} (h : (rn b L t).natAbs ≤ G) : rnO b L G t = .int (rn b L t) := if_pos h
theorem quo_sz {t s : Int} {k : Nat} (hs : 0 < s) (h : t.natAbs < 2 ^ k) : (t / s).natAbs < 2 ^ k + 1 := by
  have h1 := Int.natAbs_ediv_le_natAbs t s
  omega
theorem quo_sz' {t s : Int} (hs : 0 < s) (h : t.natAbs < 2 ^ 4000) : (t / s).natAbs < 2 ^ 4001 ∧ (t / s + 1).natAbs < 2 ^ 4001 := by
  have h1 := quo_sz hs h
  have h2 : 2 ^ 4000 + 2 < 2 ^ 4001 := by decide +kernel
  omega
theorem mod_sz {t s : Int} {k : Nat} (hs : 0 < s) (h : s.natAbs < 2 ^ k) : (t % s).natAbs < 2 ^ k := by
  have h1 := Int.emod_nonneg t (show s ≠ 0 by omega)
  have h2 := Int.emod_lt_of_pos t hs
  omega
section
variable {P : Program} {w : World} {K : PySem.W.Frag} {mg : Str → Option Value} {base : Heap} {a : Ad}
theorem ok_fitted (T : Txt K mg a) : FnOk P w K mg base CX0 2 a.fitted a.fitted_fd ["grid", "top", "bottom", "way", "more"] (sp_fitted a) := by
  refine T.F_fitted.ok sc_fitted (fun vs H Q E h => ?_) (fun cdv A outer s H vs Q E hr h => ?_)
  · obtain ⟨g, b, f, r, L, G, t, rfl, _⟩ := h
    rfl
  · obtain ⟨g, b, f, r, L, G, t, rfl, hg, ht, k⟩ := h
    refine ⟨_, (pss_cons (ps_set (i := 5) sc_fitted.nd rfl (Or.inl rfl) (pe_call (ok_spacing_at T) (hr.mono (by decide)) rfl T.g_spacing_at T.k_spacing_at T.B_spacing_at .nil pass0 (pa_cons (pv 0) (pa_cons (pe_op op_fdivW (pe_callB call_abs (by rfl) T.n_abs (by decide +kernel) (pa_cons (pv 1) pa_nil)) (pv 2)) (pa_cons (pv 4) pa_nil)))))
      (pss_cons (ps_set (i := 6) sc_fitted.nd rfl (Or.inl rfl) (pe_op op_mulW (pv 2) (pv 5)))
      (pss_cons (ps_set (i := 7) sc_fitted.nd rfl (Or.inl rfl) (pe_op op_fdivW (pv 1) (pv 6)))
      (pss_cons (ps_set (i := 8) sc_fitted.nd rfl (Or.inl rfl) (pe_op op_sub (pv 1) (pe_op op_mulW (pv 7) (pv 6))))
      (pss_cut (ps_set (i := 9) sc_fitted.nd rfl (Or.inl rfl) (pe_ifExp (PW.pt (pw_and (pt_truth (pv 8) (by intro _; rfl)) (pw_and1 (pt_val (pe_call (ok_goes_up T) (hr.mono (by decide)) rfl T.g_goes_up T.k_goes_up T.B_goes_up .nil pass0 (pa_cons (pv 7) (pa_cons (pv 8) (pa_cons (pv 6) (pa_cons (pv 3) pa_nil))))))))) (pe_op op_mulW (pe_op op_add (pv 7) pe_int) (pv 5)) (pe_op op_mulW (pv 7) (pv 5))))
      (pss_one (ps_ret (pe_ifExp (pt_cmpR op_gt (pe_callB call_abs (by rfl) T.n_abs (by decide +kernel) (pa_cons (pv 9) pa_nil)) (pe_ix ix_tup (pe_fld (pv 0) rfl) (pv 4) (fun _ _ => rfl)) (nomark _)) pe_non (pv 9))))))))), ?_⟩
    have hb := hg.gr.hb
    have hL := hg.gr.L1
    refine ⟨_, rfl, _, rfl, _, rfl, _, rfl, _, _, rfl, rfl, wd (by decide) (by decide +kernel), _, rfl, g, b, f, r, L, G, t.natAbs, 0, by dsimp only; rw [absI, Int.ediv_one]; rfl, hg, by decide, ht, fun H1 e1 => ?_⟩
    have hs := spcI_pos (L := L) hb t.natAbs
    have hsz := spc_sz hb hg.ub (by omega : 1 ≤ L) ht
    have hsz' : ((spc b L t.natAbs : Nat) : Int).natAbs < 2 ^ 4010 := by rw [Int.natAbs_natCast]; exact hsz
    have hrn := rn_alt (L := L) hb t
    rw [G1 hg.gr]
    generalize ((spc b L t.natAbs : Nat) : Int) = s at *
    refine ⟨_, rfl, _, rfl, _, _, rfl, rfl, wm (by decide +kernel) (p5000 hsz'), ?_⟩
    dsimp only
    rw [Int.one_mul]
    refine ⟨_, rfl, _, rfl, _, _, rfl, rfl, wd hs (p5000 hsz'), ?_⟩
    obtain ⟨q1, q2⟩ := quo_sz' hs ht
    refine ⟨_, rfl, _, rfl, _, rfl, _, _, rfl, rfl, wm (p5000 q1) (p5000 hsz'), _, _, rfl, rfl, ?_⟩
    have em : t - t / s * s = t % s := by
      have := (div_facts t s hs).1
      omega
    dsimp only
    rw [em]
    refine ⟨fun σ H2 => Ex H H2 ∧ ∃ z1 z2 z3, σ = [some (.ref g), some (.int t), some (.int 1), some (.str "near"), some (.int 0), z1, z2, z3, some (.int (t % s)), some (.int (rn b L t))], ?_, ?_⟩
    · refine ⟨_, rfl, _, rfl, ite2 (fun h1 => ?_) (fun h1 => ?_)⟩
      · refine ⟨_, rfl, _, rfl, _, rfl, _, rfl, t / s, t % s, s, rfl, Nat.lt_trans (mod_sz hs hsz') (by decide +kernel), fun H2 e2 => ⟨_, rfl, ite2 (fun h2 => ?_) (fun h2 => ?_)⟩⟩
        · refine ⟨_, rfl, _, _, rfl, rfl, _, rfl, _, _, rfl, rfl, wm (p5000 q2) (p5000 hsz'), e1.trans e2, some (.int s), some (.int s), some (.int (t / s)), ?_⟩
          rw [hrn, if_pos ⟨h1, h2⟩]
          rfl
        · refine ⟨_, rfl, _, rfl, _, _, rfl, rfl, wm (p5000 q1) (p5000 hsz'), e1.trans e2, some (.int s), some (.int s), some (.int (t / s)), ?_⟩
          rw [hrn, if_neg (fun z => h2 z.2)]
          rfl
      · refine ite2 (fun h2 => absurd h2 (by simp)) (fun h2 => ?_)
        refine ⟨_, rfl, _, rfl, _, _, rfl, rfl, wm (p5000 q1) (p5000 hsz'), e1, some (.int s), some (.int s), some (.int (t / s)), ?_⟩
        rw [hrn, if_neg (fun z => h1 z.1)]
        rfl
    · rintro σ H2 ⟨e2, z1, z2, z3, rfl⟩
      obtain ⟨dx, lim, tops, p, u, xs, ys, o1, o2, o3, o4, o5⟩ := (hg.mono e2).ob
      have o6 := o5 0 (by decide)
      rw [G1 hg.gr, ← hg.gr.eG] at o6
      refine ⟨_, rfl, _, rfl, _, rfl, g, _, dx, _, _, rfl, o1, T.cl_Grid, T.f_Grid_tops, gfl_tops, _, rfl, tops, ys, _, _, rfl, rfl, SqT.of o3, atN o6, _, _, rfl, rfl, _, rfl, ?_⟩
      have kk := k H2 e2
      unfold rnO at kk
      rw [absI]
      refine ite2 (fun h => ?_) (fun h => ?_)
      · have h := of_decide_eq_true h
        rw [if_neg (by omega)] at kk
        exact kk
      · have h : ¬ (G : Int) < ((rn b L t).natAbs : Int) := fun z => h (decide_eq_true z)
        rw [if_pos (by omega)] at kk
        exact ⟨_, rfl, kk⟩
theorem ok_Grid_contains (T : Txt K mg a) : FnOk P w K mg base CX0 2 a.Grid_contains a.Grid_contains_fd ["self", "value"] (sp_contains a) := by
  refine T.F_Grid_contains.ok sc_Grid_contains (fun vs H Q E h => ?_) (fun cdv A outer s H vs Q E hr h => ?_)
  · obtain ⟨g, b, f, r, L, G, n, rfl, _⟩ := h
    rfl
  · obtain ⟨g, b, f, r, L, G, n, rfl, hg, ⟨hn, hm⟩, k⟩ := h
    refine ⟨_, (pss_cons (ps_if (PW.pt (pw_or (pt_not (pt_val (pe_call (ok_is_whole T) (hr.mono (by decide)) rfl T.g_is_whole T.k_is_whole T.B_is_whole .nil pass0 (pa_cons (pv 1) pa_nil)))) (pw_or1 (pt_cmpR op_gt (pe_callB call_abs (by rfl) T.n_abs (by decide +kernel) (pa_cons (pv 1) pa_nil)) (pe_fld (pv 0) rfl) (nomark _))))) (pss_one (ps_ret pe_bl)) pss_nil)
      (pss_one (ps_ret (pe_cmpR op_eq (pe_op op_mod (pv 1) (pe_call (ok_spacing_at T) (hr.mono (by decide)) rfl T.g_spacing_at T.k_spacing_at T.B_spacing_at .nil pass0 (pa_cons (pv 0) (pa_cons (pe_callB call_abs (by rfl) T.n_abs (by decide +kernel) (pa_cons (pv 1) pa_nil)) (pa_cons pe_int pa_nil))))) pe_int (nomark _))))), ?_⟩
    have hb := hg.gr.hb
    have hL := hg.gr.L1
    obtain ⟨dx, lim, tops, p, u, xs, ys, o1, o2, o3, o4, o5⟩ := hg.ob
    have hs := spcI_pos (L := L) hb n.natAbs
    refine ⟨_, rfl, n, rfl, fun H1 e1 => ⟨true, rfl, ?_⟩⟩
    refine ite2 (fun h => absurd h (by simp)) (fun _ => ?_)
    refine ⟨_, rfl, _, rfl, _, rfl, g, _, dx, _, _, rfl, e1 _ _ o1, T.cl_Grid, T.f_Grid_greatest, gfl_greatest, _, _, rfl, rfl, _, rfl, ?_⟩
    rw [absI]
    refine ite2 (fun h => absurd (of_decide_eq_true h) (by omega)) (fun _ => ?_)
    refine ⟨_, rfl, _, rfl, _, rfl, _, rfl, g, b, f, r, L, G, n.natAbs, 0, by rw [absI]; rfl, hg.mono e1, by decide, Nat.lt_of_le_of_lt hn (Nat.lt_trans hg.bG (by decide +kernel)), fun H2 e2 => ?_⟩
    rw [G1 hg.gr]
    refine ⟨_, _, rfl, rfl, hs, rfl, ?_⟩
    show Q (V.bl (decide (V.int (n % (spc b L n.natAbs : Int)) = V.int 0))) H2
    rw [hm]
    exact k H2 (e1.trans e2)
theorem ok_rounded_parts (T : Txt K mg a) : FnOk P w K mg base CX0 3 a.rounded_parts a.rounded_parts_fd ["grid", "worth"] (sp_rounded_parts a) := by
  refine T.F_rounded_parts.ok sc_rounded_parts (fun vs H Q E h => ?_) (fun cdv A outer s H vs Q E hr h => ?_)
  · obtain ⟨g, b, f, r, L, G, t, rfl, _⟩ := h
    rfl
  · obtain ⟨g, b, f, r, L, G, t, rfl, hg, ht, k⟩ := h
    refine ⟨_, (pss_cons (ps_set (i := 2) sc_rounded_parts.nd rfl (Or.inl rfl) (pe_lst pa_nil))
      (pss_cons (ps_set (i := 3) sc_rounded_parts.nd rfl (Or.inl rfl) (pv 1))
      (pss_cons (ps_while PassesOwn.never (pt_cmpR op_ne (pv 3) pe_int (nomark _)) (pss_cons (ps_set (i := 4) sc_rounded_parts.nd rfl (Or.inl rfl) (pe_call (ok_fitted T) (hr.mono (by decide)) rfl T.g_fitted T.k_fitted T.B_fitted .nil pass0 (pa_cons (pv 0) (pa_cons (pv 3) (pa_cons pe_int (pa_cons pe_str (pa_cons pe_int pa_nil)))))))
      (pss_cons (ps_expr (pe_bm PySem.F.plainAttrs_list PySem.F.slot_list_append PySem.F.type_list_append mt_append (pv 2) (pa_cons (pv 4) pa_nil)))
      (pss_one (ps_set (i := 3) sc_rounded_parts.nd rfl (Or.inl rfl) (pe_op op_sub (pv 3) (pv 4)))))))
      (pss_one (ps_ret (pe_callTy call_tuple_of (by rfl) T.n_tuple (by decide +kernel) (pa_cons (pv 2) pa_nil))))))), ?_⟩
    have hb := hg.gr.hb
    have hG := hg.bG
    refine ⟨Nat.zero_le _, fun p hp => ?_⟩
    refine ⟨_, rfl, ?_⟩
    refine ⟨fun c σ H' => ∃ (acc : List Int) (left : Int) (v : Option V), c = left.natAbs ∧ Ex H H' ∧ H' p = some (.lst (iv acc)) ∧ acc ++ row b L left = row b L t ∧ left.natAbs * 2 ^ acc.length ≤ t.natAbs ∧ σ = [some (.ref g), some (.int t), some (.ref p), some (.int left), v],
      ⟨_, [], t, none, rfl, Ex.new hp, upd_same, rfl, by rw [List.length_nil, Nat.pow_zero]; omega, rfl⟩, ?_⟩
    rintro c σ H' ⟨acc, left, v, rfl, e1, h1, h2, h3, rfl⟩
    refine ⟨_, rfl, rfl, _, rfl, ?_⟩
    refine ite2 (fun hc => ?_) (fun hc => ?_)
    · have hl : left ≠ 0 := by
        intro z
        subst z
        simp at hc
      have hlt : left.natAbs ≤ t.natAbs := Nat.le_trans (Nat.le_mul_of_pos_right _ (Nat.pow_pos (by decide))) h3
      have hacc : 2 ^ acc.length < 2 ^ 400 := by
        have : 1 * 2 ^ acc.length ≤ left.natAbs * 2 ^ acc.length := Nat.mul_le_mul_right _ (by omega)
        omega
      have hacc := (Nat.pow_lt_pow_iff_right (by decide : 1 < 2)).mp hacc
      have hhalf := rn_half hg.gr (t := left)
      refine ⟨fun σ' H' => ∃ (acc : List Int) (left' : Int) (v : Option V), left'.natAbs < left.natAbs ∧ Ex H H' ∧ H' p = some (.lst (iv acc)) ∧ acc ++ row b L left' = row b L t ∧ left'.natAbs * 2 ^ acc.length ≤ t.natAbs ∧ σ' = [some (.ref g), some (.int t), some (.ref p), some (.int left'), v],
        fun σ' H' ⟨acc, l', v, q1, q2, q3, q4, q5, q6⟩ => ⟨_, q1, acc, l', v, rfl, q2, q3, q4, q5, q6⟩, ?_⟩
      refine ⟨_, rfl, _, rfl, g, b, f, r, L, G, left, rfl, hg.mono e1, Nat.lt_of_le_of_lt (Nat.le_trans hlt ht) (Nat.lt_trans hG (by decide +kernel)), fun H2 e2 => ?_⟩
      rw [rnO_in (rn_le hg.gr (Nat.le_trans hlt ht))]
      refine ⟨_, rfl, .inl ⟨rfl, _, SqL.of (e2 _ _ h1)⟩, _, rfl, p, _, _, rfl, rfl, e2 _ _ h1, small1000 (by unfold iv; rw [List.length_map]; omega), ?_⟩
      refine ⟨_, rfl, _, rfl, _, _, rfl, rfl, ?_⟩
      refine ⟨acc ++ [rn b L left], left - rn b L left, _, by omega, Ex.mut (e1.trans e2) hp, ?_, ?_, ?_, rfl⟩
      · rw [upd_same]
        unfold iv
        rw [List.map_append]
        rfl
      · rw [List.append_assoc, ← h2, row_cons hg.gr hl]
        rfl
      · rw [List.length_append, List.length_singleton, Nat.pow_succ]
        have : (left - rn b L left).natAbs * (2 ^ acc.length * 2) = (2 * (left - rn b L left).natAbs) * 2 ^ acc.length := by
          rw [Nat.mul_comm (2 ^ acc.length) 2, ← Nat.mul_assoc, Nat.mul_comm _ 2]
        rw [this]
        exact Nat.le_trans (Nat.mul_le_mul_right _ hhalf) h3
    · have hl : left = 0 := by
        by_cases z : left = 0
        · exact z
        · exact absurd (by simp [z]) hc
      subst hl
      rw [row_zero, List.append_nil] at h2
      subst h2
      refine ⟨_, rfl, p, _, rfl, .inl ⟨SqL.of h1, fun q hq => ?_⟩⟩
      exact k q _ (Ex.mut e1 (fresh_back e1 hq)) upd_same
theorem ok_check_reached (T : Txt K mg a) : FnOk P w K mg base CX0 3 a.check_reached a.check_reached_fd ["grid", "worth"] (sp_check_reached a) := by
  refine T.F_check_reached.ok sc_check_reached (fun vs H Q E h => ?_) (fun cdv A outer s H vs Q E hr h => ?_)
  · obtain ⟨g, b, f, r, L, G, t, rfl, _⟩ := h
    rfl
  · obtain ⟨g, b, f, r, L, G, t, rfl, hg, ht, k⟩ := h
    refine ⟨_, (pss_one (ps_if (pt_not (pt_val (pe_call (ok_is_from_to T) (hr.mono (by decide)) rfl T.g_is_from_to T.k_is_from_to T.B_is_from_to .nil pass0 (pa_cons (pv 1) (pa_cons (pe_un un_neg (pe_fld (pv 0) rfl)) (pa_cons (pe_fld (pv 0) rfl) pa_nil)))))) (pss_one ps_never) pss_nil)), ?_⟩
    obtain ⟨dx, lim, tops, p, u, xs, ys, o1, o2, o3, o4, o5⟩ := hg.ob
    refine ⟨_, rfl, _, rfl, g, _, dx, _, _, rfl, o1, T.cl_Grid, T.f_Grid_greatest, gfl_greatest, _, rfl, _, rfl, g, _, dx, _, _, rfl, o1, T.cl_Grid, T.f_Grid_greatest, gfl_greatest, t, -(G : Int), G, rfl, fun H1 e1 => ⟨true, ?_, ?_⟩⟩
    · rw [decide_eq_true (by omega), decide_eq_true (by omega)]
      rfl
    · refine ite2 (fun h => absurd h (by simp)) (fun _ => ?_)
      exact k H1 e1
theorem ok_renewed (T : Txt K mg a) : FnOk P w K mg base CX0 4 a.renewed a.renewed_fd ["grid", "worth"] (sp_rounded_parts a) := by
  refine T.F_renewed.ok sc_renewed (fun vs H Q E h => ?_) (fun cdv A outer s H vs Q E hr h => ?_)
  · obtain ⟨g, b, f, r, L, G, t, rfl, _⟩ := h
    rfl
  · obtain ⟨g, b, f, r, L, G, t, rfl, hg, ht, k⟩ := h
    refine ⟨_, (pss_cons (ps_expr (pe_call (ok_check_reached T) (hr.mono (by decide)) rfl T.g_check_reached T.k_check_reached T.B_check_reached .nil pass0 (pa_cons (pv 0) (pa_cons (pv 1) pa_nil))))
      (pss_one (ps_ret (pe_call (ok_rounded_parts T) (hr.mono (by decide)) rfl T.g_rounded_parts T.k_rounded_parts T.B_rounded_parts .nil pass0 (pa_cons (pv 0) (pa_cons (pv 1) pa_nil)))))), ?_⟩
    refine ⟨_, rfl, _, rfl, g, b, f, r, L, G, t, rfl, hg, ht, fun H1 e1 => ?_⟩
    exact ⟨_, rfl, _, rfl, g, b, f, r, L, G, t, rfl, hg.mono e1, ht, fun p H2 e2 h => k p H2 (e1.trans e2) h⟩
end
end My


set_option Elab.async false
set_option maxRecDepth 100000
set_option maxHeartbeats 1000000
set_option exponentiation.threshold 6000
namespace My
open PySem L2 Evl
theorem all_rep (n : Nat) : (List.replicate n true).all id = true := by
  induction n with
  | zero => rfl
  | succ n ih => rw [List.replicate_succ, List.all_cons, ih]; rfl
theorem rep_snoc {α : Type} (n : Nat) (v : α) : List.replicate n v ++ [v] = List.replicate (n + 1) v := by
  rw [List.replicate_succ']
theorem ln {f : Str} {v : V} {fs : List (Str × V)} {n : Nat} (h : fs.length ≤ n) : (putF f v fs).length ≤ n + 1 := Nat.le_trans (length_putF f v fs) (by omega)
theorem lt1000 {fs : List (Str × V)} {n : Nat} (h : fs.length ≤ n) (hn : n ≤ 20 := by decide) : fs.length < 1000 := by omega
/-- all but what stands at p -/
def Kp (p : Addr) (H H' : Hp) : Prop := ∀ c o, H c = some o → c ≠ p → H' c = some o
theorem Kp.ex {p : Addr} {H H1 H2 : Hp} (h : Kp p H H1) (e : Ex H1 H2) : Kp p H H2 := fun c o hc hn => e _ _ (h c o hc hn)
theorem Kp.set {p : Addr} {H H1 : Hp} {o : HO} (h : Kp p H H1) : Kp p H (upd H1 p o) := fun c u hc hn => by
  rw [upd_ne hn]
  exact h c u hc hn
theorem Kp.refl {p : Addr} {H : Hp} : Kp p H H := fun _ _ h _ => h
section
variable {P : Program} {w : World} {K : PySem.W.Frag} {mg : Str → Option Value} {base : Heap} {a : Ad}
theorem ok_is_numbers (T : Txt K mg a) : FnOk P w K mg base CX0 4 a.is_numbers a.is_numbers_fd ["grid", "value"] (sp_is_numbers a) := by
  refine T.F_is_numbers.ok sc_is_numbers (fun vs H Q E h => ?_) (fun cdv A outer s H vs Q E hr h => ?_)
  · obtain ⟨g, b, f, r, L, G, t, xs, rfl, _⟩ := h
    rfl
  · obtain ⟨g, b, f, r, L, G, t, xs, rfl, hg, ht, hl, hx, k⟩ := h
    refine ⟨_, (pss_one (ps_ret (pe_and (pe_callB call_isi (by rfl) T.n_isinstance (by decide +kernel) (pa_cons (pv 1) (pa_cons (pe_bltn (v := .ty "tuple") (u := .type "tuple") rfl T.n_tuple (by decide +kernel) rfl) pa_nil))) (pe_one (pe_callB (cr_all rfl) (by rfl) T.n_all (by decide +kernel) (pa_cons (pe_lc (own := [("part", 2)]) (g := gName 2) (by rfl) sc_is_numbers.nd (pi_tup (pv 1)) (blkOk_by (own := [("part", 2)]) (N := N_is_numbers) (sc := defScope s_is_numbers) (by decide +kernel)) (fun _ _ _ _ _ => pg_name (i := 2) sc_is_numbers.nd rfl (Or.inl rfl)) (fun _ _ _ _ _ => pts_nil) (fun _ _ _ _ _ => (pe_cmpR (op_inOwn (ok_Grid_contains T) (hr.mono (by decide)) T.cl_Grid T.m_Grid_contains T.B_Grid_contains pass0) (pv 2) (pv 0) (by rfl)))) pa_nil)))))), ?_⟩
    have hlen : (iv xs).length = xs.length := by unfold iv; rw [List.length_map]
    refine ⟨_, rfl, _, _, _, _, true, rfl, .ty _, .base (.tup ht), kit_ty (by decide +kernel), true, rfl, iteT ?_⟩
    refine ⟨_, rfl, t, rfl, ⟨_, SqT.of ht⟩, fun D hD => lc_tup (K := K) (a := t) (xs := iv xs) (fun i H' => Ex H H' ∧ H' D = some (.lst (List.replicate i (.bl true)))) ⟨Ex.new hD, upd_same⟩ (fun i H' _ q => SqT.of (q.1 _ _ ht)) ?_ ?_⟩
    · rintro i x H' hi ⟨e1, h1⟩
      have hi' := (List.getElem?_eq_some_iff.mp hi).1
      obtain ⟨n, hn, rfl⟩ : ∃ n, n ∈ xs ∧ x = .int n := by
        unfold iv at hi
        rw [List.getElem?_map] at hi
        cases e : xs[i]? with
        | none => rw [e] at hi; cases hi
        | some n => rw [e] at hi; exact ⟨n, List.mem_of_getElem? e, (Option.some.inj hi).symm⟩
      obtain ⟨dx, lim, tops, p, u, ys, zs, o1, o2, o3, o4, o5⟩ := (hg.mono e1).ob
      refine ⟨rfl, ?_⟩
      dsimp only [tYes]
      refine iteT ?_
      refine ⟨_, rfl, _, rfl, g, dx, _, rfl, o1, g, b, f, r, L, G, n, rfl, hg.mono e1, hx n hn, fun H3 e3 => ⟨true, rfl, _, e3 _ _ h1, small1000 (by rw [List.length_replicate]; omega), Ex.mut (e1.trans e3) hD, ?_⟩⟩
      rw [upd_same]
      show some (HO.lst (List.replicate i (V.bl true) ++ [V.bl true])) = _
      rw [rep_snoc]
    · rintro H' ⟨e1, h1⟩
      refine ⟨D, List.replicate (iv xs).length true, rfl, SqL.of (by rw [List.map_replicate]; exact h1), ?_⟩
      rw [all_rep]
      exact k H' e1
theorem ok_Grid_init (T : Txt K mg a) : FnOk P w K mg base CX0 4 a.Grid_init a.Grid_init_fd ["self", "base", "figures", "reach", "places"] (sp_init a) := by
  refine T.F_Grid_init.ok sc_Grid_init (fun vs H Q E h => ?_) (fun cdv A outer s H vs Q E hr h => ?_)
  · obtain ⟨p, dx, b, f, r, pl, rfl, _⟩ := h
    rfl
  · obtain ⟨p, dx, b, f, r, pl, rfl, hp, hv, k⟩ := h
    refine ⟨_, (pss_cons (ps_set (i := 5) sc_Grid_init.nd rfl (Or.inl rfl) (pe_tup (pa_cons (pv 1) (pa_cons (pv 2) (pa_cons (pv 3) (pa_cons (pv 4) pa_nil))))))
      (pss_cons (ps_if (pt_not (pt_val (pe_call (ok_is_grid T) (hr.mono (by decide)) rfl T.g_is_grid T.k_is_grid T.B_is_grid .nil pass0 (pa_cons (pv 5) pa_nil)))) (pss_one ps_never) pss_nil)
      (pss_cons (ps_fld (pv 0) (pv 1) rfl)
      (pss_cons (ps_fld (pv 0) (pv 2) rfl)
      (pss_cons (ps_fld (pv 0) (pv 3) rfl)
      (pss_cons (ps_fld (pv 0) (pv 4) rfl)
      (pss_cons (ps_fld (pv 0) (pe_call (ok_power T) (hr.mono (by decide)) rfl T.g_power T.k_power T.B_power .nil pass0 (pa_cons (pv 1) (pa_cons (pv 4) pa_nil))) rfl)
      (pss_cons (ps_fld (pv 0) (pe_callTy call_tuple_of (by rfl) T.n_tuple (by decide +kernel) (pa_cons (pe_lc (own := [("extra", 6)]) (g := gName 6) (by rfl) sc_Grid_init.nd (pi_range1 rfl T.n_range (pa_cons (pe_op op_add (pe_glob (v := .int 3) rfl T.c_MOST_MORE.choose_spec ⟨_, rfl⟩) pe_int) pa_nil)) (blkOk_by (own := [("extra", 6)]) (N := N_Grid_init) (sc := defScope s_Grid_init) (by decide +kernel)) (fun _ _ _ _ _ => pg_name (i := 6) sc_Grid_init.nd rfl (Or.inl rfl)) (fun _ _ _ _ _ => pts_nil) (fun _ _ _ _ _ => (pe_call (ok_power T) (hr.mono (by decide)) rfl T.g_power T.k_power T.B_power .nil pass0 (pa_cons (pv 1) (pa_cons (pe_op op_add (pv 2) (pv 6)) pa_nil))))) pa_nil)) rfl)
      (pss_cons (ps_fld (pv 0) (pe_callTy call_tuple_of (by rfl) T.n_tuple (by decide +kernel) (pa_cons (pe_lc (own := [("limit", 7)]) (g := gName 7) (by rfl) sc_Grid_init.nd (pi_tup (pe_fld (pv 0) rfl)) (blkOk_by (own := [("limit", 7)]) (N := N_Grid_init) (sc := defScope s_Grid_init) (by decide +kernel)) (fun _ _ _ _ _ => pg_name (i := 7) sc_Grid_init.nd rfl (Or.inl rfl)) (fun _ _ _ _ _ => pts_nil) (fun _ _ _ _ _ => (pe_op op_mulW (pe_op op_sub (pv 7) pe_int) (pe_call (ok_power T) (hr.mono (by decide)) rfl T.g_power T.k_power T.B_power .nil pass0 (pa_cons (pv 1) (pa_cons (pv 3) pa_nil)))))) pa_nil)) rfl)
      (pss_one (ps_fld (pv 0) (pe_ix ix_tup (pe_fld (pv 0) rfl) pe_int (fun _ _ => rfl)) rfl))))))))))), ?_⟩
    obtain ⟨v1, v2, v3, v4, v5, v6⟩ := id hv
    refine ⟨_, rfl, _, rfl, _, rfl, _, rfl, by show 4 ≤ sizeLine; decide, fun t ht => ?_⟩
    refine ⟨_, rfl, t, b, f, r, pl, rfl, SqT.of upd_same, hv, fun H1 e1 => ⟨true, rfl, ite2 (fun h => absurd h (by simp)) (fun _ => ?_)⟩⟩
    have x1 : Ex H H1 := (Ex.new ht).trans e1
    have k1 : Kp p H H1 := Kp.refl.ex x1
    refine ⟨_, rfl, _, rfl, p, a.Grid, dx, [], rfl, x1 _ _ hp, T.cl_Grid, T.f_Grid_base, (by show 0 < 1000; decide), ?_⟩
    refine ⟨_, rfl, _, rfl, p, a.Grid, dx, _, rfl, upd_same, T.cl_Grid, T.f_Grid_figures, lt1000 (ln (Nat.le_refl 0)), ?_⟩
    refine ⟨_, rfl, _, rfl, p, a.Grid, dx, _, rfl, upd_same, T.cl_Grid, T.f_Grid_reach, lt1000 (ln (ln (Nat.le_refl 0))), ?_⟩
    refine ⟨_, rfl, _, rfl, p, a.Grid, dx, _, rfl, upd_same, T.cl_Grid, T.f_Grid_places, lt1000 (ln (ln (ln (Nat.le_refl 0)))), ?_⟩
    have k2 := (((k1.set (o := HO.ins a.Grid dx (putF "base" (V.int b) []))).set (o := HO.ins a.Grid dx (putF "figures" (V.int f) (putF "base" (V.int b) [])))).set (o := HO.ins a.Grid dx (putF "reach" (V.int r) (putF "figures" (V.int f) (putF "base" (V.int b) []))))).set (o := HO.ins a.Grid dx (putF "places" (V.int pl) (putF "reach" (V.int r) (putF "figures" (V.int f) (putF "base" (V.int b) [])))))
    refine ⟨_, rfl, _, rfl, b, pl, rfl, v2, by omega, fun H2 e2 => ?_⟩
    refine ⟨_, rfl, p, a.Grid, dx, _, rfl, e2 _ _ upd_same, T.cl_Grid, T.f_Grid_unit, lt1000 (ln (ln (ln (ln (Nat.le_refl 0))))), ?_⟩
    have k3 := (k2.ex e2).set (o := HO.ins a.Grid dx (putF "unit" (V.int ((b ^ pl : Nat) : Int)) (putF "places" (V.int pl) (putF "reach" (V.int r) (putF "figures" (V.int f) (putF "base" (V.int b) []))))))
    have p3 : (upd H2 p (HO.ins a.Grid dx (putF "unit" (V.int ((b ^ pl : Nat) : Int)) (putF "places" (V.int pl) (putF "reach" (V.int r) (putF "figures" (V.int f) (putF "base" (V.int b) []))))))) p = some (HO.ins a.Grid dx (putF "unit" (V.int ((b ^ pl : Nat) : Int)) (putF "places" (V.int pl) (putF "reach" (V.int r) (putF "figures" (V.int f) (putF "base" (V.int b) [])))))) := upd_same
    generalize hH3 : (upd H2 p (HO.ins a.Grid dx (putF "unit" (V.int ((b ^ pl : Nat) : Int)) (putF "places" (V.int pl) (putF "reach" (V.int r) (putF "figures" (V.int f) (putF "base" (V.int b) []))))))) = H3 at k3 p3
    have pd : ∀ {D : Addr}, H3 D = none → D ≠ p := fun {D} hD q => by
      rw [q, p3] at hD
      cases hD
    refine ⟨_, _, rfl, rfl, _, rfl, by decide, by decide, fun D hD => lc_range (lo := 0) (n := 4) (fun i H' => Ex H3 H' ∧ H' D = some (.lst ((List.range i).map fun m => V.int ((b ^ (f + m) : Nat) : Int)))) ⟨Ex.new hD, upd_same⟩ ?_ ?_⟩
    · rintro i H' hi ⟨e4, h4⟩
      refine ⟨rfl, ?_⟩
      dsimp only [tYes]
      refine iteT ?_
      refine ⟨_, rfl, _, rfl, _, rfl, _, _, rfl, rfl, b, f + i, ?_, v2, by omega, fun H5 e5 => ⟨_, e5 _ _ h4, small1000 (by rw [List.length_map, List.length_range]; omega), Ex.mut (e4.trans e5) hD, ?_⟩⟩
      · show [V.int b, V.int ((f : Int) + (0 + (i : Int)))] = _
        rw [Int.zero_add, Int.natCast_add]
      · rw [upd_same, List.range_succ, List.map_append]
        rfl
    rintro H4 ⟨e4, h4⟩
    refine ⟨D, _, rfl, .inl ⟨SqL.of h4, fun l hl => ?_⟩⟩
    have e5 : Ex H4 (upd H4 l (.tup ((List.range 4).map fun m => V.int ((b ^ (f + m) : Nat) : Int)))) := Ex.new hl
    have l5 : (upd H4 l (.tup ((List.range 4).map fun m => V.int ((b ^ (f + m) : Nat) : Int)))) l = some (.tup ((List.range 4).map fun m => V.int ((b ^ (f + m) : Nat) : Int))) := upd_same
    generalize (upd H4 l (.tup ((List.range 4).map fun m => V.int ((b ^ (f + m) : Nat) : Int)))) = H5 at *
    have k5 := k3.ex (e4.trans e5)
    have p5 := e5 _ _ (e4 _ _ p3)
    have nlp : l ≠ p := fun q => by
      rw [q] at l5
      rw [p5] at l5
      cases l5
    refine ⟨_, rfl, p, a.Grid, dx, _, rfl, p5, T.cl_Grid, T.f_Grid_limits, lt1000 (ln (ln (ln (ln (ln (Nat.le_refl 0)))))), ?_⟩
    have k6 := k5.set (o := HO.ins a.Grid dx (putF "limits" (V.ref l) (putF "unit" (V.int ((b ^ pl : Nat) : Int)) (putF "places" (V.int pl) (putF "reach" (V.int r) (putF "figures" (V.int f) (putF "base" (V.int b) [])))))))
    have p6 : (upd H5 p (HO.ins a.Grid dx (putF "limits" (V.ref l) (putF "unit" (V.int ((b ^ pl : Nat) : Int)) (putF "places" (V.int pl) (putF "reach" (V.int r) (putF "figures" (V.int f) (putF "base" (V.int b) [])))))))) p = _ := upd_same
    have l6 : (upd H5 p (HO.ins a.Grid dx (putF "limits" (V.ref l) (putF "unit" (V.int ((b ^ pl : Nat) : Int)) (putF "places" (V.int pl) (putF "reach" (V.int r) (putF "figures" (V.int f) (putF "base" (V.int b) [])))))))) l = _ := (upd_ne nlp).trans l5
    generalize (upd H5 p (HO.ins a.Grid dx (putF "limits" (V.ref l) (putF "unit" (V.int ((b ^ pl : Nat) : Int)) (putF "places" (V.int pl) (putF "reach" (V.int r) (putF "figures" (V.int f) (putF "base" (V.int b) [])))))))) = H6 at *
    refine ⟨_, rfl, p, a.Grid, dx, _, _, rfl, p6, T.cl_Grid, T.f_Grid_limits, by rw [lookup_putF, if_pos rfl], l, rfl, ⟨_, SqT.of l6⟩, fun D2 hD2 => lc_tup (K := K) (a := l) (xs := (List.range 4).map fun m => V.int ((b ^ (f + m) : Nat) : Int)) (fun i H' => Ex H6 H' ∧ H' D2 = some (.lst ((List.range i).map fun m => V.int (((b ^ (f + m) - 1) * b ^ r : Nat) : Int)))) ⟨Ex.new hD2, upd_same⟩ (fun i H' _ q => SqT.of (q.1 _ _ l6)) ?_ ?_⟩
    · rintro i x H' hi ⟨e7, h7⟩
      have hi4 : i < 4 := by
        have := (List.getElem?_eq_some_iff.mp hi).1
        simpa using this
      have hx : x = V.int ((b ^ (f + i) : Nat) : Int) := by
        rw [List.getElem?_map, List.getElem?_range hi4] at hi
        exact (Option.some.inj hi).symm
      subst hx
      refine ⟨rfl, ?_⟩
      dsimp only [tYes]
      refine iteT ?_
      have hpos : 1 ≤ b ^ (f + i) := Nat.pow_pos (by omega)
      have h4a : b ^ (f + i) < 2 ^ 400 := pw400 v2 (by omega)
      refine ⟨_, rfl, _, _, rfl, rfl, _, rfl, _, rfl, b, r, rfl, v2, by omega, fun H8 e8 => ?_⟩
      refine ⟨_, _, rfl, rfl, wm (p5000 (k := 400) (by omega)) (p5000 (pw400 v2 (by omega))), _, e8 _ _ h7, small1000 (by rw [List.length_map, List.length_range]; omega), Ex.mut (e7.trans e8) hD2, ?_⟩
      rw [upd_same, List.range_succ, List.map_append]
      show some (HO.lst (_ ++ [V.int ((((b ^ (f + i) : Nat) : Int) - 1) * ((b ^ r : Nat) : Int))])) = some (HO.lst (_ ++ [V.int (((b ^ (f + i) - 1) * b ^ r : Nat) : Int)]))
      rw [Int.natCast_mul, Int.natCast_sub hpos]
      rfl
    rintro H7 ⟨e7, h7⟩
    have h7 : H7 D2 = some (.lst ((List.range 4).map fun m => V.int (((b ^ (f + m) - 1) * b ^ r : Nat) : Int))) := h7
    refine ⟨D2, _, rfl, .inl ⟨SqL.of h7, fun l2 hl2 => ?_⟩⟩
    have e8 : Ex H7 (upd H7 l2 (.tup ((List.range 4).map fun m => V.int (((b ^ (f + m) - 1) * b ^ r : Nat) : Int)))) := Ex.new hl2
    have l8 : (upd H7 l2 (.tup ((List.range 4).map fun m => V.int (((b ^ (f + m) - 1) * b ^ r : Nat) : Int)))) l2 = some (.tup ((List.range 4).map fun m => V.int (((b ^ (f + m) - 1) * b ^ r : Nat) : Int))) := upd_same
    generalize (upd H7 l2 (.tup ((List.range 4).map fun m => V.int (((b ^ (f + m) - 1) * b ^ r : Nat) : Int)))) = H8 at *
    have k8 := k6.ex (e7.trans e8)
    have p8 := e8 _ _ (e7 _ _ p6)
    have l8' := e8 _ _ (e7 _ _ l6)
    have nl2 : l2 ≠ p := fun q => by
      rw [q] at l8
      rw [p8] at l8
      cases l8
    refine ⟨_, rfl, p, a.Grid, dx, _, rfl, p8, T.cl_Grid, T.f_Grid_tops, lt1000 (ln (ln (ln (ln (ln (ln (Nat.le_refl 0))))))), ?_⟩
    have o5 : ((List.range 4).map fun m => V.int (((b ^ (f + m) - 1) * b ^ r : Nat) : Int))[0]? = some (V.int (((b ^ f - 1) * b ^ r : Nat) : Int)) := rfl
    refine ⟨_, rfl, p, a.Grid, dx, _, _, rfl, upd_same, T.cl_Grid, T.f_Grid_tops, by rw [lookup_putF, if_pos rfl], l2, _, _, _, rfl, rfl, SqT.of ((upd_ne nl2).trans l8), atN (m := 0) o5, ?_⟩
    refine ⟨_, rfl, p, a.Grid, dx, _, rfl, upd_same, T.cl_Grid, T.f_Grid_greatest, lt1000 (ln (ln (ln (ln (ln (ln (ln (Nat.le_refl 0)))))))), ?_⟩
    refine k _ (k8.set.set) ⟨⟨v1, v3, rfl, rfl⟩, v2, v4, v5, dx, l, l2, pl, ((b ^ pl : Nat) : Int), _, _, upd_same, ((upd_ne nlp).trans (upd_ne nlp)).trans l8', ((upd_ne nl2).trans (upd_ne nl2)).trans l8, fun m hm => ?_, fun m hm => ?_⟩
    · rw [List.getElem?_map, List.getElem?_range (by omega)]
      rfl
    · rw [List.getElem?_map, List.getElem?_range (by omega)]
      rfl
end
end My


set_option Elab.async false
set_option maxRecDepth 100000
set_option maxHeartbeats 1000000
set_option exponentiation.threshold 6000
namespace My
open PySem L2 Evl
/-! ### the law's own defs -/
/-- a pot of draws stands at p; n draws at the most were reckoned -/
def PotAt (H : Hp) (p : Addr) (n : Nat) : Prop := ∃ x y c : Int, H p = some (.lst [.int x, .int y, .int c]) ∧ 0 ≤ x ∧ x.natAbs < 2 ^ 1000 ∧ 0 ≤ y ∧ y < 2 ^ 61 ∧ 0 ≤ c ∧ c ≤ (n : Int)
theorem PotAt.mono {H : Hp} {p : Addr} {n m : Nat} (h : PotAt H p n) (hm : n ≤ m) : PotAt H p m := by
  obtain ⟨x, y, c, h1, h2, h3, h4, h5, h6, h7⟩ := h
  exact ⟨x, y, c, h1, h2, h3, h4, h5, h6, by omega⟩
theorem PotAt.ex {H H' : Hp} {p : Addr} {n : Nat} (h : PotAt H p n) (e : Ex H H') : PotAt H' p n := by
  obtain ⟨x, y, c, h1, h2⟩ := h
  exact ⟨x, y, c, e _ _ h1, h2⟩
theorem PotAt.ne {H : Hp} {p q : Addr} {n : Nat} (h : PotAt H p n) (hq : H q = none) : q ≠ p := fun e => by
  obtain ⟨x, y, c, h1, h2⟩ := h
  rw [e, h1] at hq
  cases hq
theorem Ex.kp {p : Addr} {H H' : Hp} (e : Ex H H') : Kp p H H' := fun c o h _ => e c o h
theorem Kp.trans {p : Addr} {H H1 H2 : Hp} (h : Kp p H H1) (h' : Kp p H1 H2) : Kp p H H2 := fun c o hc hn => h' c o (h c o hc hn) hn
theorem Kp.back {p : Addr} {H H1 : Hp} {q : Addr} (h : Kp p H H1) (hq : H1 q = none) (hn : q ≠ p) : H q = none := by
  cases e : H q with
  | none => rfl
  | some o => rw [h q o e hn] at hq; cases hq
def TG (K : PySem.W.Frag) (H : Hp) (t : Addr) (b f r pl : Nat) : Prop := SqT K H t [.int b, .int f, .int r, .int pl]
theorem TG.ex {K : PySem.W.Frag} {H H' : Hp} {t : Addr} {b f r pl : Nat} (h : TG K H t b f r pl) (e : Ex H H') : TG K H' t b f r pl := ex_t e h
def sp_pot (K : PySem.W.Frag) : Sp := fun vs H Q _ => ∃ (s : Addr) (ns : List Int) (place : Nat), vs = [.ref s, .int place] ∧ SqL K H s (ns.map V.int) ∧ place ≤ 4 ∧ ∀ p H', Ex H H' → H p = none → PotAt H' p 0 → Q (.ref p) H'
def sp_take : Sp := fun vs H Q _ => ∃ (p : Addr) (u : Int) (n : Nat), vs = [.ref p, .int u] ∧ PotAt H p n ∧ n ≤ 100000 ∧ 0 < u ∧ u.natAbs < 2 ^ 4000 ∧ ∀ d H', Kp p H H' → PotAt H' p (n + 1) → 0 ≤ d → d < u → Q (.int d) H'
def sp_of : Sp := fun vs H Q _ => ∃ (p s : Addr) (n : Nat) (xs : List V), vs = [.ref p, .ref s] ∧ PotAt H p n ∧ n ≤ 100000 ∧ H s = some (.lst xs) ∧ s ≠ p ∧ 0 < xs.length ∧ xs.length ≤ 100000 ∧ ∀ (i : Nat) (v : V) H', xs[i]? = some v → Kp p H H' → PotAt H' p (n + 1) → Q v H'
def sp_greatest (K : PySem.W.Frag) : Sp := fun vs H Q _ => ∃ (t : Addr) (b f r pl : Nat), vs = [.ref t] ∧ TG K H t b f r pl ∧ (2 ≤ b ∧ b ≤ 10 ∧ f ≤ 33 ∧ r ≤ 60) ∧ ∀ H', Ex H H' → Q (.int (((b ^ f - 1) * b ^ r : Nat) : Int)) H'
def sp_lspacing (K : PySem.W.Frag) : Sp := fun vs H Q _ => ∃ (t : Addr) (b f r pl : Nat) (x : Int), vs = [.ref t, .int x, .int 1] ∧ TG K H t b f r pl ∧ (2 ≤ b ∧ b ≤ 10 ∧ f ≤ 33 ∧ r ≤ 60) ∧ x.natAbs < 2 ^ 4000 ∧ ∀ H', Ex H H' → Q (.int (spc b (b ^ f) x.natAbs : Nat)) H'
def sp_has (K : PySem.W.Frag) : Sp := fun vs H Q _ => ∃ (t : Addr) (b f r pl : Nat) (x : Int), vs = [.ref t, .int x] ∧ TG K H t b f r pl ∧ (2 ≤ b ∧ b ≤ 10 ∧ f ≤ 33 ∧ r ≤ 60) ∧ x.natAbs < 2 ^ 4000 ∧ ∀ H', Ex H H' → Q (.bl (decide (x.natAbs ≤ (b ^ f - 1) * b ^ r) && decide (x % (spc b (b ^ f) x.natAbs : Nat) = 0))) H'
def sp_more (K : PySem.W.Frag) : Sp := fun vs H Q _ => ∃ (t : Addr) (b f r pl m : Nat), vs = [.ref t, .int m] ∧ TG K H t b f r pl ∧ ∀ q H', Ex H H' → H' q = some (.tup [.int b, .int ((f + m : Nat) : Int), .int r, .int pl]) → Q (.ref q) H'
def rzO (b L G : Nat) (t : Int) : V := if (rz b L t).natAbs ≤ G then .int (rz b L t) else .non
def sp_lrounded (K : PySem.W.Frag) : Sp := fun vs H Q _ => ∃ (t : Addr) (b f r pl : Nat) (x : Int) (way : Bool), vs = [.ref t, .int x, .int 1, .str (if way then "near" else "zero"), .int 0] ∧ TG K H t b f r pl ∧ (2 ≤ b ∧ b ≤ 10 ∧ f ≤ 33 ∧ r ≤ 60) ∧ x.natAbs < 2 ^ 4000 ∧
  ∀ H', Ex H H' → Q (if way then rnO b (b ^ f) ((b ^ f - 1) * b ^ r) x else rzO b (b ^ f) ((b ^ f - 1) * b ^ r) x) H'
theorem t10 : (10 : Int) ^ (60 : Int).toNat = 10 ^ 60 := by decide +kernel
theorem t300 : ((10 : Int) ^ (60 : Int).toNat) ^ (5 : Int).toNat = 10 ^ 300 := by decide +kernel
section
variable {P : Program} {w : World} {K : PySem.W.Frag} {mg : Str → Option Value} {base : Heap} {a : Ad}
theorem ok_l_take (T : Txt K mg a) : FnOk P w K mg base CX0 1 a.l_take a.l_take_fd ["pot", "upto"] sp_take := by
  refine T.F_l_take.ok sc_l_take (fun vs H Q E h => ?_) (fun cdv A outer s H vs Q E hr h => ?_)
  · obtain ⟨p, u, n, rfl, _⟩ := h
    rfl
  · obtain ⟨p, u, n, rfl, hp, hn, hu, hus, k⟩ := h
    refine ⟨_, (pss_cons (ps_if (pt_cmpR op_gt (pe_ix ix_list (pv 0) pe_int (fun _ _ => rfl)) pe_int (nomark _)) (pss_cons (ps_set (i := 4) sc_l_take.nd rfl (Or.inl rfl) (pe_op op_mod (pe_callTy call_int1 (by rfl) T.n_int (by decide +kernel) (pa_cons (pe_ix ix_list (pv 0) pe_int (fun _ _ => rfl)) pa_nil)) (pv 1)))
      (pss_cons (ps_asg (pe_op op_fdivW (pe_ix ix_list (pv 0) pe_int (fun _ _ => rfl)) (pv 1)) (pg_sub (pv 0) pe_int set_list))
      (pss_one (ps_ret (pv 4))))) pss_nil)
      (pss_cons (ps_asg (pe_op op_add (pe_ix ix_list (pv 0) pe_int (fun _ _ => rfl)) pe_int) (pg_sub (pv 0) pe_int set_list))
      (pss_cons (ps_set (i := 2) sc_l_take.nd rfl (Or.inl rfl) (pe_ix ix_list (pe_lst (pa_cons pe_int (pa_cons pe_int (pa_cons pe_int (pa_cons pe_int (pa_cons pe_int pa_nil)))))) (pe_op op_mod (pe_callTy call_int1 (by rfl) T.n_int (by decide +kernel) (pa_cons (pe_ix ix_list (pv 0) pe_int (fun _ _ => rfl)) pa_nil)) pe_int) (fun _ _ => rfl)))
      (pss_cons (ps_set (i := 3) sc_l_take.nd rfl (Or.inl rfl) (pe_op op_mod (pe_callTy call_int1 (by rfl) T.n_int (by decide +kernel) (pa_cons (pe_op op_pow (pe_callTy call_int1 (by rfl) T.n_int (by decide +kernel) (pa_cons (pe_op op_add (pe_op op_add (pe_ix ix_list (pv 0) pe_int (fun _ _ => rfl)) (pe_op op_mulW (pe_op op_mulW pe_int (pe_ix ix_list (pv 0) pe_int (fun _ _ => rfl))) (pe_ix ix_list (pv 0) pe_int (fun _ _ => rfl)))) pe_int) pa_nil)) pe_int) pa_nil)) (pv 2)))
      (pss_cons (ps_set (i := 3) sc_l_take.nd rfl (Or.inl rfl) (pe_op op_mod (pe_callTy call_int1 (by rfl) T.n_int (by decide +kernel) (pa_cons (pe_op op_mulW (pv 3) (pe_op op_add (pe_op op_mod (pe_callTy call_int1 (by rfl) T.n_int (by decide +kernel) (pa_cons (pv 3) pa_nil)) pe_int) (pe_op op_mulW pe_int (pe_ix ix_list (pv 0) pe_int (fun _ _ => rfl))))) pa_nil)) pe_int))
      (pss_one (ps_ret (pe_op op_mod (pe_callTy call_int1 (by rfl) T.n_int (by decide +kernel) (pa_cons (pe_op op_fdivW (pv 3) pe_int) pa_nil)) (pv 1))))))))), ?_⟩
    obtain ⟨x, y, c, h1, h2, h3, h4, h5, h6, h7⟩ := hp
    have a0 : atI [V.int x, V.int y, V.int c] 0 = some (.int x) := atN (m := 0) rfl
    have a1 : atI [V.int x, V.int y, V.int c] 1 = some (.int y) := atN (m := 1) rfl
    have a2 : atI [V.int x, V.int y, V.int c] 2 = some (.int c) := atN (m := 2) rfl
    refine ⟨_, rfl, p, _, _, _, rfl, rfl, SqL.of h1, a0, _, _, rfl, rfl, _, rfl, ?_⟩
    refine ite2 (fun hc => ?_) (fun hc => ?_)
    · have hx := of_decide_eq_true hc
      refine ⟨_, rfl, p, _, _, _, rfl, rfl, SqL.of h1, a0, .inl ⟨_, rfl, _, rfl, _, _, rfl, rfl, hu, ?_⟩⟩
      refine ⟨_, rfl, p, _, _, _, rfl, rfl, SqL.of h1, a0, _, rfl, _, _, rfl, rfl, wd hu (p5000 hus), _, rfl, p, _, _, 0, rfl, rfl, h1, rfl, ?_⟩
      refine ⟨_, rfl, ?_⟩
      refine k _ _ (Kp.refl.set) ⟨x / u, y, c, upd_same, Int.ediv_nonneg h2 (by omega), ?_, h4, h5, h6, by omega⟩ (Int.emod_nonneg _ (by omega)) (Int.emod_lt_of_pos _ hu)
      have := Int.natAbs_ediv_le_natAbs x u
      omega
    · refine ⟨_, rfl, p, _, _, _, rfl, rfl, SqL.of h1, a2, _, _, rfl, rfl, _, rfl, p, _, _, 2, rfl, rfl, h1, rfl, ?_⟩
      have b1 : atI (List.set [V.int x, V.int y, V.int c] 2 (V.int (c + 1))) 1 = some (.int y) := atN (m := 1) rfl
      have b2 : atI (List.set [V.int x, V.int y, V.int c] 2 (V.int (c + 1))) 2 = some (.int (c + 1)) := atN (m := 2) rfl
      obtain ⟨pr, hpr, hpr0⟩ : ∃ pr : Int, atI [V.int 2147483647, V.int 2147483629, V.int 2147483587, V.int 2147483579, V.int 2147483563] ((c + 1) % 5) = some (.int pr) ∧ 0 < pr := by
        have h5 : (c + 1) % 5 = ((0 : Nat) : Int) ∨ (c + 1) % 5 = ((1 : Nat) : Int) ∨ (c + 1) % 5 = ((2 : Nat) : Int) ∨ (c + 1) % 5 = ((3 : Nat) : Int) ∨ (c + 1) % 5 = ((4 : Nat) : Int) := by omega
        rcases h5 with h | h | h | h | h
        · rw [h]; exact ⟨_, atN (m := 0) rfl, by decide⟩
        · rw [h]; exact ⟨_, atN (m := 1) rfl, by decide⟩
        · rw [h]; exact ⟨_, atN (m := 2) rfl, by decide⟩
        · rw [h]; exact ⟨_, atN (m := 3) rfl, by decide⟩
        · rw [h]; exact ⟨_, atN (m := 4) rfl, by decide⟩
      have kp : Kp p H (upd H p (.lst (List.set [V.int x, V.int y, V.int c] 2 (V.int (c + 1))))) := Kp.refl.set
      have hq : (upd H p (.lst (List.set [V.int x, V.int y, V.int c] 2 (V.int (c + 1))))) p = some (.lst (List.set [V.int x, V.int y, V.int c] 2 (V.int (c + 1)))) := upd_same
      generalize (upd H p (.lst (List.set [V.int x, V.int y, V.int c] 2 (V.int (c + 1))))) = H1 at *
      refine ⟨by decide, fun l hl => ?_⟩
      have lp : p ≠ l := ne_of_none hq hl
      have kp2 : Kp p H (upd H1 l (.lst [V.int 2147483647, V.int 2147483629, V.int 2147483587, V.int 2147483579, V.int 2147483563])) := kp.ex (Ex.new hl)
      have hq2 : (upd H1 l (.lst [V.int 2147483647, V.int 2147483629, V.int 2147483587, V.int 2147483579, V.int 2147483563])) p = some (.lst (List.set [V.int x, V.int y, V.int c] 2 (V.int (c + 1)))) := (upd_ne lp).trans hq
      have hl2 : (upd H1 l (.lst [V.int 2147483647, V.int 2147483629, V.int 2147483587, V.int 2147483579, V.int 2147483563])) l = some (.lst [V.int 2147483647, V.int 2147483629, V.int 2147483587, V.int 2147483579, V.int 2147483563]) := upd_same
      generalize (upd H1 l (.lst [V.int 2147483647, V.int 2147483629, V.int 2147483587, V.int 2147483579, V.int 2147483563])) = H2 at *
      refine ⟨_, rfl, p, _, _, _, rfl, rfl, SqL.of hq2, b2, .inl ⟨_, rfl, _, _, rfl, rfl, (by show (0 : Int) < 5; decide), l, _, _, _, rfl, rfl, SqL.of hl2, hpr, ?_⟩⟩
      have m1 : 0 ≤ c + 1 := by omega
      have m2 : c + 1 ≤ 100001 := by omega
      have m3 : 131647 * (c + 1) * (c + 1) ≤ 131647 * 100001 * 100001 := Int.mul_le_mul (by omega) m2 m1 (by decide)
      have m4 : 0 ≤ 131647 * (c + 1) * (c + 1) := Int.mul_nonneg (by omega) m1
      refine ⟨_, rfl, p, _, _, _, rfl, rfl, SqL.of hq2, b1, _, rfl, p, _, _, _, rfl, rfl, SqL.of hq2, b2, _, _, rfl, rfl, wm (p5000 (k := 64) (by decide)) (p5000 (k := 64) (by omega)), _, rfl, p, _, _, _, rfl, rfl, SqL.of hq2, b2, _, _, rfl, rfl, wm (p5000 (k := 64) (by omega)) (p5000 (k := 64) (by omega)), _, _, rfl, rfl, _, _, rfl, rfl, .inl ⟨_, rfl, _, _, rfl, rfl, ⟨by decide, by decide, ?_⟩, .inl ⟨_, rfl, _, rfl, _, _, rfl, rfl, hpr0, ?_⟩⟩⟩
      · omega
      generalize hbl : (y + 131647 * (c + 1) * (c + 1) + 4269) ^ (3 : Int).toNat % pr = bl
      have hprs : pr < 2 ^ 31 := by
        have h5 : (c + 1) % 5 = ((0 : Nat) : Int) ∨ (c + 1) % 5 = ((1 : Nat) : Int) ∨ (c + 1) % 5 = ((2 : Nat) : Int) ∨ (c + 1) % 5 = ((3 : Nat) : Int) ∨ (c + 1) % 5 = ((4 : Nat) : Int) := by omega
        rcases h5 with h | h | h | h | h <;> rw [h] at hpr <;> cases hpr <;> decide
      have hb1 : 0 ≤ bl := by rw [← hbl]; exact Int.emod_nonneg _ (by omega)
      have hb2 : bl < 2 ^ 31 := by rw [← hbl]; exact Int.lt_trans (Int.emod_lt_of_pos _ hpr0) hprs
      refine ⟨_, rfl, _, rfl, .inl ⟨_, rfl, _, _, rfl, rfl, (by show (0 : Int) < 18089; decide), _, rfl, p, _, _, _, rfl, rfl, SqL.of hq2, b2, _, _, rfl, rfl, wm (p5000 (k := 64) (by decide)) (p5000 (k := 64) (by omega)), _, _, rfl, rfl, _, _, rfl, rfl, wm (p5000 (k := 64) (by omega)) (p5000 (k := 64) (by omega)), .inl ⟨_, rfl, _, _, rfl, rfl, (by show (0 : Int) < 2305843009213693907; decide), ?_⟩⟩⟩
      refine ⟨_, rfl, _, _, rfl, rfl, wd (by decide) (by decide +kernel), .inl ⟨_, rfl, _, rfl, _, _, rfl, rfl, hu, ?_⟩⟩
      exact k _ _ kp2 ⟨x, y, c + 1, hq2, h2, h3, h4, h5, m1, by omega⟩ (Int.emod_nonneg _ (by omega)) (Int.emod_lt_of_pos _ hu)
theorem ok_l_of (T : Txt K mg a) : FnOk P w K mg base CX0 2 a.l_of a.l_of_fd ["pot", "some"] sp_of := by
  refine T.F_l_of.ok sc_l_of (fun vs H Q E h => ?_) (fun cdv A outer s H vs Q E hr h => ?_)
  · obtain ⟨p, s, n, xs, rfl, _⟩ := h
    rfl
  · obtain ⟨p, q, n, xs, rfl, hp, hn, hs, hne, hl0, hl, k⟩ := h
    refine ⟨_, (pss_one (ps_ret (pe_ix ix_list (pv 1) (pe_call (ok_l_take T) (hr.mono (by decide)) rfl T.g_l_take T.k_l_take T.B_l_take .nil pass0 (pa_cons (pv 0) (pa_cons (pe_callB call_len_seq (by rfl) T.n_len (by decide +kernel) (pa_cons (pv 1) pa_nil)) pa_nil))) (fun _ _ => rfl)))), ?_⟩
    refine ⟨_, rfl, _, rfl, _, rfl, q, _, rfl, .inl (SqL.of hs), p, _, n, rfl, hp, hn, by omega, ?_, fun d H1 kp hp1 h0 h1 => ?_⟩
    · rw [Int.natAbs_natCast]
      exact Nat.lt_of_le_of_lt hl (by decide +kernel)
    · have hd : d = ((d.toNat : Nat) : Int) := by omega
      have hlt : d.toNat < xs.length := by omega
      exact ⟨q, _, _, _, rfl, rfl, SqL.of (kp _ _ hs hne), at_of hd (List.getElem?_eq_getElem hlt), k _ _ _ (List.getElem?_eq_getElem hlt) kp hp1⟩
theorem ok_l_grid_power (T : Txt K mg a) : FnOk P w K mg base CX0 1 a.l_grid_power a.l_grid_power_fd ["base", "many"] sp_power := by
  refine T.F_l_grid_power.ok sc_l_grid_power (fun vs H Q E h => ?_) (fun cdv A outer s H vs Q E hr h => ?_)
  · obtain ⟨b, e, rfl, _⟩ := h
    rfl
  · obtain ⟨b, n, rfl, hb, hn, k⟩ := h
    refine ⟨_, (pss_cons (ps_set (i := 2) sc_l_grid_power.nd rfl (Or.inl rfl) pe_int)
      (pss_cons (ps_for PassesOwn.never rfl (pi_range1 rfl T.n_range (pa_cons (pv 1) pa_nil)) (pg_name (i := 3) sc_l_grid_power.nd rfl (Or.inl rfl)) (pss_one (ps_set (i := 2) sc_l_grid_power.nd rfl (Or.inl rfl) (pe_op op_mulW (pv 2) (pe_callTy call_int1 (by rfl) T.n_int (by decide +kernel) (pa_cons (pv 0) pa_nil))))))
      (pss_one (ps_ret (pv 2))))), ?_⟩
    refine ⟨_, rfl, _, rfl, by omega, by omega, for_range (lo := 0) (n := n) (fun i σ H' => H' = H ∧ ∃ v, σ = [some (.int b), some (.int n), some (.int ((b ^ i : Nat) : Int)), v]) ⟨rfl, none, rfl⟩ ?_ ?_⟩
    · rintro i σ H' hi ⟨rfl, v, rfl⟩
      refine ⟨_, rfl, _, rfl, .inl ⟨_, rfl, _, _, rfl, rfl, wm (p5000 (pw400 hb (by omega))) (p5000 (k := 400) (by rw [Int.natAbs_natCast]; exact Nat.lt_of_le_of_lt hb (by decide +kernel))), rfl, some (.int (0 + (i : Int))), ?_⟩⟩
      show [_, _, some (V.int (((b ^ i : Nat) : Int) * (b : Int))), _] = _
      rw [Nat.pow_succ, Int.natCast_mul]
    · rintro σ H' ⟨rfl, v, rfl⟩
      exact ⟨_, rfl, k _ (Ex.refl _)⟩
end
section
theorem g0 {b f r pl : Nat} : atI [V.int b, V.int f, V.int r, V.int pl] 0 = some (.int b) := atN (m := 0) rfl
theorem g1 {b f r pl : Nat} : atI [V.int b, V.int f, V.int r, V.int pl] 1 = some (.int f) := atN (m := 1) rfl
theorem g2 {b f r pl : Nat} : atI [V.int b, V.int f, V.int r, V.int pl] 2 = some (.int r) := atN (m := 2) rfl
theorem g3 {b f r pl : Nat} : atI [V.int b, V.int f, V.int r, V.int pl] 3 = some (.int pl) := atN (m := 3) rfl
variable {P : Program} {w : World} {K : PySem.W.Frag} {mg : Str → Option Value} {base : Heap} {a : Ad}
theorem ok_l_grid_greatest (T : Txt K mg a) : FnOk P w K mg base CX0 2 a.l_grid_greatest a.l_grid_greatest_fd ["grid"] (sp_greatest K) := by
  refine T.F_l_grid_greatest.ok sc_l_grid_greatest (fun vs H Q E h => ?_) (fun cdv A outer s H vs Q E hr h => ?_)
  · obtain ⟨t, b, f, r, pl, rfl, _⟩ := h
    rfl
  · obtain ⟨t, b, f, r, pl, rfl, ht, ⟨hb, ub, uf, ur⟩, k⟩ := h
    refine ⟨_, (pss_one (ps_ret (pe_op op_mulW (pe_op op_sub (pe_call (ok_l_grid_power T) (hr.mono (by decide)) rfl T.g_l_grid_power T.k_l_grid_power T.B_l_grid_power .nil pass0 (pa_cons (pe_ix ix_tup (pv 0) pe_int (fun _ _ => rfl)) (pa_cons (pe_ix ix_tup (pv 0) pe_int (fun _ _ => rfl)) pa_nil))) pe_int) (pe_call (ok_l_grid_power T) (hr.mono (by decide)) rfl T.g_l_grid_power T.k_l_grid_power T.B_l_grid_power .nil pass0 (pa_cons (pe_ix ix_tup (pv 0) pe_int (fun _ _ => rfl)) (pa_cons (pe_ix ix_tup (pv 0) pe_int (fun _ _ => rfl)) pa_nil)))))), ?_⟩
    refine ⟨_, rfl, t, _, _, _, rfl, rfl, ht, g0, _, rfl, t, _, _, _, rfl, rfl, ht, g1, b, f, rfl, ub, by omega, fun H1 e1 => ?_⟩
    refine ⟨_, _, rfl, rfl, _, rfl, t, _, _, _, rfl, rfl, ht.ex e1, g0, _, rfl, t, _, _, _, rfl, rfl, ht.ex e1, g2, b, r, rfl, ub, by omega, fun H2 e2 => ?_⟩
    have hpos : 1 ≤ b ^ f := Nat.pow_pos (by omega)
    have hs : b ^ f < 2 ^ 400 := pw400 ub (by omega)
    refine ⟨_, _, rfl, rfl, wm (p5000 (k := 400) (by omega)) (p5000 (pw400 ub (by omega))), ?_⟩
    have kk := k H2 (e1.trans e2)
    rw [Int.natCast_mul, Int.natCast_sub hpos] at kk
    exact kk
theorem ok_l_grid_spacing (T : Txt K mg a) : FnOk P w K mg base CX0 2 a.l_grid_spacing a.l_grid_spacing_fd ["grid", "top", "bottom"] (sp_lspacing K) := by
  refine T.F_l_grid_spacing.ok sc_l_grid_spacing (fun vs H Q E h => ?_) (fun cdv A outer s H vs Q E hr h => ?_)
  · obtain ⟨t, b, f, r, pl, x, rfl, _⟩ := h
    rfl
  · obtain ⟨t, b, f, r, pl, x, rfl, ht, ⟨hb, ub, uf, ur⟩, hx, k⟩ := h
    refine ⟨_, (pss_cons (ps_par (i := 3) (j := 4) (by rfl) sc_l_grid_spacing.nd rfl rfl (by decide) rfl rfl (pa_cons pe_int (pa_cons (pe_call (ok_l_grid_power T) (hr.mono (by decide)) rfl T.g_l_grid_power T.k_l_grid_power T.B_l_grid_power .nil pass0 (pa_cons (pe_ix ix_tup (pv 0) pe_int (fun _ _ => rfl)) (pa_cons (pe_ix ix_tup (pv 0) pe_int (fun _ _ => rfl)) pa_nil))) pa_nil)) (by rfl))
      (pss_cons (ps_while PassesOwn.never (pt_cmpR op_ge (pe_callB call_abs (by rfl) T.n_abs (by decide +kernel) (pa_cons (pv 1) pa_nil)) (pe_op op_mulW (pe_op op_mulW (pv 2) (pv 4)) (pv 3)) (nomark _)) (pss_one (ps_set (i := 3) sc_l_grid_spacing.nd rfl (Or.inl rfl) (pe_op op_mulW (pv 3) (pe_ix ix_tup (pv 0) pe_int (fun _ _ => rfl))))))
      (pss_one (ps_ret (pv 3))))), ?_⟩
    refine ⟨_, rfl, t, _, _, _, rfl, rfl, ht, g0, _, rfl, t, _, _, _, rfl, rfl, ht, g1, b, f, rfl, ub, by omega, fun H1 e1 => ⟨_, _, rfl, ?_⟩⟩
    have hM : 1 ≤ b ^ f := Nat.pow_pos (by omega)
    have hMl : b ^ f < 2 ^ 400 := pw400 ub (by omega)
    have ht1 := ht.ex e1
    generalize hMe : b ^ f = M at *
    refine ⟨fun c σ H' => ∃ k : Nat, H' = H1 ∧ c = spx b (M * b ^ k) x.natAbs ∧ spx b M x.natAbs = k + spx b (M * b ^ k) x.natAbs ∧ M * b ^ k < 2 ^ 4010 ∧ σ = [some (.ref t), some (.int x), some (.int 1), some (.int ((b ^ k : Nat) : Int)), some (.int (M : Int))],
      ⟨_, 0, rfl, rfl, by rw [Nat.pow_zero, Nat.mul_one]; omega, by rw [Nat.pow_zero, Nat.mul_one]; exact Nat.lt_trans hMl (by decide +kernel), by rw [Nat.pow_zero]; rfl⟩, ?_⟩
    rintro c σ H' ⟨k', rfl, rfl, h1, h2, rfl⟩
    have hbk : b ^ k' < 2 ^ 4010 := Nat.lt_of_le_of_lt (Nat.le_mul_of_pos_left _ hM) h2
    refine ⟨_, rfl, _, rfl, _, rfl, _, rfl, _, _, rfl, rfl, wm (by decide +kernel) (p5000 (k := 400) hMl), _, rfl, _, _, rfl, rfl, wm (p5000 (k := 400) (by rw [Int.one_mul]; exact hMl)) (p5000 hbk), _, _, rfl, rfl, _, rfl, ?_⟩
    rw [absI, Int.one_mul]
    refine ite2 (fun hc => ?_) (fun hc => ?_)
    · have hc : M * b ^ k' ≤ x.natAbs := by
        have := of_decide_eq_true hc
        rw [← Int.natCast_mul] at this
        exact Int.ofNat_le.mp this
      refine ⟨fun σ' H2 => H2 = H' ∧ σ' = [some (.ref t), some (.int x), some (.int 1), some (.int ((b ^ (k' + 1) : Nat) : Int)), some (.int (M : Int))], ?_, ?_⟩
      · rintro σ' H2 ⟨rfl, rfl⟩
        have hpos : 1 ≤ M * b ^ k' := Nat.mul_pos hM (Nat.pow_pos (by omega))
        have hstep : spx b (M * b ^ k') x.natAbs = 1 + spx b (M * b ^ (k' + 1)) x.natAbs := by
          rw [Nat.pow_succ, ← Nat.mul_assoc]
          exact spx_ge hb hpos hc
        refine ⟨_, ?_, k' + 1, rfl, rfl, by omega, ?_, rfl⟩
        · omega
        · rw [Nat.pow_succ, ← Nat.mul_assoc]
          have : M * b ^ k' * b ≤ x.natAbs * 10 := Nat.mul_le_mul hc ub
          have h10 : 2 ^ 4000 * 10 ≤ 2 ^ 4010 := by decide +kernel
          omega
      · refine ⟨_, rfl, _, rfl, t, _, _, _, rfl, rfl, ht1, g0, _, _, rfl, rfl, wm (p5000 hbk) (p5000 (k := 400) (by rw [Int.natAbs_natCast]; exact Nat.lt_of_le_of_lt ub (by decide +kernel))), rfl, ?_⟩
        show [_, _, _, some (V.int (((b ^ k' : Nat) : Int) * (b : Int))), _] = _
        rw [Nat.pow_succ, Int.natCast_mul (b ^ k') b]
    · have hc : ¬ M * b ^ k' ≤ x.natAbs := fun z => hc (decide_eq_true (by rw [← Int.natCast_mul]; exact Int.ofNat_le.mpr z))
      refine ⟨_, rfl, ?_⟩
      have h0 : spx b (M * b ^ k') x.natAbs = 0 := spx_lt (by omega)
      have : spc b M x.natAbs = b ^ k' := by
        unfold spc
        rw [h1, h0, Nat.add_zero]
      rw [← this]
      exact k _ e1
theorem ok_l_grid_more (T : Txt K mg a) : FnOk P w K mg base CX0 1 a.l_grid_more a.l_grid_more_fd ["grid", "more"] (sp_more K) := by
  refine T.F_l_grid_more.ok sc_l_grid_more (fun vs H Q E h => ?_) (fun cdv A outer s H vs Q E hr h => ?_)
  · obtain ⟨t, b, f, r, pl, m, rfl, _⟩ := h
    rfl
  · obtain ⟨t, b, f, r, pl, m, rfl, ht, k⟩ := h
    refine ⟨_, (pss_one (ps_ret (pe_tup (pa_cons (pe_ix ix_tup (pv 0) pe_int (fun _ _ => rfl)) (pa_cons (pe_op op_add (pe_ix ix_tup (pv 0) pe_int (fun _ _ => rfl)) (pv 1)) (pa_cons (pe_ix ix_tup (pv 0) pe_int (fun _ _ => rfl)) (pa_cons (pe_ix ix_tup (pv 0) pe_int (fun _ _ => rfl)) pa_nil))))))), ?_⟩
    refine ⟨_, rfl, t, _, _, _, rfl, rfl, ht, g0, _, rfl, t, _, _, _, rfl, rfl, ht, g1, _, rfl, _, _, rfl, rfl, _, rfl, t, _, _, _, rfl, rfl, ht, g2, _, rfl, t, _, _, _, rfl, rfl, ht, g3, by show 4 ≤ sizeLine; decide, fun q hq => ?_⟩
    refine k q _ (Ex.new hq) ?_
    rw [upd_same, Int.natCast_add]
end
end My


set_option Elab.async false
set_option maxRecDepth 100000
set_option maxHeartbeats 1000000
set_option exponentiation.threshold 6000
namespace My
open PySem L2 Evl
def sp_rnd (K : PySem.W.Frag) : Sp := fun vs H Q _ => ∃ (t : Addr) (b f r pl : Nat) (x : Int) (way : Str), vs = [.ref t, .int x, .int 1, .str way, .int 0] ∧ TG K H t b f r pl ∧ (2 ≤ b ∧ b ≤ 10 ∧ f ≤ 33 ∧ r ≤ 60) ∧ x.natAbs < 2 ^ 4000 ∧
  ((way = "near" ∧ ∀ H', Ex H H' → Q (rnO b (b ^ f) ((b ^ f - 1) * b ^ r) x) H') ∨ (way = "zero" ∧ ∀ H', Ex H H' → Q (rzO b (b ^ f) ((b ^ f - 1) * b ^ r) x) H'))
section
variable {P : Program} {w : World} {K : PySem.W.Frag} {mg : Str → Option Value} {base : Heap} {a : Ad}
theorem ok_l_grid_rounded (T : Txt K mg a) : FnOk P w K mg base CX0 3 a.l_grid_rounded a.l_grid_rounded_fd ["grid", "top", "bottom", "way", "more"] (sp_rnd K) := by
  refine T.F_l_grid_rounded.ok sc_l_grid_rounded (fun vs H Q E h => ?_) (fun cdv A outer s H vs Q E hr h => ?_)
  · obtain ⟨t, b, f, r, pl, x, way, rfl, _⟩ := h
    rfl
  · obtain ⟨t, b, f, r, pl, x, way, rfl, ht, hv, hx, k⟩ := h
    refine ⟨_, (pss_cons (ps_set (i := 5) sc_l_grid_rounded.nd rfl (Or.inl rfl) (pe_call (ok_l_grid_more T) (hr.mono (by decide)) rfl T.g_l_grid_more T.k_l_grid_more T.B_l_grid_more .nil pass0 (pa_cons (pv 0) (pa_cons (pv 4) pa_nil))))
      (pss_cons (ps_set (i := 6) sc_l_grid_rounded.nd rfl (Or.inl rfl) (pe_call (ok_l_grid_spacing T) (hr.mono (by decide)) rfl T.g_l_grid_spacing T.k_l_grid_spacing T.B_l_grid_spacing .nil pass0 (pa_cons (pv 5) (pa_cons (pv 1) (pa_cons (pv 2) pa_nil)))))
      (pss_cons (ps_par (i := 7) (j := 8) (by rfl) sc_l_grid_rounded.nd rfl rfl (by decide) rfl rfl (pa_cons (pe_op op_fdivW (pe_callTy call_int1 (by rfl) T.n_int (by decide +kernel) (pa_cons (pv 1) pa_nil)) (pe_op op_mulW (pv 2) (pv 6))) (pa_cons (pe_op op_mod (pe_callTy call_int1 (by rfl) T.n_int (by decide +kernel) (pa_cons (pv 1) pa_nil)) (pe_op op_mulW (pv 2) (pv 6))) pa_nil)) (by rfl))
      (pss_cut (ps_if (pt_cmpR op_eq (pv 3) pe_str (nomark _)) (pss_cons (ps_set (i := 10) sc_l_grid_rounded.nd rfl (Or.inl rfl) (pe_op op_sub (pe_op op_mulW pe_int (pv 8)) (pe_op op_mulW (pv 2) (pv 6))))
      (pss_one (ps_set (i := 11) sc_l_grid_rounded.nd rfl (Or.inl rfl) (pe_callTy call_int1 (by rfl) T.n_int (by decide +kernel) (pa_cons (pe_or (pe_cmpR op_gt (pv 10) pe_int (nomark _)) (pe_one (pe_and (pe_cmpR op_eq (pv 10) pe_int (nomark _)) (pe_one (pe_cmpR op_eq (pe_op op_mod (pe_callTy call_int1 (by rfl) T.n_int (by decide +kernel) (pa_cons (pv 7) pa_nil)) pe_int) pe_int (nomark _)))))) pa_nil))))) (pss_one (ps_set (i := 11) sc_l_grid_rounded.nd rfl (Or.inl rfl) (pe_callTy call_int1 (by rfl) T.n_int (by decide +kernel) (pa_cons (pe_and (pe_cmpR op_gt (pv 8) pe_int (nomark _)) (pe_one (pe_or (pe_cmpR op_eq (pv 3) pe_str (nomark _)) (pe_one (pe_and (pe_cmpR op_eq (pv 3) pe_str (nomark _)) (pe_one (pe_cmpR op_lt (pv 1) pe_int (nomark _)))))))) pa_nil)))))
      (pss_cons (ps_set (i := 9) sc_l_grid_rounded.nd rfl (Or.inl rfl) (pe_op op_mulW (pe_op op_add (pv 7) (pv 11)) (pv 6)))
      (pss_one (ps_ret (pe_ifExp (pt_cmpR op_le (pe_callB call_abs (by rfl) T.n_abs (by decide +kernel) (pa_cons (pv 9) pa_nil)) (pe_call (ok_l_grid_greatest T) (hr.mono (by decide)) rfl T.g_l_grid_greatest T.k_l_grid_greatest T.B_l_grid_greatest .nil pass0 (pa_cons (pv 5) pa_nil)) (nomark _)) (pv 9) pe_non)))))))), ?_⟩
    obtain ⟨hb, ub, uf, ur⟩ := id hv
    refine ⟨_, rfl, _, rfl, t, b, f, r, pl, 0, rfl, ht, fun q H1 e1 hq => ?_⟩
    rw [Nat.add_zero] at hq
    have hq : TG K H1 q b f r pl := SqT.of hq
    refine ⟨_, rfl, _, rfl, _, rfl, q, b, f, r, pl, x, rfl, hq, hv, hx, fun H2 e2 => ?_⟩
    have hL : 1 ≤ b ^ f := Nat.pow_pos (by omega)
    have hs := spcI_pos (L := b ^ f) hb x.natAbs
    have hsz := spc_sz hb ub hL hx
    have hsz' : ((spc b (b ^ f) x.natAbs : Nat) : Int).natAbs < 2 ^ 4010 := by rw [Int.natAbs_natCast]; exact hsz
    have ern : ∀ st : Int, (((spc b (b ^ f) x.natAbs : Nat) : Int) < 2 * (x % ((spc b (b ^ f) x.natAbs : Nat) : Int)) ∨ 2 * (x % ((spc b (b ^ f) x.natAbs : Nat) : Int)) = ((spc b (b ^ f) x.natAbs : Nat) : Int) ∧ x / ((spc b (b ^ f) x.natAbs : Nat) : Int) % 2 = 1) ∧ st = 1 ∨
        ¬ (((spc b (b ^ f) x.natAbs : Nat) : Int) < 2 * (x % ((spc b (b ^ f) x.natAbs : Nat) : Int)) ∨ 2 * (x % ((spc b (b ^ f) x.natAbs : Nat) : Int)) = ((spc b (b ^ f) x.natAbs : Nat) : Int) ∧ x / ((spc b (b ^ f) x.natAbs : Nat) : Int) % 2 = 1) ∧ st = 0 → (x / ((spc b (b ^ f) x.natAbs : Nat) : Int) + st) * ((spc b (b ^ f) x.natAbs : Nat) : Int) = rn b (b ^ f) x := by
      rintro st (⟨h1, rfl⟩ | ⟨h1, rfl⟩)
      · unfold rn; rw [if_pos h1]
      · unfold rn; rw [if_neg h1, Int.add_zero]
    have erz : ∀ st : Int, (0 < x % ((spc b (b ^ f) x.natAbs : Nat) : Int) ∧ x < 0) ∧ st = 1 ∨ ¬ (0 < x % ((spc b (b ^ f) x.natAbs : Nat) : Int) ∧ x < 0) ∧ st = 0 → (x / ((spc b (b ^ f) x.natAbs : Nat) : Int) + st) * ((spc b (b ^ f) x.natAbs : Nat) : Int) = rz b (b ^ f) x := by
      rintro st (⟨h1, rfl⟩ | ⟨h1, rfl⟩)
      · unfold rz; rw [if_pos h1]
      · unfold rz; rw [if_neg h1, Int.add_zero]
    generalize ((spc b (b ^ f) x.natAbs : Nat) : Int) = s at *
    have h1s : (1 * s).natAbs < 2 ^ 4010 := by rw [Int.one_mul]; exact hsz'
    have h1p : 0 < 1 * s := by rw [Int.one_mul]; exact hs
    refine ⟨_, rfl, .inl ⟨_, rfl, _, rfl, _, rfl, _, _, rfl, rfl, wm (by decide +kernel) (p5000 hsz'), _, _, rfl, rfl, wd h1p (p5000 h1s), _, rfl, .inl ⟨_, rfl, _, rfl, _, rfl, _, _, rfl, rfl, wm (by decide +kernel) (p5000 hsz'), _, _, rfl, rfl, h1p, _, _, rfl, ?_⟩⟩⟩
    dsimp only
    rw [Int.one_mul]
    obtain ⟨q1, q2⟩ := quo_sz' hs hx
    have qm := mod_sz (t := x) hs hsz'
    refine ⟨fun σ H3 => Ex H H3 ∧ TG K H3 q b f r pl ∧ ∃ z2 st v, σ = [some (.ref t), some (.int x), some (.int 1), some (.str way), some (.int 0), some (.ref q), some (.int s), some (.int (x / s)), some (.int (x % s)), none, z2, some (.int st)] ∧ (st = 0 ∨ st = 1) ∧ (x / s + st) * s = v ∧
      ∀ H', Ex H H' → Q (if v.natAbs ≤ (b ^ f - 1) * b ^ r then .int v else .non) H', ?_, ?_⟩
    · have hq2 := hq.ex e2
      have e12 := e1.trans e2
      rcases k with ⟨rfl, k⟩ | ⟨rfl, k⟩
      · refine ⟨_, rfl, rfl, _, rfl, ?_⟩
        refine ite2 (fun _ => ?_) (fun h => absurd (by decide +kernel) h)
        refine ⟨_, rfl, _, _, rfl, rfl, wm (by decide +kernel) (p5000 qm), _, rfl, _, rfl, _, _, rfl, rfl, wm (by decide +kernel) (p5000 hsz'), _, _, rfl, rfl, ?_⟩
        dsimp only
        rw [Int.one_mul]
        refine ⟨_, rfl, _, _, rfl, rfl, _, rfl, ?_⟩
        refine ite2 (fun h => ?_) (fun h => ?_)
        · have h := of_decide_eq_true h
          exact .inr ⟨_, rfl, e12, hq2, _, 1, _, rfl, .inr rfl, ern 1 (.inl ⟨by omega, rfl⟩), k⟩
        · have h : ¬ (0 < 2 * (x % s) - s) := fun z => h (decide_eq_true z)
          refine ⟨_, rfl, rfl, _, rfl, ?_⟩
          refine ite2 (fun h2 => ?_) (fun h2 => ?_)
          · have h2 : 2 * (x % s) - s = 0 := by simpa using h2
            refine ⟨_, rfl, .inl ⟨_, rfl, _, _, rfl, rfl, (by show (0 : Int) < 2; decide), rfl, ?_⟩⟩
            refine .inr ⟨_, rfl, e12, hq2, _, if decide (V.int (x / s % 2) = V.int 1) = true then 1 else 0, _, rfl, ?_, ern _ ?_, k⟩
            · split
              · exact .inr rfl
              · exact .inl rfl
            · by_cases h3 : x / s % 2 = 1
              · exact .inl ⟨.inr ⟨by omega, h3⟩, by rw [h3]; rfl⟩
              · exact .inr ⟨fun z => z.elim (fun z => by omega) (fun z => h3 z.2), by rw [if_neg]; simpa using h3⟩
          · have h2 : ¬ 2 * (x % s) - s = 0 := by simpa using h2
            exact .inr ⟨_, rfl, e12, hq2, _, 0, _, rfl, .inl rfl, ern 0 (.inr ⟨fun z => z.elim (fun z => by omega) (fun z => by omega), rfl⟩), k⟩
      · refine ⟨_, rfl, rfl, _, rfl, ?_⟩
        refine ite2 (fun h => absurd h (by decide +kernel)) (fun _ => ?_)
        refine ⟨_, rfl, _, _, rfl, rfl, _, rfl, ?_⟩
        refine ite2 (fun h => ?_) (fun h => ?_)
        · have h := of_decide_eq_true h
          refine ⟨_, rfl, rfl, _, rfl, ?_⟩
          refine ite2 (fun h => absurd h (by decide +kernel)) (fun _ => ?_)
          refine ⟨_, rfl, rfl, _, rfl, ?_⟩
          refine ite2 (fun _ => ?_) (fun h => absurd (by decide +kernel) h)
          refine ⟨_, rfl, _, _, rfl, rfl, ?_⟩
          refine .inr ⟨_, rfl, e12, hq2, _, if decide (x < 0) = true then 1 else 0, _, rfl, ?_, erz _ ?_, k⟩
          · split
            · exact .inr rfl
            · exact .inl rfl
          · by_cases h3 : x < 0
            · exact .inl ⟨⟨h, h3⟩, by rw [if_pos (decide_eq_true h3)]⟩
            · exact .inr ⟨fun z => h3 z.2, by rw [if_neg]; simpa using h3⟩
        · have h : ¬ 0 < x % s := fun z => h (decide_eq_true z)
          exact .inr ⟨_, rfl, e12, hq2, _, 0, _, rfl, .inl rfl, erz 0 (.inr ⟨fun z => h z.1, rfl⟩), k⟩
    · rintro σ H3 ⟨e3, hq3, z2, st, v, rfl, hst, hv2, kk⟩
      have hsz2 : (x / s + st).natAbs < 2 ^ 4001 := by
        rcases hst with rfl | rfl
        · rw [Int.add_zero]; exact q1
        · exact q2
      refine ⟨_, rfl, _, rfl, _, _, rfl, rfl, _, rfl, _, _, rfl, rfl, wm (p5000 hsz2) (p5000 hsz'), ?_⟩
      dsimp only
      rw [hv2]
      refine ⟨_, rfl, _, rfl, _, rfl, q, b, f, r, pl, rfl, hq3, hv, fun H4 e4 => ⟨_, _, rfl, rfl, _, rfl, ?_⟩⟩
      rw [absI]
      have kq := kk H4 (e3.trans e4)
      refine ite2 (fun h => ?_) (fun h => ?_)
      · have h := Int.ofNat_le.mp (of_decide_eq_true h)
        rw [if_pos h] at kq
        exact ⟨_, rfl, kq⟩
      · have h : ¬ v.natAbs ≤ (b ^ f - 1) * b ^ r := fun z => h (decide_eq_true (Int.ofNat_le.mpr z))
        rw [if_neg h] at kq
        exact kq
end
end My


set_option Elab.async false
set_option maxRecDepth 100000
set_option maxHeartbeats 1000000
set_option exponentiation.threshold 6000
namespace My
open PySem L2 Evl
def okg (b f r : Nat) : Prop := 2 ≤ b ∧ b ≤ 10 ∧ 1 ≤ f ∧ f ≤ 30 ∧ r ≤ 60
def gG (b f r : Nat) : Nat := (b ^ f - 1) * b ^ r
theorem okg.gr {b f r : Nat} (h : okg b f r) : Gr b f r (b ^ f) (gG b f r) := ⟨h.1, h.2.2.1, rfl, rfl⟩
theorem okg.bG {b f r : Nat} (h : okg b f r) : gG b f r < 2 ^ 400 := by
  have h1 := h.gr.Gl
  rw [← Nat.pow_add] at h1
  exact Nat.lt_trans h1 (pw400 h.2.1 (by have := h.2.2.2.1; have := h.2.2.2.2; omega))
theorem okg.v {b f r : Nat} (h : okg b f r) : 2 ≤ b ∧ b ≤ 10 ∧ f ≤ 33 ∧ r ≤ 60 := ⟨h.1, h.2.1, by have := h.2.2.2.1; omega, h.2.2.2.2⟩
theorem TG.kp {K : PySem.W.Frag} {H H' : Hp} {t p : Addr} {b f r pl : Nat} (h : H t = some (.tup [.int b, .int f, .int r, .int pl])) (e : Kp p H H') (hn : t ≠ p) : TG K H' t b f r pl := SqT.of (e _ _ h hn)
theorem rz_onG2 {b f r L G : Nat} (g : Gr b f r L G) {t : Int} (h : (rz b L t).natAbs ≤ G) : OnG b L G (rz b L t) := by
  obtain ⟨q, e, h1⟩ := rz_cases (L := L) g.hb t
  have hu : t.natAbs < L * spc b L t.natAbs := spx_up g.hb (by have := g.L1; omega)
  exact onG_mul (k := spx b L t.natAbs) (q := q) g h (by show _ ≤ L * spc b L t.natAbs; omega) e
def sp_a_number (K : PySem.W.Frag) : Sp := fun vs H Q _ => ∃ (p t : Addr) (n b f r pl : Nat), vs = [.ref p, .ref t] ∧ PotAt H p n ∧ n + 10 ≤ 100000 ∧ H t = some (.tup [.int b, .int f, .int r, .int pl]) ∧ t ≠ p ∧ okg b f r ∧
  ∀ z H', Kp p H H' → PotAt H' p (n + 4) → OnG b (b ^ f) (gG b f r) z → Q (.int z) H'
def sp_cells (K : PySem.W.Frag) : Sp := fun vs H Q _ => ∃ (s : Addr) (ns : List Int) (m : Nat), vs = [.ref s, .int m] ∧ SqL K H s (ns.map V.int) ∧ 1 ≤ m ∧ m ≤ 5 ∧ ∀ (l : Addr) (k : Nat) H', Ex H H' → k ≤ m → H' l = some (.lst ((List.range k).map fun (i : Nat) => V.int (i : Int))) → Q (.ref l) H'
theorem ne_tup {H : Hp} {t p : Addr} {xs : List V} {n : Nat} (h : H t = some (.tup xs)) (hp : PotAt H p n) : t ≠ p := fun e => by
  obtain ⟨x, y, c, h1, _⟩ := hp
  rw [e, h1] at h
  cases h
section
variable {P : Program} {w : World} {K : PySem.W.Frag} {mg : Str → Option Value} {base : Heap} {a : Ad}
theorem ok_l_grid_a_number (T : Txt K mg a) : FnOk P w K mg base CX0 4 a.l_grid_a_number a.l_grid_a_number_fd ["pot", "grid"] (sp_a_number K) := by
  refine T.F_l_grid_a_number.ok sc_l_grid_a_number (fun vs H Q E h => ?_) (fun cdv A outer s H vs Q E hr h => ?_)
  · obtain ⟨p, t, n, b, f, r, pl, rfl, _⟩ := h
    rfl
  · obtain ⟨p, t, n, b, f, r, pl, rfl, hp, hn, ht, hne, hok, k⟩ := h
    refine ⟨_, (pss_cons (ps_par (i := 2) (j := 3) (by rfl) sc_l_grid_a_number.nd rfl rfl (by decide) rfl rfl (pa_cons (pe_call (ok_l_take T) (hr.mono (by decide)) rfl T.g_l_take T.k_l_take T.B_l_take .nil pass0 (pa_cons (pv 0) (pa_cons pe_int pa_nil))) (pa_cons (pe_call (ok_l_grid_greatest T) (hr.mono (by decide)) rfl T.g_l_grid_greatest T.k_l_grid_greatest T.B_l_grid_greatest .nil pass0 (pa_cons (pv 1) pa_nil)) pa_nil)) (by rfl))
      (pss_cut (ps_if (pt_cmpR op_eq (pv 2) pe_int (nomark _)) (pss_one (ps_set (i := 4) sc_l_grid_a_number.nd rfl (Or.inl rfl) (pe_callB (call_min2 rfl) (by rfl) T.n_min (by decide +kernel) (pa_cons (pv 3) (pa_cons (pe_call (ok_l_take T) (hr.mono (by decide)) rfl T.g_l_take T.k_l_take T.B_l_take .nil pass0 (pa_cons (pv 0) (pa_cons pe_int pa_nil))) pa_nil))))) (pss_one (ps_if (pt_cmpR op_lt (pv 2) pe_int (nomark _)) (pss_cons (ps_set (i := 5) sc_l_grid_a_number.nd rfl (Or.inl rfl) (pe_call (ok_l_grid_power T) (hr.mono (by decide)) rfl T.g_l_grid_power T.k_l_grid_power T.B_l_grid_power .nil pass0 (pa_cons (pe_ix ix_tup (pv 1) pe_int (fun _ _ => rfl)) (pa_cons (pe_op op_add (pe_ix ix_tup (pv 1) pe_int (fun _ _ => rfl)) (pe_call (ok_l_take T) (hr.mono (by decide)) rfl T.g_l_take T.k_l_take T.B_l_take .nil pass0 (pa_cons (pv 0) (pa_cons (pe_op op_add (pe_ix ix_tup (pv 1) pe_int (fun _ _ => rfl)) pe_int) pa_nil)))) pa_nil))))
      (pss_cons (ps_set (i := 4) sc_l_grid_a_number.nd rfl (Or.inl rfl) (pe_call (ok_l_grid_rounded T) (hr.mono (by decide)) rfl T.g_l_grid_rounded T.k_l_grid_rounded T.B_l_grid_rounded .nil pass0 (pa_cons (pv 1) (pa_cons (pe_op op_add (pv 5) (pe_call (ok_l_of T) (hr.mono (by decide)) rfl T.g_l_of T.k_l_of T.B_l_of .nil pass0 (pa_cons (pv 0) (pa_cons (pe_lst (pa_cons pe_int (pa_cons (pe_un un_neg pe_int) (pa_cons pe_int pa_nil)))) pa_nil)))) (pa_cons pe_int (pa_cons pe_str (pa_cons pe_int pa_nil)))))))
      (pss_one (ps_set (i := 4) sc_l_grid_a_number.nd rfl (Or.inl rfl) (pe_ifExp (pt_cmpR op_isN (pv 4) pe_non (nomark _)) (pv 3) (pv 4)))))) (pss_one (ps_if (pt_cmpR op_eq (pv 2) pe_int (nomark _)) (pss_cons (ps_set (i := 6) sc_l_grid_a_number.nd rfl (Or.inl rfl) (pe_op op_mulW (pe_call (ok_l_take T) (hr.mono (by decide)) rfl T.g_l_take T.k_l_take T.B_l_take .nil pass0 (pa_cons (pv 0) (pa_cons pe_int pa_nil))) (pe_call (ok_l_grid_power T) (hr.mono (by decide)) rfl T.g_l_grid_power T.k_l_grid_power T.B_l_grid_power .nil pass0 (pa_cons (pe_ix ix_tup (pv 1) pe_int (fun _ _ => rfl)) (pa_cons (pe_ix ix_tup (pv 1) pe_int (fun _ _ => rfl)) pa_nil)))))
      (pss_one (ps_set (i := 4) sc_l_grid_a_number.nd rfl (Or.inl rfl) (pe_call (ok_l_grid_rounded T) (hr.mono (by decide)) rfl T.g_l_grid_rounded T.k_l_grid_rounded T.B_l_grid_rounded .nil pass0 (pa_cons (pv 1) (pa_cons (pe_callB (call_max2 rfl) (by rfl) T.n_max (by decide +kernel) (pa_cons pe_int (pa_cons (pe_op op_sub (pv 3) (pv 6)) pa_nil))) (pa_cons pe_int (pa_cons pe_str (pa_cons pe_int pa_nil))))))))) (pss_one (ps_set (i := 4) sc_l_grid_a_number.nd rfl (Or.inl rfl) (pe_call (ok_l_grid_rounded T) (hr.mono (by decide)) rfl T.g_l_grid_rounded T.k_l_grid_rounded T.B_l_grid_rounded .nil pass0 (pa_cons (pv 1) (pa_cons (pe_call (ok_l_take T) (hr.mono (by decide)) rfl T.g_l_take T.k_l_take T.B_l_take .nil pass0 (pa_cons (pv 0) (pa_cons (pe_op op_add (pv 3) pe_int) pa_nil))) (pa_cons pe_int (pa_cons pe_str (pa_cons pe_int pa_nil)))))))))))))
      (pss_one (ps_ret (pe_ifExp (pt_cmpR op_eq (pe_call (ok_l_take T) (hr.mono (by decide)) rfl T.g_l_take T.k_l_take T.B_l_take .nil pass0 (pa_cons (pv 0) (pa_cons pe_int pa_nil))) pe_int (nomark _)) (pe_un un_neg (pv 4)) (pv 4)))))), ?_⟩
    obtain ⟨hb, ub, f1, uf, ur⟩ := id hok
    have hG := hok.bG
    have hG' : gG b f r = (b ^ f - 1) * b ^ r := rfl
    refine ⟨_, rfl, p, 6, n, rfl, hp, by omega, by decide, by decide +kernel, fun d H1 k1 p1 d0 d6 => ?_⟩
    refine ⟨_, rfl, t, b, f, r, pl, rfl, TG.kp ht k1 hne, hok.v, fun H2 e2 => ⟨_, _, rfl, ?_⟩⟩
    have k2 := k1.ex e2
    have p2 := p1.ex e2
    rw [← hG']
    have rzin : ∀ z : Int, z.natAbs ≤ gG b f r → rzO b (b ^ f) (gG b f r) z = .int (rz b (b ^ f) z) := fun z hz => if_pos (rz_le hok.gr.hb hz)
    have szG : ∀ z : Int, z.natAbs ≤ gG b f r → z.natAbs < 2 ^ 4000 := fun z hz => Nat.lt_of_le_of_lt hz (Nat.lt_trans hG (by decide +kernel))
    refine ⟨fun σ H3 => Kp p H H3 ∧ PotAt H3 p (n + 3) ∧ ∃ (z : Int) (z1 z2 : Option V), σ = [some (.ref p), some (.ref t), some (.int d), some (.int (gG b f r)), some (.int z), z1, z2] ∧ OnG b (b ^ f) (gG b f r) z, ?_, ?_⟩
    · refine ⟨_, rfl, rfl, _, rfl, ?_⟩
      refine ite2 (fun h => ?_) (fun h => ?_)
      · refine ⟨_, rfl, _, rfl, p, 3, n + 1, rfl, p2, by omega, by decide, by decide +kernel, fun d2 H3 k3 p3 e0 e3 => ?_⟩
        refine ⟨_, _, rfl, k2.trans k3, p3.mono (by omega), _, none, none, rfl, ?_⟩
        split
        · exact onG_two hok.gr e0 e3 (by omega)
        · exact onG_top hok.gr
      · refine ⟨_, rfl, _, _, rfl, rfl, _, rfl, ?_⟩
        refine ite2 (fun h => ?_) (fun h => ?_)
        · refine ⟨_, rfl, t, _, _, _, rfl, rfl, TG.kp ht k2 hne, g0, _, rfl, t, _, _, _, rfl, rfl, TG.kp ht k2 hne, g1, _, rfl, _, rfl, t, _, _, _, rfl, rfl, TG.kp ht k2 hne, g2, _, _, rfl, rfl, p, (r : Int) + 1, n + 1, rfl, p2, by omega, by omega, Nat.lt_of_le_of_lt (by omega : ((r : Int) + 1).natAbs ≤ 61) (by decide +kernel), fun d2 H3 k3 p3 e0 e3 => ?_⟩
          have k3' := k2.trans k3
          refine ⟨_, _, rfl, rfl, b, f + d2.toNat, ?_, ub, by omega, fun H4 e4 => ?_⟩
          · show [V.int b, V.int ((f : Int) + d2)] = [V.int b, V.int ((f + d2.toNat : Nat) : Int)]
            have : (f : Int) + d2 = ((f + d2.toNat : Nat) : Int) := by omega
            rw [this]
          have k4 := k3'.ex e4
          have p4 := p3.ex e4
          refine ⟨_, rfl, _, rfl, _, rfl, _, rfl, by decide, fun l hl => ?_⟩
          have k5 := k4.ex (Ex.new (o := .lst [V.int 0, V.int (-1), V.int 1]) hl)
          have p5 := p4.ex (Ex.new (o := .lst [V.int 0, V.int (-1), V.int 1]) hl)
          refine ⟨p, l, n + 2, [V.int 0, V.int (-1), V.int 1], rfl, p5, by omega, upd_same, p4.ne hl, by decide, by decide, fun i v H6 hv k6 p6 => ?_⟩
          obtain ⟨z, rfl, hz⟩ : ∃ z : Int, v = .int z ∧ -1 ≤ z ∧ z ≤ 1 := by
            match i, hv with
            | 0, hv => cases hv; exact ⟨0, rfl, by decide, by decide⟩
            | 1, hv => cases hv; exact ⟨-1, rfl, by decide, by decide⟩
            | 2, hv => cases hv; exact ⟨1, rfl, by decide, by decide⟩
          have k7 := k5.trans k6
          have hpw : b ^ (f + d2.toNat) < 2 ^ 400 := pw400 ub (by omega)
          have hsz : (((b ^ (f + d2.toNat) : Nat) : Int) + z).natAbs < 2 ^ 4000 := by
            have h10 : 2 ^ 400 + 2 < 2 ^ 4000 := by decide +kernel
            omega
          refine ⟨_, _, rfl, rfl, t, b, f, r, pl, _, "zero", rfl, TG.kp ht k7 hne, hok.v, hsz, .inr ⟨rfl, fun H8 e8 => ?_⟩⟩
          have k8 := k7.ex e8
          have p8 := p6.ex e8
          rw [← hG']
          unfold rzO
          by_cases hle : (rz b (b ^ f) (((b ^ (f + d2.toNat) : Nat) : Int) + z)).natAbs ≤ gG b f r
          · rw [if_pos hle]
            refine ⟨_, rfl, rfl, _, rfl, ?_⟩
            refine ite2 (fun h => absurd h (by simp)) (fun _ => ?_)
            exact ⟨_, rfl, k8, p8.mono (by omega), _, _, none, rfl, rz_onG2 hok.gr hle⟩
          · rw [if_neg hle]
            refine ⟨_, rfl, rfl, _, rfl, ?_⟩
            refine ite2 (fun _ => ?_) (fun h => absurd (by simp) h)
            exact ⟨_, rfl, k8, p8.mono (by omega), _, _, none, rfl, onG_top hok.gr⟩
        · refine ⟨_, rfl, rfl, _, rfl, ?_⟩
          refine ite2 (fun h => ?_) (fun h => ?_)
          · refine ⟨_, rfl, p, 3, n + 1, rfl, p2, by omega, by decide, by decide +kernel, fun d2 H3 k3 p3 e0 e3 => ?_⟩
            have k3' := k2.trans k3
            refine ⟨_, rfl, t, _, _, _, rfl, rfl, TG.kp ht k3' hne, g0, _, rfl, t, _, _, _, rfl, rfl, TG.kp ht k3' hne, g2, b, r, rfl, ub, by omega, fun H4 e4 => ?_⟩
            have hpw : b ^ r < 2 ^ 400 := pw400 ub (by omega)
            refine ⟨_, _, rfl, rfl, wm (p5000 (k := 64) (by omega)) (p5000 hpw), ?_⟩
            have k4 := k3'.ex e4
            have p4 := p3.ex e4
            refine ⟨_, rfl, _, rfl, _, rfl, _, _, rfl, rfl, _, _, rfl, ?_⟩
            have hz : (if (gG b f r : Int) - d2 * ((b ^ r : Nat) : Int) > 0 then (gG b f r : Int) - d2 * ((b ^ r : Nat) : Int) else 0).natAbs ≤ gG b f r := by
              have : 0 ≤ d2 * ((b ^ r : Nat) : Int) := Int.mul_nonneg e0 (by omega)
              split <;> omega
            refine ⟨t, b, f, r, pl, _, "zero", rfl, TG.kp ht k4 hne, hok.v, szG _ hz, .inr ⟨rfl, fun H5 e5 => ?_⟩⟩
            rw [← hG', rzin _ hz]
            exact ⟨k4.ex e5, (p4.ex e5).mono (by omega), _, none, _, rfl, rz_onG hok.gr hz⟩
          · refine ⟨_, rfl, _, rfl, _, rfl, _, _, rfl, rfl, p, _, n + 1, rfl, p2, by omega, by omega, Nat.lt_of_le_of_lt (by omega : ((gG b f r : Int) + 1).natAbs ≤ gG b f r + 1) (Nat.lt_of_lt_of_le (Nat.succ_lt_succ hG) (by decide +kernel)), fun d2 H3 k3 p3 e0 e3 => ?_⟩
            have k3' := k2.trans k3
            have hz : d2.natAbs ≤ gG b f r := by omega
            refine ⟨t, b, f, r, pl, d2, "zero", rfl, TG.kp ht k3' hne, hok.v, szG _ hz, .inr ⟨rfl, fun H5 e5 => ?_⟩⟩
            rw [← hG', rzin _ hz]
            exact ⟨k3'.ex e5, (p3.ex e5).mono (by omega), _, none, none, rfl, rz_onG hok.gr hz⟩
    · rintro σ H3 ⟨k3, p3, z, z1, z2, rfl, hz⟩
      refine ⟨_, rfl, p, 3, n + 3, rfl, p3, by omega, by decide, by decide +kernel, fun d2 H4 k4 p4 e0 e3 => ⟨rfl, _, rfl, ?_⟩⟩
      refine ite2 (fun _ => ?_) (fun _ => ?_)
      · exact ⟨_, rfl, _, rfl, k _ H4 (k3.trans k4) p4 hz.neg⟩
      · exact ⟨_, rfl, k _ H4 (k3.trans k4) p4 hz⟩
theorem ok_l_cells (T : Txt K mg a) : FnOk P w K mg base CX0 1 a.l_cells a.l_cells_fd ["script", "most"] (sp_cells K) := by
  refine T.F_l_cells.ok sc_l_cells (fun vs H Q E h => ?_) (fun cdv A outer s H vs Q E hr h => ?_)
  · obtain ⟨q, ns, m, rfl, _⟩ := h
    rfl
  · obtain ⟨q, ns, m, rfl, hs, h1, h5, k⟩ := h
    refine ⟨_, (pss_one (ps_ret (pe_listRg rfl rfl T.n_list (prg_1 rfl T.n_range (pe_callB (call_max2 rfl) (by rfl) T.n_max (by decide +kernel) (pa_cons pe_int (pa_cons (pe_callB (call_min2 rfl) (by rfl) T.n_min (by decide +kernel) (pa_cons (pv 1) (pa_cons (pe_callB call_len_seq (by rfl) T.n_len (by decide +kernel) (pa_cons (pv 0) pa_nil)) pa_nil))) pa_nil))))))), ?_⟩
    refine ⟨_, rfl, _, rfl, q, _, rfl, .inl hs, _, _, rfl, _, _, rfl, _, rfl, ⟨by decide, by decide, ?_, ?_, ?_⟩, fun l hl => ?_⟩
    · split <;> split <;> omega
    · split <;> split <;> omega
    · split <;> split <;> omega
    · obtain ⟨j, hj, hjm⟩ : ∃ j : Nat, (if (if ((ns.map V.int).length : Int) < (m : Int) then ((ns.map V.int).length : Int) else (m : Int)) > 1 then (if ((ns.map V.int).length : Int) < (m : Int) then ((ns.map V.int).length : Int) else (m : Int)) else 1) = (j : Int) ∧ j ≤ m := by
        refine ⟨(if (if ((ns.map V.int).length : Int) < (m : Int) then ((ns.map V.int).length : Int) else (m : Int)) > 1 then (if ((ns.map V.int).length : Int) < (m : Int) then ((ns.map V.int).length : Int) else (m : Int)) else 1).toNat, ?_, ?_⟩ <;> split <;> split <;> omega
      rw [hj]
      refine k l j _ (Ex.new hl) hjm ?_
      rw [upd_same]
      unfold rgV
      have : ((j : Int) - 0).toNat = j := by omega
      rw [this]
      congr 2
      exact List.map_congr_left fun i _ => by rw [Int.zero_add]
end
end My


set_option Elab.async false
set_option maxRecDepth 100000
set_option maxHeartbeats 1000000
set_option exponentiation.threshold 6000
namespace My
open PySem L2 Evl
def Lst (xs : List Int) : Prop := ∃ ys m, xs = ys ++ [m] ∧ (1 : Int) ≤ m
theorem lst_app (xs : List Int) {ys : List Int} (h : ∀ y ∈ ys, (1 : Int) ≤ y) (h0 : ys ≠ []) : Lst (xs ++ ys) :=
  ⟨xs ++ ys.dropLast, ys.getLast h0, by rw [List.append_assoc, List.dropLast_concat_getLast], h _ (List.getLast_mem h0)⟩
def sp_ladder (K : PySem.W.Frag) : Sp := fun vs H Q _ => ∃ (t : Addr) (b f r pl : Nat), vs = [.ref t] ∧ TG K H t b f r pl ∧ okg b f r ∧ b ^ f ≤ 1000 ∧
  ∀ (l : Addr) (xs : List Int) H', H l = none → Ex H H' → H' l = some (.lst (iv xs)) → (∀ x ∈ xs, OnG b (b ^ f) (gG b f r) x) → 0 < xs.length → xs.length ≤ 1000 * (r + 1) → Lst xs → Q (.ref l) H'
def sp_small : Sp := fun vs H Q _ => ∃ (p : Addr) (n : Nat), vs = [.ref p] ∧ PotAt H p n ∧ n + 10 ≤ 100000 ∧
  ∀ (q t l : Addr) (b f r pl : Nat) (xs : List Int) H', Kp p H H' → PotAt H' p (n + 1) → H' q = some (.tup [.ref t, .ref l]) → H' t = some (.tup [.int b, .int f, .int r, .int pl]) → H' l = some (.lst (iv xs)) → okg b f r → pl ≤ 30 → (∀ x ∈ xs, OnG b (b ^ f) (gG b f r) x) → 0 < xs.length → xs.length ≤ 61000 → Lst xs → gG b f r ≤ 900 → l ≠ p → Q (.ref q) H'
theorem lo_facts {M b : Nat} (hb : 2 ≤ b) : 0 ≤ ((M : Nat) : Int) / (b : Int) ∧ ((M : Nat) : Int) / (b : Int) ≤ (M : Int) := by
  refine ⟨Int.ediv_nonneg (by omega) (by omega), ?_⟩
  exact Int.ediv_le_self _ (by omega)
theorem b_sz (c : Bool) : (if c = true then (1 : Int) else 0).natAbs < 2 ^ 5000 := by cases c <;> decide +kernel
theorem own_sz (z : Int) (c : Bool) : 0 ≤ z % (((10 : Int) ^ (60 : Int).toNat) ^ (5 : Int).toNat) * (if c = true then 1 else 0) ∧ (z % (((10 : Int) ^ (60 : Int).toNat) ^ (5 : Int).toNat) * (if c = true then 1 else 0)).natAbs < 2 ^ 1000 := by
  rw [t300]
  have h0 : (0 : Int) < 10 ^ 300 := by decide +kernel
  have h1 := Int.emod_nonneg z (show (10 : Int) ^ 300 ≠ 0 by omega)
  have h2 := Int.emod_lt_of_pos z h0
  have h3 : (10 : Int) ^ 300 < 2 ^ 1000 := by decide +kernel
  cases c
  · rw [if_neg (by decide), Int.mul_zero]
    exact ⟨by omega, by decide +kernel⟩
  · rw [if_pos rfl, Int.mul_one]
    exact ⟨h1, by omega⟩
section
variable {P : Program} {w : World} {K : PySem.W.Frag} {mg : Str → Option Value} {base : Heap} {a : Ad}
theorem ok_l_grid_ladder (T : Txt K mg a) : FnOk P w K mg base CX0 2 a.l_grid_ladder a.l_grid_ladder_fd ["grid"] (sp_ladder K) := by
  refine T.F_l_grid_ladder.ok sc_l_grid_ladder (fun vs H Q E h => ?_) (fun cdv A outer s H vs Q E hr h => ?_)
  · obtain ⟨t, b, f, r, pl, rfl, _⟩ := h
    rfl
  · obtain ⟨t, b, f, r, pl, rfl, ht, hok, hM, k⟩ := h
    refine ⟨_, (pss_cons (ps_asg (pe_tup (pa_cons (pe_call (ok_l_grid_power T) (hr.mono (by decide)) rfl T.g_l_grid_power T.k_l_grid_power T.B_l_grid_power .nil pass0 (pa_cons (pe_ix ix_tup (pv 0) pe_int (fun _ _ => rfl)) (pa_cons (pe_ix ix_tup (pv 0) pe_int (fun _ _ => rfl)) pa_nil))) (pa_cons pe_int pa_nil))) (pg_tup rfl (pgs_cons (pg_name (i := 1) sc_l_grid_ladder.nd rfl (Or.inl rfl)) (pgs_cons (pg_name (i := 2) sc_l_grid_ladder.nd rfl (Or.inr rfl)) pgs_nil))))
      (pss_cons (ps_set (i := 3) sc_l_grid_ladder.nd rfl (Or.inl rfl) (pe_listRg rfl rfl T.n_list (prg_1 rfl T.n_range (pv 1))))
      (pss_cons (ps_for PassesOwn.never rfl (pi_range1 rfl T.n_range (pa_cons (pe_ix ix_tup (pv 0) pe_int (fun _ _ => rfl)) pa_nil)) (pg_name (i := 4) sc_l_grid_ladder.nd rfl (Or.inl rfl)) (pss_cons (ps_set (i := 2) sc_l_grid_ladder.nd rfl (Or.inr rfl) (pe_op op_mulW (pv 2) (pe_ix ix_tup (pv 0) pe_int (fun _ _ => rfl))))
      (pss_one (ps_expr (pe_bm PySem.F.plainAttrs_list PySem.F.slot_list_extend PySem.F.type_list_extend mt_extend (pv 3) (pa_cons (pe_lc (own := [("at", 5)]) (g := gName 5) (by rfl) sc_l_grid_ladder.nd (pi_range2 rfl T.n_range (pa_cons (pe_op op_fdivW (pv 1) (pe_ix ix_tup (pv 0) pe_int (fun _ _ => rfl))) (pa_cons (pv 1) pa_nil))) (blkOk_by (own := [("at", 5)]) (N := N_l_grid_ladder) (sc := defScope s_l_grid_ladder) (by decide +kernel)) (fun _ _ _ _ _ => pg_name (i := 5) sc_l_grid_ladder.nd rfl (Or.inl rfl)) (fun _ _ _ _ _ => pts_nil) (fun _ _ _ _ _ => (pe_op op_mulW (pv 2) (pv 5)))) pa_nil))))))
      (pss_one (ps_ret (pv 3)))))), ?_⟩
    obtain ⟨hb, ub, f1, uf, ur⟩ := id hok
    have gr := hok.gr
    refine ⟨_, rfl, t, _, _, _, rfl, rfl, ht, g0, _, rfl, t, _, _, _, rfl, rfl, ht, g1, b, f, rfl, ub, by omega, fun H1 e1 => ⟨by show 2 ≤ sizeLine; decide, fun u hu => ?_⟩⟩
    refine ⟨u, _, rfl, SqT.of upd_same, rfl, _, _, rfl, _, _, rfl, rfl, ?_⟩
    have e2 : Ex H (upd H1 u (.tup [V.int ((b ^ f : Nat) : Int), V.int 1])) := e1.trans (Ex.new hu)
    generalize (upd H1 u (.tup [V.int ((b ^ f : Nat) : Int), V.int 1])) = H2 at *
    refine ⟨_, rfl, _, rfl, ⟨by omega, by omega, by omega, by omega, by omega⟩, fun l hl => ?_⟩
    have hl0 := fresh_back e2 hl
    have hM1 : 1 ≤ b ^ f := Nat.pow_pos (by omega)
    have start : rgV 0 ((b ^ f : Nat) : Int) = iv ((List.range (b ^ f)).map fun (i : Nat) => (i : Int)) := by
      unfold rgV iv
      have : (((b ^ f : Nat) : Int) - 0).toNat = b ^ f := by omega
      rw [this, List.map_map]
      exact List.map_congr_left fun i _ => by simp
    have lst0 : Lst ((List.range (b ^ f)).map fun (i : Nat) => (i : Int)) := by
      have hL2 := gr.L1
      obtain ⟨m, hm⟩ : ∃ m, b ^ f = m + 1 := ⟨b ^ f - 1, by omega⟩
      rw [hm, List.range_succ, List.map_append]
      exact ⟨_, _, rfl, by show (1 : Int) ≤ ((m : Nat) : Int); omega⟩
    refine ⟨_, rfl, t, _, _, _, rfl, rfl, ht.ex (e2.trans (Ex.new hl)), g2, _, rfl, by omega, by omega, for_range (lo := 0) (n := r) (fun i σ H' => ∃ (xs : List Int) (v : Option V), Ex H H' ∧ H' l = some (.lst (iv xs)) ∧ (∀ x ∈ xs, OnG b (b ^ f) (gG b f r) x) ∧ 0 < xs.length ∧ xs.length ≤ 1000 * (i + 1) ∧ Lst xs ∧ σ = [some (.ref t), some (.int ((b ^ f : Nat) : Int)), some (.int ((b ^ i : Nat) : Int)), some (.ref l), v, none])
      ⟨(List.range (b ^ f)).map fun (i : Nat) => (i : Int), none, e2.trans (Ex.new hl), by rw [upd_same, start], fun x hx => ?_, by rw [List.length_map, List.length_range]; omega, by rw [List.length_map, List.length_range]; omega, lst0, rfl⟩ ?_ ?_⟩
    · obtain ⟨i, hi, rfl⟩ := List.mem_map.mp hx
      exact onG_small gr (List.mem_range.mp hi)
    · rintro i σ H' hi ⟨xs, v, e3, h3, hx3, h03, hl3, hL3, rfl⟩
      have hbi : b ^ i < 2 ^ 400 := pw400 ub (by omega)
      have hb400 : ((b : Nat) : Int).natAbs < 2 ^ 400 := by rw [Int.natAbs_natCast]; exact Nat.lt_of_le_of_lt ub (by decide +kernel)
      obtain ⟨lo0, lo1⟩ := lo_facts (M := b ^ f) hb
      have lo2 : 1 ≤ ((b ^ f : Nat) : Int) / (b : Int) := by
        have q := (div_b gr).1
        have q2 : ((b ^ f : Nat) : Int) / (b : Int) = ((b ^ f / b : Nat) : Int) := rfl
        omega
      have lo3 : ((b ^ f : Nat) : Int) / (b : Int) < ((b ^ f : Nat) : Int) := by
        have q := (div_b gr).2
        have q2 : ((b ^ f : Nat) : Int) / (b : Int) = ((b ^ f / b : Nat) : Int) := rfl
        omega
      refine ⟨_, rfl, _, rfl, t, _, _, _, rfl, rfl, ht.ex e3, g0, _, _, rfl, rfl, wm (p5000 hbi) (p5000 hb400), ?_⟩
      refine ⟨_, rfl, .inl ⟨rfl, _, SqL.of h3⟩, _, rfl, _, rfl, t, _, _, _, rfl, rfl, ht.ex e3, g0, _, _, rfl, rfl, wd (by omega) (p5000 hb400), _, rfl, _, _, rfl, ⟨by omega, by omega, by omega, by omega⟩, fun D hD => ?_⟩
      generalize ((b ^ f : Nat) : Int) / (b : Int) = lo at *
      refine lc_range (lo := lo) (n := (((b ^ f : Nat) : Int) - lo).toNat) (fun j H'' => ∃ ys : List Int, Ex H' H'' ∧ H'' D = some (.lst (iv ys)) ∧ (∀ y ∈ ys, OnG b (b ^ f) (gG b f r) y) ∧ (∀ y ∈ ys, (1 : Int) ≤ y) ∧ ys.length = j) ⟨[], Ex.new hD, upd_same, fun y hy => (by cases hy), fun y hy => (by cases hy), rfl⟩ ?_ ?_
      · rintro j H'' hj ⟨ys, e4, h4, hy4, hy1, hl4⟩
        refine ⟨rfl, ?_⟩
        dsimp only [tYes]
        refine iteT ?_
        have hn : lo + (j : Int) = ((lo.toNat + j : Nat) : Int) := by omega
        have hlt : lo.toNat + j < b ^ f := by omega
        have hbi1 : b ^ (i + 1) < 2 ^ 400 := pw400 ub (by omega)
        have ebi : ((b ^ i : Nat) : Int) * (b : Int) = ((b ^ (i + 1) : Nat) : Int) := by rw [Nat.pow_succ, Int.natCast_mul]
        refine ⟨_, rfl, _, rfl, _, _, rfl, rfl, wm (p5000 (k := 400) (by rw [ebi]; exact hbi1)) (p5000 (k := 400) (by rw [hn, Int.natAbs_natCast]; exact Nat.lt_of_lt_of_le (Nat.lt_of_lt_of_le hlt hM) (by decide +kernel))), _, h4, sz_lt (by unfold iv; rw [List.length_map]; omega), ys ++ [((b ^ (i + 1) * (lo.toNat + j) : Nat) : Int)], Ex.mut e4 hD, ?_, ?_, ?_, ?_⟩
        · rw [upd_same]
          show some (HO.lst (iv ys ++ [V.int (((b ^ i : Nat) : Int) * (b : Int) * (lo + (j : Int)))])) = _
          rw [ebi, hn, ← Int.natCast_mul]
          unfold iv
          rw [List.map_append]
          rfl
        · intro y hy
          rcases List.mem_append.mp hy with hy | hy
          · exact hy4 y hy
          · rw [List.mem_singleton.mp hy]
            exact onG_rung gr hlt (by omega)
        · intro y hy
          rcases List.mem_append.mp hy with hy | hy
          · exact hy1 y hy
          · rw [List.mem_singleton.mp hy]
            have q1 : 0 < b ^ (i + 1) := Nat.pow_pos (by omega)
            have q2 : 0 < b ^ (i + 1) * (lo.toNat + j) := Nat.mul_pos q1 (by omega)
            omega
        · rw [List.length_append, hl4]; rfl
      · rintro H'' ⟨ys, e4, h4, hy4, hy1, hl4⟩
        refine ⟨l, D, _, _, rfl, rfl, e4 _ _ h3, h4, sz_of (by unfold iv; rw [List.length_map, List.length_map]; omega), ?_⟩
        refine ⟨xs ++ ys, some (.int (0 + (i : Int))), Ex.mut (e3.trans e4) hl0, ?_, ?_, by rw [List.length_append]; omega, by rw [List.length_append, hl4]; omega, lst_app xs hy1 (by intro z; rw [z] at hl4; have h9 : ([] : List Int).length = 0 := rfl; omega), ?_⟩
        · rw [upd_same]
          unfold iv
          rw [List.map_append]
        · intro y hy
          rcases List.mem_append.mp hy with hy | hy
          · exact hx3 y hy
          · exact hy4 y hy
        · show [_, _, some (V.int (((b ^ i : Nat) : Int) * (b : Int))), _, some (V.int (0 + (i : Int))), _] = _
          rw [Nat.pow_succ, Int.natCast_mul]
    · rintro σ H' ⟨xs, v, e3, h3, hx3, h03, hl3, hL3, rfl⟩
      exact ⟨_, rfl, k l xs H' hl0 e3 h3 hx3 h03 (by omega) hL3⟩
theorem ok_l_pot (T : Txt K mg a) : FnOk P w K mg base CX0 1 a.l_pot a.l_pot_fd ["script", "place"] (sp_pot K) := by
  refine T.F_l_pot.ok sc_l_pot (fun vs H Q E h => ?_) (fun cdv A outer s H vs Q E hr h => ?_)
  · obtain ⟨s, ns, place, rfl, _⟩ := h
    rfl
  · obtain ⟨q, ns, place, rfl, hs, hp, k⟩ := h
    refine ⟨_, (pss_cut (ps_set (i := 2) sc_l_pot.nd rfl (Or.inl rfl) (pe_ifExp (pt_cmpR op_lt (pv 1) (pe_callB call_len_seq (by rfl) T.n_len (by decide +kernel) (pa_cons (pv 0) pa_nil)) (nomark _)) (pe_ix ix_list (pv 0) (pv 1) (fun _ _ => rfl)) (pe_op op_add (pe_op op_add (pe_op op_mod (pe_callB (cr_sum rfl) (by rfl) T.n_sum (by decide +kernel) (pa_cons (pe_slice sl_list (pv 0) po_none (po_some pe_int)) pa_nil)) pe_int) (pe_op op_mulW pe_int (pv 1))) pe_int)))
      (pss_cons (ps_set (i := 3) sc_l_pot.nd rfl (Or.inl rfl) (pe_op op_mulW (pe_op op_mod (pe_callTy call_int1 (by rfl) T.n_int (by decide +kernel) (pa_cons (pe_callB call_abs (by rfl) T.n_abs (by decide +kernel) (pa_cons (pv 2) pa_nil)) pa_nil)) (pe_op op_powK (pe_op op_pow pe_int pe_int) pe_int)) (pe_callTy call_int1 (by rfl) T.n_int (by decide +kernel) (pa_cons (pe_cmpR op_ge (pe_callB call_abs (by rfl) T.n_abs (by decide +kernel) (pa_cons (pv 2) pa_nil)) (pe_op op_pow pe_int pe_int) (nomark _)) pa_nil))))
      (pss_cons (ps_set (i := 4) sc_l_pot.nd rfl (Or.inl rfl) (pe_op op_mod (pe_callTy call_int1 (by rfl) T.n_int (by decide +kernel) (pa_cons (pv 2) pa_nil)) pe_int))
      (pss_one (ps_ret (pe_lst (pa_cons (pv 3) (pa_cons (pe_op op_mod (pe_callTy call_int1 (by rfl) T.n_int (by decide +kernel) (pa_cons (pe_op op_add (pe_op op_add (pe_op op_mulW (pv 4) pe_int) (pe_op op_mulW (pe_op op_mulW pe_int (pv 1)) (pv 1))) pe_int) pa_nil)) pe_int) (pa_cons pe_int pa_nil))))))))), ?_⟩
    refine ⟨fun σ H2 => Ex H H2 ∧ ∃ z : Int, σ = [some (.ref q), some (.int place), some (.int z), none, none], ?_, ?_⟩
    · refine ⟨_, rfl, _, rfl, q, _, rfl, .inl hs, _, _, rfl, rfl, _, rfl, ?_⟩
      refine ite2 (fun h => ?_) (fun h => ?_)
      · have h : place < ns.length := by
          have := Int.ofNat_lt.mp (of_decide_eq_true h)
          rwa [List.length_map] at this
        exact ⟨_, rfl, _, rfl, q, _, _, _, rfl, rfl, hs, atN (by rw [List.getElem?_map, List.getElem?_eq_getElem h]; rfl), Ex.refl H, _, rfl⟩
      · refine ⟨_, rfl, _, rfl, q, _, rfl, hs, fun p hpn => ?_⟩
        obtain ⟨ms, hms⟩ : ∃ ms : List Int, cutV (ns.map V.int) none (some 1) = ms.map V.int := by
          unfold cutV
          rw [← List.map_drop, ← List.map_take]
          exact ⟨_, rfl⟩
        rw [hms]
        refine ⟨p, ms, rfl, SqL.of upd_same, _, _, rfl, rfl, (by show (0 : Int) < 1000003; decide), _, rfl, _, _, rfl, rfl, wm (by decide +kernel) (p5000 (k := 64) (by omega)), _, _, rfl, rfl, _, _, rfl, rfl, Ex.new hpn, _, rfl⟩
    · rintro σ H2 ⟨e2, z, rfl⟩
      refine ⟨_, rfl, _, rfl, .inl ⟨_, rfl, _, _, rfl, rfl, ⟨by decide, by decide, by decide⟩, _, _, rfl, rfl, ⟨by decide, by rw [t10]; decide +kernel⟩, _, _, rfl, rfl, (by show (0 : Int) < ((10 : Int) ^ (60 : Int).toNat) ^ (5 : Int).toNat; rw [t300]; decide +kernel), _, rfl, _, rfl, _, _, rfl, rfl, ⟨by decide, by decide, by decide⟩, _, _, rfl, rfl, .inr ⟨_, rfl, _, _, rfl, rfl, ?_, ?_⟩⟩⟩
      · have := own_sz ((if z < 0 then -z else z)) true
        rw [if_pos rfl, Int.mul_one] at this
        exact wm (p5000 this.2) (b_sz _)
      obtain ⟨o1, o2⟩ := own_sz (if z < 0 then -z else z) (decide ((10 : Int) ^ (18 : Int).toNat ≤ if z < 0 then -z else z))
      refine ⟨_, rfl, .inl ⟨_, rfl, _, _, rfl, rfl, (by show (0 : Int) < 2305843009213693951; decide), ?_⟩⟩
      have s1 := Int.emod_nonneg z (show (2305843009213693951 : Int) ≠ 0 by decide)
      have s2 := Int.emod_lt_of_pos z (show (0 : Int) < 2305843009213693951 by decide)
      refine ⟨_, rfl, _, rfl, _, _, rfl, rfl, wm (p5000 (k := 64) (by omega)) (by decide +kernel), _, rfl, _, _, rfl, rfl, wm (by decide +kernel) (p5000 (k := 64) (by omega)), _, rfl, _, _, rfl, rfl, wm (p5000 (k := 64) (by omega)) (p5000 (k := 64) (by omega)), _, _, rfl, rfl, _, _, rfl, rfl, .inl ⟨_, rfl, _, _, rfl, rfl, (by show (0 : Int) < 2305843009213693921; decide), by show 3 ≤ sizeLine; decide, fun p hpn => ?_⟩⟩
      refine k p _ (e2.trans (Ex.new hpn)) (fresh_back e2 hpn) ⟨_, _, _, upd_same, o1, o2, Int.emod_nonneg _ (by decide), Int.lt_trans (Int.emod_lt_of_pos _ (by decide)) (by decide), by decide, by decide⟩
theorem ok_l_small (T : Txt K mg a) : FnOk P w K mg base CX0 3 a.l_small a.l_small_fd ["pot"] sp_small := by
  refine T.F_l_small.ok sc_l_small (fun vs H Q E h => ?_) (fun cdv A outer s H vs Q E hr h => ?_)
  · obtain ⟨p, n, rfl, _⟩ := h
    rfl
  · obtain ⟨p, n, rfl, hp, hn, k⟩ := h
    refine ⟨_, (pss_cut (ps_set (i := 1) sc_l_small.nd rfl (Or.inl rfl) (pe_call (ok_l_of T) (hr.mono (by decide)) rfl T.g_l_of T.k_l_of T.B_l_of .nil pass0 (pa_cons (pv 0) (pa_cons (pe_lst (pa_cons (pe_tup (pa_cons pe_int (pa_cons pe_int (pa_cons pe_int (pa_cons pe_int pa_nil))))) (pa_cons (pe_tup (pa_cons pe_int (pa_cons pe_int (pa_cons pe_int (pa_cons pe_int pa_nil))))) (pa_cons (pe_tup (pa_cons pe_int (pa_cons pe_int (pa_cons pe_int (pa_cons pe_int pa_nil))))) (pa_cons (pe_tup (pa_cons pe_int (pa_cons pe_int (pa_cons pe_int (pa_cons pe_int pa_nil))))) (pa_cons (pe_tup (pa_cons pe_int (pa_cons pe_int (pa_cons pe_int (pa_cons pe_int pa_nil))))) (pa_cons (pe_tup (pa_cons pe_int (pa_cons pe_int (pa_cons pe_int (pa_cons pe_int pa_nil))))) (pa_cons (pe_tup (pa_cons pe_int (pa_cons pe_int (pa_cons pe_int (pa_cons pe_int pa_nil))))) pa_nil)))))))) pa_nil))))
      (pss_one (ps_ret (pe_tup (pa_cons (pv 1) (pa_cons (pe_call (ok_l_grid_ladder T) (hr.mono (by decide)) rfl T.g_l_grid_ladder T.k_l_grid_ladder T.B_l_grid_ladder .nil pass0 (pa_cons (pv 1) pa_nil)) pa_nil)))))), ?_⟩
    refine ⟨fun σ H2 => ∃ (t : Addr) (b f r pl : Nat), σ = [some (.ref p), some (.ref t)] ∧ Kp p H H2 ∧ PotAt H2 p (n + 1) ∧ H2 t = some (.tup [.int b, .int f, .int r, .int pl]) ∧ okg b f r ∧ pl ≤ 30 ∧ b ^ f ≤ 1000 ∧ gG b f r ≤ 900, ?_, ?_⟩
    rotate_left
    · rintro σ H2 ⟨t, b, f, r, pl, rfl, k2, p2, ht, hok, hpl, hM, hG9⟩
      refine ⟨_, rfl, _, rfl, t, b, f, r, pl, rfl, SqT.of ht, hok, hM, fun l xs H3 hln e3 h3 hx h0 hl hL => ⟨by show 2 ≤ sizeLine; decide, fun q hq => ?_⟩⟩
      have e4 := Ex.new (o := .tup [V.ref t, V.ref l]) hq
      exact k q t l b f r pl xs _ (k2.ex (e3.trans e4)) (p2.ex (e3.trans e4)) upd_same (e4 _ _ (e3 _ _ ht)) (e4 _ _ h3) hok hpl hx h0 (by have := hok.2.2.2.2; omega) hL hG9 (p2.ne hln)
    refine ⟨_, rfl, by show 4 ≤ sizeLine; decide, fun t1 h1 => ?_⟩
    have e1 : Ex H (upd H t1 (.tup [V.int 2, V.int 1, V.int 4, V.int 0])) := Ex.new h1
    have c1 : (upd H t1 (.tup [V.int 2, V.int 1, V.int 4, V.int 0])) t1 = some (.tup [V.int 2, V.int 1, V.int 4, V.int 0]) := upd_same
    generalize (upd H t1 (.tup [V.int 2, V.int 1, V.int 4, V.int 0])) = H1 at *
    refine ⟨by show 4 ≤ sizeLine; decide, fun t2 h2 => ?_⟩
    have e2 : Ex H1 (upd H1 t2 (.tup [V.int 2, V.int 2, V.int 4, V.int 0])) := Ex.new h2
    have c2 : (upd H1 t2 (.tup [V.int 2, V.int 2, V.int 4, V.int 0])) t2 = some (.tup [V.int 2, V.int 2, V.int 4, V.int 0]) := upd_same
    generalize (upd H1 t2 (.tup [V.int 2, V.int 2, V.int 4, V.int 0])) = H2 at *
    refine ⟨by show 4 ≤ sizeLine; decide, fun t3 h3 => ?_⟩
    have e3 : Ex H2 (upd H2 t3 (.tup [V.int 2, V.int 3, V.int 3, V.int 0])) := Ex.new h3
    have c3 : (upd H2 t3 (.tup [V.int 2, V.int 3, V.int 3, V.int 0])) t3 = some (.tup [V.int 2, V.int 3, V.int 3, V.int 0]) := upd_same
    generalize (upd H2 t3 (.tup [V.int 2, V.int 3, V.int 3, V.int 0])) = H3 at *
    refine ⟨by show 4 ≤ sizeLine; decide, fun t4 h4 => ?_⟩
    have e4 : Ex H3 (upd H3 t4 (.tup [V.int 3, V.int 1, V.int 3, V.int 0])) := Ex.new h4
    have c4 : (upd H3 t4 (.tup [V.int 3, V.int 1, V.int 3, V.int 0])) t4 = some (.tup [V.int 3, V.int 1, V.int 3, V.int 0]) := upd_same
    generalize (upd H3 t4 (.tup [V.int 3, V.int 1, V.int 3, V.int 0])) = H4 at *
    refine ⟨by show 4 ≤ sizeLine; decide, fun t5 h5 => ?_⟩
    have e5 : Ex H4 (upd H4 t5 (.tup [V.int 3, V.int 2, V.int 2, V.int 0])) := Ex.new h5
    have c5 : (upd H4 t5 (.tup [V.int 3, V.int 2, V.int 2, V.int 0])) t5 = some (.tup [V.int 3, V.int 2, V.int 2, V.int 0]) := upd_same
    generalize (upd H4 t5 (.tup [V.int 3, V.int 2, V.int 2, V.int 0])) = H5 at *
    refine ⟨by show 4 ≤ sizeLine; decide, fun t6 h6 => ?_⟩
    have e6 : Ex H5 (upd H5 t6 (.tup [V.int 5, V.int 1, V.int 2, V.int 0])) := Ex.new h6
    have c6 : (upd H5 t6 (.tup [V.int 5, V.int 1, V.int 2, V.int 0])) t6 = some (.tup [V.int 5, V.int 1, V.int 2, V.int 0]) := upd_same
    generalize (upd H5 t6 (.tup [V.int 5, V.int 1, V.int 2, V.int 0])) = H6 at *
    refine ⟨by show 4 ≤ sizeLine; decide, fun t7 h7 => ?_⟩
    have e7 : Ex H6 (upd H6 t7 (.tup [V.int 10, V.int 1, V.int 2, V.int 0])) := Ex.new h7
    have c7 : (upd H6 t7 (.tup [V.int 10, V.int 1, V.int 2, V.int 0])) t7 = some (.tup [V.int 10, V.int 1, V.int 2, V.int 0]) := upd_same
    generalize (upd H6 t7 (.tup [V.int 10, V.int 1, V.int 2, V.int 0])) = H7 at *
    refine ⟨by show 7 ≤ sizeLine; decide, fun l hl => ?_⟩
    have el : Ex H7 (upd H7 l (.lst [V.ref t1, V.ref t2, V.ref t3, V.ref t4, V.ref t5, V.ref t6, V.ref t7])) := Ex.new hl
    have cl : (upd H7 l (.lst [V.ref t1, V.ref t2, V.ref t3, V.ref t4, V.ref t5, V.ref t6, V.ref t7])) l = some (.lst [V.ref t1, V.ref t2, V.ref t3, V.ref t4, V.ref t5, V.ref t6, V.ref t7]) := upd_same
    generalize (upd H7 l (.lst [V.ref t1, V.ref t2, V.ref t3, V.ref t4, V.ref t5, V.ref t6, V.ref t7])) = H8 at *
    have x7 : Ex H7 H8 := el
    have x6 : Ex H6 H8 := e7.trans x7
    have x5 : Ex H5 H8 := e6.trans x6
    have x4 : Ex H4 H8 := e5.trans x5
    have x3 : Ex H3 H8 := e4.trans x4
    have x2 : Ex H2 H8 := e3.trans x3
    have x1 : Ex H1 H8 := e2.trans x2
    have x0 : Ex H H8 := e1.trans x1
    have p8 := hp.ex x0
    have nl : l ≠ p := (hp.ex (((((((e1.trans e2).trans e3).trans e4).trans e5).trans e6).trans e7))).ne hl
    refine ⟨p, l, n, _, rfl, p8, by omega, cl, nl, by show 0 < 7; decide, by show 7 ≤ 100000; decide, fun i v H9 hv k9 p9 => ?_⟩
    have key : ∃ (t : Addr) (b f r pl : Nat), v = .ref t ∧ H8 t = some (.tup [.int b, .int f, .int r, .int pl]) ∧ okg b f r ∧ pl ≤ 30 ∧ b ^ f ≤ 1000 ∧ gG b f r ≤ 900 := by
      match i, hv with
      | 0, hv => cases hv; exact ⟨t1, 2, 1, 4, 0, rfl, x1 _ _ c1, ⟨by decide, by decide, by decide, by decide, by decide⟩, by decide, by decide, by decide⟩
      | 1, hv => cases hv; exact ⟨t2, 2, 2, 4, 0, rfl, x2 _ _ c2, ⟨by decide, by decide, by decide, by decide, by decide⟩, by decide, by decide, by decide⟩
      | 2, hv => cases hv; exact ⟨t3, 2, 3, 3, 0, rfl, x3 _ _ c3, ⟨by decide, by decide, by decide, by decide, by decide⟩, by decide, by decide, by decide⟩
      | 3, hv => cases hv; exact ⟨t4, 3, 1, 3, 0, rfl, x4 _ _ c4, ⟨by decide, by decide, by decide, by decide, by decide⟩, by decide, by decide, by decide⟩
      | 4, hv => cases hv; exact ⟨t5, 3, 2, 2, 0, rfl, x5 _ _ c5, ⟨by decide, by decide, by decide, by decide, by decide⟩, by decide, by decide, by decide⟩
      | 5, hv => cases hv; exact ⟨t6, 5, 1, 2, 0, rfl, x6 _ _ c6, ⟨by decide, by decide, by decide, by decide, by decide⟩, by decide, by decide, by decide⟩
      | 6, hv => cases hv; exact ⟨t7, 10, 1, 2, 0, rfl, x7 _ _ c7, ⟨by decide, by decide, by decide, by decide, by decide⟩, by decide, by decide, by decide⟩
    obtain ⟨t, b, f, r, pl, rfl, ht, hok, hpl, hM, hG9⟩ := key
    have nt : t ≠ p := ne_tup ht p8
    exact ⟨t, b, f, r, pl, rfl, (Ex.kp x0).trans k9, p9, k9 _ _ ht nt, hok, hpl, hM, hG9⟩
end
end My


set_option Elab.async false
set_option maxRecDepth 100000
set_option maxHeartbeats 2000000
set_option exponentiation.threshold 6000
namespace My
open PySem L2 Evl
def psRow (b L G : Nat) : List Int → Option (Int × List Int)
  | [] => some (0, [])
  | x :: xs => psum b L G x xs []
/-- what plain_sum tells -/
def Tells (H : Hp) (v : V) : Option (Int × List Int) → Prop
  | none => v = .non
  | some p => ∃ q1 q2, v = .ref q1 ∧ H q1 = some (.tup [.int p.1, .ref q2]) ∧ H q2 = some (.tup (iv p.2))
theorem Tells.ex {H H' : Hp} {v : V} {o : Option (Int × List Int)} (h : Tells H v o) (e : Ex H H') : Tells H' v o := by
  cases o with
  | none => exact h
  | some p =>
    obtain ⟨q1, q2, h1, h2, h3⟩ := h
    exact ⟨q1, q2, h1, e _ _ h2, e _ _ h3⟩
/-- what renewed_row tells -/
def Rens (H : Hp) (v : V) (b L G : Nat) (t : Int) : Prop := (t.natAbs ≤ G ∧ ∃ q, v = .ref q ∧ H q = some (.tup (iv (row b L t)))) ∨ (G < t.natAbs ∧ v = .non)
theorem Rens.ex {H H' : Hp} {v : V} {b L G : Nat} {t : Int} (h : Rens H v b L G t) (e : Ex H H') : Rens H' v b L G t := by
  rcases h with ⟨h1, q, h2, h3⟩ | h
  · exact .inl ⟨h1, q, h2, e _ _ h3⟩
  · exact .inr h
def sp_split (a : Ad) : Sp := fun vs H Q _ => ∃ (g : Addr) (b f r L G : Nat) (t : Int), vs = [.ref g, .int t] ∧ GridAt a H g b f r L G ∧ t.natAbs < 2 ^ 4000 ∧
  ((rn b L t).natAbs ≤ G → ∀ q H', Ex H H' → H' q = some (.tup [.int (rn b L t), .int (t - rn b L t)]) → Q (.ref q) H') ∧ (¬ (rn b L t).natAbs ≤ G → ∀ H', Ex H H' → Q .non H')
def sp_check_row (a : Ad) : Sp := fun vs H Q _ => ∃ (g : Addr) (b f r L G : Nat) (t : Addr) (xs : List Int), vs = [.ref g, .ref t] ∧ GridAt a H g b f r L G ∧ H t = some (.tup (iv xs)) ∧ xs.length ≤ 100 ∧ (∀ x ∈ xs, OnG b L G x) ∧ ∀ H', Ex H H' → Q .non H'
def sp_row_worth (a : Ad) : Sp := fun vs H Q _ => ∃ (g : Addr) (b f r L G : Nat) (t : Addr) (xs : List Int), vs = [.ref g, .ref t] ∧ GridAt a H g b f r L G ∧ H t = some (.tup (iv xs)) ∧ xs.length ≤ 100 ∧ (∀ x ∈ xs, OnG b L G x) ∧ ∀ H', Ex H H' → Q (.int xs.sum) H'
def sp_renewed_row (a : Ad) : Sp := fun vs H Q _ => ∃ (g : Addr) (b f r L G : Nat) (t : Addr) (xs : List Int), vs = [.ref g, .ref t] ∧ GridAt a H g b f r L G ∧ H t = some (.tup (iv xs)) ∧ xs.length ≤ 100 ∧ (∀ x ∈ xs, OnG b L G x) ∧ ∀ v H', Ex H H' → Rens H' v b L G xs.sum → Q v H'
def sp_plain_sum (a : Ad) : Sp := fun vs H Q _ => ∃ (g : Addr) (b f r L G : Nat) (t : Addr) (xs : List Int), vs = [.ref g, .ref t] ∧ GridAt a H g b f r L G ∧ H t = some (.tup (iv xs)) ∧ xs.length ≤ 100 ∧ (∀ x ∈ xs, OnG b L G x) ∧ ∀ v H', Ex H H' → Tells H' v (psRow b L G xs) → Q v H'
theorem iv_len (xs : List Int) : (iv xs).length = xs.length := by unfold iv; rw [List.length_map]
theorem iv_get {xs : List Int} {i : Nat} {v : V} (h : (iv xs)[i]? = some v) : ∃ z, xs[i]? = some z ∧ v = .int z := by
  unfold iv at h
  rw [List.getElem?_map] at h
  cases e : xs[i]? with
  | none => rw [e] at h; cases h
  | some n => rw [e] at h; exact ⟨n, rfl, (Option.some.inj h).symm⟩
theorem iv_app (xs ys : List Int) : iv (xs ++ ys) = iv xs ++ iv ys := by unfold iv; rw [List.map_append]
theorem cut1 (xs : List V) : cutV xs (some 1) none = xs.drop 1 := by
  unfold cutV
  have h1 : HT.sIx xs.length 0 (some ((1 : Nat) : Int)) = min 1 xs.length := HT.sIx_nat _ _ _
  have h2 : HT.sIx xs.length 0 (some (1 : Int)) = min 1 xs.length := h1
  have h3 : HT.sIx xs.length xs.length none = xs.length := HT.sIx_none _ _
  rw [h2, h3]
  cases xs with
  | nil => rfl
  | cons x xs =>
    have : min 1 (x :: xs).length = 1 := by rw [List.length_cons]; omega
    rw [this, List.length_cons]
    show (xs).take (xs.length + 1 - 1) = xs
    rw [Nat.add_sub_cancel, List.take_length]
theorem whole1 (xs : List V) : (HT.sIx xs.length 0 (some 1) = 0 ∧ HT.sIx xs.length xs.length none = xs.length) → xs = [] := by
  rintro ⟨h, _⟩
  have h1 : HT.sIx xs.length 0 (some ((1 : Nat) : Int)) = min 1 xs.length := HT.sIx_nat _ _ _
  have h2 : HT.sIx xs.length 0 (some (1 : Int)) = min 1 xs.length := h1
  rw [h2] at h
  cases xs with
  | nil => rfl
  | cons x xs => rw [List.length_cons] at h; omega
theorem addsz {x y : Int} (hx : x.natAbs < 2 ^ 400) (hy : y.natAbs < 2 ^ 400) : (x + y).natAbs < 2 ^ 4000 := by
  have : 2 ^ 400 + 2 ^ 400 < 2 ^ 4000 := by decide +kernel
  omega
section
variable {P : Program} {w : World} {K : PySem.W.Frag} {mg : Str → Option Value} {base : Heap} {a : Ad}
end
end My


set_option Elab.async false
set_option maxRecDepth 100000
set_option maxHeartbeats 2000000
set_option exponentiation.threshold 6000
namespace My
open PySem L2 Evl
def sp_drawn : Sp := fun vs H Q _ => ∃ (p : Addr) (n : Nat), vs = [.ref p] ∧ PotAt H p n ∧ n + 10 ≤ 100000 ∧
  ∀ (t : Addr) (b f r pl : Nat) H', Kp p H H' → PotAt H' p (n + 4) → H' t = some (.tup [.int b, .int f, .int r, .int pl]) → okg b f r → pl ≤ 30 → b ^ f ≤ 1000 → r ≤ 3 → Q (.ref t) H'
def sp_a_row : Sp := fun vs H Q _ => ∃ (p t : Addr) (n b f r pl : Nat) (fl : Bool), vs = [.ref p, .ref t, .bl fl] ∧ PotAt H p n ∧ n + 60 ≤ 100000 ∧ H t = some (.tup [.int b, .int f, .int r, .int pl]) ∧ okg b f r ∧
  ∀ (q : Addr) (xs : List Int) H', Kp p H H' → PotAt H' p (n + 40) → H' q = some (.tup (iv xs)) → xs.length ≤ 100 → (∀ x ∈ xs, OnG b (b ^ f) (gG b f r) x) → Q (.ref q) H'
def sp_gone (K : PySem.W.Frag) : Sp := fun vs H Q _ => ∃ (t rw : Addr) (b f r pl : Nat) (xs : List Int), vs = [.ref t, .ref rw] ∧ TG K H t b f r pl ∧ okg b f r ∧ H rw = some (.tup (iv xs)) ∧ xs.length ≤ 100 ∧ (∀ x ∈ xs, OnG b (b ^ f) (gG b f r) x) ∧
  ∀ v H', Ex H H' → Tells H' v (psRow b (b ^ f) (gG b f r) xs) → Q v H'
def sp_own (K : PySem.W.Frag) : Sp := fun vs H Q _ => ∃ (t : Addr) (b f r pl : Nat) (w : Int), vs = [.ref t, .int w] ∧ TG K H t b f r pl ∧ okg b f r ∧ w.natAbs ≤ gG b f r ∧ ∀ q H', Ex H H' → H' q = some (.tup (iv (row b (b ^ f) w))) → Q (.ref q) H'
theorem Kp.new {p D : Addr} {H H1 : Hp} {o : HO} (h : Kp p H H1) (hD : H D = none) : Kp p H (upd H1 D o) := fun c u hc hn => by
  rw [upd_ne (ne_of_none hc hD)]
  exact h c u hc hn
theorem PotAt.upd {H : Hp} {p q : Addr} {n : Nat} {o : HO} (h : PotAt H p n) (hn : q ≠ p) : PotAt (L2.upd H q o) p n := by
  obtain ⟨x, y, c, h1, h2⟩ := h
  exact ⟨x, y, c, by rw [upd_ne hn.symm]; exact h1, h2⟩
theorem dp_ints {K : PySem.W.Frag} {H : Hp} : ∀ xs : List Int, DpAll K H (iv xs) (xs.map PyData.int)
  | [] => .nil
  | x :: xs => .cons (.int x) (dp_ints xs)
theorem lay_ints : ∀ xs : List Int, PyData.canLayAll0 (xs.map PyData.int) = true
  | [] => rfl
  | x :: xs => by
    show (PyData.canLay0 (.int x) && PyData.canLayAll0 (xs.map PyData.int)) = true
    rw [lay_ints xs]; rfl
theorem dep_ints : ∀ xs : List Int, PyData.depthAll (xs.map PyData.int) = 0
  | [] => rfl
  | x :: xs => by
    show max (PyData.depth (.int x)) (PyData.depthAll (xs.map PyData.int)) = 0
    rw [dep_ints xs]; rfl
theorem sh_ints (xs : List Int) : SeqAt.shaped (.tuple (xs.map PyData.int)) = true := by
  unfold SeqAt.shaped
  have h1 : (PyData.tuple (xs.map PyData.int)).canLay0 = true := lay_ints xs
  have h2 : (PyData.tuple (xs.map PyData.int)).depth = 1 := by
    show PyData.depthAll (xs.map PyData.int) + 1 = 1
    rw [dep_ints]
  rw [h1, h2]; rfl
theorem sh_intsL (xs : List Int) : SeqAt.shaped (.list (xs.map PyData.int)) = true := by
  unfold SeqAt.shaped
  have h1 : (PyData.list (xs.map PyData.int)).canLay0 = true := lay_ints xs
  have h2 : (PyData.list (xs.map PyData.int)).depth = 1 := by
    show PyData.depthAll (xs.map PyData.int) + 1 = 1
    rw [dep_ints]
  rw [h1, h2]; rfl
theorem eqv_nil (xs : List Int) : PyData.eqv (.tuple (xs.map PyData.int)) (.tuple []) = xs.isEmpty := by
  cases xs with
  | nil => rfl
  | cons x xs => rfl
theorem eqv_nilL (xs : List Int) : PyData.eqv (.list (xs.map PyData.int)) (.list []) = xs.isEmpty := by
  cases xs with
  | nil => rfl
  | cons x xs => rfl
theorem cut100 (xs : List Int) : ∃ ms : List Int, cutV (List.replicate (100 : Int).toNat (iv xs)).flatten none (some 100) = iv ms ∧ (∀ m ∈ ms, m ∈ xs) ∧ ms.length ≤ 100 := by
  have e : (List.replicate (100 : Int).toNat (iv xs)).flatten = iv (List.replicate (100 : Int).toNat xs).flatten := by
    unfold iv
    rw [List.map_flatten, List.map_replicate]
  rw [e]
  unfold cutV iv
  rw [← List.map_drop, ← List.map_take]
  refine ⟨_, rfl, fun m hm => ?_, ?_⟩
  · have := List.mem_of_mem_drop (List.mem_of_mem_take hm)
    obtain ⟨l, hl, hml⟩ := List.mem_flatten.mp this
    rw [(List.mem_replicate.mp hl).2] at hml
    exact hml
  · rw [List.length_take]
    generalize (List.replicate (100 : Int).toNat xs).flatten = ys
    have h1 : HT.sIx (ys.map V.int).length (ys.map V.int).length (some ((100 : Nat) : Int)) = min 100 (ys.map V.int).length := HT.sIx_nat _ _ _
    have h2 : HT.sIx (ys.map V.int).length (ys.map V.int).length (some (100 : Int)) = min 100 (ys.map V.int).length := h1
    rw [h2]
    omega
section
variable {P : Program} {w : World} {K : PySem.W.Frag} {mg : Str → Option Value} {base : Heap} {a : Ad}
end
end My


set_option Elab.async false
set_option maxRecDepth 100000
set_option maxHeartbeats 2000000
set_option exponentiation.threshold 6000
namespace My
open PySem L2 Evl
def sp_sign : Sp := fun vs H Q _ => ∃ t : Int, vs = [.int t] ∧ ∀ H', Ex H H' → Q (.int (sgn t)) H'
def sp_spans_below (a : Ad) : Sp := fun vs H Q _ => ∃ (g : Addr) (b f r L G e : Nat), vs = [.ref g, .int ((b ^ e : Nat) : Int)] ∧ GridAt a H g b f r L G ∧ e ≤ 100 ∧ ∀ H', Ex H H' → Q (.int (e : Nat)) H'
def sp_span_size (a : Ad) : Sp := fun vs H Q _ => ∃ (g : Addr) (b f r L G : Nat), vs = [.ref g] ∧ GridAt a H g b f r L G ∧ ∀ H', Ex H H' → Q (.int ((L - L / b : Nat) : Int)) H'
def rkI (b L : Nat) (n : Int) : Int := if n ≥ 0 then (rk b L n.natAbs : Int) else -(rk b L n.natAbs : Int)
def sp_rank (a : Ad) : Sp := fun vs H Q _ => ∃ (g : Addr) (b f r L G : Nat) (n : Int), vs = [.ref g, .int n] ∧ GridAt a H g b f r L G ∧ OnG b L G n ∧ ∀ H', Ex H H' → Q (.int (rkI b L n)) H'
def sp_number (a : Ad) : Sp := fun vs H Q _ => ∃ (g : Addr) (b f r L G : Nat) (k : Int), vs = [.ref g, .int k] ∧ GridAt a H g b f r L G ∧ k.natAbs ≤ rk b L G ∧ ∀ z H', Ex H H' → OnG b L G z → Q (.int z) H'
def sp_after (a : Ad) : Sp := fun vs H Q _ => ∃ (g : Addr) (b f r L G : Nat) (n : Int), vs = [.ref g, .int n] ∧ GridAt a H g b f r L G ∧ OnG b L G n ∧ ∀ v H', Ex H H' → ((v = .non ∧ n = G) ∨ ∃ z, v = .int z ∧ OnG b L G z) → Q v H'
def sp_before (a : Ad) : Sp := fun vs H Q _ => ∃ (g : Addr) (b f r L G : Nat) (n : Int), vs = [.ref g, .int n] ∧ GridAt a H g b f r L G ∧ OnG b L G n ∧ ∀ v H', Ex H H' → ((v = .non ∧ n = -(G : Int)) ∨ ∃ z, v = .int z ∧ OnG b L G z) → Q v H'
/-- the sign by rounded products -/
def plo (b L G : Nat) (x y : Int) : Option Int := if (rn b L x).natAbs ≤ G ∧ (rn b L y).natAbs ≤ G then some (sgn (rn b L x - rn b L y)) else none
def vo : Option Int → V
  | none => .non
  | some i => .int i
def sp_cross_signs (a : Ad) : Sp := fun vs H Q _ => ∃ (g : Addr) (b f r L G : Nat) (t : Addr) (x y z u : Int), vs = [.ref g, .ref t] ∧ GridAt a H g b f r L G ∧ H t = some (.tup (iv [x, y, z, u])) ∧ OnG b L G x ∧ OnG b L G y ∧ OnG b L G z ∧ OnG b L G u ∧
  ∀ q H', Ex H H' → H' q = some (.tup [.int (sgn (x * u - y * z)), vo (plo b L G (x * u) (y * z))]) → Q (.ref q) H'
section
variable {b f r p u G : Int} {lim tops : Addr}
theorem gfl_rank : (gfl b f r p u lim tops G).lookup ("rank" : Str) = none := by
  unfold gfl
  repeat rw [lookup_putF, if_neg (by decide +kernel)]
  rfl
theorem gfl_number : (gfl b f r p u lim tops G).lookup ("number" : Str) = none := by
  unfold gfl
  repeat rw [lookup_putF, if_neg (by decide +kernel)]
  rfl
theorem gfl_after : (gfl b f r p u lim tops G).lookup ("after" : Str) = none := by
  unfold gfl
  repeat rw [lookup_putF, if_neg (by decide +kernel)]
  rfl
theorem gfl_before : (gfl b f r p u lim tops G).lookup ("before" : Str) = none := by
  unfold gfl
  repeat rw [lookup_putF, if_neg (by decide +kernel)]
  rfl
end
theorem span_cast {b L : Nat} : (L : Int) - (L : Int) / (b : Int) = ((L - L / b : Nat) : Int) := by
  rw [Int.ofNat_sub (Nat.div_le_self _ _)]; rfl
theorem lev_cast {b L k : Nat} (hs : 0 < L - L / b) : (if ((k : Int) - (L : Int) / (b : Int)) / ((L - L / b : Nat) : Int) > 0 then ((k : Int) - (L : Int) / (b : Int)) / ((L - L / b : Nat) : Int) else 0) = (lev b L k : Int) := by
  have e : (L : Int) / (b : Int) = ((L / b : Nat) : Int) := rfl
  rw [e]
  unfold lev
  generalize L - L / b = s at *
  generalize L / b = q at *
  by_cases h : q ≤ k
  · have e2 : (k : Int) - (q : Int) = ((k - q : Nat) : Int) := by omega
    rw [e2]
    have e3 : ((k - q : Nat) : Int) / (s : Int) = (((k - q) / s : Nat) : Int) := rfl
    rw [e3]
    generalize (k - q) / s = z
    split <;> omega
  · have e2 : k - q = 0 := by omega
    rw [e2, Nat.zero_div]
    have : ((k : Int) - (q : Int)) / (s : Int) < 0 := Int.ediv_neg_of_neg_of_pos (by omega) (by omega)
    rw [if_neg (by omega)]; rfl
section
variable {P : Program} {w : World} {K : PySem.W.Frag} {mg : Str → Option Value} {base : Heap} {a : Ad}
theorem ok_sign_of (T : Txt K mg a) : FnOk P w K mg base CX0 1 a.sign_of a.sign_of_fd ["number"] sp_sign := by
  refine T.F_sign_of.ok sc_sign_of (fun vs H Q E h => ?_) (fun cdv A outer s H vs Q E hr h => ?_)
  · obtain ⟨t, rfl, _⟩ := h
    rfl
  · obtain ⟨t, rfl, k⟩ := h
    refine ⟨_, (pss_cons (ps_if (pt_cmpR op_lt (pv 0) pe_int (nomark _)) (pss_one (ps_ret (pe_un un_neg pe_int))) pss_nil)
      (pss_one (ps_ret (pe_ifExp (pt_cmpR op_gt (pv 0) pe_int (nomark _)) pe_int pe_int)))), ?_⟩
    have kk := k H (Ex.refl H)
    unfold sgn at kk
    refine ⟨_, rfl, _, _, rfl, rfl, _, rfl, ?_⟩
    refine ite2 (fun h => ?_) (fun h => ?_)
    · rw [if_pos (of_decide_eq_true h)] at kk
      exact ⟨_, rfl, kk⟩
    · rw [if_neg (fun z => h (decide_eq_true z))] at kk
      refine ⟨_, rfl, _, _, rfl, rfl, _, rfl, ?_⟩
      refine ite2 (fun h => ?_) (fun h => ?_)
      · rw [if_pos (of_decide_eq_true h)] at kk
        exact kk
      · rw [if_neg (fun z => h (decide_eq_true z))] at kk
        exact kk
theorem ok_l_sign (T : Txt K mg a) : FnOk P w K mg base CX0 1 a.l_sign a.l_sign_fd ["number"] sp_sign := by
  refine T.F_l_sign.ok sc_l_sign (fun vs H Q E h => ?_) (fun cdv A outer s H vs Q E hr h => ?_)
  · obtain ⟨t, rfl, _⟩ := h
    rfl
  · obtain ⟨t, rfl, k⟩ := h
    refine ⟨_, (pss_one (ps_ret (pe_op op_sub (pe_callTy call_int1 (by rfl) T.n_int (by decide +kernel) (pa_cons (pe_cmpR op_gt (pv 0) pe_int (nomark _)) pa_nil)) (pe_callTy call_int1 (by rfl) T.n_int (by decide +kernel) (pa_cons (pe_cmpR op_lt (pv 0) pe_int (nomark _)) pa_nil))))), ?_⟩
    have kk := k H (Ex.refl H)
    refine ⟨_, rfl, _, _, rfl, rfl, .inr ⟨_, rfl, _, rfl, _, _, rfl, rfl, .inr ⟨_, rfl, _, _, rfl, rfl, ?_⟩⟩⟩
    have e : (if decide (t > 0) = true then (1 : Int) else 0) - (if decide (t < 0) = true then 1 else 0) = sgn t := by
      unfold sgn
      by_cases h1 : t < 0
      · rw [if_pos h1, if_neg (by simp; omega), if_pos (by simp [h1])]; rfl
      · by_cases h2 : 0 < t
        · rw [if_neg h1, if_pos h2, if_pos (by simp [h2]), if_neg (by simp; omega)]; rfl
        · rw [if_neg h1, if_neg h2, if_neg (by simp; omega), if_neg (by simp; omega)]; rfl
    rw [← e] at kk
    exact kk
theorem ok_spans_below (T : Txt K mg a) : FnOk P w K mg base CX0 1 a.spans_below a.spans_below_fd ["grid", "spacing"] (sp_spans_below a) := by
  refine T.F_spans_below.ok sc_spans_below (fun vs H Q E h => ?_) (fun cdv A outer s H vs Q E hr h => ?_)
  · obtain ⟨g, b, f, r, L, G, e, rfl, _⟩ := h
    rfl
  · obtain ⟨g, b, f, r, L, G, e, rfl, hg, he, k⟩ := h
    refine ⟨_, (pss_cons (ps_set (i := 2) sc_spans_below.nd rfl (Or.inl rfl) pe_int)
      (pss_cons (ps_while PassesOwn.never (pt_cmpR op_gt (pv 1) pe_int (nomark _)) (pss_cons (ps_set (i := 1) sc_spans_below.nd rfl (Or.inl rfl) (pe_op op_fdivW (pv 1) (pe_fld (pv 0) rfl)))
      (pss_one (ps_set (i := 2) sc_spans_below.nd rfl (Or.inl rfl) (pe_op op_add (pv 2) pe_int)))))
      (pss_one (ps_ret (pv 2))))), ?_⟩
    have hb := hg.gr.hb
    have ub := hg.ub
    obtain ⟨dx, lim, tops, p, u, xs, ys, o1, o2, o3, o4, o5⟩ := hg.ob
    have bsz : ((b : Nat) : Int).natAbs < 2 ^ 400 := by rw [Int.natAbs_natCast]; exact Nat.lt_of_le_of_lt ub (by decide +kernel)
    refine ⟨fun c σ H' => ∃ k : Nat, H' = H ∧ k ≤ e ∧ c = e - k ∧ σ = [some (.ref g), some (.int ((b ^ (e - k) : Nat) : Int)), some (.int (k : Int))], ⟨_, 0, rfl, Nat.zero_le _, rfl, rfl⟩, ?_⟩
    rintro c σ H' ⟨k', rfl, hk, rfl, rfl⟩
    refine ⟨_, rfl, _, _, rfl, rfl, _, rfl, ?_⟩
    refine ite2 (fun hc => ?_) (fun hc => ?_)
    · have hc := of_decide_eq_true hc
      have hk' : k' < e := by
        refine Nat.lt_of_le_of_ne hk fun z => ?_
        rw [z, Nat.sub_self, Nat.pow_zero] at hc
        exact absurd hc (by decide)
      refine ⟨fun σ' H2 => H2 = H' ∧ σ' = [some (.ref g), some (.int ((b ^ (e - (k' + 1)) : Nat) : Int)), some (.int ((k' + 1 : Nat) : Int))], ?_, ?_⟩
      · rintro σ' H2 ⟨rfl, rfl⟩
        exact ⟨e - (k' + 1), by omega, k' + 1, rfl, hk', rfl, rfl⟩
      · refine ⟨_, rfl, _, rfl, g, _, dx, _, _, rfl, o1, T.cl_Grid, T.f_Grid_base, gfl_base, _, _, rfl, rfl, wd (by omega) (p5000 bsz), ?_⟩
        refine ⟨_, rfl, _, _, rfl, rfl, rfl, ?_⟩
        have e1 : e - k' = (e - (k' + 1)) + 1 := by omega
        have e2 : ((b ^ (e - k') : Nat) : Int) / (b : Int) = ((b ^ (e - (k' + 1)) : Nat) : Int) := by
          rw [e1, Nat.pow_succ, Int.natCast_mul]
          exact Int.mul_ediv_cancel _ (by omega)
        show [_, some (V.int (((b ^ (e - k') : Nat) : Int) / (b : Int))), some (V.int ((k' : Int) + 1))] = _
        rw [e2]
        rfl
    · have hc : ¬ ((b ^ (e - k') : Nat) : Int) > 1 := fun z => hc (decide_eq_true z)
      have hk' : k' = e := by
        refine Nat.le_antisymm hk (Nat.le_of_not_lt fun z => hc ?_)
        have h1 : b ^ 1 ≤ b ^ (e - k') := Nat.pow_le_pow_right (by omega) (by omega)
        rw [Nat.pow_one] at h1
        omega
      subst hk'
      exact ⟨_, rfl, k _ (Ex.refl _)⟩
theorem ok_span_size (T : Txt K mg a) : FnOk P w K mg base CX0 1 a.span_size a.span_size_fd ["grid"] (sp_span_size a) := by
  refine T.F_span_size.ok sc_span_size (fun vs H Q E h => ?_) (fun cdv A outer s H vs Q E hr h => ?_)
  · obtain ⟨g, b, f, r, L, G, rfl, _⟩ := h
    rfl
  · obtain ⟨g, b, f, r, L, G, rfl, hg, k⟩ := h
    refine ⟨_, (pss_one (ps_ret (pe_op op_sub (pe_ix ix_tup (pe_fld (pv 0) rfl) pe_int (fun _ _ => rfl)) (pe_op op_fdivW (pe_ix ix_tup (pe_fld (pv 0) rfl) pe_int (fun _ _ => rfl)) (pe_fld (pv 0) rfl))))), ?_⟩
    have hb := hg.gr.hb
    have ub := hg.ub
    obtain ⟨dx, lim, tops, p, u, xs, ys, o1, o2, o3, o4, o5⟩ := hg.ob
    have o6 := o4 0 (by decide)
    rw [G1 hg.gr] at o6
    have bsz : ((b : Nat) : Int).natAbs < 2 ^ 400 := by rw [Int.natAbs_natCast]; exact Nat.lt_of_le_of_lt ub (by decide +kernel)
    refine ⟨_, rfl, g, _, dx, _, _, rfl, o1, T.cl_Grid, T.f_Grid_limits, gfl_limits, lim, xs, _, _, rfl, rfl, SqT.of o2, atN (m := 0) o6, ?_⟩
    refine ⟨_, rfl, g, _, dx, _, _, rfl, o1, T.cl_Grid, T.f_Grid_limits, gfl_limits, lim, xs, _, _, rfl, rfl, SqT.of o2, atN (m := 0) o6, ?_⟩
    refine ⟨_, rfl, g, _, dx, _, _, rfl, o1, T.cl_Grid, T.f_Grid_base, gfl_base, _, _, rfl, rfl, wd (by omega) (p5000 bsz), _, _, rfl, rfl, ?_⟩
    have := k H (Ex.refl H)
    rw [← span_cast] at this
    exact this
theorem ok_Grid_rank (T : Txt K mg a) : FnOk P w K mg base CX0 4 a.Grid_rank a.Grid_rank_fd ["self", "number"] (sp_rank a) := by
  refine T.F_Grid_rank.ok sc_Grid_rank (fun vs H Q E h => ?_) (fun cdv A outer s H vs Q E hr h => ?_)
  · obtain ⟨g, b, f, r, L, G, n, rfl, _⟩ := h
    rfl
  · obtain ⟨g, b, f, r, L, G, n, rfl, hg, hn, k⟩ := h
    refine ⟨_, (pss_cons (ps_if (pt_cmpR (op_ninOwn (ok_Grid_contains T) (hr.mono (by decide)) T.cl_Grid T.m_Grid_contains T.B_Grid_contains pass0) (pv 1) (pv 0) (by rfl)) (pss_one ps_never) pss_nil)
      (pss_cons (ps_set (i := 2) sc_Grid_rank.nd rfl (Or.inl rfl) (pe_callB call_abs (by rfl) T.n_abs (by decide +kernel) (pa_cons (pv 1) pa_nil)))
      (pss_cons (ps_set (i := 3) sc_Grid_rank.nd rfl (Or.inl rfl) (pe_call (ok_spacing_at T) (hr.mono (by decide)) rfl T.g_spacing_at T.k_spacing_at T.B_spacing_at .nil pass0 (pa_cons (pv 0) (pa_cons (pv 2) (pa_cons pe_int pa_nil)))))
      (pss_cons (ps_set (i := 4) sc_Grid_rank.nd rfl (Or.inl rfl) (pe_op op_mulW (pe_call (ok_spans_below T) (hr.mono (by decide)) rfl T.g_spans_below T.k_spans_below T.B_spans_below .nil pass0 (pa_cons (pv 0) (pa_cons (pv 3) pa_nil))) (pe_call (ok_span_size T) (hr.mono (by decide)) rfl T.g_span_size T.k_span_size T.B_span_size .nil pass0 (pa_cons (pv 0) pa_nil))))
      (pss_cons (ps_set (i := 5) sc_Grid_rank.nd rfl (Or.inl rfl) (pe_op op_add (pe_op op_fdivW (pv 2) (pv 3)) (pv 4)))
      (pss_one (ps_ret (pe_ifExp (pt_cmpR op_ge (pv 1) pe_int (nomark _)) (pv 5) (pe_un un_neg (pv 5)))))))))), ?_⟩
    have gr := hg.gr
    have hG := hg.bG
    have hL := gr.L1
    have hl : L < 2 ^ 400 := by
      rw [gr.eL]
      exact pw400 hg.ub (by have := hg.uf; omega)
    have hsx : spx b L n.natAbs ≤ 60 := Nat.le_trans (spx_r gr hn.1) hg.ur
    have hn4 : n.natAbs < 2 ^ 4000 := Nat.lt_of_le_of_lt hn.1 (Nat.lt_trans hG (by decide +kernel))
    have hsz := spc_sz gr.hb hg.ub (by omega : 1 ≤ L) hn4
    have hsp := spc_pos (L := L) (n := n.natAbs) gr.hb
    obtain ⟨dx, lim, tops, p, u, xs, ys, o1, o2, o3, o4, o5⟩ := hg.ob
    refine ⟨_, rfl, _, rfl, g, dx, _, rfl, o1, g, b, f, r, L, G, n, rfl, hg, hn, fun H1 e1 => ⟨true, rfl, _, rfl, ?_⟩⟩
    refine ite2 (fun h => absurd h (by simp)) (fun _ => ?_)
    refine ⟨_, rfl, _, rfl, ?_⟩
    refine ⟨_, rfl, _, rfl, g, b, f, r, L, G, n.natAbs, 0, by rw [absI]; rfl, hg.mono e1, by decide, hn4, fun H2 e2 => ?_⟩
    rw [G1 gr]
    refine ⟨_, rfl, _, rfl, g, b, f, r, L, G, spx b L n.natAbs, rfl, hg.mono (e1.trans e2), by omega, fun H3 e3 => ?_⟩
    refine ⟨_, rfl, g, b, f, r, L, G, rfl, hg.mono ((e1.trans e2).trans e3), fun H4 e4 => ⟨_, _, rfl, rfl, wm (by rw [Int.natAbs_natCast]; exact Nat.lt_of_le_of_lt hsx (by decide +kernel)) (p5000 (k := 400) (by rw [Int.natAbs_natCast]; exact Nat.lt_of_le_of_lt (Nat.sub_le _ _) hl)), ?_⟩⟩
    refine ⟨_, rfl, _, rfl, _, _, rfl, rfl, wd (by omega) (p5000 (by rw [Int.natAbs_natCast]; exact hsz)), _, rfl, _, _, rfl, rfl, ?_⟩
    have kk := k H4 (((e1.trans e2).trans e3).trans e4)
    have hrk : ((if n < 0 then -n else n)) / ((spc b L n.natAbs : Nat) : Int) + ((spx b L n.natAbs : Nat) : Int) * ((L - L / b : Nat) : Int) = ((rk b L n.natAbs : Nat) : Int) := by
      rw [absI]
      unfold rk
      rw [Int.natCast_add, Int.natCast_mul]
      rfl
    unfold rkI at kk
    rw [← hrk] at kk
    refine ⟨_, rfl, _, _, rfl, rfl, _, rfl, ?_⟩
    refine ite2 (fun h => ?_) (fun h => ?_)
    · rw [if_pos (of_decide_eq_true h)] at kk
      exact ⟨_, rfl, kk⟩
    · rw [if_neg (fun z => h (decide_eq_true z))] at kk
      exact ⟨_, rfl, _, rfl, kk⟩
theorem ok_Grid_number (T : Txt K mg a) : FnOk P w K mg base CX0 5 a.Grid_number a.Grid_number_fd ["self", "rank"] (sp_number a) := by
  refine T.F_Grid_number.ok sc_Grid_number (fun vs H Q E h => ?_) (fun cdv A outer s H vs Q E hr h => ?_)
  · obtain ⟨g, b, f, r, L, G, n, rfl, _⟩ := h
    rfl
  · obtain ⟨g, b, f, r, L, G, n, rfl, hg, hn, k⟩ := h
    refine ⟨_, (pss_cons (ps_if (PW.pt (pw_or (pt_not (pt_val (pe_call (ok_is_whole T) (hr.mono (by decide)) rfl T.g_is_whole T.k_is_whole T.B_is_whole .nil pass0 (pa_cons (pv 1) pa_nil)))) (pw_or1 (pt_cmpR op_gt (pe_callB call_abs (by rfl) T.n_abs (by decide +kernel) (pa_cons (pv 1) pa_nil)) (pe_meth (pv 0) T.cl_Grid T.m_Grid_rank (ok_Grid_rank T) (hr.mono (by decide)) T.B_Grid_rank .nil pass0 (pa_cons (pe_fld (pv 0) rfl) pa_nil)) (nomark _))))) (pss_one ps_never) pss_nil)
      (pss_cons (ps_set (i := 2) sc_Grid_number.nd rfl (Or.inl rfl) (pe_callB call_abs (by rfl) T.n_abs (by decide +kernel) (pa_cons (pv 1) pa_nil)))
      (pss_cons (ps_set (i := 3) sc_Grid_number.nd rfl (Or.inl rfl) (pe_callB (call_max2 rfl) (by rfl) T.n_max (by decide +kernel) (pa_cons pe_int (pa_cons (pe_op op_fdivW (pe_op op_sub (pv 2) (pe_op op_fdivW (pe_ix ix_tup (pe_fld (pv 0) rfl) pe_int (fun _ _ => rfl)) (pe_fld (pv 0) rfl))) (pe_call (ok_span_size T) (hr.mono (by decide)) rfl T.g_span_size T.k_span_size T.B_span_size .nil pass0 (pa_cons (pv 0) pa_nil))) pa_nil))))
      (pss_cons (ps_set (i := 4) sc_Grid_number.nd rfl (Or.inl rfl) (pe_op op_mulW (pe_op op_sub (pv 2) (pe_op op_mulW (pv 3) (pe_call (ok_span_size T) (hr.mono (by decide)) rfl T.g_span_size T.k_span_size T.B_span_size .nil pass0 (pa_cons (pv 0) pa_nil)))) (pe_call (ok_power T) (hr.mono (by decide)) rfl T.g_power T.k_power T.B_power .nil pass0 (pa_cons (pe_fld (pv 0) rfl) (pa_cons (pv 3) pa_nil)))))
      (pss_one (ps_ret (pe_ifExp (pt_cmpR op_ge (pv 1) pe_int (nomark _)) (pv 4) (pe_un un_neg (pv 4))))))))), ?_⟩
    have gr := hg.gr
    have hb := gr.hb
    have ub := hg.ub
    have hL := gr.L1
    have hl : L < 2 ^ 400 := by
      rw [gr.eL]
      exact pw400 hg.ub (by have := hg.uf; omega)
    obtain ⟨l1, l2, l3⟩ := lev_facts gr hn
    obtain ⟨d1, d2⟩ := div_b gr
    have hno := num_onG gr hn
    have bsz : ((b : Nat) : Int).natAbs < 2 ^ 400 := by rw [Int.natAbs_natCast]; exact Nat.lt_of_le_of_lt ub (by decide +kernel)
    have ssz : (((L - L / b : Nat) : Int)).natAbs < 2 ^ 400 := by rw [Int.natAbs_natCast]; exact Nat.lt_of_le_of_lt (Nat.sub_le _ _) hl
    have hob := hg.ob
    obtain ⟨dx, lim, tops, p, u, xs, ys, o1, o2, o3, o4, o5⟩ := hob
    have o6 := o4 0 (by decide)
    rw [G1 gr] at o6
    refine ⟨_, rfl, n, rfl, fun H1 e1 => ⟨true, rfl, ?_⟩⟩
    refine ite2 (fun h => absurd h (by simp)) (fun _ => ?_)
    refine ⟨_, rfl, _, rfl, _, rfl, g, dx, _, rfl, e1 _ _ o1, gfl_rank, _, rfl, g, _, dx, _, _, rfl, e1 _ _ o1, T.cl_Grid, T.f_Grid_greatest, gfl_greatest, g, b, f, r, L, G, G, rfl, hg.mono e1, onG_top gr, fun H2 e2 => ?_⟩
    refine ⟨_, _, rfl, rfl, _, rfl, ?_⟩
    have hrk : rkI b L (G : Int) = (rk b L G : Int) := if_pos (by omega)
    dsimp only
    rw [absI, hrk]
    refine ite2 (fun h => absurd (of_decide_eq_true h) (by omega)) (fun _ => ?_)
    have e12 := e1.trans e2
    refine ⟨_, rfl, _, rfl, ?_⟩
    dsimp only
    rw [absI]
    refine ⟨_, rfl, _, rfl, g, _, dx, _, _, rfl, e12 _ _ o1, T.cl_Grid, T.f_Grid_limits, gfl_limits, lim, xs, _, _, rfl, rfl, SqT.of (e12 _ _ o2), atN (m := 0) o6, ?_⟩
    refine ⟨_, rfl, g, _, dx, _, _, rfl, e12 _ _ o1, T.cl_Grid, T.f_Grid_base, gfl_base, _, _, rfl, rfl, wd (by omega) (p5000 bsz), _, _, rfl, rfl, ?_⟩
    refine ⟨_, rfl, g, b, f, r, L, G, rfl, hg.mono e12, fun H3 e3 => ⟨_, _, rfl, rfl, wd (by omega) (p5000 ssz), _, _, rfl, ?_⟩⟩
    have hlc := lev_cast (b := b) (L := L) (k := n.natAbs) (by omega)
    dsimp only
    rw [hlc]
    have e13 := e12.trans e3
    refine ⟨_, rfl, _, rfl, _, rfl, g, b, f, r, L, G, rfl, hg.mono e13, fun H4 e4 => ⟨_, _, rfl, rfl, wm (by rw [Int.natAbs_natCast]; exact Nat.lt_of_le_of_lt (Nat.le_trans l1 hg.ur) (by decide +kernel)) (p5000 ssz), _, _, rfl, rfl, ?_⟩⟩
    have e14 := e13.trans e4
    have hm : ((n.natAbs : Int) - ((lev b L n.natAbs : Nat) : Int) * ((L - L / b : Nat) : Int)) = ((n.natAbs - lev b L n.natAbs * (L - L / b) : Nat) : Int) := by
      rw [Int.ofNat_sub l2, Int.natCast_mul]
    dsimp only
    rw [hm]
    refine ⟨_, rfl, g, _, dx, _, _, rfl, e14 _ _ o1, T.cl_Grid, T.f_Grid_base, gfl_base, _, rfl, b, lev b L n.natAbs, rfl, ub, by have := hg.ur; omega, fun H5 e5 => ⟨_, _, rfl, rfl, wm (p5000 (k := 400) (by rw [Int.natAbs_natCast]; omega)) (p5000 (k := 400) (by rw [Int.natAbs_natCast]; exact pw400 ub (by have := hg.ur; omega))), ?_⟩⟩
    dsimp only
    rw [← Int.natCast_mul]
    have e15 := e14.trans e5
    refine ⟨_, rfl, _, _, rfl, rfl, _, rfl, ?_⟩
    refine ite2 (fun h => ?_) (fun h => ?_)
    · exact ⟨_, rfl, k _ _ e15 hno⟩
    · exact ⟨_, rfl, _, rfl, k _ _ e15 hno.neg⟩
theorem ok_Grid_after (T : Txt K mg a) : FnOk P w K mg base CX0 6 a.Grid_after a.Grid_after_fd ["self", "number"] (sp_after a) := by
  refine T.F_Grid_after.ok sc_Grid_after (fun vs H Q E h => ?_) (fun cdv A outer s H vs Q E hr h => ?_)
  · obtain ⟨g, b, f, r, L, G, n, rfl, _⟩ := h
    rfl
  · obtain ⟨g, b, f, r, L, G, n, rfl, hg, hn, k⟩ := h
    refine ⟨_, (pss_cons (ps_set (i := 2) sc_Grid_after.nd rfl (Or.inl rfl) (pe_meth (pv 0) T.cl_Grid T.m_Grid_rank (ok_Grid_rank T) (hr.mono (by decide)) T.B_Grid_rank .nil pass0 (pa_cons (pv 1) pa_nil)))
      (pss_one (ps_ret (pe_ifExp (pt_cmpR op_eq (pv 1) (pe_fld (pv 0) rfl) (nomark _)) pe_non (pe_meth (pv 0) T.cl_Grid T.m_Grid_number (ok_Grid_number T) (hr.mono (by decide)) T.B_Grid_number .nil pass0 (pa_cons (pe_op op_add (pv 2) pe_int) pa_nil)))))), ?_⟩
    have gr := hg.gr
    have hob := hg.ob
    obtain ⟨dx, lim, tops, p, u, xs, ys, o1, o2, o3, o4, o5⟩ := hob
    refine ⟨_, rfl, g, dx, _, rfl, o1, gfl_rank, _, rfl, g, b, f, r, L, G, n, rfl, hg, hn, fun H1 e1 => ?_⟩
    refine ⟨_, rfl, _, rfl, g, _, dx, _, _, rfl, e1 _ _ o1, T.cl_Grid, T.f_Grid_greatest, gfl_greatest, rfl, _, rfl, ?_⟩
    refine ite2 (fun h => ?_) (fun h => ?_)
    · have h : n = (G : Int) := by simpa using h
      exact k _ H1 e1 (.inl ⟨rfl, h⟩)
    · have h : n ≠ (G : Int) := by simpa using h
      refine ⟨_, rfl, g, dx, _, rfl, e1 _ _ o1, gfl_number, _, rfl, _, _, rfl, rfl, g, b, f, r, L, G, rkI b L n + 1, rfl, hg.mono e1, ?_, fun z H2 e2 hz => k _ H2 (e1.trans e2) (.inr ⟨z, rfl, hz⟩)⟩
      have h1 := rk_pos gr
      have hn1 := hn.1
      have h2 := rk_le gr hn1
      unfold rkI
      split
      · have h3 := rk_lt gr (n := n.natAbs) (by omega)
        omega
      · omega
theorem ok_Grid_before (T : Txt K mg a) : FnOk P w K mg base CX0 6 a.Grid_before a.Grid_before_fd ["self", "number"] (sp_before a) := by
  refine T.F_Grid_before.ok sc_Grid_before (fun vs H Q E h => ?_) (fun cdv A outer s H vs Q E hr h => ?_)
  · obtain ⟨g, b, f, r, L, G, n, rfl, _⟩ := h
    rfl
  · obtain ⟨g, b, f, r, L, G, n, rfl, hg, hn, k⟩ := h
    refine ⟨_, (pss_cons (ps_set (i := 2) sc_Grid_before.nd rfl (Or.inl rfl) (pe_meth (pv 0) T.cl_Grid T.m_Grid_rank (ok_Grid_rank T) (hr.mono (by decide)) T.B_Grid_rank .nil pass0 (pa_cons (pv 1) pa_nil)))
      (pss_one (ps_ret (pe_ifExp (pt_cmpR op_eq (pv 1) (pe_un un_neg (pe_fld (pv 0) rfl)) (nomark _)) pe_non (pe_meth (pv 0) T.cl_Grid T.m_Grid_number (ok_Grid_number T) (hr.mono (by decide)) T.B_Grid_number .nil pass0 (pa_cons (pe_op op_sub (pv 2) pe_int) pa_nil)))))), ?_⟩
    have gr := hg.gr
    have hob := hg.ob
    obtain ⟨dx, lim, tops, p, u, xs, ys, o1, o2, o3, o4, o5⟩ := hob
    refine ⟨_, rfl, g, dx, _, rfl, o1, gfl_rank, _, rfl, g, b, f, r, L, G, n, rfl, hg, hn, fun H1 e1 => ?_⟩
    refine ⟨_, rfl, _, rfl, g, _, dx, _, _, rfl, e1 _ _ o1, T.cl_Grid, T.f_Grid_greatest, gfl_greatest, _, rfl, rfl, _, rfl, ?_⟩
    refine ite2 (fun h => ?_) (fun h => ?_)
    · have h : n = -(G : Int) := by simpa using h
      exact k _ H1 e1 (.inl ⟨rfl, h⟩)
    · have h : n ≠ -(G : Int) := by simpa using h
      refine ⟨_, rfl, g, dx, _, rfl, e1 _ _ o1, gfl_number, _, rfl, _, _, rfl, rfl, g, b, f, r, L, G, rkI b L n - 1, rfl, hg.mono e1, ?_, fun z H2 e2 hz => k _ H2 (e1.trans e2) (.inr ⟨z, rfl, hz⟩)⟩
      have h1 := rk_pos gr
      have hn1 := hn.1
      have h2 := rk_le gr hn1
      unfold rkI
      split
      · omega
      · have h3 := rk_lt gr (n := n.natAbs) (by omega)
        omega
theorem ok_cross_signs (T : Txt K mg a) : FnOk P w K mg base CX0 5 a.cross_signs a.cross_signs_fd ["grid", "four"] (sp_cross_signs a) := by
  refine T.F_cross_signs.ok sc_cross_signs (fun vs H Q E h => ?_) (fun cdv A outer s H vs Q E hr h => ?_)
  · obtain ⟨g, b, f, r, L, G, t, x, y, z, u, rfl, _⟩ := h
    rfl
  · obtain ⟨g, b, f, r, L, G, t, x, y, z, u, rfl, hg, ht, hx, hy, hz, hu, k⟩ := h
    refine ⟨_, (pss_cons (ps_if (PW.pt (pw_or (pt_not (pt_val (pe_call (ok_is_numbers T) (hr.mono (by decide)) rfl T.g_is_numbers T.k_is_numbers T.B_is_numbers .nil pass0 (pa_cons (pv 0) (pa_cons (pv 1) pa_nil))))) (pw_or1 (pt_cmpR op_ne (pe_callB call_len_seq (by rfl) T.n_len (by decide +kernel) (pa_cons (pv 1) pa_nil)) pe_int (nomark _))))) (pss_one ps_never) pss_nil)
      (pss_cons (ps_set (i := 2) sc_cross_signs.nd rfl (Or.inl rfl) (pe_op op_mulW (pe_ix ix_tup (pv 1) pe_int (fun _ _ => rfl)) (pe_ix ix_tup (pv 1) pe_int (fun _ _ => rfl))))
      (pss_cons (ps_set (i := 3) sc_cross_signs.nd rfl (Or.inl rfl) (pe_op op_mulW (pe_ix ix_tup (pv 1) pe_int (fun _ _ => rfl)) (pe_ix ix_tup (pv 1) pe_int (fun _ _ => rfl))))
      (pss_cons (ps_set (i := 4) sc_cross_signs.nd rfl (Or.inl rfl) (pe_call (ok_fitted T) (hr.mono (by decide)) rfl T.g_fitted T.k_fitted T.B_fitted .nil pass0 (pa_cons (pv 0) (pa_cons (pv 2) (pa_cons pe_int (pa_cons pe_str (pa_cons pe_int pa_nil)))))))
      (pss_cons (ps_set (i := 5) sc_cross_signs.nd rfl (Or.inl rfl) (pe_call (ok_fitted T) (hr.mono (by decide)) rfl T.g_fitted T.k_fitted T.B_fitted .nil pass0 (pa_cons (pv 0) (pa_cons (pv 3) (pa_cons pe_int (pa_cons pe_str (pa_cons pe_int pa_nil)))))))
      (pss_cut (ps_set (i := 6) sc_cross_signs.nd rfl (Or.inl rfl) (pe_ifExp (PW.pt (pw_or (pt_cmpR op_isN (pv 4) pe_non (nomark _)) (pw_or1 (pt_cmpR op_isN (pv 5) pe_non (nomark _))))) pe_non (pe_call (ok_sign_of T) (hr.mono (by decide)) rfl T.g_sign_of T.k_sign_of T.B_sign_of .nil pass0 (pa_cons (pe_op op_sub (pv 4) (pv 5)) pa_nil))))
      (pss_one (ps_ret (pe_tup (pa_cons (pe_call (ok_sign_of T) (hr.mono (by decide)) rfl T.g_sign_of T.k_sign_of T.B_sign_of .nil pass0 (pa_cons (pe_op op_sub (pv 2) (pv 3)) pa_nil)) (pa_cons (pv 6) pa_nil))))))))))), ?_⟩
    have hG := hg.bG
    have s4 : ∀ {n : Int}, OnG b L G n → n.natAbs < 2 ^ 400 := fun {n} h => Nat.lt_of_le_of_lt h.1 hG
    have w4 : ∀ {n m : Int}, OnG b L G n → OnG b L G m → (n * m).natAbs < 2 ^ 4000 := fun {n m} h1 h2 => Nat.lt_trans (wide_lt (s4 h1) (s4 h2)) (by decide +kernel)
    refine ⟨_, rfl, _, rfl, g, b, f, r, L, G, t, [x, y, z, u], rfl, hg, ht, by show 4 ≤ 1000; decide, fun n hn => ?_, fun H1 e1 => ⟨true, rfl, ?_⟩⟩
    · rcases List.mem_cons.mp hn with rfl | hn
      · exact hx
      rcases List.mem_cons.mp hn with rfl | hn
      · exact hy
      rcases List.mem_cons.mp hn with rfl | hn
      · exact hz
      rw [List.mem_singleton.mp hn]; exact hu
    refine ite2 (fun h => absurd h (by simp)) (fun _ => ?_)
    have ht1 := SqT.of (K := K) (e1 _ _ ht)
    refine ⟨_, rfl, t, _, rfl, .inr ht1, rfl, _, rfl, ?_⟩
    refine ite2 (fun h => absurd h (by simp [iv])) (fun _ => ?_)
    refine ⟨_, rfl, t, _, _, _, rfl, rfl, ht1, atN (m := 0) rfl, _, rfl, t, _, _, _, rfl, rfl, ht1, atN (m := 3) rfl, _, _, rfl, rfl, wm (p5000 (s4 hx)) (p5000 (s4 hu)), ?_⟩
    refine ⟨_, rfl, t, _, _, _, rfl, rfl, ht1, atN (m := 1) rfl, _, rfl, t, _, _, _, rfl, rfl, ht1, atN (m := 2) rfl, _, _, rfl, rfl, wm (p5000 (s4 hy)) (p5000 (s4 hz)), ?_⟩
    refine ⟨_, rfl, _, rfl, g, b, f, r, L, G, x * u, rfl, hg.mono e1, w4 hx hu, fun H2 e2 => ?_⟩
    refine ⟨_, rfl, _, rfl, g, b, f, r, L, G, y * z, rfl, hg.mono (e1.trans e2), w4 hy hz, fun H3 e3 => ?_⟩
    have e13 := (e1.trans e2).trans e3
    refine ⟨fun σ H4 => Ex H H4 ∧ ∃ z1 z2, σ = [some (.ref g), some (.ref t), some (.int (x * u)), some (.int (y * z)), z1, z2, some (vo (plo b L G (x * u) (y * z)))], ?_, ?_⟩
    · by_cases h1 : (rn b L (x * u)).natAbs ≤ G
      · rw [rnO_in h1]
        refine ⟨_, rfl, rfl, _, rfl, ?_⟩
        refine ite2 (fun h => absurd h (by simp)) (fun _ => ?_)
        by_cases h2 : (rn b L (y * z)).natAbs ≤ G
        · rw [rnO_in h2]
          refine ⟨_, rfl, rfl, _, rfl, ?_⟩
          refine ite2 (fun h => absurd h (by simp)) (fun _ => ?_)
          refine ⟨_, rfl, _, rfl, _, _, rfl, rfl, _, rfl, fun H4 e4 => ⟨e13.trans e4, some (.int (rn b L (x * u))), some (.int (rn b L (y * z))), ?_⟩⟩
          rw [show plo b L G (x * u) (y * z) = some (sgn (rn b L (x * u) - rn b L (y * z))) from if_pos ⟨h1, h2⟩]
          rfl
        · rw [show rnO b L G (y * z) = .non from if_neg h2]
          refine ⟨_, rfl, rfl, _, rfl, ?_⟩
          refine ite2 (fun _ => ?_) (fun h => absurd (by simp) h)
          refine ⟨e13, some (.int (rn b L (x * u))), some .non, ?_⟩
          rw [show plo b L G (x * u) (y * z) = none from if_neg fun z => h2 z.2]
          rfl
      · rw [show rnO b L G (x * u) = .non from if_neg h1]
        refine ⟨_, rfl, rfl, _, rfl, ?_⟩
        refine ite2 (fun _ => ?_) (fun h => absurd (by simp) h)
        refine ⟨e13, some .non, some (rnO b L G (y * z)), ?_⟩
        rw [show plo b L G (x * u) (y * z) = none from if_neg fun z => h1 z.1]
        rfl
    · rintro σ H4 ⟨e4, z1, z2, rfl⟩
      refine ⟨_, rfl, _, rfl, _, _, rfl, rfl, _, rfl, fun H5 e5 => ⟨_, rfl, by show 2 ≤ sizeLine; decide, fun q hq => ?_⟩⟩
      exact k q _ ((e4.trans e5).trans (Ex.new hq)) upd_same
end
end My


set_option Elab.async false
set_option maxRecDepth 100000
set_option maxHeartbeats 2000000
set_option exponentiation.threshold 6000
namespace My
open PySem L2 Evl
def sp_itr (K : PySem.W.Frag) (a : Ad) : Sp := fun vs H Q _ => ∃ (g t : Addr) (b f r pl : Nat) (w : Int), vs = [.ref g, .ref t, .int w] ∧ GridAt a H g b f r (b ^ f) (gG b f r) ∧ TG K H t b f r pl ∧ okg b f r ∧ w.natAbs ≤ gG b f r ∧ ∀ H', Ex H H' → Q (.bl true) H'
section
variable {P : Program} {w : World} {K : PySem.W.Frag} {mg : Str → Option Value} {base : Heap} {a : Ad}
theorem ok_l_is_told_right (T : Txt K mg a) : FnOk P w K mg base CX0 5 a.l_is_told_right a.l_is_told_right_fd ["made", "grid", "worth"] (sp_itr K a) := by
  refine T.F_l_is_told_right.ok sc_l_is_told_right (fun vs H Q E h => ?_) (fun cdv A outer s H vs Q E hr h => ?_)
  · obtain ⟨g, t, b, f, r, pl, w, rfl, _⟩ := h
    rfl
  · obtain ⟨g, t, b, f, r, pl, w, rfl, hg, ht, hok, hw, k⟩ := h
    refine ⟨_, (pss_cons (ps_set (i := 3) sc_l_is_told_right.nd rfl (Or.inl rfl) (pe_call (ok_renewed T) (hr.mono (by decide)) rfl T.g_renewed T.k_renewed T.B_renewed .nil pass0 (pa_cons (pv 0) (pa_cons (pv 2) pa_nil))))
      (pss_cons (ps_if (PW.pt (pw_or (pt_cmpR op_ne (pe_cmpR (op_eqD hr.units) (pv 3) (pe_tup pa_nil) (nomark _)) (pe_cmpR op_eq (pv 2) pe_int (nomark _)) (nomark _)) (pw_or1 (pt_cmpR op_ne (pe_callB (cr_sumT rfl) (by rfl) T.n_sum (by decide +kernel) (pa_cons (pv 3) pa_nil)) (pv 2) (nomark _))))) (pss_one (ps_ret pe_bl)) pss_nil)
      (pss_cut (ps_if (PW.pt (pw_and (pt_cmpR (op_neD hr.units) (pv 3) (pe_tup pa_nil) (nomark _)) (pw_and1 (pt_cmpR op_ne (pe_call (ok_l_sign T) (hr.mono (by decide)) rfl T.g_l_sign T.k_l_sign T.B_l_sign .nil pass0 (pa_cons (pe_ix ix_tup (pv 3) pe_int (fun _ _ => rfl)) pa_nil)) (pe_call (ok_l_sign T) (hr.mono (by decide)) rfl T.g_l_sign T.k_l_sign T.B_l_sign .nil pass0 (pa_cons (pv 2) pa_nil)) (nomark _))))) (pss_one (ps_ret pe_bl)) pss_nil)
      (pss_cons (ps_for PassesOwn.never rfl (RZ.pi_zipA rfl T.n_zip (pa_cons (pv 3) (pa_cons (pe_slice sl_tupA (pv 3) (po_some pe_int) po_none) pa_nil))) (pg_tup rfl (pgs_cons (pg_name (i := 4) sc_l_is_told_right.nd rfl (Or.inl rfl)) (pgs_cons (pg_name (i := 5) sc_l_is_told_right.nd rfl (Or.inl rfl)) pgs_nil))) (pss_one (ps_if (PW.pt (pw_or (pt_cmpR op_eq (pv 5) pe_int (nomark _)) (pw_or1 (pt_cmpR op_gt (pe_op op_mulW pe_int (pe_callB call_abs (by rfl) T.n_abs (by decide +kernel) (pa_cons (pv 5) pa_nil))) (pe_call (ok_l_grid_spacing T) (hr.mono (by decide)) rfl T.g_l_grid_spacing T.k_l_grid_spacing T.B_l_grid_spacing .nil pass0 (pa_cons (pv 1) (pa_cons (pv 4) (pa_cons pe_int pa_nil)))) (nomark _))))) (pss_one (ps_ret pe_bl)) pss_nil)))
      (pss_one (ps_ret pe_bl)))))), ?_⟩
    have gr := hok.gr
    have hGb := hok.bG
    refine ⟨_, rfl, _, rfl, g, b, f, r, b ^ f, gG b f r, w, rfl, hg, hw, fun p H1 e1 hp => ?_⟩
    have hsum := row_sum gr w
    have hnil := row_empty gr (t := w)
    have hcons : w ≠ 0 → (row b (b ^ f) w)[0]? = some (rn b (b ^ f) w) := fun h => by rw [row_cons gr h]; rfl
    have hnext := row_next gr w
    have honG := row_onG gr w hw
    generalize hR : row b (b ^ f) w = R at *
    have hemp : R.isEmpty = decide (V.int w = V.int 0) := by
      by_cases h0 : w = 0
      · rw [hnil.mpr h0, h0]; rfl
      · have : R ≠ [] := fun z => h0 (hnil.mp z)
        cases R with
        | nil => exact absurd rfl this
        | cons _ _ => simp [h0]
    have hE2 : V.bl (PyData.eqv (.tuple (R.map PyData.int)) (.tuple [])) = V.bl (decide (V.int w = V.int 0)) := by rw [eqv_nil, hemp]
    refine ⟨_, rfl, by show 0 ≤ sizeLine; decide, fun u hu => ?_⟩
    have e2 := e1.trans (Ex.new (o := .tup []) hu)
    have hp2 := (Ex.new (o := .tup []) hu) _ _ hp
    have hu2 : (upd H1 u (.tup [])) u = some (.tup []) := upd_same
    generalize (upd H1 u (.tup [])) = H2 at *
    refine ⟨_, _, .tup (SqT.of hp2) (dp_ints R), .tup (SqT.of hu2) .nil, sh_ints R, sh_ints [], _, rfl, rfl, rfl, _, rfl, ?_⟩
    refine ite2 (fun h => ?_) (fun _ => ?_)
    · replace h : (!decide (V.bl (PyData.eqv (.tuple (R.map PyData.int)) (.tuple [])) = V.bl (decide (V.int w = V.int 0)))) = true := h
      rw [decide_eq_true hE2] at h
      cases h
    refine ⟨_, rfl, p, R, rfl, SqT.of hp2, _, rfl, rfl, _, rfl, ?_⟩
    rw [hsum]
    refine ite2 (fun h => absurd h (by simp)) (fun _ => ?_)
    refine ⟨fun σ H3 => Ex H H3 ∧ H3 p = some (.tup (iv R)) ∧ σ = [some (.ref g), some (.ref t), some (.int w), some (.ref p), none, none], ?_, ?_⟩
    · refine ⟨_, rfl, by show 0 ≤ sizeLine; decide, fun u hu => ?_⟩
      have e5 := (Ex.new (o := .tup []) hu)
      refine ⟨_, _, .tup (SqT.of (e5 _ _ hp2)) (dp_ints R), .tup (SqT.of upd_same) .nil, sh_ints R, sh_ints [], _, rfl, ?_⟩
      rw [eqv_nil]
      refine ite2 (fun h => ?_) (fun h => ?_)
      · have h0 : w ≠ 0 := by
          intro z
          rw [hnil.mpr z] at h
          simp at h
        have hr0 : (iv R)[0]? = some (.int (rn b (b ^ f) w)) := by
          unfold iv
          rw [List.getElem?_map, hcons h0]
          rfl
        refine ⟨_, rfl, p, _, _, _, rfl, rfl, SqT.of (e5 _ _ hp2), atN (m := 0) hr0, _, rfl, fun H6 e6 => ⟨_, rfl, _, rfl, fun H7 e7 => ⟨rfl, _, rfl, ?_⟩⟩⟩
        rw [rn_sgn gr w]
        refine ite2 (fun h => absurd h (by simp)) (fun _ => ?_)
        exact ⟨(e2.trans e5).trans (e6.trans e7), (e6.trans e7) _ _ (e5 _ _ hp2), rfl⟩
      · refine ite2 (fun h => absurd h (by simp)) (fun _ => ?_)
        exact ⟨e2.trans e5, e5 _ _ hp2, rfl⟩
    rintro σ H3 ⟨e3, hp3, rfl⟩
    refine ⟨_, rfl, _, rfl, _, rfl, p, _, rfl, SqT.of hp3, fun hw2 => ?_, fun hw2 q hq => ?_⟩
    · have hxs := whole1 _ hw2
      refine ⟨p, p, [], [], rfl, .inr ⟨by rw [hxs] at hp3; exact SqT.of hp3, by rw [hxs] at hp3; exact SqT.of hp3, ?_⟩⟩
      refine for_zipT2 (K := K) (a := p) (b := p) (xs := []) (ys := []) (fun i σ H5 => Ex H H5 ∧ H5 p = some (.tup []) ∧ ∃ z1 z2, σ = [some (.ref g), some (.ref t), some (.int w), some (.ref p), z1, z2]) ⟨e3, by rw [hxs] at hp3; exact hp3, _, _, rfl⟩ (fun i σ H5 z => ⟨SqT.of z.2.1, SqT.of z.2.1⟩) (fun i x y T σ H5 hx => by cases hx) ?_
      rintro i σ H5 ⟨e5, _, z1, z2, rfl⟩
      exact k H5 e5
    · rw [cut1]
      have e4 := Ex.new (o := .tup ((iv R).drop 1)) hq
      have hq4 : (upd H3 q (.tup ((iv R).drop 1))) q = some (.tup ((iv R).drop 1)) := upd_same
      have hp4 := e4 _ _ hp3
      have e14 := e3.trans e4
      generalize (upd H3 q (.tup ((iv R).drop 1))) = H4 at *
      refine ⟨p, q, iv R, (iv R).drop 1, rfl, .inr ⟨SqT.of hp4, SqT.of hq4, ?_⟩⟩
      refine for_zipT2 (K := K) (a := p) (b := q) (xs := iv R) (ys := (iv R).drop 1) (fun i σ H5 => Ex H4 H5 ∧ ∃ z1 z2, σ = [some (.ref g), some (.ref t), some (.int w), some (.ref p), z1, z2]) ⟨Ex.refl _, _, _, rfl⟩ (fun i σ H5 z => ⟨SqT.of (z.1 _ _ hp4), SqT.of (z.1 _ _ hq4)⟩) ?_ ?_
      · rintro i x y Tn σ H5 hx hy ⟨e5, z1, z2, rfl⟩ hTn
        obtain ⟨x', hx', rfl⟩ := iv_get hx
        rw [List.getElem?_drop, Nat.add_comm] at hy
        obtain ⟨y', hy', rfl⟩ := iv_get hy
        obtain ⟨n1, n2⟩ := hnext i x' y' hx' hy'
        have ox := honG x' (List.mem_of_getElem? hx')
        have oy := honG y' (List.mem_of_getElem? hy')
        have e6 := Ex.new (o := .tup [V.int x', V.int y']) hTn
        refine ⟨Tn, _, rfl, SqT.of upd_same, rfl, _, _, rfl, _, _, rfl, rfl, ?_⟩
        generalize (upd H5 Tn (.tup [V.int x', V.int y'])) = H6 at *
        refine ⟨_, rfl, rfl, _, rfl, ?_⟩
        refine ite2 (fun h => absurd h (by simp [n1])) (fun _ => ?_)
        refine ⟨_, rfl, _, rfl, _, _, rfl, rfl, wm (by decide +kernel) (p5000 (k := 400) (by rw [absI, Int.natAbs_natCast]; exact Nat.lt_of_le_of_lt oy.1 hGb)), _, rfl, _, rfl, t, b, f, r, pl, x', rfl, ht.ex (e14.trans (e5.trans e6)), hok.v, Nat.lt_of_le_of_lt ox.1 (Nat.lt_trans hGb (by decide +kernel)), fun H7 e7 => ⟨_, _, rfl, rfl, _, rfl, ?_⟩⟩
        rw [absI]
        refine ite2 (fun h => ?_) (fun _ => ?_)
        · have h := of_decide_eq_true h
          omega
        exact ⟨(e5.trans e6).trans e7, _, _, rfl⟩
      · rintro i σ H5 ⟨e5, z1, z2, rfl⟩
        exact k H5 (e14.trans e5)
end
end My


set_option Elab.async false
set_option maxRecDepth 100000
set_option maxHeartbeats 4000000
set_option exponentiation.threshold 6000
namespace My
open PySem L2 Evl
def Rp (d : PyData) : Prop := d.showable = true ∧ d.hasDict = false ∧ d.depth ≤ 60 ∧ (∀ z, d ≠ .str z) ∧ d.shown.length ≤ sizeLine
theorem lg {i : Int} {k : Nat} (h : i.natAbs < 2 ^ k) (h0 : 0 < k) (hk : k ≤ 1920) : i.natAbs.log2 < 1920 := Nat.lt_of_lt_of_le (PySem.Flt.log2_lt_of h0 h) hk
theorem rp_none : Rp .none := ⟨rfl, rfl, Nat.zero_le _, nofun, by decide +kernel⟩
theorem rp_int {i : Int} (h : i.natAbs.log2 < 1920) : Rp (.int i) := ⟨decide_eq_true h, rfl, Nat.zero_le _, nofun, Nat.le_trans (PyProof.Rows.int_text_len_1921 h) (by decide)⟩
theorem all_id : ∀ bs : List Bool, (∀ b ∈ bs, b = true) → bs.all id = true
  | [], _ => rfl
  | b :: bs, h => by
    rw [List.all_cons, all_id bs (fun c hc => h c (List.mem_cons_of_mem _ hc)), h b List.mem_cons_self]; rfl
def pd : Option Int → PyData
  | none => .none
  | some i => .int i
theorem dp_vo {K : PySem.W.Frag} {H : Hp} : ∀ o : Option Int, Dp K H (vo o) (pd o)
  | none => .non
  | some i => .int i
theorem fl_vo : ∀ o : Option Int, flatV (vo o) = true
  | none => rfl
  | some _ => rfl
theorem rp_so {i : Int} {o : Option Int} (hi : i.natAbs ≤ 1) (ho : ∀ j, o = some j → j.natAbs ≤ 1) : Rp (.tuple [.int i, pd o]) := by
  have l1 : ∀ {z : Int}, z.natAbs ≤ 1 → z.natAbs.log2 < 1920 := fun {z} hz => lg (k := 400) (Nat.lt_of_le_of_lt hz (by decide +kernel)) (by decide) (by decide)
  have h2 : Rp (pd o) := by
    cases o with
    | none => exact rp_none
    | some j => exact rp_int (l1 (ho j rfl))
  have h3 : (pd o).shown.length ≤ 2000000 := by
    cases o with
    | none => decide +kernel
    | some j => exact Nat.le_trans (PyProof.Rows.int_text_len_1921 (l1 (ho j rfl))) (by decide)
  have h1 := rp_int (l1 hi)
  refine ⟨?_, ?_, ?_, nofun, ?_⟩
  · show (PyData.showable (.int i) && (PyData.showable (pd o) && true)) = true
    rw [h1.1, h2.1]; rfl
  · show (PyData.hasDict (.int i) || (PyData.hasDict (pd o) || false)) = false
    rw [h1.2.1, h2.2.1]; rfl
  · show max 0 (max (PyData.depth (pd o)) 0) + 1 ≤ 60
    have : PyData.depth (pd o) = 0 := by cases o <;> rfl
    rw [this]; decide
  · show (tupleText [PyData.shown (.int i), PyData.shown (pd o)]).length ≤ sizeLine
    have h2 := tupleText_le (M := 2000000) (ts := [PyData.shown (.int i), PyData.shown (pd o)]) (fun t ht => by
      rcases List.mem_cons.mp ht with rfl | ht
      · exact Nat.le_trans (PyProof.Rows.int_text_len_1921 (l1 hi)) (by decide)
      · rw [List.mem_singleton.mp ht]; exact h3)
    exact Nat.le_trans h2 (by show (2000000 + 2) * 2 + 10 ≤ sizeLine; decide)
theorem sides_in (b L G : Nat) (X Y : Int) : (inV .non [rnO b L G X, rnO b L G Y] = true ∧ plo b L G X Y = none) ∨
    (inV .non [rnO b L G X, rnO b L G Y] = false ∧ rnO b L G X = .int (rn b L X) ∧ rnO b L G Y = .int (rn b L Y) ∧ plo b L G X Y = some (sgn (rn b L X - rn b L Y))) := by
  unfold rnO plo
  by_cases h1 : (rn b L X).natAbs ≤ G
  · by_cases h2 : (rn b L Y).natAbs ≤ G
    · rw [if_pos h1, if_pos h2, if_pos ⟨h1, h2⟩]
      exact .inr ⟨rfl, rfl, rfl, rfl⟩
    · have e : ¬ ((rn b L X).natAbs ≤ G ∧ (rn b L Y).natAbs ≤ G) := fun z => h2 z.2
      rw [if_pos h1, if_neg h2, if_neg e]
      exact .inl ⟨rfl, rfl⟩
  · have e : ¬ ((rn b L X).natAbs ≤ G ∧ (rn b L Y).natAbs ≤ G) := fun z => h1 z.1
    rw [if_neg h1, if_neg e]
    exact .inl ⟨rfl, rfl⟩
theorem sides_flat (b L G : Nat) (X Y : Int) : [rnO b L G X, rnO b L G Y].all flatV = true := by
  unfold rnO
  split <;> split <;> rfl
theorem plo_neg {b L G : Nat} (hb : 2 ≤ b) (X Y : Int) : plo b L G (-X) (-Y) = (plo b L G X Y).map fun z => -z := by
  unfold plo
  rw [rn_neg hb, rn_neg hb, Int.natAbs_neg, Int.natAbs_neg]
  split
  · have e : -rn b L X - -rn b L Y = -(rn b L X - rn b L Y) := by omega
    rw [e, sgn_neg]; rfl
  · rfl
theorem plo_swap {b L G : Nat} (X Y : Int) : plo b L G Y X = (plo b L G X Y).map fun z => -z := by
  unfold plo
  by_cases h : (rn b L X).natAbs ≤ G ∧ (rn b L Y).natAbs ≤ G
  · rw [if_pos h, if_pos ⟨h.2, h.1⟩]
    have e : rn b L Y - rn b L X = -(rn b L X - rn b L Y) := by omega
    rw [e, sgn_neg]; rfl
  · rw [if_neg h, if_neg (fun z => h ⟨z.2, z.1⟩)]; rfl
theorem plo_facts {b f r L G : Nat} (g : Gr b f r L G) {X Y : Int} {j : Int} (h : plo b L G X Y = some j) : j = 0 ∨ j = sgn (X - Y) := by
  unfold plo at h
  split at h
  · rename_i hc
    cases h
    exact sgn_cross g hc.1 hc.2
  · cases h
theorem in3 {o : Option Int} {s : Int} (h : ∀ j, o = some j → j = 0 ∨ j = s) : inV (vo o) [.non, .int 0, .int s] = true := by
  cases o with
  | none => rfl
  | some j =>
    rcases h j rfl with rfl | rfl
    · rfl
    · show (false || ((0 == j) || ((j == j) || false))) = true
      simp
/-- a four whose cross is turned about -/
def Tw (H : Hp) (b L G : Nat) (s : Int) (o : Option Int) (v : V) : Prop := ∃ (t : Addr) (x y z u : Int), v = .ref t ∧ H t = some (.tup (iv [x, y, z, u])) ∧ OnG b L G x ∧ OnG b L G y ∧ OnG b L G z ∧ OnG b L G u ∧ sgn (x * u - y * z) = -s ∧ plo b L G (x * u) (y * z) = o.map fun z => -z
theorem Tw.ex {H H' : Hp} {b L G : Nat} {s : Int} {o : Option Int} {v : V} (h : Tw H b L G s o v) (e : Ex H H') : Tw H' b L G s o v := by
  obtain ⟨t, x, y, z, u, h1, h2, h3⟩ := h
  exact ⟨t, x, y, z, u, h1, e _ _ h2, h3⟩
theorem Tw.upd {H : Hp} {b L G : Nat} {s : Int} {o : Option Int} {v : V} {D : Addr} {xs ys : List V} (h : Tw H b L G s o v) (hD : H D = some (.lst xs)) : Tw (L2.upd H D (.lst ys)) b L G s o v := by
  obtain ⟨t, x, y, z, u, h1, h2, h3⟩ := h
  exact ⟨t, x, y, z, u, h1, by rw [upd_ne (ne_of h2 hD (by intro z; cases z))]; exact h2, h3⟩
def sp_icr (K : PySem.W.Frag) (a : Ad) : Sp := fun vs H Q _ => ∃ (g t : Addr) (b f r pl : Nat) (fo : Addr) (x y z u : Int), vs = [.ref g, .ref t, .ref fo] ∧ GridAt a H g b f r (b ^ f) (gG b f r) ∧ TG K H t b f r pl ∧ okg b f r ∧ H fo = some (.tup (iv [x, y, z, u])) ∧
  OnG b (b ^ f) (gG b f r) x ∧ OnG b (b ^ f) (gG b f r) y ∧ OnG b (b ^ f) (gG b f r) z ∧ OnG b (b ^ f) (gG b f r) u ∧ ∀ H', Ex H H' → Q (.bl true) H'
section
variable {P : Program} {w : World} {K : PySem.W.Frag} {mg : Str → Option Value} {base : Heap} {a : Ad}
theorem ok_l_are_crossed_right (T : Txt K mg a) : GOk P w K mg base 6 a.l_are_crossed_right a.l_are_crossed_right_fd ["made", "grid", "four"] (sp_icr K a) := by
  refine okG T.F_l_are_crossed_right sc_l_are_crossed_right (fun vs H Q E h => ?_) (fun cdv A outer s H vs Q E hG hr h => ?_)
  · obtain ⟨g, t, b, f, r, pl, fo, x, y, z, u, rfl, _⟩ := h
    rfl
  · obtain ⟨g, t, b, f, r, pl, fo, x, y, z, u, rfl, hg, ht, hok, hfo, hx, hy, hz, hu, k⟩ := h
    refine ⟨_, (pss_cons (ps_par (i := 3) (j := 4) (by rfl) sc_l_are_crossed_right.nd rfl rfl (by decide) rfl rfl (pa_cons (pe_op op_mulW (pe_ix ix_tup (pv 2) pe_int (fun _ _ => rfl)) (pe_ix ix_tup (pv 2) pe_int (fun _ _ => rfl))) (pa_cons (pe_op op_mulW (pe_ix ix_tup (pv 2) pe_int (fun _ _ => rfl)) (pe_ix ix_tup (pv 2) pe_int (fun _ _ => rfl))) pa_nil)) (by rfl))
      (pss_cons (ps_setLc (i := 5) (own := [("product", 11)]) (g := gName 11) (by rfl) sc_l_are_crossed_right.nd rfl rfl (sw_true rfl rfl rfl (by decide +kernel)) (pi_tup (pe_tup (pa_cons (pv 3) (pa_cons (pv 4) pa_nil)))) (blkOk_by (own := [("product", 11)]) (N := N_l_are_crossed_right) (sc := defScope s_l_are_crossed_right) (by decide +kernel)) (fun _ _ _ _ _ => pg_name (i := 11) sc_l_are_crossed_right.nd rfl (Or.inl rfl)) (fun _ _ _ _ _ => pts_nil) (fun _ _ _ _ _ => (pe_call (ok_l_grid_rounded T) (hr.mono (by decide)) rfl T.g_l_grid_rounded T.k_l_grid_rounded T.B_l_grid_rounded .nil pass0 (pa_cons (pv 1) (pa_cons (pv 11) (pa_cons pe_int (pa_cons pe_str (pa_cons pe_int pa_nil))))))))
      (pss_cut (ps_set (i := 6) sc_l_are_crossed_right.nd rfl (Or.inl rfl) (pe_ifExp (pt_cmpR op_in_seq pe_non (pv 5) (by rfl)) pe_non (pe_call (ok_l_sign T) (hr.mono (by decide)) rfl T.g_l_sign T.k_l_sign T.B_l_sign .nil pass0 (pa_cons (pe_op op_sub (pe_ix ix_list (pv 5) pe_int (fun _ _ => rfl)) (pe_ix ix_list (pv 5) pe_int (fun _ _ => rfl))) pa_nil))))
      (pss_cons (ps_par (i := 7) (j := 8) (by rfl) sc_l_are_crossed_right.nd rfl rfl (by decide) rfl rfl (pa_cons (pe_call (ok_l_sign T) (hr.mono (by decide)) rfl T.g_l_sign T.k_l_sign T.B_l_sign .nil pass0 (pa_cons (pe_op op_sub (pv 3) (pv 4)) pa_nil)) (pa_cons (pe_call (ok_cross_signs T) (hr.mono (by decide)) rfl T.g_cross_signs T.k_cross_signs T.B_cross_signs .nil pass0 (pa_cons (pv 0) (pa_cons (pv 2) pa_nil))) pa_nil)) (by rfl))
      (pss_cons (ps_if (PW.pt (pw_or (pt_cmpR op_ne (pe_callB (cr_repr hG hr.units) (by rfl) T.n_repr (by decide +kernel) (pa_cons (pv 8) pa_nil)) (pe_callB (cr_repr hG hr.units) (by rfl) T.n_repr (by decide +kernel) (pa_cons (pe_tup (pa_cons (pv 7) (pa_cons (pv 6) pa_nil))) pa_nil)) (nomark _)) (pw_or1 (pt_cmpR op_notIn_seq (pv 6) (pe_tup (pa_cons pe_non (pa_cons pe_int (pa_cons (pv 7) pa_nil)))) (by rfl))))) (pss_one (ps_ret pe_bl)) pss_nil)
      (pss_cut (ps_set (i := 9) sc_l_are_crossed_right.nd rfl (Or.inr rfl) (pe_callB (cr_repr hG hr.units) (by rfl) T.n_repr (by decide +kernel) (pa_cons (pe_tup (pa_cons (pe_un un_neg (pv 7)) (pa_cons (pe_ifExp (pt_cmpR op_isN (pv 6) pe_non (nomark _)) pe_non (pe_un un_neg (pv 6))) pa_nil))) pa_nil)))
      (pss_cons (ps_set (i := 10) sc_l_are_crossed_right.nd rfl (Or.inl rfl) (pe_lst (pa_cons (pe_tup (pa_cons (pe_ix ix_tup (pv 2) pe_int (fun _ _ => rfl)) (pa_cons (pe_ix ix_tup (pv 2) pe_int (fun _ _ => rfl)) (pa_cons (pe_ix ix_tup (pv 2) pe_int (fun _ _ => rfl)) (pa_cons (pe_ix ix_tup (pv 2) pe_int (fun _ _ => rfl)) pa_nil))))) (pa_cons (pe_tup (pa_cons (pe_un un_neg (pe_ix ix_tup (pv 2) pe_int (fun _ _ => rfl))) (pa_cons (pe_un un_neg (pe_ix ix_tup (pv 2) pe_int (fun _ _ => rfl))) (pa_cons (pe_ix ix_tup (pv 2) pe_int (fun _ _ => rfl)) (pa_cons (pe_ix ix_tup (pv 2) pe_int (fun _ _ => rfl)) pa_nil))))) pa_nil))))
      (pss_cons (ps_expr (pe_bm PySem.F.plainAttrs_list PySem.F.slot_list_append PySem.F.type_list_append mt_append (pv 10) (pa_cons (pe_tup (pa_cons (pe_un un_neg (pe_ix ix_tup (pv 2) pe_int (fun _ _ => rfl))) (pa_cons (pe_ix ix_tup (pv 2) pe_int (fun _ _ => rfl)) (pa_cons (pe_un un_neg (pe_ix ix_tup (pv 2) pe_int (fun _ _ => rfl))) (pa_cons (pe_ix ix_tup (pv 2) pe_int (fun _ _ => rfl)) pa_nil))))) pa_nil)))
      (pss_one (ps_ret (pe_callB (cr_all rfl) (by rfl) T.n_all (by decide +kernel) (pa_cons (pe_lc (own := [("its", 12)]) (g := gName 12) (by rfl) sc_l_are_crossed_right.nd (pi_list (pv 10)) (blkOk_by (own := [("its", 12)]) (N := N_l_are_crossed_right) (sc := defScope s_l_are_crossed_right) (by decide +kernel)) (fun _ _ _ _ _ => pg_name (i := 12) sc_l_are_crossed_right.nd rfl (Or.inl rfl)) (fun _ _ _ _ _ => pts_nil) (fun _ _ _ _ _ => (pe_cmpR op_eq (pe_callB (id := "repr") (r := rRepr K) (cr_repr hG hr.units) (by rfl) T.n_repr (by decide +kernel) (pa_cons (pe_call (ok_cross_signs T) (hr.mono (by decide)) rfl T.g_cross_signs T.k_cross_signs T.B_cross_signs .nil pass0 (pa_cons (pv 0) (pa_cons (pv 12) pa_nil))) pa_nil)) (pv 9) (nomark _)))) pa_nil)))))))))))), ?_⟩
    have gr := hok.gr
    have hGb := hok.bG
    have hG' : gG b f r = (b ^ f - 1) * b ^ r := rfl
    have s4 : ∀ {n : Int}, OnG b (b ^ f) (gG b f r) n → n.natAbs < 2 ^ 400 := fun {n} h => Nat.lt_of_le_of_lt h.1 hGb
    have w4 : ∀ {n m : Int}, OnG b (b ^ f) (gG b f r) n → OnG b (b ^ f) (gG b f r) m → (n * m).natAbs < 2 ^ 4000 := fun {n m} h1 h2 => Nat.lt_trans (wide_lt (s4 h1) (s4 h2)) (by decide +kernel)
    have tf := SqT.of (K := K) hfo
    refine ⟨_, rfl, fo, _, _, _, rfl, rfl, tf, atN (m := 0) rfl, _, rfl, fo, _, _, _, rfl, rfl, tf, atN (m := 3) rfl, _, _, rfl, rfl, wm (p5000 (s4 hx)) (p5000 (s4 hu)), ?_⟩
    refine ⟨_, rfl, fo, _, _, _, rfl, rfl, tf, atN (m := 1) rfl, _, rfl, fo, _, _, _, rfl, rfl, tf, atN (m := 2) rfl, _, _, rfl, rfl, wm (p5000 (s4 hy)) (p5000 (s4 hz)), _, _, rfl, ?_⟩
    dsimp only
    have cross1 : sgn (y * z - x * u) = -sgn (x * u - y * z) := by
      rw [← sgn_neg]
      congr 1
      omega
    have wX := w4 hx hu
    have wY := w4 hy hz
    have pf := fun j => plo_facts (X := x * u) (Y := y * z) (j := j) gr
    have sw := plo_swap (b := b) (L := b ^ f) (G := gG b f r) (x * u) (y * z)
    have ng := plo_neg (L := b ^ f) (G := gG b f r) gr.hb (x * u) (y * z)
    have sni := sgn_neg (x * u - y * z)
    have sc := sgn_cases (x * u - y * z)
    have tw1 : ∀ {H' : Hp} {q : Addr}, H' q = some (.tup (iv [y, x, u, z])) → Tw H' b (b ^ f) (gG b f r) (sgn (x * u - y * z)) (plo b (b ^ f) (gG b f r) (x * u) (y * z)) (.ref q) := fun {H' q} hq => ⟨q, y, x, u, z, rfl, hq, hy, hx, hu, hz, cross1, sw⟩
    have tw2 : ∀ {H' : Hp} {q : Addr}, H' q = some (.tup (iv [-x, -y, z, u])) → Tw H' b (b ^ f) (gG b f r) (sgn (x * u - y * z)) (plo b (b ^ f) (gG b f r) (x * u) (y * z)) (.ref q) := fun {H' q} hq => ⟨q, -x, -y, z, u, rfl, hq, hx.neg, hy.neg, hz, hu, by rw [Int.neg_mul, Int.neg_mul, ← sni]; congr 1; omega, by rw [Int.neg_mul, Int.neg_mul]; exact ng⟩
    have tw3 : ∀ {H' : Hp} {q : Addr}, H' q = some (.tup (iv [-x, y, -z, u])) → Tw H' b (b ^ f) (gG b f r) (sgn (x * u - y * z)) (plo b (b ^ f) (gG b f r) (x * u) (y * z)) (.ref q) := fun {H' q} hq => ⟨q, -x, y, -z, u, rfl, hq, hx.neg, hy, hz.neg, hu, by rw [Int.neg_mul, Int.mul_neg, ← sni]; congr 1; omega, by rw [Int.neg_mul, Int.mul_neg]; exact ng⟩
    have hside := sides_in b (b ^ f) (gG b f r) (x * u) (y * z)
    have hflat := sides_flat b (b ^ f) (gG b f r) (x * u) (y * z)
    generalize hX : x * u = X at *
    generalize hY : y * z = Y at *
    -- sides
    refine ⟨_, rfl, _, rfl, by show 2 ≤ sizeLine; decide, fun t2 ht2 => ?_⟩
    have e1 := Ex.new (o := .tup [V.int X, V.int Y]) ht2
    have h2 : (upd H t2 (.tup [V.int X, V.int Y])) t2 = some (.tup (iv [X, Y])) := upd_same
    generalize (upd H t2 (.tup [V.int X, V.int Y])) = H1 at *
    refine ⟨t2, rfl, ⟨_, SqT.of h2⟩, fun D hD => lc_tup (K := K) (a := t2) (xs := iv [X, Y]) (fun i H' => Ex H1 H' ∧ H' D = some (.lst (([X, Y].take i).map fun n => rnO b (b ^ f) (gG b f r) n))) ⟨Ex.new hD, upd_same⟩ (fun i H' _ q => SqT.of (q.1 _ _ h2)) ?_ ?_⟩
    · rintro i v H' hv ⟨e3, h3⟩
      obtain ⟨n, hn, rfl⟩ := iv_get hv
      have hi2 := (List.getElem?_eq_some_iff.mp hn).1
      have hnsz : n.natAbs < 2 ^ 4000 := by
        rcases List.mem_cons.mp (List.mem_of_getElem? hn) with rfl | hm
        · exact wX
        · rw [List.mem_singleton.mp hm]; exact wY
      refine ⟨rfl, ?_⟩
      dsimp only [tYes]
      refine iteT ?_
      refine ⟨_, rfl, _, rfl, t, b, f, r, pl, n, "near", rfl, ht.ex (e1.trans e3), hok.v, hnsz, .inl ⟨rfl, fun H6 e6 => ?_⟩⟩
      refine ⟨_, e6 _ _ h3, small1000 (by rw [List.length_map, List.length_take]; have : [X, Y].length = 2 := rfl; omega), Ex.mut (e3.trans e6) hD, ?_⟩
      rw [upd_same]
      have : [X, Y].take (i + 1) = [X, Y].take i ++ [n] := by
        rw [List.take_succ, hn]; rfl
      rw [this, List.map_append]
      rfl
    rintro H2 ⟨e2, hD2⟩
    replace hD2 : H2 D = some (.lst [rnO b (b ^ f) (gG b f r) X, rnO b (b ^ f) (gG b f r) Y]) := hD2
    have e02 := e1.trans e2
    -- plain
    refine ⟨fun σ H3 => Ex H H3 ∧ σ = [some (.ref g), some (.ref t), some (.ref fo), some (.int X), some (.int Y), some (.ref D), some (vo (plo b (b ^ f) (gG b f r) X Y)), none, none, none, none, none, none], ?_, ?_⟩
    · rcases hside with ⟨s1, s2⟩ | ⟨s1, s2, s3, s5⟩
      · refine ⟨_, rfl, D, _, rfl, .inl (SqL.of hD2), rfl, hflat, _, rfl, ?_⟩
        refine ite2 (fun _ => ?_) (fun h => absurd s1 h)
        refine ⟨e02, ?_⟩
        rw [s2]; rfl
      · refine ⟨_, rfl, D, _, rfl, .inl (SqL.of hD2), rfl, hflat, _, rfl, ?_⟩
        refine ite2 (fun h => absurd (s1.symm.trans h) (by decide)) (fun _ => ?_)
        rw [s2, s3] at hD2
        refine ⟨_, rfl, D, _, _, _, rfl, rfl, SqL.of hD2, atN (m := 0) rfl, _, rfl, D, _, _, _, rfl, rfl, SqL.of hD2, atN (m := 1) rfl, _, _, rfl, rfl, _, rfl, fun H3 e3 => ⟨e02.trans e3, ?_⟩⟩
        rw [s5]; rfl
    rintro σ H3 ⟨e3, rfl⟩
    generalize ho : plo b (b ^ f) (gG b f r) X Y = o at *
    have hoj : ∀ j, o = some j → j.natAbs ≤ 1 := fun j hj => by
      have := pf j hj
      omega
    -- sign, told
    refine ⟨_, rfl, _, rfl, _, _, rfl, rfl, _, rfl, fun H4 e4 => ?_⟩
    have e04 := e3.trans e4
    refine ⟨_, rfl, _, rfl, g, b, f, r, b ^ f, gG b f r, fo, x, y, z, u, rfl, hg.mono e04, e04 _ _ hfo, hx, hy, hz, hu, fun q H5 e5 hq => ⟨_, _, rfl, ?_⟩⟩
    rw [hX, hY, ho] at hq
    have e05 := e04.trans e5
    generalize hs : sgn (X - Y) = sg at *
    have rp1 := rp_so (i := sg) (o := o) (by omega) hoj
    have dp1 : ∀ {H' : Hp} {u : Addr}, H' u = some (.tup [.int sg, vo o]) → Dp K H' (.ref u) (.tuple [.int sg, pd o]) := fun {H' u} hu => .tup (SqT.of hu) (.cons (.int _) (.cons (dp_vo o) .nil))
    refine ⟨_, rfl, _, _, rfl, dp1 hq, rp1.1, rp1.2.1, rp1.2.2.1, rp1.2.2.2.1, rp1.2.2.2.2, ?_⟩
    refine ⟨_, rfl, _, rfl, by show 2 ≤ sizeLine; decide, fun u6 hu6 => ?_⟩
    have e6 := Ex.new (o := .tup [V.int sg, vo o]) hu6
    have h6 : (upd H5 u6 (.tup [V.int sg, vo o])) u6 = some (.tup [V.int sg, vo o]) := upd_same
    generalize (upd H5 u6 (.tup [V.int sg, vo o])) = H6 at *
    refine ⟨_, _, rfl, dp1 h6, rp1.1, rp1.2.1, rp1.2.2.1, rp1.2.2.2.1, rp1.2.2.2.2, rfl, _, rfl, ?_⟩
    refine ite2 (fun h => absurd h (by simp)) (fun _ => ?_)
    refine ⟨_, rfl, _, rfl, by show 3 ≤ sizeLine; decide, fun u7 hu7 => ?_⟩
    have e7 := Ex.new (o := .tup [V.non, V.int 0, V.int sg]) hu7
    have h7 : (upd H6 u7 (.tup [V.non, V.int 0, V.int sg])) u7 = some (.tup [V.non, V.int 0, V.int sg]) := upd_same
    generalize (upd H6 u7 (.tup [V.non, V.int 0, V.int sg])) = H7 at *
    have e07 := (e05.trans e6).trans e7
    refine ⟨u7, _, rfl, .inr (SqT.of h7), fl_vo o, rfl, _, rfl, ?_⟩
    refine ite2 (fun h => ?_) (fun _ => ?_)
    · replace h : (!inV (vo o) [.non, .int 0, .int sg]) = true := h
      rw [in3 pf] at h
      cases h
    -- due
    have rp2 := rp_so (i := -sg) (o := o.map fun z => -z) (by omega) (fun j hj => by
      cases o with
      | none => cases hj
      | some i =>
        cases hj
        have := hoj i rfl
        show (-i).natAbs ≤ 1
        omega)
    have dp2 : ∀ {H' : Hp} {u : Addr}, H' u = some (.tup [.int (-sg), vo (o.map fun z => -z)]) → Dp K H' (.ref u) (.tuple [.int (-sg), pd (o.map fun z => -z)]) := fun {H' u} hu => .tup (SqT.of hu) (.cons (.int _) (.cons (dp_vo _) .nil))
    refine ⟨fun σ H8 => Ex H7 H8 ∧ σ = [some (.ref g), some (.ref t), some (.ref fo), some (.int X), some (.int Y), some (.ref D), some (vo o), some (.int sg), some (.ref q), some (.str (PyData.shown (.tuple [.int (-sg), pd (o.map fun z => -z)]))), none, none, none], ?_, ?_⟩
    · cases o with
      | none =>
        refine ⟨_, rfl, _, rfl, _, rfl, rfl, _, rfl, ?_⟩
        refine ite2 (fun _ => ?_) (fun h => absurd (by simp [vo]) h)
        refine ⟨by show 2 ≤ sizeLine; decide, fun u8 hu8 => ?_⟩
        exact ⟨_, _, rfl, dp2 upd_same, rp2.1, rp2.2.1, rp2.2.2.1, rp2.2.2.2.1, rp2.2.2.2.2, Ex.new hu8, rfl⟩
      | some j =>
        refine ⟨_, rfl, _, rfl, _, rfl, rfl, _, rfl, ?_⟩
        refine ite2 (fun h => absurd h (by simp [vo])) (fun _ => ?_)
        refine ⟨_, rfl, _, rfl, by show 2 ≤ sizeLine; decide, fun u8 hu8 => ?_⟩
        exact ⟨_, _, rfl, dp2 upd_same, rp2.1, rp2.2.1, rp2.2.2.1, rp2.2.2.2.1, rp2.2.2.2.2, Ex.new hu8, rfl⟩
    rintro σ H8 ⟨e8, rfl⟩
    have e08 := e07.trans e8
    have tf8 := SqT.of (K := K) (e08 _ _ hfo)
    -- others
    refine ⟨_, rfl, fo, _, _, _, rfl, rfl, tf8, atN (m := 1) rfl, _, rfl, fo, _, _, _, rfl, rfl, tf8, atN (m := 0) rfl, _, rfl, fo, _, _, _, rfl, rfl, tf8, atN (m := 3) rfl, _, rfl, fo, _, _, _, rfl, rfl, tf8, atN (m := 2) rfl, by show 4 ≤ sizeLine; decide, fun q1 hq1 => ?_⟩
    have e9 := Ex.new (o := .tup [V.int y, V.int x, V.int u, V.int z]) hq1
    have h9 : (upd H8 q1 (.tup [V.int y, V.int x, V.int u, V.int z])) q1 = some (.tup (iv [y, x, u, z])) := upd_same
    generalize (upd H8 q1 (.tup [V.int y, V.int x, V.int u, V.int z])) = H9 at *
    have e09 := e08.trans e9
    have tf9 := SqT.of (K := K) (e09 _ _ hfo)
    refine ⟨_, rfl, fo, _, _, _, rfl, rfl, tf9, atN (m := 0) rfl, _, rfl, _, rfl, fo, _, _, _, rfl, rfl, tf9, atN (m := 1) rfl, _, rfl, _, rfl, fo, _, _, _, rfl, rfl, tf9, atN (m := 2) rfl, _, rfl, fo, _, _, _, rfl, rfl, tf9, atN (m := 3) rfl, by show 4 ≤ sizeLine; decide, fun q2 hq2 => ?_⟩
    have eA := Ex.new (o := .tup [V.int (-x), V.int (-y), V.int z, V.int u]) hq2
    have hA : (upd H9 q2 (.tup [V.int (-x), V.int (-y), V.int z, V.int u])) q2 = some (.tup (iv [-x, -y, z, u])) := upd_same
    have hA1 := eA _ _ h9
    generalize (upd H9 q2 (.tup [V.int (-x), V.int (-y), V.int z, V.int u])) = HA at *
    have e0A := e09.trans eA
    refine ⟨by show 2 ≤ sizeLine; decide, fun l hl => ?_⟩
    have eB := Ex.new (o := .lst [V.ref q1, V.ref q2]) hl
    have hlB : (upd HA l (.lst [V.ref q1, V.ref q2])) l = some (.lst [V.ref q1, V.ref q2]) := upd_same
    have hB1 := eB _ _ hA1
    have hB2 := eB _ _ hA
    generalize (upd HA l (.lst [V.ref q1, V.ref q2])) = HB at *
    have e0B := e0A.trans eB
    have hl0 := fresh_back e0A hl
    have tfB := SqT.of (K := K) (e0B _ _ hfo)
    refine ⟨_, rfl, .inl ⟨rfl, _, SqL.of hlB⟩, _, rfl, fo, _, _, _, rfl, rfl, tfB, atN (m := 0) rfl, _, rfl, _, rfl, fo, _, _, _, rfl, rfl, tfB, atN (m := 1) rfl, _, rfl, fo, _, _, _, rfl, rfl, tfB, atN (m := 2) rfl, _, rfl, _, rfl, fo, _, _, _, rfl, rfl, tfB, atN (m := 3) rfl, by show 4 ≤ sizeLine; decide, fun q3 hq3 => ?_⟩
    have eC := Ex.new (o := .tup [V.int (-x), V.int y, V.int (-z), V.int u]) hq3
    have hC : (upd HB q3 (.tup [V.int (-x), V.int y, V.int (-z), V.int u])) q3 = some (.tup (iv [-x, y, -z, u])) := upd_same
    have hC1 := eC _ _ hB1
    have hC2 := eC _ _ hB2
    have hlC := eC _ _ hlB
    generalize (upd HB q3 (.tup [V.int (-x), V.int y, V.int (-z), V.int u])) = HC at *
    refine ⟨l, _, _, rfl, rfl, hlC, small1000 (by show 2 ≤ 1000; decide), ?_⟩
    have e0C := Ex.mut (o := .lst [V.ref q1, V.ref q2, V.ref q3]) (e0B.trans eC) hl0
    have hlD : (upd HC l (.lst [V.ref q1, V.ref q2, V.ref q3])) l = some (.lst [V.ref q1, V.ref q2, V.ref q3]) := upd_same
    have t1 := (tw1 hC1).upd (ys := [V.ref q1, V.ref q2, V.ref q3]) hlC
    have t2' := (tw2 hC2).upd (ys := [V.ref q1, V.ref q2, V.ref q3]) hlC
    have t3 := (tw3 hC).upd (ys := [V.ref q1, V.ref q2, V.ref q3]) hlC
    dsimp only [List.append, List.cons_append, List.nil_append]
    generalize (upd HC l (.lst [V.ref q1, V.ref q2, V.ref q3])) = HD at *
    refine ⟨_, rfl, l, rfl, ⟨_, SqL.of hlD⟩, fun B hB => lc_list (K := K) (a := l) (xs := [V.ref q1, V.ref q2, V.ref q3]) (fun j H' => Ex HD H' ∧ ∃ bs : List Bool, H' B = some (.lst (bs.map V.bl)) ∧ (∀ b ∈ bs, b = true) ∧ bs.length ≤ j) ⟨Ex.new hB, [], upd_same, fun b hb => (by cases hb), Nat.le_refl _⟩ (fun j H' _ q => SqL.of (q.1 _ _ hlD)) ?_ ?_⟩
    · rintro j v H' hv ⟨eE, bs, hb1, hb2, hb3⟩
      have hj := (List.getElem?_eq_some_iff.mp hv).1
      have tw : Tw HD b (b ^ f) (gG b f r) sg o v := by
        match j, hv with
        | 0, hv => cases hv; exact t1
        | 1, hv => cases hv; exact t2'
        | 2, hv => cases hv; exact t3
      obtain ⟨ti, x', y', z', u', rfl, hti, o1, o2, o3, o4, o5, o6⟩ := tw
      refine ⟨rfl, ?_⟩
      dsimp only [tYes]
      refine iteT ?_
      refine ⟨_, rfl, _, rfl, g, b, f, r, b ^ f, gG b f r, ti, x', y', z', u', rfl, hg.mono (e0C.trans eE), eE _ _ hti, o1, o2, o3, o4, fun qq HF eF hqq => ?_⟩
      rw [o5, o6] at hqq
      refine ⟨_, _, rfl, dp2 hqq, rp2.1, rp2.2.1, rp2.2.2.1, rp2.2.2.2.1, rp2.2.2.2.2, _, rfl, rfl, ?_⟩
      have hl3 : bs.length ≤ 3 := Nat.le_trans hb3 (Nat.le_of_lt hj)
      refine ⟨_, eF _ _ hb1, small1000 (by rw [List.length_map]; omega), Ex.mut (eE.trans eF) hB, bs ++ [true], ?_, ?_, ?_⟩
      · rw [upd_same, List.map_append]
        simp
      · intro b hb
        rcases List.mem_append.mp hb with hb | hb
        · exact hb2 b hb
        · exact List.mem_singleton.mp hb
      · rw [List.length_append, List.length_singleton]; omega
    · rintro H' ⟨eE, bs, hb1, hb2, hb3⟩
      refine ⟨B, bs, rfl, SqL.of hb1, ?_⟩
      rw [all_id bs hb2]
      exact k H' (e0C.trans eE)
end
end My


set_option Elab.async false
set_option maxRecDepth 100000
set_option maxHeartbeats 4000000
set_option exponentiation.threshold 6000
namespace My
open PySem L2 Evl
def sp_right : Sp := fun vs H Q _ => ∃ (p : Addr) (n : Nat), vs = [.ref p] ∧ PotAt H p n ∧ n + 2000 ≤ 100000 ∧ ∀ H', Kp p H H' → Q (.bl true) H'
def spLaw (K : PySem.W.Frag) : Sp := fun vs H Q _ => ∃ (a : Addr) (ns : List Int), vs = [.ref a] ∧ SqL K H a (ns.map V.int) ∧ ns.length ≤ 63 ∧ ∀ H', Q (.bl true) H'
theorem ex_made {H H1 : Hp} {x dx C : Addr} (nx : H x = none) (nd : H dx = none) (k : Kp x (upd (upd H dx (.own x)) x (.ins C dx [])) H1) : Ex H H1 := Same.made nx nd k
theorem GridAt.kp {a : Ad} {H H' : Hp} {g p : Addr} {b f r L G n : Nat} (h : GridAt a H g b f r L G) (hp : PotAt H p n) (kq : Kp p H H') : GridAt a H' g b f r L G := by
  obtain ⟨h1, h2, h3, h4, dx', lim, tops, p', u', xs', ys', h5, h6, h7, h8⟩ := h
  obtain ⟨y1, y2, y3, hpp, _⟩ := hp
  have q1 : g ≠ p := ne_of h5 hpp (by intro z; cases z)
  have q2 : lim ≠ p := ne_of h6 hpp (by intro z; cases z)
  have q3 : tops ≠ p := ne_of h7 hpp (by intro z; cases z)
  exact ⟨h1, h2, h3, h4, dx', lim, tops, p', u', xs', ys', kq _ _ h5 q1, kq _ _ h6 q2, kq _ _ h7 q3, h8⟩
theorem at_last (ys : List Int) (m : Int) : atI (iv (ys ++ [m])) (-1) = some (.int m) := by
  have hl : (iv (ys ++ [m])).length = ys.length + 1 := by rw [iv_len, List.length_append]; rfl
  unfold atI ixN
  rw [hl, if_neg (by decide), if_pos (by omega)]
  have e : ((-1 : Int) + ((ys.length + 1 : Nat) : Int)).toNat = ys.length := by omega
  show (iv (ys ++ [m]))[((-1 : Int) + ((ys.length + 1 : Nat) : Int)).toNat]? = _
  rw [e]
  unfold iv
  rw [List.getElem?_map, List.getElem?_append_right (Nat.le_refl _), Nat.sub_self]
  rfl
def rgI (a c : Int) (n : Nat) : List Int := (List.range n).map fun i => a + (i : Nat) * c
theorem rgI_iv (a c : Int) (n : Nat) : rgV3 a c n = iv (rgI a c n) := by
  unfold rgV3 rgI iv
  rw [List.map_map]
  rfl
theorem rgI_mem {a b c : Int} (hc : 0 < c) {n : Nat} (hn : Builtin.Range.rangeSize a b c = n) {v : Int} (h : v ∈ rgI a c n) : a ≤ v ∧ v < b := by
  unfold rgI at h
  obtain ⟨i, hi, rfl⟩ := List.mem_map.mp h
  exact rg3_mem hc hn (List.mem_range.mp hi)
/-- none, or a number of the grid -/
def Nn (b L G : Nat) (v : V) : Prop := v = .non ∨ ∃ z, v = .int z ∧ OnG b L G z
section
variable {P : Program} {w : World} {K : PySem.W.Frag} {mg : Str → Option Value} {base : Heap} {a : Ad}
theorem ok_l_right (T : Txt K mg a) : GOk P w K mg base 7 a.l_right a.l_right_fd ["pot"] sp_right := by
  refine okG T.F_l_right sc_l_right (fun vs H Q E h => ?_) (fun cdv A outer s H vs Q E hG hr h => ?_)
  · obtain ⟨p, n, rfl, _⟩ := h
    rfl
  · obtain ⟨p, n, rfl, hp, hn, k⟩ := h
    refine ⟨_, (pss_cut (ps_asg (pe_call (ok_l_small T) (hr.mono (by decide)) rfl T.g_l_small T.k_l_small T.B_l_small .nil pass0 (pa_cons (pv 0) pa_nil)) (pg_tup rfl (pgs_cons (pg_name (i := 1) sc_l_right.nd rfl (Or.inl rfl)) (pgs_cons (pg_name (i := 2) sc_l_right.nd rfl (Or.inr rfl)) pgs_nil))))
      (pss_cut (ps_asg (pe_tup (pa_cons (pe_make T.mk_Grid (ok_Grid_init T) (hr.mono (by decide)) rfl T.g_Grid T.B_Grid_init .nil pass0 (pa_cons (pe_ix ix_tup (pv 1) pe_int (fun _ _ => rfl)) (pa_cons (pe_ix ix_tup (pv 1) pe_int (fun _ _ => rfl)) (pa_cons (pe_ix ix_tup (pv 1) pe_int (fun _ _ => rfl)) (pa_cons (pe_ix ix_tup (pv 1) pe_int (fun _ _ => rfl)) pa_nil))))) (pa_cons (pe_ix ix_list (pv 2) (pe_un un_neg pe_int) (fun _ _ => rfl)) pa_nil))) (pg_tup rfl (pgs_cons (pg_name (i := 3) sc_l_right.nd rfl (Or.inr rfl)) (pgs_cons (pg_name (i := 4) sc_l_right.nd rfl (Or.inr rfl)) pgs_nil))))
      (pss_cut (ps_set (i := 5) sc_l_right.nd rfl (Or.inl rfl) (pe_callB (call_max2 rfl) (by rfl) T.n_max (by decide +kernel) (pa_cons pe_int (pa_cons (pe_op op_fdivW (pv 4) pe_int) pa_nil))))
      (pss_cut (ps_for PassesOwn.never rfl (pi_list (pe_op op_cat (pe_listRg3 rfl rfl T.n_list rfl T.n_range (pa_cons (pe_un un_neg (pv 4)) (pa_cons (pe_op op_add (pv 4) pe_int) (pa_cons (pv 5) pa_nil)))) (pe_lc (own := [("lap", 7)]) (g := gName 7) (by rfl) sc_l_right.nd (pi_range1 rfl T.n_range (pa_cons pe_int pa_nil)) (blkOk_by (own := [("lap", 7)]) (N := N_l_right) (sc := defScope s_l_right) (by decide +kernel)) (fun _ _ _ _ _ => pg_name (i := 7) sc_l_right.nd rfl (Or.inl rfl)) (fun _ _ _ _ _ => pts_nil) (fun _ _ _ _ _ => (pe_op op_sub (pv 4) (pe_call (ok_l_take T) (hr.mono (by decide)) rfl T.g_l_take T.k_l_take T.B_l_take .nil pass0 (pa_cons (pv 0) (pa_cons (pe_callB (call_min2 rfl) (by rfl) T.n_min (by decide +kernel) (pa_cons (pv 4) (pa_cons pe_int pa_nil))) pa_nil)))))))) (pg_name (i := 6) sc_l_right.nd rfl (Or.inl rfl)) (pss_one (ps_if (pt_not (pt_val (pe_call (ok_l_is_told_right T) (hr.mono (by decide)) rfl T.g_l_is_told_right T.k_l_is_told_right T.B_l_is_told_right .nil pass0 (pa_cons (pv 3) (pa_cons (pv 1) (pa_cons (pv 6) pa_nil)))))) (pss_one (ps_ret pe_bl)) pss_nil)))
      (pss_cut (ps_for PassesOwn.never rfl (pi_range1 rfl T.n_range (pa_cons pe_int pa_nil)) (pg_name (i := 7) sc_l_right.nd rfl (Or.inl rfl)) (pss_cons (ps_set (i := 9) sc_l_right.nd rfl (Or.inr rfl) (pe_call (ok_l_of T) (hr.mono (by decide)) rfl T.g_l_of T.k_l_of T.B_l_of .nil pass0 (pa_cons (pv 0) (pa_cons (pv 2) pa_nil))))
      (pss_cons (ps_setLc (i := 10) (own := [("turn", 13)]) (g := gName 13) (by rfl) sc_l_right.nd rfl rfl (sw_true rfl rfl rfl (by decide +kernel)) (pi_range1 rfl T.n_range (pa_cons pe_int pa_nil)) (blkOk_by (own := [("turn", 13)]) (N := N_l_right) (sc := defScope s_l_right) (by decide +kernel)) (fun _ _ _ _ _ => pg_name (i := 13) sc_l_right.nd rfl (Or.inl rfl)) (fun _ _ _ _ _ => pts_nil) (fun _ _ _ _ _ => (pe_call (ok_l_of T) (hr.mono (by decide)) rfl T.g_l_of T.k_l_of T.B_l_of .nil pass0 (pa_cons (pv 0) (pa_cons (pe_lst (pa_cons (pv 9) (pa_cons (pe_meth (pv 3) T.cl_Grid T.m_Grid_after (ok_Grid_after T) (hr.mono (by decide)) T.B_Grid_after .nil pass0 (pa_cons (pv 9) pa_nil)) (pa_cons (pe_meth (pv 3) T.cl_Grid T.m_Grid_before (ok_Grid_before T) (hr.mono (by decide)) T.B_Grid_before .nil pass0 (pa_cons (pv 9) pa_nil)) (pa_cons (pe_call (ok_l_of T) (hr.mono (by decide)) rfl T.g_l_of T.k_l_of T.B_l_of .nil pass0 (pa_cons (pv 0) (pa_cons (pv 2) pa_nil))) pa_nil))))) pa_nil)))))
      (pss_cons (ps_set (i := 11) sc_l_right.nd rfl (Or.inl rfl) (pe_callTy call_tuple_of (by rfl) T.n_tuple (by decide +kernel) (pa_cons (pe_lc (own := [("one", 12)]) (g := gName 12) (by rfl) sc_l_right.nd (pi_list (pv 10)) (blkOk_by (own := [("one", 12)]) (N := N_l_right) (sc := defScope s_l_right) (by decide +kernel)) (fun _ _ _ _ _ => pg_name (i := 12) sc_l_right.nd rfl (Or.inl rfl)) (fun _ _ _ _ _ => pts_nil) (fun _ _ _ _ _ => (pe_ifExp (pt_cmpR op_isN (pv 12) pe_non (nomark _)) (pv 9) (pv 12)))) pa_nil)))
      (pss_one (ps_if (pt_not (pt_val (pe_callG (ok_l_are_crossed_right T) hG (hr.mono (by decide)) rfl T.g_l_are_crossed_right T.k_l_are_crossed_right T.B_l_are_crossed_right .nil (pa_cons (pv 3) (pa_cons (pv 1) (pa_cons (pv 11) pa_nil)))))) (pss_one (ps_ret pe_bl)) pss_nil))))))
      (pss_cut (ps_set (i := 8) sc_l_right.nd rfl (Or.inl rfl) (pe_tup (pa_cons (pe_op op_add pe_int (pe_call (ok_l_take T) (hr.mono (by decide)) rfl T.g_l_take T.k_l_take T.B_l_take .nil pass0 (pa_cons (pv 0) (pa_cons pe_int pa_nil)))) (pa_cons (pe_call (ok_l_of T) (hr.mono (by decide)) rfl T.g_l_of T.k_l_of T.B_l_of .nil pass0 (pa_cons (pv 0) (pa_cons (pe_lst (pa_cons pe_int (pa_cons pe_int (pa_cons pe_int pa_nil)))) pa_nil))) (pa_cons pe_int (pa_cons pe_int pa_nil))))))
      (pss_cut (ps_set (i := 3) sc_l_right.nd rfl (Or.inr rfl) (pe_make T.mk_Grid (ok_Grid_init T) (hr.mono (by decide)) rfl T.g_Grid T.B_Grid_init .nil pass0 (pa_cons (pe_ix ix_tup (pv 8) pe_int (fun _ _ => rfl)) (pa_cons (pe_ix ix_tup (pv 8) pe_int (fun _ _ => rfl)) (pa_cons (pe_ix ix_tup (pv 8) pe_int (fun _ _ => rfl)) (pa_cons (pe_ix ix_tup (pv 8) pe_int (fun _ _ => rfl)) pa_nil))))))
      (pss_cut (ps_for PassesOwn.never rfl (pi_range1 rfl T.n_range (pa_cons pe_int pa_nil)) (pg_name (i := 7) sc_l_right.nd rfl (Or.inl rfl)) (pss_cons (ps_set (i := 12) sc_l_right.nd rfl (Or.inl rfl) (pe_op op_add (pe_call (ok_l_take T) (hr.mono (by decide)) rfl T.g_l_take T.k_l_take T.B_l_take .nil pass0 (pa_cons (pv 0) (pa_cons (pe_call (ok_l_grid_power T) (hr.mono (by decide)) rfl T.g_l_grid_power T.k_l_grid_power T.B_l_grid_power .nil pass0 (pa_cons (pe_ix ix_tup (pv 8) pe_int (fun _ _ => rfl)) (pa_cons (pe_ix ix_tup (pv 8) pe_int (fun _ _ => rfl)) pa_nil))) pa_nil))) pe_int))
      (pss_cons (ps_set (i := 12) sc_l_right.nd rfl (Or.inl rfl) (pe_callB (call_min2 rfl) (by rfl) T.n_min (by decide +kernel) (pa_cons (pv 12) (pa_cons (pe_op op_sub (pe_call (ok_l_grid_power T) (hr.mono (by decide)) rfl T.g_l_grid_power T.k_l_grid_power T.B_l_grid_power .nil pass0 (pa_cons (pe_ix ix_tup (pv 8) pe_int (fun _ _ => rfl)) (pa_cons (pe_ix ix_tup (pv 8) pe_int (fun _ _ => rfl)) pa_nil))) pe_int) pa_nil))))
      (pss_cons (ps_set (i := 11) sc_l_right.nd rfl (Or.inl rfl) (pe_tup (pa_cons (pv 12) (pa_cons (pe_meth (pv 3) T.cl_Grid T.m_Grid_before (ok_Grid_before T) (hr.mono (by decide)) T.B_Grid_before .nil pass0 (pa_cons (pv 12) pa_nil)) (pa_cons (pe_meth (pv 3) T.cl_Grid T.m_Grid_after (ok_Grid_after T) (hr.mono (by decide)) T.B_Grid_after .nil pass0 (pa_cons (pv 12) pa_nil)) (pa_cons (pv 12) pa_nil))))))
      (pss_cons (ps_if (pt_not (pt_val (pe_callG (ok_l_are_crossed_right T) hG (hr.mono (by decide)) rfl T.g_l_are_crossed_right T.k_l_are_crossed_right T.B_l_are_crossed_right .nil (pa_cons (pv 3) (pa_cons (pv 8) (pa_cons (pv 11) pa_nil)))))) (pss_one (ps_ret pe_bl)) pss_nil)
      (pss_cons (ps_asg (pe_tup (pa_cons (pe_op op_sub (pe_op op_add (pe_call (ok_l_grid_a_number T) (hr.mono (by decide)) rfl T.g_l_grid_a_number T.k_l_grid_a_number T.B_l_grid_a_number .nil pass0 (pa_cons (pv 0) (pa_cons (pv 8) pa_nil))) (pe_call (ok_l_take T) (hr.mono (by decide)) rfl T.g_l_take T.k_l_take T.B_l_take .nil pass0 (pa_cons (pv 0) (pa_cons pe_int pa_nil)))) pe_int) (pa_cons (pe_call (ok_l_grid_greatest T) (hr.mono (by decide)) rfl T.g_l_grid_greatest T.k_l_grid_greatest T.B_l_grid_greatest .nil pass0 (pa_cons (pv 8) pa_nil)) pa_nil))) (pg_tup rfl (pgs_cons (pg_name (i := 6) sc_l_right.nd rfl (Or.inl rfl)) (pgs_cons (pg_name (i := 4) sc_l_right.nd rfl (Or.inr rfl)) pgs_nil))))
      (pss_one (ps_if (pt_not (pt_val (pe_call (ok_l_is_told_right T) (hr.mono (by decide)) rfl T.g_l_is_told_right T.k_l_is_told_right T.B_l_is_told_right .nil pass0 (pa_cons (pv 3) (pa_cons (pv 8) (pa_cons (pe_callB (call_max2 rfl) (by rfl) T.n_max (by decide +kernel) (pa_cons (pe_un un_neg (pv 4)) (pa_cons (pe_callB (call_min2 rfl) (by rfl) T.n_min (by decide +kernel) (pa_cons (pv 4) (pa_cons (pv 6) pa_nil))) pa_nil))) pa_nil)))))) (pss_one (ps_ret pe_bl)) pss_nil))))))))
      (pss_one (ps_ret pe_bl)))))))))), ?_⟩
    refine ⟨fun σ H1 => Kp p H H1 ∧ PotAt H1 p (n + 1) ∧ ∃ (t l : Addr) (b f r pl : Nat) (xs : List Int), H1 t = some (.tup [.int b, .int f, .int r, .int pl]) ∧ H1 l = some (.lst (iv xs)) ∧ okg b f r ∧ pl ≤ 30 ∧ (∀ x ∈ xs, OnG b (b ^ f) (gG b f r) x) ∧ 0 < xs.length ∧ xs.length ≤ 61000 ∧ Lst xs ∧ gG b f r ≤ 900 ∧ l ≠ p ∧ σ = [some (.ref p), some (.ref t), some (.ref l), none, none, none, none, none, none, none, none, none, none, none], ?_, ?_⟩
    · refine ⟨_, rfl, p, n, rfl, hp, by omega, fun q t l b f r pl xs H1 k1 p1 hq ht hl hok hpl hx h0 hlen hL hG9 nl => ?_⟩
      exact ⟨q, _, rfl, SqT.of hq, rfl, _, _, rfl, _, _, rfl, rfl, k1, p1, t, l, b, f, r, pl, xs, ht, hl, hok, hpl, hx, h0, hlen, hL, hG9, nl, rfl⟩
    rintro σ H1 ⟨k1, p1, t, l, b, f, r, pl, xs, ht, hl, hok, hpl, hx, h0, hlen, hL, hG9, nl, rfl⟩
    have nt := ne_tup ht p1
    -- made, most
    refine ⟨fun σ H2 => Ex H1 H2 ∧ ∃ (g : Addr) (m : Int), GridAt a H2 g b f r (b ^ f) (gG b f r) ∧ 1 ≤ m ∧ m ≤ gG b f r ∧ σ = [some (.ref p), some (.ref t), some (.ref l), some (.ref g), some (.int m), none, none, none, none, none, none, none, none, none], ?_, ?_⟩
    · have tg := SqT.of (K := K) ht
      refine ⟨_, rfl, t, _, _, _, rfl, rfl, tg, g0, _, rfl, t, _, _, _, rfl, rfl, tg, g1, _, rfl, t, _, _, _, rfl, rfl, tg, g2, _, rfl, t, _, _, _, rfl, rfl, tg, g3, fun x dx nx ndx nex => ?_⟩
      refine ⟨x, dx, b, f, r, pl, rfl, upd_same, ⟨hok.1, hok.2.1, hok.2.2.1, hok.2.2.2.1, hok.2.2.2.2, hpl⟩, fun H2 k2 ga => ⟨rfl, ?_⟩⟩
      have e2 : Ex H1 H2 := ex_made nx ndx k2
      obtain ⟨ys, m, rfl, hm⟩ := hL
      have om := hx m (List.mem_append.mpr (.inr (List.mem_singleton.mpr rfl)))
      refine ⟨_, rfl, _, rfl, l, _, _, _, rfl, rfl, SqL.of (e2 _ _ hl), at_last ys m, by show 2 ≤ sizeLine; decide, fun u hu => ?_⟩
      have e4 := Ex.new (o := .tup [V.ref x, V.int m]) hu
      exact ⟨u, _, rfl, SqT.of upd_same, rfl, _, _, rfl, _, _, rfl, rfl, e2.trans e4, x, m, ga.mono e4, hm, by have := om.1; omega, rfl⟩
    rintro σ H2 ⟨e2, g, m, ga, hm1, hm2, rfl⟩
    have k2 := k1.ex e2
    have p2 := p1.ex e2
    have ht2 := e2 _ _ ht
    have hl2 := e2 _ _ hl
    -- step
    refine ⟨fun σ H3 => H3 = H2 ∧ ∃ st : Int, 1 ≤ st ∧ st ≤ 900 ∧ σ = [some (.ref p), some (.ref t), some (.ref l), some (.ref g), some (.int m), some (.int st), none, none, none, none, none, none, none, none], ?_, ?_⟩
    · refine ⟨_, rfl, _, _, rfl, rfl, wd (by decide) (by decide +kernel), _, _, rfl, rfl, _, ?_, ?_, rfl⟩
      · split <;> omega
      · split <;> omega
    rintro σ H3 ⟨rfl, st, hs1, hs2, rfl⟩
    -- for worth
    refine ⟨fun σ H4 => Kp p H3 H4 ∧ PotAt H4 p (n + 7) ∧ ∃ z6 : Option V, σ = [some (.ref p), some (.ref t), some (.ref l), some (.ref g), some (.int m), some (.int st), z6, none, none, none, none, none, none, none], ?_, ?_⟩
    · have hN := PyProof.Rows.rangeSize_toNat (-m) (m + 1) st
      have hN2 := PyProof.Rows.rangeSize_toNat_le (-m) (m + 1) st
      have hmem := fun v => rgI_mem (a := -m) (b := m + 1) (c := st) (by omega) hN (v := v)
      generalize (Builtin.Range.rangeSize (-m) (m + 1) st).toNat = N at *
      have hm9 : m ≤ 900 := by omega
      refine ⟨_, rfl, _, rfl, _, rfl, _, _, rfl, rfl, _, rfl, _, _, _, N, rfl, ⟨by omega, by omega, small_up (by omega) (by omega) (by omega) (by omega) (by omega) (by omega), hN⟩, by omega, fun q hq => ?_⟩
      rw [rgI_iv]
      have nq := p2.ne hq
      have e3 := Ex.new (o := .lst (iv (rgI (-m) st N))) hq
      have hq3 : (upd H3 q (.lst (iv (rgI (-m) st N)))) q = some (.lst (iv (rgI (-m) st N))) := upd_same
      have hrl : (rgI (-m) st N).length = N := by unfold rgI; rw [List.length_map, List.length_range]
      generalize rgI (-m) st N = rg at *
      generalize (upd H3 q (.lst (iv rg))) = H4 at *
      have p4 := p2.ex e3
      refine ⟨_, rfl, by decide, by decide, fun D hD => ?_⟩
      have nD := p4.ne hD
      refine lc_range (lo := 0) (n := 6) (fun j H5 => Kp p H4 H5 ∧ PotAt H5 p (n + 1 + j) ∧ ∃ ms : List Int, H5 D = some (.lst (iv ms)) ∧ (∀ m ∈ ms, m.natAbs ≤ gG b f r) ∧ ms.length = j)
        ⟨Ex.kp (Ex.new hD), p4.ex (Ex.new hD), [], upd_same, fun v hv => (by cases hv), rfl⟩ ?_ ?_
      · rintro j H5 hj ⟨k5, p5, ms, hv1, hv2, hv3⟩
        refine ⟨rfl, ?_⟩
        dsimp only [tYes]
        refine iteT ?_
        refine ⟨_, rfl, _, rfl, _, rfl, _, _, rfl, p, _, n + 1 + j, rfl, p5, by omega, ?_, ?_, fun d H6 k6 p6 d0 d1 => ?_⟩
        · split <;> omega
        · have h10 : (901 : Nat) < 2 ^ 4000 := by decide +kernel
          split <;> omega
        have d2 : d < m := by split at d1 <;> omega
        refine ⟨_, _, rfl, rfl, _, k6 _ _ hv1 nD, small1000 (by rw [iv_len]; omega), (k5.trans k6).new hD, (p6.upd nD).mono (by omega), ms ++ [m - d], by rw [upd_same, iv_app]; rfl, ?_, by rw [List.length_append, hv3]; rfl⟩
        intro v hv
        rcases List.mem_append.mp hv with hv | hv
        · exact hv2 v hv
        · rw [List.mem_singleton.mp hv]; omega
      · rintro H5 ⟨k5, p5, ms, hv1, hv2, hv3⟩
        have hq5 := k5 _ _ hq3 nq
        refine ⟨q, D, _, _, rfl, rfl, hq5, hv1, sz_of (by rw [iv_len, iv_len]; omega), fun ev hev => ?_⟩
        rw [← iv_app]
        have nev := p5.ne hev
        have e6 := Ex.new (o := .lst (iv (rg ++ ms))) hev
        have hev6 : (upd H5 ev (.lst (iv (rg ++ ms)))) ev = some (.lst (iv (rg ++ ms))) := upd_same
        have hall : ∀ v ∈ rg ++ ms, v.natAbs ≤ gG b f r := fun v hv => by
          rcases List.mem_append.mp hv with hv | hv
          · have := hmem v hv
            omega
          · exact hv2 v hv
        generalize rg ++ ms = ws at *
        generalize (upd H5 ev (.lst (iv ws))) = H6 at *
        have k6 : Kp p H3 H6 := ((Ex.kp e3).trans k5).ex e6
        have p6 := p5.ex e6
        have ht6 := k6 _ _ ht2 nt
        have ga6 := ga.kp p2 k6
        refine ⟨ev, rfl, ⟨_, SqL.of hev6⟩, for_list (K := K) (a := ev) (xs := iv ws) (fun i σ H7 => Ex H6 H7 ∧ ∃ z6 : Option V, σ = [some (.ref p), some (.ref t), some (.ref l), some (.ref g), some (.int m), some (.int st), z6, none, none, none, none, none, none, none])
          ⟨Ex.refl _, none, rfl⟩ (fun i σ H7 _ z => SqL.of (z.1 _ _ hev6)) ?_ (fun σ H7 z => ⟨k6.ex z.1, p6.ex z.1, z.2⟩)⟩
        rintro i v σ H7 hv ⟨e7, z6, rfl⟩
        obtain ⟨o1, ho1, rfl⟩ := iv_get hv
        refine ⟨_, rfl, _, rfl, _, rfl, g, t, b, f, r, pl, o1, rfl, ga6.mono e7, SqT.of (e7 _ _ ht6), hok, hall o1 (List.mem_of_getElem? ho1), fun H8 e8 => ⟨true, rfl, ?_⟩⟩
        refine ite2 (fun h => absurd h (by simp)) (fun _ => ?_)
        exact ⟨e7.trans e8, _, rfl⟩
    rintro σ H4 ⟨k4, p4, z6, rfl⟩
    have ht4 := k4 _ _ ht2 nt
    have hl4 := k4 _ _ hl2 nl
    have ga4 := ga.kp p2 k4
    -- for lap
    refine ⟨fun σ H5 => Kp p H4 H5 ∧ PotAt H5 p (n + 607) ∧ ∃ z7 z9 z10 z11 : Option V, σ = [some (.ref p), some (.ref t), some (.ref l), some (.ref g), some (.int m), some (.int st), z6, z7, none, z9, z10, z11, none, none], ?_, ?_⟩
    · refine ⟨_, rfl, by decide, by decide, for_range (lo := 0) (n := 30) (fun i σ H5 => Kp p H4 H5 ∧ PotAt H5 p (n + 7 + 20 * i) ∧ ∃ z7 z9 z10 z11 : Option V, σ = [some (.ref p), some (.ref t), some (.ref l), some (.ref g), some (.int m), some (.int st), z6, z7, none, z9, z10, z11, none, none])
        ⟨Kp.refl, p4, none, none, none, none, rfl⟩ ?_ (fun σ H5 z => ⟨z.1, z.2.1.mono (by omega), z.2.2⟩)⟩
      rintro i σ H5 hi ⟨k5, p5, z7, z9, z10, z11, rfl⟩
      have hl5 := k5 _ _ hl4 nl
      refine ⟨_, rfl, _, rfl, p, l, _, iv xs, rfl, p5, by omega, hl5, nl, by rw [iv_len]; exact h0, by rw [iv_len]; omega, fun i1 v1 H6 hi1 k6 p6 => ?_⟩
      obtain ⟨b1, hb1, rfl⟩ := iv_get hi1
      have ob := hx b1 (List.mem_of_getElem? hb1)
      have k46 := k5.trans k6
      -- some
      refine ⟨_, rfl, by decide, by decide, fun D hD => ?_⟩
      have nD := p6.ne hD
      refine lc_range (lo := 0) (n := 4) (fun j H7 => Kp p H6 H7 ∧ PotAt H7 p (n + 8 + 20 * i + 2 * j) ∧ ∃ vs : List V, H7 D = some (.lst vs) ∧ (∀ v ∈ vs, Nn b (b ^ f) (gG b f r) v) ∧ vs.length = j)
        ⟨Ex.kp (Ex.new hD), (p6.ex (Ex.new hD)).mono (by omega), [], upd_same, fun v hv => (by cases hv), rfl⟩ ?_ ?_
      · rintro j H7 hj ⟨k7, p7, vs, hv1, hv2, hv3⟩
        refine ⟨rfl, ?_⟩
        dsimp only [tYes]
        refine iteT ?_
        have ga7 := ga4.kp p4 (k46.trans k7)
        obtain ⟨dx, lim, tops, pp, u, ys, zs, o1, o2, o3, o4, o5⟩ := ga7.ob
        refine ⟨_, rfl, _, rfl, _, rfl, g, dx, _, rfl, o1, gfl_after, _, rfl, g, b, f, r, b ^ f, gG b f r, b1, rfl, ga7, ob, fun va H8 e8 hva => ?_⟩
        refine ⟨_, rfl, g, dx, _, rfl, e8 _ _ o1, gfl_before, _, rfl, g, b, f, r, b ^ f, gG b f r, b1, rfl, ga7.mono e8, ob, fun vb H9 e9 hvb => ?_⟩
        have e79 := e8.trans e9
        have p9 := p7.ex e79
        have k9 := k7.ex e79
        refine ⟨_, rfl, _, rfl, p, l, _, iv xs, rfl, p9, by omega, (k46.trans k9) _ _ hl4 nl, nl, by rw [iv_len]; exact h0, by rw [iv_len]; omega, fun i2 v2 HA hi2 kA pA => ⟨by show 4 ≤ sizeLine; decide, fun li hli => ?_⟩⟩
        obtain ⟨b2, hb2, rfl⟩ := iv_get hi2
        have eB := Ex.new (o := .lst [V.int b1, va, vb, V.int b2]) hli
        have hB : (upd HA li (.lst [V.int b1, va, vb, V.int b2])) li = some (.lst [V.int b1, va, vb, V.int b2]) := upd_same
        have nli := pA.ne hli
        have pB := pA.ex eB
        generalize (upd HA li (.lst [V.int b1, va, vb, V.int b2])) = HB at *
        refine ⟨p, li, _, _, rfl, pB, by omega, hB, nli, by show 0 < 4; decide, by show 4 ≤ 100000; decide, fun i3 v3 HC hv3' kC pC => ?_⟩
        have nn3 : Nn b (b ^ f) (gG b f r) v3 := by
          match i3, hv3' with
          | 0, hv => cases hv; exact .inr ⟨_, rfl, ob⟩
          | 1, hv =>
            cases hv
            rcases hva with ⟨h, _⟩ | h
            · exact .inl h
            · exact .inr h
          | 2, hv =>
            cases hv
            rcases hvb with ⟨h, _⟩ | h
            · exact .inl h
            · exact .inr h
          | 3, hv => cases hv; exact .inr ⟨_, rfl, hx b2 (List.mem_of_getElem? hb2)⟩
        have k7C := (((Ex.kp e79).trans kA).ex eB).trans kC
        refine ⟨_, k7C _ _ hv1 nD, small1000 (by omega), (k7.trans k7C).new hD, (pC.upd nD).mono (by omega), vs ++ [v3], upd_same, ?_, by rw [List.length_append, hv3]; rfl⟩
        intro v hv
        rcases List.mem_append.mp hv with hv | hv
        · exact hv2 v hv
        · rw [List.mem_singleton.mp hv]; exact nn3
      rintro H7 ⟨k7, p7, vs, hv1, hv2, hv3⟩
      -- four
      refine ⟨_, rfl, D, rfl, ⟨_, SqL.of hv1⟩, fun B hB => lc_list (K := K) (a := D) (xs := vs) (fun j H8 => Ex H7 H8 ∧ ∃ ys : List Int, H8 B = some (.lst (iv ys)) ∧ (∀ y ∈ ys, OnG b (b ^ f) (gG b f r) y) ∧ ys.length = j)
        ⟨Ex.new hB, [], upd_same, fun y hy => (by cases hy), rfl⟩ (fun j H8 _ z => SqL.of (z.1 _ _ hv1)) ?_ ?_⟩
      · rintro j v H8 hv ⟨e8, ys, hy1, hy2, hy3⟩
        have hj := (List.getElem?_eq_some_iff.mp hv).1
        have step : ∀ z, OnG b (b ^ f) (gG b f r) z → ∃ acc, H8 B = some (.lst acc) ∧ acc.length < sizeLine ∧ (Ex H7 (upd H8 B (.lst (acc ++ [V.int z]))) ∧ ∃ ys : List Int, (upd H8 B (.lst (acc ++ [V.int z]))) B = some (.lst (iv ys)) ∧ (∀ y ∈ ys, OnG b (b ^ f) (gG b f r) y) ∧ ys.length = j + 1) := fun z hz => by
          refine ⟨_, hy1, small1000 (by rw [iv_len]; omega), Ex.mut e8 hB, ys ++ [z], by rw [upd_same, iv_app]; rfl, ?_, by rw [List.length_append, hy3]; rfl⟩
          intro y hy
          rcases List.mem_append.mp hy with hy | hy
          · exact hy2 y hy
          · rw [List.mem_singleton.mp hy]; exact hz
        refine ⟨rfl, ?_⟩
        dsimp only [tYes]
        refine iteT ?_
        rcases hv2 v (List.mem_of_getElem? hv) with rfl | ⟨z, rfl, hz⟩
        · refine ⟨_, rfl, rfl, _, rfl, ?_⟩
          refine ite2 (fun _ => ?_) (fun h => absurd (by simp) h)
          exact ⟨_, rfl, step b1 ob⟩
        · refine ⟨_, rfl, rfl, _, rfl, ?_⟩
          refine ite2 (fun h => absurd h (by simp)) (fun _ => ?_)
          exact ⟨_, rfl, step z hz⟩
      rintro H8 ⟨e8, ys, hy1, hy2, hy3⟩
      obtain ⟨y0, y1, y2, y3, rfl⟩ : ∃ y0 y1 y2 y3, ys = [y0, y1, y2, y3] := by
        rw [hv3] at hy3
        match ys, hy3 with
        | [y0, y1, y2, y3], _ => exact ⟨y0, y1, y2, y3, rfl⟩
      refine ⟨B, _, rfl, .inl ⟨SqL.of hy1, fun q hq => ?_⟩⟩
      have e9 := Ex.new (o := .tup (iv [y0, y1, y2, y3])) hq
      have hq9 : (upd H8 q (.tup (iv [y0, y1, y2, y3]))) q = some (.tup (iv [y0, y1, y2, y3])) := upd_same
      generalize (upd H8 q (.tup (iv [y0, y1, y2, y3]))) = H9 at *
      have k9 : Kp p H4 H9 := (k46.trans k7).ex (e8.trans e9)
      have p9 := p7.ex (e8.trans e9)
      refine ⟨_, rfl, _, rfl, _, rfl, g, t, b, f, r, pl, q, y0, y1, y2, y3, rfl, ga4.kp p4 k9, SqT.of (k9 _ _ ht4 nt), hok, hq9, hy2 y0 (by simp), hy2 y1 (by simp), hy2 y2 (by simp), hy2 y3 (by simp), fun HA eA => ⟨true, rfl, ?_⟩⟩
      refine ite2 (fun h => absurd h (by simp)) (fun _ => ?_)
      exact ⟨k9.ex eA, (p9.ex eA).mono (by omega), _, _, _, _, rfl⟩
    rintro σ H5 ⟨k5, p5, z7, z9, z10, z11, rfl⟩
    have kH5 : Kp p H H5 := (k2.trans k4).trans k5
    clear hx hl hl2 hl4 ga ga4 hG9 ht ht2 ht4 hok hpl nt
    -- great
    refine ⟨fun σ H6 => Kp p H5 H6 ∧ PotAt H6 p (n + 610) ∧ ∃ (gt : Addr) (b f r pl : Nat), H6 gt = some (.tup [.int b, .int f, .int r, .int pl]) ∧ okg b f r ∧ pl ≤ 30 ∧ b ^ f - 1 < gG b f r ∧ σ = [some (.ref p), some (.ref t), some (.ref l), some (.ref g), some (.int m), some (.int st), z6, z7, some (.ref gt), z9, z10, z11, none, none], ?_, ?_⟩
    · refine ⟨_, rfl, p, 9, n + 607, rfl, p5, by omega, by decide, by decide +kernel, fun d1 H8 k8 p8 d10 d19 => ⟨_, _, rfl, rfl, ?_⟩⟩
      refine ⟨_, rfl, by show 3 ≤ sizeLine; decide, fun l1 hl1 => ?_⟩
      have e9 := Ex.new (o := .lst [V.int 3, V.int 10, V.int 30]) hl1
      refine ⟨p, l1, n + 608, _, rfl, p8.ex e9, by omega, upd_same, p8.ne hl1, by show 0 < 3; decide, by show 3 ≤ 100000; decide, fun i1 v1 H10 hv1 k10 p10 => ?_⟩
      obtain ⟨f', rfl, hf1, hf2⟩ : ∃ f' : Nat, v1 = .int f' ∧ 1 ≤ f' ∧ f' ≤ 30 := by
        match i1, hv1 with
        | 0, hv => cases hv; exact ⟨3, rfl, by decide, by decide⟩
        | 1, hv => cases hv; exact ⟨10, rfl, by decide, by decide⟩
        | 2, hv => cases hv; exact ⟨30, rfl, by decide, by decide⟩
      refine ⟨by show 4 ≤ sizeLine; decide, fun gt hgt => ?_⟩
      have e13 := Ex.new (o := .tup [V.int (2 + d1), V.int f', V.int 60, V.int 0]) hgt
      have hok' : okg (2 + d1).toNat f' 60 := ⟨by omega, by omega, hf1, hf2, by decide⟩
      refine ⟨((k8.ex e9).trans k10).ex e13, (p10.ex e13).mono (by omega), gt, (2 + d1).toNat, f', 60, 0, ?_, hok', by omega, ?_, rfl⟩
      · rw [upd_same]
        have h1 : (((2 + d1).toNat : Nat) : Int) = 2 + d1 := by omega
        rw [h1]
        rfl
      · have hL2 := hok'.gr.L1
        have h2 : (2 + d1).toNat ^ 1 ≤ (2 + d1).toNat ^ 60 := Nat.pow_le_pow_right (by omega) (by decide)
        rw [Nat.pow_one] at h2
        unfold gG
        have h3 : ((2 + d1).toNat ^ f' - 1) * 2 ≤ ((2 + d1).toNat ^ f' - 1) * (2 + d1).toNat ^ 60 := Nat.mul_le_mul_left _ (by omega)
        omega
    rintro σ H6 ⟨k6, p6, gt, b, f, r, pl, hgt, hok, hpl, hGt, rfl⟩
    have ngt := ne_tup hgt p6
    -- made
    refine ⟨fun σ H7 => Ex H6 H7 ∧ ∃ g2 : Addr, GridAt a H7 g2 b f r (b ^ f) (gG b f r) ∧ σ = [some (.ref p), some (.ref t), some (.ref l), some (.ref g2), some (.int m), some (.int st), z6, z7, some (.ref gt), z9, z10, z11, none, none], ?_, ?_⟩
    · have tg := SqT.of (K := K) hgt
      refine ⟨_, rfl, gt, _, _, _, rfl, rfl, tg, g0, _, rfl, gt, _, _, _, rfl, rfl, tg, g1, _, rfl, gt, _, _, _, rfl, rfl, tg, g2, _, rfl, gt, _, _, _, rfl, rfl, tg, g3, fun x dx nx ndx nex => ?_⟩
      refine ⟨x, dx, b, f, r, pl, rfl, upd_same, ⟨hok.1, hok.2.1, hok.2.2.1, hok.2.2.2.1, hok.2.2.2.2, hpl⟩, fun H9 k9 ga => ⟨rfl, ?_⟩⟩
      exact ⟨ex_made nx ndx k9, x, ga, rfl⟩
    rintro σ H7 ⟨e7, g2, ga, rfl⟩
    have p7 := p6.ex e7
    have hgt7 := e7 _ _ hgt
    have hL2 := hok.gr.L1
    have hM400 : b ^ f < 2 ^ 400 := pw400 hok.2.1 (by have := hok.2.2.2.1; omega)
    have hGb := hok.bG
    -- for lap
    refine ⟨fun σ H8 => Kp p H7 H8, ?_, fun σ H8 k8 => k H8 ((kH5.trans k6).trans ((Ex.kp e7).trans k8))⟩
    refine ⟨_, rfl, by decide, by decide, for_range (lo := 0) (n := 8) (fun i σ H8 => Kp p H7 H8 ∧ PotAt H8 p (n + 610 + 20 * i) ∧ ∃ y4 y6 y7 y11 y12 : Option V, σ = [some (.ref p), some (.ref t), some (.ref l), some (.ref g2), y4, some (.int st), y6, y7, some (.ref gt), z9, z10, y11, y12, none])
      ⟨Kp.refl, p7, _, _, _, _, _, rfl⟩ ?_ (fun σ H8 z => z.1)⟩
    rintro i σ H8 hi ⟨k8, p8, y4, y6, y7, y11, y12, rfl⟩
    have hgt8 := k8 _ _ hgt7 ngt
    have tg8 : TG K H8 gt b f r pl := SqT.of hgt8
    refine ⟨_, rfl, _, rfl, gt, _, _, _, rfl, rfl, tg8, g0, _, rfl, gt, _, _, _, rfl, rfl, tg8, g1, b, f, rfl, hok.2.1, by have := hok.2.2.2.1; omega, fun H9 e9 => ?_⟩
    refine ⟨p, _, _, rfl, p8.ex e9, by omega, by omega, by rw [Int.natAbs_natCast]; exact Nat.lt_trans hM400 (by decide +kernel), fun d HA kA pA d0 d1 => ⟨_, _, rfl, rfl, ?_⟩⟩
    have k8A := (k8.ex e9).trans kA
    have hgtA := k8A _ _ hgt7 ngt
    have tgA : TG K HA gt b f r pl := SqT.of hgtA
    refine ⟨_, rfl, _, rfl, gt, _, _, _, rfl, rfl, tgA, g0, _, rfl, gt, _, _, _, rfl, rfl, tgA, g1, b, f, rfl, hok.2.1, by have := hok.2.2.2.1; omega, fun HB eB => ⟨_, _, rfl, rfl, _, _, rfl, ?_⟩⟩
    have hone : ∃ o : Nat, (if ((b ^ f : Nat) : Int) - 1 < d + 1 then ((b ^ f : Nat) : Int) - 1 else d + 1) = (o : Int) ∧ 1 ≤ o ∧ o ≤ b ^ f - 1 := by
      refine ⟨(if ((b ^ f : Nat) : Int) - 1 < d + 1 then ((b ^ f : Nat) : Int) - 1 else d + 1).toNat, ?_, ?_, ?_⟩ <;> split <;> omega
    obtain ⟨o, ho, ho1, ho2⟩ := hone
    dsimp only
    rw [ho]
    have oo : OnG b (b ^ f) (gG b f r) ((o : Nat) : Int) := onG_small hok.gr (by omega)
    have k8B := k8A.ex eB
    have pB := pA.ex eB
    have gaB := ga.kp p7 k8B
    obtain ⟨dx, lim, tops, pp, u, ys, zs, o1, o2, o3, o4, o5⟩ := gaB.ob
    refine ⟨_, rfl, _, rfl, g2, dx, _, rfl, o1, gfl_before, _, rfl, g2, b, f, r, b ^ f, gG b f r, (o : Int), rfl, gaB, oo, fun vb HC eC hvb => ?_⟩
    refine ⟨_, rfl, g2, dx, _, rfl, eC _ _ o1, gfl_after, _, rfl, g2, b, f, r, b ^ f, gG b f r, (o : Int), rfl, gaB.mono eC, oo, fun va HD eD hva => ?_⟩
    obtain ⟨zb, rfl, hzb⟩ : ∃ z, vb = .int z ∧ OnG b (b ^ f) (gG b f r) z := by
      rcases hvb with ⟨_, h⟩ | h
      · exfalso; omega
      · exact h
    obtain ⟨za, rfl, hza⟩ : ∃ z, va = .int z ∧ OnG b (b ^ f) (gG b f r) z := by
      rcases hva with ⟨_, h⟩ | h
      · exfalso; omega
      · exact h
    refine ⟨_, rfl, by show 4 ≤ sizeLine; decide, fun fo hfo => ?_⟩
    have eE := Ex.new (o := .tup [V.int (o : Int), V.int zb, V.int za, V.int (o : Int)]) hfo
    have hfoE : (upd HD fo (.tup [V.int (o : Int), V.int zb, V.int za, V.int (o : Int)])) fo = some (.tup (iv [(o : Int), zb, za, (o : Int)])) := upd_same
    generalize (upd HD fo (.tup [V.int (o : Int), V.int zb, V.int za, V.int (o : Int)])) = HE at *
    have eBE := (eC.trans eD).trans eE
    have k8E := k8B.ex eBE
    have pE := pB.ex eBE
    have hgtE := k8E _ _ hgt7 ngt
    refine ⟨_, rfl, _, rfl, _, rfl, g2, gt, b, f, r, pl, fo, (o : Int), zb, za, (o : Int), rfl, gaB.mono eBE, SqT.of hgtE, hok, hfoE, oo, hzb, hza, oo, fun HF eF => ⟨true, rfl, ?_⟩⟩
    refine ite2 (fun h => absurd h (by simp)) (fun _ => ?_)
    have k8F := k8E.ex eF
    have pF := pE.ex eF
    -- worth, most
    refine ⟨_, rfl, _, rfl, p, gt, _, b, f, r, pl, rfl, pF, by omega, k8F _ _ hgt7 ngt, ngt, hok, fun zz HG' kG' pG' hzz => ?_⟩
    refine ⟨_, rfl, p, 999, _, rfl, pG', by omega, by decide, by decide +kernel, fun d2 HI kI pI d20 d21 => ⟨_, _, rfl, rfl, _, _, rfl, rfl, ?_⟩⟩
    have k8I := (k8F.trans kG').trans kI
    refine ⟨_, rfl, gt, b, f, r, pl, rfl, TG.kp hgt7 k8I ngt, hok.v, fun HJ eJ => ⟨by show 2 ≤ sizeLine; decide, fun uu huu => ?_⟩⟩
    refine ⟨uu, _, rfl, SqT.of upd_same, rfl, _, _, rfl, _, _, rfl, rfl, ?_⟩
    have eK := Ex.new (o := .tup [V.int (zz + d2 - 499), V.int (((b ^ f - 1) * b ^ r : Nat) : Int)]) huu
    have k8K := k8I.ex (eJ.trans eK)
    have pK := pI.ex (eJ.trans eK)
    generalize (upd HJ uu (.tup [V.int (zz + d2 - 499), V.int (((b ^ f - 1) * b ^ r : Nat) : Int)])) = HK at *
    refine ⟨_, rfl, _, rfl, _, rfl, _, rfl, _, rfl, _, rfl, _, _, rfl, _, _, rfl, ?_⟩
    refine ⟨g2, gt, b, f, r, pl, _, rfl, ga.kp p7 k8K, TG.kp hgt7 k8K ngt, hok, ?_, fun HL eL => ⟨true, rfl, ?_⟩⟩
    · have hG' : gG b f r = (b ^ f - 1) * b ^ r := rfl
      rw [← hG']
      split <;> split <;> (try split) <;> omega
    refine ite2 (fun h => absurd h (by simp)) (fun _ => ?_)
    exact ⟨k8K.ex eL, (pK.ex eL).mono (by omega), _, _, _, _, _, rfl⟩
theorem ok_law (T : Txt K mg a) : GOk P w K mg base 8 a.law a.law_fd ["script"] (spLaw K) := by
  refine okG T.F_law sc_law (fun vs H Q E h => ?_) (fun cdv A outer s H vs Q E hG hr h => ?_)
  · obtain ⟨q, ns, rfl, _⟩ := h
    rfl
  · obtain ⟨q, ns, rfl, hs, hl, k⟩ := h
    refine ⟨_, (pss_one (ps_ret (pe_callB (cr_all rfl) (by rfl) T.n_all (by decide +kernel) (pa_cons (pe_lc (own := [("place", 1)]) (g := gName 1) (by rfl) sc_law.nd (pi_list (pe_call (ok_l_cells T) (hr.mono (by decide)) rfl T.g_l_cells T.k_l_cells T.B_l_cells .nil pass0 (pa_cons (pv 0) (pa_cons pe_int pa_nil)))) (blkOk_by (own := [("place", 1)]) (N := N_law) (sc := defScope s_law) (by decide +kernel)) (fun _ _ _ _ _ => pg_name (i := 1) sc_law.nd rfl (Or.inl rfl)) (fun _ _ _ _ _ => pts_nil) (fun _ _ _ _ _ => (pe_callG (ok_l_right T) hG (hr.mono (by decide)) rfl T.g_l_right T.k_l_right T.B_l_right .nil (pa_cons (pe_call (ok_l_pot T) (hr.mono (by decide)) rfl T.g_l_pot T.k_l_pot T.B_l_pot .nil pass0 (pa_cons (pv 0) (pa_cons (pv 1) pa_nil))) pa_nil)))) pa_nil)))), ?_⟩
    refine ⟨_, rfl, q, ns, 1, rfl, hs, by decide, by decide, fun l c H1 e1 hc hl1 => ⟨l, rfl, ⟨_, SqL.of hl1⟩, fun D hD => lc_list (K := K) (a := l) (xs := (List.range c).map fun (i : Nat) => V.int (i : Int)) (fun j H2 => Ex H1 H2 ∧ ∃ bs : List Bool, H2 D = some (.lst (bs.map V.bl)) ∧ (∀ b ∈ bs, b = true) ∧ bs.length ≤ j)
      ⟨Ex.new hD, [], upd_same, fun b hb => (by cases hb), Nat.le_refl _⟩ (fun j H2 _ z => SqL.of (z.1 _ _ hl1)) ?_ ?_⟩⟩
    · rintro j v H2 hv ⟨e2, bs, hb1, hb2, hb3⟩
      obtain ⟨hjc, rfl⟩ : j < c ∧ v = V.int (j : Int) := by
        have h1 := (List.getElem?_eq_some_iff.mp hv).1
        rw [List.length_map, List.length_range] at h1
        rw [List.getElem?_map, List.getElem?_range h1] at hv
        exact ⟨h1, (Option.some.inj hv).symm⟩
      refine ⟨rfl, ?_⟩
      dsimp only [tYes]
      refine iteT ?_
      refine ⟨_, rfl, _, rfl, q, ns, j, rfl, ex_l (e1.trans e2) hs, by omega, fun p H3 e3 hp p3 => ⟨p, 0, rfl, p3, by decide, fun H4 k4 => ?_⟩⟩
      have e4 : Ex H2 H4 := fun b o hb => k4 b o (e3 b o hb) (ne_of_none hb hp)
      refine ⟨_, e4 _ _ hb1, small1000 (by rw [List.length_map]; omega), Ex.mut (e2.trans e4) hD, bs ++ [true], ?_, ?_, ?_⟩
      · rw [upd_same, List.map_append]; rfl
      · intro b hb
        rcases List.mem_append.mp hb with hb | hb
        · exact hb2 b hb
        · exact List.mem_singleton.mp hb
      · rw [List.length_append, List.length_singleton]; omega
    · rintro H2 ⟨e2, bs, hb1, hb2, hb3⟩
      refine ⟨D, bs, rfl, SqL.of hb1, ?_⟩
      rw [all_id bs hb2]
      exact k H2
end
end My


set_option Elab.async false
set_option maxRecDepth 100000
namespace My
open PySem L2 Evl
set_option maxHeartbeats 0 in
theorem all_mk {l : PySem.W.OpenLaw} {w : World} {K : PySem.W.Frag} {h : Heap} {mg : Str → Option Value} {fa f_is_whole f_is_from_to f_power f_sign_of f_Grid_init f_Grid_contains f_Grid_rank f_Grid_number f_Grid_after f_Grid_before f_is_grid f_spacing_at f_spans_below f_span_size f_fitted f_goes_up f_renewed f_cross_signs f_rounded_parts f_is_numbers f_check_reached f_l_pot f_l_take f_l_of f_l_grid_power f_l_grid_ladder f_l_grid_spacing f_l_grid_more f_l_grid_greatest f_l_grid_rounded f_l_grid_a_number f_l_cells f_l_small f_l_sign f_l_is_told_right f_l_are_crossed_right f_l_right f_law C_Grid : Addr} (X : K.In h) (G : h.Ns mainGlobals mg) (hfa : mg "law" = some (.ref fa))
    {od_is_whole an_is_whole od_is_from_to an_is_from_to od_power an_power od_sign_of an_sign_of od_Grid_init an_Grid_init od_Grid_contains an_Grid_contains od_Grid_rank an_Grid_rank od_Grid_number an_Grid_number od_Grid_after an_Grid_after od_Grid_before an_Grid_before od_is_grid an_is_grid od_spacing_at an_spacing_at od_spans_below an_spans_below od_span_size an_span_size od_fitted an_fitted od_goes_up an_goes_up od_renewed an_renewed od_cross_signs an_cross_signs od_rounded_parts an_rounded_parts od_is_numbers an_is_numbers od_check_reached an_check_reached od_l_pot an_l_pot od_l_take an_l_take od_l_of an_l_of od_l_grid_power an_l_grid_power od_l_grid_ladder an_l_grid_ladder od_l_grid_spacing an_l_grid_spacing od_l_grid_more an_l_grid_more od_l_grid_greatest an_l_grid_greatest od_l_grid_rounded an_l_grid_rounded od_l_grid_a_number an_l_grid_a_number od_l_cells an_l_cells od_l_small an_l_small od_l_sign an_l_sign od_l_is_told_right an_l_is_told_right od_l_are_crossed_right an_l_are_crossed_right od_l_right an_l_right od_law an_law : Option Addr} {sl_is_whole sl_is_from_to sl_power sl_sign_of sl_Grid_init sl_Grid_contains sl_Grid_rank sl_Grid_number sl_Grid_after sl_Grid_before sl_is_grid sl_spacing_at sl_spans_below sl_span_size sl_fitted sl_goes_up sl_renewed sl_cross_signs sl_rounded_parts sl_is_numbers sl_check_reached sl_l_pot sl_l_take sl_l_of sl_l_grid_power sl_l_grid_ladder sl_l_grid_spacing sl_l_grid_more sl_l_grid_greatest sl_l_grid_rounded sl_l_grid_a_number sl_l_cells sl_l_small sl_l_sign sl_l_is_told_right sl_l_are_crossed_right sl_l_right sl_law : Array (Option Value)} {oc_is_whole kV_is_whole dc_is_whole pm_is_whole cd_is_whole ct_is_whole oc_is_from_to kV_is_from_to dc_is_from_to pm_is_from_to cd_is_from_to ct_is_from_to oc_power kV_power dc_power pm_power cd_power ct_power oc_sign_of kV_sign_of dc_sign_of pm_sign_of cd_sign_of ct_sign_of oc_Grid_init kV_Grid_init dc_Grid_init pm_Grid_init cd_Grid_init ct_Grid_init oc_Grid_contains kV_Grid_contains dc_Grid_contains pm_Grid_contains cd_Grid_contains ct_Grid_contains oc_Grid_rank kV_Grid_rank dc_Grid_rank pm_Grid_rank cd_Grid_rank ct_Grid_rank oc_Grid_number kV_Grid_number dc_Grid_number pm_Grid_number cd_Grid_number ct_Grid_number oc_Grid_after kV_Grid_after dc_Grid_after pm_Grid_after cd_Grid_after ct_Grid_after oc_Grid_before kV_Grid_before dc_Grid_before pm_Grid_before cd_Grid_before ct_Grid_before oc_is_grid kV_is_grid dc_is_grid pm_is_grid cd_is_grid ct_is_grid oc_spacing_at kV_spacing_at dc_spacing_at pm_spacing_at cd_spacing_at ct_spacing_at oc_spans_below kV_spans_below dc_spans_below pm_spans_below cd_spans_below ct_spans_below oc_span_size kV_span_size dc_span_size pm_span_size cd_span_size ct_span_size oc_fitted kV_fitted dc_fitted pm_fitted cd_fitted ct_fitted oc_goes_up kV_goes_up dc_goes_up pm_goes_up cd_goes_up ct_goes_up oc_renewed kV_renewed dc_renewed pm_renewed cd_renewed ct_renewed oc_cross_signs kV_cross_signs dc_cross_signs pm_cross_signs cd_cross_signs ct_cross_signs oc_rounded_parts kV_rounded_parts dc_rounded_parts pm_rounded_parts cd_rounded_parts ct_rounded_parts oc_is_numbers kV_is_numbers dc_is_numbers pm_is_numbers cd_is_numbers ct_is_numbers oc_check_reached kV_check_reached dc_check_reached pm_check_reached cd_check_reached ct_check_reached oc_l_pot kV_l_pot dc_l_pot pm_l_pot cd_l_pot ct_l_pot oc_l_take kV_l_take dc_l_take pm_l_take cd_l_take ct_l_take oc_l_of kV_l_of dc_l_of pm_l_of cd_l_of ct_l_of oc_l_grid_power kV_l_grid_power dc_l_grid_power pm_l_grid_power cd_l_grid_power ct_l_grid_power oc_l_grid_ladder kV_l_grid_ladder dc_l_grid_ladder pm_l_grid_ladder cd_l_grid_ladder ct_l_grid_ladder oc_l_grid_spacing kV_l_grid_spacing dc_l_grid_spacing pm_l_grid_spacing cd_l_grid_spacing ct_l_grid_spacing oc_l_grid_more kV_l_grid_more dc_l_grid_more pm_l_grid_more cd_l_grid_more ct_l_grid_more oc_l_grid_greatest kV_l_grid_greatest dc_l_grid_greatest pm_l_grid_greatest cd_l_grid_greatest ct_l_grid_greatest oc_l_grid_rounded kV_l_grid_rounded dc_l_grid_rounded pm_l_grid_rounded cd_l_grid_rounded ct_l_grid_rounded oc_l_grid_a_number kV_l_grid_a_number dc_l_grid_a_number pm_l_grid_a_number cd_l_grid_a_number ct_l_grid_a_number oc_l_cells kV_l_cells dc_l_cells pm_l_cells cd_l_cells ct_l_cells oc_l_small kV_l_small dc_l_small pm_l_small cd_l_small ct_l_small oc_l_sign kV_l_sign dc_l_sign pm_l_sign cd_l_sign ct_l_sign oc_l_is_told_right kV_l_is_told_right dc_l_is_told_right pm_l_is_told_right cd_l_is_told_right ct_l_is_told_right oc_l_are_crossed_right kV_l_are_crossed_right dc_l_are_crossed_right pm_l_are_crossed_right cd_l_are_crossed_right ct_l_are_crossed_right oc_l_right kV_l_right dc_l_right pm_l_right cd_l_right ct_l_right oc_law kV_law dc_law pm_law cd_law ct_law : Value} {t_MOST_FIGURES t_MOST_MORE : Tok}
    (aC_Grid : PySem.W.nsIn K mainGlobals "Grid" = some (some (.ref C_Grid)))
    (a_is_whole : PySem.W.nsIn K mainGlobals "is_whole" = some (some (.ref f_is_whole)))
    (l_is_whole : K.lookup f_is_whole = some ⟨oc_is_whole, od_is_whole, .func (PySem.W.fnOf "is_whole" "is_whole" (defArgs s_is_whole) (defBody s_is_whole) (defScope s_is_whole) .none kV_is_whole dc_is_whole pm_is_whole an_is_whole cd_is_whole ct_is_whole), sl_is_whole⟩)
    (c_is_whole : PySem.W.codeIn K cd_is_whole "is_whole" = true)
    (k_is_whole : PySem.W.keepIn K (.ref f_is_whole) = true)
    (a_is_from_to : PySem.W.nsIn K mainGlobals "is_from_to" = some (some (.ref f_is_from_to)))
    (l_is_from_to : K.lookup f_is_from_to = some ⟨oc_is_from_to, od_is_from_to, .func (PySem.W.fnOf "is_from_to" "is_from_to" (defArgs s_is_from_to) (defBody s_is_from_to) (defScope s_is_from_to) .none kV_is_from_to dc_is_from_to pm_is_from_to an_is_from_to cd_is_from_to ct_is_from_to), sl_is_from_to⟩)
    (c_is_from_to : PySem.W.codeIn K cd_is_from_to "is_from_to" = true)
    (k_is_from_to : PySem.W.keepIn K (.ref f_is_from_to) = true)
    (a_power : PySem.W.nsIn K mainGlobals "power" = some (some (.ref f_power)))
    (l_power : K.lookup f_power = some ⟨oc_power, od_power, .func (PySem.W.fnOf "power" "power" (defArgs s_power) (defBody s_power) (defScope s_power) .none kV_power dc_power pm_power an_power cd_power ct_power), sl_power⟩)
    (c_power : PySem.W.codeIn K cd_power "power" = true)
    (k_power : PySem.W.keepIn K (.ref f_power) = true)
    (a_sign_of : PySem.W.nsIn K mainGlobals "sign_of" = some (some (.ref f_sign_of)))
    (l_sign_of : K.lookup f_sign_of = some ⟨oc_sign_of, od_sign_of, .func (PySem.W.fnOf "sign_of" "sign_of" (defArgs s_sign_of) (defBody s_sign_of) (defScope s_sign_of) .none kV_sign_of dc_sign_of pm_sign_of an_sign_of cd_sign_of ct_sign_of), sl_sign_of⟩)
    (c_sign_of : PySem.W.codeIn K cd_sign_of "sign_of" = true)
    (k_sign_of : PySem.W.keepIn K (.ref f_sign_of) = true)
    (a_Grid_init : PySem.W.findIn K (.ref C_Grid) "__init__" = some (some (.ref f_Grid_init)))
    (i_Grid_init : PySem.W.isFn K (.ref f_Grid_init) = true)
    (l_Grid_init : K.lookup f_Grid_init = some ⟨oc_Grid_init, od_Grid_init, .func (PySem.W.fnOf "__init__" "Grid.__init__" (defArgs s_Grid_init) (defBody s_Grid_init) (defScope s_Grid_init) .none kV_Grid_init dc_Grid_init pm_Grid_init an_Grid_init cd_Grid_init ct_Grid_init), sl_Grid_init⟩)
    (c_Grid_init : PySem.W.codeIn K cd_Grid_init "Grid.__init__" = true)
    (k_Grid_init : PySem.W.keepIn K (.ref f_Grid_init) = true)
    (a_Grid_contains : PySem.W.findIn K (.ref C_Grid) "__contains__" = some (some (.ref f_Grid_contains)))
    (i_Grid_contains : PySem.W.isFn K (.ref f_Grid_contains) = true)
    (l_Grid_contains : K.lookup f_Grid_contains = some ⟨oc_Grid_contains, od_Grid_contains, .func (PySem.W.fnOf "__contains__" "Grid.__contains__" (defArgs s_Grid_contains) (defBody s_Grid_contains) (defScope s_Grid_contains) .none kV_Grid_contains dc_Grid_contains pm_Grid_contains an_Grid_contains cd_Grid_contains ct_Grid_contains), sl_Grid_contains⟩)
    (c_Grid_contains : PySem.W.codeIn K cd_Grid_contains "Grid.__contains__" = true)
    (k_Grid_contains : PySem.W.keepIn K (.ref f_Grid_contains) = true)
    (a_Grid_rank : PySem.W.findIn K (.ref C_Grid) "rank" = some (some (.ref f_Grid_rank)))
    (i_Grid_rank : PySem.W.isFn K (.ref f_Grid_rank) = true)
    (l_Grid_rank : K.lookup f_Grid_rank = some ⟨oc_Grid_rank, od_Grid_rank, .func (PySem.W.fnOf "rank" "Grid.rank" (defArgs s_Grid_rank) (defBody s_Grid_rank) (defScope s_Grid_rank) .none kV_Grid_rank dc_Grid_rank pm_Grid_rank an_Grid_rank cd_Grid_rank ct_Grid_rank), sl_Grid_rank⟩)
    (c_Grid_rank : PySem.W.codeIn K cd_Grid_rank "Grid.rank" = true)
    (k_Grid_rank : PySem.W.keepIn K (.ref f_Grid_rank) = true)
    (a_Grid_number : PySem.W.findIn K (.ref C_Grid) "number" = some (some (.ref f_Grid_number)))
    (i_Grid_number : PySem.W.isFn K (.ref f_Grid_number) = true)
    (l_Grid_number : K.lookup f_Grid_number = some ⟨oc_Grid_number, od_Grid_number, .func (PySem.W.fnOf "number" "Grid.number" (defArgs s_Grid_number) (defBody s_Grid_number) (defScope s_Grid_number) .none kV_Grid_number dc_Grid_number pm_Grid_number an_Grid_number cd_Grid_number ct_Grid_number), sl_Grid_number⟩)
    (c_Grid_number : PySem.W.codeIn K cd_Grid_number "Grid.number" = true)
    (k_Grid_number : PySem.W.keepIn K (.ref f_Grid_number) = true)
    (a_Grid_after : PySem.W.findIn K (.ref C_Grid) "after" = some (some (.ref f_Grid_after)))
    (i_Grid_after : PySem.W.isFn K (.ref f_Grid_after) = true)
    (l_Grid_after : K.lookup f_Grid_after = some ⟨oc_Grid_after, od_Grid_after, .func (PySem.W.fnOf "after" "Grid.after" (defArgs s_Grid_after) (defBody s_Grid_after) (defScope s_Grid_after) .none kV_Grid_after dc_Grid_after pm_Grid_after an_Grid_after cd_Grid_after ct_Grid_after), sl_Grid_after⟩)
    (c_Grid_after : PySem.W.codeIn K cd_Grid_after "Grid.after" = true)
    (k_Grid_after : PySem.W.keepIn K (.ref f_Grid_after) = true)
    (a_Grid_before : PySem.W.findIn K (.ref C_Grid) "before" = some (some (.ref f_Grid_before)))
    (i_Grid_before : PySem.W.isFn K (.ref f_Grid_before) = true)
    (l_Grid_before : K.lookup f_Grid_before = some ⟨oc_Grid_before, od_Grid_before, .func (PySem.W.fnOf "before" "Grid.before" (defArgs s_Grid_before) (defBody s_Grid_before) (defScope s_Grid_before) .none kV_Grid_before dc_Grid_before pm_Grid_before an_Grid_before cd_Grid_before ct_Grid_before), sl_Grid_before⟩)
    (c_Grid_before : PySem.W.codeIn K cd_Grid_before "Grid.before" = true)
    (k_Grid_before : PySem.W.keepIn K (.ref f_Grid_before) = true)
    (a_is_grid : PySem.W.nsIn K mainGlobals "is_grid" = some (some (.ref f_is_grid)))
    (l_is_grid : K.lookup f_is_grid = some ⟨oc_is_grid, od_is_grid, .func (PySem.W.fnOf "is_grid" "is_grid" (defArgs s_is_grid) (defBody s_is_grid) (defScope s_is_grid) .none kV_is_grid dc_is_grid pm_is_grid an_is_grid cd_is_grid ct_is_grid), sl_is_grid⟩)
    (c_is_grid : PySem.W.codeIn K cd_is_grid "is_grid" = true)
    (k_is_grid : PySem.W.keepIn K (.ref f_is_grid) = true)
    (a_spacing_at : PySem.W.nsIn K mainGlobals "spacing_at" = some (some (.ref f_spacing_at)))
    (l_spacing_at : K.lookup f_spacing_at = some ⟨oc_spacing_at, od_spacing_at, .func (PySem.W.fnOf "spacing_at" "spacing_at" (defArgs s_spacing_at) (defBody s_spacing_at) (defScope s_spacing_at) .none kV_spacing_at dc_spacing_at pm_spacing_at an_spacing_at cd_spacing_at ct_spacing_at), sl_spacing_at⟩)
    (c_spacing_at : PySem.W.codeIn K cd_spacing_at "spacing_at" = true)
    (k_spacing_at : PySem.W.keepIn K (.ref f_spacing_at) = true)
    (a_spans_below : PySem.W.nsIn K mainGlobals "spans_below" = some (some (.ref f_spans_below)))
    (l_spans_below : K.lookup f_spans_below = some ⟨oc_spans_below, od_spans_below, .func (PySem.W.fnOf "spans_below" "spans_below" (defArgs s_spans_below) (defBody s_spans_below) (defScope s_spans_below) .none kV_spans_below dc_spans_below pm_spans_below an_spans_below cd_spans_below ct_spans_below), sl_spans_below⟩)
    (c_spans_below : PySem.W.codeIn K cd_spans_below "spans_below" = true)
    (k_spans_below : PySem.W.keepIn K (.ref f_spans_below) = true)
    (a_span_size : PySem.W.nsIn K mainGlobals "span_size" = some (some (.ref f_span_size)))
    (l_span_size : K.lookup f_span_size = some ⟨oc_span_size, od_span_size, .func (PySem.W.fnOf "span_size" "span_size" (defArgs s_span_size) (defBody s_span_size) (defScope s_span_size) .none kV_span_size dc_span_size pm_span_size an_span_size cd_span_size ct_span_size), sl_span_size⟩)
    (c_span_size : PySem.W.codeIn K cd_span_size "span_size" = true)
    (k_span_size : PySem.W.keepIn K (.ref f_span_size) = true)
    (a_fitted : PySem.W.nsIn K mainGlobals "fitted" = some (some (.ref f_fitted)))
    (l_fitted : K.lookup f_fitted = some ⟨oc_fitted, od_fitted, .func (PySem.W.fnOf "fitted" "fitted" (defArgs s_fitted) (defBody s_fitted) (defScope s_fitted) .none kV_fitted dc_fitted pm_fitted an_fitted cd_fitted ct_fitted), sl_fitted⟩)
    (c_fitted : PySem.W.codeIn K cd_fitted "fitted" = true)
    (k_fitted : PySem.W.keepIn K (.ref f_fitted) = true)
    (a_goes_up : PySem.W.nsIn K mainGlobals "goes_up" = some (some (.ref f_goes_up)))
    (l_goes_up : K.lookup f_goes_up = some ⟨oc_goes_up, od_goes_up, .func (PySem.W.fnOf "goes_up" "goes_up" (defArgs s_goes_up) (defBody s_goes_up) (defScope s_goes_up) .none kV_goes_up dc_goes_up pm_goes_up an_goes_up cd_goes_up ct_goes_up), sl_goes_up⟩)
    (c_goes_up : PySem.W.codeIn K cd_goes_up "goes_up" = true)
    (k_goes_up : PySem.W.keepIn K (.ref f_goes_up) = true)
    (a_renewed : PySem.W.nsIn K mainGlobals "renewed" = some (some (.ref f_renewed)))
    (l_renewed : K.lookup f_renewed = some ⟨oc_renewed, od_renewed, .func (PySem.W.fnOf "renewed" "renewed" (defArgs s_renewed) (defBody s_renewed) (defScope s_renewed) .none kV_renewed dc_renewed pm_renewed an_renewed cd_renewed ct_renewed), sl_renewed⟩)
    (c_renewed : PySem.W.codeIn K cd_renewed "renewed" = true)
    (k_renewed : PySem.W.keepIn K (.ref f_renewed) = true)
    (a_cross_signs : PySem.W.nsIn K mainGlobals "cross_signs" = some (some (.ref f_cross_signs)))
    (l_cross_signs : K.lookup f_cross_signs = some ⟨oc_cross_signs, od_cross_signs, .func (PySem.W.fnOf "cross_signs" "cross_signs" (defArgs s_cross_signs) (defBody s_cross_signs) (defScope s_cross_signs) .none kV_cross_signs dc_cross_signs pm_cross_signs an_cross_signs cd_cross_signs ct_cross_signs), sl_cross_signs⟩)
    (c_cross_signs : PySem.W.codeIn K cd_cross_signs "cross_signs" = true)
    (k_cross_signs : PySem.W.keepIn K (.ref f_cross_signs) = true)
    (a_rounded_parts : PySem.W.nsIn K mainGlobals "rounded_parts" = some (some (.ref f_rounded_parts)))
    (l_rounded_parts : K.lookup f_rounded_parts = some ⟨oc_rounded_parts, od_rounded_parts, .func (PySem.W.fnOf "rounded_parts" "rounded_parts" (defArgs s_rounded_parts) (defBody s_rounded_parts) (defScope s_rounded_parts) .none kV_rounded_parts dc_rounded_parts pm_rounded_parts an_rounded_parts cd_rounded_parts ct_rounded_parts), sl_rounded_parts⟩)
    (c_rounded_parts : PySem.W.codeIn K cd_rounded_parts "rounded_parts" = true)
    (k_rounded_parts : PySem.W.keepIn K (.ref f_rounded_parts) = true)
    (a_is_numbers : PySem.W.nsIn K mainGlobals "is_numbers" = some (some (.ref f_is_numbers)))
    (l_is_numbers : K.lookup f_is_numbers = some ⟨oc_is_numbers, od_is_numbers, .func (PySem.W.fnOf "is_numbers" "is_numbers" (defArgs s_is_numbers) (defBody s_is_numbers) (defScope s_is_numbers) .none kV_is_numbers dc_is_numbers pm_is_numbers an_is_numbers cd_is_numbers ct_is_numbers), sl_is_numbers⟩)
    (c_is_numbers : PySem.W.codeIn K cd_is_numbers "is_numbers" = true)
    (k_is_numbers : PySem.W.keepIn K (.ref f_is_numbers) = true)
    (a_check_reached : PySem.W.nsIn K mainGlobals "check_reached" = some (some (.ref f_check_reached)))
    (l_check_reached : K.lookup f_check_reached = some ⟨oc_check_reached, od_check_reached, .func (PySem.W.fnOf "check_reached" "check_reached" (defArgs s_check_reached) (defBody s_check_reached) (defScope s_check_reached) .none kV_check_reached dc_check_reached pm_check_reached an_check_reached cd_check_reached ct_check_reached), sl_check_reached⟩)
    (c_check_reached : PySem.W.codeIn K cd_check_reached "check_reached" = true)
    (k_check_reached : PySem.W.keepIn K (.ref f_check_reached) = true)
    (a_l_pot : PySem.W.nsIn K mainGlobals "_law_pot" = some (some (.ref f_l_pot)))
    (l_l_pot : K.lookup f_l_pot = some ⟨oc_l_pot, od_l_pot, .func (PySem.W.fnOf "_law_pot" "_law_pot" (defArgs s_l_pot) (defBody s_l_pot) (defScope s_l_pot) .none kV_l_pot dc_l_pot pm_l_pot an_l_pot cd_l_pot ct_l_pot), sl_l_pot⟩)
    (c_l_pot : PySem.W.codeIn K cd_l_pot "_law_pot" = true)
    (k_l_pot : PySem.W.keepIn K (.ref f_l_pot) = true)
    (a_l_take : PySem.W.nsIn K mainGlobals "_law_take" = some (some (.ref f_l_take)))
    (l_l_take : K.lookup f_l_take = some ⟨oc_l_take, od_l_take, .func (PySem.W.fnOf "_law_take" "_law_take" (defArgs s_l_take) (defBody s_l_take) (defScope s_l_take) .none kV_l_take dc_l_take pm_l_take an_l_take cd_l_take ct_l_take), sl_l_take⟩)
    (c_l_take : PySem.W.codeIn K cd_l_take "_law_take" = true)
    (k_l_take : PySem.W.keepIn K (.ref f_l_take) = true)
    (a_l_of : PySem.W.nsIn K mainGlobals "_law_of" = some (some (.ref f_l_of)))
    (l_l_of : K.lookup f_l_of = some ⟨oc_l_of, od_l_of, .func (PySem.W.fnOf "_law_of" "_law_of" (defArgs s_l_of) (defBody s_l_of) (defScope s_l_of) .none kV_l_of dc_l_of pm_l_of an_l_of cd_l_of ct_l_of), sl_l_of⟩)
    (c_l_of : PySem.W.codeIn K cd_l_of "_law_of" = true)
    (k_l_of : PySem.W.keepIn K (.ref f_l_of) = true)
    (a_l_grid_power : PySem.W.nsIn K mainGlobals "_law_grid_power" = some (some (.ref f_l_grid_power)))
    (l_l_grid_power : K.lookup f_l_grid_power = some ⟨oc_l_grid_power, od_l_grid_power, .func (PySem.W.fnOf "_law_grid_power" "_law_grid_power" (defArgs s_l_grid_power) (defBody s_l_grid_power) (defScope s_l_grid_power) .none kV_l_grid_power dc_l_grid_power pm_l_grid_power an_l_grid_power cd_l_grid_power ct_l_grid_power), sl_l_grid_power⟩)
    (c_l_grid_power : PySem.W.codeIn K cd_l_grid_power "_law_grid_power" = true)
    (k_l_grid_power : PySem.W.keepIn K (.ref f_l_grid_power) = true)
    (a_l_grid_ladder : PySem.W.nsIn K mainGlobals "_law_grid_ladder" = some (some (.ref f_l_grid_ladder)))
    (l_l_grid_ladder : K.lookup f_l_grid_ladder = some ⟨oc_l_grid_ladder, od_l_grid_ladder, .func (PySem.W.fnOf "_law_grid_ladder" "_law_grid_ladder" (defArgs s_l_grid_ladder) (defBody s_l_grid_ladder) (defScope s_l_grid_ladder) .none kV_l_grid_ladder dc_l_grid_ladder pm_l_grid_ladder an_l_grid_ladder cd_l_grid_ladder ct_l_grid_ladder), sl_l_grid_ladder⟩)
    (c_l_grid_ladder : PySem.W.codeIn K cd_l_grid_ladder "_law_grid_ladder" = true)
    (k_l_grid_ladder : PySem.W.keepIn K (.ref f_l_grid_ladder) = true)
    (a_l_grid_spacing : PySem.W.nsIn K mainGlobals "_law_grid_spacing" = some (some (.ref f_l_grid_spacing)))
    (l_l_grid_spacing : K.lookup f_l_grid_spacing = some ⟨oc_l_grid_spacing, od_l_grid_spacing, .func (PySem.W.fnOf "_law_grid_spacing" "_law_grid_spacing" (defArgs s_l_grid_spacing) (defBody s_l_grid_spacing) (defScope s_l_grid_spacing) .none kV_l_grid_spacing dc_l_grid_spacing pm_l_grid_spacing an_l_grid_spacing cd_l_grid_spacing ct_l_grid_spacing), sl_l_grid_spacing⟩)
    (c_l_grid_spacing : PySem.W.codeIn K cd_l_grid_spacing "_law_grid_spacing" = true)
    (k_l_grid_spacing : PySem.W.keepIn K (.ref f_l_grid_spacing) = true)
    (a_l_grid_more : PySem.W.nsIn K mainGlobals "_law_grid_more" = some (some (.ref f_l_grid_more)))
    (l_l_grid_more : K.lookup f_l_grid_more = some ⟨oc_l_grid_more, od_l_grid_more, .func (PySem.W.fnOf "_law_grid_more" "_law_grid_more" (defArgs s_l_grid_more) (defBody s_l_grid_more) (defScope s_l_grid_more) .none kV_l_grid_more dc_l_grid_more pm_l_grid_more an_l_grid_more cd_l_grid_more ct_l_grid_more), sl_l_grid_more⟩)
    (c_l_grid_more : PySem.W.codeIn K cd_l_grid_more "_law_grid_more" = true)
    (k_l_grid_more : PySem.W.keepIn K (.ref f_l_grid_more) = true)
    (a_l_grid_greatest : PySem.W.nsIn K mainGlobals "_law_grid_greatest" = some (some (.ref f_l_grid_greatest)))
    (l_l_grid_greatest : K.lookup f_l_grid_greatest = some ⟨oc_l_grid_greatest, od_l_grid_greatest, .func (PySem.W.fnOf "_law_grid_greatest" "_law_grid_greatest" (defArgs s_l_grid_greatest) (defBody s_l_grid_greatest) (defScope s_l_grid_greatest) .none kV_l_grid_greatest dc_l_grid_greatest pm_l_grid_greatest an_l_grid_greatest cd_l_grid_greatest ct_l_grid_greatest), sl_l_grid_greatest⟩)
    (c_l_grid_greatest : PySem.W.codeIn K cd_l_grid_greatest "_law_grid_greatest" = true)
    (k_l_grid_greatest : PySem.W.keepIn K (.ref f_l_grid_greatest) = true)
    (a_l_grid_rounded : PySem.W.nsIn K mainGlobals "_law_grid_rounded" = some (some (.ref f_l_grid_rounded)))
    (l_l_grid_rounded : K.lookup f_l_grid_rounded = some ⟨oc_l_grid_rounded, od_l_grid_rounded, .func (PySem.W.fnOf "_law_grid_rounded" "_law_grid_rounded" (defArgs s_l_grid_rounded) (defBody s_l_grid_rounded) (defScope s_l_grid_rounded) .none kV_l_grid_rounded dc_l_grid_rounded pm_l_grid_rounded an_l_grid_rounded cd_l_grid_rounded ct_l_grid_rounded), sl_l_grid_rounded⟩)
    (c_l_grid_rounded : PySem.W.codeIn K cd_l_grid_rounded "_law_grid_rounded" = true)
    (k_l_grid_rounded : PySem.W.keepIn K (.ref f_l_grid_rounded) = true)
    (a_l_grid_a_number : PySem.W.nsIn K mainGlobals "_law_grid_a_number" = some (some (.ref f_l_grid_a_number)))
    (l_l_grid_a_number : K.lookup f_l_grid_a_number = some ⟨oc_l_grid_a_number, od_l_grid_a_number, .func (PySem.W.fnOf "_law_grid_a_number" "_law_grid_a_number" (defArgs s_l_grid_a_number) (defBody s_l_grid_a_number) (defScope s_l_grid_a_number) .none kV_l_grid_a_number dc_l_grid_a_number pm_l_grid_a_number an_l_grid_a_number cd_l_grid_a_number ct_l_grid_a_number), sl_l_grid_a_number⟩)
    (c_l_grid_a_number : PySem.W.codeIn K cd_l_grid_a_number "_law_grid_a_number" = true)
    (k_l_grid_a_number : PySem.W.keepIn K (.ref f_l_grid_a_number) = true)
    (a_l_cells : PySem.W.nsIn K mainGlobals "_law_cells" = some (some (.ref f_l_cells)))
    (l_l_cells : K.lookup f_l_cells = some ⟨oc_l_cells, od_l_cells, .func (PySem.W.fnOf "_law_cells" "_law_cells" (defArgs s_l_cells) (defBody s_l_cells) (defScope s_l_cells) .none kV_l_cells dc_l_cells pm_l_cells an_l_cells cd_l_cells ct_l_cells), sl_l_cells⟩)
    (c_l_cells : PySem.W.codeIn K cd_l_cells "_law_cells" = true)
    (k_l_cells : PySem.W.keepIn K (.ref f_l_cells) = true)
    (a_l_small : PySem.W.nsIn K mainGlobals "_law_small" = some (some (.ref f_l_small)))
    (l_l_small : K.lookup f_l_small = some ⟨oc_l_small, od_l_small, .func (PySem.W.fnOf "_law_small" "_law_small" (defArgs s_l_small) (defBody s_l_small) (defScope s_l_small) .none kV_l_small dc_l_small pm_l_small an_l_small cd_l_small ct_l_small), sl_l_small⟩)
    (c_l_small : PySem.W.codeIn K cd_l_small "_law_small" = true)
    (k_l_small : PySem.W.keepIn K (.ref f_l_small) = true)
    (a_l_sign : PySem.W.nsIn K mainGlobals "_law_sign" = some (some (.ref f_l_sign)))
    (l_l_sign : K.lookup f_l_sign = some ⟨oc_l_sign, od_l_sign, .func (PySem.W.fnOf "_law_sign" "_law_sign" (defArgs s_l_sign) (defBody s_l_sign) (defScope s_l_sign) .none kV_l_sign dc_l_sign pm_l_sign an_l_sign cd_l_sign ct_l_sign), sl_l_sign⟩)
    (c_l_sign : PySem.W.codeIn K cd_l_sign "_law_sign" = true)
    (k_l_sign : PySem.W.keepIn K (.ref f_l_sign) = true)
    (a_l_is_told_right : PySem.W.nsIn K mainGlobals "_law_is_told_right" = some (some (.ref f_l_is_told_right)))
    (l_l_is_told_right : K.lookup f_l_is_told_right = some ⟨oc_l_is_told_right, od_l_is_told_right, .func (PySem.W.fnOf "_law_is_told_right" "_law_is_told_right" (defArgs s_l_is_told_right) (defBody s_l_is_told_right) (defScope s_l_is_told_right) .none kV_l_is_told_right dc_l_is_told_right pm_l_is_told_right an_l_is_told_right cd_l_is_told_right ct_l_is_told_right), sl_l_is_told_right⟩)
    (c_l_is_told_right : PySem.W.codeIn K cd_l_is_told_right "_law_is_told_right" = true)
    (k_l_is_told_right : PySem.W.keepIn K (.ref f_l_is_told_right) = true)
    (a_l_are_crossed_right : PySem.W.nsIn K mainGlobals "_law_are_crossed_right" = some (some (.ref f_l_are_crossed_right)))
    (l_l_are_crossed_right : K.lookup f_l_are_crossed_right = some ⟨oc_l_are_crossed_right, od_l_are_crossed_right, .func (PySem.W.fnOf "_law_are_crossed_right" "_law_are_crossed_right" (defArgs s_l_are_crossed_right) (defBody s_l_are_crossed_right) (defScope s_l_are_crossed_right) .none kV_l_are_crossed_right dc_l_are_crossed_right pm_l_are_crossed_right an_l_are_crossed_right cd_l_are_crossed_right ct_l_are_crossed_right), sl_l_are_crossed_right⟩)
    (c_l_are_crossed_right : PySem.W.codeIn K cd_l_are_crossed_right "_law_are_crossed_right" = true)
    (k_l_are_crossed_right : PySem.W.keepIn K (.ref f_l_are_crossed_right) = true)
    (a_l_right : PySem.W.nsIn K mainGlobals "_law_right" = some (some (.ref f_l_right)))
    (l_l_right : K.lookup f_l_right = some ⟨oc_l_right, od_l_right, .func (PySem.W.fnOf "_law_right" "_law_right" (defArgs s_l_right) (defBody s_l_right) (defScope s_l_right) .none kV_l_right dc_l_right pm_l_right an_l_right cd_l_right ct_l_right), sl_l_right⟩)
    (c_l_right : PySem.W.codeIn K cd_l_right "_law_right" = true)
    (k_l_right : PySem.W.keepIn K (.ref f_l_right) = true)
    (a_law : PySem.W.nsIn K mainGlobals "law" = some (some (.ref f_law)))
    (l_law : K.lookup f_law = some ⟨oc_law, od_law, .func (PySem.W.fnOf "law" "law" (defArgs s_law) (defBody s_law) (defScope s_law) .none kV_law dc_law pm_law an_law cd_law ct_law), sl_law⟩)
    (c_law : PySem.W.codeIn K cd_law "law" = true)
    (k_law : PySem.W.keepIn K (.ref f_law) = true)
    (pg_Grid : PySem.W.plainGet K C_Grid Str.empty = true)
    (hd_Grid : PySem.W.hasDictIn K C_Grid = true)
    (po_Grid : PySem.W.plainOver K C_Grid = true)
    (sa_Grid : PySem.W.findIn K (.ref C_Grid) "__setattr__" = some (some (.builtin "object.__setattr__")))
    (mk_Grid : PySem.W.makesIn K C_Grid = true)
    (kc_Grid : PySem.W.keepIn K (.ref C_Grid) = true)
    (nf_Grid_base : PySem.W.findIn K (.ref C_Grid) "base" = some none)
    (nf_Grid_figures : PySem.W.findIn K (.ref C_Grid) "figures" = some none)
    (nf_Grid_reach : PySem.W.findIn K (.ref C_Grid) "reach" = some none)
    (nf_Grid_places : PySem.W.findIn K (.ref C_Grid) "places" = some none)
    (nf_Grid_unit : PySem.W.findIn K (.ref C_Grid) "unit" = some none)
    (nf_Grid_limits : PySem.W.findIn K (.ref C_Grid) "limits" = some none)
    (nf_Grid_tops : PySem.W.findIn K (.ref C_Grid) "tops" = some none)
    (nf_Grid_greatest : PySem.W.findIn K (.ref C_Grid) "greatest" = some none)
    (v_MOST_FIGURES : PySem.W.nsIn K mainGlobals "MOST_FIGURES" = some (some (.int 30 t_MOST_FIGURES)))
    (v_MOST_MORE : PySem.W.nsIn K mainGlobals "MOST_MORE" = some (some (.int 3 t_MOST_MORE)))
    (z_isinstance : PySem.W.nsIn K mainGlobals "isinstance" = some none)
    (z_int : PySem.W.nsIn K mainGlobals "int" = some none)
    (z_bool : PySem.W.nsIn K mainGlobals "bool" = some none)
    (z_range : PySem.W.nsIn K mainGlobals "range" = some none)
    (z_tuple : PySem.W.nsIn K mainGlobals "tuple" = some none)
    (z_list : PySem.W.nsIn K mainGlobals "list" = some none)
    (z_abs : PySem.W.nsIn K mainGlobals "abs" = some none)
    (z_sum : PySem.W.nsIn K mainGlobals "sum" = some none)
    (z_len : PySem.W.nsIn K mainGlobals "len" = some none)
    (z_all : PySem.W.nsIn K mainGlobals "all" = some none)
    (z_max : PySem.W.nsIn K mainGlobals "max" = some none)
    (z_min : PySem.W.nsIn K mainGlobals "min" = some none)
    (z_repr : PySem.W.nsIn K mainGlobals "repr" = some none)
    (z_zip : PySem.W.nsIn K mainGlobals "zip" = some none) :
    ∃ fd : FuncData, (∀ (s : Shared) (v : Value), BindsTo s fd ⟨[v], []⟩ [("script", v)]) ∧ ∀ base : Heap, K.In base → base.Ns mainGlobals mg → GOk l.prog w K mg base 8 fa fd ["script"] (spLaw K) := by
  have e := hfa.symm.trans (PySem.W.mg_of X G a_law)
  obtain rfl : f_law = fa := by cases e; rfl
  have F_is_whole := fun_mk (st := s_is_whole) l_is_whole c_is_whole k_is_whole
  have B_is_whole := F_is_whole.binds (ps := ["value"]) fun _ _ _ _ _ _ us hl => match us, hl with | [_], _ => rfl
  have F_is_from_to := fun_mk (st := s_is_from_to) l_is_from_to c_is_from_to k_is_from_to
  have B_is_from_to := F_is_from_to.binds (ps := ["value", "low", "high"]) fun _ _ _ _ _ _ us hl => match us, hl with | [_, _, _], _ => rfl
  have F_power := fun_mk (st := s_power) l_power c_power k_power
  have B_power := F_power.binds (ps := ["base", "exponent"]) fun _ _ _ _ _ _ us hl => match us, hl with | [_, _], _ => rfl
  have F_sign_of := fun_mk (st := s_sign_of) l_sign_of c_sign_of k_sign_of
  have B_sign_of := F_sign_of.binds (ps := ["number"]) fun _ _ _ _ _ _ us hl => match us, hl with | [_], _ => rfl
  have F_Grid_init := fun_mk (st := s_Grid_init) l_Grid_init c_Grid_init k_Grid_init
  have B_Grid_init := F_Grid_init.binds (ps := ["self", "base", "figures", "reach", "places"]) fun _ _ _ _ _ _ us hl => match us, hl with | [_, _, _, _, _], _ => rfl
  have F_Grid_contains := fun_mk (st := s_Grid_contains) l_Grid_contains c_Grid_contains k_Grid_contains
  have B_Grid_contains := F_Grid_contains.binds (ps := ["self", "value"]) fun _ _ _ _ _ _ us hl => match us, hl with | [_, _], _ => rfl
  have F_Grid_rank := fun_mk (st := s_Grid_rank) l_Grid_rank c_Grid_rank k_Grid_rank
  have B_Grid_rank := F_Grid_rank.binds (ps := ["self", "number"]) fun _ _ _ _ _ _ us hl => match us, hl with | [_, _], _ => rfl
  have F_Grid_number := fun_mk (st := s_Grid_number) l_Grid_number c_Grid_number k_Grid_number
  have B_Grid_number := F_Grid_number.binds (ps := ["self", "rank"]) fun _ _ _ _ _ _ us hl => match us, hl with | [_, _], _ => rfl
  have F_Grid_after := fun_mk (st := s_Grid_after) l_Grid_after c_Grid_after k_Grid_after
  have B_Grid_after := F_Grid_after.binds (ps := ["self", "number"]) fun _ _ _ _ _ _ us hl => match us, hl with | [_, _], _ => rfl
  have F_Grid_before := fun_mk (st := s_Grid_before) l_Grid_before c_Grid_before k_Grid_before
  have B_Grid_before := F_Grid_before.binds (ps := ["self", "number"]) fun _ _ _ _ _ _ us hl => match us, hl with | [_, _], _ => rfl
  have F_is_grid := fun_mk (st := s_is_grid) l_is_grid c_is_grid k_is_grid
  have B_is_grid := F_is_grid.binds (ps := ["told"]) fun _ _ _ _ _ _ us hl => match us, hl with | [_], _ => rfl
  have F_spacing_at := fun_mk (st := s_spacing_at) l_spacing_at c_spacing_at k_spacing_at
  have B_spacing_at := F_spacing_at.binds (ps := ["grid", "size", "more"]) fun _ _ _ _ _ _ us hl => match us, hl with | [_, _, _], _ => rfl
  have F_spans_below := fun_mk (st := s_spans_below) l_spans_below c_spans_below k_spans_below
  have B_spans_below := F_spans_below.binds (ps := ["grid", "spacing"]) fun _ _ _ _ _ _ us hl => match us, hl with | [_, _], _ => rfl
  have F_span_size := fun_mk (st := s_span_size) l_span_size c_span_size k_span_size
  have B_span_size := F_span_size.binds (ps := ["grid"]) fun _ _ _ _ _ _ us hl => match us, hl with | [_], _ => rfl
  have F_fitted := fun_mk (st := s_fitted) l_fitted c_fitted k_fitted
  have B_fitted := F_fitted.binds (ps := ["grid", "top", "bottom", "way", "more"]) fun _ _ _ _ _ _ us hl => match us, hl with | [_, _, _, _, _], _ => rfl
  have F_goes_up := fun_mk (st := s_goes_up) l_goes_up c_goes_up k_goes_up
  have B_goes_up := F_goes_up.binds (ps := ["below", "left", "step", "way"]) fun _ _ _ _ _ _ us hl => match us, hl with | [_, _, _, _], _ => rfl
  have F_renewed := fun_mk (st := s_renewed) l_renewed c_renewed k_renewed
  have B_renewed := F_renewed.binds (ps := ["grid", "worth"]) fun _ _ _ _ _ _ us hl => match us, hl with | [_, _], _ => rfl
  have F_cross_signs := fun_mk (st := s_cross_signs) l_cross_signs c_cross_signs k_cross_signs
  have B_cross_signs := F_cross_signs.binds (ps := ["grid", "four"]) fun _ _ _ _ _ _ us hl => match us, hl with | [_, _], _ => rfl
  have F_rounded_parts := fun_mk (st := s_rounded_parts) l_rounded_parts c_rounded_parts k_rounded_parts
  have B_rounded_parts := F_rounded_parts.binds (ps := ["grid", "worth"]) fun _ _ _ _ _ _ us hl => match us, hl with | [_, _], _ => rfl
  have F_is_numbers := fun_mk (st := s_is_numbers) l_is_numbers c_is_numbers k_is_numbers
  have B_is_numbers := F_is_numbers.binds (ps := ["grid", "value"]) fun _ _ _ _ _ _ us hl => match us, hl with | [_, _], _ => rfl
  have F_check_reached := fun_mk (st := s_check_reached) l_check_reached c_check_reached k_check_reached
  have B_check_reached := F_check_reached.binds (ps := ["grid", "worth"]) fun _ _ _ _ _ _ us hl => match us, hl with | [_, _], _ => rfl
  have F_l_pot := fun_mk (st := s_l_pot) l_l_pot c_l_pot k_l_pot
  have B_l_pot := F_l_pot.binds (ps := ["script", "place"]) fun _ _ _ _ _ _ us hl => match us, hl with | [_, _], _ => rfl
  have F_l_take := fun_mk (st := s_l_take) l_l_take c_l_take k_l_take
  have B_l_take := F_l_take.binds (ps := ["pot", "upto"]) fun _ _ _ _ _ _ us hl => match us, hl with | [_, _], _ => rfl
  have F_l_of := fun_mk (st := s_l_of) l_l_of c_l_of k_l_of
  have B_l_of := F_l_of.binds (ps := ["pot", "some"]) fun _ _ _ _ _ _ us hl => match us, hl with | [_, _], _ => rfl
  have F_l_grid_power := fun_mk (st := s_l_grid_power) l_l_grid_power c_l_grid_power k_l_grid_power
  have B_l_grid_power := F_l_grid_power.binds (ps := ["base", "many"]) fun _ _ _ _ _ _ us hl => match us, hl with | [_, _], _ => rfl
  have F_l_grid_ladder := fun_mk (st := s_l_grid_ladder) l_l_grid_ladder c_l_grid_ladder k_l_grid_ladder
  have B_l_grid_ladder := F_l_grid_ladder.binds (ps := ["grid"]) fun _ _ _ _ _ _ us hl => match us, hl with | [_], _ => rfl
  have F_l_grid_spacing := fun_mk (st := s_l_grid_spacing) l_l_grid_spacing c_l_grid_spacing k_l_grid_spacing
  have B_l_grid_spacing := F_l_grid_spacing.binds (ps := ["grid", "top", "bottom"]) fun _ _ _ _ _ _ us hl => match us, hl with | [_, _, _], _ => rfl
  have F_l_grid_more := fun_mk (st := s_l_grid_more) l_l_grid_more c_l_grid_more k_l_grid_more
  have B_l_grid_more := F_l_grid_more.binds (ps := ["grid", "more"]) fun _ _ _ _ _ _ us hl => match us, hl with | [_, _], _ => rfl
  have F_l_grid_greatest := fun_mk (st := s_l_grid_greatest) l_l_grid_greatest c_l_grid_greatest k_l_grid_greatest
  have B_l_grid_greatest := F_l_grid_greatest.binds (ps := ["grid"]) fun _ _ _ _ _ _ us hl => match us, hl with | [_], _ => rfl
  have F_l_grid_rounded := fun_mk (st := s_l_grid_rounded) l_l_grid_rounded c_l_grid_rounded k_l_grid_rounded
  have B_l_grid_rounded := F_l_grid_rounded.binds (ps := ["grid", "top", "bottom", "way", "more"]) fun _ _ _ _ _ _ us hl => match us, hl with | [_, _, _, _, _], _ => rfl
  have F_l_grid_a_number := fun_mk (st := s_l_grid_a_number) l_l_grid_a_number c_l_grid_a_number k_l_grid_a_number
  have B_l_grid_a_number := F_l_grid_a_number.binds (ps := ["pot", "grid"]) fun _ _ _ _ _ _ us hl => match us, hl with | [_, _], _ => rfl
  have F_l_cells := fun_mk (st := s_l_cells) l_l_cells c_l_cells k_l_cells
  have B_l_cells := F_l_cells.binds (ps := ["script", "most"]) fun _ _ _ _ _ _ us hl => match us, hl with | [_, _], _ => rfl
  have F_l_small := fun_mk (st := s_l_small) l_l_small c_l_small k_l_small
  have B_l_small := F_l_small.binds (ps := ["pot"]) fun _ _ _ _ _ _ us hl => match us, hl with | [_], _ => rfl
  have F_l_sign := fun_mk (st := s_l_sign) l_l_sign c_l_sign k_l_sign
  have B_l_sign := F_l_sign.binds (ps := ["number"]) fun _ _ _ _ _ _ us hl => match us, hl with | [_], _ => rfl
  have F_l_is_told_right := fun_mk (st := s_l_is_told_right) l_l_is_told_right c_l_is_told_right k_l_is_told_right
  have B_l_is_told_right := F_l_is_told_right.binds (ps := ["made", "grid", "worth"]) fun _ _ _ _ _ _ us hl => match us, hl with | [_, _, _], _ => rfl
  have F_l_are_crossed_right := fun_mk (st := s_l_are_crossed_right) l_l_are_crossed_right c_l_are_crossed_right k_l_are_crossed_right
  have B_l_are_crossed_right := F_l_are_crossed_right.binds (ps := ["made", "grid", "four"]) fun _ _ _ _ _ _ us hl => match us, hl with | [_, _, _], _ => rfl
  have F_l_right := fun_mk (st := s_l_right) l_l_right c_l_right k_l_right
  have B_l_right := F_l_right.binds (ps := ["pot"]) fun _ _ _ _ _ _ us hl => match us, hl with | [_], _ => rfl
  have F_law := fun_mk (st := s_law) l_law c_law k_law
  have B_law := F_law.binds (ps := ["script"]) fun _ _ _ _ _ _ us hl => match us, hl with | [_], _ => rfl
  have T : Txt K mg ⟨f_is_whole, _, f_is_from_to, _, f_power, _, f_sign_of, _, f_Grid_init, _, f_Grid_contains, _, f_Grid_rank, _, f_Grid_number, _, f_Grid_after, _, f_Grid_before, _, f_is_grid, _, f_spacing_at, _, f_spans_below, _, f_span_size, _, f_fitted, _, f_goes_up, _, f_renewed, _, f_cross_signs, _, f_rounded_parts, _, f_is_numbers, _, f_check_reached, _, f_l_pot, _, f_l_take, _, f_l_of, _, f_l_grid_power, _, f_l_grid_ladder, _, f_l_grid_spacing, _, f_l_grid_more, _, f_l_grid_greatest, _, f_l_grid_rounded, _, f_l_grid_a_number, _, f_l_cells, _, f_l_small, _, f_l_sign, _, f_l_is_told_right, _, f_l_are_crossed_right, _, f_l_right, _, f_law, _, C_Grid⟩ := {
    F_is_whole := F_is_whole
    B_is_whole := B_is_whole
    g_is_whole := PySem.W.mg_of X G a_is_whole
    k_is_whole := k_is_whole
    F_is_from_to := F_is_from_to
    B_is_from_to := B_is_from_to
    g_is_from_to := PySem.W.mg_of X G a_is_from_to
    k_is_from_to := k_is_from_to
    F_power := F_power
    B_power := B_power
    g_power := PySem.W.mg_of X G a_power
    k_power := k_power
    F_sign_of := F_sign_of
    B_sign_of := B_sign_of
    g_sign_of := PySem.W.mg_of X G a_sign_of
    k_sign_of := k_sign_of
    F_Grid_init := F_Grid_init
    B_Grid_init := B_Grid_init
    F_Grid_contains := F_Grid_contains
    B_Grid_contains := B_Grid_contains
    m_Grid_contains := ⟨a_Grid_contains, i_Grid_contains⟩
    F_Grid_rank := F_Grid_rank
    B_Grid_rank := B_Grid_rank
    m_Grid_rank := ⟨a_Grid_rank, i_Grid_rank, k_Grid_rank⟩
    F_Grid_number := F_Grid_number
    B_Grid_number := B_Grid_number
    m_Grid_number := ⟨a_Grid_number, i_Grid_number, k_Grid_number⟩
    F_Grid_after := F_Grid_after
    B_Grid_after := B_Grid_after
    m_Grid_after := ⟨a_Grid_after, i_Grid_after, k_Grid_after⟩
    F_Grid_before := F_Grid_before
    B_Grid_before := B_Grid_before
    m_Grid_before := ⟨a_Grid_before, i_Grid_before, k_Grid_before⟩
    F_is_grid := F_is_grid
    B_is_grid := B_is_grid
    g_is_grid := PySem.W.mg_of X G a_is_grid
    k_is_grid := k_is_grid
    F_spacing_at := F_spacing_at
    B_spacing_at := B_spacing_at
    g_spacing_at := PySem.W.mg_of X G a_spacing_at
    k_spacing_at := k_spacing_at
    F_spans_below := F_spans_below
    B_spans_below := B_spans_below
    g_spans_below := PySem.W.mg_of X G a_spans_below
    k_spans_below := k_spans_below
    F_span_size := F_span_size
    B_span_size := B_span_size
    g_span_size := PySem.W.mg_of X G a_span_size
    k_span_size := k_span_size
    F_fitted := F_fitted
    B_fitted := B_fitted
    g_fitted := PySem.W.mg_of X G a_fitted
    k_fitted := k_fitted
    F_goes_up := F_goes_up
    B_goes_up := B_goes_up
    g_goes_up := PySem.W.mg_of X G a_goes_up
    k_goes_up := k_goes_up
    F_renewed := F_renewed
    B_renewed := B_renewed
    g_renewed := PySem.W.mg_of X G a_renewed
    k_renewed := k_renewed
    F_cross_signs := F_cross_signs
    B_cross_signs := B_cross_signs
    g_cross_signs := PySem.W.mg_of X G a_cross_signs
    k_cross_signs := k_cross_signs
    F_rounded_parts := F_rounded_parts
    B_rounded_parts := B_rounded_parts
    g_rounded_parts := PySem.W.mg_of X G a_rounded_parts
    k_rounded_parts := k_rounded_parts
    F_is_numbers := F_is_numbers
    B_is_numbers := B_is_numbers
    g_is_numbers := PySem.W.mg_of X G a_is_numbers
    k_is_numbers := k_is_numbers
    F_check_reached := F_check_reached
    B_check_reached := B_check_reached
    g_check_reached := PySem.W.mg_of X G a_check_reached
    k_check_reached := k_check_reached
    F_l_pot := F_l_pot
    B_l_pot := B_l_pot
    g_l_pot := PySem.W.mg_of X G a_l_pot
    k_l_pot := k_l_pot
    F_l_take := F_l_take
    B_l_take := B_l_take
    g_l_take := PySem.W.mg_of X G a_l_take
    k_l_take := k_l_take
    F_l_of := F_l_of
    B_l_of := B_l_of
    g_l_of := PySem.W.mg_of X G a_l_of
    k_l_of := k_l_of
    F_l_grid_power := F_l_grid_power
    B_l_grid_power := B_l_grid_power
    g_l_grid_power := PySem.W.mg_of X G a_l_grid_power
    k_l_grid_power := k_l_grid_power
    F_l_grid_ladder := F_l_grid_ladder
    B_l_grid_ladder := B_l_grid_ladder
    g_l_grid_ladder := PySem.W.mg_of X G a_l_grid_ladder
    k_l_grid_ladder := k_l_grid_ladder
    F_l_grid_spacing := F_l_grid_spacing
    B_l_grid_spacing := B_l_grid_spacing
    g_l_grid_spacing := PySem.W.mg_of X G a_l_grid_spacing
    k_l_grid_spacing := k_l_grid_spacing
    F_l_grid_more := F_l_grid_more
    B_l_grid_more := B_l_grid_more
    g_l_grid_more := PySem.W.mg_of X G a_l_grid_more
    k_l_grid_more := k_l_grid_more
    F_l_grid_greatest := F_l_grid_greatest
    B_l_grid_greatest := B_l_grid_greatest
    g_l_grid_greatest := PySem.W.mg_of X G a_l_grid_greatest
    k_l_grid_greatest := k_l_grid_greatest
    F_l_grid_rounded := F_l_grid_rounded
    B_l_grid_rounded := B_l_grid_rounded
    g_l_grid_rounded := PySem.W.mg_of X G a_l_grid_rounded
    k_l_grid_rounded := k_l_grid_rounded
    F_l_grid_a_number := F_l_grid_a_number
    B_l_grid_a_number := B_l_grid_a_number
    g_l_grid_a_number := PySem.W.mg_of X G a_l_grid_a_number
    k_l_grid_a_number := k_l_grid_a_number
    F_l_cells := F_l_cells
    B_l_cells := B_l_cells
    g_l_cells := PySem.W.mg_of X G a_l_cells
    k_l_cells := k_l_cells
    F_l_small := F_l_small
    B_l_small := B_l_small
    g_l_small := PySem.W.mg_of X G a_l_small
    k_l_small := k_l_small
    F_l_sign := F_l_sign
    B_l_sign := B_l_sign
    g_l_sign := PySem.W.mg_of X G a_l_sign
    k_l_sign := k_l_sign
    F_l_is_told_right := F_l_is_told_right
    B_l_is_told_right := B_l_is_told_right
    g_l_is_told_right := PySem.W.mg_of X G a_l_is_told_right
    k_l_is_told_right := k_l_is_told_right
    F_l_are_crossed_right := F_l_are_crossed_right
    B_l_are_crossed_right := B_l_are_crossed_right
    g_l_are_crossed_right := PySem.W.mg_of X G a_l_are_crossed_right
    k_l_are_crossed_right := k_l_are_crossed_right
    F_l_right := F_l_right
    B_l_right := B_l_right
    g_l_right := PySem.W.mg_of X G a_l_right
    k_l_right := k_l_right
    F_law := F_law
    B_law := B_law
    g_law := PySem.W.mg_of X G a_law
    k_law := k_law
    cl_Grid := ⟨pg_Grid, hd_Grid, po_Grid, sa_Grid⟩
    mk_Grid := ⟨mk_Grid, a_Grid_init, i_Grid_init, kc_Grid⟩
    g_Grid := PySem.W.mg_of X G aC_Grid
    f_Grid_base := nf_Grid_base
    f_Grid_figures := nf_Grid_figures
    f_Grid_reach := nf_Grid_reach
    f_Grid_places := nf_Grid_places
    f_Grid_unit := nf_Grid_unit
    f_Grid_limits := nf_Grid_limits
    f_Grid_tops := nf_Grid_tops
    f_Grid_greatest := nf_Grid_greatest
    c_MOST_FIGURES := ⟨_, PySem.W.mg_of X G v_MOST_FIGURES⟩
    c_MOST_MORE := ⟨_, PySem.W.mg_of X G v_MOST_MORE⟩
    n_isinstance := PySem.W.mg_none_of X G z_isinstance
    n_int := PySem.W.mg_none_of X G z_int
    n_bool := PySem.W.mg_none_of X G z_bool
    n_range := PySem.W.mg_none_of X G z_range
    n_tuple := PySem.W.mg_none_of X G z_tuple
    n_list := PySem.W.mg_none_of X G z_list
    n_abs := PySem.W.mg_none_of X G z_abs
    n_sum := PySem.W.mg_none_of X G z_sum
    n_len := PySem.W.mg_none_of X G z_len
    n_all := PySem.W.mg_none_of X G z_all
    n_max := PySem.W.mg_none_of X G z_max
    n_min := PySem.W.mg_none_of X G z_min
    n_repr := PySem.W.mg_none_of X G z_repr
    n_zip := PySem.W.mg_none_of X G z_zip }
  exact ⟨PySem.W.fnOf "law" "law" (defArgs s_law) (defBody s_law) (defScope s_law) .none kV_law dc_law pm_law an_law cd_law ct_law, fun s v => .of_eq rfl, fun base _ _ => ok_law T⟩
theorem walk {l : PySem.W.OpenLaw} {q : Program} {loose : List Str} {XP : (Str → Option Value) → Heap → Prop} {YP : World → Heap → Prop} {d : DefRec} {K : Params → PySem.W.Frag} (hn : l.most = some 63) (hdf : d.params.defaults = [])
    (hY : ∀ (w : World) (h : Heap), YP w h → (K w.params).In h)
    (F : ∀ (w : World) (mg : Str → Option Value) (fa : Addr) (h : Heap), (K w.params).In h → h.Ns mainGlobals mg → mg d.name = some (.ref fa) →
      ∃ fd : FuncData, (∀ (s : Shared) (u : Value), BindsTo s fd ⟨[u], []⟩ [("script", u)]) ∧ ∀ base : Heap, (K w.params).In base → base.Ns mainGlobals mg → GOk l.prog w (K w.params) mg base 8 fa fd ["script"] (spLaw (K w.params))) :
    PySem.W.WalkO q loose XP YP l.row.toRowW d [] (fun f vs => PySem.call f vs) :=
  My.walk_ofG (n := 63) (k := 8) (x := "script") (sp := fun w => spLaw (K w.params)) hn (by decide) hdf ⟨rfl, by decide, by decide⟩ hY F (fun _ _ a ns hl hS => ⟨a, ns, rfl, hS, hl, fun _ => rfl⟩)
end My
open PySem PySem.W PyProof.Rows
set_option maxRecDepth 100000 in
set_option maxHeartbeats 0 in
theorem PySem.Challenge.cw_roundedsteps_k80_whole_signs_of_rows_and_holds : PySem.Challenge.rw_roundedsteps_k80_whole_signs_of_rows_and.Holds := by
  w_on; o_law; k_head; (case hw => w_witness2)
  k_fill
  refine My.walk (l := PySem.Challenge.rw_roundedsteps_k80_whole_signs_of_rows_and) rfl rfl (fun w h Y => PySem.W.kIn_of Y) ?F
  case F =>
    intro w mg fa h KX G hmg
    refine' My.all_mk KX G hmg ?aC_Grid ?a_is_whole ?l_is_whole ?c_is_whole ?k_is_whole ?a_is_from_to ?l_is_from_to ?c_is_from_to ?k_is_from_to ?a_power ?l_power ?c_power ?k_power ?a_sign_of ?l_sign_of ?c_sign_of ?k_sign_of ?a_Grid_init ?i_Grid_init ?l_Grid_init ?c_Grid_init ?k_Grid_init ?a_Grid_contains ?i_Grid_contains ?l_Grid_contains ?c_Grid_contains ?k_Grid_contains ?a_Grid_rank ?i_Grid_rank ?l_Grid_rank ?c_Grid_rank ?k_Grid_rank ?a_Grid_number ?i_Grid_number ?l_Grid_number ?c_Grid_number ?k_Grid_number ?a_Grid_after ?i_Grid_after ?l_Grid_after ?c_Grid_after ?k_Grid_after ?a_Grid_before ?i_Grid_before ?l_Grid_before ?c_Grid_before ?k_Grid_before ?a_is_grid ?l_is_grid ?c_is_grid ?k_is_grid ?a_spacing_at ?l_spacing_at ?c_spacing_at ?k_spacing_at ?a_spans_below ?l_spans_below ?c_spans_below ?k_spans_below ?a_span_size ?l_span_size ?c_span_size ?k_span_size ?a_fitted ?l_fitted ?c_fitted ?k_fitted ?a_goes_up ?l_goes_up ?c_goes_up ?k_goes_up ?a_renewed ?l_renewed ?c_renewed ?k_renewed ?a_cross_signs ?l_cross_signs ?c_cross_signs ?k_cross_signs ?a_rounded_parts ?l_rounded_parts ?c_rounded_parts ?k_rounded_parts ?a_is_numbers ?l_is_numbers ?c_is_numbers ?k_is_numbers ?a_check_reached ?l_check_reached ?c_check_reached ?k_check_reached ?a_l_pot ?l_l_pot ?c_l_pot ?k_l_pot ?a_l_take ?l_l_take ?c_l_take ?k_l_take ?a_l_of ?l_l_of ?c_l_of ?k_l_of ?a_l_grid_power ?l_l_grid_power ?c_l_grid_power ?k_l_grid_power ?a_l_grid_ladder ?l_l_grid_ladder ?c_l_grid_ladder ?k_l_grid_ladder ?a_l_grid_spacing ?l_l_grid_spacing ?c_l_grid_spacing ?k_l_grid_spacing ?a_l_grid_more ?l_l_grid_more ?c_l_grid_more ?k_l_grid_more ?a_l_grid_greatest ?l_l_grid_greatest ?c_l_grid_greatest ?k_l_grid_greatest ?a_l_grid_rounded ?l_l_grid_rounded ?c_l_grid_rounded ?k_l_grid_rounded ?a_l_grid_a_number ?l_l_grid_a_number ?c_l_grid_a_number ?k_l_grid_a_number ?a_l_cells ?l_l_cells ?c_l_cells ?k_l_cells ?a_l_small ?l_l_small ?c_l_small ?k_l_small ?a_l_sign ?l_l_sign ?c_l_sign ?k_l_sign ?a_l_is_told_right ?l_l_is_told_right ?c_l_is_told_right ?k_l_is_told_right ?a_l_are_crossed_right ?l_l_are_crossed_right ?c_l_are_crossed_right ?k_l_are_crossed_right ?a_l_right ?l_l_right ?c_l_right ?k_l_right ?a_law ?l_law ?c_law ?k_law ?pg_Grid ?hd_Grid ?po_Grid ?sa_Grid ?mk_Grid ?kc_Grid ?nf_Grid_base ?nf_Grid_figures ?nf_Grid_reach ?nf_Grid_places ?nf_Grid_unit ?nf_Grid_limits ?nf_Grid_tops ?nf_Grid_greatest ?v_MOST_FIGURES ?v_MOST_MORE ?z_isinstance ?z_int ?z_bool ?z_range ?z_tuple ?z_list ?z_abs ?z_sum ?z_len ?z_all ?z_max ?z_min ?z_repr ?z_zip
    (case aC_Grid => k_is)
    (case a_is_whole => k_is)
    (case l_is_whole => k_is)
    (case c_is_whole => k_is)
    (case k_is_whole => k_is)
    (case a_is_from_to => k_is)
    (case l_is_from_to => k_is)
    (case c_is_from_to => k_is)
    (case k_is_from_to => k_is)
    (case a_power => k_is)
    (case l_power => k_is)
    (case c_power => k_is)
    (case k_power => k_is)
    (case a_sign_of => k_is)
    (case l_sign_of => k_is)
    (case c_sign_of => k_is)
    (case k_sign_of => k_is)
    (case a_Grid_init => k_is)
    (case i_Grid_init => k_is)
    (case l_Grid_init => k_is)
    (case c_Grid_init => k_is)
    (case k_Grid_init => k_is)
    (case a_Grid_contains => k_is)
    (case i_Grid_contains => k_is)
    (case l_Grid_contains => k_is)
    (case c_Grid_contains => k_is)
    (case k_Grid_contains => k_is)
    (case a_Grid_rank => k_is)
    (case i_Grid_rank => k_is)
    (case l_Grid_rank => k_is)
    (case c_Grid_rank => k_is)
    (case k_Grid_rank => k_is)
    (case a_Grid_number => k_is)
    (case i_Grid_number => k_is)
    (case l_Grid_number => k_is)
    (case c_Grid_number => k_is)
    (case k_Grid_number => k_is)
    (case a_Grid_after => k_is)
    (case i_Grid_after => k_is)
    (case l_Grid_after => k_is)
    (case c_Grid_after => k_is)
    (case k_Grid_after => k_is)
    (case a_Grid_before => k_is)
    (case i_Grid_before => k_is)
    (case l_Grid_before => k_is)
    (case c_Grid_before => k_is)
    (case k_Grid_before => k_is)
    (case a_is_grid => k_is)
    (case l_is_grid => k_is)
    (case c_is_grid => k_is)
    (case k_is_grid => k_is)
    (case a_spacing_at => k_is)
    (case l_spacing_at => k_is)
    (case c_spacing_at => k_is)
    (case k_spacing_at => k_is)
    (case a_spans_below => k_is)
    (case l_spans_below => k_is)
    (case c_spans_below => k_is)
    (case k_spans_below => k_is)
    (case a_span_size => k_is)
    (case l_span_size => k_is)
    (case c_span_size => k_is)
    (case k_span_size => k_is)
    (case a_fitted => k_is)
    (case l_fitted => k_is)
    (case c_fitted => k_is)
    (case k_fitted => k_is)
    (case a_goes_up => k_is)
    (case l_goes_up => k_is)
    (case c_goes_up => k_is)
    (case k_goes_up => k_is)
    (case a_renewed => k_is)
    (case l_renewed => k_is)
    (case c_renewed => k_is)
    (case k_renewed => k_is)
    (case a_cross_signs => k_is)
    (case l_cross_signs => k_is)
    (case c_cross_signs => k_is)
    (case k_cross_signs => k_is)
    (case a_rounded_parts => k_is)
    (case l_rounded_parts => k_is)
    (case c_rounded_parts => k_is)
    (case k_rounded_parts => k_is)
    (case a_is_numbers => k_is)
    (case l_is_numbers => k_is)
    (case c_is_numbers => k_is)
    (case k_is_numbers => k_is)
    (case a_check_reached => k_is)
    (case l_check_reached => k_is)
    (case c_check_reached => k_is)
    (case k_check_reached => k_is)
    (case a_l_pot => k_is)
    (case l_l_pot => k_is)
    (case c_l_pot => k_is)
    (case k_l_pot => k_is)
    (case a_l_take => k_is)
    (case l_l_take => k_is)
    (case c_l_take => k_is)
    (case k_l_take => k_is)
    (case a_l_of => k_is)
    (case l_l_of => k_is)
    (case c_l_of => k_is)
    (case k_l_of => k_is)
    (case a_l_grid_power => k_is)
    (case l_l_grid_power => k_is)
    (case c_l_grid_power => k_is)
    (case k_l_grid_power => k_is)
    (case a_l_grid_ladder => k_is)
    (case l_l_grid_ladder => k_is)
    (case c_l_grid_ladder => k_is)
    (case k_l_grid_ladder => k_is)
    (case a_l_grid_spacing => k_is)
    (case l_l_grid_spacing => k_is)
    (case c_l_grid_spacing => k_is)
    (case k_l_grid_spacing => k_is)
    (case a_l_grid_more => k_is)
    (case l_l_grid_more => k_is)
    (case c_l_grid_more => k_is)
    (case k_l_grid_more => k_is)
    (case a_l_grid_greatest => k_is)
    (case l_l_grid_greatest => k_is)
    (case c_l_grid_greatest => k_is)
    (case k_l_grid_greatest => k_is)
    (case a_l_grid_rounded => k_is)
    (case l_l_grid_rounded => k_is)
    (case c_l_grid_rounded => k_is)
    (case k_l_grid_rounded => k_is)
    (case a_l_grid_a_number => k_is)
    (case l_l_grid_a_number => k_is)
    (case c_l_grid_a_number => k_is)
    (case k_l_grid_a_number => k_is)
    (case a_l_cells => k_is)
    (case l_l_cells => k_is)
    (case c_l_cells => k_is)
    (case k_l_cells => k_is)
    (case a_l_small => k_is)
    (case l_l_small => k_is)
    (case c_l_small => k_is)
    (case k_l_small => k_is)
    (case a_l_sign => k_is)
    (case l_l_sign => k_is)
    (case c_l_sign => k_is)
    (case k_l_sign => k_is)
    (case a_l_is_told_right => k_is)
    (case l_l_is_told_right => k_is)
    (case c_l_is_told_right => k_is)
    (case k_l_is_told_right => k_is)
    (case a_l_are_crossed_right => k_is)
    (case l_l_are_crossed_right => k_is)
    (case c_l_are_crossed_right => k_is)
    (case k_l_are_crossed_right => k_is)
    (case a_l_right => k_is)
    (case l_l_right => k_is)
    (case c_l_right => k_is)
    (case k_l_right => k_is)
    (case a_law => k_is)
    (case l_law => k_is)
    (case c_law => k_is)
    (case k_law => k_is)
    (case pg_Grid => k_is)
    (case hd_Grid => k_is)
    (case po_Grid => k_is)
    (case sa_Grid => k_is)
    (case mk_Grid => k_is)
    (case kc_Grid => k_is)
    (case nf_Grid_base => k_is)
    (case nf_Grid_figures => k_is)
    (case nf_Grid_reach => k_is)
    (case nf_Grid_places => k_is)
    (case nf_Grid_unit => k_is)
    (case nf_Grid_limits => k_is)
    (case nf_Grid_tops => k_is)
    (case nf_Grid_greatest => k_is)
    (case v_MOST_FIGURES => k_is)
    (case v_MOST_MORE => k_is)
    (case z_isinstance => k_is)
    (case z_int => k_is)
    (case z_bool => k_is)
    (case z_range => k_is)
    (case z_tuple => k_is)
    (case z_list => k_is)
    (case z_abs => k_is)
    (case z_sum => k_is)
    (case z_len => k_is)
    (case z_all => k_is)
    (case z_max => k_is)
    (case z_min => k_is)
    (case z_repr => k_is)
    (case z_zip => k_is)
#print axioms PySem.Challenge.cw_roundedsteps_k80_whole_signs_of_rows_and_holds

