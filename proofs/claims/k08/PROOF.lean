import PyProof.Rows.All
import Wide.All
import OpenK.AllK
import Wide.FinOn
import HandS.ForMost
import HandS.Wide
import HandS.IsInst
import HandS.TupLe
import HandS.Evl
import HandS.Conv
import HandS.Style
import HandS.CallLocal
import HandS.FStr
import HandS.Gcd
import HandS.Head2
import HandS.Head3
import HandS.HeadHook2
import HandS.ListItems
import HandS.MakeKwOnly
import HandS.OwnEq
import HandS.RaiseMore
import HandS.Set
import HandS.SetFor
import HandS.Small
import HandS.Sort
import HandS.SortInts
import HandS.Star
import HandS.StrMore
import HandS.Text
import HandS.TryOnly
import HandS.TupAny
import HandS.Walk
import HandS.Zip
import KE.GoesMore
import KE.KFmtOwn
import PyProof.EqKinds
import PyProof.InstEq
import PyProof.Rows.CountFlat
import PyProof.Rows.SortShellAny
import PySem.Challenge.RW_roundedsteps_k08_whole_programs_and_thei
set_option Elab.async false
set_option maxRecDepth 100000
set_option exponentiation.threshold 6000
set_option Elab.async false
set_option maxRecDepth 100000
namespace My
open PySem L2 PyProof.Rows
/-! ### rules of my own -/
section
variable {prog : Program} {w : World} {A : Around} {E : Value → Shared → Prop} {s : Shared} {l : Addr} {its : List Value} {ns : List Int} {xs : Array (Int × Tok)} {Q : Value → Shared → Prop}
theorem sum_intTupG (hh : A.handled = none) (hl : s.heap.IsTuple l (intItems xs))
    (h : ∀ h' tk t', (∀ b o, s.heap.get? b = some o → h'.get? b = some o) → Q (.int (preSum (numAt xs) xs.size) t') { s with heap := h', toks := tk }) :
    wpAny (model prog w) A (call (.builtin "sum") [.ref l]) Q E s := by
  have hlt : l < s.heap.objs.size := by
    obtain ⟨o, e, _⟩ := hl
    exact Heap.lt_size e
  refine call_sum_walkG (wpAny_pyIter_tuple hl ?_)
  refine ⟨_, [s.heap.objs.size, l], [s.heap.objs.size], _, _, _, numAt xs, rfl, Walks.tuple (A := A.in1) hh _ l (Nat.ne_of_lt hlt) (intItems xs), ⟨⟨_, Heap.get?_push_size _ rfl, rfl, rfl⟩, hl.push _⟩, fun c hc => ?_, (fun _ _ => intItems_at), fun h' tk t' hk => ?_⟩
  · show c < (s.heap.push _).objs.size
    rw [Heap.size_push]
    rcases List.mem_cons.mp hc with rfl | hc
    · exact Nat.lt_succ_self _
    · rcases List.mem_cons.mp hc with rfl | hc
      · exact Nat.lt_succ_of_lt hlt
      · cases hc
  · have hold : ∀ c o, s.heap.get? c = some o → h'.get? c = some o := fun c o e => by
      refine hk c o (fun hm => ?_) (Heap.get?_push_of_some _ e)
      rcases List.mem_cons.mp hm with e1 | hm
      · have := Heap.lt_size e; rw [e1] at this; exact Nat.lt_irrefl _ this
      · cases hm
    have := h h' tk t' hold
    simpa [intItems] using this
theorem sum_rawT (hh : A.handled = none) (hl : s.heap.IsTuple l its.toArray) (hi : IntsAre its ns)
    (h : ∀ h' tk t', (∀ b o, s.heap.get? b = some o → h'.get? b = some o) → Q (.int ns.sum t') { s with heap := h', toks := tk }) : wpAny (model prog w) A (call (.builtin "sum") [.ref l]) Q E s := by
  obtain ⟨xs, e⟩ := hi.allInts.items
  have hn : numsOf (intItems xs).toList = ns := by rw [← e]; exact hi.numsOf
  rw [nums_intItems] at hn
  rw [e] at hl
  refine sum_intTupG hh hl fun h' tk t' hk => ?_
  have := h h' tk t' hk
  rw [preSum_eq, List.take_of_length_le (by simp), hn]; exact this
end
section
variable {X : Cx}
def rSumT (K : PySem.W.Frag) : List V → Hp → VK → Prop := fun vs H Q => ∃ (a : Addr) (ns : List Int), vs = [V.ref a] ∧ SqT K H a (ns.map V.int) ∧ Q (.int ns.sum) H
theorem cr_sumT (hc : X.calm = true) : CallR X (.builtin "sum") (rSumT X.K) := by
  intro pins s σ H vs us Q I r h
  obtain ⟨a, ns, rfl, hs, q⟩ := h
  obtain ⟨its, rv, hl, _⟩ := I.tuple hs
  rw [Vals.ref1 r]
  exact sum_rawT (I.ok.hd hc) hl rv.ints fun h' tk t' hk => ⟨.int _, H, I.kept hk, ⟨_, rfl⟩, q⟩
def CPowK (i j : Int) : Prop := 0 ≤ j ∧ (Builtin.Int.intBits i : Int) * j ≤ 2 ^ 27
theorem op_powK : OpR X (binaryOp .Pow) (rI CPowK fun i j => .int (i ^ j.toNat)) := opI fun _ _ _ _ _ _ _ hc q => pow_int hc.1 hc.2 q

/-- x in o, o an instance of a class with its own __contains__ that hands back a bool -/
theorem contains_own {CX : CXT} {C f : Addr} {k : Nat} {fd : FuncData} {ps : List Str} {sp : Sp} {E : XK} (F : FnOk X.prog X.w X.K X.mg X.base CX k f fd ps sp) (hr : Room k X.A)
    (hs : PySem.W.findIn X.K (.ref C) "__contains__" = some (some (.ref f))) (hf : PySem.W.isFn X.K (.ref f) = true) (hb : L2.Binds X.K fd ps []) (hx : Passes CX X E)
    {pins : List (Addr × Obj)} {σ : L2.St} {H : Hp} {s : Shared} {a dx : Addr} {fs : List (Str × V)} {x : V} {u : Value} {Q : VK} {g : Bool → Bool} (I : Inv X pins σ H s) (rx : L2.RelV x u) (ha : H a = some (.ins C dx fs))
    (h : sp [.ref a, x] H (fun v H' => ∃ b, v = .bl b ∧ Q (.bl (g b)) H') E) :
    wpAny (model X.prog X.w) X.A (contains (.ref a) u) (fun b s' => EP X pins σ Q (.bool (g b)) s') X.xe s := by
  obtain ⟨mA, J, _⟩ := ins_get I.hok ha
  obtain ⟨od, J, _⟩ := J.look
  unfold contains
  refine wpAny_holding ?_
  rw [stdlibNamesSay?_ref]
  refine wpAny_bind (wpAny_bind (J.type.here ((PySem.W.looks_findIn I.kIn hs).here ?_)))
  show wpAny _ _ (if (some (Value.ref f) == some Value.none) = true then _ else _) _ _ _
  rw [if_neg (by simp)]
  refine wpAny_bind (m := callSpecialUnlessNone? (.ref a) (Str.ofString "__contains__") _ _) ?_
  unfold callSpecialUnlessNone?
  refine wpAny_bind (wpAny_bind (J.type.here ((PySem.W.looks_findIn I.kIn hs).here (wpAny_holding (wpAny_bind ((PySem.W.bind_fn I.kIn _ (beq_iff_eq.mp hf)).here ?_))))))
  show wpAny _ _ (if (Value.ref f == Value.none) = true then _ else _) _ _ _
  rw [if_neg (by simp)]
  have hsp := run_fn (us := [.ref a, u]) (vs := [.ref a, x]) F hr hb .nil hx I (.cons rfl (.cons rx .nil)) h
  refine wpAny_bind (wpAny_mono hsp (fun v s' hv => ?_) fun _ _ z => z)
  obtain ⟨y, H', I', ry, b, ey, q⟩ := hv
  subst ey
  cases ry
  exact wpAny_pure (wpAny_truthy_bool ⟨.bl (g b), H', I', rfl, q⟩)
def rInOwn (sp : Sp) (E : XK) (C : Addr) (neg : Bool) : R2 := fun x y H Q => ∃ a dx fs, y = .ref a ∧ H a = some (.ins C dx fs) ∧ sp [.ref a, x] H (fun v H' => ∃ b, v = .bl b ∧ Q (.bl (if neg then !b else b)) H') E
theorem op_inOwn {CX : CXT} {C f : Addr} {k : Nat} {fd : FuncData} {ps : List Str} {sp : Sp} {E : XK} (F : FnOk X.prog X.w X.K X.mg X.base CX k f fd ps sp) (hr : Room k X.A) (_c : Cls X.K C)
    (hm : PySem.W.findIn X.K (.ref C) "__contains__" = some (some (.ref f)) ∧ PySem.W.isFn X.K (.ref f) = true) (hb : L2.Binds X.K fd ps []) (hx : Passes CX X E) : OpR X (compareOp .In) (rInOwn sp E C false) := by
  intro pins s σ H x y u v Q I rx ry h
  obtain ⟨a, dx, fs, rfl, ha, q⟩ := h
  cases ry
  exact wpAny_bind (wpAny_mono (contains_own (g := fun b => b) F hr hm.1 hm.2 hb hx I rx ha q) (fun b s' hq => wpAny_pure hq) fun _ _ z => z)
theorem op_ninOwn {CX : CXT} {C f : Addr} {k : Nat} {fd : FuncData} {ps : List Str} {sp : Sp} {E : XK} (F : FnOk X.prog X.w X.K X.mg X.base CX k f fd ps sp) (hr : Room k X.A) (_c : Cls X.K C)
    (hm : PySem.W.findIn X.K (.ref C) "__contains__" = some (some (.ref f)) ∧ PySem.W.isFn X.K (.ref f) = true) (hb : L2.Binds X.K fd ps []) (hx : Passes CX X E) : OpR X (compareOp .NotIn) (rInOwn sp E C true) := by
  intro pins s σ H x y u v Q I rx ry h
  obtain ⟨a, dx, fs, rfl, ha, q⟩ := h
  cases ry
  exact wpAny_bind (wpAny_mono (contains_own (g := fun b => !b) F hr hm.1 hm.2 hb hx I rx ha q) (fun b s' hq => wpAny_pure hq) fun _ _ z => z)
end
end My

set_option Elab.async false
set_option maxRecDepth 100000
namespace My
open PySem L2 PyProof.Rows
/-! ### promises kept where no guard is around (repr of containers asks that) -/
section
variable {P : Program} {w : World} {K : PySem.W.Frag} {mg : Str → Option Value} {base : Heap}
structure GOk (P : Program) (w : World) (K : PySem.W.Frag) (mg : Str → Option Value) (base : Heap)
    (k : Nat) (f : Addr) (fd : FuncData) (ps : List Str) (sp : Sp) : Prop where
  len : ∀ vs H Q E, sp vs H Q E → vs.length = ps.length
  run : ∀ (A : Around) (out : List Env) (s : Shared) (H : Hp) (args : Args) (us : List Value)
    (vs : List V) (Q : VK) (E : XK), A.guards = some [] → Room k A →
    Env0 P w K mg base A out s H → BindsTo s fd args (ps.zip us) → Vals vs us → sp vs H Q E →
    codeAny (model P w) A (.call (.ref f) args) (CR CX0 out P w H s Q E) s
theorem FnOk.g {k : Nat} {f : Addr} {fd : FuncData} {ps : List Str} {sp : Sp}
    (F : FnOk P w K mg base CX0 k f fd ps sp) : GOk P w K mg base k f fd ps sp :=
  ⟨F.len, fun A out s H args us vs Q E _ => F.run A out s H args us vs Q E⟩
theorem GOk.mono {j k : Nat} {f : Addr} {fd : FuncData} {ps : List Str} {sp : Sp}
    (F : GOk P w K mg base j f fd ps sp) (h : j ≤ k) : GOk P w K mg base k f fd ps sp :=
  ⟨F.len, fun A out s H args us vs Q E g r => F.run A out s H args us vs Q E g (r.mono h)⟩
/-- a def by its body, the guards known -/
theorem okG {x qual : Str} {st : Stmt} {f : Addr} {fd : FuncData} {N ps : List Str} {k : Nat} {sp : Sp}
    (F : Fun K x qual st f fd) (S : FnScope N ps (defScope st)) (len : ∀ vs H Q E, sp vs H Q E → vs.length = ps.length)
    (body : ∀ (cdv : Value) (A : Around) (out : List Env) (s : Shared) (H : Hp) (vs : List V) (Q : VK) (E : XK),
      (A.deeper (envOfC qual (defScope st) s.heap.objs.size f cdv)).guards = some [] →
      Room k (A.deeper (envOfC qual (defScope st) s.heap.objs.size f cdv)) → sp vs H Q E →
      ∃ t, PSs (cxOf CX0 P w K mg base N qual (defScope st) f cdv A out s H E).nox (defBody st) t ∧
        t { nx := fun _ H' => Q .non H', rt := Q } (start N vs) H) :
    GOk P w K mg base (k + 1) f fd ps sp := by
  obtain ⟨oc, od, kV, doc, pm, an, cdv, ct, osl, rfl, lk, hcd⟩ := F.ex
  constructor
  · exact len
  intro A out s H args us vs Q E hG room e0 hb rv hsp
  have n1 := len _ _ _ _ hsp
  have inS : K.In s.heap := e0.mod.kin.keeps fun b o h => (e0.bs b o h).1
  have nolim : s.heap.NoLimit := e0.mod.nolimit.keeps fun b o h => (e0.bs b o h).1
  refine codeAny_call_function room.depth (inS _ _ lk) rfl S.co S.gen rfl (PySem.W.codeRec_of inS hcd) (hb _ _ _ _ ?_)
  refine wpAny_newFunctionEnv_cells S.kind ?_ fun env he s1 ic => ?_
  · rintro ⟨y, v⟩ hy
    cases S.par y (List.of_mem_zip hy).1 with
    | inl h => exact .inl h
    | inr h => exact .inr ⟨h, PySem.W.cellsFrom_some _ _ _ (.inl h)⟩
  cases he
  refine ⟨nolim.keeps ic.toInCall.keep, codeAny_func ?_⟩
  have hG2 : (A.deeper (envOfC qual (defScope st) s.heap.objs.size f cdv)).guards = some [] := hG
  obtain ⟨t, ht, hq⟩ := body cdv A out s H vs Q E hG2 (room.deeper _) hsp
  have I0 := inv_start (CX := CX0) (E := E) (qual := qual) (f := f) (cd := cdv) S room.hd e0 n1 rv ic
  refine wpAny_mono (ht.nox.run [] s1 (start N vs) H _ I0 hq) (fun fl s' hs => ?_) fun _ _ z => z
  cases fl with
  | ret u =>
    obtain ⟨v, σ', H', J, rv', q⟩ := hs
    exact ⟨v, H', J.os, J.bare, J.base, J.hok, rv', q⟩
  | next =>
    obtain ⟨σ', H', J, q⟩ := hs
    exact ⟨V.non, H', J.os, J.bare, J.base, J.hok, rfl, q⟩
  | brk =>
    obtain ⟨_, _, _, q⟩ := hs
    exact q.elim
  | cont =>
    obtain ⟨_, _, _, q⟩ := hs
    exact q.elim
end
section
variable {X : Cx} {k : Nat} {f : Addr} {fd : FuncData} {ps : List Str} {sp : Sp} {dvs : List V} {ds : List Value} {x : Str} {p pos : Pos} {e : Expr} {es : List Expr} {t : TA}
/-- f(..), f's promise wanting that no guard is around -/
theorem pe_callG (F : GOk X.prog X.w X.K X.mg X.base k f fd ps sp) (hG : X.A.guards = some []) (hr : Room k X.A)
    (hg : Gl X x) (hm : X.mg x = some (.ref f)) (hk : PySem.W.keepIn X.K (.ref f) = true)
    (hb : L2.Binds X.K fd ps ds) (hd : Vals dvs ds) (ha : PA X (e :: es) t)
    (hdb : (x == ("__debug__" : Str)) = false := by decide)
    (he : starEach (e :: es) X.env = (false, eval e X.env) :: starEach es X.env := by rfl)
    (hpl : (backTo pos (starEach es X.env)).any (·.1) = false := by rfl) :
    PE X (.Call (.Name x p) (e :: es) [] pos) (tCall sp dvs E0 t) := by
  constructor
  intro pins s σ H Q I h
  refine wpAny_Call_Name_kw (ld_glob I hg hm ?_ hdb)
  refine PySem.W.callWith_K (h₀ := X.base) I.ok.mod.kin hk ?_ he hpl
  refine thn (ha.run pos pins s σ H _ I h) ?_
  rintro us s1 ⟨vs, H1, I1, r, q⟩
  refine ⟨I1.kIn, ?_⟩
  have r2 : Vals (vs ++ dvs) (us ++ ds) := r.append hd
  have hl : (us ++ ds).length = ps.length := by rw [← r2.length]; exact F.len _ _ _ _ q
  refine wpAny_call (codeAny_mono (F.run X.A X.stack s1 H1 ⟨us, []⟩ _ _ Q E0 hG hr I1.env0 (hb s1 us I1.kIn hl) r2 q) ?_)
  intro r s' hq
  cases r with
  | error _ => exact (hq : False).elim
  | ok fl => cases fl <;> first | exact I1.after hq | exact (hq : False).elim
/-- repr of data -/
def rRepr (K : PySem.W.Frag) : List V → Hp → VK → Prop := fun vs H Q => ∃ x d, vs = [x] ∧ Dp K H x d ∧ d.showable = true ∧ d.hasDict = false ∧ d.depth ≤ 60 ∧ (∀ z, d ≠ .str z) ∧ d.shown.length ≤ sizeLine ∧ Q (.str d.shown) H
theorem cr_repr (hG : X.A.guards = some []) (hu : X.A.units + 64 < cLine) : CallR X (.builtin "repr") (rRepr X.K) := by
  intro pins s σ H vs us Q I r h
  obtain ⟨x, d, rfl, hd, hs, hn, hdep, hnz, hz, q⟩ := h
  cases r with
  | cons rx rt =>
    cases rt
    rename_i u
    obtain ⟨as, rd⟩ := Dp.reads I d x u hd rx
    cases hd with
    | int i =>
      obtain ⟨t, rfl⟩ := rx
      exact PySem.P.repr_of_int (of_decide_eq_true hs) ⟨.str _, H, I.tok _, ⟨_, rfl⟩, q⟩
    | lst h1 h2 =>
      cases rx
      exact repr_of_reads' rd hs (PyData.noDict_hsm hn) hG (by omega) (fun _ _ z => z) (fun h' t tk hk => ⟨.str _, H, I.kept hk, ⟨_, rfl⟩, q⟩) hz
    | tup h1 h2 =>
      cases rx
      exact repr_of_reads' rd hs (PyData.noDict_hsm hn) hG (by omega) (fun _ _ z => z) (fun h' t tk hk => ⟨.str _, H, I.kept hk, ⟨_, rfl⟩, q⟩) hz
    | non =>
      cases rx
      exact PySem.P.repr_of_none ⟨.str _, H, I.tok _, ⟨_, rfl⟩, q⟩
    | bl b =>
      cases rx
      exact PySem.P.repr_of_bool ⟨.str _, H, I.tok _, ⟨_, rfl⟩, q⟩
    | str z => exact absurd rfl (hnz z)
end
/-! ### the end of a law's row over such a promise -/
section
variable {P : Program} {w : World} {K : PySem.W.Frag} {mg mb : Str → Option Value} {k : Nat} {fa a : Addr}
  {fd : FuncData} {x : Str} {sp : Sp} {s₁ : Shared} {vs : List Value} {ns : List Int}
theorem law_at (KX : K.In s₁.heap) (hns : s₁.heap.Ns mainGlobals mg) (hb : s₁.heap.Ns builtinsNs mb)
    (hbb : ∀ x : Str, x ≠ "__name__" → mb x = bootBuiltins x) (hlim : s₁.heap.NoLimit) (hg : s₁.gens = #[])
    (ha : s₁.heap.get? a = some { cls := .type "list", data := .seq vs.toArray })
    (hl : ns.length ≤ sizeLine) (hr : Room k callerA) (rv : Vals (ns.map V.int) vs)
    (F : ∀ base : Heap, K.In base → base.Ns mainGlobals mg → GOk P w K mg base k fa fd [x] sp)
    (hbind : ∀ (s : Shared) (u : Value), BindsTo s fd ⟨[u], []⟩ [(x, u)])
    (H : Hp) (hS : SqL K H a (ns.map V.int)) (hok : HOk P w H s₁.heap) (hA : ∀ b, H b ≠ none → b = a)
    (hK : H a ≠ none → K.lookup a = none) (hz : ∀ b, H b = none ∨ ∃ o xs, H b = some (.frz o (.lst xs)))
    (hsp : sp [.ref a] H (fun v _ => v = .bl true) E0) :
    codeAny (model P w) callerA (.call (.ref fa) ⟨[.ref a], []⟩)
      (fun r s' => r = .ok (.ret (.bool true)) ∧ PySem.OldK s₁.heap s'.heap ∧ s'.os = s₁.os ∧ AllBare s'.gens) s₁ := by
  have free : ∀ {b : Addr} {o : Obj}, b ≠ a → s₁.heap.get? b = some o → (hidT s₁.heap H).get? b = some o := by
    intro b o hne hget
    refine hidT_get hget ?_
    by_cases q : H b = none
    · exact q
    · exact absurd (hA b q) hne
  have dicts : ∀ {b : Addr} {m : Str → Option Value}, s₁.heap.Ns b m → (hidT s₁.heap H).Ns b m := by
    rintro b m ⟨o, es, ep, hget, hd, hm⟩
    refine ⟨o, es, ep, free ?_ hget, hd, hm⟩
    rintro rfl
    rw [ha] at hget
    cases hget
    cases hd
  have kin : K.In (hidT s₁.heap H) := by
    intro b o hlk
    have hget := KX b o hlk
    by_cases q : H b = none
    · exact hidT_get hget q
    · have hba := hA b q
      subst hba
      rw [hK q] at hlk
      cases hlk
  have md : Mod K mg (hidT s₁.heap H) := by
    obtain ⟨mc, h1, h2⟩ := hlim
    exact ⟨kin, dicts hns, ⟨mb, dicts hb, hbb⟩, mc, dicts h1, h2⟩
  have e0 : Env0 P w K mg (hidT s₁.heap H) callerA [] s₁ H :=
    ⟨rfl, md, fun b o => of_hidT, Nat.le_of_eq (hidT_size _ _), trivial, nofun, hok, .of_eq hg⟩
  have gk := F _ kin (dicts hns)
  refine codeAny_mono (gk.run callerA [] s₁ H ⟨[.ref a], []⟩ [.ref a] [.ref a] _ E0 rfl hr e0 (hbind s₁ _) (.cons rfl .nil) hsp) ?_
  rintro (err | fl) s' h
  · exact (h : False).elim
  cases fl with
  | next => exact (h : False).elim
  | brk => exact (h : False).elim
  | cont => exact (h : False).elim
  | ret u =>
    obtain ⟨v, H', ho, hbare, un, hok', hu, hv⟩ := h
    have hv : v = .bl true := hv
    cases hv
    cases hu
    refine ⟨rfl, PySem.OldK.of_keep ?_, ho, hbare⟩
    intro b o hget
    rcases hz b with q | ⟨ob, xs, q⟩
    · exact un.keep b o hget q (fun z => nomatch z) (by simp)
    · obtain ⟨w1, _⟩ := hok b _ q
      obtain ⟨w2, _⟩ := hok' b _ (un.frzs b ob _ q)
      rw [hget] at w1
      cases w1
      exact w2
end
theorem walk_ofG {l : PySem.W.OpenLaw} {n k : Nat} {q : Program} {loose : List Str} {XP : (Str → Option Value) → Heap → Prop}
    {YP : World → Heap → Prop} {d : DefRec} {K : Params → PySem.W.Frag} {sp : World → Sp} {x : Str}
    (hn : l.most = some n) (hn2 : n ≤ sizeLine) (hdf : d.params.defaults = []) (hr : Room k callerA)
    (hY : ∀ (w : World) (h : Heap), YP w h → (K w.params).In h)
    (F : ∀ (w : World) (mg : Str → Option Value) (fa : Addr) (h : Heap), (K w.params).In h → h.Ns mainGlobals mg →
      mg d.name = some (.ref fa) → ∃ fd : FuncData, (∀ (s : Shared) (u : Value), BindsTo s fd ⟨[u], []⟩ [(x, u)]) ∧
        ∀ base : Heap, (K w.params).In base → base.Ns mainGlobals mg → GOk l.prog w (K w.params) mg base k fa fd [x] (sp w))
    (hsp : ∀ (w : World) (H : Hp) (a : Addr) (ns : List Int), ns.length ≤ n → SqL (K w.params) H a (ns.map V.int) →
      sp w [.ref a] H (fun v _ => v = .bl true) E0) :
    PySem.W.WalkO q loose XP YP l.row.toRowW d [] (fun f vs => PySem.call f vs) := by
  refine Att.attach_call hn hdf ?_
  intro w s₀ s₁ mg mb fa o pm cd doc a vs ns G Y ho hd hcd hmg hobj hints hlen hg
  have KX := hY w _ Y
  obtain ⟨fd, hb, hF⟩ := F w mg fa _ KX G.T.g hmg
  have rv := vals_ints hints
  have go := fun (H : Hp) hS hok hA hK hz => law_at (H := H) KX G.T.g G.T.b G.T.builtins G.T.nolimit hg hobj
    (Nat.le_trans hlen hn2) hr rv hF hb hS hok hA hK hz (hsp w H a ns hlen hS)
  have sz : vs.toArray.size ≤ sizeLine := by rw [List.size_toArray, hints.length]; exact Nat.le_trans hlen hn2
  cases hk : (K w.params).lookup a with
  | some ob =>
    have hob := KX a ob hk
    rw [hobj] at hob
    cases hob
    refine go (fun _ => none) (.inr ⟨_, vs.toArray, _, hk, rfl, rfl, rfl, sz, by simpa using rv⟩) (fun b u z => nomatch z) (fun b z => absurd rfl z) (fun z => absurd rfl z) (fun b => .inl rfl)
  | none =>
    refine go (fun b => if b = a then some (.frz { cls := .type "list", data := .seq vs.toArray } (.lst (ns.map V.int))) else none) (.inl (.inr ⟨_, if_pos rfl⟩)) ?_ ?_ (fun _ => hk) ?_
    · intro b u hbu
      by_cases e : b = a
      · subst e
        have hbu := (if_pos rfl).symm.trans hbu
        cases hbu
        exact ⟨hobj, by rw [List.length_map]; exact Nat.le_trans hlen hn2, vs, _, rv, hobj⟩
      · have hbu := (if_neg e).symm.trans hbu
        cases hbu
    · intro b hne
      by_cases e : b = a
      · exact e
      · exact absurd (if_neg e) hne
    · intro b
      by_cases e : b = a
      · exact .inr ⟨_, _, if_pos e⟩
      · exact .inl (if_neg e)
end My

set_option Elab.async false
set_option maxRecDepth 100000
namespace My
open PySem L2 PyProof.Rows
/-! ### the head, its facts as Bools over a part of the heap -/
namespace Hd
abbrev Fct : Type := PySem.W.Frag → Bool
def obsM (fa : List Fct) (fn : List He.DefD) (K : PySem.W.Frag) : He.AlD :=
  ((fa.all fun f => f K) && fn.all fun d => d.ok K, fn.map fun d => He.fnW K d.at_)
/-- what an object names -/
def kidsM (g : Addr → Option Obj) (a : Addr) : List Addr := match g a with
  | some o => He.refsO o
  | none => []
/-- what the module's names reach, level by level -/
def lvM (g : Addr → Option Obj) : Nat → List Addr → List Addr
  | 0, l => l
  | n + 1, l => l ++ lvM g n (l.flatMap (kidsM g))
def obsMG (n : Nat) (fa : List Fct) (fn : List He.DefD) (g : Addr → Option Obj) : He.AlD := obsM fa fn (He.frG g (lvM g n [mainGlobals]))
def SaysM (fa : List Fct) (fn : List He.DefD) (K : PySem.W.Frag) : Prop := obsM fa fn K = He.valD fn
def hookM (n : Nat) (fa : List Fct) (fn : List He.DefD) : PySem.W.Hook where
  α := He.AlD
  obs := fun s => obsMG n fa fn s.heap.get?
  val := fun _ => He.valD fn
  says := fun _ h => ∃ K : PySem.W.Frag, K.In h ∧ SaysM fa fn K
  of := fun _ _ e => ⟨_, He.frG_in, e⟩
  keeps := fun _ _ _ ⟨K, hK, c⟩ k => ⟨K, PySem.W.Frag.In.keeps hK k, c⟩
theorem obsMG_eq {n : Nat} {fa : List Fct} {fn : List He.DefD} {g : Addr → Option Obj} {s : Shared} (h : ∀ a, g a = s.heap.get? a) : obsMG n fa fn g = (hookM n fa fn).obs s := by
  have e : g = s.heap.get? := funext h
  rw [e] <;> rfl
section
variable {fa : List Fct} {fn : List He.DefD} {K : PySem.W.Frag}
theorem SaysM.fact (c : SaysM fa fn K) (i : Nat) {f : Fct} (h : fa[i]? = some f := by rfl) : f K = true := by
  have c1 := (He.ba (show ((fa.all fun f => f K) && fn.all fun d => d.ok K) = true from congrArg (fun z : He.AlD => z.1) c)).1
  exact List.all_eq_true.mp c1 f (List.mem_of_getElem? h)
theorem SaysM.def_ (c : SaysM fa fn K) (i : Nat) {d : He.DefD} (h : fn[i]? = some d := by rfl) : ∃ fd, FunD K d.name d.qual d.params d.body d.scope (d.dvs K) (d.kws K) (He.fAd K d.at_) fd := by
  have c2 := (He.ba (show ((fa.all fun f => f K) && fn.all fun d => d.ok K) = true from congrArg (fun z : He.AlD => z.1) c)).2
  have e : fn.map (fun d => He.fnW K d.at_) = fn.map He.DefD.val := congrArg (fun z : He.AlD => z.2) c
  have e2 : (fn.map fun d => He.fnW K d.at_)[i]? = (fn.map He.DefD.val)[i]? := by rw [e]
  rw [List.getElem?_map, List.getElem?_map, h] at e2
  exact He.DefD.funD (Option.some.inj e2) (List.all_eq_true.mp c2 d (List.mem_of_getElem? h))
end
def ck (l : List Fct) : Fct := fun K => l.all fun f => f K
theorem ck_at {l : List Fct} {K : PySem.W.Frag} (h : ck l K = true) (i : Nat) {f : Fct} (e : l[i]? = some f := by rfl) : f K = true := List.all_eq_true.mp h f (List.mem_of_getElem? e)
/-- the whole run's equation, from its two halves -/
theorem runI {r : PySem.W.OpenRow} {q : Program} {H : PySem.W.Hook} {ob : PySem.W.SharedT → H.α} {M : Nat} {loose : List PySem.Str} {w : World}
    (h1 : (HandSHeadRun.wholeF (fun p => HandSHeadRun.stepQ (HandSHeadRun.denQ HandSHeadRun.tabQ) p w) HandSHeadRun.fenceQ M r.prog).map (fun x => (HandSHeadRun.looksF r.prog x.1.heap x.2.abs, HandSHeadRun.seenQ q loose (importedModules r.prog.main.body) (fun s => PySem.W.xlAt q [] s && PySem.W.recOk r.toRowW.records s) x.2.abs)) = some (true, PySem.W.openGood q loose))
    (h2 : (HandSHeadRun.wholeF (fun p => HandSHeadRun.stepQ (HandSHeadRun.denQ HandSHeadRun.tabQ) p w) HandSHeadRun.fenceQ M r.prog).map (fun x => ob x.2) = some (H.val w)) : HandSHeadRun.RunEqI r q H ob M loose w := by
  unfold HandSHeadRun.RunEqI
  obtain ⟨x, e1, e2⟩ := Option.map_eq_some_iff.mp h1
  obtain ⟨y, e3, e4⟩ := Option.map_eq_some_iff.mp h2
  rw [e1] at e3
  cases e3
  rw [e1]
  obtain ⟨a1, a2⟩ := Prod.mk.inj e2
  exact congrArg some (Prod.ext a1 (Prod.ext a2 e4))
/-- a def of no default -/
def dn (p : Str × Option Str) (name qual : Str) (st : Stmt) : He.DefD := ⟨p, name, qual, defArgs st, defBody st, defScope st, [], []⟩
theorem fun_of {K : PySem.W.Frag} {x qual : Str} {st : Stmt} {f : Addr} {fd : FuncData} (F : FunD K x qual (defArgs st) (defBody st) (defScope st) [] [] f fd) : Fun K x qual st f fd := by
  obtain ⟨oc, od, dV, kV, doc, pm, an, cdv, ct, osl, e, l, c, hd, _⟩ := F.ex
  rcases hd with ⟨_, e2⟩ | ⟨e2, _⟩
  · subst e2
    exact ⟨⟨oc, od, kV, doc, pm, an, cdv, ct, osl, e, l, c⟩, F.kp⟩
  · exact absurd rfl e2
theorem SaysM.fn {fa : List Fct} {fn : List He.DefD} {K : PySem.W.Frag} (c : SaysM fa fn K) (i : Nat) {p : Str × Option Str} {x q : Str} {st : Stmt} (h : fn[i]? = some (dn p x q st) := by rfl) :
    ∃ fd, Fun K x q st (He.fAd K p) fd := by
  obtain ⟨fd, F⟩ := c.def_ i h
  exact ⟨fd, fun_of F⟩
/-- a name of the module that stands for a built-in -/
def bltB (x : Str) (v : String) : Fct := fun K => He.eqO (PySem.W.nsIn K mainGlobals x) (some (some (.builtin v)))
theorem blt_ok {K : PySem.W.Frag} {h : Heap} {mg : Str → Option Value} (X : K.In h) (G : h.Ns mainGlobals mg) {x : Str} {v : String} (c : bltB x v K = true) : mg x = some (.builtin v) := PySem.W.mg_of X G (He.eqO_ok c)
abbrev fc (f : He.Fa) : Fct := fun K => f.ok K
abbrev tp (x : Str) (vs : List Str) : Fct := fun K => He.tupB K x (vs.map He.Dv.str)
theorem tp_ok {K : PySem.W.Frag} {x : Str} {vs : List Str} (c : tp x vs K = true) (H : Hp) : SqT K H (He.ga K x) (vs.map V.str) := by
  have e := He.tupB_ok c H
  rw [List.map_map] at e
  exact e
theorem bindsAll {K : PySem.W.Frag} {x qual : Str} {st : Stmt} {f : Addr} {fd : FuncData} {ps : List Str} (F : Fun K x qual st f fd)
    (h : ∀ (kV doc pm : Value) (an : Option Addr) (cdv ct : Value) (us : List Value), us.length = ps.length → bindArgs (PySem.W.fnOf x qual (defArgs st) (defBody st) (defScope st) .none kV doc pm an cdv ct) ⟨us, []⟩ = pure (ps.zip us))
    (s : Shared) (us : List Value) (hl : us.length = ps.length) : BindsTo s fd ⟨us, []⟩ (ps.zip us) := by
  obtain ⟨oc, od, kV, doc, pm, an, cdv, ct, osl, rfl, lk, hcd⟩ := F.ex
  exact .of_eq (h kV doc pm an cdv ct us hl)
end Hd
theorem walk_ofGE {l : PySem.W.OpenLaw} {n k : Nat} {q : Program} {loose : List Str} {XP : (Str → Option Value) → Heap → Prop}
    {YP : World → Heap → Prop} {d : DefRec} {x : Str}
    (hn : l.most = some n) (hn2 : n ≤ sizeLine) (hdf : d.params.defaults = []) (hr : Room k callerA)
    (F : ∀ (w : World) (mg : Str → Option Value) (fa : Addr) (h : Heap), YP w h → h.Ns mainGlobals mg →
      mg d.name = some (.ref fa) → ∃ (K : PySem.W.Frag) (fd : FuncData) (sp : Sp), K.In h ∧ (∀ (s : Shared) (u : Value), BindsTo s fd ⟨[u], []⟩ [(x, u)]) ∧
        (∀ (H : Hp) (a : Addr) (ns : List Int), ns.length ≤ n → SqL K H a (ns.map V.int) → sp [.ref a] H (fun v _ => v = .bl true) E0) ∧
        ∀ base : Heap, K.In base → base.Ns mainGlobals mg → GOk l.prog w K mg base k fa fd [x] sp) :
    PySem.W.WalkO q loose XP YP l.row.toRowW d [] (fun f vs => PySem.call f vs) := by
  refine Att.attach_call hn hdf ?_
  intro w s₀ s₁ mg mb fa o pm cd doc a vs ns G Y ho hd hcd hmg hobj hints hlen hg
  obtain ⟨K, fd, sp, KX, hb, hsp, hF⟩ := F w mg fa _ Y G.T.g hmg
  have rv := vals_ints hints
  have go := fun (H : Hp) hS hok hA hK hz => law_at (H := H) KX G.T.g G.T.b G.T.builtins G.T.nolimit hg hobj
    (Nat.le_trans hlen hn2) hr rv hF hb hS hok hA hK hz (hsp H a ns hlen hS)
  have sz : vs.toArray.size ≤ sizeLine := by rw [List.size_toArray, hints.length]; exact Nat.le_trans hlen hn2
  cases hk : K.lookup a with
  | some ob =>
    have hob := KX a ob hk
    rw [hobj] at hob
    cases hob
    refine go (fun _ => none) (.inr ⟨_, vs.toArray, _, hk, rfl, rfl, rfl, sz, by simpa using rv⟩) (fun b u z => nomatch z) (fun b z => absurd rfl z) (fun z => absurd rfl z) (fun b => .inl rfl)
  | none =>
    refine go (fun b => if b = a then some (.frz { cls := .type "list", data := .seq vs.toArray } (.lst (ns.map V.int))) else none) (.inl (.inr ⟨_, if_pos rfl⟩)) ?_ ?_ (fun _ => hk) ?_
    · intro b u hbu
      by_cases e : b = a
      · subst e
        have hbu := (if_pos rfl).symm.trans hbu
        cases hbu
        exact ⟨hobj, by rw [List.length_map]; exact Nat.le_trans hlen hn2, vs, _, rv, hobj⟩
      · have hbu := (if_neg e).symm.trans hbu
        cases hbu
    · intro b hne
      by_cases e : b = a
      · exact e
      · exact absurd (if_neg e) hne
    · intro b
      by_cases e : b = a
      · exact .inr ⟨_, _, if_pos e⟩
      · exact .inl (if_neg e)
end My

set_option Elab.async false
set_option linter.all false
set_option maxRecDepth 100000
set_option maxHeartbeats 2000000
namespace My
open PySem PySem.Spec PyProof.Rows L2
/-! ### own __eq__ and __len__: ==, != and len of an instance; isinstance by its class -/
structure EqC (K : PySem.W.Frag) (C : Addr) : Prop where
  at_ : PySem.W.findIn K (.ref C) "__class__" = some (some (.builtin "object.__class__"))
  sp : PySem.W.specialIn K (.builtin "object.__class__") "__get__" = some (some (.builtin "getset_descriptor.__get__"))
  tk : PySem.W.takesIn K (.builtin "object.__class__") = some true
  ob : PySem.W.mroIn K C (.type "object") = some true
  ne : PySem.W.findIn K (.ref C) "__ne__" = some (some (.builtin "object.__ne__"))
  cl : ((PySem.W.clsIn K C).isSome && PySem.W.typeIn K (.ref C) == some (.type "type")) = true
  no : ∀ T ∈ ["str", "NoneType", "tuple", "int", "bool", "list", "dict"], PySem.W.subIn K (.type T) (.ref C) = some false
def eqB (K : PySem.W.Frag) (C : Addr) : Bool :=
  decide (PySem.W.findIn K (.ref C) "__class__" = some (some (.builtin "object.__class__"))) && (decide (PySem.W.specialIn K (.builtin "object.__class__") "__get__" = some (some (.builtin "getset_descriptor.__get__"))) && (decide (PySem.W.takesIn K (.builtin "object.__class__") = some true) && (
  decide (PySem.W.mroIn K C (.type "object") = some true) && (decide (PySem.W.findIn K (.ref C) "__ne__" = some (some (.builtin "object.__ne__"))) && (((PySem.W.clsIn K C).isSome && PySem.W.typeIn K (.ref C) == some (.type "type")) &&
  ["str", "NoneType", "tuple", "int", "bool", "list", "dict"].all fun T => decide (PySem.W.subIn K (.type T) (.ref C) = some false))))))
theorem eqB_ok {K : PySem.W.Frag} {C : Addr} (h : eqB K C = true) : EqC K C := by
  unfold eqB at h
  obtain ⟨h1, h⟩ := and_eq_true' h
  obtain ⟨h2, h⟩ := and_eq_true' h
  obtain ⟨h3, h⟩ := and_eq_true' h
  obtain ⟨h4, h⟩ := and_eq_true' h
  obtain ⟨h5, h⟩ := and_eq_true' h
  obtain ⟨h6, h⟩ := and_eq_true' h
  exact ⟨of_decide_eq_true h1, of_decide_eq_true h2, of_decide_eq_true h3, of_decide_eq_true h4, of_decide_eq_true h5, h6, fun T hT => of_decide_eq_true (List.all_eq_true.mp h T hT)⟩
where and_eq_true' {a b : Bool} (h : (a && b) = true) : a = true ∧ b = true := by cases a <;> cases b <;> first | exact ⟨rfl, rfl⟩ | cases h
section
variable {K : PySem.W.Frag} {C : Addr}
theorem EqC.kit (q : EqC K C) {T : String} (h : T ∈ ["str", "NoneType", "tuple", "int", "bool", "list", "dict"]) : PySem.W.kitOne K (.type T) (.ref C) = some false := by
  unfold PySem.W.kitOne
  rw [if_neg (by simp)]
  unfold PySem.W.kitCls
  simp only
  rw [if_pos q.cl]
  exact q.no T h
theorem kit_self : PySem.W.kitOne K (.ref C) (.ref C) = some true := by
  unfold PySem.W.kitOne
  rw [if_pos (by simp)]
theorem EqC.first (q : EqC K C) {T : String} (h : T ∈ ["str", "NoneType", "tuple", "int", "bool", "list", "dict"]) : PySem.W.notFirst K C (.type T) = true := by
  unfold PySem.W.notFirst
  rw [q.no T h]
  simp
theorem first_self : PySem.W.notFirst K C (.ref C) = true := by
  unfold PySem.W.notFirst
  simp
theorem EqC.ins (q : EqC K C) (cl : Cls K C) {H : Hp} {a dx : Addr} {fs : List (Str × V)} (e : H a = some (.ins C dx fs)) : TyX K H (.ref a) (.ref C) := .base (.ins e cl q.at_ q.sp q.tk q.ob)
end
section
variable {X : Cx} {pins : List (Addr × Obj)} {σ : L2.St} {H : Hp} {s : Shared}
theorem run_sub {CX : CXT} {f : Addr} {k : Nat} {fd : FuncData} {ps : List Str} {sp : Sp} {E : XK} {A : Around} (F : FnOk X.prog X.w X.K X.mg X.base CX k f fd ps sp) (sb : Sub X k A) (hb : L2.Binds X.K fd ps []) (hx : Passes CX X E)
    {xs : List V} {us : List Value} {Q : VK} (I : Inv X pins σ H s) (r2 : Vals xs us) (h : sp xs H Q E) : wpAny (model X.prog X.w) A (call (.ref f) us) (EP X pins σ Q) X.xe s := by
  have e0 : Env0 X.prog X.w X.K X.mg X.base A X.stack s H := by
    have e := I.env0
    exact ⟨by rw [sb.fr]; exact e.frames, e.mod, e.bs, e.bsz, e.funs, e.frf, e.hok, e.bare⟩
  have hl := F.len _ _ _ _ h
  refine wpAny_call (codeAny_mono (F.run A X.stack s H ⟨us, []⟩ us xs _ E sb.room e0 (by
    have := hb s us I.kIn (by simpa [← r2.length] using hl)
    simpa using this) r2 h) fun r s' hq => ?_)
  cases r with
  | error e => exact hx pins σ H s e s' I hq
  | ok fl =>
    cases fl with
    | ret w =>
      obtain ⟨z, H', I', rz, ez⟩ := I.after hq
      exact ⟨z, H', I', rz, ez⟩
    | next => exact False.elim hq
    | brk => exact False.elim hq
    | cont => exact False.elim hq
/-- x == y by the own __eq__ of x's class, y of any kind that does not come first -/
def rEqOwn (K : PySem.W.Frag) (sp : Sp) (E : XK) (C : Addr) (neg : Bool) : R2 := fun x y H Q => ∃ a dx fs tb, x = .ref a ∧ H a = some (.ins C dx fs) ∧ TyX K H y tb ∧ PySem.W.notFirst K C tb = true ∧ sp [.ref a, y] H (fun v H' => ∃ b, v = .bl b ∧ Q (.bl (if neg then !b else b)) H') E
theorem op_eqOwn {CX : CXT} {C f : Addr} {k : Nat} {fd : FuncData} {ps : List Str} {sp : Sp} {E : XK} (F : FnOk X.prog X.w X.K X.mg X.base CX k f fd ps sp) (hr : Room k X.A)
    (hm : PySem.W.findIn X.K (.ref C) "__eq__" = some (some (.ref f)) ∧ PySem.W.isFn X.K (.ref f) = true) (hb : L2.Binds X.K fd ps []) (hx : Passes CX X E) : OpR X (compareOp .Eq) (rEqOwn X.K sp E C false) := by
  intro pins s σ H x y u v Q I rx ry h
  obtain ⟨a, dx, fs, tb, rfl, ha, ty, hn, q⟩ := h
  cases rx
  obtain ⟨P, Z, p, _⟩ := kit_of I ry ty
  obtain ⟨mA, J, _⟩ := ins_get I.hok ha
  obtain ⟨od, J, _⟩ := J.look
  obtain ⟨m, hF⟩ := I.fr
  show wpAny (model X.prog X.w) X.A (richCompare .Eq (.ref a) v) (EP X pins σ Q) X.xe s
  refine PySem.W.cmp_K (op := .Eq) (tb := tb) hr.units0 hF I.ok.mod.kin J (Z.ty _ _ I.kIn p) hn hm.1 hm.2 ?_
  refine wpAny_mono (run_sub (Q := fun v H' => ∃ b, v = .bl b ∧ Q (.bl b) H') F ⟨hr, rfl⟩ hb hx I (xs := [.ref a, y]) (us := [.ref a, v]) (.cons rfl (.cons ry .nil)) q) (fun r s' hv => ?_) fun _ _ z => z
  obtain ⟨y, H', I', ry, b, ey, q⟩ := hv
  subst ey
  cases ry
  exact ⟨.bl b, H', I', rfl, q⟩
theorem ne_slot : Slot "object" "__ne__" "object.__ne__" := Slot.of (T := "object") (name := "__ne__") (owner := "object") (n := "__ne__") (by rw [typeLookup_type, builtinLookup_eq_fast]; kernel_rfl) (by decide +kernel) (by decide +kernel) (by decide +kernel)
    (.inl (by decide +kernel)) (by rw [isSubtype_type]; kernel_rfl)
theorem ifBound_S {M : Model} {A : Around} {E : Value → Shared → Prop} {s : Shared} {K : PySem.W.Frag} {x C : Addr} {ox : Obj} {od : Option Obj} {name : Str} {id : String} {args : List Value} {Q : Option Value → Shared → Prop} (Z : K.In s.heap) (I : PySem.W.InstAt s.heap x ox C od) (hs : PySem.W.findIn K (.ref C) name = some (some (.builtin id)))
    (hb : ∀ self, bindSpecial (.builtin id) self = pure (.builtin id, [self])) (h : wpAny M A (call (.builtin id) (.ref x :: args)) (fun v => Q (some v)) E s) : wpAny M A (callSpecialIfBound? (.ref x) name args) Q E s := by
  simp only [callSpecialIfBound?, bindSpecialIfBound?]
  refine wpAny_holding (wpAny_bind (wpAny_bind (wpAny_bind (I.type.here ((PySem.W.looks_findIn Z hs).here ?_)))))
  refine wpAny_bind (wpAny_askSetting (wpAny_ite ?_))
  have fin : wpAny M A (call (.builtin id) ([.ref x] ++ args) >>= fun v => pure (some v)) Q E s := wpAny_bind (wpAny_mono h (fun v s' h' => wpAny_pure h') fun _ _ h' => h')
  split
  · exact wpAny_bind ((PySem.W.Looks.of_pure (hb _)).here (wpAny_pure (by exact fin)))
  · exact wpAny_tryCatch (wpAny_bind ((PySem.W.Looks.of_pure (hb _)).here (wpAny_pure (by exact fin))))
def BoolV (Q : Bool → Shared → Prop) (v : Value) (s' : Shared) : Prop := ∃ b, v = .bool b ∧ Q (!b) s'
theorem obj_ne {prog : Program} {w : World} {A : Around} {E : Value → Shared → Prop} {s : Shared} {K : PySem.W.Frag} {x C f : Addr} {ox : Obj} {od : Option Obj} {b : Value} {Q : Value → Shared → Prop} (hu : A.in1.units < cLine) (Z : K.In s.heap) (I : PySem.W.InstAt s.heap x ox C od) (hm : PySem.W.mroIn K C (.type "object") = some true) (hr : PySem.W.findIn K (.ref C) "__eq__" = some (some (.ref f))) (hf : PySem.W.isFn K (.ref f) = true)
    (h : wpAny (model prog w) A.in1 (call (.ref f) [.ref x, b]) (fun v s' => ∃ r, v = .bool r ∧ Q (.bool (!r)) s') E s) : wpAny (model prog w) A (call (.builtin "object.__ne__") [.ref x, b]) Q E s := by
  refine wpAny_call (codeAny_call_builtin ne_slot.plain PySem.F.cmpEntry_ne (PySem.W.check_slot (i := "object.__ne__") (owner := "object") (n := "__ne__") PySem.F.cmpKind_ne PySem.F.cmpSplit_ne (I.type.andThen (PySem.W.looks_mroIn Z hm)) (PySem.F.cmpArgs_ne _ _) ?_))
  unfold Builtin.«object.__ne__»
  refine wpAny_bind (m := slotArgs "__ne__" 1 _) (wpAny_pure ?_)
  refine wpAny_bind (m := cRoomFor _ _) (wpAny_cRoomFor hu ?_)
  refine wpAny_bind (m := callSpecialIfBound? (.ref x) (Str.ofString "__eq__") _) (PySem.W.ifBound_K Z I hr hf (wpAny_mono h (fun r s' hq => ?_) fun _ _ y => y))
  obtain ⟨r, rfl, hq⟩ := hq
  refine wpAny_bind (m := truthy (.bool r)) (wpAny_truthy_bool ?_)
  exact wpAny_pure hq
theorem op_neOwn {CX : CXT} {C f : Addr} {k : Nat} {fd : FuncData} {ps : List Str} {sp : Sp} {E : XK} (F : FnOk X.prog X.w X.K X.mg X.base CX k f fd ps sp) (hr : Room (k + 1) X.A) (c : EqC X.K C)
    (hm : PySem.W.findIn X.K (.ref C) "__eq__" = some (some (.ref f)) ∧ PySem.W.isFn X.K (.ref f) = true) (hb : L2.Binds X.K fd ps []) (hx : Passes CX X E) : OpR X (compareOp .NotEq) (rEqOwn X.K sp E C true) := by
  intro pins s σ H x y u v Q I rx ry h
  obtain ⟨a, dx, fs, tb, rfl, ha, ty, hn, q⟩ := h
  cases rx
  obtain ⟨P, Z, p, _⟩ := kit_of I ry ty
  obtain ⟨mA, J, _⟩ := ins_get I.hok ha
  obtain ⟨od, J, _⟩ := J.look
  obtain ⟨m, hF⟩ := I.fr
  have B := Z.ty (model X.prog X.w) _ I.kIn p
  show wpAny (model X.prog X.w) X.A (richCompare .NotEq (.ref a) v) (EP X pins σ Q) X.xe s
  have one : wpAny (model X.prog X.w) X.A (tryCompare (.ref a) "__ne__" v) (fun r s' => ∃ v, r = some v ∧ EP X pins σ Q v s') X.xe s := by
    unfold tryCompare
    refine wpAny_bind (ifBound_S (id := "object.__ne__") I.kIn J c.ne ne_slot.bind (obj_ne hr.in1.units0 I.kIn J c.ob hm.1 hm.2 ?_))
    refine wpAny_mono (run_sub (Q := fun v H' => ∃ b, v = .bl b ∧ Q (.bl (!b)) H') F ⟨hr.in1, rfl⟩ hb hx I (xs := [.ref a, y]) (us := [.ref a, v]) (.cons rfl (.cons ry .nil)) q) (fun r s' hv => ?_) fun _ _ z => z
    obtain ⟨y, H', I', ry, b, ey, q⟩ := hv
    subst ey
    cases ry
    exact ⟨b, rfl, wpAny_pure ⟨_, rfl, .bl (!b), H', I', rfl, q⟩⟩
  unfold richCompare
  simp only [oneThing_ref]
  rw [cmpInfo_NotEq]
  dsimp only
  refine wpAny_holding (wpAny_bind (wpAny_cRoomFor hr.units0 ?_))
  refine wpAny_bind (J.type.here (wpAny_bind (B.here ?_)))
  split
  · rename_i q
    have e : PySem.W.subIn X.K tb (.ref C) = some false := by
      rcases Bool.or_eq_true_iff.mp hn with e | e
      · rw [beq_iff_eq.mp e] at q; simp at q
      · exact beq_iff_eq.mp e
    refine wpAny_bind ((PySem.W.looks_subIn I.kIn e).here ?_)
    simp only [Bool.false_eq_true, if_false]
    refine wpAny_bind (wpAny_mono one (fun r s' z => ?_) fun _ _ e => e)
    obtain ⟨v, rfl, hq⟩ := z
    exact wpAny_pure hq
  · refine wpAny_bind (wpAny_pure ?_)
    simp only [Bool.false_eq_true, if_false]
    refine wpAny_bind (wpAny_mono one (fun r s' z => ?_) fun _ _ e => e)
    obtain ⟨v, rfl, hq⟩ := z
    exact wpAny_pure hq
theorem kbn_text {x qual : Str} {st : Stmt} {f : Addr} {fd : FuncData} {K : PySem.W.Frag} {p q : Str} (F : Fun K x qual st f fd)
    (hb : ∀ (kV doc pm : Value) (an : Option Addr) (cdv ct : Value) (a b : Value), bindArgs (PySem.W.fnOf x qual (defArgs st) (defBody st) (defScope st) .none kV doc pm an cdv ct) ⟨[a], ([q] : List Str).zip [b]⟩ = pure (([p, q] : List Str).zip [a, b])) :
    KBn K fd [p, q] 1 [q] (fun us ws => us ++ ws) (fun vs zs => vs ++ zs) := by
  obtain ⟨oc, od, kV, doc, pm, an, cdv, ct, osl, rfl, lk, hcd⟩ := F.ex
  refine ⟨fun s us ws _ h1 h2 => ?_, fun {vs us zs ws} r1 r2 => r1.append r2⟩
  match us, ws, h1, h2 with
  | [a], [b], _, _ => exact .of_eq (hb kV doc pm an cdv ct a b)
/-- len(x) by the own __len__ -/
def rLenOwn (sp : Sp) (E : XK) (C : Addr) : List V → Hp → VK → Prop := fun xs H Q => ∃ a dx fs, xs = [.ref a] ∧ H a = some (.ins C dx fs) ∧ sp [.ref a] H (fun v H' => ∃ n : Nat, v = .int n ∧ n < 2 ^ 62 ∧ Q (.int n) H') E
theorem call_lenOwn {CX : CXT} {C f : Addr} {k : Nat} {fd : FuncData} {ps : List Str} {sp : Sp} {E : XK} (F : FnOk X.prog X.w X.K X.mg X.base CX k f fd ps sp) (hr : Room (k + 1) X.A)
    (hm : PySem.W.findIn X.K (.ref C) "__len__" = some (some (.ref f)) ∧ PySem.W.isFn X.K (.ref f) = true) (hb : L2.Binds X.K fd ps []) (hx : Passes CX X E) : CallR X (.builtin "len") (rLenOwn sp E C) := by
  intro pins s σ H xs us Q I r h
  obtain ⟨a, dx, fs, rfl, ha, q⟩ := h
  obtain rfl := Vals.ref1 r
  obtain ⟨mA, J, _⟩ := ins_get I.hok ha
  obtain ⟨od, J, _⟩ := J.look
  obtain ⟨m, hF⟩ := I.fr
  refine PySem.W.len_K hF I.ok.mod.kin J hm.1 hm.2 ?_
  refine wpAny_mono (run_sub (Q := fun v H' => ∃ n : Nat, v = .int n ∧ n < 2 ^ 62 ∧ Q (.int n) H') F ⟨hr.in1, rfl⟩ hb hx I (xs := [.ref a]) (.cons rfl .nil) q) (fun r s' hv => ?_) fun _ _ z => z
  obtain ⟨y, H', I', ry, n, ey, hn, q⟩ := hv
  subst ey
  obtain ⟨t, rfl⟩ := ry
  exact ⟨⟨Int.natCast_nonneg _, by omega⟩, .int n, H', I'.tok _, ⟨_, rfl⟩, q⟩
end
end My

set_option Elab.async false
set_option linter.all false
set_option maxRecDepth 100000
set_option maxHeartbeats 2000000
namespace My
open PySem PySem.Spec PyProof.Rows L2
open PySem.SeqAt
open AutoSeq1 (wpAny_loadPart')
open MeetsSeq MeetsSeq2 MeetsSeq3 SeqRoads2
theorem dict_eq_declines_str (l : Addr) (dd : Option Addr) (dt : Data) (sl : Array (Option Value)) (b : Str) (u : Tok) :
    Meets (Builtin.«dict.__eq__» ⟨[.ref l, .str b u], []⟩) (fun _ R s => s.heap.get? l = some { cls := .type "dict", dict := dd, data := dt, slots := sl } ∧ R (.ok (.ret .notImplemented)) s) :=
  .of_wp fun prog w A R s h => by obtain ⟨hp, g, d, tk, os⟩ := s; obtain ⟨hl, h⟩ := h; have f1 := F.sub_str_dict; wp_walk using wpAny_loadPart' hl; exact ⟨_, rfl, h⟩
theorem str_eq_declines_dict (b : Str) (u : Tok) (l : Addr) (c : Value) (dd : Option Addr) (es : Array DictEntry) (ep : Nat) (sl : Array (Option Value)) :
    Meets (Builtin.«str.__eq__» ⟨[.str b u, .ref l], []⟩) (fun _ R s => s.heap.get? l = some { cls := c, dict := dd, data := .dict es ep, slots := sl } ∧ R (.ok (.ret .notImplemented)) s) :=
  .of_wp fun prog w A R s h => by obtain ⟨hp, g, d, tk, os⟩ := s; obtain ⟨hl, h⟩ := h; wp_walk using wpAny_loadPart' hl, wpAny_load hl; exact ⟨_, rfl, h⟩
section
variable {A : Around} {s : Shared}
theorem RcAt.str_dict {l : Addr} {o : Obj} {es : Array DictEntry} {ep : Nat} (b : Str) (u : Tok) (hl : s.heap.get? l = some o) (hc : o.cls = .type "dict") (hd : o.data = .dict es ep) (hu : A.units < cLine) : RcAt A s (.str b u) (.ref l) false := fun prog w E Q h => by
  obtain ⟨cls, dd, data, sl⟩ := o
  simp only at hc hd
  subst hc hd
  exact rc_eq_decline_or (k := false) (typeIs_str s b u) ⟨_, hl, rfl⟩ (by decide) F.sub_dict_str F.slot_str_eq F.slot_dict_eq_refl
    (fun _ hq => call_meets F.slot_str_eq (typeIs_str s b u) F.entry_str_eq (F.args_str_eq_2 _ _) (str_eq_declines_dict b u l (.type "dict") dd es ep sl) ⟨hl, hq⟩)
    (fun _ hq => call_meets F.slot_dict_eq_refl ⟨_, hl, rfl⟩ F.entry_dict_eq (F.args_dict_eq_2 _ _) (dict_eq_declines_str l dd (.dict es ep) sl b u) ⟨hl, hq⟩)
    (fun _ hq => wpAny_of_eq (rfl : isSame (.str b u) (.ref l) = pure false) hq) (.inr hu) h
theorem EqAt.str_dict {l : Addr} {o : Obj} {es : Array DictEntry} {ep : Nat} (b : Str) (u : Tok) (hl : s.heap.get? l = some o) (hc : o.cls = .type "dict") (hd : o.data = .dict es ep) (hu : A.units < cLine) : EqAt A s (.str b u) (.ref l) false := fun prog w E Q h => by
  unfold eqBool
  refine wpAny_holding ?_
  refine wpAny_ite_split (fun hab => absurd (eq_of_beq hab) nofun) (fun _ => ?_)
  exact wpAny_bind (RcAt.str_dict b u hl hc hd hu prog w E _ (wpAny_truthy_bool h))
end
/-- a list, a tuple or a dict -/
def RefV (H : Hp) (x : V) : Prop := ∃ a, x = .ref a ∧ ((∃ xs, H a = some (.tup xs)) ∨ (∃ xs, H a = some (.lst xs)) ∨ ∃ kvs, H a = some (.dK kvs))
theorem RefV.ex {H H' : Hp} {x : V} (h : RefV H x) (e : ∀ a o, H a = some o → H' a = some o) : RefV H' x := by
  obtain ⟨a, rfl, ⟨xs, h⟩ | ⟨xs, h⟩ | ⟨xs, h⟩⟩ := h
  · exact ⟨a, rfl, .inl ⟨xs, e _ _ h⟩⟩
  · exact ⟨a, rfl, .inr (.inl ⟨xs, e _ _ h⟩)⟩
  · exact ⟨a, rfl, .inr (.inr ⟨xs, e _ _ h⟩)⟩
section
variable {X : Cx} {pins : List (Addr × Obj)} {σ : L2.St} {H : Hp} {s : Shared} {A : Around}
theorem RefV.eqAt {x : V} {v : Value} {b : Str} {u : Tok} (I : Inv X pins σ H s) (rx : RelV x v) (h : RefV H x) (hu : A.units < cLine) : EqAt A s (.str b u) v false := by
  obtain ⟨a, rfl, ⟨xs, h⟩ | ⟨xs, h⟩ | ⟨xs, h⟩⟩ := h
  · cases rx
    obtain ⟨its, r, hl, _⟩ := I.tuple (.inl (.inl h))
    exact EqAt.str_tuple b u hl hu
  · cases rx
    obtain ⟨its, r, pl, hz⟩ := I.list (.inl (.inl h))
    exact EqAt.str_list b u pl.isList hu
  · cases rx
    obtain ⟨_, _, vs, _, o, es, ep, h1, h2, h3, _⟩ := (show ObjOk X.prog X.w H s.heap a (.dK xs) from I.hok a _ h)
    exact EqAt.str_dict b u h1 h2.1 h3 hu
theorem RefV.notFlat {x : V} (h : RefV H x) : flatV x = false := by
  obtain ⟨a, rfl, _⟩ := h; rfl
end
/-- x of any kind in a list or tuple of texts -/
def rInS (K : PySem.W.Frag) : R2 := fun x y H Q => ∃ (p : Addr) (ss : List Str), y = .ref p ∧ (SqL K H p (ss.map V.str) ∨ SqT K H p (ss.map V.str)) ∧ ((flatV x = true ∧ Q (.bl (inV x (ss.map V.str))) H) ∨ (RefV H x ∧ Q (.bl false) H))
theorem op_inS {X : Cx} (hr : Room 1 X.A) : OpR X (compareOp .In) (rInS X.K) := by
  intro pins s σ H x y v u Q I rx ry h
  obtain ⟨p, ss, rfl, hq, ⟨fx, q⟩ | ⟨hx, q⟩⟩ := h
  · exact op_in_seq pins s σ H x _ v u Q I rx ry ⟨p, ss.map V.str, rfl, hq, fx, by rw [List.all_map]; exact List.all_eq_true.mpr fun _ _ => rfl, q⟩
  · have ex : ∀ (zs : List Str) (its : List Value), Vals (zs.map V.str) its → ∀ w ∈ its, EqAt X.A.in1 s w v false := by
      intro zs
      induction zs with
      | nil => intro its r; cases r; intro w hw; cases hw
      | cons z zs ih =>
        intro its r
        cases r with
        | cons r1 r2 =>
          intro w hw
          rcases List.mem_cons.mp hw with rfl | hw
          · obtain ⟨t, rfl⟩ := r1
            exact hx.eqAt I rx hr.in1.units0
          · exact ih _ r2 w hw
    have ea : ∀ its : Array Value, its.any (fun _ => false) = false := fun its => by simp
    cases ry
    rcases hq with hq | hq
    · obtain ⟨its, r, pl, hz⟩ := I.list hq
      refine SeqAt.in_listAt (fun _ => false) pl.isList (fun w hw => ex _ _ r w (by simpa using hw)) ⟨.bl _, H, I, rfl, ?_⟩
      rw [ea]
      exact q
    · obtain ⟨its, r, pl, hz⟩ := I.tuple hq
      refine SeqAt.in_tupleAt (fun _ => false) pl (fun w hw => ex _ _ r w (by simpa using hw)) ⟨.bl _, H, I, rfl, ?_⟩
      rw [ea]
      exact q
end My

set_option Elab.async false
set_option maxRecDepth 100000
namespace My
open PySem L2 Evl
def top (i : Nat) : Stmt := PySem.Challenge.pw_roundedsteps_k08_whole_programs_and_thei.main.body.getD i (.Pass ⟨0, 0, 0, 0⟩)
abbrev s_is_whole : Stmt := (top 9)
abbrev N_is_whole : List Str := ["value"]
theorem sc_is_whole : FnScope N_is_whole ["value"] (defScope s_is_whole) := ⟨rfl, rfl, rfl, by decide +kernel, rfl, by decide +kernel, by decide +kernel⟩
abbrev s_is_from_to : Stmt := (top 10)
abbrev N_is_from_to : List Str := ["value", "low", "high"]
theorem sc_is_from_to : FnScope N_is_from_to ["value", "low", "high"] (defScope s_is_from_to) := ⟨rfl, rfl, rfl, by decide +kernel, rfl, by decide +kernel, by decide +kernel⟩
abbrev s_power : Stmt := (top 11)
abbrev N_power : List Str := ["base", "exponent", "number", "_"]
theorem sc_power : FnScope N_power ["base", "exponent"] (defScope s_power) := ⟨rfl, rfl, rfl, by decide +kernel, rfl, by decide +kernel, by decide +kernel⟩
abbrev s_Grid_init : Stmt := (inClass (top 15) 0)
abbrev N_Grid_init : List Str := ["self", "base", "figures", "reach", "places", "told", "extra", "limit"]
theorem sc_Grid_init : FnScope N_Grid_init ["self", "base", "figures", "reach", "places"] (defScope s_Grid_init) := ⟨rfl, rfl, rfl, by decide +kernel, rfl, by decide +kernel, by decide +kernel⟩
abbrev s_Grid_contains : Stmt := (inClass (top 15) 2)
abbrev N_Grid_contains : List Str := ["self", "value"]
theorem sc_Grid_contains : FnScope N_Grid_contains ["self", "value"] (defScope s_Grid_contains) := ⟨rfl, rfl, rfl, by decide +kernel, rfl, by decide +kernel, by decide +kernel⟩
abbrev s_is_grid : Stmt := (top 16)
abbrev N_is_grid : List Str := ["told", "base", "figures", "reach", "places"]
theorem sc_is_grid : FnScope N_is_grid ["told"] (defScope s_is_grid) := ⟨rfl, rfl, rfl, by decide +kernel, rfl, by decide +kernel, by decide +kernel⟩
abbrev s_spacing_at : Stmt := (top 17)
abbrev N_spacing_at : List Str := ["grid", "size", "more", "spacing", "limit"]
theorem sc_spacing_at : FnScope N_spacing_at ["grid", "size", "more"] (defScope s_spacing_at) := ⟨rfl, rfl, rfl, by decide +kernel, rfl, by decide +kernel, by decide +kernel⟩
abbrev s_read_program : Stmt := (top 28)
abbrev N_read_program : List Str := ["text", "lines", "grid", "inputs", "names", "at", "steps", "told", "row", "step"]
theorem sc_read_program : FnScope N_read_program ["text"] (defScope s_read_program) := ⟨rfl, rfl, rfl, by decide +kernel, rfl, by decide +kernel, by decide +kernel⟩
abbrev s_read_grid : Stmt := (top 29)
abbrev N_read_grid : List Str := ["line", "words", "told", "word"]
theorem sc_read_grid : FnScope N_read_grid ["line"] (defScope s_read_grid) := ⟨rfl, rfl, rfl, by decide +kernel, rfl, by decide +kernel, by decide +kernel⟩
abbrev s_read_rows : Stmt := (top 30)
abbrev N_read_rows : List Str := ["read", "lines", "grid", "names", "rows", "line", "row", "ahead"]
theorem sc_read_rows : FnScope N_read_rows ["read", "lines", "grid", "names"] (defScope s_read_rows) := ⟨rfl, rfl, rfl, by decide +kernel, rfl, by decide +kernel, by decide +kernel⟩
abbrev s_read_input : Stmt := (top 31)
abbrev N_read_input : List Str := ["line", "grid", "names", "words", "low", "high"]
theorem sc_read_input : FnScope N_read_input ["line", "grid", "names"] (defScope s_read_input) := ⟨rfl, rfl, rfl, by decide +kernel, rfl, by decide +kernel, by decide +kernel⟩
abbrev s_read_step : Stmt := (top 32)
abbrev N_read_step : List Str := ["line", "grid", "names", "words", "form", "sign", "told", "more", "way", "operands", "word"]
theorem sc_read_step : FnScope N_read_step ["line", "grid", "names"] (defScope s_read_step) := ⟨rfl, rfl, rfl, by decide +kernel, rfl, by decide +kernel, by decide +kernel⟩
abbrev s_read_form : Stmt := (top 33)
abbrev N_read_form : List Str := ["words", "grid", "keeping"]
theorem sc_read_form : FnScope N_read_form ["words", "grid"] (defScope s_read_form) := ⟨rfl, rfl, rfl, by decide +kernel, rfl, by decide +kernel, by decide +kernel⟩
abbrev s_read_keeping : Stmt := (top 34)
abbrev N_read_keeping : List Str := ["words", "grid", "more", "way", "left"]
theorem sc_read_keeping : FnScope N_read_keeping ["words", "grid"] (defScope s_read_keeping) := ⟨rfl, rfl, rfl, by decide +kernel, rfl, by decide +kernel, by decide +kernel⟩
abbrev s_read_operand : Stmt := (top 35)
abbrev N_read_operand : List Str := ["word", "grid", "names", "number"]
theorem sc_read_operand : FnScope N_read_operand ["word", "grid", "names"] (defScope s_read_operand) := ⟨rfl, rfl, rfl, by decide +kernel, rfl, by decide +kernel, by decide +kernel⟩
abbrev s_read_tell : Stmt := (top 36)
abbrev N_read_tell : List Str := ["line", "names", "words", "told", "word"]
theorem sc_read_tell : FnScope N_read_tell ["line", "names"] (defScope s_read_tell) := ⟨rfl, rfl, rfl, by decide +kernel, rfl, by decide +kernel, by decide +kernel⟩
abbrev s_read_integer : Stmt := (top 37)
abbrev N_read_integer : List Str := ["word", "digits"]
theorem sc_read_integer : FnScope N_read_integer ["word"] (defScope s_read_integer) := ⟨rfl, rfl, rfl, by decide +kernel, rfl, by decide +kernel, by decide +kernel⟩
abbrev s_is_letters : Stmt := (top 38)
abbrev N_is_letters : List Str := ["word"]
theorem sc_is_letters : FnScope N_is_letters ["word"] (defScope s_is_letters) := ⟨rfl, rfl, rfl, by decide +kernel, rfl, by decide +kernel, by decide +kernel⟩
abbrev s_is_step_name : Stmt := (top 39)
abbrev N_is_step_name : List Str := ["word", "letters"]
theorem sc_is_step_name : FnScope N_is_step_name ["word"] (defScope s_is_step_name) := ⟨rfl, rfl, rfl, by decide +kernel, rfl, by decide +kernel, by decide +kernel⟩
abbrev s_is_new : Stmt := (top 40)
abbrev N_is_new : List Str := ["word", "names"]
theorem sc_is_new : FnScope N_is_new ["word", "names"] (defScope s_is_new) := ⟨rfl, rfl, rfl, by decide +kernel, rfl, by decide +kernel, by decide +kernel⟩
abbrev s_Program_init : Stmt := (inClass (top 42) 0)
abbrev N_Program_init : List Str := ["self", "text", "grid", "inputs", "steps", "told", "row", "step"]
theorem sc_Program_init : FnScope N_Program_init ["self", "text"] (defScope s_Program_init) := ⟨rfl, rfl, rfl, by decide +kernel, rfl, by decide +kernel, by decide +kernel⟩
abbrev s_Program_eq : Stmt := (inClass (top 42) 1)
abbrev N_Program_eq : List Str := ["self", "other"]
theorem sc_Program_eq : FnScope N_Program_eq ["self", "other"] (defScope s_Program_eq) := ⟨rfl, rfl, rfl, by decide +kernel, rfl, by decide +kernel, by decide +kernel⟩
abbrev s_Program_len : Stmt := (inClass (top 42) 2)
abbrev N_Program_len : List Str := ["self"]
theorem sc_Program_len : FnScope N_Program_len ["self"] (defScope s_Program_len) := ⟨rfl, rfl, rfl, by decide +kernel, rfl, by decide +kernel, by decide +kernel⟩
abbrev s_Program_contains : Stmt := (inClass (top 42) 3)
abbrev N_Program_contains : List Str := ["self", "value"]
theorem sc_Program_contains : FnScope N_Program_contains ["self", "value"] (defScope s_Program_contains) := ⟨rfl, rfl, rfl, by decide +kernel, rfl, by decide +kernel, by decide +kernel⟩
abbrev s_l_pot : Stmt := (top 44)
abbrev N_l_pot : List Str := ["script", "place", "cell", "own", "small"]
theorem sc_l_pot : FnScope N_l_pot ["script", "place"] (defScope s_l_pot) := ⟨rfl, rfl, rfl, by decide +kernel, rfl, by decide +kernel, by decide +kernel⟩
abbrev s_l_take : Stmt := (top 45)
abbrev N_l_take : List Str := ["pot", "upto", "prime", "blend", "digit"]
theorem sc_l_take : FnScope N_l_take ["pot", "upto"] (defScope s_l_take) := ⟨rfl, rfl, rfl, by decide +kernel, rfl, by decide +kernel, by decide +kernel⟩
abbrev s_l_of : Stmt := (top 46)
abbrev N_l_of : List Str := ["pot", "some"]
theorem sc_l_of : FnScope N_l_of ["pot", "some"] (defScope s_l_of) := ⟨rfl, rfl, rfl, by decide +kernel, rfl, by decide +kernel, by decide +kernel⟩
abbrev s_l_cells : Stmt := (top 47)
abbrev N_l_cells : List Str := ["script", "most"]
theorem sc_l_cells : FnScope N_l_cells ["script", "most"] (defScope s_l_cells) := ⟨rfl, rfl, rfl, by decide +kernel, rfl, by decide +kernel, by decide +kernel⟩
abbrev s_l_odd : Stmt := (top 48)
abbrev N_l_odd : List Str := ["pot", "some"]
theorem sc_l_odd : FnScope N_l_odd ["pot"] (defScope s_l_odd) := ⟨rfl, rfl, rfl, by decide +kernel, rfl, by decide +kernel, by decide +kernel⟩
abbrev s_l_grid_power : Stmt := (top 49)
abbrev N_l_grid_power : List Str := ["base", "many", "found", "lap"]
theorem sc_l_grid_power : FnScope N_l_grid_power ["base", "many"] (defScope s_l_grid_power) := ⟨rfl, rfl, rfl, by decide +kernel, rfl, by decide +kernel, by decide +kernel⟩
abbrev s_l_grid_text : Stmt := (top 50)
abbrev N_l_grid_text : List Str := ["grid", "number"]
theorem sc_l_grid_text : FnScope N_l_grid_text ["grid"] (defScope s_l_grid_text) := ⟨rfl, rfl, rfl, by decide +kernel, rfl, by decide +kernel, by decide +kernel⟩
abbrev s_l_grid_more : Stmt := (top 51)
abbrev N_l_grid_more : List Str := ["grid", "more"]
theorem sc_l_grid_more : FnScope N_l_grid_more ["grid", "more"] (defScope s_l_grid_more) := ⟨rfl, rfl, rfl, by decide +kernel, rfl, by decide +kernel, by decide +kernel⟩
abbrev s_l_grid_greatest : Stmt := (top 52)
abbrev N_l_grid_greatest : List Str := ["grid"]
theorem sc_l_grid_greatest : FnScope N_l_grid_greatest ["grid"] (defScope s_l_grid_greatest) := ⟨rfl, rfl, rfl, by decide +kernel, rfl, by decide +kernel, by decide +kernel⟩
abbrev s_l_grid_spacing : Stmt := (top 53)
abbrev N_l_grid_spacing : List Str := ["grid", "top", "bottom", "spacing", "bound"]
theorem sc_l_grid_spacing : FnScope N_l_grid_spacing ["grid", "top", "bottom"] (defScope s_l_grid_spacing) := ⟨rfl, rfl, rfl, by decide +kernel, rfl, by decide +kernel, by decide +kernel⟩
abbrev s_l_grid_has : Stmt := (top 54)
abbrev N_l_grid_has : List Str := ["grid", "number"]
theorem sc_l_grid_has : FnScope N_l_grid_has ["grid", "number"] (defScope s_l_grid_has) := ⟨rfl, rfl, rfl, by decide +kernel, rfl, by decide +kernel, by decide +kernel⟩
abbrev s_l_grid_ladder : Stmt := (top 55)
abbrev N_l_grid_ladder : List Str := ["grid", "bound", "spacing", "found", "lap", "at"]
theorem sc_l_grid_ladder : FnScope N_l_grid_ladder ["grid"] (defScope s_l_grid_ladder) := ⟨rfl, rfl, rfl, by decide +kernel, rfl, by decide +kernel, by decide +kernel⟩
abbrev s_l_grid_rounded : Stmt := (top 56)
abbrev N_l_grid_rounded : List Str := ["grid", "top", "bottom", "way", "more", "fine", "spacing", "below", "left", "number", "twice", "step"]
theorem sc_l_grid_rounded : FnScope N_l_grid_rounded ["grid", "top", "bottom", "way", "more"] (defScope s_l_grid_rounded) := ⟨rfl, rfl, rfl, by decide +kernel, rfl, by decide +kernel, by decide +kernel⟩
abbrev s_l_grid_drawn : Stmt := (top 57)
abbrev N_l_grid_drawn : List Str := ["pot", "base", "figures"]
theorem sc_l_grid_drawn : FnScope N_l_grid_drawn ["pot"] (defScope s_l_grid_drawn) := ⟨rfl, rfl, rfl, by decide +kernel, rfl, by decide +kernel, by decide +kernel⟩
abbrev s_l_grid_a_number : Stmt := (top 58)
abbrev N_l_grid_a_number : List Str := ["pot", "grid", "way", "most", "number", "power_v", "less"]
theorem sc_l_grid_a_number : FnScope N_l_grid_a_number ["pot", "grid"] (defScope s_l_grid_a_number) := ⟨rfl, rfl, rfl, by decide +kernel, rfl, by decide +kernel, by decide +kernel⟩
abbrev s_l_program_line : Stmt := (top 59)
abbrev N_l_program_line : List Str := ["step", "name", "sign", "operands", "more", "way", "words", "added", "one"]
theorem sc_l_program_line : FnScope N_l_program_line ["step"] (defScope s_l_program_line) := ⟨rfl, rfl, rfl, by decide +kernel, rfl, by decide +kernel, by decide +kernel⟩
abbrev s_l_program_text : Stmt := (top 60)
abbrev N_l_program_text : List Str := ["own", "lines", "row", "step"]
theorem sc_l_program_text : FnScope N_l_program_text ["own"] (defScope s_l_program_text) := ⟨rfl, rfl, rfl, by decide +kernel, rfl, by decide +kernel, by decide +kernel⟩
abbrev s_l_program_ranges : Stmt := (top 61)
abbrev N_l_program_ranges : List Str := ["pot", "grid", "most", "many", "size", "ladder", "bound", "rows", "every", "name", "wide", "middle", "start", "number"]
theorem sc_l_program_ranges : FnScope N_l_program_ranges ["pot", "grid", "most"] (defScope s_l_program_ranges) := ⟨rfl, rfl, rfl, by decide +kernel, rfl, by decide +kernel, by decide +kernel⟩
abbrev s_l_program_operand : Stmt := (top 62)
abbrev N_l_program_operand : List Str := ["pot", "grid", "names", "small", "number"]
theorem sc_l_program_operand : FnScope N_l_program_operand ["pot", "grid", "names"] (defScope s_l_program_operand) := ⟨rfl, rfl, rfl, by decide +kernel, rfl, by decide +kernel, by decide +kernel⟩
abbrev s_l_program_a_step : Stmt := (top 63)
abbrev N_l_program_a_step : List Str := ["pot", "grid", "name", "names", "sign", "many", "operands", "more", "lap"]
theorem sc_l_program_a_step : FnScope N_l_program_a_step ["pot", "grid", "name", "names"] (defScope s_l_program_a_step) := ⟨rfl, rfl, rfl, by decide +kernel, rfl, by decide +kernel, by decide +kernel⟩
abbrev s_l_program_drawn : Stmt := (top 64)
abbrev N_l_program_drawn : List Str := ["pot", "most", "many", "grid", "own", "names", "name", "row"]
theorem sc_l_program_drawn : FnScope N_l_program_drawn ["pot", "most", "many"] (defScope s_l_program_drawn) := ⟨rfl, rfl, rfl, by decide +kernel, rfl, by decide +kernel, by decide +kernel⟩
abbrev s_l_told : Stmt := (top 65)
abbrev N_l_told : List Str := ["pot", "own", "names", "lap", "name", "row", "step"]
theorem sc_l_told : FnScope N_l_told ["pot", "own"] (defScope s_l_told) := ⟨rfl, rfl, rfl, by decide +kernel, rfl, by decide +kernel, by decide +kernel⟩
abbrev s_l_is_read_right : Stmt := (top 66)
abbrev N_l_is_read_right : List Str := ["program", "own", "text", "grid", "many"]
theorem sc_l_is_read_right : FnScope N_l_is_read_right ["program", "own"] (defScope s_l_is_read_right) := ⟨rfl, rfl, rfl, by decide +kernel, rfl, by decide +kernel, by decide +kernel⟩
abbrev s_l_other : Stmt := (top 67)
abbrev N_l_other : List Str := ["pot", "own", "later", "way", "steps", "first", "is_more", "name", "low", "high"]
theorem sc_l_other : FnScope N_l_other ["pot", "own"] (defScope s_l_other) := ⟨rfl, rfl, rfl, by decide +kernel, rfl, by decide +kernel, by decide +kernel⟩
abbrev s_l_right : Stmt := (top 68)
abbrev N_l_right : List Str := ["pot", "own", "text", "other", "program", "twin", "far", "names", "value", "is_like", "row", "step"]
theorem sc_l_right : FnScope N_l_right ["pot"] (defScope s_l_right) := ⟨rfl, rfl, rfl, by decide +kernel, rfl, by decide +kernel, by decide +kernel⟩
abbrev s_law : Stmt := (top 69)
abbrev N_law : List Str := ["script", "place"]
theorem sc_law : FnScope N_law ["script"] (defScope s_law) := ⟨rfl, rfl, rfl, by decide +kernel, rfl, by decide +kernel, by decide +kernel⟩
structure Ad where
  is_whole : Addr
  is_whole_fd : FuncData
  is_from_to : Addr
  is_from_to_fd : FuncData
  power : Addr
  power_fd : FuncData
  Grid_init : Addr
  Grid_init_fd : FuncData
  Grid_contains : Addr
  Grid_contains_fd : FuncData
  is_grid : Addr
  is_grid_fd : FuncData
  spacing_at : Addr
  spacing_at_fd : FuncData
  read_program : Addr
  read_program_fd : FuncData
  read_grid : Addr
  read_grid_fd : FuncData
  read_rows : Addr
  read_rows_fd : FuncData
  read_input : Addr
  read_input_fd : FuncData
  read_step : Addr
  read_step_fd : FuncData
  read_form : Addr
  read_form_fd : FuncData
  read_keeping : Addr
  read_keeping_fd : FuncData
  read_operand : Addr
  read_operand_fd : FuncData
  read_tell : Addr
  read_tell_fd : FuncData
  read_integer : Addr
  read_integer_fd : FuncData
  is_letters : Addr
  is_letters_fd : FuncData
  is_step_name : Addr
  is_step_name_fd : FuncData
  is_new : Addr
  is_new_fd : FuncData
  Program_init : Addr
  Program_init_fd : FuncData
  Program_eq : Addr
  Program_eq_fd : FuncData
  Program_len : Addr
  Program_len_fd : FuncData
  Program_contains : Addr
  Program_contains_fd : FuncData
  l_pot : Addr
  l_pot_fd : FuncData
  l_take : Addr
  l_take_fd : FuncData
  l_of : Addr
  l_of_fd : FuncData
  l_cells : Addr
  l_cells_fd : FuncData
  l_odd : Addr
  l_odd_fd : FuncData
  l_grid_power : Addr
  l_grid_power_fd : FuncData
  l_grid_text : Addr
  l_grid_text_fd : FuncData
  l_grid_more : Addr
  l_grid_more_fd : FuncData
  l_grid_greatest : Addr
  l_grid_greatest_fd : FuncData
  l_grid_spacing : Addr
  l_grid_spacing_fd : FuncData
  l_grid_has : Addr
  l_grid_has_fd : FuncData
  l_grid_ladder : Addr
  l_grid_ladder_fd : FuncData
  l_grid_rounded : Addr
  l_grid_rounded_fd : FuncData
  l_grid_drawn : Addr
  l_grid_drawn_fd : FuncData
  l_grid_a_number : Addr
  l_grid_a_number_fd : FuncData
  l_program_line : Addr
  l_program_line_fd : FuncData
  l_program_text : Addr
  l_program_text_fd : FuncData
  l_program_ranges : Addr
  l_program_ranges_fd : FuncData
  l_program_operand : Addr
  l_program_operand_fd : FuncData
  l_program_a_step : Addr
  l_program_a_step_fd : FuncData
  l_program_drawn : Addr
  l_program_drawn_fd : FuncData
  l_told : Addr
  l_told_fd : FuncData
  l_is_read_right : Addr
  l_is_read_right_fd : FuncData
  l_other : Addr
  l_other_fd : FuncData
  l_right : Addr
  l_right_fd : FuncData
  law : Addr
  law_fd : FuncData
  Grid : Addr
  Program : Addr
  ROUNDED_SIGNS : Addr
  WORDS : Addr
  WRITTEN_WAYS : Addr
structure Txt (K : PySem.W.Frag) (mg : Str → Option Value) (a : Ad) : Prop where
  F_is_whole : Fun K "is_whole" "is_whole" s_is_whole a.is_whole a.is_whole_fd
  B_is_whole : Binds K a.is_whole_fd ["value"] []
  g_is_whole : mg "is_whole" = some (.ref a.is_whole)
  k_is_whole : PySem.W.keepIn K (.ref a.is_whole) = true
  F_is_from_to : Fun K "is_from_to" "is_from_to" s_is_from_to a.is_from_to a.is_from_to_fd
  B_is_from_to : Binds K a.is_from_to_fd ["value", "low", "high"] []
  g_is_from_to : mg "is_from_to" = some (.ref a.is_from_to)
  k_is_from_to : PySem.W.keepIn K (.ref a.is_from_to) = true
  F_power : Fun K "power" "power" s_power a.power a.power_fd
  B_power : Binds K a.power_fd ["base", "exponent"] []
  g_power : mg "power" = some (.ref a.power)
  k_power : PySem.W.keepIn K (.ref a.power) = true
  F_Grid_init : Fun K "__init__" "Grid.__init__" s_Grid_init a.Grid_init a.Grid_init_fd
  B_Grid_init : Binds K a.Grid_init_fd ["self", "base", "figures", "reach", "places"] []
  F_Grid_contains : Fun K "__contains__" "Grid.__contains__" s_Grid_contains a.Grid_contains a.Grid_contains_fd
  B_Grid_contains : Binds K a.Grid_contains_fd ["self", "value"] []
  m_Grid_contains : PySem.W.findIn K (.ref a.Grid) "__contains__" = some (some (.ref a.Grid_contains)) ∧ PySem.W.isFn K (.ref a.Grid_contains) = true
  F_is_grid : Fun K "is_grid" "is_grid" s_is_grid a.is_grid a.is_grid_fd
  B_is_grid : Binds K a.is_grid_fd ["told"] []
  g_is_grid : mg "is_grid" = some (.ref a.is_grid)
  k_is_grid : PySem.W.keepIn K (.ref a.is_grid) = true
  F_spacing_at : Fun K "spacing_at" "spacing_at" s_spacing_at a.spacing_at a.spacing_at_fd
  B_spacing_at : Binds K a.spacing_at_fd ["grid", "size", "more"] []
  g_spacing_at : mg "spacing_at" = some (.ref a.spacing_at)
  k_spacing_at : PySem.W.keepIn K (.ref a.spacing_at) = true
  F_read_program : Fun K "read_program" "read_program" s_read_program a.read_program a.read_program_fd
  B_read_program : Binds K a.read_program_fd ["text"] []
  g_read_program : mg "read_program" = some (.ref a.read_program)
  k_read_program : PySem.W.keepIn K (.ref a.read_program) = true
  F_read_grid : Fun K "read_grid" "read_grid" s_read_grid a.read_grid a.read_grid_fd
  B_read_grid : Binds K a.read_grid_fd ["line"] []
  g_read_grid : mg "read_grid" = some (.ref a.read_grid)
  k_read_grid : PySem.W.keepIn K (.ref a.read_grid) = true
  F_read_rows : Fun K "read_rows" "read_rows" s_read_rows a.read_rows a.read_rows_fd
  B_read_rows : Binds K a.read_rows_fd ["read", "lines", "grid", "names"] []
  g_read_rows : mg "read_rows" = some (.ref a.read_rows)
  k_read_rows : PySem.W.keepIn K (.ref a.read_rows) = true
  F_read_input : Fun K "read_input" "read_input" s_read_input a.read_input a.read_input_fd
  B_read_input : Binds K a.read_input_fd ["line", "grid", "names"] []
  g_read_input : mg "read_input" = some (.ref a.read_input)
  k_read_input : PySem.W.keepIn K (.ref a.read_input) = true
  F_read_step : Fun K "read_step" "read_step" s_read_step a.read_step a.read_step_fd
  B_read_step : Binds K a.read_step_fd ["line", "grid", "names"] []
  g_read_step : mg "read_step" = some (.ref a.read_step)
  k_read_step : PySem.W.keepIn K (.ref a.read_step) = true
  F_read_form : Fun K "read_form" "read_form" s_read_form a.read_form a.read_form_fd
  B_read_form : Binds K a.read_form_fd ["words", "grid"] []
  g_read_form : mg "read_form" = some (.ref a.read_form)
  k_read_form : PySem.W.keepIn K (.ref a.read_form) = true
  F_read_keeping : Fun K "read_keeping" "read_keeping" s_read_keeping a.read_keeping a.read_keeping_fd
  B_read_keeping : Binds K a.read_keeping_fd ["words", "grid"] []
  g_read_keeping : mg "read_keeping" = some (.ref a.read_keeping)
  k_read_keeping : PySem.W.keepIn K (.ref a.read_keeping) = true
  F_read_operand : Fun K "read_operand" "read_operand" s_read_operand a.read_operand a.read_operand_fd
  B_read_operand : Binds K a.read_operand_fd ["word", "grid", "names"] []
  g_read_operand : mg "read_operand" = some (.ref a.read_operand)
  k_read_operand : PySem.W.keepIn K (.ref a.read_operand) = true
  F_read_tell : Fun K "read_tell" "read_tell" s_read_tell a.read_tell a.read_tell_fd
  B_read_tell : Binds K a.read_tell_fd ["line", "names"] []
  g_read_tell : mg "read_tell" = some (.ref a.read_tell)
  k_read_tell : PySem.W.keepIn K (.ref a.read_tell) = true
  F_read_integer : Fun K "read_integer" "read_integer" s_read_integer a.read_integer a.read_integer_fd
  B_read_integer : Binds K a.read_integer_fd ["word"] []
  g_read_integer : mg "read_integer" = some (.ref a.read_integer)
  k_read_integer : PySem.W.keepIn K (.ref a.read_integer) = true
  F_is_letters : Fun K "is_letters" "is_letters" s_is_letters a.is_letters a.is_letters_fd
  B_is_letters : Binds K a.is_letters_fd ["word"] []
  g_is_letters : mg "is_letters" = some (.ref a.is_letters)
  k_is_letters : PySem.W.keepIn K (.ref a.is_letters) = true
  F_is_step_name : Fun K "is_step_name" "is_step_name" s_is_step_name a.is_step_name a.is_step_name_fd
  B_is_step_name : Binds K a.is_step_name_fd ["word"] []
  g_is_step_name : mg "is_step_name" = some (.ref a.is_step_name)
  k_is_step_name : PySem.W.keepIn K (.ref a.is_step_name) = true
  F_is_new : Fun K "is_new" "is_new" s_is_new a.is_new a.is_new_fd
  B_is_new : Binds K a.is_new_fd ["word", "names"] []
  g_is_new : mg "is_new" = some (.ref a.is_new)
  k_is_new : PySem.W.keepIn K (.ref a.is_new) = true
  F_Program_init : Fun K "__init__" "Program.__init__" s_Program_init a.Program_init a.Program_init_fd
  B_Program_init : Binds K a.Program_init_fd ["self", "text"] []
  F_Program_eq : Fun K "__eq__" "Program.__eq__" s_Program_eq a.Program_eq a.Program_eq_fd
  B_Program_eq : Binds K a.Program_eq_fd ["self", "other"] []
  m_Program_eq : PySem.W.findIn K (.ref a.Program) "__eq__" = some (some (.ref a.Program_eq)) ∧ PySem.W.isFn K (.ref a.Program_eq) = true
  F_Program_len : Fun K "__len__" "Program.__len__" s_Program_len a.Program_len a.Program_len_fd
  B_Program_len : Binds K a.Program_len_fd ["self"] []
  m_Program_len : PySem.W.findIn K (.ref a.Program) "__len__" = some (some (.ref a.Program_len)) ∧ PySem.W.isFn K (.ref a.Program_len) = true
  F_Program_contains : Fun K "__contains__" "Program.__contains__" s_Program_contains a.Program_contains a.Program_contains_fd
  B_Program_contains : Binds K a.Program_contains_fd ["self", "value"] []
  m_Program_contains : PySem.W.findIn K (.ref a.Program) "__contains__" = some (some (.ref a.Program_contains)) ∧ PySem.W.isFn K (.ref a.Program_contains) = true
  F_l_pot : Fun K "_law_pot" "_law_pot" s_l_pot a.l_pot a.l_pot_fd
  B_l_pot : Binds K a.l_pot_fd ["script", "place"] []
  g_l_pot : mg "_law_pot" = some (.ref a.l_pot)
  k_l_pot : PySem.W.keepIn K (.ref a.l_pot) = true
  F_l_take : Fun K "_law_take" "_law_take" s_l_take a.l_take a.l_take_fd
  B_l_take : Binds K a.l_take_fd ["pot", "upto"] []
  g_l_take : mg "_law_take" = some (.ref a.l_take)
  k_l_take : PySem.W.keepIn K (.ref a.l_take) = true
  F_l_of : Fun K "_law_of" "_law_of" s_l_of a.l_of a.l_of_fd
  B_l_of : Binds K a.l_of_fd ["pot", "some"] []
  g_l_of : mg "_law_of" = some (.ref a.l_of)
  k_l_of : PySem.W.keepIn K (.ref a.l_of) = true
  F_l_cells : Fun K "_law_cells" "_law_cells" s_l_cells a.l_cells a.l_cells_fd
  B_l_cells : Binds K a.l_cells_fd ["script", "most"] []
  g_l_cells : mg "_law_cells" = some (.ref a.l_cells)
  k_l_cells : PySem.W.keepIn K (.ref a.l_cells) = true
  F_l_odd : Fun K "_law_odd" "_law_odd" s_l_odd a.l_odd a.l_odd_fd
  B_l_odd : Binds K a.l_odd_fd ["pot"] []
  g_l_odd : mg "_law_odd" = some (.ref a.l_odd)
  k_l_odd : PySem.W.keepIn K (.ref a.l_odd) = true
  F_l_grid_power : Fun K "_law_grid_power" "_law_grid_power" s_l_grid_power a.l_grid_power a.l_grid_power_fd
  B_l_grid_power : Binds K a.l_grid_power_fd ["base", "many"] []
  g_l_grid_power : mg "_law_grid_power" = some (.ref a.l_grid_power)
  k_l_grid_power : PySem.W.keepIn K (.ref a.l_grid_power) = true
  F_l_grid_text : Fun K "_law_grid_text" "_law_grid_text" s_l_grid_text a.l_grid_text a.l_grid_text_fd
  B_l_grid_text : Binds K a.l_grid_text_fd ["grid"] []
  g_l_grid_text : mg "_law_grid_text" = some (.ref a.l_grid_text)
  k_l_grid_text : PySem.W.keepIn K (.ref a.l_grid_text) = true
  F_l_grid_more : Fun K "_law_grid_more" "_law_grid_more" s_l_grid_more a.l_grid_more a.l_grid_more_fd
  B_l_grid_more : Binds K a.l_grid_more_fd ["grid", "more"] []
  g_l_grid_more : mg "_law_grid_more" = some (.ref a.l_grid_more)
  k_l_grid_more : PySem.W.keepIn K (.ref a.l_grid_more) = true
  F_l_grid_greatest : Fun K "_law_grid_greatest" "_law_grid_greatest" s_l_grid_greatest a.l_grid_greatest a.l_grid_greatest_fd
  B_l_grid_greatest : Binds K a.l_grid_greatest_fd ["grid"] []
  g_l_grid_greatest : mg "_law_grid_greatest" = some (.ref a.l_grid_greatest)
  k_l_grid_greatest : PySem.W.keepIn K (.ref a.l_grid_greatest) = true
  F_l_grid_spacing : Fun K "_law_grid_spacing" "_law_grid_spacing" s_l_grid_spacing a.l_grid_spacing a.l_grid_spacing_fd
  B_l_grid_spacing : Binds K a.l_grid_spacing_fd ["grid", "top", "bottom"] []
  g_l_grid_spacing : mg "_law_grid_spacing" = some (.ref a.l_grid_spacing)
  k_l_grid_spacing : PySem.W.keepIn K (.ref a.l_grid_spacing) = true
  F_l_grid_has : Fun K "_law_grid_has" "_law_grid_has" s_l_grid_has a.l_grid_has a.l_grid_has_fd
  B_l_grid_has : Binds K a.l_grid_has_fd ["grid", "number"] []
  g_l_grid_has : mg "_law_grid_has" = some (.ref a.l_grid_has)
  k_l_grid_has : PySem.W.keepIn K (.ref a.l_grid_has) = true
  F_l_grid_ladder : Fun K "_law_grid_ladder" "_law_grid_ladder" s_l_grid_ladder a.l_grid_ladder a.l_grid_ladder_fd
  B_l_grid_ladder : Binds K a.l_grid_ladder_fd ["grid"] []
  g_l_grid_ladder : mg "_law_grid_ladder" = some (.ref a.l_grid_ladder)
  k_l_grid_ladder : PySem.W.keepIn K (.ref a.l_grid_ladder) = true
  F_l_grid_rounded : Fun K "_law_grid_rounded" "_law_grid_rounded" s_l_grid_rounded a.l_grid_rounded a.l_grid_rounded_fd
  B_l_grid_rounded : Binds K a.l_grid_rounded_fd ["grid", "top", "bottom", "way", "more"] []
  g_l_grid_rounded : mg "_law_grid_rounded" = some (.ref a.l_grid_rounded)
  k_l_grid_rounded : PySem.W.keepIn K (.ref a.l_grid_rounded) = true
  F_l_grid_drawn : Fun K "_law_grid_drawn" "_law_grid_drawn" s_l_grid_drawn a.l_grid_drawn a.l_grid_drawn_fd
  B_l_grid_drawn : Binds K a.l_grid_drawn_fd ["pot"] []
  g_l_grid_drawn : mg "_law_grid_drawn" = some (.ref a.l_grid_drawn)
  k_l_grid_drawn : PySem.W.keepIn K (.ref a.l_grid_drawn) = true
  F_l_grid_a_number : Fun K "_law_grid_a_number" "_law_grid_a_number" s_l_grid_a_number a.l_grid_a_number a.l_grid_a_number_fd
  B_l_grid_a_number : Binds K a.l_grid_a_number_fd ["pot", "grid"] []
  g_l_grid_a_number : mg "_law_grid_a_number" = some (.ref a.l_grid_a_number)
  k_l_grid_a_number : PySem.W.keepIn K (.ref a.l_grid_a_number) = true
  F_l_program_line : Fun K "_law_program_line" "_law_program_line" s_l_program_line a.l_program_line a.l_program_line_fd
  B_l_program_line : Binds K a.l_program_line_fd ["step"] []
  g_l_program_line : mg "_law_program_line" = some (.ref a.l_program_line)
  k_l_program_line : PySem.W.keepIn K (.ref a.l_program_line) = true
  F_l_program_text : Fun K "_law_program_text" "_law_program_text" s_l_program_text a.l_program_text a.l_program_text_fd
  B_l_program_text : Binds K a.l_program_text_fd ["own"] []
  g_l_program_text : mg "_law_program_text" = some (.ref a.l_program_text)
  k_l_program_text : PySem.W.keepIn K (.ref a.l_program_text) = true
  F_l_program_ranges : Fun K "_law_program_ranges" "_law_program_ranges" s_l_program_ranges a.l_program_ranges a.l_program_ranges_fd
  B_l_program_ranges : Binds K a.l_program_ranges_fd ["pot", "grid", "most"] []
  g_l_program_ranges : mg "_law_program_ranges" = some (.ref a.l_program_ranges)
  k_l_program_ranges : PySem.W.keepIn K (.ref a.l_program_ranges) = true
  F_l_program_operand : Fun K "_law_program_operand" "_law_program_operand" s_l_program_operand a.l_program_operand a.l_program_operand_fd
  B_l_program_operand : Binds K a.l_program_operand_fd ["pot", "grid", "names"] []
  g_l_program_operand : mg "_law_program_operand" = some (.ref a.l_program_operand)
  k_l_program_operand : PySem.W.keepIn K (.ref a.l_program_operand) = true
  F_l_program_a_step : Fun K "_law_program_a_step" "_law_program_a_step" s_l_program_a_step a.l_program_a_step a.l_program_a_step_fd
  B_l_program_a_step : Binds K a.l_program_a_step_fd ["pot", "grid", "name", "names"] []
  g_l_program_a_step : mg "_law_program_a_step" = some (.ref a.l_program_a_step)
  k_l_program_a_step : PySem.W.keepIn K (.ref a.l_program_a_step) = true
  F_l_program_drawn : Fun K "_law_program_drawn" "_law_program_drawn" s_l_program_drawn a.l_program_drawn a.l_program_drawn_fd
  B_l_program_drawn : Binds K a.l_program_drawn_fd ["pot", "most", "many"] []
  g_l_program_drawn : mg "_law_program_drawn" = some (.ref a.l_program_drawn)
  k_l_program_drawn : PySem.W.keepIn K (.ref a.l_program_drawn) = true
  F_l_told : Fun K "_law_told" "_law_told" s_l_told a.l_told a.l_told_fd
  B_l_told : Binds K a.l_told_fd ["pot", "own"] []
  g_l_told : mg "_law_told" = some (.ref a.l_told)
  k_l_told : PySem.W.keepIn K (.ref a.l_told) = true
  F_l_is_read_right : Fun K "_law_is_read_right" "_law_is_read_right" s_l_is_read_right a.l_is_read_right a.l_is_read_right_fd
  B_l_is_read_right : Binds K a.l_is_read_right_fd ["program", "own"] []
  g_l_is_read_right : mg "_law_is_read_right" = some (.ref a.l_is_read_right)
  k_l_is_read_right : PySem.W.keepIn K (.ref a.l_is_read_right) = true
  F_l_other : Fun K "_law_other" "_law_other" s_l_other a.l_other a.l_other_fd
  B_l_other : Binds K a.l_other_fd ["pot", "own"] []
  g_l_other : mg "_law_other" = some (.ref a.l_other)
  k_l_other : PySem.W.keepIn K (.ref a.l_other) = true
  F_l_right : Fun K "_law_right" "_law_right" s_l_right a.l_right a.l_right_fd
  B_l_right : Binds K a.l_right_fd ["pot"] []
  g_l_right : mg "_law_right" = some (.ref a.l_right)
  k_l_right : PySem.W.keepIn K (.ref a.l_right) = true
  F_law : Fun K "law" "law" s_law a.law a.law_fd
  B_law : Binds K a.law_fd ["script"] []
  g_law : mg "law" = some (.ref a.law)
  k_law : PySem.W.keepIn K (.ref a.law) = true
  cl_Grid : Cls K a.Grid
  mk_Grid : Mk K a.Grid a.Grid_init
  g_Grid : mg "Grid" = some (.ref a.Grid)
  f_Grid_base : NoAttr K a.Grid "base"
  f_Grid_figures : NoAttr K a.Grid "figures"
  f_Grid_reach : NoAttr K a.Grid "reach"
  f_Grid_places : NoAttr K a.Grid "places"
  f_Grid_unit : NoAttr K a.Grid "unit"
  f_Grid_limits : NoAttr K a.Grid "limits"
  f_Grid_tops : NoAttr K a.Grid "tops"
  f_Grid_greatest : NoAttr K a.Grid "greatest"
  cl_Program : Cls K a.Program
  mk_Program : Mk K a.Program a.Program_init
  g_Program : mg "Program" = some (.ref a.Program)
  f_Program_text : NoAttr K a.Program "text"
  f_Program_grid : NoAttr K a.Program "grid"
  f_Program_inputs : NoAttr K a.Program "inputs"
  f_Program_steps : NoAttr K a.Program "steps"
  f_Program_told : NoAttr K a.Program "told"
  f_Program_names : NoAttr K a.Program "names"
  c_MOST_FIGURES : ∃ t, mg "MOST_FIGURES" = some (.int 30 t)
  c_MOST_MORE : ∃ t, mg "MOST_MORE" = some (.int 3 t)
  c_MOST_INPUTS : ∃ t, mg "MOST_INPUTS" = some (.int 3 t)
  c_MOST_STEPS : ∃ t, mg "MOST_STEPS" = some (.int 20 t)
  c_MOST_TOLD : ∃ t, mg "MOST_TOLD" = some (.int 4 t)
  c_LONGEST_INTEGER : ∃ t, mg "LONGEST_INTEGER" = some (.int 4000 t)
  g_ROUNDED_SIGNS : mg "ROUNDED_SIGNS" = some (.ref a.ROUNDED_SIGNS)
  t_ROUNDED_SIGNS : ∀ H, SqT K H a.ROUNDED_SIGNS [.str "+", .str "-", .str "*", .str "/"]
  g_WORDS : mg "WORDS" = some (.ref a.WORDS)
  t_WORDS : ∀ H, SqT K H a.WORDS [.str "grid", .str "input", .str "tell", .str "least", .str "most", .str "choose", .str "keep", .str "way"]
  g_WRITTEN_WAYS : mg "WRITTEN_WAYS" = some (.ref a.WRITTEN_WAYS)
  t_WRITTEN_WAYS : ∀ H, SqT K H a.WRITTEN_WAYS [.str "down", .str "up", .str "zero"]
  n_isinstance : mg "isinstance" = none
  n_int : mg "int" = none
  n_bool : mg "bool" = none
  n_range : mg "range" = none
  n_tuple : mg "tuple" = none
  n_list : mg "list" = none
  n_abs : mg "abs" = none
  n_sum : mg "sum" = none
  n_len : mg "len" = none
  n_all : mg "all" = none
  n_max : mg "max" = none
  n_min : mg "min" = none
  n_repr : mg "repr" = none
  n_str : mg "str" = none
  n_zip : mg "zip" = none
  n_dict : mg "dict" = none
  n_sorted : mg "sorted" = none
  n_set : mg "set" = none
  n_enumerate : mg "enumerate" = none
  n_any : mg "any" = none
  q_Program : EqC K a.Program
end My

set_option Elab.async false
set_option maxRecDepth 100000
namespace My
open PySem L2 Evl
namespace Hd
abbrev R : PySem.W.OpenRow := PySem.W.OpenLaw.row PySem.Challenge.rw_roundedsteps_k08_whole_programs_and_thei
def names0 : List Str := ["_wall", "RoundError", "BadGrid", "NoNumber", "NoRank", "BadMore", "BadProgram", "is_whole", "is_from_to", "power", "MOST_FIGURES", "MOST_MORE", "Grid", "is_grid", "spacing_at", "spans_below", "span_size", "ROUNDED_SIGNS", "WORDS", "WRITTEN_WAYS", "MOST_INPUTS", "MOST_STEPS", "MOST_TOLD", "LONGEST_INTEGER", "read_program", "read_grid", "read_rows", "read_input", "read_step", "read_form"]
def names1 : List Str := ["read_keeping", "read_operand", "read_tell", "read_integer", "is_letters", "is_step_name", "is_new", "Program", "_law_pot", "_law_take", "_law_of", "_law_cells", "_law_odd", "_law_grid_power", "_law_grid_text", "_law_grid_more", "_law_grid_greatest", "_law_grid_spacing", "_law_grid_has", "_law_grid_ladder", "_law_grid_rounded", "_law_grid_drawn", "_law_grid_a_number", "_law_program_line", "_law_program_text", "_law_program_ranges", "_law_program_operand", "_law_program_a_step", "_law_program_drawn", "_law_told"]
def names2 : List Str := ["_law_is_read_right", "_law_other", "_law_right"]
def names : List Str := names0 ++ (names1 ++ (names2))
def fn0 : List He.DefD := [dn ("is_whole", none) "is_whole" "is_whole" s_is_whole,
  dn ("is_from_to", none) "is_from_to" "is_from_to" s_is_from_to,
  dn ("power", none) "power" "power" s_power,
  dn ("Grid", some "__init__") "__init__" "Grid.__init__" s_Grid_init,
  dn ("Grid", some "__contains__") "__contains__" "Grid.__contains__" s_Grid_contains,
  dn ("is_grid", none) "is_grid" "is_grid" s_is_grid,
  dn ("spacing_at", none) "spacing_at" "spacing_at" s_spacing_at,
  dn ("read_program", none) "read_program" "read_program" s_read_program,
  dn ("read_grid", none) "read_grid" "read_grid" s_read_grid,
  dn ("read_rows", none) "read_rows" "read_rows" s_read_rows,
  dn ("read_input", none) "read_input" "read_input" s_read_input,
  dn ("read_step", none) "read_step" "read_step" s_read_step,
  dn ("read_form", none) "read_form" "read_form" s_read_form,
  dn ("read_keeping", none) "read_keeping" "read_keeping" s_read_keeping,
  dn ("read_operand", none) "read_operand" "read_operand" s_read_operand,
  dn ("read_tell", none) "read_tell" "read_tell" s_read_tell,
  dn ("read_integer", none) "read_integer" "read_integer" s_read_integer,
  dn ("is_letters", none) "is_letters" "is_letters" s_is_letters,
  dn ("is_step_name", none) "is_step_name" "is_step_name" s_is_step_name,
  dn ("is_new", none) "is_new" "is_new" s_is_new]
def fn1 : List He.DefD := [dn ("Program", some "__init__") "__init__" "Program.__init__" s_Program_init,
  dn ("Program", some "__eq__") "__eq__" "Program.__eq__" s_Program_eq,
  dn ("Program", some "__len__") "__len__" "Program.__len__" s_Program_len,
  dn ("Program", some "__contains__") "__contains__" "Program.__contains__" s_Program_contains,
  dn ("_law_pot", none) "_law_pot" "_law_pot" s_l_pot,
  dn ("_law_take", none) "_law_take" "_law_take" s_l_take,
  dn ("_law_of", none) "_law_of" "_law_of" s_l_of,
  dn ("_law_cells", none) "_law_cells" "_law_cells" s_l_cells,
  dn ("_law_odd", none) "_law_odd" "_law_odd" s_l_odd,
  dn ("_law_grid_power", none) "_law_grid_power" "_law_grid_power" s_l_grid_power,
  dn ("_law_grid_text", none) "_law_grid_text" "_law_grid_text" s_l_grid_text,
  dn ("_law_grid_more", none) "_law_grid_more" "_law_grid_more" s_l_grid_more,
  dn ("_law_grid_greatest", none) "_law_grid_greatest" "_law_grid_greatest" s_l_grid_greatest,
  dn ("_law_grid_spacing", none) "_law_grid_spacing" "_law_grid_spacing" s_l_grid_spacing,
  dn ("_law_grid_has", none) "_law_grid_has" "_law_grid_has" s_l_grid_has,
  dn ("_law_grid_ladder", none) "_law_grid_ladder" "_law_grid_ladder" s_l_grid_ladder,
  dn ("_law_grid_rounded", none) "_law_grid_rounded" "_law_grid_rounded" s_l_grid_rounded,
  dn ("_law_grid_drawn", none) "_law_grid_drawn" "_law_grid_drawn" s_l_grid_drawn,
  dn ("_law_grid_a_number", none) "_law_grid_a_number" "_law_grid_a_number" s_l_grid_a_number,
  dn ("_law_program_line", none) "_law_program_line" "_law_program_line" s_l_program_line]
def fn2 : List He.DefD := [dn ("_law_program_text", none) "_law_program_text" "_law_program_text" s_l_program_text,
  dn ("_law_program_ranges", none) "_law_program_ranges" "_law_program_ranges" s_l_program_ranges,
  dn ("_law_program_operand", none) "_law_program_operand" "_law_program_operand" s_l_program_operand,
  dn ("_law_program_a_step", none) "_law_program_a_step" "_law_program_a_step" s_l_program_a_step,
  dn ("_law_program_drawn", none) "_law_program_drawn" "_law_program_drawn" s_l_program_drawn,
  dn ("_law_told", none) "_law_told" "_law_told" s_l_told,
  dn ("_law_is_read_right", none) "_law_is_read_right" "_law_is_read_right" s_l_is_read_right,
  dn ("_law_other", none) "_law_other" "_law_other" s_l_other,
  dn ("_law_right", none) "_law_right" "_law_right" s_l_right,
  dn ("law", none) "law" "law" s_law]
def fn : List He.DefD := fn0 ++ (fn1 ++ (fn2))
def fa0 : List Fct := [fc (.glo "is_whole"),
  fc (.glo "is_from_to"),
  fc (.glo "power"),
  fc (.meth "Grid" "__contains__"),
  fc (.glo "is_grid"),
  fc (.glo "spacing_at"),
  fc (.glo "read_program"),
  fc (.glo "read_grid"),
  fc (.glo "read_rows"),
  fc (.glo "read_input"),
  fc (.glo "read_step"),
  fc (.glo "read_form"),
  fc (.glo "read_keeping"),
  fc (.glo "read_operand"),
  fc (.glo "read_tell"),
  fc (.glo "read_integer"),
  fc (.glo "is_letters"),
  fc (.glo "is_step_name"),
  fc (.glo "is_new"),
  fc (.meth "Program" "__eq__")]
def fa1 : List Fct := [fc (.meth "Program" "__len__"),
  fc (.meth "Program" "__contains__"),
  fc (.glo "_law_pot"),
  fc (.glo "_law_take"),
  fc (.glo "_law_of"),
  fc (.glo "_law_cells"),
  fc (.glo "_law_odd"),
  fc (.glo "_law_grid_power"),
  fc (.glo "_law_grid_text"),
  fc (.glo "_law_grid_more"),
  fc (.glo "_law_grid_greatest"),
  fc (.glo "_law_grid_spacing"),
  fc (.glo "_law_grid_has"),
  fc (.glo "_law_grid_ladder"),
  fc (.glo "_law_grid_rounded"),
  fc (.glo "_law_grid_drawn"),
  fc (.glo "_law_grid_a_number"),
  fc (.glo "_law_program_line"),
  fc (.glo "_law_program_text"),
  fc (.glo "_law_program_ranges")]
def fa2 : List Fct := [fc (.glo "_law_program_operand"),
  fc (.glo "_law_program_a_step"),
  fc (.glo "_law_program_drawn"),
  fc (.glo "_law_told"),
  fc (.glo "_law_is_read_right"),
  fc (.glo "_law_other"),
  fc (.glo "_law_right"),
  fc (.glo "law"),
  fc (.cls "Grid"),
  fc (.mkr "Grid"),
  fc (.glo "Grid"),
  fc (.noat "Grid" "base"),
  fc (.noat "Grid" "figures"),
  fc (.noat "Grid" "reach"),
  fc (.noat "Grid" "places"),
  fc (.noat "Grid" "unit"),
  fc (.noat "Grid" "limits"),
  fc (.noat "Grid" "tops"),
  fc (.noat "Grid" "greatest"),
  fc (.cls "Program")]
def fa3 : List Fct := [fc (.mkr "Program"),
  fc (.glo "Program"),
  fc (.noat "Program" "text"),
  fc (.noat "Program" "grid"),
  fc (.noat "Program" "inputs"),
  fc (.noat "Program" "steps"),
  fc (.noat "Program" "told"),
  fc (.noat "Program" "names"),
  fc (.int "MOST_FIGURES" 30),
  fc (.int "MOST_MORE" 3),
  fc (.int "MOST_INPUTS" 3),
  fc (.int "MOST_STEPS" 20),
  fc (.int "MOST_TOLD" 4),
  fc (.int "LONGEST_INTEGER" 4000),
  fc (.glo "ROUNDED_SIGNS"),
  tp "ROUNDED_SIGNS" ["+", "-", "*", "/"],
  fc (.glo "WORDS"),
  tp "WORDS" ["grid", "input", "tell", "least", "most", "choose", "keep", "way"],
  fc (.glo "WRITTEN_WAYS"),
  tp "WRITTEN_WAYS" ["down", "up", "zero"]]
def fa4 : List Fct := [fc (.free "isinstance"),
  fc (.free "int"),
  fc (.free "bool"),
  fc (.free "range"),
  fc (.free "tuple"),
  fc (.free "list"),
  fc (.free "abs"),
  fc (.free "sum"),
  fc (.free "len"),
  fc (.free "all"),
  fc (.free "max"),
  fc (.free "min"),
  fc (.free "repr"),
  fc (.free "str"),
  fc (.free "zip"),
  fc (.free "dict"),
  fc (.free "sorted"),
  fc (.free "set"),
  fc (.free "enumerate"),
  fc (.free "any")]
def fa5 : List Fct := [fun K => eqB K (He.ga K "Program")]
def fa : List Fct := [ck fa0, ck fa1, ck fa2, ck fa3, ck fa4, ck fa5]
abbrev hk : PySem.W.Hook := hookM 4 fa fn
def ob (s : PySem.W.SharedT) : He.AlD := obsMG 4 fa fn (HandSHeadRun.getT s)
theorem ob_eq (s : PySem.W.SharedT) : ob s = hk.obs s.abs := obsMG_eq (HandSHeadRun.getT_eq s)
set_option maxHeartbeats 0 in
theorem run (w : World) : HandSHeadRun.RunEq R (PySem.W.view R.prog [69]) hk ob 15000 names w := by
  intro os
  kernel_rfl
section
open PySem PySem.W PySem.Calls PyProof.Rows
set_option maxHeartbeats 0 in
theorem hd (call : WalkO (view R.prog [69]) names (XL (view R.prog [69]) []) hk.says R.toRowW (HandSHeadRun.topDef R.prog 69) [] fun f vs => PySem.call f vs) : R.Holds := by
  refine HandSHeadRun.head_any (r := R) (q := view R.prog [69]) (H := hk) (ob := ob) (M := 15000) (loose := names) (d := HandSHeadRun.topDef R.prog 69) (kwd := []) ob_eq
    (by kernel_rfl) (fun s => by kernel_rfl) run (by kernel_rfl) (by kernel_rfl) (by kernel_rfl) (by rfl) (by first | assumption | decide +kernel) (by decide +kernel) ⟨rfl, rfl, rfl, rfl, rfl, by decide +kernel⟩ ?hw call
  case hw => w_witness2
set_option maxHeartbeats 0 in
theorem all (h : R.Holds) : PySem.Challenge.rw_roundedsteps_k08_whole_programs_and_thei.Holds := by
  w_on; o_law
  exact h
end
end Hd
end My

namespace My
/-! ### the mathematics: spacings, rounding near and towards zero, renewed rows -/
def spx (b L n : Nat) : Nat := if h : 2 ≤ b ∧ 1 ≤ L ∧ L ≤ n then 1 + spx b (L * b) n else 0
termination_by n + 1 - L
decreasing_by
  have h2 : L * 2 ≤ L * b := Nat.mul_le_mul_left L h.1
  omega
theorem spx_lt {b L n : Nat} (h : n < L) : spx b L n = 0 := by
  unfold spx
  rw [dif_neg (by omega)]
theorem spx_ge {b L n : Nat} (hb : 2 ≤ b) (hL : 1 ≤ L) (h : L ≤ n) : spx b L n = 1 + spx b (L * b) n := by
  rw [spx, dif_pos ⟨hb, hL, h⟩]
theorem spx_bound {b n : Nat} (hb : 2 ≤ b) : ∀ (k L : Nat), n + 1 - L ≤ k → 1 ≤ L → n < L * b ^ spx b L n
  | 0, L, hk, hL => by
    rw [spx_lt (by omega), Nat.pow_zero]
    omega
  | k + 1, L, hk, hL => by
    by_cases h : n < L
    · rw [spx_lt h, Nat.pow_zero]; omega
    · have h2 : L * 2 ≤ L * b := Nat.mul_le_mul_left L hb
      rw [spx_ge hb hL (by omega), Nat.pow_add, Nat.pow_one, ← Nat.mul_assoc]
      exact spx_bound hb k (L * b) (by omega) (by omega)
theorem spx_up {b L n : Nat} (hb : 2 ≤ b) (hL : 1 ≤ L) : n < L * b ^ spx b L n := spx_bound hb _ L (Nat.le_refl _) hL
theorem spx_low {b n : Nat} (hb : 2 ≤ b) : ∀ (k L : Nat), 1 ≤ L → k < spx b L n → L * b ^ k ≤ n
  | 0, L, hL, h => by
    by_cases h' : n < L
    · rw [spx_lt h'] at h; omega
    · rw [Nat.pow_zero]; omega
  | k + 1, L, hL, h => by
    by_cases h' : n < L
    · rw [spx_lt h'] at h; omega
    · rw [spx_ge hb hL (by omega)] at h
      have h2 : L * 2 ≤ L * b := Nat.mul_le_mul_left L hb
      have := spx_low (n := n) hb k (L * b) (by omega) (by omega)
      rw [Nat.pow_succ, Nat.mul_comm (b ^ k) b, ← Nat.mul_assoc]
      exact this
theorem spx_le {b L n k : Nat} (hb : 2 ≤ b) (hL : 1 ≤ L) (h : n < L * b ^ k) : spx b L n ≤ k := by
  refine Nat.le_of_not_lt fun hk => ?_
  have := spx_low hb k L hL hk
  omega
theorem spx_step {b L n k : Nat} (hb : 2 ≤ b) (hL : 1 ≤ L) (h : L * b ^ k ≤ n) (e : spx b L n = k + spx b (L * b ^ k) n) : spx b L n = (k + 1) + spx b (L * b ^ (k + 1)) n := by
  have hp : 1 ≤ b ^ k := Nat.pow_pos (by omega)
  have : 1 ≤ L * b ^ k := Nat.mul_pos hL hp
  rw [e, spx_ge hb this h, Nat.pow_succ, ← Nat.mul_assoc]
  omega

/-- the spacing at a size -/
def spc (b L n : Nat) : Nat := b ^ spx b L n
theorem spc_pos {b L n : Nat} (hb : 2 ≤ b) : 0 < spc b L n := Nat.pow_pos (by omega)

/-- rounded near, rounded towards zero; without an end -/
def rn (b L : Nat) (t : Int) : Int :=
  if (spc b L t.natAbs : Int) < 2 * (t % (spc b L t.natAbs : Int)) ∨ (2 * (t % (spc b L t.natAbs : Int)) = (spc b L t.natAbs : Int) ∧ t / (spc b L t.natAbs : Int) % 2 = 1) then (t / (spc b L t.natAbs : Int) + 1) * (spc b L t.natAbs : Int)
  else t / (spc b L t.natAbs : Int) * (spc b L t.natAbs : Int)
def rz (b L : Nat) (t : Int) : Int :=
  if 0 < t % (spc b L t.natAbs : Int) ∧ t < 0 then (t / (spc b L t.natAbs : Int) + 1) * (spc b L t.natAbs : Int) else t / (spc b L t.natAbs : Int) * (spc b L t.natAbs : Int)

/-- a grid: base, first integer with too many figures, greatest number -/
structure Gr (b f r L G : Nat) : Prop where
  hb : 2 ≤ b
  hf : 1 ≤ f
  eL : L = b ^ f
  eG : G = (L - 1) * b ^ r
theorem Gr.L1 {b f r L G : Nat} (g : Gr b f r L G) : 2 ≤ L := by
  rw [g.eL]
  have h1 : b ^ 1 ≤ b ^ f := Nat.pow_le_pow_right (by have := g.hb; omega) g.hf
  have := g.hb
  rw [Nat.pow_one] at h1
  omega
theorem Gr.Gl {b f r L G : Nat} (g : Gr b f r L G) : G < L * b ^ r := by
  have hp : 1 ≤ b ^ r := Nat.pow_pos (by have := g.hb; omega)
  have h1 := g.L1
  rw [g.eG]
  have : (L - 1) * b ^ r < L * b ^ r := Nat.mul_lt_mul_of_pos_right (by omega) hp
  exact this
def OnG (b L G : Nat) (n : Int) : Prop := n.natAbs ≤ G ∧ n % (spc b L n.natAbs : Int) = 0

section
variable {b f r L G : Nat}
theorem spx_r (g : Gr b f r L G) {t : Int} (h : t.natAbs ≤ G) : spx b L t.natAbs ≤ r :=
  spx_le g.hb (by have := g.L1; omega) (Nat.lt_of_le_of_lt h g.Gl)
theorem spc_dvd {b L n k : Nat} (h : spx b L n ≤ k) : (spc b L n) ∣ b ^ k := Nat.pow_dvd_pow b h
theorem onG_of (g : Gr b f r L G) {n : Int} {k : Nat} (h : n.natAbs ≤ G) (h1 : n.natAbs < L * b ^ k) (h2 : ((b ^ k : Nat) : Int) ∣ n) : OnG b L G n := by
  refine ⟨h, ?_⟩
  have h3 : spx b L n.natAbs ≤ k := spx_le g.hb (by have := g.L1; omega) h1
  exact Int.emod_eq_zero_of_dvd (Int.dvd_trans (Int.natCast_dvd_natCast.mpr (spc_dvd h3)) h2)
theorem OnG.neg {n : Int} (h : OnG b L G n) : OnG b L G (-n) := by
  unfold OnG at *
  rw [Int.natAbs_neg]
  exact ⟨h.1, Int.emod_eq_zero_of_dvd (Int.dvd_neg.mpr (Int.dvd_of_emod_eq_zero h.2))⟩
/-- the parts of a rounding -/
theorem div_facts (t s : Int) (hs : 0 < s) : t = t / s * s + t % s ∧ 0 ≤ t % s ∧ t % s < s := by
  have h1 := Int.mul_ediv_add_emod t s
  rw [Int.mul_comm] at h1
  exact ⟨h1.symm, Int.emod_nonneg t (by omega), Int.emod_lt_of_pos t hs⟩
theorem spcI_pos (hb : 2 ≤ b) (n : Nat) : (0 : Int) < (spc b L n : Int) := by
  have := spc_pos (L := L) (n := n) hb
  omega
theorem rn_cases (hb : 2 ≤ b) (t : Int) : ∃ q : Int, rn b L t = q * (spc b L t.natAbs : Int) ∧ 2 * (t - rn b L t) ≤ (spc b L t.natAbs : Int) ∧ -(spc b L t.natAbs : Int) ≤ 2 * (t - rn b L t) := by
  have hs := spcI_pos (L := L) hb t.natAbs
  obtain ⟨h1, h2, h3⟩ := div_facts t _ hs
  unfold rn
  generalize (spc b L t.natAbs : Int) = s at *
  generalize t / s = q at *
  generalize t % s = m at *
  split
  · refine ⟨q + 1, rfl, ?_, ?_⟩ <;> rw [Int.add_mul] <;> omega
  · refine ⟨q, rfl, ?_, ?_⟩ <;> omega
theorem rz_cases (hb : 2 ≤ b) (t : Int) : ∃ q : Int, rz b L t = q * (spc b L t.natAbs : Int) ∧ (rz b L t).natAbs ≤ t.natAbs := by
  have hs := spcI_pos (L := L) hb t.natAbs
  obtain ⟨h1, h2, h3⟩ := div_facts t _ hs
  unfold rz
  generalize (spc b L t.natAbs : Int) = s at *
  generalize hq : t / s = q at *
  generalize t % s = m at *
  split
  · refine ⟨q + 1, rfl, ?_⟩
    rename_i hc
    rw [Int.add_mul, Int.one_mul]
    have hq1 : q + 1 ≤ 0 := by
      have : q < 0 := by
        rw [← hq]
        exact Int.ediv_neg_of_neg_of_pos hc.2 hs
      omega
    have : (q + 1) * s ≤ 0 * s := Int.mul_le_mul_of_nonneg_right hq1 (by omega)
    rw [Int.add_mul] at this
    omega
  · refine ⟨q, rfl, ?_⟩
    rename_i hc
    by_cases ht : t < 0
    · have : m = 0 := by omega
      subst this
      rw [h1]; omega
    · have hq0 : 0 ≤ q := by
        rw [← hq]
        exact Int.ediv_nonneg (by omega) (by omega)
      have : 0 * s ≤ q * s := Int.mul_le_mul_of_nonneg_right hq0 (by omega)
      omega
/-- a number of the grid stays -/
theorem rn_self {t : Int} (hb : 2 ≤ b) (h : t % (spc b L t.natAbs : Int) = 0) : rn b L t = t := by
  have hs := spcI_pos (L := L) hb t.natAbs
  obtain ⟨h1, _, _⟩ := div_facts t _ hs
  unfold rn
  rw [h]
  rw [h, Int.add_zero] at h1
  rw [if_neg (by omega)]
  exact h1.symm
/-- within the greatest number there is one to go to -/
theorem mul_within {q s M t : Int} (hs : 0 < s) (h : t ≤ M * s) (h2 : q * s ≤ t) : q * s ≤ M * s := by omega
theorem rn_le (g : Gr b f r L G) {t : Int} (h : t.natAbs ≤ G) : (rn b L t).natAbs ≤ G := by
  have hs := spcI_pos (L := L) g.hb t.natAbs
  have he := spx_r g h
  obtain ⟨h1, h2, h3⟩ := div_facts t _ hs
  have hd : ((spc b L t.natAbs : Nat) : Int) ∣ (G : Int) := by
    refine Int.natCast_dvd_natCast.mpr ?_
    rw [g.eG]
    exact Nat.dvd_trans (spc_dvd he) (Nat.dvd_mul_left _ _)
  obtain ⟨M, hM⟩ := hd
  unfold rn
  generalize (spc b L t.natAbs : Int) = s at *
  generalize t / s = q at *
  generalize t % s = m at *
  have hM' : (G : Int) = M * s := by rw [hM, Int.mul_comm]
  have e1 : q * s ≤ M * s := by omega
  have e2 : -(M * s) ≤ q * s + m := by omega
  have q2 : -M ≤ q := by
    have : (-M) * s < (q + 1) * s := by rw [Int.neg_mul, Int.add_mul]; omega
    have := Int.lt_of_mul_lt_mul_right this (by omega)
    omega
  have e3 : (-M) * s ≤ q * s := Int.mul_le_mul_of_nonneg_right q2 (by omega)
  rw [Int.neg_mul] at e3
  split
  · rename_i hc
    have q1 : q < M := by
      refine Int.lt_of_mul_lt_mul_right (a := s) ?_ (by omega)
      omega
    have e4 : (q + 1) * s ≤ M * s := Int.mul_le_mul_of_nonneg_right (by omega) (by omega)
    have e5 : (-M) * s ≤ (q + 1) * s := Int.mul_le_mul_of_nonneg_right (by omega) (by omega)
    rw [Int.neg_mul] at e5
    omega
  · omega
theorem rz_le (hb : 2 ≤ b) {t : Int} (h : t.natAbs ≤ G) : (rz b L t).natAbs ≤ G := by
  obtain ⟨_, _, h2⟩ := rz_cases (L := L) hb t
  omega
theorem natAbs_mulI (q : Int) (s : Nat) : (q * (s : Int)).natAbs = q.natAbs * s := by rw [Int.natAbs_mul]; rfl
theorem onG_mul (g : Gr b f r L G) {n q : Int} {k : Nat} (h : n.natAbs ≤ G) (h1 : n.natAbs ≤ L * b ^ k) (h2 : n = q * ((b ^ k : Nat) : Int)) : OnG b L G n := by
  by_cases h3 : n.natAbs < L * b ^ k
  · exact onG_of g h h3 ⟨q, by rw [h2, Int.mul_comm]⟩
  · have h4 : n.natAbs = b ^ (f + k) := by rw [Nat.pow_add, ← g.eL]; omega
    refine onG_of (k := k + 1) g h ?_ ?_
    · have h5 : L * b ^ k * 2 ≤ L * b ^ k * b := Nat.mul_le_mul_left _ g.hb
      rw [Nat.pow_succ, ← Nat.mul_assoc]
      have : 0 < L * b ^ k := Nat.mul_pos (by have := g.L1; omega) (Nat.pow_pos (by have := g.hb; omega))
      omega
    · refine Int.ofNat_dvd_left.mpr ?_
      rw [h4]
      exact Nat.pow_dvd_pow b (by have := g.hf; omega)
theorem rn_onG (g : Gr b f r L G) {t : Int} (h : t.natAbs ≤ G) : OnG b L G (rn b L t) := by
  obtain ⟨q, e, h1, h2⟩ := rn_cases (L := L) g.hb t
  have hs := spc_pos (L := L) (n := t.natAbs) g.hb
  have hu : t.natAbs < L * spc b L t.natAbs := spx_up g.hb (by have := g.L1; omega)
  refine onG_mul (k := spx b L t.natAbs) (q := q) g (rn_le g h) ?_ e
  show _ ≤ L * spc b L t.natAbs
  generalize hS : spc b L t.natAbs = S at *
  have e2 : (rn b L t).natAbs = q.natAbs * S := by rw [e, natAbs_mulI]
  have h4 : q.natAbs * S < (L + 1) * S := by
    rw [← e2, Nat.add_mul]
    omega
  have := Nat.lt_of_mul_lt_mul_right h4
  rw [e2]
  exact Nat.mul_le_mul_right S (by omega)
theorem rz_onG (g : Gr b f r L G) {t : Int} (h : t.natAbs ≤ G) : OnG b L G (rz b L t) := by
  obtain ⟨q, e, h1⟩ := rz_cases (L := L) g.hb t
  have hu : t.natAbs < L * spc b L t.natAbs := spx_up g.hb (by have := g.L1; omega)
  exact onG_mul (k := spx b L t.natAbs) (q := q) g (rz_le g.hb h) (by show _ ≤ L * spc b L t.natAbs; omega) e
/-- turned about -/
theorem rn_neg (hb : 2 ≤ b) (t : Int) : rn b L (-t) = -rn b L t := by
  unfold rn
  rw [Int.natAbs_neg]
  have hs := spcI_pos (L := L) hb t.natAbs
  generalize (spc b L t.natAbs : Int) = s at *
  obtain ⟨h1, h2, h3⟩ := div_facts t s hs
  have hd : t % s = 0 → (-t) / s = -(t / s) ∧ (-t) % s = 0 := fun h => by
    have e : -t = -(t / s) * s := by rw [Int.neg_mul]; omega
    exact ⟨by rw [e, Int.mul_ediv_cancel _ (by omega)], by rw [e]; exact Int.mul_emod_left _ _⟩
  have hn : t % s ≠ 0 → (-t) / s = -(t / s) - 1 ∧ (-t) % s = s - t % s := fun h => by
    have e : -t = (s - t % s) + s * (-(t / s) - 1) := by
      rw [Int.mul_sub, Int.mul_neg, Int.mul_comm s (t / s)]
      omega
    constructor
    · rw [e, Int.add_mul_ediv_left _ _ (by omega), Int.ediv_eq_zero_of_lt (by omega) (by omega)]
      omega
    · rw [e, Int.add_mul_emod_self_left]
      exact Int.emod_eq_of_lt (by omega) (by omega)
  by_cases h : t % s = 0
  · obtain ⟨e1, e2⟩ := hd h
    rw [e1, e2, h, if_neg (by omega), if_neg (by omega), Int.neg_mul]
  · obtain ⟨e1, e2⟩ := hn h
    rw [e1, e2]
    generalize t % s = m at *
    generalize t / s = q at *
    by_cases hc : s < 2 * m ∨ 2 * m = s ∧ q % 2 = 1
    · rw [if_pos hc, if_neg (by omega), Int.sub_mul, Int.add_mul, Int.neg_mul]
      omega
    · rw [if_neg hc, if_pos (by omega), Int.add_mul, Int.sub_mul, Int.neg_mul]
      omega
/-- what is left is at most half as great -/
theorem rn_half (g : Gr b f r L G) {t : Int} : 2 * (t - rn b L t).natAbs ≤ t.natAbs := by
  obtain ⟨q, e, h1, h2⟩ := rn_cases (L := L) g.hb t
  by_cases h : spx b L t.natAbs = 0
  · have hsp : spc b L t.natAbs = 1 := by unfold spc; rw [h]; rfl
    have : rn b L t = t := rn_self g.hb (by rw [hsp]; show t % 1 = 0; omega)
    rw [this]; omega
  · have h3 := spx_low (n := t.natAbs) g.hb (spx b L t.natAbs - 1) L (by have := g.L1; omega) (by omega)
    have h4 : spc b L t.natAbs ≤ L * b ^ (spx b L t.natAbs - 1) := by
      have e5 : spc b L t.natAbs = b * b ^ (spx b L t.natAbs - 1) := by
        unfold spc
        rw [Nat.mul_comm, ← Nat.pow_succ]
        congr 1
        omega
      rw [e5]
      refine Nat.mul_le_mul_right _ ?_
      rw [g.eL]
      have h1 : b ^ 1 ≤ b ^ f := Nat.pow_le_pow_right (by have := g.hb; omega) g.hf
      rwa [Nat.pow_one] at h1
    omega
/-- the renewed row -/
def pts (b L : Nat) : Nat → Int → List Int
  | 0, _ => []
  | k + 1, t => if t = 0 then [] else rn b L t :: pts b L k (t - rn b L t)
theorem pts_zero (k : Nat) : pts b L k 0 = [] := by cases k <;> rfl
theorem pts_fuel (g : Gr b f r L G) : ∀ (k j : Nat) (t : Int), t.natAbs ≤ k → t.natAbs ≤ j → pts b L k t = pts b L j t
  | 0, j, t, h1, h2 => by
    have : t = 0 := by omega
    subst this
    rw [pts_zero, pts_zero]
  | k + 1, 0, t, h1, h2 => by
    have : t = 0 := by omega
    subst this
    rw [pts_zero, pts_zero]
  | k + 1, j + 1, t, h1, h2 => by
    unfold pts
    by_cases h : t = 0
    · rw [if_pos h, if_pos h]
    · have := rn_half g (t := t)
      rw [if_neg h, if_neg h, pts_fuel g k j _ (by omega) (by omega)]
def row (b L : Nat) (t : Int) : List Int := pts b L t.natAbs t
theorem row_zero : row b L 0 = [] := rfl
theorem row_cons (g : Gr b f r L G) {t : Int} (h : t ≠ 0) : row b L t = rn b L t :: row b L (t - rn b L t) := by
  have h1 := rn_half g (t := t)
  unfold row
  obtain ⟨k, hk⟩ : ∃ k, t.natAbs = k + 1 := ⟨t.natAbs - 1, by omega⟩
  rw [hk]
  show (if t = 0 then [] else rn b L t :: pts b L k (t - rn b L t)) = _
  rw [if_neg h, pts_fuel g k _ _ (by omega) (Nat.le_refl _)]
theorem row_ind (g : Gr b f r L G) {P : Int → Prop} (h0 : P 0) (hs : ∀ t, t ≠ 0 → P (t - rn b L t) → P t) (t : Int) : P t := by
  have : ∀ (k : Nat) (t : Int), t.natAbs ≤ k → P t := by
    intro k
    induction k with
    | zero => intro t h; have : t = 0 := by omega
              subst this; exact h0
    | succ k ih =>
      intro t h
      by_cases h2 : t = 0
      · subst h2; exact h0
      · have := rn_half g (t := t)
        exact hs t h2 (ih _ (by omega))
  exact this _ t (Nat.le_refl _)
theorem row_sum (g : Gr b f r L G) (t : Int) : (row b L t).sum = t := by
  refine row_ind g (P := fun t => (row b L t).sum = t) rfl (fun t h ih => ?_) t
  rw [row_cons g h, List.sum_cons, ih]
  omega
theorem row_neg (g : Gr b f r L G) (t : Int) : row b L (-t) = (row b L t).map (fun x => -x) := by
  refine row_ind g (P := fun t => row b L (-t) = (row b L t).map (fun x => -x)) rfl (fun t h ih => ?_) t
  rw [row_cons g h, row_cons g (t := -t) (by omega), rn_neg g.hb, List.map_cons, ← ih]
  have : -t - -rn b L t = -(t - rn b L t) := by omega
  rw [this]
theorem row_onG (g : Gr b f r L G) (t : Int) (h : t.natAbs ≤ G) : ∀ x ∈ row b L t, OnG b L G x := by
  have := row_ind g (P := fun t => t.natAbs ≤ G → ∀ x ∈ row b L t, OnG b L G x) (fun _ x hx => by cases hx) (fun t h ih hG x hx => ?_) t
  · exact this h
  · rw [row_cons g h] at hx
    have := rn_half g (t := t)
    rcases List.mem_cons.mp hx with rfl | hx
    · exact rn_onG g hG
    · exact ih (by omega) x hx
theorem row_len (g : Gr b f r L G) (t : Int) (n : Nat) (h : t.natAbs < 2 ^ n) : (row b L t).length ≤ n := by
  have := row_ind g (P := fun t => ∀ n, t.natAbs < 2 ^ n → (row b L t).length ≤ n) (fun n _ => Nat.zero_le _) (fun t h ih n hn => ?_) t
  · exact this n h
  · rw [row_cons g h, List.length_cons]
    have h2 := rn_half g (t := t)
    obtain ⟨m, rfl⟩ : ∃ m, n = m + 1 := ⟨n - 1, by
      cases n with
      | zero => simp at hn; omega
      | succ n => rfl⟩
    have := ih m (by rw [Nat.pow_succ] at hn; omega)
    omega
/-- a product: what is left is a number of the grid -/
theorem prod_left (g : Gr b f r L G) {x y : Int} (hx : OnG b L G x) (hy : OnG b L G y) : ∃ k, ((x * y - rn b L (x * y)).natAbs < L * b ^ k) ∧ ((b ^ k : Nat) : Int) ∣ (x * y - rn b L (x * y)) := by
  have hL := g.L1
  obtain ⟨q, e, h1, h2⟩ := rn_cases (L := L) g.hb (x * y)
  have hd : ((b ^ (spx b L x.natAbs + spx b L y.natAbs) : Nat) : Int) ∣ x * y := by
    rw [Nat.pow_add, Int.natCast_mul]
    exact Int.mul_dvd_mul (Int.dvd_of_emod_eq_zero hx.2) (Int.dvd_of_emod_eq_zero hy.2)
  have ux := spx_up (n := x.natAbs) (L := L) g.hb (by omega)
  have uy := spx_up (n := y.natAbs) (L := L) g.hb (by omega)
  generalize hk : spx b L x.natAbs + spx b L y.natAbs = k at *
  have hw : (x * y).natAbs < L * L * b ^ k := by
    rw [Int.natAbs_mul, ← hk, Nat.pow_add, Nat.mul_mul_mul_comm]
    exact Nat.mul_lt_mul'' ux uy
  by_cases h : spx b L (x * y).natAbs ≤ k
  · refine ⟨0, ?_⟩
    have : rn b L (x * y) = x * y := rn_self g.hb (Int.emod_eq_zero_of_dvd (Int.dvd_trans (Int.natCast_dvd_natCast.mpr (spc_dvd h)) hd))
    rw [this, Int.sub_self]
    refine ⟨by show 0 < L * b ^ 0; rw [Nat.pow_zero]; omega, ⟨0, by simp⟩⟩
  · have h3 := spx_low (n := (x * y).natAbs) g.hb (spx b L (x * y).natAbs - 1) L (by omega) (by omega)
    generalize hE : spx b L (x * y).natAbs = E at *
    have h4 : b ^ (E - 1) < b ^ (f + k) := by
      rw [Nat.pow_add, ← g.eL]
      have : L * b ^ (E - 1) < L * (L * b ^ k) := by rw [← Nat.mul_assoc]; omega
      exact Nat.lt_of_mul_lt_mul_left this
    have h5 : E - 1 < f + k := (Nat.pow_lt_pow_iff_right (by have := g.hb; omega)).mp h4
    have h6 : spc b L (x * y).natAbs ≤ L * b ^ k := by
      unfold spc
      rw [hE, g.eL, ← Nat.pow_add]
      exact Nat.pow_le_pow_right (by have := g.hb; omega) (by omega)
    refine ⟨k, ?_, ?_⟩
    · have : 0 < L * b ^ k := Nat.mul_pos (by omega) (Nat.pow_pos (by have := g.hb; omega))
      omega
    · refine Int.dvd_sub hd ?_
      rw [e]
      refine Int.dvd_trans (Int.natCast_dvd_natCast.mpr ?_) (Int.dvd_mul_left _ _)
      unfold spc
      rw [hE]
      exact Nat.pow_dvd_pow b (by omega)
theorem prod_row (g : Gr b f r L G) {x y : Int} (hx : OnG b L G x) (hy : OnG b L G y) :
    row b L (x * y) = if x * y = 0 then [] else if rn b L (x * y) = x * y then [x * y] else [rn b L (x * y), x * y - rn b L (x * y)] := by
  by_cases h : x * y = 0
  · rw [if_pos h, h]; rfl
  · rw [if_neg h, row_cons g h]
    by_cases h2 : rn b L (x * y) = x * y
    · rw [if_pos h2, h2, Int.sub_self]; rfl
    · rw [if_neg h2]
      obtain ⟨k, h3, h4⟩ := prod_left g hx hy
      have h5 : spx b L (x * y - rn b L (x * y)).natAbs ≤ k := spx_le g.hb (by have := g.L1; omega) h3
      have h6 : rn b L (x * y - rn b L (x * y)) = x * y - rn b L (x * y) := rn_self g.hb (Int.emod_eq_zero_of_dvd (Int.dvd_trans (Int.natCast_dvd_natCast.mpr (spc_dvd h5)) h4))
      rw [row_cons g (by omega), h6, Int.sub_self]
      rfl
theorem onG_small (g : Gr b f r L G) {n : Nat} (h : n < L) : OnG b L G (n : Int) := by
  have hp : 1 ≤ b ^ r := Nat.pow_pos (by have := g.hb; omega)
  have : L - 1 ≤ G := by rw [g.eG]; exact Nat.le_mul_of_pos_right _ hp
  exact onG_of (k := 0) g (by omega) (by rw [Nat.pow_zero]; omega) ⟨n, by simp⟩
theorem onG_rung (g : Gr b f r L G) {n k : Nat} (h : n < L) (hk : k ≤ r) : OnG b L G ((b ^ k * n : Nat) : Int) := by
  have hp : b ^ k ≤ b ^ r := Nat.pow_le_pow_right (by have := g.hb; omega) hk
  refine onG_of (k := k) g ?_ ?_ ?_
  · rw [Int.natAbs_natCast, g.eG, Nat.mul_comm]
    exact Nat.mul_le_mul (by omega) hp
  · rw [Int.natAbs_natCast, Nat.mul_comm]
    exact Nat.mul_lt_mul_of_pos_right h (Nat.pow_pos (by have := g.hb; omega))
  · exact Int.natCast_dvd_natCast.mpr (Nat.dvd_mul_right _ _)
end
end My

namespace My
section
variable {b f r L G : Nat}
theorem rn_near_mul (hb : 2 ≤ b) {w y : Int} (h : ((spc b L w.natAbs : Nat) : Int) ∣ y) : (w - rn b L w).natAbs ≤ (w - y).natAbs := by
  have hs := spcI_pos (L := L) hb w.natAbs
  obtain ⟨q, e, h1, h2⟩ := rn_cases (L := L) hb w
  obtain ⟨m, hm⟩ := h
  generalize ((spc b L w.natAbs : Nat) : Int) = s at *
  rw [hm]
  rw [e] at h1 h2 ⊢
  have hc : s * m = m * s := Int.mul_comm _ _
  rw [hc]
  by_cases hqm : m = q
  · rw [hqm]; exact Nat.le_refl _
  · have hd : (m - q) * s = m * s - q * s := Int.sub_mul _ _ _
    rcases Int.lt_or_gt_of_ne hqm with h3 | h3
    · have : (m - q) * s ≤ (-1) * s := Int.mul_le_mul_of_nonneg_right (by omega) (by omega)
      omega
    · have : 1 * s ≤ (m - q) * s := Int.mul_le_mul_of_nonneg_right (by omega) (by omega)
      omega
theorem rn_near (g : Gr b f r L G) {w x : Int} (hx : OnG b L G x) : (w - rn b L w).natAbs ≤ (w - x).natAbs := by
  have hL := g.L1
  by_cases h : spx b L w.natAbs ≤ spx b L x.natAbs
  · exact rn_near_mul g.hb (Int.dvd_trans (Int.natCast_dvd_natCast.mpr (Nat.pow_dvd_pow b h)) (Int.dvd_of_emod_eq_zero hx.2))
  · have ux := spx_up (n := x.natAbs) (L := L) g.hb (by omega)
    have lw := spx_low (n := w.natAbs) g.hb (spx b L w.natAbs - 1) L (by omega) (by omega)
    have hxB : x.natAbs < L * b ^ (spx b L w.natAbs - 1) :=
      Nat.lt_of_lt_of_le ux (Nat.mul_le_mul_left _ (Nat.pow_le_pow_right (by have := g.hb; omega) (by omega)))
    have hdB : spc b L w.natAbs ∣ L * b ^ (spx b L w.natAbs - 1) := by
      rw [g.eL, ← Nat.pow_add]
      exact Nat.pow_dvd_pow b (by have := g.hf; omega)
    generalize L * b ^ (spx b L w.natAbs - 1) = B at *
    by_cases hw : 0 ≤ w
    · have := rn_near_mul (L := L) g.hb (w := w) (y := (B : Int)) (Int.natCast_dvd_natCast.mpr hdB)
      omega
    · have := rn_near_mul (L := L) g.hb (w := w) (y := -(B : Int)) (Int.dvd_neg.mpr (Int.natCast_dvd_natCast.mpr hdB))
      omega
theorem sum_left (g : Gr b f r L G) {x y : Int} (hx : OnG b L G x) (hy : OnG b L G y) :
    OnG b L G (x + y - rn b L (x + y)) ∧ (x + y - rn b L (x + y)).natAbs ≤ x.natAbs ∧ (x + y - rn b L (x + y)).natAbs ≤ y.natAbs := by
  have hL := g.L1
  have n1 := rn_near (w := x + y) g hx
  have n2 := rn_near (w := x + y) g hy
  have e1 : x + y - x = y := by omega
  have e2 : x + y - y = x := by omega
  rw [e1] at n1
  rw [e2] at n2
  refine ⟨?_, n2, n1⟩
  have ux := spx_up (n := x.natAbs) (L := L) g.hb (by omega)
  have uy := spx_up (n := y.natAbs) (L := L) g.hb (by omega)
  have dx := Int.dvd_of_emod_eq_zero hx.2
  have dy := Int.dvd_of_emod_eq_zero hy.2
  obtain ⟨q, e, h1, h2⟩ := rn_cases (L := L) g.hb (x + y)
  have key : ∀ k, ((b ^ k : Nat) : Int) ∣ x → ((b ^ k : Nat) : Int) ∣ y → (x + y - rn b L (x + y)).natAbs < L * b ^ k → OnG b L G (x + y - rn b L (x + y)) := by
    intro k kx ky hlt
    by_cases h : spx b L (x + y).natAbs ≤ k
    · have : rn b L (x + y) = x + y := rn_self g.hb (Int.emod_eq_zero_of_dvd (Int.dvd_trans (Int.natCast_dvd_natCast.mpr (spc_dvd h)) (Int.dvd_add kx ky)))
      rw [this, Int.sub_self]
      exact onG_small (n := 0) g (by omega)
    · refine onG_of (k := k) g (Nat.le_trans n1 hy.1) hlt (Int.dvd_sub (Int.dvd_add kx ky) ?_)
      rw [e]
      exact Int.dvd_trans (Int.natCast_dvd_natCast.mpr (Nat.pow_dvd_pow b (by omega))) (Int.dvd_mul_left _ _)
  by_cases h : spx b L x.natAbs ≤ spx b L y.natAbs
  · exact key _ dx (Int.dvd_trans (Int.natCast_dvd_natCast.mpr (Nat.pow_dvd_pow b h)) dy) (Nat.lt_of_le_of_lt n2 ux)
  · exact key _ (Int.dvd_trans (Int.natCast_dvd_natCast.mpr (Nat.pow_dvd_pow b (by omega))) dx) dy (Nat.lt_of_le_of_lt n1 uy)
/-- adding up, each addition rounded -/
def psum (b L G : Nat) : Int → List Int → List Int → Option (Int × List Int)
  | t, [], acc => some (t, acc)
  | t, x :: xs, acc => if (rn b L (t + x)).natAbs ≤ G then psum b L G (rn b L (t + x)) xs (acc ++ [t + x - rn b L (t + x)]) else none
theorem psum_facts (g : Gr b f r L G) : ∀ (xs : List Int) (t : Int) (acc : List Int) (p : Int × List Int), psum b L G t xs acc = some p → OnG b L G t → (∀ x ∈ xs, OnG b L G x) → (∀ x ∈ acc, OnG b L G x) →
    OnG b L G p.1 ∧ (∀ x ∈ p.2, OnG b L G x) ∧ p.1 + p.2.sum = t + xs.sum + acc.sum ∧ p.2.length = acc.length + xs.length
  | [], t, acc, p, h, ht, _, ha => by
    cases h
    exact ⟨ht, ha, by simp, by simp⟩
  | x :: xs, t, acc, p, h, ht, hx, ha => by
    unfold psum at h
    by_cases hc : (rn b L (t + x)).natAbs ≤ G
    · rw [if_pos hc] at h
      have hx0 := hx x List.mem_cons_self
      obtain ⟨s1, _, _⟩ := sum_left g ht hx0
      have hr : OnG b L G (rn b L (t + x)) := by
        obtain ⟨q, e, h1, h2⟩ := rn_cases (L := L) g.hb (t + x)
        have hu : (t + x).natAbs < L * spc b L (t + x).natAbs := spx_up g.hb (by have := g.L1; omega)
        have hs := spc_pos (L := L) (n := (t + x).natAbs) g.hb
        refine onG_mul (k := spx b L (t + x).natAbs) (q := q) g hc ?_ e
        show _ ≤ L * spc b L (t + x).natAbs
        generalize spc b L (t + x).natAbs = S at *
        have e2 : (rn b L (t + x)).natAbs = q.natAbs * S := by rw [e, natAbs_mulI]
        have h4 : q.natAbs * S < (L + 1) * S := by
          rw [← e2, Nat.add_mul]
          omega
        have := Nat.lt_of_mul_lt_mul_right h4
        rw [e2]
        exact Nat.mul_le_mul_right S (by omega)
      have ih := psum_facts g xs _ _ p h hr (fun y hy => hx y (List.mem_cons_of_mem _ hy)) (fun y hy => by
        rcases List.mem_append.mp hy with hy | hy
        · exact ha y hy
        · rw [List.mem_singleton.mp hy]; exact s1)
      obtain ⟨i1, i2, i3, i4⟩ := ih
      refine ⟨i1, i2, ?_, ?_⟩
      · rw [i3, List.sum_append, List.sum_cons, List.sum_cons, List.sum_nil]
        omega
      · rw [i4]
        simp
        omega
    · rw [if_neg hc] at h
      cases h
theorem onG_two (g : Gr b f r L G) {d : Int} (h0 : 0 ≤ d) (h2 : d < 3) (hG : d.natAbs ≤ G) : OnG b L G d := by
  by_cases h : d.natAbs < L
  · have := onG_small (n := d.natAbs) g h
    have e : ((d.natAbs : Nat) : Int) = d := by omega
    rwa [e] at this
  · have hL := g.L1
    have hd : d = 2 := by omega
    have hL2 : L = 2 := by omega
    subst hd
    have hb2 : b = 2 := by
      have h1 : b ^ 1 ≤ b ^ f := Nat.pow_le_pow_right (by have := g.hb; omega) g.hf
      rw [← g.eL, Nat.pow_one] at h1
      have := g.hb
      omega
    have hr : 1 ≤ r := by
      refine Nat.one_le_iff_ne_zero.mpr fun z => ?_
      have := g.eG
      rw [z, hL2, Nat.pow_zero] at this
      have h3 : (2 : Int).natAbs = 2 := rfl
      omega
    have := onG_rung (n := 1) (k := 1) g (by omega) hr
    rw [hb2] at this ⊢
    exact this
theorem onG_top (g : Gr b f r L G) : OnG b L G (G : Int) := by
  have := onG_rung (n := L - 1) (k := r) g (by have := g.L1; omega) (Nat.le_refl _)
  have e : b ^ r * (L - 1) = G := by rw [g.eG, Nat.mul_comm]
  rwa [e] at this
end
end My

namespace My
section
variable {b f r L G : Nat}
theorem rn_onG2 (g : Gr b f r L G) {t : Int} (h : (rn b L t).natAbs ≤ G) : OnG b L G (rn b L t) := by
  obtain ⟨q, e, h1, h2⟩ := rn_cases (L := L) g.hb t
  have hu : t.natAbs < L * spc b L t.natAbs := spx_up g.hb (by have := g.L1; omega)
  have hs := spc_pos (L := L) (n := t.natAbs) g.hb
  refine onG_mul (k := spx b L t.natAbs) (q := q) g h ?_ e
  show _ ≤ L * spc b L t.natAbs
  generalize spc b L t.natAbs = S at *
  have e2 : (rn b L t).natAbs = q.natAbs * S := by rw [e, natAbs_mulI]
  have h4 : q.natAbs * S < (L + 1) * S := by
    rw [← e2, Nat.add_mul]
    omega
  have := Nat.lt_of_mul_lt_mul_right h4
  rw [e2]
  exact Nat.mul_le_mul_right S (by omega)
theorem rn_mono (g : Gr b f r L G) {x y : Int} (hx : (rn b L x).natAbs ≤ G) (hy : (rn b L y).natAbs ≤ G) (h : x ≤ y) : rn b L x ≤ rn b L y := by
  by_cases e : x = y
  · subst e; exact Int.le_refl _
  · have n1 := rn_near (w := x) g (rn_onG2 g hy)
    have n2 := rn_near (w := y) g (rn_onG2 g hx)
    omega
/-- the sign -/
def sgn (t : Int) : Int := if t < 0 then -1 else if 0 < t then 1 else 0
theorem sgn_neg (t : Int) : sgn (-t) = -sgn t := by
  unfold sgn
  split <;> split <;> (try split) <;> omega
theorem sgn_cases (t : Int) : -1 ≤ sgn t ∧ sgn t ≤ 1 := by
  unfold sgn
  split <;> (try split) <;> omega
theorem sgn_cross (g : Gr b f r L G) {x y : Int} (hx : (rn b L x).natAbs ≤ G) (hy : (rn b L y).natAbs ≤ G) : sgn (rn b L x - rn b L y) = 0 ∨ sgn (rn b L x - rn b L y) = sgn (x - y) := by
  rcases Int.lt_trichotomy x y with h | h | h
  · have := rn_mono g hx hy (by omega)
    unfold sgn
    (repeat' split) <;> omega
  · subst h
    rw [Int.sub_self, Int.sub_self]
    exact .inr rfl
  · have := rn_mono g hy hx (by omega)
    unfold sgn
    (repeat' split) <;> omega
theorem rn_sgn (g : Gr b f r L G) (t : Int) : sgn (rn b L t) = sgn t := by
  have := rn_half g (t := t)
  unfold sgn
  (repeat' split) <;> omega
theorem rn_zero (hb : 2 ≤ b) : rn b L 0 = 0 := rn_self hb (by simp)
theorem rn_spx (g : Gr b f r L G) (t : Int) : spx b L t.natAbs ≤ spx b L (rn b L t).natAbs := by
  have hL := g.L1
  refine Nat.le_of_not_lt fun hlt => ?_
  have he : 0 < spx b L t.natAbs := by omega
  have lw := spx_low (n := t.natAbs) g.hb (spx b L t.natAbs - 1) L (by omega) (by omega)
  have up := spx_up (n := (rn b L t).natAbs) (L := L) g.hb (by omega)
  have hle : L * b ^ spx b L (rn b L t).natAbs ≤ L * b ^ (spx b L t.natAbs - 1) := Nat.mul_le_mul_left _ (Nat.pow_le_pow_right (by have := g.hb; omega) (by omega))
  have hd : spc b L t.natAbs ∣ L * b ^ (spx b L t.natAbs - 1) := by
    rw [g.eL, ← Nat.pow_add]
    exact Nat.pow_dvd_pow b (by have := g.hf; omega)
  generalize L * b ^ (spx b L t.natAbs - 1) = B at *
  have hh := rn_half g (t := t)
  by_cases ht : 0 ≤ t
  · have := rn_near_mul (L := L) g.hb (w := t) (y := (B : Int)) (Int.natCast_dvd_natCast.mpr hd)
    omega
  · have := rn_near_mul (L := L) g.hb (w := t) (y := -(B : Int)) (Int.dvd_neg.mpr (Int.natCast_dvd_natCast.mpr hd))
    omega
theorem rn_spc (g : Gr b f r L G) (t : Int) : spc b L t.natAbs ≤ spc b L (rn b L t).natAbs := Nat.pow_le_pow_right (by have := g.hb; omega) (rn_spx g t)
theorem pow_odd {b n : Nat} (h : b ^ n % 2 = 1) (hn : 0 < n) : b % 2 = 1 := by
  rcases Nat.mod_two_eq_zero_or_one b with h0 | h1
  · rw [Nat.pow_mod, h0, Nat.zero_pow hn] at h
    simp at h
  · exact h1
theorem odd_pow {b n : Nat} (h : b % 2 = 1) : b ^ n % 2 = 1 := by
  rw [Nat.pow_mod, h, Nat.one_pow]
theorem rn_fits (g : Gr b f r L G) {e : Nat} {t : Int} (h : 2 * t.natAbs ≤ b ^ e) : 2 * (rn b L t).natAbs ≤ b ^ e := by
  by_cases h0 : t = 0
  · rw [h0, rn_zero g.hb]; simp
  have hb := g.hb
  have hL := g.L1
  have he : 0 < e := by
    refine Nat.pos_of_ne_zero fun z => ?_
    rw [z, Nat.pow_zero] at h
    omega
  have hbL : b ≤ L := by
    have h1 : b ^ 1 ≤ b ^ f := Nat.pow_le_pow_right (by omega) g.hf
    rw [Nat.pow_one, ← g.eL] at h1
    exact h1
  have hk : spx b L t.natAbs ≤ e - 1 := by
    refine spx_le hb (by omega) ?_
    have h1 : b * b ^ (e - 1) ≤ L * b ^ (e - 1) := Nat.mul_le_mul_right _ hbL
    have h2 : b ^ e = b * b ^ (e - 1) := by
      rw [Nat.mul_comm, ← Nat.pow_succ]
      congr 1
      omega
    omega
  obtain ⟨q, eq, h1, h2⟩ := rn_cases (L := L) hb t
  have hs := spc_pos (L := L) (n := t.natAbs) hb
  have hc : b ^ e = b ^ (e - spx b L t.natAbs) * spc b L t.natAbs := by
    unfold spc
    rw [← Nat.pow_add]
    congr 1
    omega
  have e2 : (rn b L t).natAbs = q.natAbs * spc b L t.natAbs := by rw [eq, natAbs_mulI]
  refine Nat.le_of_not_lt fun hlt => ?_
  have hodd := @pow_odd b (e - spx b L t.natAbs)
  have hod2 := @odd_pow b e
  generalize spc b L t.natAbs = S at *
  generalize hcd : b ^ (e - spx b L t.natAbs) = c at *
  rw [e2, hc] at hlt
  have hlt' : c * S < 2 * q.natAbs * S := by rw [Nat.mul_assoc]; exact hlt
  have h3 := Nat.lt_of_mul_lt_mul_right hlt'
  have h4 : (c + 1) * S ≤ 2 * q.natAbs * S := Nat.mul_le_mul_right _ h3
  rw [Nat.add_mul, Nat.one_mul, Nat.mul_assoc, ← e2] at h4
  have h5 : 2 * (rn b L t).natAbs = (c + 1) * S := by
    rw [Nat.add_mul, Nat.one_mul]
    omega
  have h6 : 2 * t.natAbs = b ^ e := by
    rw [Nat.add_mul, Nat.one_mul] at h5
    omega
  have h7 : 2 * q.natAbs = c + 1 := by
    rw [e2, ← Nat.mul_assoc] at h5
    exact Nat.mul_right_cancel hs h5
  have h8 := hod2 (hodd (by omega) (by omega))
  omega
theorem rn_next (g : Gr b f r L G) (t : Int) : 2 * (rn b L (t - rn b L t)).natAbs ≤ spc b L (rn b L t).natAbs := by
  obtain ⟨q, e, h1, h2⟩ := rn_cases (L := L) g.hb t
  have h3 : 2 * (t - rn b L t).natAbs ≤ b ^ spx b L t.natAbs := by
    show _ ≤ spc b L t.natAbs
    omega
  exact Nat.le_trans (rn_fits g h3) (rn_spc g t)
theorem row_next (g : Gr b f r L G) (t : Int) : ∀ (i : Nat) (x y : Int), (row b L t)[i]? = some x → (row b L t)[i + 1]? = some y → y ≠ 0 ∧ 2 * y.natAbs ≤ spc b L x.natAbs := by
  refine row_ind g (P := fun t => ∀ (i : Nat) (x y : Int), (row b L t)[i]? = some x → (row b L t)[i + 1]? = some y → y ≠ 0 ∧ 2 * y.natAbs ≤ spc b L x.natAbs) (fun i x y h _ => by cases h) (fun t h ih i x y hx hy => ?_) t
  rw [row_cons g h] at hx hy
  cases i with
  | succ i => exact ih i x y hx hy
  | zero =>
    cases hx
    have hy : (row b L (t - rn b L t))[0]? = some y := hy
    by_cases h0 : t - rn b L t = 0
    · rw [h0] at hy
      cases hy
    · rw [row_cons g h0] at hy
      cases hy
      refine ⟨?_, rn_next g t⟩
      have := rn_half g (t := t - rn b L t)
      omega
theorem row_empty (g : Gr b f r L G) {t : Int} : row b L t = [] ↔ t = 0 := by
  constructor
  · intro h
    by_cases h0 : t = 0
    · exact h0
    · rw [row_cons g h0] at h
      cases h
  · intro h
    rw [h]; rfl
/-! ranks -/
def rk (b L n : Nat) : Nat := n / spc b L n + spx b L n * (L - L / b)
theorem div_b (g : Gr b f r L G) : 1 ≤ L / b ∧ L / b < L := by
  have hb := g.hb
  have h1 : b ^ 1 ≤ b ^ f := Nat.pow_le_pow_right (by omega) g.hf
  rw [Nat.pow_one, ← g.eL] at h1
  exact ⟨(Nat.one_le_div_iff (by omega)).mpr h1, Nat.div_lt_self (by omega) (by omega)⟩
theorem spx_top (g : Gr b f r L G) : spx b L G = r := by
  have hL := g.L1
  have h1 : spx b L G ≤ r := spx_le g.hb (by omega) g.Gl
  refine Nat.le_antisymm h1 (Nat.le_of_not_lt fun hlt => ?_)
  have up := spx_up (n := G) (L := L) g.hb (by omega)
  have hle : L * b ^ spx b L G ≤ L * b ^ (r - 1) := Nat.mul_le_mul_left _ (Nat.pow_le_pow_right (by have := g.hb; omega) (by omega))
  have h2 : b ^ r = b * b ^ (r - 1) := by
    rw [Nat.mul_comm, ← Nat.pow_succ]
    congr 1
    omega
  have h3 : L ≤ (L - 1) * b := by
    have : (L - 1) * 2 ≤ (L - 1) * b := Nat.mul_le_mul_left _ g.hb
    omega
  have h4 : L * b ^ (r - 1) ≤ (L - 1) * b * b ^ (r - 1) := Nat.mul_le_mul_right _ h3
  rw [Nat.mul_assoc, ← h2, ← g.eG] at h4
  omega
theorem rk_top (g : Gr b f r L G) : rk b L G = (L - 1) + r * (L - L / b) := by
  unfold rk spc
  rw [spx_top g]
  congr 1
  rw [g.eG]
  exact Nat.mul_div_cancel _ (Nat.pow_pos (by have := g.hb; omega))
theorem rk_lt (g : Gr b f r L G) {n : Nat} (h : n < G) : rk b L n < rk b L G := by
  have hL := g.L1
  have hp := spc_pos (L := L) (n := n) g.hb
  have hr : spx b L n ≤ r := spx_le g.hb (by omega) (Nat.lt_trans h g.Gl)
  obtain ⟨d1, d2⟩ := div_b g
  have hm : n / spc b L n < L := (Nat.div_lt_iff_lt_mul hp).mpr (spx_up g.hb (by omega))
  rw [rk_top g]
  unfold rk
  by_cases he : spx b L n = r
  · have : n / spc b L n < L - 1 := by
      refine (Nat.div_lt_iff_lt_mul hp).mpr ?_
      unfold spc
      rw [he, ← g.eG]
      exact h
    rw [he]
    omega
  · have : (spx b L n + 1) * (L - L / b) ≤ r * (L - L / b) := Nat.mul_le_mul_right _ (by omega)
    rw [Nat.add_mul] at this
    omega
theorem rk_le (g : Gr b f r L G) {n : Nat} (h : n ≤ G) : rk b L n ≤ rk b L G := by
  by_cases e : n = G
  · rw [e]; exact Nat.le_refl _
  · exact Nat.le_of_lt (rk_lt g (by omega))
theorem rk_pos (g : Gr b f r L G) : 1 ≤ rk b L G := by
  rw [rk_top g]
  have := g.L1
  omega
theorem rk_sz (g : Gr b f r L G) {n : Nat} (h : n ≤ G) : rk b L n ≤ L + r * L := by
  have h1 := rk_le g h
  rw [rk_top g] at h1
  have : r * (L - L / b) ≤ r * L := Nat.mul_le_mul_left _ (Nat.sub_le _ _)
  omega
def lev (b L k : Nat) : Nat := (k - L / b) / (L - L / b)
theorem lev_facts (g : Gr b f r L G) {k : Nat} (h : k ≤ rk b L G) : lev b L k ≤ r ∧ lev b L k * (L - L / b) ≤ k ∧ k - lev b L k * (L - L / b) < L := by
  obtain ⟨d1, d2⟩ := div_b g
  rw [rk_top g] at h
  unfold lev
  generalize L / b = q at *
  have hs : 0 < L - q := by omega
  have hm := Nat.div_add_mod (k - q) (L - q)
  have hl := Nat.mod_lt (k - q) hs
  rw [Nat.mul_comm] at hm
  refine ⟨?_, by omega, by omega⟩
  have : (k - q) / (L - q) * (L - q) < (r + 1) * (L - q) := by
    rw [Nat.add_mul]
    omega
  have := Nat.lt_of_mul_lt_mul_right this
  omega
theorem num_onG (g : Gr b f r L G) {k : Nat} (h : k ≤ rk b L G) : OnG b L G (((k - lev b L k * (L - L / b)) * b ^ lev b L k : Nat) : Int) := by
  obtain ⟨h1, h2, h3⟩ := lev_facts g h
  rw [Nat.mul_comm]
  exact onG_rung g h3 h1
end
end My

namespace My
/-! ### rounding of fractions, by four ways -/
inductive Wy
  | near | down | up | zero
def wup : Wy → Int → Int → Int → Bool
  | .near, q, m, s => decide (s < m * 2) || (decide (m * 2 = s) && decide (q % 2 = 1))
  | .down, _, _, _ => false
  | .up, _, _, _ => true
  | .zero, q, _, _ => decide (q < 0)
/-- the spacing at the fraction t / d -/
def sps (b L : Nat) (t : Int) (d : Nat) : Nat := spc b L (t.natAbs / d)
/-- rounded; without an end -/
def rg (y : Wy) (b L : Nat) (t : Int) (d : Nat) : Int :=
  if (t % ((d : Int) * (sps b L t d : Int)) != 0) = true ∧ wup y (t / ((d : Int) * (sps b L t d : Int))) (t % ((d : Int) * (sps b L t d : Int))) ((d : Int) * (sps b L t d : Int)) = true then (t / ((d : Int) * (sps b L t d : Int)) + 1) * (sps b L t d : Int)
  else t / ((d : Int) * (sps b L t d : Int)) * (sps b L t d : Int)
section
variable {b L : Nat}
theorem sps_pos (hb : 2 ≤ b) (t : Int) (d : Nat) : (0 : Int) < (sps b L t d : Int) := spcI_pos hb _
theorem rg_cases (y : Wy) (t : Int) (d : Nat) : ∃ q : Int, (q = t / ((d : Int) * (sps b L t d : Int)) ∨ (q = t / ((d : Int) * (sps b L t d : Int)) + 1 ∧ t % ((d : Int) * (sps b L t d : Int)) ≠ 0)) ∧ rg y b L t d = q * (sps b L t d : Int) := by
  unfold rg
  split
  · rename_i h
    exact ⟨_, .inr ⟨rfl, by simpa using h.1⟩, rfl⟩
  · exact ⟨_, .inl rfl, rfl⟩
/-- a multiple of the spacing stays -/
theorem rg_self (y : Wy) {n : Int} {d : Nat} (hb : 2 ≤ b) (hd : 0 < d) (h : n % (spc b L n.natAbs : Int) = 0) : rg y b L (n * (d : Int)) d = n := by
  have e : (n * (d : Int)).natAbs / d = n.natAbs := by
    rw [Int.natAbs_mul, Int.natAbs_natCast]
    exact Nat.mul_div_cancel _ hd
  have hs := spcI_pos (L := L) hb n.natAbs
  unfold rg sps
  rw [e]
  obtain ⟨c, hc⟩ := Int.dvd_of_emod_eq_zero h
  generalize (spc b L n.natAbs : Int) = s at *
  have hds : 0 < (d : Int) * s := Int.mul_pos (by omega) hs
  have e2 : n * (d : Int) = c * ((d : Int) * s) := by rw [hc, Int.mul_comm s c, Int.mul_assoc, Int.mul_comm s]
  rw [e2, Int.mul_emod_left, if_neg (by simp), Int.mul_ediv_cancel _ (by omega), hc, Int.mul_comm]
theorem rg_down_le (hb : 2 ≤ b) (t : Int) {d : Nat} (hd : 0 < d) : rg .down b L t d * (d : Int) ≤ t := by
  have hs := sps_pos (L := L) hb t d
  have hds : 0 < (d : Int) * (sps b L t d : Int) := Int.mul_pos (by omega) hs
  unfold rg
  rw [if_neg (by intro z; have h := z.2; cases h)]
  obtain ⟨h1, h2, h3⟩ := div_facts t _ hds
  generalize (sps b L t d : Int) = s at *
  have : t / ((d : Int) * s) * s * (d : Int) = t / ((d : Int) * s) * ((d : Int) * s) := by rw [Int.mul_assoc, Int.mul_comm s]
  omega
theorem rg_up_ge (hb : 2 ≤ b) (t : Int) {d : Nat} (hd : 0 < d) : t ≤ rg .up b L t d * (d : Int) := by
  have hs := sps_pos (L := L) hb t d
  have hds : 0 < (d : Int) * (sps b L t d : Int) := Int.mul_pos (by omega) hs
  obtain ⟨h1, h2, h3⟩ := div_facts t _ hds
  unfold rg
  generalize (sps b L t d : Int) = s at *
  split
  · have : (t / ((d : Int) * s) + 1) * s * (d : Int) = t / ((d : Int) * s) * ((d : Int) * s) + (d : Int) * s := by
      rw [Int.mul_assoc, Int.mul_comm s, Int.add_mul, Int.one_mul]
    omega
  · rename_i h
    have hm : t % ((d : Int) * s) = 0 := by
      by_cases z : t % ((d : Int) * s) = 0
      · exact z
      · exact absurd ⟨by simpa using z, rfl⟩ h
    have : t / ((d : Int) * s) * s * (d : Int) = t / ((d : Int) * s) * ((d : Int) * s) := by rw [Int.mul_assoc, Int.mul_comm s]
    omega
end
end My

namespace My
/-! ### rounding of fractions: it ascends, it is of the grid, twice and at once -/
section
variable {b f L : Nat}
theorem spx_mono (hb : 2 ≤ b) (hL : 1 ≤ L) {n n' : Nat} (h : n ≤ n') : spx b L n ≤ spx b L n' := spx_le hb hL (Nat.lt_of_le_of_lt h (spx_up hb hL))
theorem rg_form (y : Wy) (hb : 2 ≤ b) (t : Int) {d : Nat} (hd : 0 < d) :
    t = t / ((d : Int) * (sps b L t d : Int)) * ((d : Int) * (sps b L t d : Int)) + t % ((d : Int) * (sps b L t d : Int)) ∧ 0 ≤ t % ((d : Int) * (sps b L t d : Int)) ∧ t % ((d : Int) * (sps b L t d : Int)) < (d : Int) * (sps b L t d : Int) ∧
    ((rg y b L t d = t / ((d : Int) * (sps b L t d : Int)) * (sps b L t d : Int) ∧ (t % ((d : Int) * (sps b L t d : Int)) ≠ 0 → wup y (t / ((d : Int) * (sps b L t d : Int))) (t % ((d : Int) * (sps b L t d : Int))) ((d : Int) * (sps b L t d : Int)) = false)) ∨
    (rg y b L t d = (t / ((d : Int) * (sps b L t d : Int)) + 1) * (sps b L t d : Int) ∧ t % ((d : Int) * (sps b L t d : Int)) ≠ 0 ∧ wup y (t / ((d : Int) * (sps b L t d : Int))) (t % ((d : Int) * (sps b L t d : Int))) ((d : Int) * (sps b L t d : Int)) = true)) := by
  have hs := sps_pos (L := L) hb t d
  have hS : 0 < (d : Int) * (sps b L t d : Int) := Int.mul_pos (by omega) hs
  obtain ⟨h1, h2, h3⟩ := div_facts t _ hS
  refine ⟨h1, h2, h3, ?_⟩
  unfold rg
  split
  · rename_i h
    exact .inr ⟨rfl, by simpa using h.1, h.2⟩
  · rename_i h
    refine .inl ⟨rfl, fun hm => ?_⟩
    by_cases hw : wup y (t / ((d : Int) * (sps b L t d : Int))) (t % ((d : Int) * (sps b L t d : Int))) ((d : Int) * (sps b L t d : Int)) = true
    · exact absurd ⟨by simpa using hm, hw⟩ h
    · simpa using hw
theorem rg_le_of (y : Wy) (hb : 2 ≤ b) {t : Int} {d : Nat} (hd : 0 < d) {c : Int} (h : t ≤ c * ((d : Int) * (sps b L t d : Int))) : rg y b L t d ≤ c * (sps b L t d : Int) := by
  obtain ⟨h1, h2, h3, h4⟩ := rg_form (L := L) y hb t hd
  have hs := sps_pos (L := L) hb t d
  generalize t / ((d : Int) * (sps b L t d : Int)) = q at *
  generalize t % ((d : Int) * (sps b L t d : Int)) = m at *
  have hS : 0 < (d : Int) * (sps b L t d : Int) := Int.mul_pos (by omega) hs
  rcases h4 with ⟨e, _⟩ | ⟨e, hm, _⟩
  · rw [e]
    refine Int.mul_le_mul_of_nonneg_right ?_ (by omega)
    exact Int.le_of_mul_le_mul_right (by omega) hS
  · rw [e]
    refine Int.mul_le_mul_of_nonneg_right ?_ (by omega)
    have : q * ((d : Int) * (sps b L t d : Int)) < c * ((d : Int) * (sps b L t d : Int)) := by omega
    have := Int.lt_of_mul_lt_mul_right this (by omega)
    omega
theorem le_rg_of (y : Wy) (hb : 2 ≤ b) {t : Int} {d : Nat} (hd : 0 < d) {c : Int} (h : c * ((d : Int) * (sps b L t d : Int)) ≤ t) : c * (sps b L t d : Int) ≤ rg y b L t d := by
  obtain ⟨h1, h2, h3, h4⟩ := rg_form (L := L) y hb t hd
  have hs := sps_pos (L := L) hb t d
  generalize t / ((d : Int) * (sps b L t d : Int)) = q at *
  generalize t % ((d : Int) * (sps b L t d : Int)) = m at *
  have hS : 0 < (d : Int) * (sps b L t d : Int) := Int.mul_pos (by omega) hs
  have hq : c ≤ q := by
    have : c * ((d : Int) * (sps b L t d : Int)) < (q + 1) * ((d : Int) * (sps b L t d : Int)) := by
      rw [Int.add_mul, Int.one_mul]; omega
    have := Int.lt_of_mul_lt_mul_right this (by omega)
    omega
  rcases h4 with ⟨e, _⟩ | ⟨e, _, _⟩
  · rw [e]
    exact Int.mul_le_mul_of_nonneg_right hq (by omega)
  · rw [e]
    exact Int.mul_le_mul_of_nonneg_right (by omega) (by omega)
/-- the same of any number that the spacing divides -/
theorem rg_le_dvd (y : Wy) (hb : 2 ≤ b) {t : Int} {d : Nat} (hd : 0 < d) {B : Int} (hB : (sps b L t d : Int) ∣ B) (h : t ≤ B * (d : Int)) : rg y b L t d ≤ B := by
  obtain ⟨c, rfl⟩ := hB
  rw [Int.mul_comm]
  refine rg_le_of y hb hd ?_
  have : (sps b L t d : Int) * c * (d : Int) = c * ((d : Int) * (sps b L t d : Int)) := by
    rw [Int.mul_comm (sps b L t d : Int) c, Int.mul_assoc, Int.mul_comm (sps b L t d : Int)]
  omega
theorem dvd_le_rg (y : Wy) (hb : 2 ≤ b) {t : Int} {d : Nat} (hd : 0 < d) {B : Int} (hB : (sps b L t d : Int) ∣ B) (h : B * (d : Int) ≤ t) : B ≤ rg y b L t d := by
  obtain ⟨c, rfl⟩ := hB
  rw [Int.mul_comm (sps b L t d : Int) c]
  refine le_rg_of y hb hd ?_
  have : (sps b L t d : Int) * c * (d : Int) = c * ((d : Int) * (sps b L t d : Int)) := by
    rw [Int.mul_comm (sps b L t d : Int) c, Int.mul_assoc, Int.mul_comm (sps b L t d : Int)]
  omega
theorem wup_mono {y : Wy} {q m m' s : Int} (h : m ≤ m') (hu : wup y q m s = true) : wup y q m' s = true := by
  cases y with
  | near =>
    simp [wup] at *
    omega
  | down => exact hu
  | up => exact hu
  | zero => exact hu
theorem rg_mono_same (y : Wy) (hb : 2 ≤ b) {t t' : Int} {d : Nat} (hd : 0 < d) (h : t ≤ t') (hs : sps b L t d = sps b L t' d) : rg y b L t d ≤ rg y b L t' d := by
  have hs0 := sps_pos (L := L) hb t d
  have hS : 0 < (d : Int) * (sps b L t d : Int) := Int.mul_pos (by omega) hs0
  obtain ⟨a1, a2, a3, a4⟩ := rg_form (L := L) y hb t hd
  obtain ⟨c1, c2, c3, c4⟩ := rg_form (L := L) y hb t' hd
  have up1 : ∀ c, t ≤ c * ((d : Int) * (sps b L t d : Int)) → rg y b L t d ≤ c * (sps b L t d : Int) := fun c => rg_le_of y hb hd
  have lo2 : ∀ c, c * ((d : Int) * (sps b L t' d : Int)) ≤ t' → c * (sps b L t' d : Int) ≤ rg y b L t' d := fun c => le_rg_of y hb hd
  have hq : t / ((d : Int) * (sps b L t d : Int)) ≤ t' / ((d : Int) * (sps b L t d : Int)) := Int.ediv_le_ediv hS h
  rw [← hs] at *
  generalize (sps b L t d : Int) = s at *
  generalize t / ((d : Int) * s) = q at *
  generalize t % ((d : Int) * s) = m at *
  generalize t' / ((d : Int) * s) = q' at *
  generalize t' % ((d : Int) * s) = m' at *
  generalize (d : Int) * s = S at *
  by_cases hqq : q = q'
  · subst hqq
    have hm : m ≤ m' := by omega
    rcases a4 with ⟨e, _⟩ | ⟨e, hm0, hu⟩
    · rw [e]
      exact lo2 q (by omega)
    · have hu' := wup_mono hm hu
      rcases c4 with ⟨_, hf⟩ | ⟨e', _, _⟩
      · rw [hf (by omega)] at hu'
        cases hu'
      · rw [e, e']
        exact Int.le_refl _
  · have h1 := up1 (q + 1) (by rw [Int.add_mul, Int.one_mul]; omega)
    have h2 := lo2 q' (by omega)
    have h3 : (q + 1) * s ≤ q' * s := Int.mul_le_mul_of_nonneg_right (by omega) (by omega)
    omega
theorem band (hb : 2 ≤ b) (hf : 1 ≤ f) {n n' : Nat} (h : spx b (b ^ f) n < spx b (b ^ f) n') : ∃ B : Nat, n < B ∧ B ≤ n' ∧ spc b (b ^ f) n ∣ B ∧ spc b (b ^ f) n' ∣ B := by
  have hL : 1 ≤ b ^ f := Nat.pow_pos (by omega)
  refine ⟨b ^ f * b ^ (spx b (b ^ f) n' - 1), ?_, spx_low hb _ _ hL (by omega), ?_, ?_⟩
  · exact Nat.lt_of_lt_of_le (spx_up hb hL) (Nat.mul_le_mul_left _ (Nat.pow_le_pow_right (by omega) (by omega)))
  · rw [← Nat.pow_add]
    exact Nat.pow_dvd_pow b (by omega)
  · rw [← Nat.pow_add]
    exact Nat.pow_dvd_pow b (by omega)
theorem rg_mono (y : Wy) (hb : 2 ≤ b) (hf : 1 ≤ f) {t t' : Int} {d : Nat} (hd : 0 < d) (h : t ≤ t') : rg y b (b ^ f) t d ≤ rg y b (b ^ f) t' d := by
  have hL : 1 ≤ b ^ f := Nat.pow_pos (by omega)
  have mulc : ∀ B : Nat, ((B * d : Nat) : Int) = (B : Int) * (d : Int) := fun B => Int.natCast_mul B d
  by_cases h0 : 0 ≤ t
  · have hn : t.natAbs / d ≤ t'.natAbs / d := Nat.div_le_div_right (by omega)
    have he := spx_mono hb hL hn
    by_cases hee : spx b (b ^ f) (t.natAbs / d) = spx b (b ^ f) (t'.natAbs / d)
    · exact rg_mono_same y hb hd h (by unfold sps spc; rw [hee])
    · obtain ⟨B, b1, b2, b3, b4⟩ := band hb hf (Nat.lt_of_le_of_ne he hee)
      have c1 : t.natAbs < B * d := (Nat.div_lt_iff_lt_mul hd).mp b1
      have c2 : B * d ≤ t'.natAbs := (Nat.le_div_iff_mul_le hd).mp b2
      have r1 := rg_le_dvd (L := b ^ f) y hb hd (B := (B : Int)) (Int.natCast_dvd_natCast.mpr b3) (by rw [← mulc]; omega : t ≤ _)
      have r2 := dvd_le_rg (L := b ^ f) y hb hd (B := (B : Int)) (Int.natCast_dvd_natCast.mpr b4) (by rw [← mulc]; omega : _ ≤ t')
      omega
  · by_cases h1 : 0 ≤ t'
    · have r1 := rg_le_dvd (L := b ^ f) y hb hd (B := 0) (t := t) (Int.dvd_zero _) (by omega)
      have r2 := dvd_le_rg (L := b ^ f) y hb hd (B := 0) (t := t') (Int.dvd_zero _) (by omega)
      omega
    · have hn : t'.natAbs / d ≤ t.natAbs / d := Nat.div_le_div_right (by omega)
      have he := spx_mono hb hL hn
      by_cases hee : spx b (b ^ f) (t'.natAbs / d) = spx b (b ^ f) (t.natAbs / d)
      · exact rg_mono_same y hb hd h (by unfold sps spc; rw [hee])
      · obtain ⟨B, b1, b2, b3, b4⟩ := band hb hf (Nat.lt_of_le_of_ne he hee)
        have c1 : t'.natAbs < B * d := (Nat.div_lt_iff_lt_mul hd).mp b1
        have c2 : B * d ≤ t.natAbs := (Nat.le_div_iff_mul_le hd).mp b2
        have r1 := rg_le_dvd (L := b ^ f) y hb hd (B := -(B : Int)) (Int.dvd_neg.mpr (Int.natCast_dvd_natCast.mpr b4)) (by rw [Int.neg_mul, ← mulc]; omega : t ≤ _)
        have r2 := dvd_le_rg (L := b ^ f) y hb hd (B := -(B : Int)) (Int.dvd_neg.mpr (Int.natCast_dvd_natCast.mpr b3)) (by rw [Int.neg_mul, ← mulc]; omega : _ ≤ t')
        omega
end
end My

namespace My
section
variable {b f : Nat}
/-- a number up to the next power is a multiple of its own spacing -/
theorem mul_self (hb : 2 ≤ b) (hf : 1 ≤ f) {n : Int} {e : Nat} (h1 : n.natAbs ≤ b ^ f * b ^ e) (h2 : ((b ^ e : Nat) : Int) ∣ n) : n % (spc b (b ^ f) n.natAbs : Int) = 0 := by
  have hL : 1 ≤ b ^ f := Nat.pow_pos (by omega)
  refine Int.emod_eq_zero_of_dvd ?_
  by_cases h : n.natAbs < b ^ f * b ^ e
  · exact Int.dvd_trans (Int.natCast_dvd_natCast.mpr (Nat.pow_dvd_pow b (spx_le hb hL h))) h2
  · have h4 : n.natAbs = b ^ (f + e) := by rw [Nat.pow_add]; omega
    have h5 : spx b (b ^ f) n.natAbs ≤ e + 1 := by
      refine spx_le hb hL ?_
      rw [h4, Nat.pow_add]
      exact Nat.mul_lt_mul_of_pos_left (Nat.pow_lt_pow_right (by omega) (by omega)) hL
    have h6 : spc b (b ^ f) n.natAbs ∣ b ^ (f + e) := Nat.pow_dvd_pow b (by omega)
    rw [← h4] at h6
    exact Int.ofNat_dvd_left.mpr h6
theorem sps_up (hb : 2 ≤ b) (t : Int) {d : Nat} (hd : 0 < d) : t.natAbs < b ^ f * spc b (b ^ f) (t.natAbs / d) * d := by
  have hL : 1 ≤ b ^ f := Nat.pow_pos (by omega)
  exact (Nat.div_lt_iff_lt_mul hd).mp (spx_up hb hL)
theorem rg_bound (y : Wy) (hb : 2 ≤ b) (t : Int) {d : Nat} (hd : 0 < d) : (rg y b (b ^ f) t d).natAbs ≤ b ^ f * spc b (b ^ f) (t.natAbs / d) := by
  have h := sps_up (f := f) hb t hd
  have hdv : (sps b (b ^ f) t d : Int) ∣ ((b ^ f * spc b (b ^ f) (t.natAbs / d) : Nat) : Int) := Int.natCast_dvd_natCast.mpr (Nat.dvd_mul_left _ _)
  have mulc : ∀ B : Nat, ((B * d : Nat) : Int) = (B : Int) * (d : Int) := fun B => Int.natCast_mul B d
  have r1 := rg_le_dvd y hb hd hdv (by rw [← mulc]; omega : t ≤ _)
  have r2 := dvd_le_rg y hb hd (Int.dvd_neg.mpr hdv) (by rw [Int.neg_mul, ← mulc]; omega : _ ≤ t)
  omega
theorem rg_mul (y : Wy) (hb : 2 ≤ b) (t : Int) {d : Nat} (hd : 0 < d) : ((spc b (b ^ f) (t.natAbs / d) : Nat) : Int) ∣ rg y b (b ^ f) t d := by
  obtain ⟨_, _, _, h | h⟩ := rg_form (L := b ^ f) y hb t hd
  · rw [h.1]; exact Int.dvd_mul_left _ _
  · rw [h.1]; exact Int.dvd_mul_left _ _
/-- what is rounded is of the grid -/
theorem rg_grid (y : Wy) (hb : 2 ≤ b) (hf : 1 ≤ f) (t : Int) {d : Nat} (hd : 0 < d) : rg y b (b ^ f) t d % (spc b (b ^ f) (rg y b (b ^ f) t d).natAbs : Int) = 0 :=
  mul_self hb hf (rg_bound y hb t hd) (rg_mul y hb t hd)
theorem rg_of_grid (y : Wy) (hb : 2 ≤ b) {n : Int} (h : n % (spc b (b ^ f) n.natAbs : Int) = 0) : rg y b (b ^ f) n 1 = n := by
  have := rg_self y (d := 1) hb (by decide) h
  simpa using this
/-- near: half a spacing at most -/
theorem near_half (hb : 2 ≤ b) (t : Int) {d : Nat} (hd : 0 < d) {L : Nat} : 2 * (t - rg .near b L t d * (d : Int)) ≤ (d : Int) * (sps b L t d : Int) ∧ -((d : Int) * (sps b L t d : Int)) ≤ 2 * (t - rg .near b L t d * (d : Int)) := by
  obtain ⟨h1, h2, h3, h4⟩ := rg_form (L := L) .near hb t hd
  generalize t / ((d : Int) * (sps b L t d : Int)) = q at *
  generalize t % ((d : Int) * (sps b L t d : Int)) = m at *
  have e1 : q * (sps b L t d : Int) * (d : Int) = q * ((d : Int) * (sps b L t d : Int)) := by rw [Int.mul_assoc, Int.mul_comm (sps b L t d : Int)]
  have e2 : (q + 1) * (sps b L t d : Int) * (d : Int) = q * ((d : Int) * (sps b L t d : Int)) + (d : Int) * (sps b L t d : Int) := by rw [Int.mul_assoc, Int.mul_comm (sps b L t d : Int), Int.add_mul, Int.one_mul]
  rcases h4 with ⟨e, hu⟩ | ⟨e, hm, hu⟩
  · rw [e, e1]
    by_cases hm : m = 0
    · omega
    · have := hu hm
      simp [wup] at this
      omega
  · rw [e, e2]
    simp [wup] at hu
    omega
/-- ties of fractions -/
def tie (b L : Nat) (t : Int) (d : Nat) : Prop := t % ((d : Int) * (sps b L t d : Int)) * 2 = (d : Int) * (sps b L t d : Int)
/-- rounding twice is rounding at once, but behind ties -/
theorem twice_once (hb : 2 ≤ b) (hf : 1 ≤ f) (t : Int) {d : Nat} (hd : 0 < d) (h1 : ¬ (b % 2 = 1 ∧ tie b (b ^ f) t d)) (h2 : ¬ tie b (b ^ f) (rg .near b (b ^ (f + 2)) t d) 1) :
    rg .near b (b ^ f) (rg .near b (b ^ (f + 2)) t d) 1 = rg .near b (b ^ f) t d := by
  have hL : 1 ≤ b ^ f := Nat.pow_pos (by omega)
  have hL2 : 1 ≤ b ^ (f + 2) := Nat.pow_pos (by omega)
  have hLL : b ^ f ≤ b ^ (f + 2) := Nat.pow_le_pow_right (by omega) (by omega)
  -- both exponents
  have he : spx b (b ^ (f + 2)) (t.natAbs / d) ≤ spx b (b ^ f) (t.natAbs / d) := by
    refine spx_le hb hL2 ?_
    exact Nat.lt_of_lt_of_le (spx_up hb hL) (Nat.mul_le_mul_right _ hLL)
  by_cases hee : spx b (b ^ (f + 2)) (t.natAbs / d) = spx b (b ^ f) (t.natAbs / d)
  · -- one spacing: at once
    have hs : sps b (b ^ (f + 2)) t d = sps b (b ^ f) t d := by unfold sps spc; rw [hee]
    have hu : rg .near b (b ^ (f + 2)) t d = rg .near b (b ^ f) t d := by unfold rg; rw [hs]
    rw [hu]
    exact rg_of_grid .near hb (rg_grid .near hb hf t hd)
  have nh := near_half (L := b ^ (f + 2)) hb t hd
  obtain ⟨hd2, _⟩ : ((spc b (b ^ (f + 2)) (t.natAbs / d) : Nat) : Int) ∣ rg .near b (b ^ (f + 2)) t d ∧ True := ⟨rg_mul .near hb t hd, trivial⟩
  -- the worth between multiples of the greater spacing
  obtain ⟨a1, a2, a3, a4⟩ := rg_form (L := b ^ f) .near hb t hd
  have hs2 := sps_pos (L := b ^ (f + 2)) hb t d
  have hs0 := sps_pos (L := b ^ f) hb t d
  have hk : ∃ k, 1 ≤ k ∧ sps b (b ^ f) t d = b ^ k * sps b (b ^ (f + 2)) t d := by
    refine ⟨spx b (b ^ f) (t.natAbs / d) - spx b (b ^ (f + 2)) (t.natAbs / d), by omega, ?_⟩
    unfold sps spc
    rw [← Nat.pow_add]
    congr 1
    omega
  obtain ⟨k, hk1, hk⟩ := hk
  have hc2 : 2 ≤ b ^ k := by
    have : b ^ 1 ≤ b ^ k := Nat.pow_le_pow_right (by omega) hk1
    rw [Nat.pow_one] at this
    omega
  have hodd := @pow_odd b k
  -- u stays between them
  have hdv : ∀ c : Int, (sps b (b ^ (f + 2)) t d : Int) ∣ c * (sps b (b ^ f) t d : Int) := fun c => by
    rw [hk, Int.natCast_mul]
    exact Int.dvd_trans (Int.dvd_mul_left _ _) (Int.dvd_mul_left _ _)
  have hlo := dvd_le_rg .near hb hd (t := t) (hdv (t / ((d : Int) * (sps b (b ^ f) t d : Int)))) (by rw [Int.mul_assoc, Int.mul_comm (sps b (b ^ f) t d : Int)]; omega)
  have hhi := rg_le_dvd .near hb hd (t := t) (hdv (t / ((d : Int) * (sps b (b ^ f) t d : Int)) + 1)) (by rw [Int.mul_assoc, Int.mul_comm (sps b (b ^ f) t d : Int), Int.add_mul, Int.one_mul]; omega)
  -- the spacing at u
  have hB := sps_up (f := f) hb t hd
  have mulc : ∀ B : Nat, ((B * d : Nat) : Int) = (B : Int) * (d : Int) := fun B => Int.natCast_mul B d
  have dB : (sps b (b ^ (f + 2)) t d : Int) ∣ ((b ^ f * spc b (b ^ f) (t.natAbs / d) : Nat) : Int) := by
    refine Int.natCast_dvd_natCast.mpr (Nat.dvd_trans ?_ (Nat.dvd_mul_left _ _))
    exact Nat.pow_dvd_pow b he
  have ub1 := rg_le_dvd .near hb hd dB (by rw [← mulc]; omega : t ≤ _)
  have ub2 := dvd_le_rg .near hb hd (Int.dvd_neg.mpr dB) (by rw [Int.neg_mul, ← mulc]; omega : _ ≤ t)
  have lowe : spx b (b ^ f) (t.natAbs / d) ≤ spx b (b ^ f) (rg .near b (b ^ (f + 2)) t d).natAbs := by
    refine Nat.le_of_not_lt fun hlt => ?_
    have l1 := spx_low hb (spx b (b ^ f) (t.natAbs / d) - 1) (b ^ f) (n := t.natAbs / d) hL (by omega)
    have l2 := spx_up (n := (rg .near b (b ^ (f + 2)) t d).natAbs) hb hL
    have l3 : b ^ f * b ^ spx b (b ^ f) (rg .near b (b ^ (f + 2)) t d).natAbs ≤ b ^ f * b ^ (spx b (b ^ f) (t.natAbs / d) - 1) := Nat.mul_le_mul_left _ (Nat.pow_le_pow_right (by omega) (by omega))
    have l4 : (sps b (b ^ (f + 2)) t d : Int) ∣ ((b ^ f * b ^ (spx b (b ^ f) (t.natAbs / d) - 1) : Nat) : Int) := by
      refine Int.natCast_dvd_natCast.mpr ?_
      rw [← Nat.pow_add]
      exact Nat.pow_dvd_pow b (by omega)
    have l5 := (Nat.le_div_iff_mul_le hd).mp l1
    by_cases ht : 0 ≤ t
    · have := dvd_le_rg .near hb hd l4 (by rw [← mulc]; omega : _ ≤ t)
      omega
    · have := rg_le_dvd .near hb hd (Int.dvd_neg.mpr l4) (by rw [Int.neg_mul, ← mulc]; omega : t ≤ _)
      omega
  have hc : (sps b (b ^ f) t d : Int) = ((b ^ k : Nat) : Int) * (sps b (b ^ (f + 2)) t d : Int) := by rw [hk, Int.natCast_mul]
  have hS : (d : Int) * (sps b (b ^ f) t d : Int) = ((b ^ k : Nat) : Int) * ((d : Int) * (sps b (b ^ (f + 2)) t d : Int)) := by
    rw [hc, ← Int.mul_assoc, ← Int.mul_assoc, Int.mul_comm (d : Int)]
  have hz : 0 < (d : Int) * (sps b (b ^ (f + 2)) t d : Int) := Int.mul_pos (by omega) hs2
  have hz2 : 2 * ((d : Int) * (sps b (b ^ (f + 2)) t d : Int)) ≤ ((b ^ k : Nat) : Int) * ((d : Int) * (sps b (b ^ (f + 2)) t d : Int)) := Int.mul_le_mul_of_nonneg_right (by omega) (by omega)
  have hud : ∀ (x w : Int), rg .near b (b ^ (f + 2)) t d = x * (sps b (b ^ f) t d : Int) + w → rg .near b (b ^ (f + 2)) t d * (d : Int) = x * ((d : Int) * (sps b (b ^ f) t d : Int)) + w * (d : Int) := fun x w e => by
    rw [e, Int.add_mul, Int.mul_assoc, Int.mul_comm (sps b (b ^ f) t d : Int)]
  have self : ((sps b (b ^ f) t d : Nat) : Int) ∣ rg .near b (b ^ (f + 2)) t d → rg .near b (b ^ f) (rg .near b (b ^ (f + 2)) t d) 1 = rg .near b (b ^ (f + 2)) t d := fun hdv => by
    refine rg_of_grid .near hb (mul_self (e := spx b (b ^ f) (t.natAbs / d)) hb hf ?_ hdv)
    show _ ≤ b ^ f * spc b (b ^ f) (t.natAbs / d)
    omega
  -- up or not, at the worth
  have vup : (d : Int) * (sps b (b ^ f) t d : Int) < 2 * (t % ((d : Int) * (sps b (b ^ f) t d : Int))) → rg .near b (b ^ f) t d = (t / ((d : Int) * (sps b (b ^ f) t d : Int)) + 1) * (sps b (b ^ f) t d : Int) := fun h => by
    rcases a4 with ⟨e, hu⟩ | ⟨e, _⟩
    · have := hu (by omega)
      simp [wup] at this
      omega
    · exact e
  have vdn : 2 * (t % ((d : Int) * (sps b (b ^ f) t d : Int))) < (d : Int) * (sps b (b ^ f) t d : Int) → rg .near b (b ^ f) t d = t / ((d : Int) * (sps b (b ^ f) t d : Int)) * (sps b (b ^ f) t d : Int) := fun h => by
    rcases a4 with ⟨e, _⟩ | ⟨e, _, hu⟩
    · exact e
    · simp [wup] at hu
      omega
  clear a4
  unfold tie at h1
  generalize hq : t / ((d : Int) * (sps b (b ^ f) t d : Int)) = q at *
  generalize hm : t % ((d : Int) * (sps b (b ^ f) t d : Int)) = m at *
  obtain ⟨w, hw⟩ : ∃ w, rg .near b (b ^ (f + 2)) t d = q * (sps b (b ^ f) t d : Int) + w := ⟨rg .near b (b ^ (f + 2)) t d - q * (sps b (b ^ f) t d : Int), by omega⟩
  have hwd := hud q w hw
  rw [Int.add_mul, Int.one_mul] at hhi vup
  by_cases w0 : w = 0
  · subst w0
    rw [Int.zero_mul, Int.add_zero] at hwd
    rw [Int.add_zero] at hw
    rw [self (by rw [hw]; exact Int.dvd_mul_left _ _), hw, vdn (by omega)]
  by_cases ws : w = (sps b (b ^ f) t d : Int)
  · rw [ws, Int.mul_comm (sps b (b ^ f) t d : Int)] at hwd
    have hw' : rg .near b (b ^ (f + 2)) t d = (q + 1) * (sps b (b ^ f) t d : Int) := by rw [Int.add_mul, Int.one_mul, hw, ws]
    rw [self (by rw [hw']; exact Int.dvd_mul_left _ _), hw', vup (by omega), Int.add_mul, Int.one_mul]
  -- strictly between
  have hwin : 0 < w ∧ w < (sps b (b ^ f) t d : Int) := by omega
  have hu0 : spx b (b ^ f) (rg .near b (b ^ (f + 2)) t d).natAbs = spx b (b ^ f) (t.natAbs / d) := by
    refine Nat.le_antisymm (spx_le hb hL ?_) lowe
    refine Nat.lt_of_le_of_ne (by show _ ≤ b ^ f * spc b (b ^ f) (t.natAbs / d); omega) fun heq => ?_
    have hdvu : ((sps b (b ^ f) t d : Nat) : Int) ∣ rg .near b (b ^ (f + 2)) t d := by
      refine Int.ofNat_dvd_left.mpr ?_
      rw [heq]
      exact Nat.dvd_mul_left _ _
    have hdw : ((sps b (b ^ f) t d : Nat) : Int) ∣ w := by
      have : w = rg .near b (b ^ (f + 2)) t d - q * (sps b (b ^ f) t d : Int) := by omega
      rw [this]
      exact Int.dvd_sub hdvu (Int.dvd_mul_left _ _)
    have := Int.le_of_dvd hwin.1 hdw
    omega
  have hsu : sps b (b ^ f) (rg .near b (b ^ (f + 2)) t d) 1 = sps b (b ^ f) t d := by
    unfold sps spc
    rw [Nat.div_one, hu0]
  obtain ⟨i, hi⟩ : ∃ i, w = i * (sps b (b ^ (f + 2)) t d : Int) := by
    obtain ⟨j, hj⟩ := hd2
    refine ⟨j - q * ((b ^ k : Nat) : Int), ?_⟩
    rw [Int.sub_mul, Int.mul_assoc, ← hc]
    have : j * (sps b (b ^ (f + 2)) t d : Int) = (sps b (b ^ (f + 2)) t d : Int) * j := Int.mul_comm _ _
    have hj' : rg .near b (b ^ (f + 2)) t d = (sps b (b ^ (f + 2)) t d : Int) * j := hj
    omega
  have hwd2 : w * (d : Int) = i * ((d : Int) * (sps b (b ^ (f + 2)) t d : Int)) := by
    rw [hi, Int.mul_assoc, Int.mul_comm (sps b (b ^ (f + 2)) t d : Int)]
  have ltw : ∀ x y : Int, x * ((d : Int) * (sps b (b ^ (f + 2)) t d : Int)) ≤ y * ((d : Int) * (sps b (b ^ (f + 2)) t d : Int)) → x ≤ y := fun x y h => Int.le_of_mul_le_mul_right h hz
  have lts : ∀ x y : Int, x * (sps b (b ^ (f + 2)) t d : Int) ≤ y * (sps b (b ^ (f + 2)) t d : Int) → x ≤ y := fun x y h => Int.le_of_mul_le_mul_right h hs2
  obtain ⟨u1, u2, u3, u4⟩ := rg_form (L := b ^ f) .near hb (rg .near b (b ^ (f + 2)) t d) (d := 1) (by decide)
  unfold tie at h2
  rw [hsu] at u1 u2 u3 u4 h2
  have one : (((1 : Nat) : Int)) * (sps b (b ^ f) t d : Int) = (sps b (b ^ f) t d : Int) := by simp
  rw [one] at u1 u2 u3 u4 h2
  have hq2 : rg .near b (b ^ (f + 2)) t d / (sps b (b ^ f) t d : Int) = q ∧ rg .near b (b ^ (f + 2)) t d % (sps b (b ^ f) t d : Int) = w := by
    have e : rg .near b (b ^ (f + 2)) t d = w + (sps b (b ^ f) t d : Int) * q := by rw [hw, Int.mul_comm q]; omega
    constructor
    · rw [e, Int.add_mul_ediv_left _ _ (by omega), Int.ediv_eq_zero_of_lt (by omega) hwin.2, Int.zero_add]
    · rw [e, Int.add_mul_emod_self_left]
      exact Int.emod_eq_of_lt (by omega) hwin.2
  rw [hq2.1, hq2.2] at u4
  rw [hq2.2] at h2
  have h2i : 2 * i ≠ ((b ^ k : Nat) : Int) := fun z => h2 (by
    rw [hi, hc, ← z]
    rw [Int.mul_comm _ 2, ← Int.mul_assoc])
  -- no tie of the worth between the finer multiples
  have notie : m * 2 = (d : Int) * (sps b (b ^ f) t d : Int) → ((b ^ k : Nat) : Int) % 2 = 1 → False := fun z1 z2 => h1 ⟨hodd (by omega) (by omega), z1⟩
  have key : (2 * i > ((b ^ k : Nat) : Int) → (d : Int) * (sps b (b ^ f) t d : Int) < 2 * m) ∧ (2 * i < ((b ^ k : Nat) : Int) → 2 * m < (d : Int) * (sps b (b ^ f) t d : Int)) := by
    generalize ((b ^ k : Nat) : Int) = c at *
    generalize (d : Int) * (sps b (b ^ (f + 2)) t d : Int) = z at *
    have ei : (2 * i) * z = 2 * (i * z) := Int.mul_assoc _ _ _
    have ei1 : (2 * i - 1) * z = 2 * (i * z) - z := by rw [Int.sub_mul, Int.one_mul, ei]
    have ei2 : (2 * i + 1) * z = 2 * (i * z) + z := by rw [Int.add_mul, Int.one_mul, ei]
    constructor
    · intro h
      have g1 : c * z ≤ (2 * i - 1) * z := Int.mul_le_mul_of_nonneg_right (by omega) (by omega)
      by_cases hne : m * 2 = (d : Int) * (sps b (b ^ f) t d : Int)
      · exfalso
        have := ltw (2 * i - 1) c (by omega)
        exact notie hne (by omega)
      · omega
    · intro h
      have g1 : (2 * i + 1) * z ≤ c * z := Int.mul_le_mul_of_nonneg_right (by omega) (by omega)
      by_cases hne : m * 2 = (d : Int) * (sps b (b ^ f) t d : Int)
      · exfalso
        have := ltw c (2 * i + 1) (by omega)
        exact notie hne (by omega)
      · omega
  have w2 : w * 2 = (2 * i) * (sps b (b ^ (f + 2)) t d : Int) := by rw [hi, Int.mul_comm _ 2, ← Int.mul_assoc]
  rcases u4 with ⟨e, hu⟩ | ⟨e, _, hu⟩
  · have hnot := hu (by omega)
    have hlt : 2 * i < ((b ^ k : Nat) : Int) := by
      simp [wup] at hnot
      have : (2 * i) * (sps b (b ^ (f + 2)) t d : Int) ≤ ((b ^ k : Nat) : Int) * (sps b (b ^ (f + 2)) t d : Int) := by rw [← w2, ← hc]; omega
      have := lts _ _ this
      omega
    rw [e, vdn (key.2 hlt)]
  · have hgt : 2 * i > ((b ^ k : Nat) : Int) := by
      simp [wup] at hu
      have : ((b ^ k : Nat) : Int) * (sps b (b ^ (f + 2)) t d : Int) ≤ (2 * i) * (sps b (b ^ (f + 2)) t d : Int) := by rw [← w2, ← hc]; omega
      have := lts _ _ this
      omega
    rw [e, vup (key.1 hgt), Int.add_mul, Int.one_mul]
end
end My

namespace My
/-! ### the multiples around a fraction, and what is left -/
section
variable {b L : Nat}
theorem ceil_eq {t S : Int} (hS : 0 < S) : -(-t / S) = if t % S = 0 then t / S else t / S + 1 := by
  obtain ⟨h1, h2, h3⟩ := div_facts t S hS
  by_cases h : t % S = 0
  · have e : -t = -(t / S) * S := by rw [Int.neg_mul]; omega
    rw [if_pos h, e, Int.mul_ediv_cancel _ (by omega)]
    omega
  · have e : -t = (S - t % S) + S * (-(t / S) - 1) := by
      rw [Int.mul_sub, Int.mul_neg, Int.mul_comm S (t / S)]
      omega
    rw [if_neg h, e, Int.add_mul_ediv_left _ _ (by omega), Int.ediv_eq_zero_of_lt (by omega) (by omega)]
    omega
def blw (b L : Nat) (t : Int) (d : Nat) : Int := t / ((d : Int) * (sps b L t d : Int)) * (sps b L t d : Int)
def abv (b L : Nat) (t : Int) (d : Nat) : Int := -(-t / ((d : Int) * (sps b L t d : Int))) * (sps b L t d : Int)
theorem around_facts (hb : 2 ≤ b) (t : Int) {d : Nat} (hd : 0 < d) : blw b L t d * (d : Int) ≤ t ∧ t ≤ abv b L t d * (d : Int) ∧ blw b L t d ≤ abv b L t d ∧
    (∀ y, rg y b L t d = blw b L t d ∨ rg y b L t d = abv b L t d) ∧ rg .down b L t d = blw b L t d ∧ rg .up b L t d = abv b L t d ∧
    rg .zero b L t d = (if 0 < t then blw b L t d else abv b L t d) ∧
    2 * (t - rg .near b L t d * (d : Int)) ≤ (abv b L t d - blw b L t d) * (d : Int) ∧ -((abv b L t d - blw b L t d) * (d : Int)) ≤ 2 * (t - rg .near b L t d * (d : Int)) := by
  have hs := sps_pos (L := L) hb t d
  have hS : 0 < (d : Int) * (sps b L t d : Int) := Int.mul_pos (by omega) hs
  have nh := near_half (L := L) hb t hd
  have F := fun y => rg_form (L := L) y hb t hd
  obtain ⟨a1, a2, a3, _⟩ := F .near
  have hc := ceil_eq (t := t) hS
  unfold blw abv
  rw [hc]
  have mulq : ∀ x : Int, x * (sps b L t d : Int) * (d : Int) = x * ((d : Int) * (sps b L t d : Int)) := fun x => by rw [Int.mul_assoc, Int.mul_comm (sps b L t d : Int)]
  have hneg : t / ((d : Int) * (sps b L t d : Int)) < 0 ↔ t < 0 := by
    constructor
    · intro z
      by_cases w : t < 0
      · exact w
      · exact absurd (Int.ediv_nonneg (show 0 ≤ t by omega) (show 0 ≤ (d : Int) * (sps b L t d : Int) by omega)) (by omega)
    · intro z
      exact Int.ediv_neg_of_neg_of_pos z hS
  have Fn := F .near
  have Fd := F .down
  have Fu := F .up
  have Fz := F .zero
  by_cases hm : t % ((d : Int) * (sps b L t d : Int)) = 0
  · rw [if_pos hm, mulq]
    have all : ∀ y, rg y b L t d = t / ((d : Int) * (sps b L t d : Int)) * (sps b L t d : Int) := fun y => by
      rcases (F y).2.2.2 with ⟨e, _⟩ | ⟨_, h, _⟩
      · exact e
      · exact absurd hm h
    refine ⟨by omega, by omega, Int.le_refl _, fun y => .inl (all y), all _, all _, ?_, ?_, ?_⟩
    · rw [all]; split <;> rfl
    · rw [all, mulq, Int.sub_self, Int.zero_mul]; omega
    · rw [all, mulq, Int.sub_self, Int.zero_mul]; omega
  · rw [if_neg hm]
    have e1 : (t / ((d : Int) * (sps b L t d : Int)) + 1) * ((d : Int) * (sps b L t d : Int)) = t / ((d : Int) * (sps b L t d : Int)) * ((d : Int) * (sps b L t d : Int)) + (d : Int) * (sps b L t d : Int) := by rw [Int.add_mul, Int.one_mul]
    have e2 : (t / ((d : Int) * (sps b L t d : Int)) + 1) * (sps b L t d : Int) = t / ((d : Int) * (sps b L t d : Int)) * (sps b L t d : Int) + (sps b L t d : Int) := by rw [Int.add_mul, Int.one_mul]
    have gap : ((t / ((d : Int) * (sps b L t d : Int)) + 1) * (sps b L t d : Int) - t / ((d : Int) * (sps b L t d : Int)) * (sps b L t d : Int)) * (d : Int) = (d : Int) * (sps b L t d : Int) := by
      rw [e2]
      have : t / ((d : Int) * (sps b L t d : Int)) * (sps b L t d : Int) + (sps b L t d : Int) - t / ((d : Int) * (sps b L t d : Int)) * (sps b L t d : Int) = (sps b L t d : Int) := by
        generalize t / ((d : Int) * (sps b L t d : Int)) * (sps b L t d : Int) = z
        omega
      rw [this, Int.mul_comm]
    rw [gap]
    refine ⟨by rw [mulq]; omega, by rw [mulq, e1]; omega, by rw [e2]; omega, fun y => ?_, ?_, ?_, ?_, nh.1, nh.2⟩
    · rcases (F y).2.2.2 with ⟨e, _⟩ | ⟨e, _, _⟩
      · exact .inl e
      · exact .inr e
    · rcases Fd.2.2.2 with ⟨e, _⟩ | ⟨_, _, h⟩
      · exact e
      · cases h
    · rcases Fu.2.2.2 with ⟨_, h⟩ | ⟨e, _, _⟩
      · exact absurd (h hm) (by intro z; cases z)
      · exact e
    · have ht0 : t ≠ 0 := fun z => hm (by rw [z]; simp)
      rcases Fz.2.2.2 with ⟨e, h⟩ | ⟨e, _, h⟩
      · have := h hm
        simp [wup] at this
        rw [e, if_pos]
        have h2 : ¬ t < 0 := fun z => by have := hneg.mpr z; omega
        omega
      · simp [wup] at h
        rw [e, if_neg]
        have := hneg.mp h
        omega
/-- in least terms: the same fraction, the same sign -/
theorem red_facts (x : Int) {d : Nat} (hd : 0 < d) : x / ((Nat.gcd x.natAbs d : Nat) : Int) * (d : Int) = x * ((d / Nat.gcd x.natAbs d : Nat) : Int) ∧ (0 ≤ x → 0 ≤ x / ((Nat.gcd x.natAbs d : Nat) : Int)) ∧ (x ≤ 0 → x / ((Nat.gcd x.natAbs d : Nat) : Int) ≤ 0) := by
  have hg : 0 < Nat.gcd x.natAbs d := Nat.gcd_pos_of_pos_right _ hd
  obtain ⟨c, hc⟩ : ((Nat.gcd x.natAbs d : Nat) : Int) ∣ x := Int.ofNat_dvd_left.mpr (Nat.gcd_dvd_left _ _)
  obtain ⟨e, he⟩ := Nat.gcd_dvd_right x.natAbs d
  have h2 : d / Nat.gcd x.natAbs d = e := by
    rw [Nat.div_eq_iff_eq_mul_right hg (Nat.gcd_dvd_right _ _)]
    exact he
  have h1 : x / ((Nat.gcd x.natAbs d : Nat) : Int) = c := by
    have : x / ((Nat.gcd x.natAbs d : Nat) : Int) = (((Nat.gcd x.natAbs d : Nat) : Int) * c) / ((Nat.gcd x.natAbs d : Nat) : Int) := by rw [← hc]
    rw [this]
    exact Int.mul_ediv_cancel_left _ (by omega)
  rw [h1, h2]
  have he' : (d : Int) = ((Nat.gcd x.natAbs d : Nat) : Int) * (e : Int) := by
    rw [← Int.natCast_mul, ← he]
  generalize Nat.gcd x.natAbs d = g at *
  refine ⟨?_, fun h => ?_, fun h => ?_⟩
  · rw [he', hc, Int.mul_left_comm, Int.mul_assoc]
  · by_cases z : c < 0
    · have : (g : Int) * c < 0 := Int.mul_neg_of_pos_of_neg (by omega) z
      omega
    · omega
  · by_cases z : 0 < c
    · have : 0 < (g : Int) * c := Int.mul_pos (by omega) z
      omega
    · omega
end
end My

namespace My
/-! ### what is rounded ascends: nothing at both ends alone -/
def cutO (M : Nat) (x : Int) : Option Int := if x.natAbs ≤ M then some x else none
theorem cut_above {M : Nat} : ∀ {xs : List Int}, (∀ x ∈ xs, (M : Int) < x) → xs.map (cutO M) = List.replicate xs.length none
  | [], _ => rfl
  | x :: xs, h => by
    have h1 := h x List.mem_cons_self
    rw [List.map_cons, List.length_cons, List.replicate_succ, cut_above fun y hy => h y (List.mem_cons_of_mem _ hy)]
    unfold cutO
    rw [if_neg (by omega)]
theorem cut_from {M : Nat} : ∀ {xs : List Int}, xs.Pairwise (· ≤ ·) → (∀ x ∈ xs, -(M : Int) ≤ x) → ∃ (ys : List Int) (j : Nat), xs.map (cutO M) = ys.map some ++ List.replicate j none ∧ ys.Pairwise (· ≤ ·) ∧ ∀ y ∈ ys, y ∈ xs
  | [], _, _ => ⟨[], 0, rfl, .nil, fun y hy => by cases hy⟩
  | x :: xs, hp, h => by
    obtain ⟨p1, p2⟩ := List.pairwise_cons.mp hp
    have h1 := h x List.mem_cons_self
    by_cases hx : x.natAbs ≤ M
    · obtain ⟨ys, j, e, q1, q2⟩ := cut_from p2 fun y hy => h y (List.mem_cons_of_mem _ hy)
      refine ⟨x :: ys, j, ?_, List.pairwise_cons.mpr ⟨fun y hy => p1 y (q2 y hy), q1⟩, fun y hy => ?_⟩
      · rw [List.map_cons, e, List.map_cons]
        unfold cutO
        rw [if_pos hx]
        rfl
      · rcases List.mem_cons.mp hy with rfl | hy
        · exact List.mem_cons_self
        · exact List.mem_cons_of_mem _ (q2 y hy)
    · refine ⟨[], (x :: xs).length, ?_, .nil, fun y hy => by cases hy⟩
      rw [cut_above]
      · rfl
      · intro y hy
        rcases List.mem_cons.mp hy with rfl | hy
        · omega
        · have := p1 y hy
          omega
theorem cut_all {M : Nat} : ∀ {xs : List Int}, xs.Pairwise (· ≤ ·) → ∃ (i : Nat) (ys : List Int) (j : Nat), xs.map (cutO M) = List.replicate i none ++ ys.map some ++ List.replicate j none ∧ ys.Pairwise (· ≤ ·)
  | [], _ => ⟨0, [], 0, rfl, .nil⟩
  | x :: xs, hp => by
    obtain ⟨p1, p2⟩ := List.pairwise_cons.mp hp
    by_cases hx : -(M : Int) ≤ x
    · obtain ⟨ys, j, e, q1, _⟩ := cut_from (M := M) hp fun y hy => by
        rcases List.mem_cons.mp hy with rfl | hy
        · exact hx
        · have := p1 y hy
          omega
      exact ⟨0, ys, j, e, q1⟩
    · obtain ⟨i, ys, j, e, q1⟩ := cut_all (M := M) p2
      refine ⟨i + 1, ys, j, ?_, q1⟩
      rw [List.map_cons, e, List.replicate_succ]
      unfold cutO
      rw [if_neg (by omega)]
      rfl
theorem next_le {ys : List Int} (h : ys.Pairwise (· ≤ ·)) (k : Nat) (x y : Int) (hx : ys[k]? = some x) (hy : ys[k + 1]? = some y) : x ≤ y := by
  obtain ⟨h1, rfl⟩ := List.getElem?_eq_some_iff.mp hx
  obtain ⟨h2, rfl⟩ := List.getElem?_eq_some_iff.mp hy
  exact List.pairwise_iff_getElem.mp h k (k + 1) h1 h2 (by omega)
theorem rg_asc {b f : Nat} (y : Wy) (hb : 2 ≤ b) (hf : 1 ≤ f) {d : Nat} (hd : 0 < d) {ts : List Int} (h : ts.Pairwise (· < ·)) : (ts.map fun t => rg y b (b ^ f) t d).Pairwise (· ≤ ·) :=
  List.pairwise_map.mpr (h.imp fun {s t} hst => rg_mono y hb hf hd (by omega))
end My

namespace My
/-! ### all numbers of a grid in a row, and those around a fraction -/
section
variable {b f : Nat}
def lad (b L : Nat) : Nat → List Int
  | 0 => (List.range L).map fun i => ((i : Nat) : Int)
  | k + 1 => lad b L k ++ (List.range (L - L / b)).map fun j => ((b ^ (k + 1) * (L / b + j) : Nat) : Int)
theorem Ldiv (hb : 2 ≤ b) (hf : 1 ≤ f) : b ^ f / b * b = b ^ f := Nat.div_mul_cancel (Nat.dvd_trans (by rw [Nat.pow_one]; exact Nat.dvd_refl b) (Nat.pow_dvd_pow b hf))
theorem lad_bound (hb : 2 ≤ b) (hf : 1 ≤ f) : ∀ (k : Nat) (x : Int), x ∈ lad b (b ^ f) k → ∃ n : Nat, x = (n : Int) ∧ n < b ^ f * b ^ k
  | 0, x, h => by
    obtain ⟨i, hi, rfl⟩ := List.mem_map.mp h
    exact ⟨i, rfl, by rw [Nat.pow_zero, Nat.mul_one]; exact List.mem_range.mp hi⟩
  | k + 1, x, h => by
    have hL : 1 ≤ b ^ f := Nat.pow_pos (by omega)
    rcases List.mem_append.mp h with h | h
    · obtain ⟨n, rfl, hn⟩ := lad_bound hb hf k x h
      refine ⟨n, rfl, Nat.lt_of_lt_of_le hn (Nat.mul_le_mul_left _ (Nat.pow_le_pow_right (by omega) (by omega)))⟩
    · obtain ⟨j, hj, rfl⟩ := List.mem_map.mp h
      have hj := List.mem_range.mp hj
      refine ⟨_, rfl, ?_⟩
      rw [Nat.mul_comm]
      exact Nat.mul_lt_mul_of_pos_right (by omega) (Nat.pow_pos (by omega))
theorem lad_asc (hb : 2 ≤ b) (hf : 1 ≤ f) : ∀ k : Nat, (lad b (b ^ f) k).Pairwise (· < ·)
  | 0 => List.pairwise_map.mpr (List.pairwise_lt_range.imp fun {x y} h => by omega)
  | k + 1 => by
    refine List.pairwise_append.mpr ⟨lad_asc hb hf k, List.pairwise_map.mpr (List.pairwise_lt_range.imp fun {x y} h => ?_), fun x hx y hy => ?_⟩
    · have : b ^ (k + 1) * (b ^ f / b + x) < b ^ (k + 1) * (b ^ f / b + y) := Nat.mul_lt_mul_of_pos_left (by omega) (Nat.pow_pos (by omega))
      omega
    · obtain ⟨n, rfl, hn⟩ := lad_bound hb hf k x hx
      obtain ⟨j, _, rfl⟩ := List.mem_map.mp hy
      have h1 : b ^ f * b ^ k = b ^ (k + 1) * (b ^ f / b) := by
        rw [Nat.pow_succ, Nat.mul_assoc, Nat.mul_comm b (b ^ f / b), Ldiv hb hf, Nat.mul_comm]
      have h2 : b ^ (k + 1) * (b ^ f / b) ≤ b ^ (k + 1) * (b ^ f / b + j) := Nat.mul_le_mul_left _ (by omega)
      omega
theorem lad_mem (hb : 2 ≤ b) (hf : 1 ≤ f) : ∀ (k n : Nat), ((n : Int) ∈ lad b (b ^ f) k) ↔ n < b ^ f * b ^ k ∧ spc b (b ^ f) n ∣ n
  | 0, n => by
    have hL : 1 ≤ b ^ f := Nat.pow_pos (by omega)
    rw [Nat.pow_zero, Nat.mul_one]
    constructor
    · intro h
      obtain ⟨i, hi, e⟩ := List.mem_map.mp h
      have hi := List.mem_range.mp hi
      have e : i = n := by omega
      subst e
      refine ⟨hi, ?_⟩
      unfold spc
      rw [spx_lt hi, Nat.pow_zero]
      exact Nat.one_dvd _
    · rintro ⟨h, _⟩
      exact List.mem_map.mpr ⟨n, List.mem_range.mpr h, rfl⟩
  | k + 1, n => by
    have hL : 1 ≤ b ^ f := Nat.pow_pos (by omega)
    have hp : 0 < b ^ (k + 1) := Nat.pow_pos (by omega)
    have h1 : b ^ f * b ^ k = b ^ (k + 1) * (b ^ f / b) := by
      rw [Nat.pow_succ, Nat.mul_assoc, Nat.mul_comm b (b ^ f / b), Ldiv hb hf, Nat.mul_comm]
    have ih := lad_mem hb hf k n
    constructor
    · intro h
      rcases List.mem_append.mp h with h | h
      · obtain ⟨h2, h3⟩ := ih.mp h
        exact ⟨Nat.lt_of_lt_of_le h2 (Nat.mul_le_mul_left _ (Nat.pow_le_pow_right (by omega) (by omega))), h3⟩
      · obtain ⟨j, hj, e⟩ := List.mem_map.mp h
        have hj := List.mem_range.mp hj
        have e : b ^ (k + 1) * (b ^ f / b + j) = n := by omega
        have hlt : n < b ^ f * b ^ (k + 1) := by
          rw [← e, Nat.mul_comm]
          exact Nat.mul_lt_mul_of_pos_right (by omega) hp
        refine ⟨hlt, Nat.dvd_trans (Nat.pow_dvd_pow b (spx_le hb hL hlt)) ?_⟩
        rw [← e]
        exact Nat.dvd_mul_right _ _
    · rintro ⟨h2, h3⟩
      refine List.mem_append.mpr ?_
      by_cases h4 : n < b ^ f * b ^ k
      · exact .inl (ih.mpr ⟨h4, h3⟩)
      · refine .inr ?_
        have h5 : spx b (b ^ f) n = k + 1 := by
          refine Nat.le_antisymm (spx_le hb hL h2) (Nat.lt_of_not_le fun h => ?_)
          have h6 := spx_up (n := n) hb hL
          have h7 : b ^ f * b ^ spx b (b ^ f) n ≤ b ^ f * b ^ k := Nat.mul_le_mul_left _ (Nat.pow_le_pow_right (by omega) h)
          omega
        unfold spc at h3
        rw [h5] at h3
        obtain ⟨c, rfl⟩ := h3
        have c1 : c < b ^ f := by
          rw [Nat.mul_comm] at h2
          exact Nat.lt_of_mul_lt_mul_right h2
        have c2 : b ^ f / b ≤ c := by
          refine Nat.le_of_mul_le_mul_left ?_ hp
          omega
        refine List.mem_map.mpr ⟨c - b ^ f / b, List.mem_range.mpr (by omega), ?_⟩
        have : b ^ f / b + (c - b ^ f / b) = c := by omega
        rw [this]
/-- the ladder to both sides -/
def rgs (b L k : Nat) : List Int := ((lad b L k).drop 1).reverse.map (fun x => -x) ++ lad b L k
theorem lad_cons (hb : 2 ≤ b) (hf : 1 ≤ f) : ∀ k : Nat, ∃ xs, lad b (b ^ f) k = 0 :: xs
  | 0 => by
    obtain ⟨m, hm⟩ : ∃ m, b ^ f = m + 1 := ⟨b ^ f - 1, by have : 1 ≤ b ^ f := Nat.pow_pos (by omega); omega⟩
    refine ⟨(List.range m).map fun i => ((i + 1 : Nat) : Int), ?_⟩
    unfold lad
    rw [hm, List.range_succ_eq_map, List.map_cons, List.map_map]
    rfl
  | k + 1 => by
    obtain ⟨xs, h⟩ := lad_cons hb hf k
    refine ⟨xs ++ (List.range (b ^ f - b ^ f / b)).map fun j => ((b ^ (k + 1) * (b ^ f / b + j) : Nat) : Int), ?_⟩
    show lad b (b ^ f) k ++ _ = _
    rw [h, List.cons_append]
theorem lad_tail (hb : 2 ≤ b) (hf : 1 ≤ f) {k : Nat} {x : Int} (h : x ∈ (lad b (b ^ f) k).drop 1) : 0 < x ∧ x ∈ lad b (b ^ f) k := by
  obtain ⟨xs, e⟩ := lad_cons hb hf k
  have ha := lad_asc hb hf k
  rw [e] at ha h ⊢
  exact ⟨(List.pairwise_cons.mp ha).1 x h, List.mem_cons_of_mem _ h⟩
theorem rgs_asc (hb : 2 ≤ b) (hf : 1 ≤ f) (k : Nat) : (rgs b (b ^ f) k).Pairwise (· < ·) := by
  refine List.pairwise_append.mpr ⟨List.pairwise_map.mpr (List.pairwise_reverse.mpr (List.Pairwise.imp ?_ (List.Pairwise.sublist (List.drop_sublist 1 _) (lad_asc hb hf k)))), lad_asc hb hf k, fun x hx y hy => ?_⟩
  · intro x y h
    omega
  · obtain ⟨z, hz, rfl⟩ := List.mem_map.mp hx
    have h1 := (lad_tail hb hf (List.mem_reverse.mp hz)).1
    obtain ⟨n, rfl, _⟩ := lad_bound hb hf k y hy
    omega
theorem rgs_mem (hb : 2 ≤ b) (hf : 1 ≤ f) (k : Nat) (n : Int) : n ∈ rgs b (b ^ f) k ↔ n.natAbs < b ^ f * b ^ k ∧ n % (spc b (b ^ f) n.natAbs : Int) = 0 := by
  have key : ∀ n : Nat, ((n : Int) ∈ lad b (b ^ f) k) ↔ n < b ^ f * b ^ k ∧ spc b (b ^ f) n ∣ n := lad_mem hb hf k
  have dv : n % (spc b (b ^ f) n.natAbs : Int) = 0 ↔ spc b (b ^ f) n.natAbs ∣ n.natAbs := by
    rw [← Int.dvd_iff_emod_eq_zero]
    exact Int.ofNat_dvd_left
  rw [dv, ← key]
  constructor
  · intro h
    rcases List.mem_append.mp h with h | h
    · obtain ⟨z, hz, rfl⟩ := List.mem_map.mp h
      obtain ⟨z0, hz⟩ := lad_tail hb hf (List.mem_reverse.mp hz)
      have : ((-z).natAbs : Int) = z := by omega
      rw [this]
      exact hz
    · obtain ⟨m, rfl, _⟩ := lad_bound hb hf k n h
      exact h
  · intro h
    refine List.mem_append.mpr ?_
    by_cases h0 : 0 ≤ n
    · have : ((n.natAbs : Nat) : Int) = n := by omega
      rw [this] at h
      exact .inr h
    · refine .inl (List.mem_map.mpr ⟨(n.natAbs : Int), List.mem_reverse.mpr ?_, by omega⟩)
      obtain ⟨xs, e⟩ := lad_cons hb hf k
      rw [e] at h ⊢
      rcases List.mem_cons.mp h with h | h
      · omega
      · exact h
/-- the last of those below, the first of those above -/
theorem last_is {ys : List Int} {B : Int} (ha : ys.Pairwise (· < ·)) (hB : B ∈ ys) (hm : ∀ y ∈ ys, y ≤ B) : ∃ zs, ys = zs ++ [B] := by
  have hne : ys ≠ [] := List.ne_nil_of_mem hB
  refine ⟨ys.dropLast, ?_⟩
  have e := List.dropLast_concat_getLast hne
  have h1 := hm _ (List.getLast_mem hne)
  rw [← e] at ha hB
  rcases List.mem_append.mp hB with h | h
  · have := (List.pairwise_append.mp ha).2.2 B h _ (List.mem_singleton.mpr rfl)
    omega
  · have h := List.mem_singleton.mp h
    rw [h]
    exact e.symm
theorem first_is {ys : List Int} {A : Int} (ha : ys.Pairwise (· < ·)) (hA : A ∈ ys) (hm : ∀ y ∈ ys, A ≤ y) : ∃ zs, ys = A :: zs := by
  cases ys with
  | nil => cases hA
  | cons y ys =>
    refine ⟨ys, ?_⟩
    have h1 := hm y List.mem_cons_self
    rcases List.mem_cons.mp hA with h | h
    · rw [h]
    · have := (List.pairwise_cons.mp ha).1 A h
      omega
end
end My

namespace My
section
variable {b f r : Nat}
/-- the multiples around a fraction are numbers of the ladder -/
theorem rg_in (y : Wy) (hb : 2 ≤ b) (hf : 1 ≤ f) {t : Int} {d : Nat} (hd : 0 < d) (h : t.natAbs ≤ 3 * d * ((b ^ f - 1) * b ^ r)) : rg y b (b ^ f) t d ∈ rgs b (b ^ f) (r + 2) := by
  have hL : 1 ≤ b ^ f := Nat.pow_pos (by omega)
  have hL2 : 2 ≤ b ^ f := by
    have h1 : b ^ 1 ≤ b ^ f := Nat.pow_le_pow_right (by omega) hf
    rw [Nat.pow_one] at h1
    omega
  have hpr : 0 < b ^ r := Nat.pow_pos (by omega)
  have hp2 : 4 * b ^ r ≤ b ^ (r + 2) := by
    rw [Nat.pow_succ, Nat.pow_succ]
    have h1 : b ^ r * 2 ≤ b ^ r * b := Nat.mul_le_mul_left _ hb
    have h2 : b ^ r * b * 2 ≤ b ^ r * b * b := Nat.mul_le_mul_left _ hb
    omega
  have e1 : (b ^ f - 1) * (4 * b ^ r) ≤ (b ^ f - 1) * b ^ (r + 2) := Nat.mul_le_mul_left _ hp2
  have e1' : (b ^ f - 1) * (4 * b ^ r) = 4 * ((b ^ f - 1) * b ^ r) := Nat.mul_left_comm _ _ _
  have h3 : t.natAbs / d ≤ 3 * ((b ^ f - 1) * b ^ r) := by
    refine Nat.div_le_of_le_mul ?_
    rw [← Nat.mul_assoc, Nat.mul_comm d 3]
    exact h
  have hlt : (b ^ f - 1) * b ^ (r + 2) < b ^ f * b ^ (r + 2) := Nat.mul_lt_mul_of_pos_right (by omega) (Nat.pow_pos (by omega))
  have hx : spx b (b ^ f) (t.natAbs / d) ≤ r + 2 := spx_le hb hL (by omega)
  have hdv : (sps b (b ^ f) t d : Int) ∣ (((b ^ f - 1) * b ^ (r + 2) : Nat) : Int) := Int.natCast_dvd_natCast.mpr (Nat.dvd_trans (Nat.pow_dvd_pow b hx) (Nat.dvd_mul_left _ _))
  have mulc : ∀ B : Nat, ((B * d : Nat) : Int) = (B : Int) * (d : Int) := fun B => Int.natCast_mul B d
  have hM : t.natAbs ≤ (b ^ f - 1) * b ^ (r + 2) * d := by
    refine Nat.le_trans h ?_
    rw [Nat.mul_comm 3 d, Nat.mul_assoc, Nat.mul_comm _ d]
    exact Nat.mul_le_mul_left _ (by omega)
  have r1 := rg_le_dvd y hb hd hdv (by rw [← mulc]; omega : t ≤ _)
  have r2 := dvd_le_rg y hb hd (Int.dvd_neg.mpr hdv) (by rw [Int.neg_mul, ← mulc]; omega : _ ≤ t)
  exact (rgs_mem hb hf (r + 2) _).mpr ⟨by omega, rg_grid y hb hf t hd⟩
theorem le_blw (hb : 2 ≤ b) (hf : 1 ≤ f) {t n : Int} {d : Nat} (hd : 0 < d) (hn : n % (spc b (b ^ f) n.natAbs : Int) = 0) (h : n * (d : Int) ≤ t) : n ≤ blw b (b ^ f) t d := by
  obtain ⟨_, _, _, _, e, _⟩ := around_facts (L := b ^ f) hb t hd
  rw [← e, ← rg_self .down hb hd hn]
  exact rg_mono .down hb hf hd h
theorem abv_le (hb : 2 ≤ b) (hf : 1 ≤ f) {t n : Int} {d : Nat} (hd : 0 < d) (hn : n % (spc b (b ^ f) n.natAbs : Int) = 0) (h : t ≤ n * (d : Int)) : abv b (b ^ f) t d ≤ n := by
  obtain ⟨_, _, _, _, _, e, _⟩ := around_facts (L := b ^ f) hb t hd
  rw [← e, ← rg_self .up hb hd hn]
  exact rg_mono .up hb hf hd h
theorem below_is (hb : 2 ≤ b) (hf : 1 ≤ f) {t : Int} {d : Nat} (hd : 0 < d) (h : t.natAbs ≤ 3 * d * ((b ^ f - 1) * b ^ r)) :
    ∃ zs, (rgs b (b ^ f) (r + 2)).filter (fun n => decide (n * (d : Int) ≤ t)) = zs ++ [blw b (b ^ f) t d] := by
  obtain ⟨a1, _, _, _, e, _⟩ := around_facts (L := b ^ f) hb t hd
  refine last_is ((rgs_asc hb hf _).filter _) (List.mem_filter.mpr ⟨?_, decide_eq_true a1⟩) fun n hn => ?_
  · rw [← e]; exact rg_in .down hb hf hd h
  · obtain ⟨h1, h2⟩ := List.mem_filter.mp hn
    exact le_blw hb hf hd ((rgs_mem hb hf _ n).mp h1).2 (of_decide_eq_true h2)
theorem above_is (hb : 2 ≤ b) (hf : 1 ≤ f) {t : Int} {d : Nat} (hd : 0 < d) (h : t.natAbs ≤ 3 * d * ((b ^ f - 1) * b ^ r)) :
    ∃ zs, (rgs b (b ^ f) (r + 2)).filter (fun n => decide (t ≤ n * (d : Int))) = abv b (b ^ f) t d :: zs := by
  obtain ⟨_, a1, _, _, _, e, _⟩ := around_facts (L := b ^ f) hb t hd
  refine first_is ((rgs_asc hb hf _).filter _) (List.mem_filter.mpr ⟨?_, decide_eq_true a1⟩) fun n hn => ?_
  · rw [← e]; exact rg_in .up hb hf hd h
  · obtain ⟨h1, h2⟩ := List.mem_filter.mp hn
    exact abv_le hb hf hd ((rgs_mem hb hf _ n).mp h1).2 (of_decide_eq_true h2)
end
section
variable {b L : Nat}
/-- turned about -/
def trn : Wy → Wy
  | .near => .near
  | .down => .up
  | .up => .down
  | .zero => .zero
theorem sps_neg (t : Int) (d : Nat) : sps b L (-t) d = sps b L t d := by
  unfold sps
  rw [Int.natAbs_neg]
theorem rg_neg (y : Wy) (hb : 2 ≤ b) (t : Int) {d : Nat} (hd : 0 < d) : rg (trn y) b L (-t) d = -rg y b L t d := by
  have hs := sps_pos (L := L) hb t d
  have hS : 0 < (d : Int) * (sps b L t d : Int) := Int.mul_pos (by omega) hs
  unfold rg
  rw [sps_neg]
  generalize (sps b L t d : Int) = s at *
  generalize (d : Int) * s = S at *
  obtain ⟨h1, h2, h3⟩ := div_facts t S hS
  by_cases h : t % S = 0
  · have e : -t = -(t / S) * S := by rw [Int.neg_mul]; omega
    have e1 : (-t) / S = -(t / S) := by rw [e, Int.mul_ediv_cancel _ (by omega)]
    have e2 : (-t) % S = 0 := by rw [e]; exact Int.mul_emod_left _ _
    rw [e1, e2, h, if_neg (by simp), if_neg (by simp), Int.neg_mul]
  · have e : -t = (S - t % S) + S * (-(t / S) - 1) := by
      rw [Int.mul_sub, Int.mul_neg, Int.mul_comm S (t / S)]
      omega
    have e1 : (-t) / S = -(t / S) - 1 := by
      rw [e, Int.add_mul_ediv_left _ _ (by omega), Int.ediv_eq_zero_of_lt (by omega) (by omega)]
      omega
    have e2 : (-t) % S = S - t % S := by
      rw [e, Int.add_mul_emod_self_left]
      exact Int.emod_eq_of_lt (by omega) (by omega)
    rw [e1, e2]
    have hm0 : (t % S != 0) = true := by simpa using h
    have hm1 : (S - t % S != 0) = true := by simp; omega
    generalize t % S = m at *
    generalize t / S = q at *
    have key : wup (trn y) (-q - 1) (S - m) S = !wup y q m S := by
      cases y with
      | near =>
        rw [Bool.eq_iff_iff]
        simp [wup, trn]
        omega
      | down => rfl
      | up => rfl
      | zero =>
        rw [Bool.eq_iff_iff]
        simp [wup, trn]
        omega
    rw [hm0, hm1, key]
    cases hw : wup y q m S with
    | true =>
      rw [if_neg (by simp), if_pos (by simp), Int.sub_mul, Int.add_mul, Int.neg_mul]
      omega
    | false =>
      rw [if_pos (by simp), if_neg (by simp), Int.add_mul, Int.sub_mul, Int.neg_mul]
      omega
/-- the middle -/
theorem mid_tie (hb : 2 ≤ b) (t : Int) {d : Nat} (hd : 0 < d) : (blw b L t d < abv b L t d ∧ 2 * t = (blw b L t d + abv b L t d) * (d : Int)) ↔ tie b L t d := by
  have hs := sps_pos (L := L) hb t d
  have hS : 0 < (d : Int) * (sps b L t d : Int) := Int.mul_pos (by omega) hs
  have hc := ceil_eq (t := t) hS
  unfold blw abv tie
  rw [hc]
  obtain ⟨h1, h2, h3⟩ := div_facts t _ hS
  by_cases hm : t % ((d : Int) * (sps b L t d : Int)) = 0
  · rw [if_pos hm, hm]
    constructor
    · rintro ⟨h, _⟩
      omega
    · intro h
      omega
  · rw [if_neg hm]
    have e : (t / ((d : Int) * (sps b L t d : Int)) * (sps b L t d : Int) + (t / ((d : Int) * (sps b L t d : Int)) + 1) * (sps b L t d : Int)) * (d : Int) = 2 * (t / ((d : Int) * (sps b L t d : Int)) * ((d : Int) * (sps b L t d : Int))) + (d : Int) * (sps b L t d : Int) := by
      generalize t / ((d : Int) * (sps b L t d : Int)) = q
      generalize (sps b L t d : Int) = s
      have e1 : (q * s + (q + 1) * s) * (d : Int) = 2 * (q * s * (d : Int)) + s * (d : Int) := by
        rw [Int.add_mul, Int.add_mul q 1 s, Int.one_mul, Int.add_mul]
        omega
      rw [e1, Int.mul_assoc q, Int.mul_comm s]
    have e2 : (t / ((d : Int) * (sps b L t d : Int)) + 1) * (sps b L t d : Int) = t / ((d : Int) * (sps b L t d : Int)) * (sps b L t d : Int) + (sps b L t d : Int) := by rw [Int.add_mul, Int.one_mul]
    rw [e, e2]
    generalize t / ((d : Int) * (sps b L t d : Int)) * ((d : Int) * (sps b L t d : Int)) = z at *
    generalize t / ((d : Int) * (sps b L t d : Int)) * (sps b L t d : Int) = z2 at *
    constructor
    · rintro ⟨_, h⟩
      omega
    · intro h
      exact ⟨by omega, by omega⟩
/-- near, told by the distances -/
theorem near_due (hb : 2 ≤ b) (t : Int) {d : Nat} (hd : 0 < d) : rg .near b L t d =
    if t - blw b L t d * (d : Int) = abv b L t d * (d : Int) - t ∧ blw b L t d < abv b L t d then (if blw b L t d / (abv b L t d - blw b L t d) % 2 = 0 then blw b L t d else abv b L t d)
    else if t - blw b L t d * (d : Int) < abv b L t d * (d : Int) - t then blw b L t d else abv b L t d := by
  have hs := sps_pos (L := L) hb t d
  have hS : 0 < (d : Int) * (sps b L t d : Int) := Int.mul_pos (by omega) hs
  have hc := ceil_eq (t := t) hS
  obtain ⟨h1, h2, h3, h4⟩ := rg_form (L := L) .near hb t hd
  unfold blw abv
  rw [hc]
  have mulq : ∀ x : Int, x * (sps b L t d : Int) * (d : Int) = x * ((d : Int) * (sps b L t d : Int)) := fun x => by rw [Int.mul_assoc, Int.mul_comm (sps b L t d : Int)]
  by_cases hm : t % ((d : Int) * (sps b L t d : Int)) = 0
  · rw [if_pos hm, if_neg (by omega), mulq, if_neg (by omega)]
    rcases h4 with ⟨e, _⟩ | ⟨_, h, _⟩
    · exact e
    · exact absurd hm h
  · rw [if_neg hm]
    have e1 : (t / ((d : Int) * (sps b L t d : Int)) + 1) * ((d : Int) * (sps b L t d : Int)) = t / ((d : Int) * (sps b L t d : Int)) * ((d : Int) * (sps b L t d : Int)) + (d : Int) * (sps b L t d : Int) := by rw [Int.add_mul, Int.one_mul]
    have e2 : (t / ((d : Int) * (sps b L t d : Int)) + 1) * (sps b L t d : Int) - t / ((d : Int) * (sps b L t d : Int)) * (sps b L t d : Int) = (sps b L t d : Int) := by
      rw [Int.add_mul, Int.one_mul]
      generalize t / ((d : Int) * (sps b L t d : Int)) * (sps b L t d : Int) = z
      omega
    have e3 : t / ((d : Int) * (sps b L t d : Int)) * (sps b L t d : Int) / (sps b L t d : Int) = t / ((d : Int) * (sps b L t d : Int)) := Int.mul_ediv_cancel _ (by omega)
    rw [mulq, mulq, e1, e2, e3]
    have e4 : t / ((d : Int) * (sps b L t d : Int)) * (sps b L t d : Int) < (t / ((d : Int) * (sps b L t d : Int)) + 1) * (sps b L t d : Int) := by omega
    generalize t / ((d : Int) * (sps b L t d : Int)) * ((d : Int) * (sps b L t d : Int)) = z at *
    generalize (t / ((d : Int) * (sps b L t d : Int)) + 1) * (sps b L t d : Int) = up at *
    generalize t / ((d : Int) * (sps b L t d : Int)) * (sps b L t d : Int) = dn at *
    generalize t / ((d : Int) * (sps b L t d : Int)) = q at *
    generalize t % ((d : Int) * (sps b L t d : Int)) = m at *
    generalize (d : Int) * (sps b L t d : Int) = S at *
    rcases h4 with ⟨e, hu⟩ | ⟨e, _, hu⟩
    · have hu := hu hm
      simp [wup] at hu
      rw [e]
      by_cases c : t - z = z + S - t
      · rw [if_pos ⟨c, e4⟩, if_pos (by omega)]
      · rw [if_neg (fun h => c h.1), if_pos (by omega)]
    · simp [wup] at hu
      rw [e]
      by_cases c : t - z = z + S - t
      · rw [if_pos ⟨c, e4⟩, if_neg (by omega)]
      · rw [if_neg (fun h => c h.1), if_neg (by omega)]
/-- the greatest common part, by what is left -/
theorem gcd_step (x y : Nat) (hy : 0 < y) : Nat.gcd y (x % y) = Nat.gcd x y := by
  rw [Nat.gcd_comm x y, Nat.gcd_rec y x, Nat.gcd_comm]
/-- a number of the grid is one of each finer grid -/
theorem finer {b f m : Nat} (hb : 2 ≤ b) {n : Int} (h : n % (spc b (b ^ f) n.natAbs : Int) = 0) : n % (spc b (b ^ (f + m)) n.natAbs : Int) = 0 := by
  have hL : 1 ≤ b ^ f := Nat.pow_pos (by omega)
  have hL2 : 1 ≤ b ^ (f + m) := Nat.pow_pos (by omega)
  have hle : spx b (b ^ (f + m)) n.natAbs ≤ spx b (b ^ f) n.natAbs := by
    refine spx_le hb hL2 (Nat.lt_of_lt_of_le (spx_up (n := n.natAbs) hb hL) (Nat.mul_le_mul_right _ (Nat.pow_le_pow_right (by omega) (by omega))))
  exact Int.emod_eq_zero_of_dvd (Int.dvd_trans (Int.natCast_dvd_natCast.mpr (Nat.pow_dvd_pow b hle)) (Int.dvd_of_emod_eq_zero h))
end
end My

set_option Elab.async false
set_option maxRecDepth 100000
namespace My
open PySem L2 PyProof.Rows
theorem len_app (x y : Str) : (x ++ y).length = x.length + y.length := by
  first | exact Str.length_append x y | simp
theorem piled_le {M : Nat} : ∀ ts : List Str, (∀ t ∈ ts, t.length ≤ M) → piled ts ≤ (M + 2) * ts.length
  | [], _ => by simp [piled]
  | t :: ts, h => by
    have h1 := piled_le ts fun x hx => h x (List.mem_cons_of_mem _ hx)
    have h2 := h t List.mem_cons_self
    rw [piled_cons, List.length_cons, Nat.mul_add, Nat.mul_one]
    omega
theorem tupleText_le {M : Nat} {ts : List Str} (h : ∀ t ∈ ts, t.length ≤ M) : (tupleText ts).length ≤ (M + 2) * ts.length + 10 := by
  unfold tupleText
  rw [len_app, len_app]
  have h0 : (Str.ofString "(").length = 1 := by decide +kernel
  have h3 : (Str.join (Str.ofString ", ") ts).length ≤ (M + 2) * ts.length := by
    cases ts with
    | nil => exact Nat.le_trans (Nat.le_of_eq (by decide +kernel : (Str.join (Str.ofString ", ") []).length = 0)) (Nat.zero_le _)
    | cons t ts =>
      have := join_length_add (t :: ts) (by simp)
      have := piled_le (t :: ts) h
      omega
  have h4 : ∀ c : Bool, (Str.ofString (if c = true then ",)" else ")")).length ≤ 2 := by
    intro c
    cases c <;> decide +kernel
  have := h4 (ts.length == 1)
  omega
theorem shownAll_ints (xs : List Int) : PyData.shownAll (xs.map PyData.int) = xs.map fun x => (Str.ofString (toString x)) := by
  induction xs with
  | nil => rfl
  | cons x xs ih =>
    show PyData.shown (.int x) :: PyData.shownAll (xs.map PyData.int) = _
    rw [ih]; rfl
theorem shown_ints {xs : List Int} (h : ∀ x ∈ xs, x.natAbs.log2 < 1920) (hl : xs.length ≤ 1000) : (PyData.tuple (xs.map PyData.int)).shown.length ≤ 2000000 := by
  show (tupleText (PyData.shownAll (xs.map PyData.int))).length ≤ _
  rw [shownAll_ints]
  have := tupleText_le (M := 1921) (ts := xs.map fun x => (Str.ofString (toString x))) (fun t ht => by
    obtain ⟨x, hx, rfl⟩ := List.mem_map.mp ht
    exact int_text_len_1921 (h x hx))
  rw [List.length_map] at this
  omega
theorem able_ints : ∀ {xs : List Int}, (∀ x ∈ xs, x.natAbs.log2 < 1920) → PyData.showableAll (xs.map PyData.int) = true
  | [], _ => rfl
  | x :: xs, h => by
    show (PyData.showable (.int x) && PyData.showableAll (xs.map PyData.int)) = true
    rw [able_ints fun y hy => h y (List.mem_cons_of_mem _ hy)]
    show (decide (x.natAbs.log2 < 1920) && true) = true
    rw [decide_eq_true (h x List.mem_cons_self)]; rfl
theorem nodict_ints : ∀ xs : List Int, PyData.hasDictAll (xs.map PyData.int) = false
  | [] => rfl
  | x :: xs => by
    show (PyData.hasDict (.int x) || PyData.hasDictAll (xs.map PyData.int)) = false
    rw [nodict_ints xs]; rfl
end My

set_option Elab.async false
set_option maxRecDepth 100000
namespace My
open PySem L2 PyProof.Rows
/-! ### a list's slice with a step -/
def tStep (K : PySem.W.Frag) (te : TE) (tl th ts : TO) : TE := fun σ H Q => te σ H fun x H1 => tl σ H1 fun l H2 => th σ H2 fun u H3 => ts σ H3 fun s H4 =>
  ∃ a xs, x = .ref a ∧ SqL K H4 a xs ∧ s ≠ some 0 ∧ ∀ p ys, H4 p = none → (∀ y ∈ ys, y ∈ xs) → ys.length ≤ xs.length → Q (.ref p) (upd H4 p (.lst ys))
theorem picked_vals {xs : List V} {its : List Value} (r : Vals xs its) : ∀ ks : List Nat, Vals (ks.filterMap (xs[·]?)) (ks.filterMap (its[·]?))
  | [] => .nil
  | k :: ks => by
    have ih := picked_vals r ks
    have hl := r.length
    by_cases h : k < xs.length
    · obtain ⟨u, hu, ru⟩ := r.get (List.getElem?_eq_getElem h)
      rw [List.filterMap_cons, List.filterMap_cons, List.getElem?_eq_getElem h, hu]
      exact .cons ru ih
    · have h2 : its[k]? = none := List.getElem?_eq_none (by omega)
      have h1 : xs[k]? = none := List.getElem?_eq_none (by omega)
      rw [List.filterMap_cons, List.filterMap_cons, h1, h2]
      exact ih
section
variable {X : Cx} {e : Expr} {te : TE} {lo hi : Option Expr} {st : Expr} {tl th ts : TO} {p2 pos : Pos}
theorem pe_sliceS (he : PE X e te) (hl : PO X lo tl) (hu : PO X hi th) (hs : PO X (some st) ts) :
    PE X (.Subscript e (.Slice lo hi (some st) p2) pos) (tStep X.K te tl th ts) := by
  constructor
  intro pins s σ H Q I h
  refine Subscript_ (thn (he.run pins s σ H _ I h) ?_)
  rintro v s1 ⟨x, H1, I1, r1, q1⟩
  refine wpAny_Slice (thn (hl.run pins s1 σ H1 _ I1 q1) ?_)
  rintro vl s2 ⟨l, H2, I2, pl, q2⟩
  refine thn (hu.run pins s2 σ H2 _ I2 q2) ?_
  rintro vu s3 ⟨u, H3, I3, pu, q3⟩
  refine thn (hs.run pins s3 σ H3 _ I3 q3) ?_
  rintro vs s4 ⟨so, H4, I4, ps, a, xs, rfl, hx, hne, k⟩
  cases r1
  have J : Inv X pins σ H4 { s4 with heap := s4.heap.push { cls := .type "slice", data := .fields #[vl, vu, vs] } } :=
    I4.kept (t' := s4.toks) fun b ob q => Heap.get?_push_of_some _ q
  obtain ⟨its, r, pL, hz⟩ := J.list hx
  have n1 := r.length
  show wpAny (model X.prog X.w) X.A (subscriptTail e (.Slice lo hi (some st) p2) (.ref a) (.ref s4.heap.objs.size)) (EP X pins σ Q) X.xe
    { s4 with heap := s4.heap.push { cls := .type "slice", data := .fields #[vl, vu, vs] } }
  refine tail_any (ops := [.ref a, .ref s4.heap.objs.size]) pL.isList.typeIs PySem.slot_list_getitem.lookup ?_ (by with_unfolding_all rfl)
  refine wpAny_getItem_list_slice pL.isList (Heap.IsSliceOf.new _ vl vu vs) pl pu ps hne ?_ (by rw [List.size_toArray]; omega)
  have hsz := slicePick_size_le its.toArray l u so
  generalize hpk : slicePick its.toArray l u so = pk at *
  have hszl : pk.toList.length ≤ its.length := by simpa using hsz
  have hform : pk.toList = ((sliceRange (sliceBounds l u so its.toArray.size).1 (sliceBounds l u so its.toArray.size).2.1 (sliceBounds l u so its.toArray.size).2.2).filterMap (its[·]?)) := by
    rw [← hpk]
    unfold slicePick
    simp
  have rv := picked_vals r (sliceRange (sliceBounds l u so its.toArray.size).1 (sliceBounds l u so its.toArray.size).2.1 (sliceBounds l u so its.toArray.size).2.2)
  rw [← hform] at rv
  generalize hys : (sliceRange (sliceBounds l u so its.toArray.size).1 (sliceBounds l u so its.toArray.size).2.1 (sliceBounds l u so its.toArray.size).2.2).filterMap (xs[·]?) = ys at rv
  have hsub : ∀ y ∈ ys, y ∈ xs := by
    intro y hy
    rw [← hys] at hy
    obtain ⟨j, _, hj⟩ := List.mem_filterMap.mp hy
    exact List.mem_of_getElem? hj
  have hlen : ys.length ≤ xs.length := by
    have h2 := rv.length
    omega
  refine ⟨.ref _, _, J.laid (t' := s4.toks) (o := .lst ys) (fun b ob q => Heap.get?_push_of_some _ q) (Nat.le_refl _) ?_, rfl, k _ ys (J.hok.fresh (Nat.le_refl _)) hsub hlen⟩
  exact ⟨by omega, pk.toList, 0, rv, Heap.get?_push_size _ rfl⟩
end
end My

set_option Elab.async false
set_option maxRecDepth 100000
namespace My
open PySem L2 PyProof.Rows
/-! ### list(range(a, b, c)) -/
def rgV3 (a c : Int) (n : Nat) : List V := (List.range n).map fun i => V.int (a + (i : Nat) * c)
theorem rgV3_length (a c : Int) (n : Nat) : (rgV3 a c n).length = n := by unfold rgV3; rw [List.length_map, List.length_range]
theorem vals_rg3 {a c : Int} {n : Nat} {acc : Array Value} (h : ItemsOf (fun i v => ∃ t, v = .int (a + i * c) t) acc n) : Vals (rgV3 a c n) acc.toList := by
  have e : acc.toList.length = n := by rw [Array.length_toList]; exact h.1
  unfold rgV3
  rw [← e]
  refine vals_of_get acc.toList _ fun j u hj => ?_
  obtain ⟨t, rfl⟩ := h.2 j u (by rw [← hj, Array.getElem?_toList])
  exact ⟨t, rfl⟩
theorem small_up {a b c : Int} (ha : -(2 ^ 31) ≤ a) (ha' : a < 2 ^ 31) (hb : -(2 ^ 31) ≤ b) (hb' : b < 2 ^ 31) (hc : 0 < c) (hc' : c < 2 ^ 29) : Builtin.Range.small a b c = true := by
  have h1 := rangeSize_toNat_le a b c
  have h2 := rangeSize_toNat a b c
  unfold Builtin.Range.small
  unfold Builtin.Range.rangeSize at *
  simp only [Builtin.Range.rangeFitsLong, Bool.and_eq_true, Bool.or_eq_true, decide_eq_true_eq, beq_iff_eq, if_pos (show c > 0 from hc)] at *
  split at h2
  · rename_i hab
    have h3 := Int.ediv_mul_le (b - a - 1) (show c ≠ 0 by omega)
    rw [if_pos hab] at *
    generalize (b - a - 1) / c = q at *
    have h5 : (q + 1) * c = q * c + c := by rw [Int.add_mul, Int.one_mul]
    generalize q * c = z at *
    omega
  · rename_i hab
    rw [if_neg hab] at *
    omega
section
variable {X : Cx} {a b c : Expr} {ta : TA}
def tLst3 (ta : TA) : TE := fun σ H Q => ta σ H fun vs H1 => ∃ (i j k : Int) (n : Nat), vs = [.int i, .int j, .int k] ∧ RgC i j k n ∧ n ≤ 2 ^ 24 ∧ ∀ q, H1 q = none → Q (.ref q) (upd H1 q (.lst (rgV3 i k n)))
theorem pe_listRg3 {p p2 pos pos2 : Pos} (hc : X.calm = true) (hg : Gl X "list") (hm : X.mg "list" = none) (hg2 : Gl X "range") (hm2 : X.mg "range" = none) (ha : PA X [a, b, c] ta)
    (hs : starEach [a, b, c] X.env = (false, eval a X.env) :: starEach [b, c] X.env := by rfl) (hpl : (backTo pos2 (starEach [b, c] X.env)).any (·.1) = false := by rfl)
    (na : starEach [(.Call (.Name "range" p2) [a, b, c] [] pos2)] X.env = (false, eval (.Call (.Name "range" p2) [a, b, c] [] pos2) X.env) :: starEach [] X.env := by rfl) :
    PE X (.Call (.Name "list" p) [.Call (.Name "range" p2) [a, b, c] [] pos2] [] pos) (tLst3 ta) := by
  refine ⟨fun pins s σ H Q I h => ?_⟩
  have hr : wpAny (model X.prog X.w) X.A (eval (.Call (.Name "range" p2) [a, b, c] [] pos2) X.env) (fun x s' => ∃ r i j k n t u v H', x = .ref r ∧ IsRange s'.heap r i j k t u v ∧ Inv X pins σ H' s' ∧ RgC i j k n ∧ n ≤ 2 ^ 24 ∧ ∀ q, H' q = none → Q (.ref q) (upd H' q (.lst (rgV3 i k n)))) X.xe s := by
    refine Call_ (ld_blt I hg2 hm2 boot_range (PyProof.Rows.callWith_type1 (thn (ha.run pos2 pins s σ H _ I h) fun us s1 ⟨vs, H1, I1, r1, q1⟩ => ?_) hs hpl))
    obtain ⟨i, j, k, n, e, hk, hn, q⟩ := q1
    subst e
    cases r1 with
    | cons r rr =>
      cases rr with
      | cons r' rr =>
        cases rr with
        | cons r'' rr =>
          cases rr
          obtain ⟨t, rfl⟩ := r
          obtain ⟨t', rfl⟩ := r'
          obtain ⟨t'', rfl⟩ := r''
          exact call_range_3 hk.1 ⟨_, i, j, k, n, _, _, _, H1, rfl, IsRange.new .., I1.kept (t' := s1.toks) fun b o e => Heap.get?_push_of_some _ e, hk, hn, q⟩ (.inl (PyProof.noPylong_small hk.2.1))
  refine Call_ (ld_blt I hg hm boot_list (PyProof.Rows.callWith_type1 (args_cons (thn hr fun x s1 ⟨r, i, j, k, n, t, u, v, H1, ex, hr, I1, ⟨c0, c1, c2, c3⟩, hn, q⟩ => args_nil ?_) na) na))
  subst ex
  refine call_list_range (n := n) (I1.ok.hd hc) hr c2 c3 hn fun h' tk acc c' hk e' hi => ?_
  refine ⟨.ref s1.heap.objs.size, upd H1 s1.heap.objs.size (.lst (rgV3 i k n)), I1.laid hk (Nat.le_refl _) (show ObjOk X.prog X.w _ _ _ (.lst (rgV3 i k n)) from ⟨?_, acc.toList, c', vals_rg3 hi, ?_⟩), rfl, q _ (I1.hok.fresh (Nat.le_refl _))⟩
  · rw [rgV3_length, sizeLine_eq]; omega
  · rw [Array.toArray_toList]; exact e'
end
/-- what stands in list(range(a, b, c)) -/
theorem rg3_mem {a b c : Int} (hc : 0 < c) {n : Nat} (hn : Builtin.Range.rangeSize a b c = n) {i : Nat} (hi : i < n) : a ≤ a + (i : Int) * c ∧ a + (i : Int) * c < b := by
  unfold Builtin.Range.rangeSize at hn
  rw [if_pos hc] at hn
  have h0 : 0 ≤ (i : Int) * c := Int.mul_nonneg (by omega) (by omega)
  split at hn
  · have h1 : (i : Int) ≤ (b - a - 1) / c := by omega
    have h2 := Int.mul_le_mul_of_nonneg_right h1 (show 0 ≤ c by omega)
    have h3 := Int.ediv_mul_le (b - a - 1) (show c ≠ 0 by omega)
    omega
  · omega
/-- a loop over zip of two tuples, the one that ends first ends it -/
theorem for_zipT2 {K : PySem.W.Frag} {a b : Addr} {xs ys : List V} {g : TG} {tb : TS} {D : Ends} {σ : L2.St} {H : Hp} (Pv : Nat → L2.St → Hp → Prop) (h0 : Pv 0 σ H) (hq : ∀ i σ H, Pv i σ H → SqT K H a xs ∧ SqT K H b ys)
    (hs : ∀ (i : Nat) (x y : V) (T : Addr) (σ : L2.St) (H : Hp), xs[i]? = some x → ys[i]? = some y → Pv i σ H → H T = none → g (.ref T) σ (upd H T (.tup [x, y])) fun σ2 H2 => tb { D with nx := Pv (i + 1), ct := Pv (i + 1), bk := D.nx } σ2 H2) (hd : ∀ i σ H, Pv i σ H → D.nx σ H) :
    ∃ W : Nat → Nat → L2.St → Hp → Prop, (∃ m, W 0 m σ H) ∧ ∀ i m σ H, W i m σ H →
      ((RZ.ItzT K a b).stop i H ∧ D.nx σ H) ∨ ((RZ.ItzT K a b).go i H ∧ ∃ N : L2.St → Hp → Prop, (∀ σ' H', N σ' H' → ∃ m', m' < m ∧ W (i + 1) m' σ' H') ∧ ∀ v H', (RZ.ItzT K a b).yld i H v H' → g v σ H' fun σ2 H2 => tb { D with nx := N, ct := N, bk := D.nx } σ2 H2) := by
  refine ⟨fun i m σ H => m = xs.length - i ∧ Pv i σ H, ⟨xs.length, rfl, h0⟩, ?_⟩
  rintro i m σ H ⟨rfl, p⟩
  obtain ⟨qx, qy⟩ := hq i σ H p
  by_cases hlt : i < xs.length ∧ i < ys.length
  · have hx : xs[i]? = some xs[i] := List.getElem?_eq_getElem hlt.1
    have hy : ys[i]? = some ys[i] := List.getElem?_eq_getElem hlt.2
    refine .inr ⟨⟨xs, ys, _, _, qx, qy, hx, hy⟩, Pv (i + 1), fun σ' H' p' => ⟨xs.length - (i + 1), by omega, rfl, p'⟩, fun v H' y => ?_⟩
    obtain ⟨T, x', y', rfl, hT, rfl, f1, f2⟩ := y
    exact hs i x' y' T σ H (f1 xs qx) (f2 ys qy) p hT
  · exact .inl ⟨⟨xs, ys, qx, qy, by omega⟩, hd i σ H p⟩
end My

set_option Elab.async false
set_option maxRecDepth 100000
namespace My
open PySem L2 PyProof.Rows
/-- a comprehension over zip of two lists: the one that ends first ends it -/
theorem lc_zipL {K : PySem.W.Frag} {a b : Addr} {xs ys : List V} {g : TG} {tt : TT} {te : TE} {vs : List Nat} {σ : L2.St} {H1 : Hp} {D : Addr} {Qd : Hp → Prop} (Pv : Nat → Hp → Prop) (h0 : Pv 0 (upd H1 D (.lst []))) (hl : ∀ i H, Pv i H → SqL K H a xs ∧ SqL K H b ys)
    (hs : ∀ (i : Nat) (x y : V) (T : Addr) (H : Hp), xs[i]? = some x → ys[i]? = some y → Pv i H → H T = none → g (.ref T) (wipe σ vs) (upd H T (.tup [x, y])) fun σ2 H2 => wipe σ2 vs = wipe σ vs ∧ tt σ2 H2 fun b H3 =>
      if b = true then te σ2 H3 fun y H4 => ∃ acc, H4 D = some (.lst acc) ∧ acc.length < sizeLine ∧ Pv (i + 1) (upd H4 D (.lst (acc ++ [y]))) else Pv (i + 1) H3) (hd : ∀ i H, (xs.length ≤ i ∨ ys.length ≤ i) → Pv i H → Qd H) :
    ∃ W : Nat → Nat → Hp → Prop, (∃ m, W 0 m (upd H1 D (.lst []))) ∧ ∀ i m H, W i m H →
      ((Itz K a b).stop i H ∧ Qd H) ∨ ((Itz K a b).go i H ∧ ∃ Nx : Hp → Prop, (∀ H', Nx H' → ∃ m', m' < m ∧ W (i + 1) m' H') ∧ ∀ x H', (Itz K a b).yld i H x H' → g x (wipe σ vs) H' fun σ2 H2 => wipe σ2 vs = wipe σ vs ∧ tt σ2 H2 fun b H3 =>
        if b = true then te σ2 H3 fun y H4 => ∃ acc, H4 D = some (.lst acc) ∧ acc.length < sizeLine ∧ Nx (upd H4 D (.lst (acc ++ [y]))) else Nx H3) := by
  refine ⟨fun i m H => m = xs.length - i ∧ Pv i H, ⟨xs.length, rfl, h0⟩, ?_⟩
  rintro i m H ⟨rfl, p⟩
  obtain ⟨qx, qy⟩ := hl i H p
  by_cases hlt : i < xs.length ∧ i < ys.length
  · have hx : xs[i]? = some xs[i] := List.getElem?_eq_getElem hlt.1
    have hy : ys[i]? = some ys[i] := List.getElem?_eq_getElem hlt.2
    refine .inr ⟨⟨xs, ys, _, _, qx, qy, hx, hy⟩, Pv (i + 1), fun H' p' => ⟨xs.length - (i + 1), by omega, rfl, p'⟩, fun v H' y => ?_⟩
    obtain ⟨T, x', y', rfl, hT, rfl, f1, f2⟩ := y
    exact hs i x' y' T H (f1 xs qx) (f2 ys qy) p hT
  · exact .inl ⟨⟨xs, ys, qx, qy, by omega⟩, hd i H (by omega) p⟩
end My

set_option Elab.async false
set_option maxRecDepth 100000
namespace My
open PySem L2 PyProof.Rows
/-- a loop over enumerate of a list -/
theorem for_enumL {K : PySem.W.Frag} {a : Addr} {xs : List V} {g : TG} {tb : TS} {D : Ends} {σ : L2.St} {H : Hp} (Pv : Nat → L2.St → Hp → Prop) (h0 : Pv 0 σ H) (hq : ∀ i σ H, Pv i σ H → SqL K H a xs)
    (hs : ∀ (i : Nat) (x : V) (T : Addr) (σ : L2.St) (H : Hp), xs[i]? = some x → Pv i σ H → H T = none → g (.ref T) σ (upd H T (.tup [.int (i : Nat), x])) fun σ2 H2 => tb { D with nx := Pv (i + 1), ct := Pv (i + 1), bk := D.nx } σ2 H2) (hd : ∀ σ H, Pv xs.length σ H → D.nx σ H) :
    ∃ W : Nat → Nat → L2.St → Hp → Prop, (∃ m, W 0 m σ H) ∧ ∀ i m σ H, W i m σ H →
      ((Ite K a).stop i H ∧ D.nx σ H) ∨ ((Ite K a).go i H ∧ ∃ N : L2.St → Hp → Prop, (∀ σ' H', N σ' H' → ∃ m', m' < m ∧ W (i + 1) m' σ' H') ∧ ∀ v H', (Ite K a).yld i H v H' → g v σ H' fun σ2 H2 => tb { D with nx := N, ct := N, bk := D.nx } σ2 H2) := by
  refine ⟨fun i m σ H => m = xs.length - i ∧ i ≤ xs.length ∧ Pv i σ H, ⟨xs.length, rfl, Nat.zero_le _, h0⟩, ?_⟩
  rintro i m σ H ⟨rfl, hi, p⟩
  have q := hq i σ H p
  by_cases hlt : i < xs.length
  · have hx : xs[i]? = some xs[i] := List.getElem?_eq_getElem hlt
    refine .inr ⟨⟨xs, _, q, hx⟩, Pv (i + 1), fun σ' H' p' => ⟨xs.length - (i + 1), by omega, rfl, hlt, p'⟩, fun v H' y => ?_⟩
    obtain ⟨T, x', rfl, hT, rfl, f⟩ := y
    exact hs i x' T σ H (f xs q) p hT
  · have e : i = xs.length := by omega
    subst e
    exact .inl ⟨⟨xs, q, Nat.le_refl _⟩, hd σ H p⟩
end My

set_option Elab.async false
set_option maxRecDepth 100000
namespace My
open PySem L2 PyProof.Rows
/-! ### a list's slice with a step, to the number; xs[:0:-1] -/
def pickV (xs : List V) (l u s : Option Int) : List V := (sliceRange (sliceBounds l u s xs.length).1 (sliceBounds l u s xs.length).2.1 (sliceBounds l u s xs.length).2.2).filterMap (xs[·]?)
def tPick (K : PySem.W.Frag) (te : TE) (tl th ts : TO) : TE := fun σ H Q => te σ H fun x H1 => tl σ H1 fun l H2 => th σ H2 fun u H3 => ts σ H3 fun s H4 =>
  ∃ a xs, x = .ref a ∧ SqL K H4 a xs ∧ s ≠ some 0 ∧ ∀ p, H4 p = none → Q (.ref p) (upd H4 p (.lst (pickV xs l u s)))
theorem pickV_len (xs : List V) (l u s : Option Int) (its : List Value) (h : its.length = xs.length) : (pickV xs l u s).length ≤ xs.length := by
  have h1 := slicePick_size_le its.toArray l u s
  have h2 : (slicePick its.toArray l u s).toList.length ≤ its.length := by simpa using h1
  have h3 : (slicePick its.toArray l u s).toList = (sliceRange (sliceBounds l u s xs.length).1 (sliceBounds l u s xs.length).2.1 (sliceBounds l u s xs.length).2.2).filterMap (its[·]?) := by
    unfold slicePick
    simp [h]
  have h4 : ∀ ks : List Nat, (ks.filterMap (xs[·]?)).length = (ks.filterMap (its[·]?)).length := by
    intro ks
    induction ks with
    | nil => rfl
    | cons k ks ih =>
      rw [List.filterMap_cons, List.filterMap_cons]
      by_cases hk : k < xs.length
      · rw [List.getElem?_eq_getElem hk, List.getElem?_eq_getElem (by omega : k < its.length)]
        simp [ih]
      · rw [List.getElem?_eq_none (by omega), List.getElem?_eq_none (by omega)]
        exact ih
  unfold pickV
  rw [h4, ← h3]
  omega
section
variable {X : Cx} {e : Expr} {te : TE} {lo hi : Option Expr} {st : Expr} {tl th ts : TO} {p2 pos : Pos}
theorem pe_pick (he : PE X e te) (hl : PO X lo tl) (hu : PO X hi th) (hs : PO X (some st) ts) :
    PE X (.Subscript e (.Slice lo hi (some st) p2) pos) (tPick X.K te tl th ts) := by
  constructor
  intro pins s σ H Q I h
  refine Subscript_ (thn (he.run pins s σ H _ I h) ?_)
  rintro v s1 ⟨x, H1, I1, r1, q1⟩
  refine wpAny_Slice (thn (hl.run pins s1 σ H1 _ I1 q1) ?_)
  rintro vl s2 ⟨l, H2, I2, pl, q2⟩
  refine thn (hu.run pins s2 σ H2 _ I2 q2) ?_
  rintro vu s3 ⟨u, H3, I3, pu, q3⟩
  refine thn (hs.run pins s3 σ H3 _ I3 q3) ?_
  rintro vs s4 ⟨so, H4, I4, ps, a, xs, rfl, hx, hne, k⟩
  cases r1
  have J : Inv X pins σ H4 { s4 with heap := s4.heap.push { cls := .type "slice", data := .fields #[vl, vu, vs] } } :=
    I4.kept (t' := s4.toks) fun b ob q => Heap.get?_push_of_some _ q
  obtain ⟨its, r, pL, hz⟩ := J.list hx
  have n1 := r.length
  show wpAny (model X.prog X.w) X.A (subscriptTail e (.Slice lo hi (some st) p2) (.ref a) (.ref s4.heap.objs.size)) (EP X pins σ Q) X.xe
    { s4 with heap := s4.heap.push { cls := .type "slice", data := .fields #[vl, vu, vs] } }
  refine tail_any (ops := [.ref a, .ref s4.heap.objs.size]) pL.isList.typeIs PySem.slot_list_getitem.lookup ?_ (by with_unfolding_all rfl)
  refine wpAny_getItem_list_slice pL.isList (Heap.IsSliceOf.new _ vl vu vs) pl pu ps hne ?_ (by rw [List.size_toArray]; omega)
  have hform : (slicePick its.toArray l u so).toList = ((sliceRange (sliceBounds l u so xs.length).1 (sliceBounds l u so xs.length).2.1 (sliceBounds l u so xs.length).2.2).filterMap (its[·]?)) := by
    unfold slicePick
    simp [n1]
  have rv := picked_vals r (sliceRange (sliceBounds l u so xs.length).1 (sliceBounds l u so xs.length).2.1 (sliceBounds l u so xs.length).2.2)
  rw [← hform] at rv
  have hlen := pickV_len xs l u so its n1.symm
  refine ⟨.ref _, _, J.laid (t' := s4.toks) (o := .lst (pickV xs l u so)) (fun b ob q => Heap.get?_push_of_some _ q) (Nat.le_refl _) ?_, rfl, k _ (J.hok.fresh (Nat.le_refl _))⟩
  exact ⟨by omega, (slicePick its.toArray l u so).toList, 0, rv, Heap.get?_push_size _ rfl⟩
end
theorem range_get : ∀ l : List V, (List.range l.length).filterMap (l[·]?) = l
  | [] => rfl
  | x :: l => by
    rw [List.length_cons, List.range_succ_eq_map, List.filterMap_cons, List.filterMap_map]
    show x :: (List.range l.length).filterMap (fun k => (x :: l)[k + 1]?) = _
    exact congrArg (x :: ·) (range_get l)
theorem pick_back (xs : List V) (h : 0 < xs.length) : pickV xs none (some 0) (some (-1)) = (xs.drop 1).reverse := by
  have hb : sliceBounds none (some 0) (some (-1)) xs.length = ((xs.length : Int) - 1, 0, -1) := by
    unfold sliceBounds
    simp
    omega
  have hr : sliceRange ((xs.length : Int) - 1) 0 (-1) = (List.range (xs.drop 1).reverse.length).map fun k => xs.length - 1 - k := by
    unfold sliceRange
    simp only [List.length_reverse, List.length_drop]
    rw [if_neg (by decide)]
    have hc : (if (xs.length : Int) - 1 > 0 then ((xs.length : Int) - 1 - 0 - -1 - 1) / - -1 else 0).toNat = xs.length - 1 := by
      have : - -(1 : Int) = 1 := by decide
      rw [this, Int.ediv_one]
      split <;> omega
    rw [hc]
    refine List.map_congr_left fun k _ => ?_
    omega
  have step : ∀ k, k < (xs.drop 1).reverse.length → xs[xs.length - 1 - k]? = (xs.drop 1).reverse[k]? := fun k hk => by
    rw [List.length_reverse, List.length_drop] at hk
    rw [List.getElem?_reverse (by rw [List.length_drop]; omega), List.getElem?_drop, List.length_drop]
    congr 1
    omega
  unfold pickV
  rw [hb, hr, List.filterMap_map]
  have e : ∀ n, n ≤ (xs.drop 1).reverse.length → (List.range n).filterMap (fun k => xs[xs.length - 1 - k]?) = (List.range n).filterMap ((xs.drop 1).reverse[·]?) := by
    intro n
    induction n with
    | zero => intro _; rfl
    | succ n ih =>
      intro hn
      rw [List.range_succ, List.filterMap_append, List.filterMap_append, ih (by omega)]
      congr 1
      rw [List.filterMap_cons, List.filterMap_cons, step n (by omega)]
      cases (xs.drop 1).reverse[n]? <;> rfl
  exact (e _ (Nat.le_refl _)).trans (range_get _)
end My

set_option Elab.async false
set_option maxRecDepth 100000
namespace My
open PySem PySem.Spec PyProof.Rows L2 TL
section
variable {X : Cx} {CX : CXT} {k : Nat} {f : Addr} {fd : FuncData} {ps ks : List Str} {sp : Sp} {E : XK} {x : Str} {p pos : Pos} {kws : List Keyword} {tk : TA} {g : List Value → List Value → List Value} {gV : List V → List V → List V}
/-- f(k = v, ..), nothing by position -/
theorem pe_callK0 (F : FnOk X.prog X.w X.K X.mg X.base CX k f fd ps sp) (hr : Room k X.A) (hg : Gl X x) (hm : X.mg x = some (.ref f)) (hk : PySem.W.keepIn X.K (.ref f) = true) (hb : KBinds X.K fd ps ks g gV) (hx : Passes CX X E)
    (hkw : PK X kws tk) (hall : (backToKw pos (keywordEach kws X.env)).all (·.1.isSome) = true := by rfl) (hks : (backToKw pos (keywordEach kws X.env)).filterMap (·.1) = ks := by rfl)
    (hdb : (x == ("__debug__" : Str)) = false := by decide)
    (hpl : ((backTo pos (starEach [] X.env)).any (·.1) || (backToKw pos (keywordEach kws X.env)).any (·.1.isNone)) = false := by rfl) :
    PE X (.Call (.Name x p) [] kws pos) (tCallK sp gV E tNil tk) := by
  refine ⟨fun pins s σ H Q I h => ?_⟩
  refine wpAny_Call_Name_kw (ld_glob I hg hm ?_ hdb)
  refine PySem.W.callWith_KW0 (h₀ := X.base) I.ok.mod.kin hk hall (thn (hkw.run pos pins s σ H _ I h) fun ws s2 ⟨zs, H2, I2, rz, q2⟩ => ⟨I2.kIn, ?_⟩) hpl
  rw [hks]
  exact run_fnk (us := []) (vs := []) F hr hb hx I2 .nil rz q2
end
section
variable {K : PySem.W.Frag} {x qual : Str} {st : Stmt} {f : Addr} {fd : FuncData} {ps ks : List Str}
def kw4 {α : Type} (q : α → α → α → α → List α) : List α → List α → List α
  | [], [a, b, c, d] => q a b c d
  | _, _ => []
def kw3 {α : Type} (q : α → α → α → List α) : List α → List α → List α
  | [], [a, b, c] => q a b c
  | _, _ => []
theorem kbind4 (F : Fun K x qual st f fd) (q : {α : Type} → α → α → α → α → List α) (hp : ps ≠ [])
    (hb : ∀ (kV doc pm : Value) (an : Option Addr) (cdv ct : Value) (a b c d : Value), bindArgs (PySem.W.fnOf x qual (defArgs st) (defBody st) (defScope st) .none kV doc pm an cdv ct) ⟨[], ks.zip [a, b, c, d]⟩ = pure (ps.zip (q a b c d)))
    (hr : ∀ {v1 v2 v3 v4 : V} {a b c d : Value}, RelV v1 a → RelV v2 b → RelV v3 c → RelV v4 d → Vals (q v1 v2 v3 v4) (q a b c d)) : KBinds K fd ps ks (kw4 q) (kw4 q) := by
  obtain ⟨oc, od, kV, doc, pm, an, cdv, ct, osl, rfl, lk, hcd⟩ := F.ex
  have emp : ∀ l : List Value, l = [] → l.length = ps.length → False := fun l h h2 => by
    rw [h] at h2
    exact hp (List.length_eq_zero_iff.mp h2.symm)
  refine ⟨fun s us ws _ hl => ?_, fun {vs us zs ws} r1 r2 => ?_⟩
  · match us, ws, hl with
    | [], [a, b, c, d], hl => exact .of_eq (hb kV doc pm an cdv ct a b c d)
    | _ :: _, _, hl => exact absurd hl (fun h => emp _ (by unfold kw4; rfl) h)
    | [], [], hl => exact absurd hl (fun h => emp _ rfl h)
    | [], [_], hl => exact absurd hl (fun h => emp _ rfl h)
    | [], [_, _], hl => exact absurd hl (fun h => emp _ rfl h)
    | [], [_, _, _], hl => exact absurd hl (fun h => emp _ rfl h)
    | [], _ :: _ :: _ :: _ :: _ :: _, hl => exact absurd hl (fun h => emp _ rfl h)
  · match vs, us, zs, ws, r1, r2 with
    | [], [], [_, _, _, _], [_, _, _, _], .nil, .cons a (.cons b (.cons c (.cons d .nil))) => exact hr a b c d
    | _ :: _, _ :: _, _, _, .cons _ _, _ => exact .nil
    | [], [], [], [], .nil, .nil => exact .nil
    | [], [], [_], [_], .nil, .cons _ .nil => exact .nil
    | [], [], [_, _], [_, _], .nil, .cons _ (.cons _ .nil) => exact .nil
    | [], [], [_, _, _], [_, _, _], .nil, .cons _ (.cons _ (.cons _ .nil)) => exact .nil
    | [], [], _ :: _ :: _ :: _ :: _ :: _, _ :: _ :: _ :: _ :: _ :: _, .nil, .cons _ (.cons _ (.cons _ (.cons _ (.cons _ _)))) => exact .nil
theorem kbind3 (F : Fun K x qual st f fd) (q : {α : Type} → α → α → α → List α) (hp : ps ≠ [])
    (hb : ∀ (kV doc pm : Value) (an : Option Addr) (cdv ct : Value) (a b c : Value), bindArgs (PySem.W.fnOf x qual (defArgs st) (defBody st) (defScope st) .none kV doc pm an cdv ct) ⟨[], ks.zip [a, b, c]⟩ = pure (ps.zip (q a b c)))
    (hr : ∀ {v1 v2 v3 : V} {a b c : Value}, RelV v1 a → RelV v2 b → RelV v3 c → Vals (q v1 v2 v3) (q a b c)) : KBinds K fd ps ks (kw3 q) (kw3 q) := by
  obtain ⟨oc, od, kV, doc, pm, an, cdv, ct, osl, rfl, lk, hcd⟩ := F.ex
  have emp : ∀ l : List Value, l = [] → l.length = ps.length → False := fun l h h2 => by
    rw [h] at h2
    exact hp (List.length_eq_zero_iff.mp h2.symm)
  refine ⟨fun s us ws _ hl => ?_, fun {vs us zs ws} r1 r2 => ?_⟩
  · match us, ws, hl with
    | [], [a, b, c], hl => exact .of_eq (hb kV doc pm an cdv ct a b c)
    | _ :: _, _, hl => exact absurd hl (fun h => emp _ (by unfold kw3; rfl) h)
    | [], [], hl => exact absurd hl (fun h => emp _ rfl h)
    | [], [_], hl => exact absurd hl (fun h => emp _ rfl h)
    | [], [_, _], hl => exact absurd hl (fun h => emp _ rfl h)
    | [], _ :: _ :: _ :: _ :: _, hl => exact absurd hl (fun h => emp _ rfl h)
  · match vs, us, zs, ws, r1, r2 with
    | [], [], [_, _, _], [_, _, _], .nil, .cons a (.cons b (.cons c .nil)) => exact hr a b c
    | _ :: _, _ :: _, _, _, .cons _ _, _ => exact .nil
    | [], [], [], [], .nil, .nil => exact .nil
    | [], [], [_], [_], .nil, .cons _ .nil => exact .nil
    | [], [], [_, _], [_, _], .nil, .cons _ (.cons _ .nil) => exact .nil
    | [], [], _ :: _ :: _ :: _ :: _, _ :: _ :: _ :: _ :: _, .nil, .cons _ (.cons _ (.cons _ (.cons _ _))) => exact .nil
end
/-! ### texts of ints differ -/
theorem tl_neg (n : Nat) : tl (Str.ofString (toString (Int.negSucc n))) = 45 :: numL (n + 1) := by
  have e : toString (Int.negSucc n) = "-" ++ toString (n + 1) := rfl
  rw [e, tl_ofString, String.toList_append, List.map_append]
  have h := tl_num (n + 1)
  rw [tl_ofString] at h
  have e2 : toString (((n + 1 : Nat) : Int)) = toString (n + 1) := rfl
  rw [e2] at h
  rw [h]
  rfl
theorem numL_head (n : Nat) (l : List Nat) : numL n ≠ 45 :: l := fun e => by
  exact numL_free (n := n) (s := 45) (.inl (by decide)) (by rw [e]; exact List.mem_cons_self)
theorem int_inj {i j : Int} (h : (Str.ofString (toString i) : Str) = Str.ofString (toString j)) : i = j := by
  have h : tl (Str.ofString (toString i)) = tl (Str.ofString (toString j)) := by rw [h]
  cases i with
  | ofNat m =>
    cases j with
    | ofNat n =>
      have h : numL m = numL n := (tl_num m).symm.trans (h.trans (tl_num n))
      rw [numL_inj h]
    | negSucc n =>
      have h : numL m = 45 :: numL (n + 1) := (tl_num m).symm.trans (h.trans (tl_neg n))
      exact absurd h (numL_head _ _)
  | negSucc m =>
    cases j with
    | ofNat n =>
      have h : numL n = 45 :: numL (m + 1) := (tl_num n).symm.trans (h.symm.trans (tl_neg m))
      exact absurd h (numL_head _ _)
    | negSucc n =>
      have h : 45 :: numL (m + 1) = 45 :: numL (n + 1) := (tl_neg m).symm.trans (h.trans (tl_neg n))
      have := numL_inj (List.cons.inj h).2
      rw [show m = n by omega]
theorem app_inj {x y z : Str} (h : x ++ y = x ++ z) : y = z := by
  have h : tl (x ++ y) = tl (x ++ z) := by rw [h]
  rw [tl_append, tl_append] at h
  exact ext_tl (List.append_cancel_left h)
theorem app_injR {x y z : Str} (h : y ++ x = z ++ x) : y = z := by
  have h : tl (y ++ x) = tl (z ++ x) := by rw [h]
  rw [tl_append, tl_append] at h
  exact ext_tl (List.append_cancel_right h)
theorem two_inj {s t u : Str} (h : tupleText [s, t] = tupleText [s, u]) : t = u := by
  have e : ∀ t : Str, tupleText [s, t] = ("(" : Str) ++ (s ++ (", " : Str) ++ t) ++ (")" : Str) := fun _ => rfl
  rw [e, e] at h
  exact app_inj (app_inj (app_injR h))
end My

set_option Elab.async false
set_option linter.all false
set_option maxRecDepth 100000
namespace My
open PySem PySem.Spec PyProof.Rows L2 TL
/-! ### numbers as words -/
def numW (n : Int) : Str := Str.ofString (toString n)
theorem tl_numW (n : Int) : tl (numW n) = if n < 0 then 45 :: numL n.natAbs else numL n.natAbs := by
  cases n with
  | ofNat m =>
    rw [if_neg (by simp)]
    exact tl_num m
  | negSucc m =>
    rw [if_pos (Int.negSucc_lt_zero m)]
    exact tl_neg m
theorem numW_free {n : Int} {s : Nat} (h : s ≠ 45) (h2 : s < 48 ∨ 57 < s) : s ∉ tl (numW n) := by
  rw [tl_numW]
  split
  · intro hm
    rcases List.mem_cons.mp hm with hm | hm
    · exact h hm
    · exact numL_free h2 hm
  · exact numL_free h2
theorem numW_ne (n : Int) : tl (numW n) ≠ [] := by
  rw [tl_numW]
  split
  · exact List.cons_ne_nil _ _
  · exact numL_ne _
theorem numW_len {n : Int} {k : Nat} (hk : 0 < k) (h : n.natAbs < 10 ^ k) : (numW n).length ≤ k + 1 := by
  rw [len_tl, tl_numW]
  have := numL_len hk h
  split
  · rw [List.length_cons]; omega
  · omega
theorem sw_one (x : Str) (c : Nat) : Txt.startswith x ⟨#[c]⟩ = decide ((tl x)[0]? = some c) := by
  have h := PySem.StrLaws.subAt_one x c 0
  unfold Txt.startswith
  have e : ((0 + (⟨#[c]⟩ : Str).length ≤ x.length) ∧ Builtin.Str.subAt x ⟨#[c]⟩ 0 = true) ↔ (tl x)[0]? = some c := h
  by_cases hc : (tl x)[0]? = some c
  · rw [decide_eq_true hc]
    obtain ⟨h1, h2⟩ := e.mpr hc
    rw [h2, decide_eq_true h1]
    rfl
  · rw [decide_eq_false hc]
    cases hb : (decide (0 + (⟨#[c]⟩ : Str).length ≤ x.length) && Builtin.Str.subAt x ⟨#[c]⟩ 0) with
    | false => rfl
    | true =>
      rw [Bool.and_eq_true] at hb
      exact absurd (e.mp ⟨of_decide_eq_true hb.1, hb.2⟩) hc
theorem numL_cons (n : Nat) : ∃ c l, numL n = c :: l ∧ 48 ≤ c ∧ c ≤ 57 := by
  cases h : numL n with
  | nil => exact absurd h (numL_ne n)
  | cons c l => exact ⟨c, l, rfl, numL_digits n c (by rw [h]; exact List.mem_cons_self)⟩
theorem minus_is : ("-" : Str) = ⟨#[45]⟩ := rfl
theorem nought_is : ("0" : Str) = ⟨#[48]⟩ := rfl
theorem sw_minus (n : Int) : Txt.startswith (numW n) ("-" : Str) = decide (n < 0) := by
  rw [minus_is, sw_one, tl_numW]
  by_cases h : n < 0
  · rw [if_pos h, decide_eq_true h]; rfl
  · rw [if_neg h, decide_eq_false h]
    obtain ⟨c, l, e, h1, h2⟩ := numL_cons n.natAbs
    rw [e]
    show decide (some c = some 45) = false
    exact decide_eq_false (fun z => by cases z; omega)
def digW (n : Nat) : Str := ⟨(numL n).toArray⟩
theorem tl_digW (n : Nat) : tl (digW n) = numL n := tl_mk _
theorem numW_pos {n : Int} (h : ¬ n < 0) : numW n = digW n.natAbs := ext_tl (by rw [tl_numW, if_neg h, tl_digW])
theorem cut_minus {n : Int} (h : n < 0) : cutS (numW n) (some 1) none = digW n.natAbs := by
  refine ext_tl ?_
  show (((tl (numW n)).drop (HT.sIx (numW n).length 0 (some 1))).take (HT.sIx (numW n).length (numW n).length none - HT.sIx (numW n).length 0 (some 1))) = _
  have h1 : HT.sIx (numW n).length 0 (some ((1 : Nat) : Int)) = min 1 (numW n).length := HT.sIx_nat _ _ _
  have h2 : HT.sIx (numW n).length 0 (some (1 : Int)) = min 1 (numW n).length := h1
  have h3 : HT.sIx (numW n).length (numW n).length none = (numW n).length := HT.sIx_none _ _
  have hl : (numW n).length = (numL n.natAbs).length + 1 := by rw [len_tl, tl_numW, if_pos h]; rfl
  rw [h2, h3, hl, tl_numW, if_pos h, tl_digW]
  have : min 1 ((numL n.natAbs).length + 1) = 1 := by omega
  rw [this, Nat.add_sub_cancel]
  show ((numL n.natAbs)).take _ = _
  exact List.take_length
theorem all_mem {l : List Nat} {p : Nat → Bool} (h : ∀ c ∈ l, p c = true) : l.toArray.all p = true := by
  rw [← Array.all_toList]
  exact List.all_eq_true.mpr h
theorem dig_isdigit (n : Nat) : Txt.isdigit (digW n) = true := by
  unfold Txt.isdigit
  have h1 : (digW n).length > 0 := by
    rw [len_tl, tl_digW]
    have := numL_ne n
    exact List.length_pos_iff.mpr this
  have h2 : (digW n).cps.all Unicode.isDigit = true := all_mem fun c hc => by
    have := numL_digits n c hc
    have hall : ∀ c : Nat, 48 ≤ c ∧ c ≤ 57 → Unicode.isDigit c = true := by
      intro c hc
      have : c = 48 ∨ c = 49 ∨ c = 50 ∨ c = 51 ∨ c = 52 ∨ c = 53 ∨ c = 54 ∨ c = 55 ∨ c = 56 ∨ c = 57 := by omega
      rcases this with h | h | h | h | h | h | h | h | h | h <;> subst h <;> decide +kernel
    exact hall c this
  rw [decide_eq_true h1, h2]; rfl
theorem dig_isascii (n : Nat) : Txt.isascii (digW n) = true := all_mem fun c hc => by
  have := numL_digits n c hc
  exact decide_eq_true (by omega)
theorem toDigits_head (n : Nat) (h : 0 < n) : ∀ l, numL n ≠ 48 :: l := by
  induction n using Nat.strongRecOn with
  | _ n ih =>
    intro l
    by_cases hn : n < 10
    · rw [numL_lt hn]
      intro e
      have := (List.cons.inj e).1
      omega
    · rw [numL_step (by omega)]
      obtain ⟨c, m, e, _, _⟩ := numL_cons (n / 10)
      rw [e]
      intro z
      have z1 : c = 48 := (List.cons.inj z).1
      subst z1
      exact ih (n / 10) (by omega) (by omega) m e
theorem sw_nought (n : Nat) : Txt.startswith (digW n) ("0" : Str) = decide (n = 0) := by
  rw [nought_is, sw_one, tl_digW]
  by_cases h : n = 0
  · rw [decide_eq_true h, h]
    rfl
  · rw [decide_eq_false h]
    obtain ⟨c, l, e, _, _⟩ := numL_cons n
    rw [e]
    refine decide_eq_false fun z => ?_
    have z : some c = some 48 := z
    cases z
    exact toDigits_head n (by omega) l e
theorem dig_nought : digW 0 = ("0" : Str) := rfl
theorem intText_numW {n : Int} (h : (numW n).length ≤ 4300) : intText? (numW n) = some n := by
  by_cases hn : n < 0
  · have e : (numW n).cps.toList = 45 :: numL n.natAbs := by
      have := tl_numW n
      rw [if_pos hn] at this
      exact this
    rw [PySem.intText_neg e (numL_digits _) (numL_ne _) h, numL_val]
    congr 1
    omega
  · have e : (numW n).cps.toList = numL n.natAbs := by
      have := tl_numW n
      rw [if_neg hn] at this
      exact this
    rw [PySem.intText_digits (by rw [e]; exact numL_digits _) (by rw [e]; exact numL_ne _) h, e, numL_val]
    congr 1
    omega
/-! ### words of a line, lines of a text -/
def Free (s : Nat) (ws : List Str) : Prop := ∀ w ∈ ws, s ∉ tl w
def lineW (ws : List Str) : Str := Str.join (" " : Str) ws
def textW (ls : List Str) : Str := Str.join ("\n" : Str) ls
theorem split_line {ws : List Str} (h0 : ws ≠ []) (h : Free 32 ws) : Txt.split (lineW ws) (" " : Str) = ws := by
  have := split_join (y := (" " : Str)) (s := 32) (S := []) rfl (by decide +kernel) h0 h
  rw [join_eq] at this
  exact this
theorem split_text {ls : List Str} (h0 : ls ≠ []) (h : Free 10 ls) : Txt.split (textW ls) ("\n" : Str) = ls := by
  have := split_join (y := ("\n" : Str)) (s := 10) (S := []) rfl (by decide +kernel) h0 h
  rw [join_eq] at this
  exact this
theorem free_line {s : Nat} {ws : List Str} (hs : s ≠ 32) (h : Free s ws) : s ∉ tl (lineW ws) := by
  unfold lineW
  induction ws with
  | nil => exact (fun z => by cases z)
  | cons w ws ih =>
    cases ws with
    | nil => exact h w List.mem_cons_self
    | cons v vs =>
      show s ∉ tl (w ++ (" " : Str) ++ Str.join _ (v :: vs))
      rw [tl_append, tl_append]
      intro hm
      rcases List.mem_append.mp hm with hm | hm
      · rcases List.mem_append.mp hm with hm | hm
        · exact h w List.mem_cons_self hm
        · have : s = 32 := by
            have hm : s ∈ [32] := hm
            exact List.mem_singleton.mp hm
          exact hs this
      · exact ih (fun x hx => h x (List.mem_cons_of_mem _ hx)) hm
theorem line_len : ∀ {ws : List Str} {m : Nat}, (∀ w ∈ ws, w.length ≤ m) → (lineW ws).length ≤ (m + 1) * ws.length
  | [], m, _ => Nat.zero_le _
  | [w], m, h => by
    have := h w List.mem_cons_self
    show w.length ≤ (m + 1) * 1
    omega
  | w :: v :: vs, m, h => by
    have h1 := h w List.mem_cons_self
    have ih := line_len (ws := v :: vs) (m := m) fun x hx => h x (List.mem_cons_of_mem _ hx)
    show (w ++ (" " : Str) ++ lineW (v :: vs)).length ≤ _
    rw [len_app, len_app]
    have e : ((" " : Str)).length = 1 := rfl
    rw [e, List.length_cons, Nat.mul_add]
    omega
theorem text_len : ∀ {ws : List Str} {m : Nat}, (∀ w ∈ ws, w.length ≤ m) → (textW ws).length ≤ (m + 1) * ws.length
  | [], m, _ => Nat.zero_le _
  | [w], m, h => by
    have := h w List.mem_cons_self
    show w.length ≤ (m + 1) * 1
    omega
  | w :: v :: vs, m, h => by
    have h1 := h w List.mem_cons_self
    have ih := text_len (ws := v :: vs) (m := m) fun x hx => h x (List.mem_cons_of_mem _ hx)
    show (w ++ ("\n" : Str) ++ textW (v :: vs)).length ≤ _
    rw [len_app, len_app]
    have e : (("\n" : Str)).length = 1 := rfl
    rw [e, List.length_cons, Nat.mul_add]
    omega
end My

set_option Elab.async false
set_option linter.all false
set_option maxRecDepth 100000
namespace My
open PySem PySem.Spec PyProof.Rows L2 TL
/-! ### programs as data -/
inductive Sg
  | add | sub | mul | div | least | most | choose
deriving DecidableEq
def Sg.str : Sg → Str
  | .add => "+"
  | .sub => "-"
  | .mul => "*"
  | .div => "/"
  | .least => "least"
  | .most => "most"
  | .choose => "choose"
def Sg.isR : Sg → Bool
  | .add => true
  | .sub => true
  | .mul => true
  | .div => true
  | _ => false
def Sg.ary : Sg → Nat
  | .choose => 4
  | _ => 2
inductive Opd
  | nm (s : Str)
  | nb (n : Int)
structure Stp where
  nm : Str
  sg : Sg
  ops : List Opd
  more : Nat
  way : Wy
structure Inp where
  nm : Str
  lo : Int
  hi : Int
def Opd.w : Opd → Str
  | .nm s => s
  | .nb n => numW n
def Opd.v : Opd → V
  | .nm s => .str s
  | .nb n => .int n
def waS : Wy → Str
  | .near => "near"
  | .down => "down"
  | .up => "up"
  | .zero => "zero"
def keepW (more : Nat) (y : Wy) : List Str :=
  (if 0 < more then [("keep" : Str), numW (more : Int)] else []) ++ (match y with | .near => [] | y => [("way" : Str), waS y])
def Stp.words (s : Stp) : List Str :=
  if s.sg.isR = true then
    match s.ops with
    | [x, y] => [s.nm, ("=" : Str), x.w, s.sg.str, y.w] ++ keepW s.more s.way
    | _ => []
  else [s.nm, ("=" : Str), s.sg.str] ++ s.ops.map Opd.w
def Inp.words (r : Inp) : List Str := [("input" : Str), r.nm, numW r.lo, numW r.hi]
def gridWords (b f r pl : Nat) : List Str := [("grid" : Str), numW (b : Int), numW (f : Int), numW (r : Int), numW (pl : Int)]
def tellWords (told : List Str) : List Str := ("tell" : Str) :: told
/-- names of inputs, of steps -/
def IN : List Str := [("a" : Str), ("b" : Str), ("c" : Str)]
def SND : List Str := [("s" : Str), ("t" : Str), ("u" : Str), ("v" : Str), ("x1" : Str), ("y2" : Str), ("z" : Str), ("sum" : Str), ("d12" : Str), ("e" : Str)]
def SN : List Str := SND ++ [("x" : Str), ("c1" : Str), ("c2" : Str), ("c3" : Str), ("c4" : Str), ("l" : Str), ("lc" : Str), ("m" : Str), ("mc" : Str), ("p" : Str), ("q" : Str), ("r" : Str), ("w" : Str), ("y" : Str)]
theorem snd_sn : ∀ x ∈ SND, x ∈ SN := fun _ h => List.mem_append_left _ h
def NM : List Str := IN ++ SN
def LW : List Str := [("a" : Str), ("b" : Str), ("c" : Str), ("s" : Str), ("t" : Str), ("u" : Str), ("v" : Str), ("x" : Str), ("y" : Str), ("z" : Str), ("sum" : Str), ("d" : Str), ("e" : Str), ("l" : Str), ("lc" : Str), ("m" : Str), ("mc" : Str), ("p" : Str), ("q" : Str), ("r" : Str), ("w" : Str)]
def WD : List Str := [("grid" : Str), ("input" : Str), ("tell" : Str), ("least" : Str), ("most" : Str), ("choose" : Str), ("keep" : Str), ("way" : Str)]
theorem lw_facts : ∀ x ∈ LW, (1 ≤ x.length ∧ x.length < 7) ∧ Txt.isascii x = true ∧ Txt.isalpha x = true ∧ Txt.islower x = true := by decide +kernel
theorem sn_facts : ∀ x ∈ SN, Txt.rstripChars x ("0123456789" : Str) ∈ LW ∧ x.length ≤ (Txt.rstripChars x ("0123456789" : Str)).length + 3 ∧ (Txt.rstripChars x ("0123456789" : Str)).length ≤ x.length := by decide +kernel
theorem in_lw : ∀ x ∈ IN, x ∈ LW := by decide +kernel
theorem nm_facts : ∀ x ∈ NM, x ∉ WD ∧ 32 ∉ tl x ∧ 10 ∉ tl x ∧ x.length ≤ 3 ∧ x ≠ ("input" : Str) ∧ x ≠ ("=" : Str) := by decide +kernel
def OpOk (b f r : Nat) (names : List Str) : Opd → Prop
  | .nm s => s ∈ names
  | .nb n => OnG b (b ^ f) ((b ^ f - 1) * b ^ r) n
structure StpOk (b f r : Nat) (names : List Str) (s : Stp) : Prop where
  sn : s.nm ∈ SN
  new : s.nm ∉ names
  len : s.ops.length = s.sg.ary
  ops : ∀ o ∈ s.ops, OpOk b f r names o
  plain : s.sg.isR = false → s.more = 0 ∧ s.way = .near
  more : s.more ≤ 3
  fine : s.more = 0 ∨ f + s.more ≤ 30
def StpsOk (b f r : Nat) : List Str → List Stp → Prop
  | _, [] => True
  | names, s :: ss => StpOk b f r names s ∧ StpsOk b f r (names ++ [s.nm]) ss
structure InpOk (b f r : Nat) (names : List Str) (i : Inp) : Prop where
  inn : i.nm ∈ IN
  new : i.nm ∉ names
  lo : OnG b (b ^ f) ((b ^ f - 1) * b ^ r) i.lo
  hi : OnG b (b ^ f) ((b ^ f - 1) * b ^ r) i.hi
  le : i.lo ≤ i.hi
def InpsOk (b f r : Nat) : List Str → List Inp → Prop
  | _, [] => True
  | names, s :: ss => InpOk b f r names s ∧ InpsOk b f r (names ++ [s.nm]) ss
/-! ### words are words -/
theorem op_free {b f r : Nat} {names : List Str} (hn : ∀ x ∈ names, x ∈ NM) {o : Opd} (h : OpOk b f r names o) : 32 ∉ tl o.w ∧ 10 ∉ tl o.w := by
  cases o with
  | nm s =>
    have := nm_facts s (hn s h)
    exact ⟨this.2.1, this.2.2.1⟩
  | nb n => exact ⟨numW_free (by decide) (.inl (by decide)), numW_free (by decide) (.inl (by decide))⟩
theorem keep_free (m : Nat) (y : Wy) {s : Nat} (hs : s = 32 ∨ s = 10) : Free s (keepW m y) := by
  intro w hw
  unfold keepW at hw
  have num : s ∉ tl (numW (m : Int)) := by
    rcases hs with rfl | rfl
    · exact numW_free (by decide) (.inl (by decide))
    · exact numW_free (by decide) (.inl (by decide))
  have lit : ∀ w : Str, w = ("keep" : Str) ∨ w = ("way" : Str) ∨ w = waS .down ∨ w = waS .up ∨ w = waS .zero → s ∉ tl w := by
    intro w hw
    rcases hs with rfl | rfl <;> rcases hw with rfl | rfl | rfl | rfl | rfl <;> decide +kernel
  rcases List.mem_append.mp hw with hw | hw
  · split at hw
    · rcases List.mem_cons.mp hw with rfl | hw
      · exact lit _ (.inl rfl)
      · rw [List.mem_singleton.mp hw]; exact num
    · cases hw
  · cases y with
    | near => cases hw
    | down =>
      rcases List.mem_cons.mp hw with rfl | hw
      · exact lit _ (.inr (.inl rfl))
      · rw [List.mem_singleton.mp hw]; exact lit _ (.inr (.inr (.inl rfl)))
    | up =>
      rcases List.mem_cons.mp hw with rfl | hw
      · exact lit _ (.inr (.inl rfl))
      · rw [List.mem_singleton.mp hw]; exact lit _ (.inr (.inr (.inr (.inl rfl))))
    | zero =>
      rcases List.mem_cons.mp hw with rfl | hw
      · exact lit _ (.inr (.inl rfl))
      · rw [List.mem_singleton.mp hw]; exact lit _ (.inr (.inr (.inr (.inr rfl))))
theorem sg_free (g : Sg) {s : Nat} (hs : s = 32 ∨ s = 10) : s ∉ tl g.str ∧ s ∉ tl ("=" : Str) := by
  rcases hs with rfl | rfl <;> cases g <;> decide +kernel
theorem stp_free {b f r : Nat} {names : List Str} (hn : ∀ x ∈ names, x ∈ NM) {st : Stp} (h : StpOk b f r names st) {s : Nat} (hs : s = 32 ∨ s = 10) : Free s st.words := by
  have hnm : s ∉ tl st.nm := by
    have := nm_facts st.nm (List.mem_append_right _ h.sn)
    rcases hs with rfl | rfl
    · exact this.2.1
    · exact this.2.2.1
  have hop : ∀ o ∈ st.ops, s ∉ tl o.w := fun o ho => by
    have := op_free hn (h.ops o ho)
    rcases hs with rfl | rfl
    · exact this.1
    · exact this.2
  obtain ⟨g1, g2⟩ := sg_free st.sg hs
  intro w hw
  unfold Stp.words at hw
  split at hw
  · split at hw
    · rename_i x y e
      rcases List.mem_append.mp hw with hw | hw
      · rcases List.mem_cons.mp hw with rfl | hw
        · exact hnm
        rcases List.mem_cons.mp hw with rfl | hw
        · exact g2
        rcases List.mem_cons.mp hw with rfl | hw
        · exact hop x (by rw [e]; simp)
        rcases List.mem_cons.mp hw with rfl | hw
        · exact g1
        · rw [List.mem_singleton.mp hw]; exact hop y (by rw [e]; simp)
      · exact keep_free _ _ hs w hw
    · cases hw
  · rcases List.mem_append.mp hw with hw | hw
    · rcases List.mem_cons.mp hw with rfl | hw
      · exact hnm
      rcases List.mem_cons.mp hw with rfl | hw
      · exact g2
      · rw [List.mem_singleton.mp hw]; exact g1
    · obtain ⟨o, ho, rfl⟩ := List.mem_map.mp hw
      exact hop o ho
theorem inp_free {b f r : Nat} {names : List Str} {i : Inp} (h : InpOk b f r names i) {s : Nat} (hs : s = 32 ∨ s = 10) : Free s i.words := by
  have hnm : s ∉ tl i.nm := by
    have := nm_facts i.nm (List.mem_append_left _ h.inn)
    rcases hs with rfl | rfl
    · exact this.2.1
    · exact this.2.2.1
  have num : ∀ n : Int, s ∉ tl (numW n) := fun n => by
    rcases hs with rfl | rfl
    · exact numW_free (by decide) (.inl (by decide))
    · exact numW_free (by decide) (.inl (by decide))
  have lit : s ∉ tl ("input" : Str) := by rcases hs with rfl | rfl <;> decide +kernel
  intro w hw
  unfold Inp.words at hw
  rcases List.mem_cons.mp hw with rfl | hw
  · exact lit
  rcases List.mem_cons.mp hw with rfl | hw
  · exact hnm
  rcases List.mem_cons.mp hw with rfl | hw
  · exact num _
  · rw [List.mem_singleton.mp hw]; exact num _
theorem grid_free (b f r pl : Nat) {s : Nat} (hs : s = 32 ∨ s = 10) : Free s (gridWords b f r pl) := by
  have num : ∀ n : Int, s ∉ tl (numW n) := fun n => by
    rcases hs with rfl | rfl
    · exact numW_free (by decide) (.inl (by decide))
    · exact numW_free (by decide) (.inl (by decide))
  have lit : s ∉ tl ("grid" : Str) := by rcases hs with rfl | rfl <;> decide +kernel
  intro w hw
  unfold gridWords at hw
  rcases List.mem_cons.mp hw with rfl | hw
  · exact lit
  rcases List.mem_cons.mp hw with rfl | hw
  · exact num _
  rcases List.mem_cons.mp hw with rfl | hw
  · exact num _
  rcases List.mem_cons.mp hw with rfl | hw
  · exact num _
  · rw [List.mem_singleton.mp hw]; exact num _
theorem tell_free {told : List Str} (h : ∀ x ∈ told, x ∈ NM) {s : Nat} (hs : s = 32 ∨ s = 10) : Free s (tellWords told) := by
  have lit : s ∉ tl ("tell" : Str) := by rcases hs with rfl | rfl <;> decide +kernel
  intro w hw
  rcases List.mem_cons.mp hw with rfl | hw
  · exact lit
  · have := nm_facts w (h w hw)
    rcases hs with rfl | rfl
    · exact this.2.1
    · exact this.2.2.1
/-! ### lengths of words -/
theorem num_short {b f r : Nat} (hb : b ≤ 10) (hl : f + r ≤ 100) {n : Int} (h : n.natAbs ≤ (b ^ f - 1) * b ^ r) : (numW n).length ≤ 120 := by
  have h1 : (b ^ f - 1) * b ^ r ≤ b ^ f * b ^ r := Nat.mul_le_mul_right _ (Nat.sub_le _ _)
  rw [← Nat.pow_add] at h1
  have h2 : b ^ (f + r) ≤ 10 ^ (f + r) := Nat.pow_le_pow_left hb _
  have h3 : 10 ^ (f + r) ≤ 10 ^ 100 := Nat.pow_le_pow_right (by decide) hl
  have h4 : 10 ^ 100 < 10 ^ 101 := Nat.pow_lt_pow_right (by decide) (by decide)
  have := numW_len (n := n) (k := 101) (by decide) (by omega)
  omega
theorem op_short {b f r : Nat} (hb : b ≤ 10) (hl : f + r ≤ 100) {names : List Str} (hn : ∀ x ∈ names, x ∈ NM) {o : Opd} (h : OpOk b f r names o) : o.w.length ≤ 120 := by
  cases o with
  | nm s => exact Nat.le_trans (nm_facts s (hn s h)).2.2.2.1 (by decide)
  | nb n => exact num_short hb hl h.1
theorem keep_short {m : Nat} (hm : m ≤ 3) (y : Wy) : ∀ w ∈ keepW m y, w.length ≤ 120 := by
  have : m = 0 ∨ m = 1 ∨ m = 2 ∨ m = 3 := by omega
  rcases this with rfl | rfl | rfl | rfl <;> cases y <;> decide +kernel
theorem sg_short (g : Sg) : g.str.length ≤ 120 := by cases g <;> decide +kernel
theorem stp_short {b f r : Nat} (hb : b ≤ 10) (hl : f + r ≤ 100) {names : List Str} (hn : ∀ x ∈ names, x ∈ NM) {st : Stp} (h : StpOk b f r names st) : ∀ w ∈ st.words, w.length ≤ 120 := by
  have hnm : st.nm.length ≤ 120 := Nat.le_trans (nm_facts st.nm (List.mem_append_right _ h.sn)).2.2.2.1 (by decide)
  have hop : ∀ o ∈ st.ops, o.w.length ≤ 120 := fun o ho => op_short hb hl hn (h.ops o ho)
  have heq : ("=" : Str).length ≤ 120 := by decide +kernel
  intro w hw
  unfold Stp.words at hw
  split at hw
  · split at hw
    · rename_i x y e
      rcases List.mem_append.mp hw with hw | hw
      · rcases List.mem_cons.mp hw with rfl | hw
        · exact hnm
        rcases List.mem_cons.mp hw with rfl | hw
        · exact heq
        rcases List.mem_cons.mp hw with rfl | hw
        · exact hop x (by rw [e]; simp)
        rcases List.mem_cons.mp hw with rfl | hw
        · exact sg_short _
        · rw [List.mem_singleton.mp hw]; exact hop y (by rw [e]; simp)
      · exact keep_short h.more _ w hw
    · cases hw
  · rcases List.mem_append.mp hw with hw | hw
    · rcases List.mem_cons.mp hw with rfl | hw
      · exact hnm
      rcases List.mem_cons.mp hw with rfl | hw
      · exact heq
      · rw [List.mem_singleton.mp hw]; exact sg_short _
    · obtain ⟨o, ho, rfl⟩ := List.mem_map.mp hw
      exact hop o ho
theorem keep_len (m : Nat) (y : Wy) : (keepW m y).length ≤ 4 := by
  unfold keepW
  rw [List.length_append]
  have : (match y with | .near => [] | y => [("way" : Str), waS y]).length ≤ 2 := by cases y <;> decide
  split <;> simp <;> omega
theorem stp_words_len {b f r : Nat} {names : List Str} {st : Stp} (h : StpOk b f r names st) : 5 ≤ st.words.length ∧ st.words.length ≤ 9 := by
  have hl := h.len
  unfold Stp.words
  split
  · rename_i g
    have : st.ops.length = 2 := by
      rw [hl]
      cases hs : st.sg <;> first | rfl | (rw [hs] at g; cases g)
    match ho : st.ops, this with
    | [x, y], _ =>
      have := keep_len st.more st.way
      simp only [List.length_append, List.length_cons, List.length_nil]
      omega
  · rename_i g
    rw [List.length_append, List.length_map, hl]
    cases hs : st.sg <;> rw [hs] at g <;> first | exact (g rfl).elim | (simp [Sg.ary])
end My

set_option Elab.async false
set_option linter.all false
set_option maxRecDepth 100000
namespace My
open PySem PySem.Spec PyProof.Rows L2
section
variable {X : Cx} {CX : CXT} {k : Nat} {f C : Addr} {fd : FuncData} {ps : List Str} {sp : Sp} {dvs : List V} {ds : List Value} {E : XK} {x : Str} {p pos q : Pos} {e : Expr} {te : TE}
def tMakeS (K : PySem.W.Frag) (C : Addr) (sp : Sp) (dvs : List V) (E : XK) (te : TE) : TE := fun σ H Q => te σ H fun y H1 => ∃ a xs, y = V.ref a ∧ (SqT K H1 a xs ∨ SqL K H1 a xs) ∧ tMake C sp dvs E (fun _ H2 Q2 => Q2 xs H2) σ H1 Q
/-- C(*y) -/
theorem pe_makeS (M : Mk X.K C f) (F : FnOk X.prog X.w X.K X.mg X.base CX k f fd ps sp) (hr : Room (k + 1) X.A) (hg : Gl X x) (hm : X.mg x = some (.ref C)) (hb : Binds X.K fd ps ds) (hd : Vals dvs ds) (hx : Passes CX X E)
    (he : PE X e te) (hdb : (x == ("__debug__" : Str)) = false := by decide) (hst : starEach [.Starred e q] X.env = [(true, eval e X.env)] := by rfl) :
    PE X (.Call (.Name x p) [.Starred e q] [] pos) (tMakeS X.K C sp dvs E te) := by
  constructor
  intro pins s σ H Q I h
  refine wpAny_Call_Name_kw (ld_glob I hg hm ?_ hdb)
  refine PySem.W.callWith_S (h₀ := X.base) I.ok.mod.kin M.kp ?_ hst
  refine thn (he.run pins s σ H _ I h) ?_
  rintro v s1 ⟨y, H1, I1, ry, a, xs, ey, hxs, w⟩
  subst ey
  obtain rfl : v = Value.ref a := ry
  exact StX.star_any I1 hxs fun us s2 I2 rv => ⟨I2.kIn, run_make M F hr hb hd hx I2 rv w⟩
end
end My

set_option Elab.async false
set_option linter.all false
namespace My
open PySem L2 Evl
/-- what a join asks, by the fragment's name (for elements of own lists) -/
def rJn (K : PySem.W.Frag) : V → List V → Hp → VK → Prop := fun x xs H Q => ∃ a p, ∃ ys : List Str, x = .str a ∧ xs = [.ref p] ∧ (SqL K H p (ys.map V.str) ∨ SqT K H p (ys.map V.str)) ∧
      (ys.map (·.length)).sum + ys.length * a.length ≤ 16777216 ∧ Q (.str (Txt.join a ys)) H
theorem pe_joinK {X : Cx} {K : PySem.W.Frag} {o e : Expr} {to te : TE} {apos pos : Pos} (hK : X.K = K) (ho : PE X o to) (he : PE X e te) (hs : starEach [e] X.env = [(false, eval e X.env)] := by rfl) (hbase : attributeBase o "join" X.env (eval o X.env) = eval o X.env := by rfl) (hline : (apos.endLine == pos.line) = true := by rfl) :
    PE X (.Call (.Attribute o "join" apos) [e] [] pos) (tM1 (rJn K) to te) := by
  subst hK
  exact pe_join ho he hs hbase hline
end My

set_option Elab.async false
set_option linter.all false
set_option maxRecDepth 100000
namespace My
open PySem PySem.Spec PyProof.Rows L2 TL
/-! ### what a program's run comes to -/
theorem rg_scale {b L : Nat} (y : Wy) {t : Int} {d g : Nat} (hb : 2 ≤ b) (hd : 0 < d) (hg : 0 < g) : rg y b L (t * (g : Int)) (d * g) = rg y b L t d := by
  have e1 : (t * (g : Int)).natAbs / (d * g) = t.natAbs / d := by
    rw [Int.natAbs_mul, Int.natAbs_natCast]
    exact Nat.mul_div_mul_right _ _ hg
  have hs := spcI_pos (L := L) hb (t.natAbs / d)
  unfold rg sps
  rw [e1]
  generalize (spc b L (t.natAbs / d) : Int) = s at *
  have hds : 0 < (d : Int) * s := Int.mul_pos (by omega) hs
  have e2 : ((d * g : Nat) : Int) * s = ((d : Int) * s) * (g : Int) := by
    rw [Int.natCast_mul, Int.mul_assoc, Int.mul_comm (g : Int) s, ← Int.mul_assoc]
  rw [e2]
  generalize (d : Int) * s = S at *
  have hgI : (0 : Int) < (g : Int) := by omega
  have e3 : t * (g : Int) / (S * (g : Int)) = t / S := Int.mul_ediv_mul_of_pos_left _ _ hgI
  have e4 : t * (g : Int) % (S * (g : Int)) = t % S * (g : Int) := by rw [Int.mul_comm t, Int.mul_comm S, Int.mul_emod_mul_of_pos _ _ hgI, Int.mul_comm]
  rw [e3, e4]
  have e5 : (t % S * (g : Int) != 0) = (t % S != 0) := by
    rw [Bool.eq_iff_iff]
    simp
    omega
  have e6 : wup y (t / S) (t % S * (g : Int)) (S * (g : Int)) = wup y (t / S) (t % S) S := by
    cases y with
    | near =>
      show (decide (S * (g : Int) < t % S * (g : Int) * 2) || (decide (t % S * (g : Int) * 2 = S * (g : Int)) && _)) = (decide (S < t % S * 2) || (decide (t % S * 2 = S) && _))
      have f1 : t % S * (g : Int) * 2 = (t % S * 2) * (g : Int) := by rw [Int.mul_assoc, Int.mul_comm (g : Int) 2, ← Int.mul_assoc]
      rw [f1]
      have f2 : (S * (g : Int) < t % S * 2 * (g : Int)) ↔ S < t % S * 2 := ⟨fun h => Int.lt_of_mul_lt_mul_right h (by omega), fun h => Int.mul_lt_mul_of_pos_right h hgI⟩
      have f3 : (t % S * 2 * (g : Int) = S * (g : Int)) ↔ t % S * 2 = S := ⟨fun h => Int.eq_of_mul_eq_mul_right (by omega) h, fun h => by rw [h]⟩
      rw [decide_eq_decide.mpr f2, decide_eq_decide.mpr f3]
    | down => rfl
    | up => rfl
    | zero => rfl
  rw [e5, e6]
theorem rg_red {b L : Nat} (y : Wy) (t : Int) {d : Nat} (hb : 2 ≤ b) (hd : 0 < d) : rg y b L (t / ((Nat.gcd t.natAbs d : Nat) : Int)) (d / Nat.gcd t.natAbs d) = rg y b L t d := by
  have hg : 0 < Nat.gcd t.natAbs d := Nat.gcd_pos_of_pos_right _ hd
  have h1 : t / ((Nat.gcd t.natAbs d : Nat) : Int) * ((Nat.gcd t.natAbs d : Nat) : Int) = t := Int.ediv_mul_cancel (Int.ofNat_dvd_left.mpr (Nat.gcd_dvd_left _ _))
  have h2 : d / Nat.gcd t.natAbs d * Nat.gcd t.natAbs d = d := Nat.div_mul_cancel (Nat.gcd_dvd_right _ _)
  have h3 : 0 < d / Nat.gcd t.natAbs d := Nat.div_pos (Nat.le_of_dvd hd (Nat.gcd_dvd_right _ _)) hg
  have := rg_scale (b := b) (L := L) y (t := t / ((Nat.gcd t.natAbs d : Nat) : Int)) hb h3 hg
  rw [h1, h2] at this
  exact this.symm
def pickI : Sg → List Int → Int
  | .least, [x, y] => if y < x then y else x
  | .most, [x, y] => if x < y then y else x
  | .choose, [x, y, z, u] => if x < y then z else u
  | _, _ => 0
def outTD : Sg → Int → Int → Nat → Option (Int × Nat)
  | .add, x, y, _ => some (x + y, 1)
  | .sub, x, y, _ => some (x - y, 1)
  | .mul, x, y, u => some (x * y, u)
  | .div, x, y, u => if y = 0 then none else some (if 0 < y then x * (u : Int) else -(x * (u : Int)), y.natAbs)
  | _, _, _, _ => none
def lookN : List (Str × Int) → Str → Int
  | [], _ => 0
  | p :: ps, x => if p.1 = x then p.2 else lookN ps x
def opI (kn : List (Str × Int)) : Opd → Int
  | .nm s => lookN kn s
  | .nb n => n
inductive SR
  | val (n : Int)
  | nought
  | over
def fitR (b f r : Nat) (y : Wy) (m : Nat) (t : Int) (d : Nat) : SR :=
  if (rg y b (b ^ (f + m)) t d).natAbs ≤ (b ^ (f + m) - 1) * b ^ r then .val (rg y b (b ^ (f + m)) t d) else .over
def stepR (b f r pl : Nat) (kn : List (Str × Int)) (s : Stp) : SR :=
  if s.sg.isR = true then
    match outTD s.sg (opI kn (s.ops.getD 0 (.nb 0))) (opI kn (s.ops.getD 1 (.nb 0))) (b ^ pl) with
    | none => .nought
    | some td => fitR b f r s.way s.more td.1 td.2
  else .val (pickI s.sg (s.ops.map (opI kn)))
inductive EndR
  | told
  | nought (x : Str)
  | over (x : Str)
def walkR (b f r pl : Nat) : List (Str × Int) → List Stp → List (Str × Int) × EndR
  | kn, [] => (kn, .told)
  | kn, s :: ss =>
    match stepR b f r pl kn s with
    | .val n => walkR b f r pl (kn ++ [(s.nm, n)]) ss
    | .nought => (kn, .nought s.nm)
    | .over => (kn, .over s.nm)
theorem walk_val {b f r pl : Nat} {kn : List (Str × Int)} {s : Stp} {ss : List Stp} {n : Int} (h : stepR b f r pl kn s = .val n) : walkR b f r pl kn (s :: ss) = walkR b f r pl (kn ++ [(s.nm, n)]) ss := by
  show (match stepR b f r pl kn s with | .val n => _ | .nought => _ | .over => _) = _
  rw [h]
theorem walk_nought {b f r pl : Nat} {kn : List (Str × Int)} {s : Stp} {ss : List Stp} (h : stepR b f r pl kn s = .nought) : walkR b f r pl kn (s :: ss) = (kn, .nought s.nm) := by
  show (match stepR b f r pl kn s with | .val n => _ | .nought => _ | .over => _) = _
  rw [h]
theorem walk_over {b f r pl : Nat} {kn : List (Str × Int)} {s : Stp} {ss : List Stp} (h : stepR b f r pl kn s = .over) : walkR b f r pl kn (s :: ss) = (kn, .over s.nm) := by
  show (match stepR b f r pl kn s with | .val n => _ | .nought => _ | .over => _) = _
  rw [h]
/-- small: what is known, and what is rounded -/
def Sm (n : Int) : Prop := n.natAbs < 2 ^ 60
theorem fit_sm {b f r : Nat} {y : Wy} {m : Nat} {t : Int} {d : Nat} {n : Int} (hG : (b ^ (f + m) - 1) * b ^ r < 2 ^ 60) (h : fitR b f r y m t d = .val n) : Sm n := by
  unfold fitR at h
  split at h
  · rename_i h1
    cases h
    exact Nat.lt_of_le_of_lt h1 hG
  · cases h
theorem pick_sm {g : Sg} {vs : List Int} (h : ∀ v ∈ vs, Sm v) : Sm (pickI g vs) := by
  have z : Sm 0 := by unfold Sm; decide
  unfold pickI
  split
  · split
    · exact h _ (by simp)
    · exact h _ (by simp)
  · split
    · exact h _ (by simp)
    · exact h _ (by simp)
  · split
    · exact h _ (by simp)
    · exact h _ (by simp)
  · exact z
theorem look_sm {kn : List (Str × Int)} (h : ∀ p ∈ kn, Sm p.2) (x : Str) : Sm (lookN kn x) := by
  induction kn with
  | nil => unfold lookN Sm; decide
  | cons p ps ih =>
    unfold lookN
    split
    · exact h p List.mem_cons_self
    · exact ih fun q hq => h q (List.mem_cons_of_mem _ hq)
theorem out_sm {g : Sg} {x y t : Int} {u d : Nat} (hx : Sm x) (hy : Sm y) (hu : 1 ≤ u) (hu2 : u < 2 ^ 60) (h : outTD g x y u = some (t, d)) : 1 ≤ d ∧ d < 2 ^ 60 ∧ t.natAbs < 2 ^ 130 := by
  unfold Sm at hx hy
  have hm : ∀ p q : Nat, p < 2 ^ 60 → q < 2 ^ 60 → p * q < 2 ^ 130 := fun p q hp hq => by
    have h1 : p * q ≤ 2 ^ 60 * 2 ^ 60 := Nat.mul_le_mul (Nat.le_of_lt hp) (Nat.le_of_lt hq)
    have h2 : (2 : Nat) ^ 60 * 2 ^ 60 < 2 ^ 130 := by decide
    omega
  have h60 : (2 : Nat) ^ 60 + 2 ^ 60 < 2 ^ 130 := by decide
  have h1 : 1 < (2 : Nat) ^ 60 := by decide
  cases g with
  | add => cases h; exact ⟨Nat.le_refl 1, h1, by omega⟩
  | sub => cases h; exact ⟨Nat.le_refl 1, h1, by omega⟩
  | mul => cases h; exact ⟨hu, hu2, by rw [Int.natAbs_mul]; exact hm _ _ hx hy⟩
  | div =>
    replace h : (if y = 0 then none else some (if 0 < y then x * (u : Int) else -(x * (u : Int)), y.natAbs)) = some (t, d) := h
    by_cases h0 : y = 0
    · rw [if_pos h0] at h; cases h
    · rw [if_neg h0] at h
      cases h
      refine ⟨by omega, hy, ?_⟩
      split
      · rw [Int.natAbs_mul, Int.natAbs_natCast]; exact hm _ _ hx hu2
      · rw [Int.natAbs_neg, Int.natAbs_mul, Int.natAbs_natCast]; exact hm _ _ hx hu2
  | least => cases h
  | most => cases h
  | choose => cases h
end My

set_option Elab.async false
set_option linter.all false
set_option maxRecDepth 100000
set_option exponentiation.threshold 6000
namespace My
open PySem PySem.Spec PyProof.Rows L2 TL
/-! ### runs of fractions: some steps rounded, some not -/
abbrev Fr := Int × Nat
def lessQ (x y : Fr) : Bool := decide (x.1 * (y.2 : Int) < y.1 * (x.2 : Int))
def pickQ : Sg → List Fr → Fr
  | .least, [x, y] => if lessQ y x = true then y else x
  | .most, [x, y] => if lessQ x y = true then y else x
  | .choose, [x, y, z, u] => if lessQ x y = true then z else u
  | _, _ => (0, 1)
def outQ : Sg → Fr → Fr → Nat → Option Fr
  | .add, x, y, _ => some (x.1 * (y.2 : Int) + y.1 * (x.2 : Int), x.2 * y.2)
  | .sub, x, y, _ => some (x.1 * (y.2 : Int) - y.1 * (x.2 : Int), x.2 * y.2)
  | .mul, x, y, u => some (x.1 * y.1, x.2 * y.2 * u)
  | .div, x, y, u => if y.1 = 0 then none else some (if 0 < y.1 then x.1 * (y.2 : Int) * (u : Int) else -(x.1 * (y.2 : Int) * (u : Int)), x.2 * y.1.natAbs)
  | _, _, _, _ => none
def redQ (t : Fr) : Fr := (t.1 / ((Nat.gcd t.1.natAbs t.2 : Nat) : Int), t.2 / Nat.gcd t.1.natAbs t.2)
def lookQ : List (Str × Fr) → Str → Fr
  | [], _ => (0, 1)
  | p :: ps, x => if p.1 = x then p.2 else lookQ ps x
def opQ (kn : List (Str × Fr)) : Opd → Fr
  | .nm s => lookQ kn s
  | .nb n => (n, 1)
inductive SQ
  | val (x : Fr)
  | nought
  | over
def fitQ (b f r : Nat) (y : Wy) (m : Nat) (td : Fr) : SQ :=
  if (rg y b (b ^ (f + m)) td.1 td.2).natAbs ≤ (b ^ (f + m) - 1) * b ^ r then .val (rg y b (b ^ (f + m)) td.1 td.2, 1) else .over
def stepQ (b f r pl : Nat) (free : List Str) (kn : List (Str × Fr)) (s : Stp) : SQ :=
  if s.sg.isR = true then
    match outQ s.sg (opQ kn (s.ops.getD 0 (.nb 0))) (opQ kn (s.ops.getD 1 (.nb 0))) (b ^ pl) with
    | none => .nought
    | some td => if s.nm ∈ free then .val (redQ td) else fitQ b f r s.way s.more td
  else .val (pickQ s.sg (s.ops.map (opQ kn)))
def walkQ (b f r pl : Nat) (free : List Str) : List (Str × Fr) → List Stp → List (Str × Fr) × EndR
  | kn, [] => (kn, .told)
  | kn, s :: ss =>
    match stepQ b f r pl free kn s with
    | .val n => walkQ b f r pl free (kn ++ [(s.nm, n)]) ss
    | .nought => (kn, .nought s.nm)
    | .over => (kn, .over s.nm)
section
variable {b f r pl : Nat} {free : List Str} {kn : List (Str × Fr)} {s : Stp} {ss : List Stp} {n : Fr}
theorem wq_val (h : stepQ b f r pl free kn s = .val n) : walkQ b f r pl free kn (s :: ss) = walkQ b f r pl free (kn ++ [(s.nm, n)]) ss := by
  show (match stepQ b f r pl free kn s with | .val n => _ | .nought => _ | .over => _) = _
  rw [h]
theorem wq_nought (h : stepQ b f r pl free kn s = .nought) : walkQ b f r pl free kn (s :: ss) = (kn, .nought s.nm) := by
  show (match stepQ b f r pl free kn s with | .val n => _ | .nought => _ | .over => _) = _
  rw [h]
theorem wq_over (h : stepQ b f r pl free kn s = .over) : walkQ b f r pl free kn (s :: ss) = (kn, .over s.nm) := by
  show (match stepQ b f r pl free kn s with | .val n => _ | .nought => _ | .over => _) = _
  rw [h]
end
/-! ### how great -/
def bits : Nat → Nat
  | 0 => 20
  | n + 1 => 2 * bits n + 7
theorem bits_mono : ∀ {m n : Nat}, m ≤ n → bits m ≤ bits n
  | m, 0, h => by rw [Nat.le_zero.mp h]; exact Nat.le_refl _
  | m, n + 1, h => by
    rcases Nat.lt_or_ge m (n + 1) with c | c
    · have := bits_mono (Nat.le_of_lt_succ c)
      show _ ≤ 2 * bits n + 7
      omega
    · rw [Nat.le_antisymm h c]; exact Nat.le_refl _
def bt (free : List Str) (c : Nat) : Nat := if free.isEmpty then 47 else bits c
theorem bt_20 (free : List Str) (c : Nat) : 20 ≤ bt free c := by
  unfold bt
  split
  · decide
  · exact bits_mono (Nat.zero_le c)
theorem bt_47 (free : List Str) (c : Nat) : 47 ≤ bt free (c + 1) := by
  unfold bt
  split
  · exact Nat.le_refl _
  · exact bits_mono (m := 1) (by omega)
theorem bt_mono {free : List Str} {c d : Nat} (h : c ≤ d) : bt free c ≤ bt free d := by
  unfold bt
  split
  · exact Nat.le_refl _
  · exact bits_mono h
theorem bt_step {free : List Str} {x : Str} (h : x ∈ free) (c : Nat) : 2 * bt free c + 7 = bt free (c + 1) := by
  unfold bt
  rw [if_neg (by cases free with | nil => cases h | cons => simp), if_neg (by cases free with | nil => cases h | cons => simp)]
  rfl
theorem bt_le {free : List Str} {c : Nat} (h : c ≤ 6 ∨ free = []) : bt free c ≤ 1721 := by
  rcases h with h | h
  · unfold bt
    split
    · decide
    · exact Nat.le_trans (bits_mono h) (by decide)
  · rw [h]; show 47 ≤ 1721; decide
structure Bd (k : Nat) (x : Fr) : Prop where
  t : x.1.natAbs < 2 ^ k
  d1 : 1 ≤ x.2
  d : x.2 < 2 ^ k
  g : Nat.gcd x.1.natAbs x.2 = 1
theorem Bd.le {k m : Nat} {x : Fr} (h : Bd k x) (hk : k ≤ m) : Bd m x := ⟨Nat.lt_of_lt_of_le h.t (Nat.pow_le_pow_right (by decide) hk), h.d1, Nat.lt_of_lt_of_le h.d (Nat.pow_le_pow_right (by decide) hk), h.g⟩
theorem bd_int {k : Nat} {n : Int} (h : n.natAbs < 2 ^ k) (hk : 1 ≤ k) : Bd k (n, 1) := ⟨h, Nat.le_refl 1, by have := Nat.pow_le_pow_right (n := 2) (by decide) hk; show 1 < 2 ^ k; omega, Nat.gcd_one_right _⟩
theorem bd_zero {k : Nat} (hk : 1 ≤ k) : Bd k (0, 1) := bd_int (by show 0 < 2 ^ k; exact Nat.pow_pos (by decide)) hk
theorem mul_lt {a b x y : Nat} (ha : a < 2 ^ x) (hb : b < 2 ^ y) : a * b < 2 ^ (x + y) := by
  rw [Nat.pow_add]
  rcases Nat.eq_zero_or_pos b with rfl | hb0
  · rw [Nat.mul_zero]; exact Nat.mul_pos (Nat.pow_pos (by decide)) (Nat.pow_pos (by decide))
  · exact Nat.lt_of_lt_of_le (Nat.mul_lt_mul_of_pos_right ha hb0) (Nat.mul_le_mul_left _ (Nat.le_of_lt hb))
theorem p_up {n k m : Nat} (h : n < 2 ^ k) (hk : k ≤ m) : n < 2 ^ m := Nat.lt_of_lt_of_le h (Nat.pow_le_pow_right (by decide) hk)
theorem out_bd {g : Sg} {k : Nat} {x y td : Fr} {u : Nat} (hx : Bd k x) (hy : Bd k y) (u1 : 1 ≤ u) (u7 : u < 2 ^ 7) (h : outQ g x y u = some td) : td.1.natAbs < 2 ^ (2 * k + 7) ∧ 1 ≤ td.2 ∧ td.2 < 2 ^ (2 * k + 7) := by
  have e2 : k + k = 2 * k := by omega
  have dd : x.2 * y.2 < 2 ^ (2 * k) := e2 ▸ mul_lt hx.d hy.d
  have d1 : 1 ≤ x.2 * y.2 := Nat.mul_pos hx.d1 hy.d1
  have t1 : (x.1 * (y.2 : Int)).natAbs < 2 ^ (2 * k) := by rw [Int.natAbs_mul, Int.natAbs_natCast]; exact e2 ▸ mul_lt hx.t hy.d
  have t2 : (y.1 * (x.2 : Int)).natAbs < 2 ^ (2 * k) := by rw [Int.natAbs_mul, Int.natAbs_natCast]; exact e2 ▸ mul_lt hy.t hx.d
  have two : 2 ^ (2 * k) + 2 ^ (2 * k) ≤ 2 ^ (2 * k + 7) := by
    rw [Nat.pow_add]
    have : 0 < 2 ^ (2 * k) := Nat.pow_pos (by decide)
    omega
  cases g with
  | add =>
    cases h
    exact ⟨by show (x.1 * (y.2 : Int) + y.1 * (x.2 : Int)).natAbs < _; omega, d1, p_up dd (by omega)⟩
  | sub =>
    cases h
    exact ⟨by show (x.1 * (y.2 : Int) - y.1 * (x.2 : Int)).natAbs < _; omega, d1, p_up dd (by omega)⟩
  | mul =>
    cases h
    refine ⟨?_, Nat.mul_pos d1 u1, mul_lt dd u7⟩
    show (x.1 * y.1).natAbs < _
    rw [Int.natAbs_mul]
    exact p_up (e2 ▸ mul_lt hx.t hy.t) (by omega)
  | div =>
    replace h : (if y.1 = 0 then none else some ((if 0 < y.1 then x.1 * (y.2 : Int) * (u : Int) else -(x.1 * (y.2 : Int) * (u : Int))), x.2 * y.1.natAbs)) = some td := h
    by_cases h0 : y.1 = 0
    · rw [if_pos h0] at h; cases h
    · rw [if_neg h0] at h
      cases h
      have tt : (x.1 * (y.2 : Int) * (u : Int)).natAbs < 2 ^ (2 * k + 7) := by rw [Int.natAbs_mul, Int.natAbs_natCast]; exact mul_lt t1 u7
      refine ⟨?_, Nat.mul_pos hx.d1 (by omega), p_up (e2 ▸ mul_lt hx.d hy.t) (by omega)⟩
      show (if 0 < y.1 then _ else _ : Int).natAbs < _
      split
      · exact tt
      · rw [Int.natAbs_neg]; exact tt
  | least => cases h
  | most => cases h
  | choose => cases h
theorem red_bd {k : Nat} {td : Fr} (h1 : td.1.natAbs < 2 ^ k) (h2 : 1 ≤ td.2) (h3 : td.2 < 2 ^ k) : Bd k (redQ td) := by
  have hg : 0 < Nat.gcd td.1.natAbs td.2 := Nat.gcd_pos_of_pos_right _ h2
  have e1 : td.1 / ((Nat.gcd td.1.natAbs td.2 : Nat) : Int) * ((Nat.gcd td.1.natAbs td.2 : Nat) : Int) = td.1 := Int.ediv_mul_cancel (Int.ofNat_dvd_left.mpr (Nat.gcd_dvd_left _ _))
  have e2 : (td.1 / ((Nat.gcd td.1.natAbs td.2 : Nat) : Int)).natAbs * Nat.gcd td.1.natAbs td.2 = td.1.natAbs := by
    have := congrArg Int.natAbs e1
    rw [Int.natAbs_mul, Int.natAbs_natCast] at this
    exact this
  have e3 : (td.1 / ((Nat.gcd td.1.natAbs td.2 : Nat) : Int)).natAbs = td.1.natAbs / Nat.gcd td.1.natAbs td.2 := by
    rw [Nat.div_eq_of_eq_mul_left hg e2.symm]
  refine ⟨?_, Nat.div_pos (Nat.le_of_dvd (by omega) (Nat.gcd_dvd_right _ _)) hg, Nat.lt_of_le_of_lt (Nat.div_le_self _ _) h3, ?_⟩
  · show (td.1 / _).natAbs < _
    rw [e3]
    exact Nat.lt_of_le_of_lt (Nat.div_le_self _ _) h1
  · show Nat.gcd (td.1 / ((Nat.gcd td.1.natAbs td.2 : Nat) : Int)).natAbs (td.2 / Nat.gcd td.1.natAbs td.2) = 1
    rw [e3]
    rw [Nat.gcd_div (Nat.gcd_dvd_left _ _) (Nat.gcd_dvd_right _ _)]
    exact Nat.div_self hg
theorem fit_bd {b f r : Nat} {y : Wy} {m : Nat} {td x : Fr} (hG : (b ^ (f + m) - 1) * b ^ r < 2 ^ 47) (h : fitQ b f r y m td = .val x) : Bd 47 x := by
  unfold fitQ at h
  split at h
  · rename_i h1
    cases h
    exact bd_int (Nat.lt_of_le_of_lt h1 hG) (by decide)
  · cases h
theorem pick_bd {g : Sg} {k : Nat} {vs : List Fr} (hk : 1 ≤ k) (h : ∀ v ∈ vs, Bd k v) : Bd k (pickQ g vs) := by
  unfold pickQ
  split
  · split
    · exact h _ (by simp)
    · exact h _ (by simp)
  · split
    · exact h _ (by simp)
    · exact h _ (by simp)
  · split
    · exact h _ (by simp)
    · exact h _ (by simp)
  · exact bd_zero hk
theorem look_bd {kn : List (Str × Fr)} {k : Nat} (hk : 1 ≤ k) (h : ∀ p ∈ kn, Bd k p.2) (x : Str) : Bd k (lookQ kn x) := by
  induction kn with
  | nil => exact bd_zero hk
  | cons p ps ih =>
    unfold lookQ
    split
    · exact h p List.mem_cons_self
    · exact ih fun q hq => h q (List.mem_cons_of_mem _ hq)
/-- neither below the other: the same -/
theorem less_eq {k m : Nat} {x y : Fr} (hx : Bd k x) (hy : Bd m y) (h1 : lessQ x y = false) (h2 : lessQ y x = false) : x = y := by
  have h1 : ¬ x.1 * (y.2 : Int) < y.1 * (x.2 : Int) := of_decide_eq_false h1
  have h2 : ¬ y.1 * (x.2 : Int) < x.1 * (y.2 : Int) := of_decide_eq_false h2
  have e : x.1 * (y.2 : Int) = y.1 * (x.2 : Int) := by omega
  have en : x.1.natAbs * y.2 = y.1.natAbs * x.2 := by
    have := congrArg Int.natAbs e
    rw [Int.natAbs_mul, Int.natAbs_mul, Int.natAbs_natCast, Int.natAbs_natCast] at this
    exact this
  have d1 : x.2 ∣ y.2 := by
    have c : Nat.Coprime x.2 x.1.natAbs := (Nat.coprime_comm).mp hx.g
    exact c.dvd_of_dvd_mul_left ⟨y.1.natAbs, by rw [en, Nat.mul_comm]⟩
  have d2 : y.2 ∣ x.2 := by
    have c : Nat.Coprime y.2 y.1.natAbs := (Nat.coprime_comm).mp hy.g
    exact c.dvd_of_dvd_mul_left ⟨x.1.natAbs, by rw [← en, Nat.mul_comm]⟩
  have ed : x.2 = y.2 := Nat.dvd_antisymm d1 d2
  have et : x.1 = y.1 := by
    rw [ed] at e
    have hp : (y.2 : Int) ≠ 0 := by have := hy.d1; omega
    exact Int.eq_of_mul_eq_mul_right hp e
  exact Prod.ext et ed
theorem fit_red {b f r : Nat} (y : Wy) (m : Nat) (td : Fr) (hb : 2 ≤ b) (hd : 1 ≤ td.2) : fitQ b f r y m (redQ td) = fitQ b f r y m td := by
  unfold fitQ redQ
  dsimp only
  rw [rg_red y td.1 hb hd]
/-- so many rounded steps -/
def cnt (ss : List Stp) : Nat := (ss.filter (·.sg.isR)).length
theorem cnt_app (xs ys : List Stp) : cnt (xs ++ ys) = cnt xs + cnt ys := by unfold cnt; rw [List.filter_append, List.length_append]
theorem cnt_take (ss : List Stp) (j : Nat) : cnt (ss.take j) ≤ cnt ss := by
  have := cnt_app (ss.take j) (ss.drop j)
  rw [List.take_append_drop] at this
  omega
theorem cnt_one {s : Stp} : cnt [s] = if s.sg.isR = true then 1 else 0 := by
  unfold cnt
  by_cases h : s.sg.isR = true
  · rw [if_pos h, List.filter_cons_of_pos (p := fun x : Stp => x.sg.isR) h]; rfl
  · rw [if_neg h, List.filter_cons_of_neg (p := fun x : Stp => x.sg.isR) h]; rfl
/-! ### names, sizes along a walk -/
theorem wq_names {b f r pl : Nat} {free : List Str} : ∀ (ss : List Stp) (l : List (Str × Fr)), (walkQ b f r pl free l ss).2 = .told → (walkQ b f r pl free l ss).1.map (·.1) = l.map (·.1) ++ ss.map Stp.nm
  | [], l, _ => by rw [List.map_nil, List.append_nil]; rfl
  | s :: ss, l, h => by
    cases e : stepQ b f r pl free l s with
    | val n =>
      rw [wq_val e] at h ⊢
      rw [wq_names ss _ h, List.map_append, List.append_assoc]
      rfl
    | nought => rw [wq_nought e] at h; cases h
    | over => rw [wq_over e] at h; cases h
theorem wq_le {b f r pl : Nat} {free : List Str} : ∀ (ss : List Stp) (l : List (Str × Fr)), (walkQ b f r pl free l ss).1.length ≤ l.length + ss.length
  | [], l => Nat.le_refl _
  | s :: ss, l => by
    cases e : stepQ b f r pl free l s with
    | val n =>
      rw [wq_val e]
      have := wq_le (b := b) (f := f) (r := r) (pl := pl) (free := free) ss (l ++ [(s.nm, n)])
      rw [List.length_append, List.length_singleton] at this
      rw [List.length_cons]
      omega
    | nought => rw [wq_nought e]; exact Nat.le_add_right _ _
    | over => rw [wq_over e]; exact Nat.le_add_right _ _
theorem wq_nodup {b f r pl : Nat} {free : List Str} : ∀ (ss : List Stp) (l : List (Str × Fr)), StpsOk b f r (l.map (·.1)) ss → (l.map (·.1)).Nodup → ((walkQ b f r pl free l ss).1.map (·.1)).Nodup
  | [], l, _, h => h
  | s :: ss, l, hs, h => by
    cases e : stepQ b f r pl free l s with
    | val n =>
      rw [wq_val e]
      refine wq_nodup ss _ (by rw [List.map_append]; exact hs.2) ?_
      rw [List.map_append, List.nodup_append]
      refine ⟨h, by simp, fun x hx y hy z => ?_⟩
      have : y = s.nm := List.mem_singleton.mp hy
      rw [z, this] at hx
      exact hs.1.new hx
    | nought => rw [wq_nought e]; exact h
    | over => rw [wq_over e]; exact h
/-- what a step comes to is so great -/
theorem step_bd {b f r pl : Nat} {free : List Str} {l : List (Str × Fr)} {s : Stp} {n : Fr} {c : Nat} (hl : ∀ p ∈ l, Bd (bt free c) p.2) (ho : ∀ o ∈ s.ops, ∀ m, o = .nb m → m.natAbs < 2 ^ 20) (hG : (b ^ (f + s.more) - 1) * b ^ r < 2 ^ 47) (u1 : 1 ≤ b ^ pl) (u7 : b ^ pl < 2 ^ 7)
    (h : stepQ b f r pl free l s = .val n) : Bd (bt free (c + cnt [s])) n := by
  have h20 := bt_20 free c
  have k1 : 1 ≤ bt free c := by omega
  have op : ∀ o : Opd, (∀ m, o = .nb m → m.natAbs < 2 ^ 20) → Bd (bt free c) (opQ l o) := fun o ho => by
    cases o with
    | nm x => exact look_bd k1 hl x
    | nb m => exact (bd_int (ho m rfl) (by decide)).le h20
  rw [cnt_one]
  unfold stepQ at h
  split at h
  · rename_i hR
    rw [if_pos hR]
    have gd : ∀ i, Bd (bt free c) (opQ l (s.ops.getD i (.nb 0))) := fun i => op _ fun m hm => by
      rw [List.getD_eq_getElem?_getD] at hm
      cases e : s.ops[i]? with
      | none => rw [e] at hm; cases hm; decide
      | some o => rw [e] at hm; exact ho o (List.mem_of_getElem? e) m hm
    split at h
    · cases h
    · rename_i td hout
      obtain ⟨o1, o2, o3⟩ := out_bd (gd 0) (gd 1) u1 u7 hout
      split at h
      · rename_i hf
        cases h
        rw [← bt_step hf c]
        exact red_bd o1 o2 o3
      · exact (fit_bd hG h).le (bt_47 free c)
  · rename_i hR
    rw [if_neg hR, Nat.add_zero]
    cases h
    refine pick_bd k1 fun v hv => ?_
    obtain ⟨o, hm, rfl⟩ := List.mem_map.mp hv
    exact op o (ho o hm)
theorem wq_bd {b f r pl : Nat} {free : List Str} (u1 : 1 ≤ b ^ pl) (u7 : b ^ pl < 2 ^ 7) : ∀ (ss : List Stp) (l : List (Str × Fr)) (c : Nat), (∀ p ∈ l, Bd (bt free c) p.2) → (∀ s ∈ ss, (∀ o ∈ s.ops, ∀ m, o = .nb m → m.natAbs < 2 ^ 20) ∧ (b ^ (f + s.more) - 1) * b ^ r < 2 ^ 47) →
    (∀ p ∈ (walkQ b f r pl free l ss).1, Bd (bt free (c + cnt ss)) p.2) ∧ (∀ p ∈ (walkQ b f r pl free l ss).1, p.1 ∈ l.map (·.1) ++ ss.map Stp.nm) ∧ (∀ x, (walkQ b f r pl free l ss).2 = .nought x ∨ (walkQ b f r pl free l ss).2 = .over x → x ∈ ss.map Stp.nm)
  | [], l, c, hl, _ => ⟨hl, fun p hp => List.mem_append_left _ (List.mem_map.mpr ⟨p, hp, rfl⟩), fun x h => by rcases h with h | h <;> cases h⟩
  | s :: ss, l, c, hl, hs => by
    have hnow : ∀ p ∈ l, p.1 ∈ l.map (·.1) ++ (s :: ss).map Stp.nm := fun p hp => List.mem_append_left _ (List.mem_map.mpr ⟨p, hp, rfl⟩)
    have hcnt : c + cnt (s :: ss) = c + cnt [s] + cnt ss := by rw [show s :: ss = [s] ++ ss from rfl, cnt_app]; omega
    have hnow2 : ∀ p ∈ l, Bd (bt free (c + cnt (s :: ss))) p.2 := fun p hp => (hl p hp).le (bt_mono (Nat.le_add_right _ _))
    cases e : stepQ b f r pl free l s with
    | val n =>
      rw [wq_val e, hcnt]
      obtain ⟨s1, s2⟩ := hs s List.mem_cons_self
      obtain ⟨g1, g2, g3⟩ := wq_bd (f := f) (r := r) (free := free) u1 u7 ss (l ++ [(s.nm, n)]) (c + cnt [s]) (fun p hp => by
        rcases List.mem_append.mp hp with hp | hp
        · exact (hl p hp).le (bt_mono (Nat.le_add_right _ _))
        · rw [List.mem_singleton.mp hp]; exact step_bd hl s1 s2 u1 u7 e) fun t ht => hs t (List.mem_cons_of_mem _ ht)
      refine ⟨g1, fun p hp => ?_, fun x hx => List.mem_cons_of_mem _ (g3 x hx)⟩
      have := g2 p hp
      rw [List.map_append, List.append_assoc] at this
      exact this
    | nought =>
      rw [wq_nought e]
      refine ⟨hnow2, hnow, fun x h => ?_⟩
      rcases h with h | h
      · cases h; exact List.mem_cons_self
      · cases h
    | over =>
      rw [wq_over e]
      refine ⟨hnow2, hnow, fun x h => ?_⟩
      rcases h with h | h
      · cases h
      · cases h; exact List.mem_cons_self
/-- all rounded steps free: nothing is over -/
theorem wq_free {b f r pl : Nat} {free : List Str} : ∀ (ss : List Stp) (l : List (Str × Fr)), (∀ s ∈ ss, s.sg.isR = true → s.nm ∈ free) → ∀ x, (walkQ b f r pl free l ss).2 ≠ .over x
  | [], l, _, x => fun h => by cases h
  | s :: ss, l, hs, x => by
    cases e : stepQ b f r pl free l s with
    | val n => rw [wq_val e]; exact wq_free ss _ (fun t ht => hs t (List.mem_cons_of_mem _ ht)) x
    | nought => rw [wq_nought e]; exact fun h => by cases h
    | over =>
      exfalso
      unfold stepQ at e
      split at e
      · rename_i hR
        split at e
        · cases e
        · rw [if_pos (hs s List.mem_cons_self hR)] at e; cases e
      · cases e
end My

set_option Elab.async false
set_option linter.all false
set_option maxRecDepth 100000
/-! zip of a list and a tuple, as a row of turns: what the library tells of zip over any two iterators, for the rules of this layer -/
namespace My
open PySem
open L2 PySem.Spec PyProof.Rows
/-- the list at a and the tuple at b as they stand at each turn, in new pairs -/
def ItzM (K : PySem.W.Frag) (a b : Addr) : It where
  go := fun n H => ∃ (us ws : List V) (u w : V), (SqL K H a us ∧ us[n]? = some u) ∧ SqT K H b ws ∧ ws[n]? = some w
  yld := fun n H v H' => ∃ T u w, (v = .ref T ∧ H T = none ∧ H' = upd H T (.tup [u, w])) ∧ (∀ us, SqL K H a us → us[n]? = some u) ∧ ∀ ws, SqT K H b ws → ws[n]? = some w
  stop := fun n H => ∃ us ws : List V, (SqL K H a us ∧ SqT K H b ws) ∧ n ≤ us.length ∧ n ≤ ws.length ∧ (n = us.length ∨ n = ws.length)
/-- the cells of such a zip, and where it stands -/
def ZmAt (z s t i j a b : Addr) (n : Nat) (h : Heap) : Prop := (IsZip h z s t .none ∧ IsTupOf2 h s (.ref i) (.ref j)) ∧ (∃ u w, IsTupOf2 h t u w) ∧ h.IsListIter i a n ∧ h.IsTupleIter j b n
structure ZmFar (z s t i j a b : Addr) : Prop where
  sep : ZipSep2 z s t i j [i, a] [j, b]
  ai : a ≠ i
  bj : b ≠ j
theorem out2 {x y z : Nat} (h : x ≠ y) (g : x ≠ z) : x ∉ [y, z] := fun k => by
  rcases List.mem_cons.mp k with k | k
  · exact h k
  · exact g (List.mem_singleton.mp k)
theorem zm_far {m a b : Nat} (ha : a < m) (hb : b < m) : ZmFar (m + 4) (m + 2) (m + 3) m (m + 1) a b where
  ai := Nat.ne_of_lt ha
  bj := Nat.ne_of_lt (Nat.lt_succ_of_lt hb)
  sep :=
    { TIz := show m + 2 ≠ m + 4 by omega
      TOz := show m + 3 ≠ m + 4 by omega
      TITO := show m + 2 ≠ m + 3 by omega
      TIi1 := show m + 2 ≠ m by omega
      mem1 := List.mem_cons_self
      zf1 := out2 (by omega) (by omega)
      Tf1 := out2 (by omega) (by omega)
      TIi2 := show m + 2 ≠ m + 1 by omega
      mem2 := List.mem_cons_self
      zf2 := out2 (by omega) (by omega)
      Tf2 := out2 (by omega) (by omega)
      sep1_2 := out2 (by omega) (by omega)
      sep2_1 := out2 (by omega) (by omega) }
theorem zm_turn {P : Program} {w : World} {K : PySem.W.Frag} {elts : List Expr} {kk : Nat} {tpos : Pos} {a b z s t i j : Addr} (far : ZmFar z s t i j a b) :
    Turn P w K (.Tuple elts kk tpos) (ItzM K a b) [z, s, t, i, j] z (ZmAt z s t i j a b) where
  mem := List.mem_cons_self
  obj := fun n h at_ c hc => by
    obtain ⟨⟨oz, os⟩, ⟨_, _, ot⟩, ⟨qi, ei, _, di⟩, qj, ej, _, dj⟩ := at_
    simp only [List.mem_cons, List.not_mem_nil, or_false] at hc
    rcases hc with rfl | rfl | rfl | rfl | rfl
    · exact ⟨_, oz, nofun⟩
    · exact ⟨_, os, nofun⟩
    · exact ⟨_, ot, nofun⟩
    · exact ⟨qi, ei, fun _ y => by rw [di] at y; cases y⟩
    · exact ⟨qj, ej, fun _ y => by rw [dj] at y; cases y⟩
  keep := fun n h h' at_ same => by
    obtain ⟨⟨oz, os⟩, ⟨u, v, ot⟩, li, tj⟩ := at_
    have m : ∀ c, c = z ∨ c = s ∨ c = t ∨ c = i ∨ c = j → ∀ o, h.get? c = some o → h'.get? c = some o := fun c hc => same c (by simp only [List.mem_cons, List.not_mem_nil, or_false]; exact hc)
    exact ⟨⟨m z (.inl rfl) _ oz, m s (.inr (.inl rfl)) _ os⟩, ⟨u, v, m t (.inr (.inr (.inl rfl))) _ ot⟩, li.at (m i (.inr (.inr (.inr (.inl rfl))))), tj.at (m j (.inr (.inr (.inr (.inr rfl)))))⟩
  item := by
    rintro X rfl rfl rfl calm n pins S σ H E inv free ⟨⟨oz, os⟩, ⟨u0, w0, ot⟩, li, tj⟩ ⟨us, ws, u, v, ⟨qa, hu⟩, qb, hv⟩
    obtain ⟨as, va, pa, _⟩ := inv.list qa
    obtain ⟨bs, vb, pb, _⟩ := inv.tuple qb
    obtain ⟨au, gu, ru⟩ := va.get hu
    obtain ⟨bv, gv, rv⟩ := vb.get hv
    have hh := inv.ok.hd calm
    have la := Draws.list (prog := X.prog) (w := X.w) (A := X.A.in1) hh i a far.ai as.toArray
    have lb := Draws.tuple (prog := X.prog) (w := X.w) (A := X.A.in1) hh j b far.bj bs.toArray
    have na : n < as.toArray.size := by have := (List.getElem?_eq_some_iff.mp gu).1; simpa using this
    have nb : n < bs.toArray.size := by have := (List.getElem?_eq_some_iff.mp gv).1; simpa using this
    refine wpAny_pyNext_zipD2_item far.sep la lb oz os ot ⟨li, pa.isList⟩ ⟨tj, (show S.heap.IsTuple b bs.toArray from pb)⟩ na nb fun x1 x2 h1 tk e1 e2 z1 t1 l1 r1 n1 _ stay => ?_
    obtain rfl : au = x1 := by
      have : as.toArray[n]? = some au := by simpa using gu
      exact Option.some.inj (this.symm.trans e1)
    obtain rfl : bv = x2 := by
      have : bs.toArray[n]? = some bv := by simpa using gv
      exact Option.some.inj (this.symm.trans e2)
    refine ⟨_, rfl, wpAny_letOwnedTupleGo_zip (s := { S with heap := h1, toks := tk }) z1 fun h2 z2 off => ?_⟩
    have zl := Heap.lt_size oz
    have made : h2.get? S.heap.objs.size = some { cls := .type "tuple", data := .seq #[au, bv] } := (off.2 _ (Nat.ne_of_gt zl)).trans n1
    have live : ∀ c, c = z ∨ c = s ∨ c = t ∨ c = i ∨ c = j → c < S.heap.objs.size := by
      obtain ⟨_, ei, _⟩ := li
      obtain ⟨_, ej, _⟩ := tj
      rintro c (rfl | rfl | rfl | rfl | rfl)
      · exact zl
      · exact Heap.lt_size os
      · exact Heap.lt_size ot
      · exact Heap.lt_size ei
      · exact Heap.lt_size ej
    have inv2 : Inv X pins σ (upd H S.heap.objs.size (.tup [u, v])) { S with heap := h2, toks := tk } := by
      refine inv.turnedNew (ch := [z, s, t, i, j]) (fun c o far' y => ?_) free (Nat.le_refl _) ⟨by show 2 ≤ sizeLine; decide, [au, bv], .cons ru (.cons rv .nil), _, made, rfl, _, rfl⟩
      simp only [List.mem_cons, List.not_mem_nil, or_false, not_or] at far'
      exact (off.2 c far'.1).trans (stay c o far'.1 far'.2.2.1 far'.2.2.2.1 far'.2.2.2.2 y)
    refine ⟨.ref S.heap.objs.size, _, inv2, rfl, ⟨_, u, v, ⟨rfl, inv.hok.fresh (Nat.le_refl _), rfl⟩, fun l hl => ?_, fun l hl => ?_⟩, ⟨⟨z2, ?_⟩, ⟨au, bv, (off.2 _ far.sep.TOz).trans t1⟩, l1.1.at fun o y => (off.2 _ far.sep.zi1.symm).trans y, r1.1.at fun o y => (off.2 _ far.sep.zi2.symm).trans y⟩, fun c hc => ?_⟩
    · rw [inv.list_inj hl qa]; exact hu
    · rw [inv.tuple_inj hl qb]; exact hv
    · exact (off.2 _ far.sep.TIz).trans (stay _ _ far.sep.TIz far.sep.TITO far.sep.TIi1 far.sep.TIi2 os)
    · have := live c (by simpa only [List.mem_cons, List.not_mem_nil, or_false] using hc)
      rw [upd_ne (Nat.ne_of_lt this)]
      exact (free c hc).1
  done := by
    rintro X rfl rfl rfl calm n pins S σ H E inv free ⟨⟨oz, os⟩, ⟨u0, w0, ot⟩, li, tj⟩ ⟨us, ws, ⟨qa, qb⟩, n1, n2, over⟩
    obtain ⟨as, va, pa, _⟩ := inv.list qa
    obtain ⟨bs, vb, pb, _⟩ := inv.tuple qb
    have hh := inv.ok.hd calm
    have la := Draws.list (prog := X.prog) (w := X.w) (A := X.A.in1) hh i a far.ai as.toArray
    have lb := Draws.tuple (prog := X.prog) (w := X.w) (A := X.A.in1) hh j b far.bj bs.toArray
    have ka : as.toArray.size = us.length := by rw [va.length]; simp
    have kb : bs.toArray.size = ws.length := by rw [vb.length]; simp
    refine wpAny_pyNext_zipD2_end far.sep la lb oz os ot ⟨li, pa.isList⟩ ⟨tj, (show S.heap.IsTuple b bs.toArray from pb)⟩ (by omega) (by omega) (by omega) fun h1 tk stay => ⟨rfl, ?_⟩
    refine inv.turnedL (t' := tk) (ch := [z, s, t, i, j]) (fun c o far' y => ?_) free
    simp only [List.mem_cons, List.not_mem_nil, or_false, not_or] at far'
    exact stay c o far'.1 far'.2.2.1 far'.2.2.2.1 far'.2.2.2.2 y
  self := fun A n S Q E at_ q => wpAny_pyIter_zip at_.1.1 q
def iZipM (K : PySem.W.Frag) (ta : TA) : TI := fun σ H R => ta σ H fun vs H1 => ∃ a b us ws, vs = [.ref a, .ref b] ∧ (SqL K H1 a us ∧ SqT K H1 b ws) ∧ R (ItzM K a b) H1
theorem pi_zipM {X : Cx} {e e2 : Expr} {ta : TA} {p pos tpos : Pos} {elts : List Expr} {kk : Nat} (hg : Gl X "zip") (hm : X.mg "zip" = none) (ha : PA X [e, e2] ta)
    (one : starEach [e, e2] X.env = (false, eval e X.env) :: starEach [e2] X.env := by rfl) (two : (backTo pos (starEach [e2] X.env)).any (·.1) = false := by rfl) :
    PI X (.Tuple elts kk tpos) (.Call (.Name "zip" p) [e, e2] [] pos) (iZipM X.K ta) where
  run := fun pins S σ H R inv h => by
    refine Call_ (ld_blt inv hg hm boot_zip (callWith_type1 (thn (ha.run pos pins S σ H _ inv h) fun xs S1 ⟨vs, H1, inv1, r, a, b, us, ws, ev, ⟨qa, qb⟩, q⟩ => ?_) one two))
    subst ev
    obtain ⟨_, _, rfl, ra, rb⟩ := vals2 r
    cases ra
    cases rb
    obtain ⟨as, va, pa, _⟩ := inv1.list qa
    obtain ⟨bs, vb, pb, _⟩ := inv1.tuple qb
    obtain ⟨ob, gb, _⟩ := id pb
    have sa := pa.lt
    have sb : b < S1.heap.objs.size := Heap.lt_size gb
    refine zip_begins2 (begins_list a as.toArray) (begins_tuple b bs.toArray) pa.isList (show S1.heap.IsTuple b bs.toArray from pb) fun h1 z1 s1 t1 i1 j1 _ stay => wpAny_pyIter_zip z1 ?_
    have inv2 : Inv X pins σ H1 { S1 with heap := h1 } := inv1.kept (t' := S1.toks) stay
    have from_ : ∀ c : Nat, c ∈ [S1.heap.objs.size + 4, S1.heap.objs.size + 2, S1.heap.objs.size + 3, S1.heap.objs.size, S1.heap.objs.size + 1] → S1.heap.objs.size ≤ c := fun c hc => by
      simp only [List.mem_cons, List.not_mem_nil, or_false] at hc
      omega
    exact ⟨_, _, _, _, H1, rfl, inv2, zm_turn (zm_far sa sb), ⟨⟨z1, s1⟩, ⟨_, _, t1⟩, ⟨_, i1, rfl, rfl⟩, ⟨_, j1, rfl, rfl⟩⟩, fun c hc => inv1.fpOk (from_ c hc) (inv1.hok.fresh (from_ c hc)), q⟩
/-- what it gives: as long as both stand, of one length -/
theorem walk_zipM {K : PySem.W.Frag} {a b : Addr} {xs ys : List V} (hl : xs.length = ys.length) : Walk (ItzM K a b) xs.length (fun H => SqL K H a xs ∧ SqT K H b ys) (YPair (fun i => xs[i]?) (fun i => ys[i]?)) where
  goes := fun i H hi h => ⟨xs, ys, _, _, ⟨h.1, List.getElem?_eq_getElem hi⟩, h.2, List.getElem?_eq_getElem (by rw [← hl]; exact hi)⟩
  stops := fun H h => ⟨xs, ys, h, Nat.le_refl _, Nat.le_of_eq hl, .inl rfl⟩
  yields := fun i H x H' hi h y => by
    obtain ⟨T, u, v, ⟨e, hT, e2⟩, f1, f2⟩ := y
    exact ⟨T, u, v, e, hT, e2, f1 _ h.1, f2 _ h.2⟩
theorem walk_zipTT {K : PySem.W.Frag} {a b : Addr} {xs ys : List V} (hl : xs.length = ys.length) : Walk (RZ.ItzT K a b) xs.length (fun H => SqT K H a xs ∧ SqT K H b ys) (YPair (fun i => xs[i]?) (fun i => ys[i]?)) where
  goes := fun i H hi h => ⟨xs, ys, _, _, h.1, h.2, List.getElem?_eq_getElem hi, List.getElem?_eq_getElem (by rw [← hl]; exact hi)⟩
  stops := fun H h => ⟨xs, ys, h.1, h.2, .inl (Nat.le_refl _)⟩
  yields := fun i H x H' hi h y => by
    obtain ⟨T, u, v, e, hT, e2, f1, f2⟩ := y
    exact ⟨T, u, v, e, hT, e2, f1 _ h.1, f2 _ h.2⟩
end My

set_option Elab.async false
set_option maxRecDepth 100000
namespace My
open PySem PySem.Spec PyProof.Rows L2
section
variable {prog : Program} {w : World} {A : Around} {E : Value → Shared → Prop}
/-- numbers that are walked over come into the set, one after another -/
theorem fillR {Rr : Result → Shared → Prop} {J : Addr} {fp wr : List Addr} {G : Array GenState → Array GenState → Prop} {n : Nat} {Pv : Nat → Value → Prop} {St : Nat → Shared → Prop}
    (W : WalksS prog w A.in1 J fp wr G n Pv St) {a : Addr} (ha : a ∉ fp) {val : Nat → Int} (hv : ∀ i v, Pv i v → ∃ t, v = .int (val i) t) (hn : n + 1 < scanBound) :
    ∀ (k i : Nat) (s : Shared) (S : Int → Bool) (m : Nat), i + k = n → m ≤ i → St i s → SetR w s.heap a S m →
      (∀ s' S' m', Moved (a :: wr) G s s' → SetR w s'.heap a S' m' → m' ≤ n → (∀ j, S' j = true ↔ S j = true ∨ ∃ q, i ≤ q ∧ q < n ∧ val q = j) → Rr (.ok (.ret .none)) s') →
      codeAny (model prog w) A (.builtin "set.update.loop" ⟨[.ref a, .ref J], []⟩) Rr s := by
  have aw : a ∉ wr := fun z => ha (W.sub a z)
  have more : ∀ x, x ∈ wr → x ∈ a :: wr := fun x z => .tail _ z
  intro k
  induction k with
  | zero =>
    intro i s S m e hm st R c
    cases (show i = n from e)
    refine codeAny_builtin F.entry_set_update_loop (by
      rw [Around.under_plainId F.plain_set_update_loop _]
      exact wpAny_bind (W.done s _ _ st fun s1 mv => wpAny_pure (c s1 S m (mv.mono more) (R.at fun o => mv.heap a o aw) hm fun j => ⟨.inl, fun z => z.elim id fun ⟨q, q1, q2, _⟩ => by omega⟩)))
  | succ k ih =>
    intro i s S m e hm st R c
    refine codeAny_builtin F.entry_set_update_loop (by
      rw [Around.under_plainId F.plain_set_update_loop _]
      refine wpAny_bind (W.item i s _ _ (by omega) st fun v s1 pv st1 mv => ?_)
      obtain ⟨tk, rfl⟩ := hv i v pv
      have R1 : SetR w s1.heap a S m := R.at fun o => mv.heap a o aw
      refine wpAny_bind (wpAny_holding ?_)
      unfold setAdd
      refine wpAny_holding (wpAny_bind ((intKind prog w).pyHash (k := val i) (intKind_is prog w _ tk) ?_))
      refine setR_add_hashed (P := prog) (s := { s1 with toks := s1.toks + 1 }) R1 (by omega) fun h2 sb R2 => wpAny_pure ?_
      have off : ∀ b o, b ≠ a → s1.heap.get? b = some o → h2.get? b = some o := fun b o nb q => (sb.2 b nb).trans q
      refine ⟨plainId_quiet F.plain_set_update_loop _, ih (i + 1) _ _ _ (by omega) (by split <;> omega) (W.frame (i + 1) s1 h2 (s1.toks + 1) st1 (by omega) fun b hb o q => off b o (fun z => ha (z ▸ hb)) q) R2 ?_⟩
      intro s3 S3 m3 mv3 R3 hm3 e3
      refine c s3 S3 m3 (Moved.trans W.gtrans ((mv.mono more).then_heap (show s1.toks ≤ s1.toks + 1 by omega) fun b o nb q => off b o (fun z => nb (by rw [z]; exact .head _)) q) mv3) R3 hm3 fun j => ?_
      rw [e3 j]
      simp only [Bool.or_eq_true, decide_eq_true_eq]
      constructor
      · rintro ((z | z) | ⟨q, q1, q2, q3⟩)
        · exact .inl z
        · exact .inr ⟨i, by omega, by omega, z.symm⟩
        · exact .inr ⟨q, by omega, q2, q3⟩
      · rintro (z | ⟨q, q1, q2, q3⟩)
        · exact .inl (.inl z)
        · by_cases qi : q = i
          · subst qi; exact .inl (.inr q3.symm)
          · exact .inr ⟨q, by omega, q2, q3⟩)
end
end My
namespace My
open PySem PySem.Spec PyProof.Rows L2
section
variable {prog : Program} {w : World} {A : Around} {E : Value → Shared → Prop} {s : Shared}
abbrev bareSet (w : World) : Obj := { cls := .type "set", dict := none, data := .set #[] 0 (.fresh 0 0 (!w.params.followText "set-order")) }
theorem mkR (x : Value) {Qn : Value → Shared → Prop} (hq : Qn (.ref s.heap.objs.size) { s with heap := s.heap.push (bareSet w) }) :
    codeAny (model prog w) A (.call (.builtin "set.__new__") ⟨[.type "set", x], []⟩) (wants Qn E) s := by
  have own := sub_set_self
  have fit := F.newCall_set_1 x
  refine codeAny_of_tree (wpAny_bind (wpAny_of_eq fit (wpAny_pure ⟨plainId_quiet F.plain_set_new _, codeAny_builtin F.entry_set_new (by
    rw [Around.under_plainId F.plain_set_new _]
    unfold Builtin.«set.__new__» Builtin.Frozenset.newClass
    cases s
    dsimp only
    wp_walk
    exact wpAny_askSetting (wpAny_pure (wpAny_bind (wpAny_alloc (wpAny_pure (wpAny_pure hq)))))
    )⟩)))
end
end My
namespace My
open PySem PySem.Spec PyProof.Rows L2
section
variable {prog : Program} {w : World} {A : Around} {E : Value → Shared → Prop} {s : Shared}
set_option maxHeartbeats 3200000 in
theorem callR {l : Addr} {us : Array Value} {ns : List Int} (hh : A.handled = none) (hl : s.heap.IsList l us) (hi : IntsAre us.toList ns) (hb : us.size + 1 < scanBound) {Q : Value → Shared → Prop}
    (hq : ∀ h' tk S m, SetR w h' s.heap.objs.size S m → m ≤ us.size → (∀ j, S j = true ↔ j ∈ ns) → (∀ b o, s.heap.get? b = some o → h'.get? b = some o) → Q (.ref s.heap.objs.size) { s with heap := h', toks := tk }) :
    wpAny (model prog w) A (call (.type "set") [.ref l]) Q E s := by
  have c := F.called_set
  obtain ⟨_, _, c1⟩ := c.mro
  have c2 := c.made
  have c3 := c.sub
  have c4 := c.notType
  have c5 := c.canCreate
  have c6 := F.typeCall_set_1 (.ref l)
  refine wpAny_call (codeAny_of_tree (wpAny_pure ⟨Code.quiet_builtin _ (by decide +kernel), codeAny_builtin F.entry_type_call ?_⟩))
  rw [Around.under_plain (weight_type_call_type "set" [.ref l] []) rfl]
  repeat (any_goals (first | assumption | wp_step))
  refine codeAny_mono (mkR (.ref l) (E := E) (Qn := fun v s1 => v = .ref s.heap.objs.size ∧ s1 = { s with heap := s.heap.push (bareSet w) }) ⟨rfl, rfl⟩) fun r s1 hr => ?_
  rcases r with _ | f
  · exact hr
  rcases f with v | _ | _ | _
  all_goals (first | exact hr.elim | skip)
  obtain ⟨rfl, rfl⟩ := hr
  have at0 : (s.heap.push (bareSet w)).get? s.heap.objs.size = some (bareSet w) := Heap.get?_push_size _ rfl
  have ty : Shared.TypeIs { s with heap := s.heap.push (bareSet w) } (.ref s.heap.objs.size) "set" := ⟨_, at0, rfl⟩
  have d1 := c.init.lookup
  have d2 := c.init.bind (.ref s.heap.objs.size)
  repeat (any_goals (first | assumption | wp_step))
  refine codeAny_mono (codeAny_call_builtin (R := wants (fun v s2 => v = .none ∧ ∃ h' tk S m, s2 = { s with heap := h', toks := tk } ∧ SetR w h' s.heap.objs.size S m ∧ m ≤ us.size ∧ (∀ j, S j = true ↔ j ∈ ns) ∧ ∀ b o, s.heap.get? b = some o → h'.get? b = some o) E)
    c.init.plain F.entry_set_init (check_set_init_1 ty ?_)) fun r2 s2 hr2 => ?_
  · obtain ⟨o, ho, oc, nl, od⟩ := hl
    have hl0 : (s.heap.push (bareSet w)).IsList l us := ⟨o, Heap.get?_push_of_some _ ho, oc, nl, od⟩
    have few : l < s.heap.objs.size := Heap.lt_size ho
    have z1 : (s.heap.push (bareSet w)).objs.size = s.heap.objs.size + 1 := Heap.size_push ..
    obtain ⟨oc1, od1, oe1, os1⟩ := o
    cases oc
    cases od
    have hol := Heap.get?_push_of_some (bareSet w) ho
    have n1 := F.sub_list_set
    have n2 := F.sub_list_frozenset
    have n3 : (Value.type "list" == Value.type "dict") = false := by decide
    unfold Builtin.«set.__init__» noKeywords Builtin.Frozenset.updateFrom
    generalize hp : pyIter = PI
    wp_walk
    cases hp
    refine wpAny_pyIter_list hl0 (wpAny_bind (wpAny_runValue ?_))
    have hh' : A.in1.in1.in1.handled = none := by simp [hh]
    have apart : l ≠ (s.heap.push (bareSet w)).objs.size := fun z => by
      rw [z1] at z
      rw [z] at few
      exact Nat.not_lt.mpr (Nat.le_succ _) few
    refine fillR ((Walks.list hh' (s.heap.push (bareSet w)).objs.size l apart us).toS) (a := s.heap.objs.size) ?_ (val := fun i => ns.getD i 0) ?_ hb us.size 0 _ (fun _ => false) 0 (Nat.zero_add _) (Nat.le_refl _) ?_ ?_ ?_
    · intro z
      rcases List.mem_cons.mp z with z | z
      · rw [z1] at z
        exact Nat.ne_of_lt (Nat.lt_succ_self _) z
      · have z := List.mem_singleton.mp z
        rw [← z] at few
        exact Nat.lt_irrefl _ few
    · intro i v hv
      exact IntsAre.int_at hi i v (by rw [Array.getElem?_toList]; exact hv)
    · exact ⟨⟨_, Heap.get?_push_size _ rfl, rfl, rfl⟩, hl0.push _⟩
    · exact (setR_fresh w).at fun u q => Heap.get?_push_of_some _ q
    · intro s3 S3 m3 mv R3 hm3 e3
      obtain ⟨h4, g4, d4, t4, o4⟩ := s3
      cases (show g4 = s.gens from mv.gens)
      cases (show d4 = s.drawn from mv.drawn)
      cases (show o4 = s.os from mv.os)
      refine wpAny_pure (wpAny_pure ⟨rfl, h4, t4, S3, m3, rfl, R3, hm3, fun j => ?_, fun b u q => ?_⟩)
      · have hsz : us.size = ns.length := by rw [← IntsAre.length hi, Array.length_toList]
        rw [e3 j]
        constructor
        · rintro (z | ⟨q, _, q2, q3⟩)
          · cases z
          · rw [hsz] at q2
            rw [← q3, List.getD_eq_getElem?_getD, List.getElem?_eq_getElem q2]
            exact List.getElem_mem q2
        · intro z
          obtain ⟨q, q2, q3⟩ := List.getElem_of_mem z
          refine .inr ⟨q, Nat.zero_le _, by omega, ?_⟩
          rw [List.getD_eq_getElem?_getD, List.getElem?_eq_getElem q2]
          exact q3
      · have bl : b < s.heap.objs.size := Heap.lt_size q
        refine mv.heap b u (fun z => ?_) (Heap.get?_push_of_some _ (Heap.get?_push_of_some _ q))
        rcases List.mem_cons.mp z with z | z
        · exact Nat.ne_of_lt bl z
        · have z := List.mem_singleton.mp z
          rw [z1] at z
          exact Nat.ne_of_lt (Nat.lt_succ_of_lt bl) z
  · rcases r2 with _ | f
    · exact hr2
    rcases f with v | _ | _ | _
    all_goals (first | exact hr2.elim | skip)
    obtain ⟨rfl, h', tk, S, m, rfl, R1, m1, S1, k1⟩ := hr2
    repeat (any_goals (first | assumption | wp_step))
    exact hq h' tk S m R1 m1 S1 k1
end
end My

set_option Elab.async false
set_option maxRecDepth 100000
set_option maxHeartbeats 2000000
namespace My
open PySem PySem.Spec PyProof.Rows L2
/-! ### sets of values of one kind, that can be walked -/
section
variable {P : Program} {w : World} {κ : Type} [DecidableEq κ] (kd : KeyKind P w κ)
def Ap (e f : Int × Value) : Prop := ∀ k, kd.is k e.2 = true → kd.is k f.2 = false
theorem Ap.symm {e f : Int × Value} (h : Ap kd e f) : Ap kd f e := fun k hk => by
  cases c : kd.is k e.2 with
  | false => rfl
  | true => rw [h k c] at hk; cases hk
structure TabG (es : Array (Int × Value)) (t : SetTable) (S : κ → Bool) (n : Nat) : Prop where
  el : ElemsOf kd es.toList
  ap : es.toList.Pairwise (Ap kd)
  mem : ∀ k, S k = true ↔ ∃ e ∈ es.toList, kd.is k e.2 = true
  few : es.size < scanBound
  fit : t.fits es.size = true
  sz : es.size = n
  ris : Ris t.place.toList
  led : w.params.followText "set-order" = true ∨ t.led = true
def SetG (h : Heap) (a : Addr) (S : κ → Bool) (n : Nat) : Prop := ∃ o es ep t, h.get? a = some o ∧ o.ExactSet ∧ o.data = .set es ep t ∧ TabG kd es t S n
variable {kd}
theorem SetG.keep {h h' : Heap} {a : Addr} {S : κ → Bool} {n : Nat} (R : SetG kd h a S n) (k : ∀ o, h.get? a = some o → h'.get? a = some o) : SetG kd h' a S n :=
  let ⟨o, es, ep, t, ho, r⟩ := R
  ⟨o, es, ep, t, k o ho, r⟩
theorem put_seen {h : Heap} {a : Addr} {o : Obj} {es ys : Array (Int × Value)} {ep : Nat} {t tb : SetTable} (ho : h.get? a = some o) (hd : o.data = .set es ep t) : (h.update a (Obj.putSet ys tb)).get? a = some { o with data := .set ys (ep + 1) tb } := by
  have e := putSet_of ys tb hd
  have q := Heap.get?_update_self (Obj.putSet ys tb) ho (by rw [e] <;> rfl)
  exact e ▸ q
variable {A : Around} {E : Value → Shared → Prop} {s : Shared} {a : Addr} {S S' : κ → Bool} {n : Nat}
theorem laid_all {es ys : Array (Int × Value)} {t tb : SetTable} (R : TabG kd es t S n) (pm : ys.toList.Perm es.toList) (hf : tb.fits ys.size = true) (hr : Ris tb.place.toList) (hl : tb.led = t.led) : TabG kd ys tb S n :=
  have z : ys.size = es.size := (Array.length_toList).symm.trans (pm.length_eq.trans Array.length_toList)
  ⟨fun e he => R.el e (pm.mem_iff.mp he), (pm.pairwise_iff fun h => Ap.symm kd h).mpr R.ap, fun k => (R.mem k).trans ⟨fun ⟨e, he, q⟩ => ⟨e, pm.mem_iff.mpr he, q⟩, fun ⟨e, he, q⟩ => ⟨e, pm.mem_iff.mp he, q⟩⟩, z ▸ R.few, hf, z.trans R.sz, hr, R.led.imp id fun q => hl.trans q⟩
theorem put_rest {g : Bool → Sem Unit} (hg : ∀ (b : Bool) (x : Shared) (Z : Unit → Shared → Prop), Z () x → wpAny (model P w) A (g b) Z E x) {o : Obj} {es ys : Array (Int × Value)} {ep : Nat} {t tb : SetTable} {wd : Bool} {Rr : Option Bool → Shared → Prop}
    (ho : s.heap.get? a = some o) (hex : o.ExactSet) (hd : o.data = .set es ep t) (R : TabG kd ys tb S' n) (hR : ∀ h', Heap.SameBut a s.heap h' → SetG kd h' a S' n → Rr (some true) { s with heap := h' }) :
    wpAny (model P w) A (storeSet a ys tb >>= fun _ => if (!wd && tb.tooFull) = true then (g (relayAll tb ys (SetTable.grown ys.size)).2.2 >>= fun _ => storeSet a (relayAll tb ys (SetTable.grown ys.size)).1 (relayAll tb ys (SetTable.grown ys.size)).2.1 >>= fun _ => pure (some true)) else pure (some true)) Rr E s := by
  refine wpAny_bind (wpAny_storeSet_of ho hd ?_ (fits_of_scanBound R.few))
  have at1 := put_seen (ys := ys) (tb := tb) ho hd
  have sb := Heap.SameBut.update s.heap a (Obj.putSet ys tb)
  by_cases c : (!wd && tb.tooFull) = true
  · rw [if_pos c]
    have q1 := relayAll_perm tb ys (SetTable.grown ys.size)
    have q2 := relayAll_fits tb ys (SetTable.grown ys.size)
    have q3 := relayAll_ris tb ys (SetTable.grown ys.size)
    have q4 := relayAll_led tb ys (SetTable.grown ys.size)
    generalize relayAll tb ys (SetTable.grown ys.size) = Z at q1 q2 q3 q4
    obtain ⟨zs, tc, gv⟩ := Z
    have R2 := laid_all R q1 q2 q3 q4
    exact wpAny_bind (hg _ _ _ (wpAny_bind (wpAny_storeSet_of at1 rfl (wpAny_pure (hR _ (sb.trans (Heap.SameBut.update _ a _)) ⟨_, zs, _, tc, put_seen at1 rfl, hex, rfl, R2⟩)) (fits_of_scanBound R2.few))))
  · rw [if_neg c]
    exact wpAny_pure (hR _ sb ⟨_, ys, _, tb, at1, hex, rfl, R⟩)
theorem addG {k : κ} {x : Value} {Q : Bool → Shared → Prop} (hk : kd.is k x = true) (hsc : x.scannable = true) (R : SetG kd s.heap a S n) (room : n + 1 < scanBound)
    (hQ : ∀ h', Heap.SameBut a s.heap h' → SetG kd h' a (fun j => S j || decide (j = k)) (if S k = true then n else n + 1) → Q (!S k) { s with heap := h' }) : wpAny (model P w) A (setAddHashed a x (kd.hash k)) Q E s := by
  obtain ⟨o, es, ep, t, ho, hex, hd, T⟩ := R
  unfold setAddHashed setAddHashedIn
  refine wpAny_holding (wpAny_bind (wpAny_setState_of ho hd T.fit ?_))
  dsimp only
  rw [byScan_of hsc T.few T.el, if_pos rfl]
  unfold setAddByScan
  refine wpAny_bind (wpAny_bind (wpAny_rule (wpAny_bind (wpAny_setScan_of hk ho hd T.fit T.el ?_))))
  cases fi : List.findIdx? (fun e => kd.is k e.2) es.toList with
  | some j =>
    obtain ⟨hj, pj, _⟩ := List.findIdx?_eq_some_iff_getElem.mp fi
    have Sk : S k = true := (T.mem k).mpr ⟨_, List.getElem_mem hj, pj⟩
    have mem2 : ∀ i, (S i || decide (i = k)) = true ↔ ∃ e ∈ es.toList, kd.is i e.2 = true := fun i => by
      rw [← T.mem i, Bool.or_eq_true, decide_eq_true_eq]
      exact ⟨fun z => z.elim id fun e => e ▸ Sk, .inl⟩
    have q := hQ s.heap (.refl a s.heap) ⟨o, es, ep, t, ho, hex, hd, T.el, T.ap, mem2, T.few, T.fit, by rw [if_pos Sk]; exact T.sz, T.ris, T.led⟩
    rw [Sk] at q
    exact wpAny_pure (wpAny_pure q)
  | none =>
    have out : ∀ e ∈ es.toList, kd.is k e.2 = false := fun e he => by simpa using List.findIdx?_eq_none_iff.mp fi e he
    have Sk : S k = false := by
      cases c : S k with
      | false => rfl
      | true => obtain ⟨e, he, q⟩ := (T.mem k).mp c; rw [out e he] at q; cases q
    have gv : ∀ (b : Bool) {x1 : Shared} {Z : Unit → Shared → Prop}, Z () x1 → wpAny (model P w) A (match b with | true => rule "set.scan.the-table-gave-way" | false => pure ()) Z E x1 := fun b x1 Z q => by
      cases b
      · exact wpAny_pure q
      · exact wpAny_rule q
    have q1 := layNew_perm t es (kd.hash k) x
    have q2 := layNew_fits t es (kd.hash k) x
    have q3 := layNew_ris t es (kd.hash k) x T.ris
    have q4 := layNew_led t es (kd.hash k) x
    dsimp only
    generalize layNew t es (kd.hash k) x = Z at q1 q2 q3 q4 ⊢
    obtain ⟨ys, tb, wd, gave⟩ := Z
    dsimp only at q1 q2 q3 q4 ⊢
    rw [Array.toList_push] at q1
    have pc : ys.toList.Perm ((kd.hash k, x) :: es.toList) := q1.trans (List.perm_append_singleton _ _)
    have zz : ys.size = n + 1 := by rw [← Array.length_toList, pc.length_eq, List.length_cons, Array.length_toList, T.sz]
    have T1 : TabG kd ys tb (fun j => S j || decide (j = k)) (n + 1) := by
      refine ⟨fun e he => ?_, (pc.pairwise_iff fun h => Ap.symm kd h).mpr (List.pairwise_cons.mpr ⟨fun e he i hi => ?_, T.ap⟩), fun i => ?_, by omega, q2, zz, q3, T.led.imp id fun z => q4.trans z⟩
      · rcases List.mem_cons.mp (pc.mem_iff.mp he) with z | z
        · rw [z]; exact ⟨⟨k, hk, rfl⟩, hsc⟩
        · exact T.el e z
      · have e1 : i = k := kd.inj x i k hi hk
        rw [e1]; exact out e he
      · rw [Bool.or_eq_true, decide_eq_true_eq, T.mem i]
        constructor
        · rintro (⟨e, he, q⟩ | z)
          · exact ⟨e, pc.mem_iff.mpr (.tail _ he), q⟩
          · exact ⟨_, pc.mem_iff.mpr (.head _), by rw [z]; exact hk⟩
        · rintro ⟨e, he, q⟩
          rcases List.mem_cons.mp (pc.mem_iff.mp he) with z | z
          · rw [z] at q; exact .inr (kd.inj x i k q hk)
          · exact .inl ⟨e, z, q⟩
    have fin : ∀ h', Heap.SameBut a s.heap h' → SetG kd h' a (fun j => S j || decide (j = k)) (n + 1) → Q true { s with heap := h' } := fun h' sb r => by
      have q := hQ h' sb
      rw [Sk] at q
      exact q r
    refine wpAny_bind (gv _ ?_)
    split
    · refine wpAny_bind ?_
      rw [hashByValue_scannable 8 hsc]
      refine wpAny_pure (put_rest (kd := kd) (S' := fun j => S j || decide (j = k)) (n := n + 1) ?_ ho hex hd ⟨T1.el, T1.ap, T1.mem, T1.few, ?_, T1.sz, ?_, ?_⟩ ?_)
      · intro b x1 Z q; cases b <;> first | exact wpAny_pure q | exact wpAny_rule q
      · first | exact q2 | (split <;> first | exact q2 | exact SetTable.fits_plain_off q2)
      · first | exact q3 | (split <;> exact q3)
      · first | exact T1.led | (split <;> exact T1.led)
      · intro h' sb r; exact wpAny_pure (fin h' sb r)
    · refine wpAny_bind (wpAny_pure ?_)
      rw [if_pos rfl]
      refine put_rest (kd := kd) (S' := fun j => S j || decide (j = k)) (n := n + 1) ?_ ho hex hd T1 ?_
      · intro b x1 Z q; cases b <;> first | exact wpAny_pure q | exact wpAny_rule q
      · intro h' sb r; exact wpAny_pure (fin h' sb r)
end
end My

set_option Elab.async false
set_option maxRecDepth 100000
set_option maxHeartbeats 3200000
namespace My
open PySem PySem.Spec PyProof.Rows L2
section
variable {prog : Program} {w : World} {A : Around} {E : Value → Shared → Prop} {κ : Type} [DecidableEq κ] {kd : KeyKind prog w κ}
/-- what is walked over comes into the set -/
theorem fillG {Rr : Result → Shared → Prop} {J : Addr} {fp wr : List Addr} {G : Array GenState → Array GenState → Prop} {n : Nat} {Pv : Nat → Value → Prop} {St : Nat → Shared → Prop}
    (W : WalksS prog w A.in1 J fp wr G n Pv St) {a : Addr} (ha : a ∉ fp) {val : Nat → κ} (hv : ∀ i v, Pv i v → kd.is (val i) v = true ∧ v.scannable = true) (hn : n + 1 < scanBound) :
    ∀ (k i : Nat) (s : Shared) (S : κ → Bool) (m : Nat), i + k = n → m ≤ i → St i s → SetG kd s.heap a S m →
      (∀ x S' m', Moved (a :: wr) G s x → SetG kd x.heap a S' m' → m' ≤ n → (∀ j, S' j = true ↔ S j = true ∨ ∃ q, i ≤ q ∧ q < n ∧ val q = j) → Rr (.ok (.ret .none)) x) →
      codeAny (model prog w) A (.builtin "set.update.loop" ⟨[.ref a, .ref J], []⟩) Rr s := by
  have aw : a ∉ wr := fun z => ha (W.sub a z)
  have wide : ∀ x, x ∈ wr → x ∈ a :: wr := fun x z => .tail _ z
  intro k
  induction k with
  | zero =>
    intro i s S m e hm st R c
    cases (show i = n from e)
    exact codeAny_builtin F.entry_set_update_loop (by
      rw [Around.under_plainId F.plain_set_update_loop _]
      exact wpAny_bind (W.done s _ _ st fun x mv => wpAny_pure (c x S m (mv.mono wide) (R.keep fun o => mv.heap a o aw) hm fun j => ⟨.inl, fun z => z.elim id fun ⟨q, q1, q2, _⟩ => by omega⟩)))
  | succ k ih =>
    intro i s S m e hm st R c
    refine codeAny_builtin F.entry_set_update_loop (by
      rw [Around.under_plainId F.plain_set_update_loop _]
      refine wpAny_bind (W.item i s _ _ (by omega) st fun v x pv st1 mv => wpAny_bind (wpAny_holding ?_))
      obtain ⟨kv, sv⟩ := hv i v pv
      unfold setAdd
      refine wpAny_holding (wpAny_bind (kd.pyHash kv ?_))
      refine addG (s := { x with toks := x.toks + 1 }) kv sv (R.keep fun o => mv.heap a o aw) (by omega) fun h2 sb R2 => wpAny_pure ?_
      have off : ∀ b o, b ≠ a → x.heap.get? b = some o → h2.get? b = some o := fun b o nb q => (sb.2 b nb).trans q
      refine ⟨plainId_quiet F.plain_set_update_loop _, ih (i + 1) _ _ _ (by omega) (by split <;> omega) (W.frame (i + 1) x h2 (x.toks + 1) st1 (by omega) fun b hb o q => off b o (fun z => ha (z ▸ hb)) q) R2 fun y S3 m3 mv3 R3 hm3 e3 => ?_⟩
      refine c y S3 m3 (Moved.trans W.gtrans ((mv.mono wide).then_heap (show x.toks ≤ x.toks + 1 by omega) fun b o nb q => off b o (fun z => nb (by rw [z]; exact .head _)) q) mv3) R3 hm3 fun j => ?_
      rw [e3 j, Bool.or_eq_true, decide_eq_true_eq]
      constructor
      · rintro ((z | z) | ⟨q, q1, q2, q3⟩)
        · exact .inl z
        · exact .inr ⟨i, by omega, by omega, z.symm⟩
        · exact .inr ⟨q, by omega, q2, q3⟩
      · rintro (z | ⟨q, q1, q2, q3⟩)
        · exact .inl (.inl z)
        · by_cases qi : q = i
          · exact .inl (.inr (by rw [← q3, qi]))
          · exact .inr ⟨q, by omega, q2, q3⟩)
end
section
variable {prog : Program} {w : World} {A : Around} {E : Value → Shared → Prop} {s : Shared} {κ : Type} [DecidableEq κ] {kd : KeyKind prog w κ}
theorem bareG (h : Heap) : SetG kd (h.push (bareSet w)) h.objs.size (fun _ => false) 0 :=
  ⟨_, #[], 0, _, Heap.get?_push_size _ rfl, ⟨rfl, rfl, rfl⟩, rfl, (fun e he => (by cases he)), .nil, (fun k => ⟨fun z => (by cases z), fun ⟨e, he, _⟩ => (by cases he)⟩), (by decide), (by rfl), rfl, .nil, (by
    show w.params.followText "set-order" = true ∨ (!w.params.followText "set-order") = true
    cases w.params.followText "set-order"
    · exact .inr rfl
    · exact .inl rfl)⟩
/-- set(t), t a tuple of such values -/
theorem callG {l : Addr} {us : Array Value} {ns : List κ} (hh : A.handled = none) (hl : s.heap.IsTuple l us) (hlen : us.size = ns.length) (hi : ∀ (i : Nat) (v : Value), us[i]? = some v → ∃ k, ns[i]? = some k ∧ kd.is k v = true ∧ v.scannable = true) (hb : us.size + 1 < scanBound) (k0 : κ) {Q : Value → Shared → Prop}
    (hq : ∀ h' tk S m, SetG kd h' s.heap.objs.size S m → m ≤ us.size → (∀ j, S j = true ↔ j ∈ ns) → (∀ b o, s.heap.get? b = some o → h'.get? b = some o) → Q (.ref s.heap.objs.size) { s with heap := h', toks := tk }) :
    wpAny (model prog w) A (call (.type "set") [.ref l]) Q E s := by
  have c := F.called_set
  obtain ⟨_, _, c1⟩ := c.mro
  have c2 := c.made
  have c3 := c.sub
  have c4 := c.notType
  have c5 := c.canCreate
  have c6 := F.typeCall_set_1 (.ref l)
  refine wpAny_call (codeAny_of_tree (wpAny_pure ⟨Code.quiet_builtin _ (by decide +kernel), codeAny_builtin F.entry_type_call ?_⟩))
  rw [Around.under_plain (weight_type_call_type "set" [.ref l] []) rfl]
  repeat (any_goals (first | assumption | wp_step))
  refine codeAny_mono (mkR (.ref l) (E := E) (Qn := fun v s1 => v = .ref s.heap.objs.size ∧ s1 = { s with heap := s.heap.push (bareSet w) }) ⟨rfl, rfl⟩) fun r s1 hr => ?_
  rcases r with _ | f
  · exact hr
  rcases f with v | _ | _ | _
  all_goals (first | exact hr.elim | skip)
  obtain ⟨rfl, rfl⟩ := hr
  have at0 : (s.heap.push (bareSet w)).get? s.heap.objs.size = some (bareSet w) := Heap.get?_push_size _ rfl
  have ty : Shared.TypeIs { s with heap := s.heap.push (bareSet w) } (.ref s.heap.objs.size) "set" := ⟨_, at0, rfl⟩
  have d1 := c.init.lookup
  have d2 := c.init.bind (.ref s.heap.objs.size)
  repeat (any_goals (first | assumption | wp_step))
  refine codeAny_mono (codeAny_call_builtin (R := wants (fun v s2 => v = .none ∧ ∃ h' tk S m, s2 = { s with heap := h', toks := tk } ∧ SetG kd h' s.heap.objs.size S m ∧ m ≤ us.size ∧ (∀ j, S j = true ↔ j ∈ ns) ∧ ∀ b o, s.heap.get? b = some o → h'.get? b = some o) E)
    c.init.plain F.entry_set_init (check_set_init_1 ty ?_)) fun r2 s2 hr2 => ?_
  · obtain ⟨o, ho, oc, nl, od⟩ := hl
    have hl0 : (s.heap.push (bareSet w)).IsTuple l us := ⟨o, Heap.get?_push_of_some _ ho, oc, nl, od⟩
    have few : l < s.heap.objs.size := Heap.lt_size ho
    have z1 : (s.heap.push (bareSet w)).objs.size = s.heap.objs.size + 1 := Heap.size_push ..
    obtain ⟨oc1, od1, oe1, os1⟩ := o
    cases oc
    cases od
    have hol := Heap.get?_push_of_some (bareSet w) ho
    have n1 := F.sub_tuple_set
    have n2 := F.sub_tuple_frozenset
    have n3 : (Value.type "tuple" == Value.type "dict") = false := by decide
    unfold Builtin.«set.__init__» noKeywords Builtin.Frozenset.updateFrom
    generalize hp : pyIter = PI
    wp_walk
    cases hp
    refine wpAny_pyIter_tuple hl0 (wpAny_bind (wpAny_runValue ?_))
    have hh' : A.in1.in1.in1.handled = none := by simp [hh]
    have apart : l ≠ (s.heap.push (bareSet w)).objs.size := fun z => by
      rw [z1] at z
      rw [z] at few
      exact Nat.not_lt.mpr (Nat.le_succ _) few
    refine fillG (kd := kd) ((Walks.tuple hh' (s.heap.push (bareSet w)).objs.size l apart us).toS) (a := s.heap.objs.size) ?_ (val := fun i => ns.getD i k0) ?_ hb us.size 0 _ (fun _ => false) 0 (Nat.zero_add _) (Nat.le_refl _) ?_ ?_ ?_
    · intro z
      rcases List.mem_cons.mp z with z | z
      · rw [z1] at z
        exact Nat.ne_of_lt (Nat.lt_succ_self _) z
      · have z := List.mem_singleton.mp z
        rw [← z] at few
        exact Nat.lt_irrefl _ few
    · intro i v hv
      obtain ⟨k, e1, e2, e3⟩ := hi i v hv
      rw [List.getD_eq_getElem?_getD, e1]
      exact ⟨e2, e3⟩
    · exact ⟨⟨_, Heap.get?_push_size _ rfl, rfl, rfl⟩, hl0.push _⟩
    · exact (bareG s.heap).keep fun u q => Heap.get?_push_of_some _ q
    · intro s3 S3 m3 mv R3 hm3 e3
      obtain ⟨h4, g4, d4, t4, o4⟩ := s3
      cases (show g4 = s.gens from mv.gens)
      cases (show d4 = s.drawn from mv.drawn)
      cases (show o4 = s.os from mv.os)
      refine wpAny_pure (wpAny_pure ⟨rfl, h4, t4, S3, m3, rfl, R3, hm3, fun j => ?_, fun b u q => ?_⟩)
      · rw [e3 j]
        constructor
        · rintro (z | ⟨q, _, q2, q3⟩)
          · cases z
          · rw [hlen] at q2
            rw [← q3, List.getD_eq_getElem?_getD, List.getElem?_eq_getElem q2]
            exact List.getElem_mem q2
        · intro z
          obtain ⟨q, q2, q3⟩ := List.getElem_of_mem z
          refine .inr ⟨q, Nat.zero_le _, by omega, ?_⟩
          rw [List.getD_eq_getElem?_getD, List.getElem?_eq_getElem q2]
          exact q3
      · have bl : b < s.heap.objs.size := Heap.lt_size q
        refine mv.heap b u (fun z => ?_) (Heap.get?_push_of_some _ (Heap.get?_push_of_some _ q))
        rcases List.mem_cons.mp z with z | z
        · exact Nat.ne_of_lt bl z
        · have z := List.mem_singleton.mp z
          rw [z1] at z
          exact Nat.ne_of_lt (Nat.lt_succ_of_lt bl) z
  · rcases r2 with _ | f
    · exact hr2
    rcases f with v | _ | _ | _
    all_goals (first | exact hr2.elim | skip)
    obtain ⟨rfl, h', tk, S, m, rfl, R1, m1, S1, k1⟩ := hr2
    repeat (any_goals (first | assumption | wp_step))
    exact hq h' tk S m R1 m1 S1 k1
end
section
variable {prog : Program} {w : World} {A : Around} {E : Value → Shared → Prop} {s : Shared}
theorem txts : ∀ {vs : List Value}, (∀ v ∈ vs, ∃ x t, v = Value.str x t) → StrsAre vs (vs.map strOf) := fun h => strsAre_map _ h
/-- what a row of texts is, sorted in its place -/
theorem sort_txt {a : Addr} {vs : List Value} {ss : List Str} {n : Nat} {Pf : PySem.Fin → Shared → Prop} (ho : s.heap.get? a = some (seqObj "list" vs.toArray n)) (hS : StrsAre vs ss) (hL : vs.length ≤ sizeLine)
    (h : ∀ (out : Array Value) (ys : List Str), StrsAre out.toList ys → ys.Perm ss → sortedS ys = true → Pf (.done (.ret .none)) { s with heap := sortedHeap s.heap a vs out }) : wpAny (model prog w) A (Builtin.«list.sort» ⟨[.ref a], []⟩) Pf E s :=
  list_sort_treeKAny strKind_oneLt ho hS.keysOf (fun v1 v2 r e => keyKind_strs (by rw [← e]; exact hS)) hL fun st hp hs => by
    obtain ⟨ys, h1, h2, h3⟩ := sorted_out_str hS hp hs
    exact h _ ys h1 h2 h3
/-- sorted(x), where x gives its texts in a row -/
theorem sortedX {x : Value} {vs : List Value} {Q : Value → Shared → Prop} (hc : ∀ (Z : List Value → Shared → Prop), (∀ (y : Shared) (us : List Value), (∀ b o, s.heap.get? b = some o → y.heap.get? b = some o) → s.heap.objs.size ≤ y.heap.objs.size → y.gens = s.gens → y.os = s.os → us.Perm vs → Z us y) → wpAny (model prog w) A.in1 (collect x) Z E s)
    (hv : ∀ v ∈ vs, ∃ z t, v = Value.str z t) (hL : vs.length ≤ 10000)
    (hQ : ∀ (y : Shared) (p : Addr) (us : List Value) (c : Nat) (ys : List Str), (∀ b o, s.heap.get? b = some o → y.heap.get? b = some o) → y.gens = s.gens → y.os = s.os → s.heap.objs.size ≤ p → y.heap.get? p = some (seqObj "list" us.toArray c) → StrsAre us ys → ys.Perm (vs.map strOf) → sortedS ys = true → Q (.ref p) y) :
    wpAny (model prog w) A (call (.builtin "sorted") [x]) Q E s := by
  refine Calls.call_function_entry kind_sorted plain_sorted entry_sorted (args_sorted1 _) (by
    unfold Builtin.«sorted»
    refine wpAny_bind (m := checkCount "sorted" 1 1 _) (wpAny_pure (wpAny_bind (hc _ fun y us keep up gens os perm => ?_)))
    have len : us.length = vs.length := perm.length_eq
    have small : us.length ≤ sizeLine := by rw [len, sizeLine_eq]; omega
    have own : (y.heap.push (seqObj "list" us.toArray 0)).get? y.heap.objs.size = some (seqObj "list" us.toArray 0) := Heap.get?_push_size _ rfl
    refine wpAny_bind (wpAny_newList (wpAny_bind (wpAny_holding (wpAny_call_entry slot_list_sort ⟨_, own, rfl⟩ entry_list_sort (sort_txt own (txts fun v hv' => hv v (perm.mem_iff.mp hv')) small fun out ys q1 q2 q3 => ⟨_, rfl, ?_⟩) (args_list_sort _)))) small)
    obtain ⟨c, hc⟩ := sortedHeap_at (vs := us) (out := out) own
    refine wpAny_pure ⟨_, rfl, hQ _ y.heap.objs.size out.toList c ys (fun b u e => ?_) gens os up (by rw [Array.toArray_toList]; exact hc) q1 (q2.trans (perm.map _)) q3⟩
    have there := keep b u e
    have below := Heap.lt_size there
    exact (sortedHeap_old (vs := us) (out := out) (Nat.ne_of_lt below) (by rw [size_push']; exact Nat.lt_succ_of_lt below)).trans (Heap.get?_push_of_some _ there))
/-- the items of a tuple in a row -/
theorem collectT {l : Addr} {vs : List Value} {Q : List Value → Shared → Prop} (hl : s.heap.IsTuple l vs.toArray) (h : Q vs { s with heap := (s.heap.push (seqObj "list" #[] 0)).update s.heap.objs.size (Obj.mapSeq (· ++ vs.toArray)) }) (hz : vs.length ≤ sizeLine) : wpAny (model prog w) A (collect (.ref l)) Q E s := by
  obtain ⟨o, ho, hc, n, hd⟩ := id hl
  unfold collect
  refine wpAny_bind (wpAny_runValue (codeAny_builtin entry_proto_collect' (by
    show wpAny _ _ (newList [] >>= fun q => again (.builtin "list.__iadd__" ⟨[q, .ref l], []⟩)) _ _ s
    refine wpAny_bind (wpAny_newList (wpAny_pure ⟨Code.quiet_builtin _ (by decide +kernel), codeAny_builtin entry_list_iadd' ?_⟩))
    show wpAny _ _ (Builtin.List.listExtendWith (.ref s.heap.objs.size) (.ref l) (.ref s.heap.objs.size)) _ _ { s with heap := s.heap.push (seqObj "list" #[] 0) }
    unfold Builtin.List.listExtendWith
    have there : (s.heap.push (seqObj "list" #[] 0)).get? l = some o := Heap.get?_push_of_some _ ho
    refine wpAny_bind (wpAny_typeOf (T := "tuple") ⟨o, there, hc⟩ ?_)
    rw [if_pos (by rw [show (Value.type "tuple" == Value.type "tuple") = true by rfl]; simp)]
    refine wpAny_bind (listItems_at there hd (wpAny_bind (listItems_at (xs := #[]) (n := 0) (Heap.get?_push_size _ rfl) rfl ?_)))
    rw [if_neg (by simp)]
    refine wpAny_bind (listUpdate_at (xs := #[]) (n := 0) (Heap.get?_push_size _ rfl) rfl (wpAny_pure ?_) (Nat.zero_le _) (by show (#[] ++ vs.toArray).size ≤ sizeLine + 1; simp only [Array.size_append, List.size_toArray, List.length_nil]; omega))
    show wpAny (model prog w) A (load s.heap.objs.size >>= fun ob => match ob.data with | .seq xs _ => pure xs.toList | _ => unsupported "internal:collect") Q E { s with heap := (s.heap.push (seqObj "list" #[] 0)).update s.heap.objs.size (Obj.mapSeq (· ++ vs.toArray)) }
    refine wpAny_bind (wpAny_load (get?_update_seq (Heap.get?_push_size _ rfl) _) ?_)
    show wpAny _ _ (pure ((#[] : Array Value) ++ vs.toArray).toList) Q E _
    rw [show ((#[] : Array Value) ++ vs.toArray).toList = vs by simp]
    exact wpAny_pure h)))
end
section
variable {X : Cx}
theorem strs_vals {xs : List Str} {its : List Value} (r : Vals (xs.map V.str) its) : (∀ v ∈ its, ∃ z t, v = Value.str z t) ∧ its.map strOf = xs := by
  have h := r.strs
  exact ⟨fun v hv => h.all v hv, h.strs⟩
def rSortedTS (K : PySem.W.Frag) : List V → Hp → VK → Prop := fun vs H Q => ∃ (l : Addr) (xs : List Str), vs = [V.ref l] ∧ SqT K H l (xs.map V.str) ∧ xs.length ≤ 1000 ∧
  ∀ (ys : List Str) (p : Addr), ys.Perm xs → sortedS ys = true → H p = none → Q (.ref p) (upd H p (.lst (ys.map V.str)))
/-- sorted(t), t a tuple of texts -/
theorem cr_sortedTS : CallR X (.builtin "sorted") (rSortedTS X.K) := by
  intro pins s σ H vs us Q I r h
  obtain ⟨l, xs, rfl, hq, hl, q⟩ := h
  obtain ⟨its, rv, pl, hz⟩ := I.tuple hq
  rw [Vals.ref1 r]
  obtain ⟨v1, v2⟩ := strs_vals rv
  have len : its.length = xs.length := by rw [← rv.length, List.length_map]
  have hzl : its.length ≤ sizeLine := by rw [len, sizeLine_eq]; omega
  refine sortedX (vs := its) (fun Z hZ => collectT (vs := its) pl (hZ _ its (fun b o e => ?_) ?_ rfl rfl (.refl _)) hzl) v1 (by omega) fun y p us c ys k gens os hp hg hS hpm hs => ?_
  · have hb := Heap.lt_size e
    exact (Heap.get?_update_ne _ _ _ _ (Nat.ne_of_lt hb)).trans (Heap.get?_push_of_some _ e)
  · show s.heap.objs.size ≤ ((s.heap.push (seqObj "list" #[] 0)).update s.heap.objs.size _).objs.size
    rw [Heap.size_update, size_push']
    exact Nat.le_succ _
  · have few : (ys.map V.str).length ≤ sizeLine := by rw [List.length_map, hpm.length_eq, List.length_map]; exact hzl
    have new : H p = none := I.hok.fresh hp
    have J : Inv X pins σ (upd H p (.lst (ys.map V.str))) y := I.call' (ch := []) os (Un.laid k hp new) (I.hok.laid k hp ⟨few, us, c, vals_of_strs hS, hg⟩) (by rw [gens]; exact I.bare) (fun _ z => nomatch z)
    exact ⟨.ref p, _, J, rfl, q ys p (by rw [← v2]; exact hpm) hs new⟩
def tSortedSetS (K : PySem.W.Frag) (ta : TE) : TE := fun σ H Q => ta σ H fun x H1 => ∃ (l : Addr) (ns : List Str), x = .ref l ∧ SqT K H1 l (ns.map V.str) ∧ ns.length ≤ 1000 ∧
  ∀ (p : Addr) (ms : List Str), sortedS ms = true → ms.Nodup → (∀ j, j ∈ ms ↔ j ∈ ns) → H1 p = none → Q (.ref p) (upd H1 p (.lst (ms.map V.str)))
/-- sorted(set(t)), t a tuple of texts -/
theorem pe_sortedSetS {a : Expr} {ta : TE} {p p2 q pos : Pos} (hc : X.calm = true) (hg : Gl X "sorted") (hm : X.mg "sorted" = none) (hg2 : Gl X "set") (hm2 : X.mg "set" = none) (ha : PE X a ta)
    (na : starEach [a] X.env = (false, eval a X.env) :: starEach [] X.env := by rfl) : PE X (.Call (.Name "sorted" p) [.Call (.Name "set" p2) [a] [] q] [] pos) (tSortedSetS X.K ta) := by
  refine ⟨fun pins s σ H Q I h => ?_⟩
  refine Call_ (ld_blt I hg hm boot_sorted (PyProof.Rows.callWith_builtin1 (PyProof.Rows.args_cons ?_ rfl) rfl rfl))
  refine Call_ (ld_blt I hg2 hm2 boot_set (PyProof.Rows.callWith_type1 (PyProof.Rows.args_cons (thn (ha.run pins s σ H _ I h) fun v s1 ⟨x, H1, I1, r1, q1⟩ => PyProof.Rows.args_nil ?_) na) na rfl))
  obtain ⟨l, ns, rfl, hq, hl, q1⟩ := q1
  cases r1
  obtain ⟨its, r, pl, hz⟩ := I1.tuple hq
  obtain ⟨v1, v2⟩ := strs_vals r
  have len : its.toArray.size = ns.length := by rw [List.size_toArray, ← r.length, List.length_map]
  refine callG (kd := strKind X.prog X.w) (I1.ok.hd hc) pl (ns := ns) len (fun i v hv => ?_) (by rw [len]; unfold scanBound; omega) default fun h' tk S m R hm hS keep => ?_
  · have hv : its[i]? = some v := by simpa using hv
    obtain ⟨z, t, rfl⟩ := v1 v (List.mem_of_getElem? hv)
    refine ⟨z, ?_, strKind_is _ _ _ _, rfl⟩
    rw [← v2, List.getElem?_map, hv]
    rfl
  refine PyProof.Rows.args_nil ?_
  have I2 : Inv X pins σ H1 { s1 with heap := h', toks := tk } := I1.kept fun b o e => keep b o e
  obtain ⟨o, es, ep, t, ho, hex, hd, T⟩ := R
  have str : ∀ e ∈ es.toList, ∃ z t, e.2 = Value.str z t := fun e he => by
    obtain ⟨⟨k, hk, _⟩, _⟩ := T.el e he
    obtain ⟨t, ht⟩ := Value.isStrOf_shape hk
    exact ⟨k, t, ht⟩
  refine sortedX (s := { s1 with heap := h', toks := tk }) (vs := es.toList.map (·.2)) (fun Z hZ => collect_set (A := X.A.in1) (I1.ok.hd hc) ⟨o, ho, hex.1, hd⟩ T.fit T.few T.ris T.led fun y us k up g os pm => hZ y us k up g os pm) (fun v hv => ?_) ?_ fun y p us c ys k gens os hp hg hS2 hpm hs => ?_
  · obtain ⟨e, he, rfl⟩ := List.mem_map.mp hv
    exact str e he
  · rw [List.length_map, Array.length_toList, T.sz]
    omega
  · have nd : ((es.toList.map (·.2)).map strOf).Nodup := by
      rw [List.map_map]
      unfold List.Nodup
      rw [List.pairwise_map]
      refine (T.ap.imp_of_mem fun {e f} he hf hap => ?_)
      obtain ⟨z, t, hz⟩ := str e he
      obtain ⟨z2, t2, hz2⟩ := str f hf
      intro eq
      have e1 : z = z2 := by
        have : strOf e.2 = strOf f.2 := eq
        rw [hz, hz2] at this
        exact this
      have := hap z (by rw [hz]; exact strKind_is _ _ _ _)
      rw [hz2, e1] at this
      rw [show (strKind X.prog X.w).is z2 (Value.str z2 t2) = true from strKind_is _ _ _ _] at this
      cases this
    have mem : ∀ j, j ∈ ys ↔ j ∈ ns := fun j => by
      rw [hpm.mem_iff, ← hS j, T.mem j, List.map_map, List.mem_map]
      constructor
      · rintro ⟨e, he, rfl⟩
        obtain ⟨z, t, hz⟩ := str e he
        refine ⟨e, he, ?_⟩
        show (strKind X.prog X.w).is (strOf e.2) e.2 = true
        rw [hz]
        exact strKind_is _ _ _ _
      · rintro ⟨e, he, hk⟩
        obtain ⟨t, ht⟩ := Value.isStrOf_shape hk
        exact ⟨e, he, by show strOf e.2 = j; rw [ht]; rfl⟩
    have few : (ys.map V.str).length ≤ sizeLine := by rw [List.length_map, hpm.length_eq, List.length_map, List.length_map, Array.length_toList, T.sz, sizeLine_eq]; omega
    have new : H1 p = none := I2.hok.fresh hp
    have J : Inv X pins σ (upd H1 p (.lst (ys.map V.str))) y := I2.call' (ch := []) os (Un.laid k hp new) (I2.hok.laid k hp ⟨few, us, c, vals_of_strs hS2, hg⟩) (by rw [gens]; exact I2.bare) (fun _ z => nomatch z)
    exact ⟨.ref p, _, J, rfl, q1 p ys hs (hpm.nodup_iff.mpr nd) mem new⟩
end
/-! ### sorted rows of texts -/
abbrev LeS (x y : Str) : Prop := x.cps.toList ≤ y.cps.toList
theorem leS_anti {x y : Str} (h : LeS x y) (g : LeS y x) : x = y := by
  have e : x.cps.toList = y.cps.toList := List.le_antisymm h g
  cases x
  cases y
  exact congrArg Str.mk (Array.toList_inj.mp e)
theorem ris_pair : ∀ (l : List Str) (x : Str), risingS x l = true → (x :: l).Pairwise LeS
  | [], x, _ => List.pairwise_singleton _ _
  | y :: l, x, h => by
    have h : (!ltCps y.cps.toList x.cps.toList && risingS y l) = true := h
    rw [Bool.and_eq_true, ltCps_eq] at h
    have h1 : LeS x y := List.not_lt.mp (by simpa using h.1)
    have ih := ris_pair l y h.2
    refine List.pairwise_cons.mpr ⟨fun z hz => ?_, ih⟩
    rcases List.mem_cons.mp hz with rfl | hz
    · exact h1
    · exact List.le_trans h1 ((List.pairwise_cons.mp ih).1 z hz)
theorem srt_pair {l : List Str} (h : sortedS l = true) : l.Pairwise LeS := by
  cases l with
  | nil => exact .nil
  | cons x l => exact ris_pair l x h
theorem srt_uniq {xs ys : List Str} (h : sortedS xs = true) (g : sortedS ys = true) (p : xs.Perm ys) : xs = ys :=
  p.eq_of_pairwise (fun a b _ _ => leS_anti) (srt_pair h) (srt_pair g)
theorem perm_of_mem : ∀ {xs ys : List Str}, xs.Nodup → ys.Nodup → (∀ x, x ∈ xs ↔ x ∈ ys) → xs.Perm ys := fun h g e => (List.perm_ext_iff_of_nodup h g).mpr e
end My

set_option Elab.async false
set_option linter.all false
set_option maxRecDepth 100000
set_option maxHeartbeats 2000000
namespace My
open PySem PySem.Spec PyProof.Rows L2 LiI
/-! ### tuple(d.items()) -/
section
variable {prog : Program} {w : World} {κ : Type} [DecidableEq κ] {kd : KeyKind prog w κ} {A : Around} {E : Value → Shared → Prop} {s : Shared} {r d : Addr} {kvs : List (κ × Value)} {ep : Nat}
theorem mkTupItems {Qn : Value → Shared → Prop} (hh : A.handled = none) (hv : s.heap.IsItemsView r d) (hm : s.heap.DictAt kd d kvs ep) (hn : kvs.length ≤ sizeLine)
    (hQ : ∀ (h' : Heap) (tk : Nat) (ts : List Addr), (∀ b o, s.heap.get? b = some o → h'.get? b = some o) → ts.length = kvs.length → PySem.W.KdxG kd kvs s.heap.objs.size h' ts → Qn (.ref h'.objs.size) { s with heap := h'.push { cls := .type "tuple", data := .seq (ts.map Value.ref).toArray }, toks := tk }) :
    codeAny (model prog w) A (.call (.builtin "tuple.__new__") ⟨[.type "tuple", .ref r], []⟩) (wants Qn E) s := by
  have fit := F.newCall_tuple_1 (.ref r)
  refine codeAny_of_tree (wpAny_bind (wpAny_of_eq fit (wpAny_pure ⟨plainId_quiet F.plain_tuple_new _, codeAny_builtin F.entry_tuple_new (by
    rw [Around.under_plainId F.plain_tuple_new _]
    have q1 := sub_tuple_self
    have q2 := init_tuple_lookup
    have q3 := madeHere_tuple
    have q4 : s.TypeIs (.ref r) "dict_items" := hv.typeIs
    wp_walk using wpAny_typeOf q4, PySem.W.kdx_collect (A := A.in1) (kvs := kvs) (ep := ep) (show A.in1.handled = none from hh) hv hm hn
    intro h' tk ts hk hl hG
    show wpAny _ _ (Builtin.Tuple.tupleExact (ts.map Value.ref).toArray >>= fun v => ret v) _ _ _
    unfold Builtin.Tuple.tupleExact
    exact wpAny_bind (wpAny_newObj_type (wpAny_pure (hQ h' tk ts hk hl hG)) (by show (ts.map Value.ref).toArray.size ≤ sizeLine; rw [List.size_toArray, List.length_map, hl]; exact hn)))⟩)))
theorem callTupItems {Q : Value → Shared → Prop} (hh : A.handled = none) (hv : s.heap.IsItemsView r d) (hm : s.heap.DictAt kd d kvs ep) (hn : kvs.length ≤ sizeLine)
    (hQ : ∀ (h' : Heap) (tk : Nat) (ts : List Addr), (∀ b o, s.heap.get? b = some o → h'.get? b = some o) → ts.length = kvs.length → PySem.W.KdxG kd kvs s.heap.objs.size h' ts → Q (.ref h'.objs.size) { s with heap := h'.push { cls := .type "tuple", data := .seq (ts.map Value.ref).toArray }, toks := tk }) :
    wpAny (model prog w) A (call (.type "tuple") [.ref r]) Q E s :=
  callType_codes (Q₁ := fun ob z => z.TypeIs ob "tuple" ∧ Q ob z) F.called_tuple (F.typeCall_tuple_1 _) F.entry_object_init (mkTupItems (A := A.in1) hh hv hm hn fun h' tk ts hk hl hG => ⟨⟨_, Heap.get?_push_size _ rfl, rfl⟩, hQ h' tk ts hk hl hG⟩)
    fun ob z h => ⟨h.1, F.args_object_init_2 ob _, object_init_meets F.called_tuple.init.lookup F.called_tuple.made (by decide) prog w A.in1 _ z ⟨h.1, rfl, h.2⟩⟩
end
def rItemsT : V → Hp → VK → Prop := fun x H Q => ∃ (d : Addr) (kvs : List (Key × V)), x = .ref d ∧ H d = some (.dK kvs) ∧
  ∀ (H' : Hp) (p : Addr) (ts : List Addr), (∀ b o, H b = some o → H' b = some o) → H' p = some (.tup (ts.map V.ref)) → Paired (fun (t : Addr) (q : Key × V) => H' t = some (.tup [kV q.1, q.2])) ts kvs → Q (.ref p) H'
def tTupItems (te : TE) : TE := fun σ H Q => te σ H fun x H1 => rItemsT x H1 Q
section
variable {X : Cx} {e : Expr} {te : TE} {p apos cpos pos : Pos}
theorem tup_laid {pins : List (Addr × Obj)} {σ : L2.St} {H : Hp} {s : Shared} {h' : Heap} {tk : Nat} {kvs : List (Key × V)} {vs : List (Key × Value)} {ts : List Addr} (I : Inv X pins σ H s) (hz : kvs.length ≤ sizeLine) (kv : KV kvs vs)
    (hk : ∀ b o, s.heap.get? b = some o → h'.get? b = some o) (hl : ts.length = vs.length) (hG : PySem.W.KdxG (mixKind X.prog X.w) vs s.heap.objs.size h' ts) {b0 : Addr} {o0 : Obj} (ho0 : s.heap.get? b0 = some o0) (hb0 : s.heap.objs.size = b0 + 1) :
    ∃ H' : Hp, (∀ b o, H b = some o → H' b = some o) ∧ H' h'.objs.size = some (.tup (ts.map V.ref)) ∧ Paired (fun (t : Addr) (q : Key × V) => H' t = some (.tup [kV q.1, q.2])) ts kvs ∧ Inv X pins σ H' { s with heap := h'.push { cls := .type "tuple", data := .seq (ts.map Value.ref).toArray }, toks := tk } := by
  have lk : kvs.length = vs.length := Paired.length kv
  have bt : ∀ t ∈ ts, t < h'.objs.size := fun t ht => hG.there ht
  have nT : h'.objs.size ∉ ts := fun z => Nat.lt_irrefl _ (bt _ z)
  have nd : ts.Nodup := List.Pairwise.imp (fun {a b} (h : a < b) => Nat.ne_of_lt h) hG.rise
  have new : ∀ t ∈ ts, H t = none := fun t ht => I.hok.fresh (Nat.le_of_lt (hG.above t ht))
  have up : s.heap.objs.size ≤ h'.objs.size := by
    rw [hb0]
    exact Heap.lt_size (hk b0 o0 ho0)
  have newT : H h'.objs.size = none := I.hok.fresh up
  let HT : Hp := upd (putT H ts kvs) h'.objs.size (.tup (ts.map V.ref))
  have atT : HT h'.objs.size = some (.tup (ts.map V.ref)) := upd_same
  have atP : Paired (fun (t : Addr) (q : Key × V) => HT t = some (.tup [kV q.1, q.2])) ts kvs := by
    have base := putT_at ts kvs H (by omega) nd
    have go : ∀ {as : List Addr} {qs : List (Key × V)}, Paired (fun (t : Addr) (q : Key × V) => putT H ts kvs t = some (.tup [kV q.1, q.2])) as qs → (∀ t ∈ as, t ∈ ts) → Paired (fun (t : Addr) (q : Key × V) => HT t = some (.tup [kV q.1, q.2])) as qs := by
      intro as qs h
      induction h with
      | nil => exact fun _ => .nil
      | cons h1 h2 ih =>
        intro hm
        refine .cons ?_ (ih fun t ht => hm t (List.mem_cons_of_mem _ ht))
        show upd (putT H ts kvs) h'.objs.size _ _ = _
        rw [upd_ne (fun z => nT (by rw [← z]; exact hm _ List.mem_cons_self))]
        exact h1
    exact go base fun t ht => ht
  have off : ∀ b, b ∉ ts → b ≠ h'.objs.size → HT b = H b := fun b h1 h2 => by
    show upd (putT H ts kvs) h'.objs.size _ b = _
    rw [upd_ne h2, putT_off ts kvs _ h1]
  have low : ∀ b o, s.heap.get? b = some o → b ∉ ts ∧ b ≠ h'.objs.size := fun b o e => ⟨fun z => absurd (Heap.lt_size e) (Nat.not_lt.mpr (Nat.le_of_lt (hG.above b z))), Nat.ne_of_lt (Heap.lt_size (hk b o e))⟩
  have kp : ∀ b u, H b = some u → HT b = some u := fun b u e => by
    rw [off b (fun z => by rw [new b z] at e; cases e) (fun z => by rw [z, newT] at e; cases e)]
    exact e
  have hk2 : ∀ b o, s.heap.get? b = some o → (h'.push { cls := .type "tuple", data := .seq (ts.map Value.ref).toArray }).get? b = some o := fun b o e => Heap.get?_push_of_some _ (hk b o e)
  refine ⟨HT, kp, atT, atP, ?_⟩
  refine I.call' (ch := []) rfl ⟨fun b o q _ _ _ => hk2 b o q, fun b o q _ _ _ => ⟨o.slots, hk2 b o q⟩, fun b o q n _ => ?_, fun b o q _ => ⟨o, hk2 b o q⟩, fun b xs q => kp b _ q, fun b o u q => kp b _ q, fun b ps q => ⟨#[], by rw [kp b _ q]; simp⟩⟩ (fun b u q => ?_) I.bare fun b z => by simp at z
  · obtain ⟨z1, z2⟩ := low b o q
    rw [off b z1 z2]
    exact n
  · by_cases hb : b ∈ ts
    · obtain ⟨j, pk, e1, e2, e3⟩ := paired_ix atP hb
      rw [e3] at q
      cases q
      obtain ⟨key, k, x, f1, f2, f3⟩ := hG.pairs j b e1
      obtain ⟨qv, g1, g2, g3⟩ := L2.paired_get kv e2
      rw [f1] at g1
      cases g1
      have rk : RelV (kV pk.1) key := by
        rw [g2]
        exact relV_key (show keyIs k key = true from f2)
      exact ⟨by show 2 ≤ sizeLine; decide, [key, x], .cons rk (.cons g3 .nil), ⟨_, Heap.get?_push_of_some _ f3, rfl, _, rfl⟩⟩
    · by_cases hb2 : b = h'.objs.size
      · rw [hb2] at q ⊢
        rw [atT] at q
        cases q
        exact ⟨by rw [List.length_map]; omega, ts.map Value.ref, L2.vals_refs ts, ⟨_, Heap.get?_push_size _ rfl, rfl, _, rfl⟩⟩
      · rw [off b hb hb2] at q
        exact (I.hok b u q).stay (fun d v _ y => hk2 d v y) (fun d y => kp d _ y) fun d xs y => kp d _ y
/-- tuple(e.items()) -/
theorem pe_tupItems (hc : X.calm = true) (he : PE X e te) (hg : Gl X "tuple") (hm : X.mg "tuple" = none) (hv : bootBuiltins "tuple" = some (.type "tuple")) (hbase : attributeBase e "items" X.env (eval e X.env) = eval e X.env := by rfl) (hline : (apos.endLine == cpos.line) = true := by rfl)
    (hs : starEach [.Call (.Attribute e "items" apos) [] [] cpos] X.env = (false, eval (.Call (.Attribute e "items" apos) [] [] cpos) X.env) :: starEach [] X.env := by rfl) :
    PE X (.Call (.Name "tuple" p) [.Call (.Attribute e "items" apos) [] [] cpos] [] pos) (tTupItems te) := by
  refine ⟨fun pins s σ H Q I hq => wpAny_Call_Name_kw (ld_blt I hg hm hv (PyProof.Rows.callWith_type1 (by
    rw [hs]
    show wpAny _ _ (spliced ((false, eval (.Call (.Attribute e "items" apos) [] [] cpos) X.env) :: backTo pos (starEach [] X.env))) _ _ s
    refine Calls.spliced_cons (wpAny_Call_method (T := "dict") (id := "dict.items") hbase rfl hline F.plainAttrs_dict F.slot_dict_items F.type_dict_items (thn (he.run pins s σ H _ I hq) fun u s1 ⟨x, H1, I1, rx, d, kvs, ex, hd, q⟩ => ?_))
    subst ex
    obtain rfl : u = Value.ref d := rx
    obtain ⟨hz, hs0, vs, kv, hdo⟩ := I1.hok d _ hd
    obtain ⟨ep, hat⟩ := hdo.dictAt
    have lk : kvs.length = vs.length := Paired.length kv
    have I2 : Inv X pins σ H1 { s1 with heap := s1.heap.push { cls := .type "dict_items", data := .fields #[.ref d] } } := I1.kept (t' := s1.toks) fun b ob q => Heap.get?_push_of_some _ q
    refine ⟨hdo.typeIs, hdo.mapOf.noDict, ?_⟩
    show wpAny _ _ (callWith cpos (.builtin "dict.items") [.ref d] [] []) _ X.xe s1
    refine method_meetsIn F.slot_dict_items F.entry_dict_items rfl (PySem.evalArgs_none ⟨rfl, hdo.typeIs, F.args_dict_items_1 _, _, meets_dict_items (mixKind X.prog X.w) d hs0, ⟨vs, hdo⟩, Calls.spliced_nil ?_⟩)
    refine callTupItems (kd := mixKind X.prog X.w) (kvs := vs) (ep := ep) (I1.ok.hd hc) ⟨_, Heap.get?_push_size _ rfl, rfl, rfl⟩ (hat.push _) (by omega) fun h' tk ts hk hl hG => ?_
    obtain ⟨H', k1, k2, k3, J⟩ := tup_laid (tk := tk) I2 hz kv hk hl hG (Heap.get?_push_size _ rfl) (Heap.size_push _ _)
    exact ⟨.ref _, H', J, rfl, q H' _ ts k1 k2 k3⟩) hs rfl))⟩
end
end My

set_option Elab.async false
set_option linter.all false
namespace My
open PySem L2 Evl
/-- a value of an object, by the fragment's name (for elements of own lists) -/
theorem pe_fldK {X : Cx} {K : PySem.W.Frag} {e : Expr} {f : Str} {pos : Pos} {ta : TE} (hK : X.K = K) (he : PE X e ta) (hb : attributeBase e f X.env (eval e X.env) = eval e X.env) : PE X (.Attribute e f pos) (tFld K ta f) := by
  subst hK
  exact pe_fld he hb
end My

set_option Elab.async false
set_option linter.all false
set_option maxRecDepth 100000
namespace My
open PySem PySem.Spec PyProof.Rows L2
/-! ### a list of texts, how often; a comparison of four parts -/
section
variable {X : Cx}
theorem strs_are {K : PySem.W.Frag} : ∀ {ys : List Str} {us : List Value}, L2.Vals (ys.map V.str) us → StrsAre us ys
  | [], _, h => by cases h; exact .nil
  | y :: ys, _, h => by
    cases h with
    | cons r t =>
      obtain ⟨k, rfl⟩ := r
      exact .cons y k (strs_are (K := K) t)
theorem countIn_str (k : Str) (ys : List Str) : countIn (.str k) (ys.map PyData.str) = ((ys.count k : Nat) : Int) := by
  induction ys with
  | nil => rfl
  | cons y ys ih =>
    rw [List.map_cons, countIn, ih, List.count_cons]
    simp only [same]
    rcases Bool.eq_false_or_eq_true (y == k) with hb | hb <;> simp only [hb, Bool.false_eq_true, if_true, if_false] <;> push_cast <;> omega
def rCntS (K : PySem.W.Frag) : V → List V → Hp → VK → Prop := fun x xs H Q => ∃ (p : Addr) (ys : List Str) (k : Str), x = .ref p ∧ xs = [.str k] ∧ SqL K H p (ys.map V.str) ∧ Q (.int (ys.count k : Nat)) H
theorem mt_lcountS : MtR X "list.count" (rCntS X.K) := by
  intro pins s σ H x xs v us Q I rx rxs h
  obtain ⟨p, ys, k, rfl, rfl, hs, q⟩ := h
  cases rx
  obtain ⟨u, rfl, ru⟩ := rxs.one
  obtain ⟨t, rfl⟩ := ru
  obtain ⟨its, rv, ⟨ob, n, ho, hc, hdn, hd⟩, hlen⟩ := I.list hs
  refine count_list_strs (vs := its) ⟨ob, ho, hc, n, hd⟩ (strs_are (K := X.K) rv) ?_
  rw [countIn_str]
  exact ⟨.int (ys.count k : Nat), H, I.tok _, ⟨s.toks, rfl⟩, q⟩
end
section
variable {X : Cx}
/-- str of a text or of an int -/
theorem call_str_opd : CallR X (.type "str") (fun xs H Q => (∃ a, xs = [.str a] ∧ Q (.str a) H) ∨ ∃ i, xs = [.int i] ∧ i.natAbs.log2 < 1920 ∧ Q (.str (Str.ofString (toString i))) H) := by
  intro pins s σ H xs us Q I rs h
  rcases h with h | h
  · exact SkE.call_str_str pins s σ H xs us Q I rs h
  · exact call_str_int pins s σ H xs us Q I rs h
/-- over a list or a tuple -/
def iSeq (K : PySem.W.Frag) (tl : TE) : TI := fun σ H R => tl σ H fun x H1 => ∃ a, x = .ref a ∧ (((∃ xs, SqL K H1 a xs) ∧ R (Itl K a) H1) ∨ ((∃ xs, SqT K H1 a xs) ∧ R (Itt K a) H1))
theorem pi_seq {tg l : Expr} {tl : TE} (hl : PE X l tl) : PI X tg l (iSeq X.K tl) := by
  refine ⟨fun pins s σ H R I h => ?_⟩
  refine thn (hl.run pins s σ H _ I h) fun v s1 ⟨x, H1, I1, r1, q1⟩ => ?_
  obtain ⟨a, e, q1⟩ := q1
  subst e
  cases r1
  rcases q1 with ⟨⟨xs, hq⟩, q⟩ | ⟨⟨xs, hq⟩, q⟩
  · obtain ⟨its, rv, p, hz⟩ := I1.list hq
    refine wpAny_pyIter_list p.isList ?_
    refine ⟨s1.heap.objs.size, [s1.heap.objs.size], _, _, H1, rfl, I1.kept (t' := s1.toks) fun b o e => Heap.get?_push_of_some _ e, turn_list a _, ⟨_, Heap.get?_push_size _ rfl, rfl, rfl⟩, fun b hb => ?_, q⟩
    have e : b = s1.heap.objs.size := by simpa using hb
    subst e
    exact I1.fpOk (Nat.le_refl _) (I1.hok.fresh (Nat.le_refl _))
  · obtain ⟨its, rv, p, hz⟩ := I1.tuple hq
    refine wpAny_pyIter_tuple (show s1.heap.IsTuple a its.toArray from p) ?_
    refine ⟨s1.heap.objs.size, [s1.heap.objs.size], _, _, H1, rfl, I1.kept (t' := s1.toks) fun b o e => Heap.get?_push_of_some _ e, turn_tuple a _, ⟨_, Heap.get?_push_size _ rfl, rfl, rfl⟩, fun b hb => ?_, q⟩
    have e : b = s1.heap.objs.size := by simpa using hb
    subst e
    exact I1.fpOk (Nat.le_refl _) (I1.hok.fresh (Nat.le_refl _))
end
section
variable {X : Cx} {a b c d : Expr} {ta tb tc td : TE} {pos : Pos}
/-- a op1 b op2 c op3 d -/
def tChain3 (r r' r'' : R2) (ta tb tc td : TE) : TE := fun σ H Q => ta σ H fun x H1 => tb σ H1 fun y H2 => r x y H2 fun z H3 => ∃ k, z = .bl k ∧
  (if k = true then tc σ H3 fun w' H4 => r' y w' H4 fun z' H5 => ∃ k', z' = .bl k' ∧ (if k' = true then td σ H5 fun w2 H6 => r'' w' w2 H6 Q else Q (.bl false) H5) else Q (.bl false) H3)
theorem pe_chain3 {op op' op'' : CmpOp} {r r' r'' : R2} (ho : OpR X (compareOp op) r) (ho' : OpR X (compareOp op') r') (ho'' : OpR X (compareOp op'') r'') (ha : PE X a ta) (hb : PE X b tb) (hc : PE X c tc) (hd : PE X d td)
    (hm : lastMarks [op, op', op''] [b, c, d] = false := by with_unfolding_all rfl) : PE X (.Compare a [op, op', op''] [b, c, d] pos) (tChain3 r r' r'' ta tb tc td) := by
  refine ⟨fun pins s σ H Q I h => ?_⟩
  refine Compare_chain (thn (ha.run pins s σ H _ I h) fun v s1 ⟨x, H1, I1, r1, q1⟩ => chain_link (thn (hb.run pins s1 σ H1 _ I1 q1) fun u s2 ⟨y, H2, I2, r2, q2⟩ =>
    thn (ho pins s2 σ H2 x y v u _ I2 r1 r2 q2) fun e s3 ⟨z, H3, I3, r3, k, ek, q3⟩ => ?_)) hm
  subst ek
  cases r3
  refine wpAny_truthy_bool ?_
  cases k with
  | false => exact ite_ff ⟨.bl false, H3, I3, rfl, q3⟩
  | true =>
    refine ite_tt (chain_link (thn (hc.run pins s3 σ H3 _ I3 q3) fun w' s4 ⟨z', H4, I4, r4, q4⟩ => thn (ho' pins s4 σ H4 y z' u w' _ I4 r2 r4 q4) fun e s5 ⟨z2, H5, I5, r5, k', ek', q5⟩ => ?_))
    subst ek'
    cases r5
    refine wpAny_truthy_bool ?_
    cases k' with
    | false => exact ite_ff ⟨.bl false, H5, I5, rfl, q5⟩
    | true => exact ite_tt (chain_last (thn (hd.run pins s5 σ H5 _ I5 q5) fun w2 s6 ⟨z3, H6, I6, r6, q6⟩ => ho'' pins s6 σ H6 z' z3 w' w2 Q I6 r4 r6 q6))
end
end My

set_option Elab.async false
set_option maxRecDepth 100000
set_option maxHeartbeats 1000000
namespace My
open PySem L2 Evl
/-! ### data -/
theorem pw400 {b i : Nat} (hb : b ≤ 10) (hi : i ≤ 100) : b ^ i < 2 ^ 400 := by
  have h1 : b ^ i ≤ 10 ^ i := Nat.pow_le_pow_left hb i
  have h2 : 10 ^ i ≤ 10 ^ 100 := Nat.pow_le_pow_right (by decide) hi
  have h3 : 10 ^ 100 < 2 ^ 400 := by decide +kernel
  omega
theorem wm {i j : Int} (ha : i.natAbs < 2 ^ 5000) (hb : j.natAbs < 2 ^ 5000) : CMulW i j := wide_mul ha hb (by decide) (by decide) (by decide)
theorem wd {i j : Int} (h : 0 < j) (hb : j.natAbs < 2 ^ 5000) : CDivW i j := wide_div h hb (by decide) (by decide)
theorem p5000 {n k : Nat} (h : n < 2 ^ k) (hk : k ≤ 5000 := by decide) : n < 2 ^ 5000 := Nat.lt_of_lt_of_le h (Nat.pow_le_pow_right (by decide) hk)
def gfl (b f r p u : Int) (lim tops : Addr) (G : Int) : List (Str × V) :=
  putF "greatest" (.int G) (putF "tops" (.ref tops) (putF "limits" (.ref lim) (putF "unit" (.int u) (putF "places" (.int p) (putF "reach" (.int r) (putF "figures" (.int f) (putF "base" (.int b) [])))))))
section
variable {b f r p u G : Int} {lim tops : Addr}
theorem gfl_base : (gfl b f r p u lim tops G).lookup ("base" : Str) = some (.int b) := by
  unfold gfl
  repeat (first | rw [lookup_putF, if_pos (by decide +kernel)] | rw [lookup_putF, if_neg (by decide +kernel)])
theorem gfl_limits : (gfl b f r p u lim tops G).lookup ("limits" : Str) = some (.ref lim) := by
  unfold gfl
  repeat (first | rw [lookup_putF, if_pos (by decide +kernel)] | rw [lookup_putF, if_neg (by decide +kernel)])
theorem gfl_tops : (gfl b f r p u lim tops G).lookup ("tops" : Str) = some (.ref tops) := by
  unfold gfl
  repeat (first | rw [lookup_putF, if_pos (by decide +kernel)] | rw [lookup_putF, if_neg (by decide +kernel)])
theorem gfl_greatest : (gfl b f r p u lim tops G).lookup ("greatest" : Str) = some (.int G) := by
  unfold gfl
  rw [lookup_putF, if_pos (by decide +kernel)]
end
/-- a Grid stands at g -/
structure GridAt (a : Ad) (H : Hp) (g : Addr) (b f r L G : Nat) : Prop where
  gr : Gr b f r L G
  ub : b ≤ 10
  uf : f ≤ 30
  ur : r ≤ 60
  ob : ∃ (dx lim tops : Addr) (p u : Int) (xs ys : List V), H g = some (.ins a.Grid dx (gfl b f r p u lim tops G)) ∧ H lim = some (.tup xs) ∧ H tops = some (.tup ys) ∧
    (∀ m : Nat, m ≤ 3 → xs[m]? = some (.int ((b ^ (f + m) : Nat) : Int))) ∧ (∀ m : Nat, m ≤ 3 → ys[m]? = some (.int (((b ^ (f + m) - 1) * b ^ r : Nat) : Int)))
theorem GridAt.mono {a : Ad} {H H' : Hp} {g : Addr} {b f r L G : Nat} (e : Ex H H') (h : GridAt a H g b f r L G) : GridAt a H' g b f r L G := by
  obtain ⟨h1, h2, h3, h4, dx, lim, tops, p, u, xs, ys, h5, h6, h7, h8⟩ := h
  exact ⟨h1, h2, h3, h4, dx, lim, tops, p, u, xs, ys, e _ _ h5, e _ _ h6, e _ _ h7, h8⟩
theorem GridAt.bG {a : Ad} {H : Hp} {g : Addr} {b f r L G : Nat} (h : GridAt a H g b f r L G) : G < 2 ^ 400 := by
  have h1 := h.gr.Gl
  rw [h.gr.eL, ← Nat.pow_add] at h1
  exact Nat.lt_trans h1 (pw400 h.ub (by have := h.uf; have := h.ur; omega))
theorem atN {xs : List V} {m : Nat} {v : V} (h : xs[m]? = some v) : atI xs ((m : Nat) : Int) = some v := at_of rfl h

/-! ### promises of the program's defs -/
def sp_is_whole : Sp := fun vs H Q _ => ∃ n : Int, vs = [.int n] ∧ ∀ H', Ex H H' → Q (.bl true) H'
def sp_is_from_to : Sp := fun vs H Q _ => ∃ v lo hi : Int, vs = [.int v, .int lo, .int hi] ∧ ∀ H', Ex H H' → Q (.bl (decide (lo ≤ v) && decide (v ≤ hi))) H'
def sp_power : Sp := fun vs H Q _ => ∃ b e : Nat, vs = [.int b, .int e] ∧ b ≤ 10 ∧ e ≤ 100 ∧ ∀ H', Ex H H' → Q (.int ((b ^ e : Nat) : Int)) H'
def sp_is_grid (K : PySem.W.Frag) : Sp := fun vs H Q _ => ∃ (t : Addr) (b f r p : Nat), vs = [.ref t] ∧ SqT K H t [.int b, .int f, .int r, .int p] ∧ (2 ≤ b ∧ b ≤ 10 ∧ 1 ≤ f ∧ f ≤ 30 ∧ r ≤ 60 ∧ p ≤ 30) ∧ ∀ H', Ex H H' → Q (.bl true) H'
def sp_spacing_at (a : Ad) : Sp := fun vs H Q _ => ∃ (g : Addr) (b f r L G n m : Nat), vs = [.ref g, .int n, .int m] ∧ GridAt a H g b f r L G ∧ m ≤ 3 ∧ n < 2 ^ 2400 ∧ ∀ H', Ex H H' → Q (.int (spc b (b ^ (f + m)) n : Nat)) H'
def Wy.str : Wy → Str
  | .near => "near"
  | .down => "down"
  | .up => "up"
  | .zero => "zero"
def sp_goes_up : Sp := fun vs H Q _ => ∃ (q m s : Int) (y : Wy), vs = [.int q, .int m, .int s, .str y.str] ∧ m.natAbs < 2 ^ 4900 ∧ ∀ H', Ex H H' → Q (.bl (wup y q m s)) H'
def rgO (y : Wy) (b f r m : Nat) (t : Int) (d : Nat) : V := if (rg y b (b ^ (f + m)) t d).natAbs ≤ (b ^ (f + m) - 1) * b ^ r then .int (rg y b (b ^ (f + m)) t d) else .non
def sp_fitted (a : Ad) : Sp := fun vs H Q _ => ∃ (g : Addr) (b f r L G : Nat) (t : Int) (d m : Nat) (y : Wy), vs = [.ref g, .int t, .int d, .str y.str, .int m] ∧ GridAt a H g b f r L G ∧ 1 ≤ d ∧ d < 2 ^ 2400 ∧ m ≤ 3 ∧ t.natAbs < 2 ^ 2400 ∧ ∀ H', Ex H H' → Q (rgO y b f r m t d) H'
def sp_contains (a : Ad) : Sp := fun vs H Q _ => ∃ (g : Addr) (b f r L G : Nat) (n : Int), vs = [.ref g, .int n] ∧ GridAt a H g b f r L G ∧ OnG b L G n ∧ ∀ H', Ex H H' → Q (.bl true) H'

section
variable {P : Program} {w : World} {K : PySem.W.Frag} {mg : Str → Option Value} {base : Heap} {a : Ad}
theorem ok_is_whole (T : Txt K mg a) : FnOk P w K mg base CX0 1 a.is_whole a.is_whole_fd ["value"] sp_is_whole := by
  refine T.F_is_whole.ok sc_is_whole (fun vs H Q E h => ?_) (fun cdv A outer s H vs Q E hr h => ?_)
  · obtain ⟨n, rfl, _⟩ := h
    rfl
  · obtain ⟨n, rfl, k⟩ := h
    refine ⟨_, (pss_one (ps_ret (pe_and (pe_callB call_isi (by rfl) T.n_isinstance (by decide +kernel) (pa_cons (pv 0) (pa_cons (pe_bltn (v := .ty "int") (u := .type "int") rfl T.n_int (by decide +kernel) rfl) pa_nil))) (pe_one (pe_not (pe_callB call_isi (by rfl) T.n_isinstance (by decide +kernel) (pa_cons (pv 0) (pa_cons (pe_bltn (v := .ty "bool") (u := .type "bool") rfl T.n_bool (by decide +kernel) rfl) pa_nil)))))))), ?_⟩
    refine ⟨_, rfl, _, _, _, _, true, rfl, .ty _, .base (.int n), kit_ty (by decide +kernel), true, rfl, iteT ?_⟩
    refine ⟨_, rfl, _, _, _, _, false, rfl, .ty _, .base (.int n), kit_ty (by decide +kernel), false, rfl, ?_⟩
    exact k H (Ex.refl H)
theorem ok_is_from_to (T : Txt K mg a) : FnOk P w K mg base CX0 2 a.is_from_to a.is_from_to_fd ["value", "low", "high"] sp_is_from_to := by
  refine T.F_is_from_to.ok sc_is_from_to (fun vs H Q E h => ?_) (fun cdv A outer s H vs Q E hr h => ?_)
  · obtain ⟨v, lo, hi, rfl, _⟩ := h
    rfl
  · obtain ⟨v, lo, hi, rfl, k⟩ := h
    refine ⟨_, (pss_one (ps_ret (pe_and (pe_call (ok_is_whole T) (hr.mono (by decide)) rfl T.g_is_whole T.k_is_whole T.B_is_whole .nil pass0 (pa_cons (pv 0) pa_nil)) (pe_one (pe_chain op_le op_le (pv 1) (pv 0) (pv 2)))))), ?_⟩
    refine ⟨_, rfl, v, rfl, fun H' e => ⟨true, rfl, iteT ?_⟩⟩
    refine ⟨_, rfl, _, rfl, _, _, rfl, rfl, _, rfl, ?_⟩
    by_cases h : lo ≤ v
    · rw [if_pos (decide_eq_true h)]
      refine ⟨_, rfl, _, _, rfl, rfl, ?_⟩
      have := k H' e
      rw [decide_eq_true h, Bool.true_and] at this
      exact this
    · rw [if_neg (by simpa using h)]
      have := k H' e
      rw [decide_eq_false h, Bool.false_and] at this
      exact this
theorem ok_power (T : Txt K mg a) : FnOk P w K mg base CX0 1 a.power a.power_fd ["base", "exponent"] sp_power := by
  refine T.F_power.ok sc_power (fun vs H Q E h => ?_) (fun cdv A outer s H vs Q E hr h => ?_)
  · obtain ⟨b, e, rfl, _⟩ := h
    rfl
  · obtain ⟨b, n, rfl, hb, hn, k⟩ := h
    refine ⟨_, (pss_cons (ps_set (i := 2) sc_power.nd rfl (Or.inl rfl) pe_int)
      (pss_cons (ps_for PassesOwn.never rfl (pi_range1 rfl T.n_range (pa_cons (pv 1) pa_nil)) (pg_name (i := 3) sc_power.nd rfl (Or.inl rfl)) (pss_one (ps_set (i := 2) sc_power.nd rfl (Or.inl rfl) (pe_op op_mulW (pv 2) (pv 0)))))
      (pss_one (ps_ret (pv 2))))), ?_⟩
    refine ⟨_, rfl, _, rfl, by omega, by omega, for_range (lo := 0) (n := n) (fun i σ H' => H' = H ∧ ∃ v, σ = [some (.int b), some (.int n), some (.int ((b ^ i : Nat) : Int)), v]) ⟨rfl, none, rfl⟩ ?_ ?_⟩
    · rintro i σ H' hi ⟨rfl, v, rfl⟩
      refine ⟨_, rfl, _, rfl, _, _, rfl, rfl, wm (p5000 (pw400 hb (by omega))) (p5000 (k := 400) (by rw [Int.natAbs_natCast]; exact Nat.lt_of_le_of_lt hb (by decide +kernel))), rfl, some (.int (0 + (i : Int))), ?_⟩
      show [_, _, some (V.int (((b ^ i : Nat) : Int) * (b : Int))), _] = _
      rw [Nat.pow_succ, Int.natCast_mul]
    · rintro σ H' ⟨rfl, v, rfl⟩
      exact ⟨_, rfl, k _ (Ex.refl _)⟩
theorem ok_is_grid (T : Txt K mg a) : FnOk P w K mg base CX0 3 a.is_grid a.is_grid_fd ["told"] (sp_is_grid K) := by
  refine T.F_is_grid.ok sc_is_grid (fun vs H Q E h => ?_) (fun cdv A outer s H vs Q E hr h => ?_)
  · obtain ⟨t, b, f, r, p, rfl, _⟩ := h
    rfl
  · obtain ⟨t, b, f, r, p, rfl, ht, ⟨h1, h2, h3, h4, h5, h6⟩, k⟩ := h
    refine ⟨_, (pss_cons (ps_asg (pv 0) (pg_tup rfl (pgs_cons (pg_name (i := 1) sc_is_grid.nd rfl (Or.inl rfl)) (pgs_cons (pg_name (i := 2) sc_is_grid.nd rfl (Or.inl rfl)) (pgs_cons (pg_name (i := 3) sc_is_grid.nd rfl (Or.inl rfl)) (pgs_cons (pg_name (i := 4) sc_is_grid.nd rfl (Or.inl rfl)) pgs_nil))))))
      (pss_one (ps_ret (pe_and (pe_call (ok_is_from_to T) (hr.mono (by decide)) rfl T.g_is_from_to T.k_is_from_to T.B_is_from_to .nil pass0 (pa_cons (pv 1) (pa_cons pe_int (pa_cons pe_int pa_nil)))) (pe_and (pe_call (ok_is_from_to T) (hr.mono (by decide)) rfl T.g_is_from_to T.k_is_from_to T.B_is_from_to .nil pass0 (pa_cons (pv 2) (pa_cons pe_int (pa_cons (pe_glob (v := .int 30) rfl T.c_MOST_FIGURES.choose_spec ⟨_, rfl⟩) pa_nil)))) (pe_and (pe_call (ok_is_from_to T) (hr.mono (by decide)) rfl T.g_is_from_to T.k_is_from_to T.B_is_from_to .nil pass0 (pa_cons (pv 3) (pa_cons pe_int (pa_cons pe_int pa_nil)))) (pe_one (pe_call (ok_is_from_to T) (hr.mono (by decide)) rfl T.g_is_from_to T.k_is_from_to T.B_is_from_to .nil pass0 (pa_cons (pv 4) (pa_cons pe_int (pa_cons pe_int pa_nil))))))))))), ?_⟩
    refine ⟨_, rfl, t, _, rfl, ht, rfl, _, _, rfl, _, _, rfl, _, _, rfl, _, _, rfl, rfl, ?_⟩
    refine ⟨_, rfl, (b : Int), 2, 10, rfl, fun H1 e1 => ⟨true, ?_, iteT ?_⟩⟩
    · show V.bl (decide ((2 : Int) ≤ b) && decide ((b : Int) ≤ 10)) = _
      rw [decide_eq_true (by omega), decide_eq_true (by omega)]
      rfl
    refine ⟨_, rfl, (f : Int), 1, 30, rfl, fun H2 e2 => ⟨true, ?_, iteT ?_⟩⟩
    · show V.bl (decide ((1 : Int) ≤ f) && decide ((f : Int) ≤ 30)) = _
      rw [decide_eq_true (by omega), decide_eq_true (by omega)]
      rfl
    refine ⟨_, rfl, (r : Int), 0, 60, rfl, fun H3 e3 => ⟨true, ?_, iteT ?_⟩⟩
    · show V.bl (decide ((0 : Int) ≤ r) && decide ((r : Int) ≤ 60)) = _
      rw [decide_eq_true (by omega), decide_eq_true (by omega)]
      rfl
    refine ⟨_, rfl, (p : Int), 0, 30, rfl, fun H4 e4 => ?_⟩
    rw [decide_eq_true (by omega), decide_eq_true (by omega)]
    exact k H4 (((e1.trans e2).trans e3).trans e4)
theorem ok_spacing_at (T : Txt K mg a) : FnOk P w K mg base CX0 1 a.spacing_at a.spacing_at_fd ["grid", "size", "more"] (sp_spacing_at a) := by
  refine T.F_spacing_at.ok sc_spacing_at (fun vs H Q E h => ?_) (fun cdv A outer s H vs Q E hr h => ?_)
  · obtain ⟨g, b, f, r, L, G, n, m, rfl, _⟩ := h
    rfl
  · obtain ⟨g, b, f, r, L, G, n, m, rfl, hg, hm, hn, k⟩ := h
    refine ⟨_, (pss_cons (ps_set (i := 3) sc_spacing_at.nd rfl (Or.inl rfl) pe_int)
      (pss_cons (ps_set (i := 4) sc_spacing_at.nd rfl (Or.inl rfl) (pe_ix ix_tup (pe_fld (pv 0) rfl) (pv 2) (fun _ _ => rfl)))
      (pss_cons (ps_while PassesOwn.never (pt_cmpR op_ge (pv 1) (pv 4) (nomark _)) (pss_cons (ps_set (i := 4) sc_spacing_at.nd rfl (Or.inl rfl) (pe_op op_mulW (pv 4) (pe_fld (pv 0) rfl)))
      (pss_one (ps_set (i := 3) sc_spacing_at.nd rfl (Or.inl rfl) (pe_op op_mulW (pv 3) (pe_fld (pv 0) rfl))))))
      (pss_one (ps_ret (pv 3)))))), ?_⟩
    have hb := hg.gr.hb
    have ub := hg.ub
    have uf := hg.uf
    obtain ⟨dx, lim, tops, p, u, xs, ys, o1, o2, o3, o4, o5⟩ := hg.ob
    refine ⟨_, rfl, g, _, dx, _, _, rfl, o1, T.cl_Grid, T.f_Grid_limits, gfl_limits, _, rfl, lim, xs, _, _, rfl, rfl, SqT.of o2, atN (o4 m hm), ?_⟩
    have hM : 1 ≤ b ^ (f + m) := Nat.pow_pos (by omega)
    have hMl : b ^ (f + m) < 2 ^ 400 := pw400 ub (by omega)
    generalize hMe : b ^ (f + m) = M at *
    refine ⟨fun c σ H' => ∃ k : Nat, H' = H ∧ c = spx b (M * b ^ k) n ∧ spx b M n = k + spx b (M * b ^ k) n ∧ M * b ^ k < 2 ^ 2410 ∧ σ = [some (.ref g), some (.int n), some (.int m), some (.int ((b ^ k : Nat) : Int)), some (.int ((M * b ^ k : Nat) : Int))],
      ⟨_, 0, rfl, rfl, by rw [Nat.pow_zero, Nat.mul_one]; omega, by rw [Nat.pow_zero, Nat.mul_one]; exact Nat.lt_trans hMl (by decide +kernel), by rw [Nat.pow_zero, Nat.mul_one]; rfl⟩, ?_⟩
    rintro c σ H' ⟨k', rfl, rfl, h1, h2, rfl⟩
    have hbk : b ^ k' < 2 ^ 2410 := Nat.lt_of_le_of_lt (Nat.le_mul_of_pos_left _ hM) h2
    refine ⟨_, rfl, _, rfl, _, _, rfl, rfl, _, rfl, ?_⟩
    refine ite2 (fun hc => ?_) (fun hc => ?_)
    · have hc := Int.ofNat_le.mp (of_decide_eq_true hc)
      refine ⟨fun σ' H2 => H2 = H' ∧ σ' = [some (.ref g), some (.int n), some (.int m), some (.int ((b ^ (k' + 1) : Nat) : Int)), some (.int ((M * b ^ (k' + 1) : Nat) : Int))], ?_, ?_⟩
      · rintro σ' H2 ⟨rfl, rfl⟩
        have hpos : 1 ≤ M * b ^ k' := Nat.mul_pos hM (Nat.pow_pos (by omega))
        have hstep : spx b (M * b ^ k') n = 1 + spx b (M * b ^ (k' + 1)) n := by
          rw [Nat.pow_succ, ← Nat.mul_assoc]
          exact spx_ge hb hpos hc
        refine ⟨_, ?_, k' + 1, rfl, rfl, by omega, ?_, rfl⟩
        · omega
        · rw [Nat.pow_succ, ← Nat.mul_assoc]
          have : M * b ^ k' * b ≤ n * 10 := Nat.mul_le_mul hc ub
          have h10 : 2 ^ 2400 * 10 ≤ 2 ^ 2410 := by decide +kernel
          omega
      · refine ⟨_, rfl, _, rfl, g, _, dx, _, _, rfl, o1, T.cl_Grid, T.f_Grid_base, gfl_base, _, _, rfl, rfl, wm (p5000 h2) (p5000 (k := 400) (by rw [Int.natAbs_natCast]; exact Nat.lt_of_le_of_lt ub (by decide +kernel))), ?_⟩
        refine ⟨_, rfl, _, rfl, g, _, dx, _, _, rfl, o1, T.cl_Grid, T.f_Grid_base, gfl_base, _, _, rfl, rfl, wm (p5000 hbk) (p5000 (k := 400) (by rw [Int.natAbs_natCast]; exact Nat.lt_of_le_of_lt ub (by decide +kernel))), rfl, ?_⟩
        show [_, _, _, some (V.int (((b ^ k' : Nat) : Int) * (b : Int))), some (V.int (((M * b ^ k' : Nat) : Int) * (b : Int)))] = _
        rw [Nat.pow_succ, ← Nat.mul_assoc, Int.natCast_mul (M * b ^ k') b, Int.natCast_mul (b ^ k') b]
    · have hc : ¬ ((M * b ^ k' : Nat) : Int) ≤ (n : Int) := fun z => hc (decide_eq_true z)
      refine ⟨_, rfl, ?_⟩
      have h0 : spx b (M * b ^ k') n = 0 := spx_lt (by omega)
      have : spc b M n = b ^ k' := by
        unfold spc
        rw [h1, h0, Nat.add_zero]
      rw [← this]
      exact k _ (Ex.refl _)
end
end My


set_option Elab.async false
set_option maxRecDepth 100000
set_option maxHeartbeats 1000000
set_option exponentiation.threshold 6000
namespace My
open PySem L2 Evl
def iv (xs : List Int) : List V := xs.map V.int
def sp_rounded_parts (a : Ad) : Sp := fun vs H Q _ => ∃ (g : Addr) (b f r L G : Nat) (t : Int), vs = [.ref g, .int t] ∧ GridAt a H g b f r L G ∧ t.natAbs ≤ G ∧ ∀ p H', Ex H H' → H' p = some (.tup (iv (row b L t))) → Q (.ref p) H'
def sp_check_reached (a : Ad) : Sp := fun vs H Q _ => ∃ (g : Addr) (b f r L G : Nat) (t : Int), vs = [.ref g, .int t] ∧ GridAt a H g b f r L G ∧ t.natAbs ≤ G ∧ ∀ H', Ex H H' → Q .non H'
def sp_product_row (a : Ad) : Sp := fun vs H Q _ => ∃ (g : Addr) (b f r L G : Nat) (x y : Int), vs = [.ref g, .int x, .int y] ∧ GridAt a H g b f r L G ∧ OnG b L G x ∧ OnG b L G y ∧
  (G < (x * y).natAbs → ∀ H', Ex H H' → Q .non H') ∧ ((x * y).natAbs ≤ G → ∀ p H', Ex H H' → H' p = some (.tup (iv (row b L (x * y)))) → Q (.ref p) H')
def sp_is_numbers (a : Ad) : Sp := fun vs H Q _ => ∃ (g : Addr) (b f r L G : Nat) (t : Addr) (xs : List Int), vs = [.ref g, .ref t] ∧ GridAt a H g b f r L G ∧ H t = some (.tup (iv xs)) ∧ xs.length ≤ 1000 ∧ (∀ x ∈ xs, OnG b L G x) ∧ ∀ H', Ex H H' → Q (.bl true) H'
def sp_is_row (a : Ad) : Sp := fun vs H Q _ => ∃ (g : Addr) (b f r L G : Nat) (t : Addr) (xs : List Int), vs = [.ref g, .ref t] ∧ GridAt a H g b f r L G ∧ H t = some (.tup (iv xs)) ∧ xs.length ≤ 100 ∧ (∀ x ∈ xs, OnG b L G x) ∧ ∀ H', Ex H H' → Q (.bl true) H'
def sp_shows_shortest (a : Ad) : Sp := fun vs H Q _ => ∃ (g : Addr) (b f r L G : Nat) (t : Int) (p : Addr), vs = [.ref g, .int t, .ref p] ∧ GridAt a H g b f r L G ∧ t.natAbs ≤ G ∧ H p = some (.tup (iv (row b L t))) ∧ (row b L t).length ≤ 100 ∧ ∀ H', Ex H H' → Q (.bl true) H'
def UnitAt (a : Ad) (H : Hp) (g : Addr) (b pl : Nat) : Prop := ∃ (dx lim tops : Addr) (b' f r G : Int), H g = some (.ins a.Grid dx (gfl b' f r ((pl : Nat) : Int) ((b ^ pl : Nat) : Int) lim tops G))
theorem UnitAt.mono {a : Ad} {H H' : Hp} {g : Addr} {b pl : Nat} (h : UnitAt a H g b pl) (e : Ex H H') : UnitAt a H' g b pl := by
  obtain ⟨dx, lim, tops, b', f, r, G, h⟩ := h
  exact ⟨dx, lim, tops, b', f, r, G, e _ _ h⟩
def sp_init (a : Ad) : Sp := fun vs H Q _ => ∃ (p dx : Addr) (b f r pl : Nat), vs = [.ref p, .int b, .int f, .int r, .int pl] ∧ H p = some (.ins a.Grid dx []) ∧ (2 ≤ b ∧ b ≤ 10 ∧ 1 ≤ f ∧ f ≤ 30 ∧ r ≤ 60 ∧ pl ≤ 30) ∧
  ∀ H', (∀ c o, H c = some o → c ≠ p → H' c = some o) → GridAt a H' p b f r (b ^ f) ((b ^ f - 1) * b ^ r) → UnitAt a H' p b pl → Q .non H'
theorem G1 {b f r L G : Nat} (h : Gr b f r L G) : b ^ (f + 0) = L := by rw [Nat.add_zero, h.eL]
theorem absI (t : Int) : (if t < 0 then -t else t) = (t.natAbs : Int) := by split <;> omega
theorem spc_lt {b L n : Nat} (hb : 2 ≤ b) (hL : 1 ≤ L) : spc b L n ≤ n * b + 1 := by
  unfold spc
  by_cases h : spx b L n = 0
  · rw [h, Nat.pow_zero]; omega
  · have h1 := spx_low (n := n) hb (spx b L n - 1) L hL (by omega)
    have h2 : b ^ spx b L n = b ^ (spx b L n - 1) * b := by
      rw [← Nat.pow_succ]
      congr 1
      omega
    have h3 : b ^ (spx b L n - 1) ≤ n := Nat.le_trans (Nat.le_mul_of_pos_left _ hL) h1
    rw [h2]
    exact Nat.le_trans (Nat.mul_le_mul_right _ h3) (Nat.le_succ _)
theorem spc_sz {b L n : Nat} (hb : 2 ≤ b) (ub : b ≤ 10) (hL : 1 ≤ L) (hn : n < 2 ^ 2400) : spc b L n < 2 ^ 2410 := by
  have h1 := spc_lt (n := n) hb hL
  have h2 : n * b ≤ n * 10 := Nat.mul_le_mul_left n ub
  have h10 : 2 ^ 2400 * 10 + 1 < 2 ^ 2410 := by decide +kernel
  omega
theorem quo_sz {t s : Int} {k : Nat} (hs : 0 < s) (h : t.natAbs < 2 ^ k) : (t / s).natAbs < 2 ^ k + 1 := by
  have h1 := Int.natAbs_ediv_le_natAbs t s
  omega
theorem quo_sz' {t s : Int} (hs : 0 < s) (h : t.natAbs < 2 ^ 2400) : (t / s).natAbs < 2 ^ 2401 ∧ (t / s + 1).natAbs < 2 ^ 2401 := by
  have h1 := quo_sz hs h
  have h2 : 2 ^ 2400 + 2 < 2 ^ 2401 := by decide +kernel
  omega
theorem mod_sz {t s : Int} {k : Nat} (hs : 0 < s) (h : s.natAbs < 2 ^ k) : (t % s).natAbs < 2 ^ k := by
  have h1 := Int.emod_nonneg t (show s ≠ 0 by omega)
  have h2 := Int.emod_lt_of_pos t hs
  omega
section
variable {P : Program} {w : World} {K : PySem.W.Frag} {mg : Str → Option Value} {base : Heap} {a : Ad}
theorem ok_Grid_contains (T : Txt K mg a) : FnOk P w K mg base CX0 2 a.Grid_contains a.Grid_contains_fd ["self", "value"] (sp_contains a) := by
  refine T.F_Grid_contains.ok sc_Grid_contains (fun vs H Q E h => ?_) (fun cdv A outer s H vs Q E hr h => ?_)
  · obtain ⟨g, b, f, r, L, G, n, rfl, _⟩ := h
    rfl
  · obtain ⟨g, b, f, r, L, G, n, rfl, hg, ⟨hn, hm⟩, k⟩ := h
    refine ⟨_, (pss_cons (ps_if (PW.pt (pw_or (pt_not (pt_val (pe_call (ok_is_whole T) (hr.mono (by decide)) rfl T.g_is_whole T.k_is_whole T.B_is_whole .nil pass0 (pa_cons (pv 1) pa_nil)))) (pw_or1 (pt_cmpR op_gt (pe_callB call_abs (by rfl) T.n_abs (by decide +kernel) (pa_cons (pv 1) pa_nil)) (pe_fld (pv 0) rfl) (nomark _))))) (pss_one (ps_ret pe_bl)) pss_nil)
      (pss_one (ps_ret (pe_cmpR op_eq (pe_op op_mod (pv 1) (pe_call (ok_spacing_at T) (hr.mono (by decide)) rfl T.g_spacing_at T.k_spacing_at T.B_spacing_at .nil pass0 (pa_cons (pv 0) (pa_cons (pe_callB call_abs (by rfl) T.n_abs (by decide +kernel) (pa_cons (pv 1) pa_nil)) (pa_cons pe_int pa_nil))))) pe_int (nomark _))))), ?_⟩
    have hb := hg.gr.hb
    have hL := hg.gr.L1
    obtain ⟨dx, lim, tops, p, u, xs, ys, o1, o2, o3, o4, o5⟩ := hg.ob
    have hs := spcI_pos (L := L) hb n.natAbs
    refine ⟨_, rfl, n, rfl, fun H1 e1 => ⟨true, rfl, ?_⟩⟩
    refine ite2 (fun h => absurd h (by simp)) (fun _ => ?_)
    refine ⟨_, rfl, _, rfl, _, rfl, g, _, dx, _, _, rfl, e1 _ _ o1, T.cl_Grid, T.f_Grid_greatest, gfl_greatest, _, _, rfl, rfl, _, rfl, ?_⟩
    rw [absI]
    refine ite2 (fun h => absurd (of_decide_eq_true h) (by omega)) (fun _ => ?_)
    refine ⟨_, rfl, _, rfl, _, rfl, _, rfl, g, b, f, r, L, G, n.natAbs, 0, by rw [absI]; rfl, hg.mono e1, by decide, Nat.lt_of_le_of_lt hn (Nat.lt_trans hg.bG (by decide +kernel)), fun H2 e2 => ?_⟩
    rw [G1 hg.gr]
    refine ⟨_, _, rfl, rfl, hs, rfl, ?_⟩
    show Q (V.bl (decide (V.int (n % (spc b L n.natAbs : Int)) = V.int 0))) H2
    rw [hm]
    exact k H2 (e1.trans e2)
end
end My


set_option Elab.async false
set_option maxRecDepth 100000
set_option maxHeartbeats 1000000
set_option exponentiation.threshold 6000
namespace My
open PySem L2 Evl
theorem all_rep (n : Nat) : (List.replicate n true).all id = true := by
  induction n with
  | zero => rfl
  | succ n ih => rw [List.replicate_succ, List.all_cons, ih]; rfl
theorem rep_snoc {α : Type} (n : Nat) (v : α) : List.replicate n v ++ [v] = List.replicate (n + 1) v := by
  rw [List.replicate_succ']
theorem ln {f : Str} {v : V} {fs : List (Str × V)} {n : Nat} (h : fs.length ≤ n) : (putF f v fs).length ≤ n + 1 := Nat.le_trans (length_putF f v fs) (by omega)
theorem lt1000 {fs : List (Str × V)} {n : Nat} (h : fs.length ≤ n) (hn : n ≤ 20 := by decide) : fs.length < 1000 := by omega
/-- all but what stands at p -/
def Kp (p : Addr) (H H' : Hp) : Prop := ∀ c o, H c = some o → c ≠ p → H' c = some o
theorem Kp.ex {p : Addr} {H H1 H2 : Hp} (h : Kp p H H1) (e : Ex H1 H2) : Kp p H H2 := fun c o hc hn => e _ _ (h c o hc hn)
theorem Kp.set {p : Addr} {H H1 : Hp} {o : HO} (h : Kp p H H1) : Kp p H (upd H1 p o) := fun c u hc hn => by
  rw [upd_ne hn]
  exact h c u hc hn
theorem Kp.refl {p : Addr} {H : Hp} : Kp p H H := fun _ _ h _ => h
section
variable {P : Program} {w : World} {K : PySem.W.Frag} {mg : Str → Option Value} {base : Heap} {a : Ad}
theorem ok_Grid_init (T : Txt K mg a) : FnOk P w K mg base CX0 4 a.Grid_init a.Grid_init_fd ["self", "base", "figures", "reach", "places"] (sp_init a) := by
  refine T.F_Grid_init.ok sc_Grid_init (fun vs H Q E h => ?_) (fun cdv A outer s H vs Q E hr h => ?_)
  · obtain ⟨p, dx, b, f, r, pl, rfl, _⟩ := h
    rfl
  · obtain ⟨p, dx, b, f, r, pl, rfl, hp, hv, k⟩ := h
    refine ⟨_, (pss_cons (ps_set (i := 5) sc_Grid_init.nd rfl (Or.inl rfl) (pe_tup (pa_cons (pv 1) (pa_cons (pv 2) (pa_cons (pv 3) (pa_cons (pv 4) pa_nil))))))
      (pss_cons (ps_if (pt_not (pt_val (pe_call (ok_is_grid T) (hr.mono (by decide)) rfl T.g_is_grid T.k_is_grid T.B_is_grid .nil pass0 (pa_cons (pv 5) pa_nil)))) (pss_one ps_never) pss_nil)
      (pss_cons (ps_fld (pv 0) (pv 1) rfl)
      (pss_cons (ps_fld (pv 0) (pv 2) rfl)
      (pss_cons (ps_fld (pv 0) (pv 3) rfl)
      (pss_cons (ps_fld (pv 0) (pv 4) rfl)
      (pss_cons (ps_fld (pv 0) (pe_call (ok_power T) (hr.mono (by decide)) rfl T.g_power T.k_power T.B_power .nil pass0 (pa_cons (pv 1) (pa_cons (pv 4) pa_nil))) rfl)
      (pss_cons (ps_fld (pv 0) (pe_callTy call_tuple_of (by rfl) T.n_tuple (by decide +kernel) (pa_cons (pe_lc (own := [("extra", 6)]) (g := gName 6) (by rfl) sc_Grid_init.nd (pi_range1 rfl T.n_range (pa_cons (pe_op op_add (pe_glob (v := .int 3) rfl T.c_MOST_MORE.choose_spec ⟨_, rfl⟩) pe_int) pa_nil)) (blkOk_by (own := [("extra", 6)]) (N := N_Grid_init) (sc := defScope s_Grid_init) (by decide +kernel)) (fun _ _ _ _ _ => pg_name (i := 6) sc_Grid_init.nd rfl (Or.inl rfl)) (fun _ _ _ _ _ => pts_nil) (fun _ _ _ _ _ => (pe_call (ok_power T) (hr.mono (by decide)) rfl T.g_power T.k_power T.B_power .nil pass0 (pa_cons (pv 1) (pa_cons (pe_op op_add (pv 2) (pv 6)) pa_nil))))) pa_nil)) rfl)
      (pss_cons (ps_fld (pv 0) (pe_callTy call_tuple_of (by rfl) T.n_tuple (by decide +kernel) (pa_cons (pe_lc (own := [("limit", 7)]) (g := gName 7) (by rfl) sc_Grid_init.nd (pi_tup (pe_fld (pv 0) rfl)) (blkOk_by (own := [("limit", 7)]) (N := N_Grid_init) (sc := defScope s_Grid_init) (by decide +kernel)) (fun _ _ _ _ _ => pg_name (i := 7) sc_Grid_init.nd rfl (Or.inl rfl)) (fun _ _ _ _ _ => pts_nil) (fun _ _ _ _ _ => (pe_op op_mulW (pe_op op_sub (pv 7) pe_int) (pe_call (ok_power T) (hr.mono (by decide)) rfl T.g_power T.k_power T.B_power .nil pass0 (pa_cons (pv 1) (pa_cons (pv 3) pa_nil)))))) pa_nil)) rfl)
      (pss_one (ps_fld (pv 0) (pe_ix ix_tup (pe_fld (pv 0) rfl) pe_int (fun _ _ => rfl)) rfl))))))))))), ?_⟩
    obtain ⟨v1, v2, v3, v4, v5, v6⟩ := id hv
    refine ⟨_, rfl, _, rfl, _, rfl, _, rfl, by show 4 ≤ sizeLine; decide, fun t ht => ?_⟩
    refine ⟨_, rfl, t, b, f, r, pl, rfl, SqT.of upd_same, hv, fun H1 e1 => ⟨true, rfl, ite2 (fun h => absurd h (by simp)) (fun _ => ?_)⟩⟩
    have x1 : Ex H H1 := (Ex.new ht).trans e1
    have k1 : Kp p H H1 := Kp.refl.ex x1
    refine ⟨_, rfl, _, rfl, p, a.Grid, dx, [], rfl, x1 _ _ hp, T.cl_Grid, T.f_Grid_base, (by show 0 < 1000; decide), ?_⟩
    refine ⟨_, rfl, _, rfl, p, a.Grid, dx, _, rfl, upd_same, T.cl_Grid, T.f_Grid_figures, lt1000 (ln (Nat.le_refl 0)), ?_⟩
    refine ⟨_, rfl, _, rfl, p, a.Grid, dx, _, rfl, upd_same, T.cl_Grid, T.f_Grid_reach, lt1000 (ln (ln (Nat.le_refl 0))), ?_⟩
    refine ⟨_, rfl, _, rfl, p, a.Grid, dx, _, rfl, upd_same, T.cl_Grid, T.f_Grid_places, lt1000 (ln (ln (ln (Nat.le_refl 0)))), ?_⟩
    have k2 := (((k1.set (o := HO.ins a.Grid dx (putF "base" (V.int b) []))).set (o := HO.ins a.Grid dx (putF "figures" (V.int f) (putF "base" (V.int b) [])))).set (o := HO.ins a.Grid dx (putF "reach" (V.int r) (putF "figures" (V.int f) (putF "base" (V.int b) []))))).set (o := HO.ins a.Grid dx (putF "places" (V.int pl) (putF "reach" (V.int r) (putF "figures" (V.int f) (putF "base" (V.int b) [])))))
    refine ⟨_, rfl, _, rfl, b, pl, rfl, v2, by omega, fun H2 e2 => ?_⟩
    refine ⟨_, rfl, p, a.Grid, dx, _, rfl, e2 _ _ upd_same, T.cl_Grid, T.f_Grid_unit, lt1000 (ln (ln (ln (ln (Nat.le_refl 0))))), ?_⟩
    have k3 := (k2.ex e2).set (o := HO.ins a.Grid dx (putF "unit" (V.int ((b ^ pl : Nat) : Int)) (putF "places" (V.int pl) (putF "reach" (V.int r) (putF "figures" (V.int f) (putF "base" (V.int b) []))))))
    have p3 : (upd H2 p (HO.ins a.Grid dx (putF "unit" (V.int ((b ^ pl : Nat) : Int)) (putF "places" (V.int pl) (putF "reach" (V.int r) (putF "figures" (V.int f) (putF "base" (V.int b) []))))))) p = some (HO.ins a.Grid dx (putF "unit" (V.int ((b ^ pl : Nat) : Int)) (putF "places" (V.int pl) (putF "reach" (V.int r) (putF "figures" (V.int f) (putF "base" (V.int b) [])))))) := upd_same
    generalize hH3 : (upd H2 p (HO.ins a.Grid dx (putF "unit" (V.int ((b ^ pl : Nat) : Int)) (putF "places" (V.int pl) (putF "reach" (V.int r) (putF "figures" (V.int f) (putF "base" (V.int b) []))))))) = H3 at k3 p3
    have pd : ∀ {D : Addr}, H3 D = none → D ≠ p := fun {D} hD q => by
      rw [q, p3] at hD
      cases hD
    refine ⟨_, _, rfl, rfl, _, rfl, by decide, by decide, fun D hD => lc_range (lo := 0) (n := 4) (fun i H' => Ex H3 H' ∧ H' D = some (.lst ((List.range i).map fun m => V.int ((b ^ (f + m) : Nat) : Int)))) ⟨Ex.new hD, upd_same⟩ ?_ ?_⟩
    · rintro i H' hi ⟨e4, h4⟩
      refine ⟨rfl, ?_⟩
      dsimp only [tYes]
      refine iteT ?_
      refine ⟨_, rfl, _, rfl, _, rfl, _, _, rfl, rfl, b, f + i, ?_, v2, by omega, fun H5 e5 => ⟨_, e5 _ _ h4, small1000 (by rw [List.length_map, List.length_range]; omega), Ex.mut (e4.trans e5) hD, ?_⟩⟩
      · show [V.int b, V.int ((f : Int) + (0 + (i : Int)))] = _
        rw [Int.zero_add, Int.natCast_add]
      · rw [upd_same, List.range_succ, List.map_append]
        rfl
    rintro H4 ⟨e4, h4⟩
    refine ⟨D, _, rfl, .inl ⟨SqL.of h4, fun l hl => ?_⟩⟩
    have e5 : Ex H4 (upd H4 l (.tup ((List.range 4).map fun m => V.int ((b ^ (f + m) : Nat) : Int)))) := Ex.new hl
    have l5 : (upd H4 l (.tup ((List.range 4).map fun m => V.int ((b ^ (f + m) : Nat) : Int)))) l = some (.tup ((List.range 4).map fun m => V.int ((b ^ (f + m) : Nat) : Int))) := upd_same
    generalize (upd H4 l (.tup ((List.range 4).map fun m => V.int ((b ^ (f + m) : Nat) : Int)))) = H5 at *
    have k5 := k3.ex (e4.trans e5)
    have p5 := e5 _ _ (e4 _ _ p3)
    have nlp : l ≠ p := fun q => by
      rw [q] at l5
      rw [p5] at l5
      cases l5
    refine ⟨_, rfl, p, a.Grid, dx, _, rfl, p5, T.cl_Grid, T.f_Grid_limits, lt1000 (ln (ln (ln (ln (ln (Nat.le_refl 0)))))), ?_⟩
    have k6 := k5.set (o := HO.ins a.Grid dx (putF "limits" (V.ref l) (putF "unit" (V.int ((b ^ pl : Nat) : Int)) (putF "places" (V.int pl) (putF "reach" (V.int r) (putF "figures" (V.int f) (putF "base" (V.int b) [])))))))
    have p6 : (upd H5 p (HO.ins a.Grid dx (putF "limits" (V.ref l) (putF "unit" (V.int ((b ^ pl : Nat) : Int)) (putF "places" (V.int pl) (putF "reach" (V.int r) (putF "figures" (V.int f) (putF "base" (V.int b) [])))))))) p = _ := upd_same
    have l6 : (upd H5 p (HO.ins a.Grid dx (putF "limits" (V.ref l) (putF "unit" (V.int ((b ^ pl : Nat) : Int)) (putF "places" (V.int pl) (putF "reach" (V.int r) (putF "figures" (V.int f) (putF "base" (V.int b) [])))))))) l = _ := (upd_ne nlp).trans l5
    generalize (upd H5 p (HO.ins a.Grid dx (putF "limits" (V.ref l) (putF "unit" (V.int ((b ^ pl : Nat) : Int)) (putF "places" (V.int pl) (putF "reach" (V.int r) (putF "figures" (V.int f) (putF "base" (V.int b) [])))))))) = H6 at *
    refine ⟨_, rfl, p, a.Grid, dx, _, _, rfl, p6, T.cl_Grid, T.f_Grid_limits, by rw [lookup_putF, if_pos rfl], l, rfl, ⟨_, SqT.of l6⟩, fun D2 hD2 => lc_tup (K := K) (a := l) (xs := (List.range 4).map fun m => V.int ((b ^ (f + m) : Nat) : Int)) (fun i H' => Ex H6 H' ∧ H' D2 = some (.lst ((List.range i).map fun m => V.int (((b ^ (f + m) - 1) * b ^ r : Nat) : Int)))) ⟨Ex.new hD2, upd_same⟩ (fun i H' _ q => SqT.of (q.1 _ _ l6)) ?_ ?_⟩
    · rintro i x H' hi ⟨e7, h7⟩
      have hi4 : i < 4 := by
        have := (List.getElem?_eq_some_iff.mp hi).1
        simpa using this
      have hx : x = V.int ((b ^ (f + i) : Nat) : Int) := by
        rw [List.getElem?_map, List.getElem?_range hi4] at hi
        exact (Option.some.inj hi).symm
      subst hx
      refine ⟨rfl, ?_⟩
      dsimp only [tYes]
      refine iteT ?_
      have hpos : 1 ≤ b ^ (f + i) := Nat.pow_pos (by omega)
      have h4a : b ^ (f + i) < 2 ^ 400 := pw400 v2 (by omega)
      refine ⟨_, rfl, _, _, rfl, rfl, _, rfl, _, rfl, b, r, rfl, v2, by omega, fun H8 e8 => ?_⟩
      refine ⟨_, _, rfl, rfl, wm (p5000 (k := 400) (by omega)) (p5000 (pw400 v2 (by omega))), _, e8 _ _ h7, small1000 (by rw [List.length_map, List.length_range]; omega), Ex.mut (e7.trans e8) hD2, ?_⟩
      rw [upd_same, List.range_succ, List.map_append]
      show some (HO.lst (_ ++ [V.int ((((b ^ (f + i) : Nat) : Int) - 1) * ((b ^ r : Nat) : Int))])) = some (HO.lst (_ ++ [V.int (((b ^ (f + i) - 1) * b ^ r : Nat) : Int)]))
      rw [Int.natCast_mul, Int.natCast_sub hpos]
      rfl
    rintro H7 ⟨e7, h7⟩
    have h7 : H7 D2 = some (.lst ((List.range 4).map fun m => V.int (((b ^ (f + m) - 1) * b ^ r : Nat) : Int))) := h7
    refine ⟨D2, _, rfl, .inl ⟨SqL.of h7, fun l2 hl2 => ?_⟩⟩
    have e8 : Ex H7 (upd H7 l2 (.tup ((List.range 4).map fun m => V.int (((b ^ (f + m) - 1) * b ^ r : Nat) : Int)))) := Ex.new hl2
    have l8 : (upd H7 l2 (.tup ((List.range 4).map fun m => V.int (((b ^ (f + m) - 1) * b ^ r : Nat) : Int)))) l2 = some (.tup ((List.range 4).map fun m => V.int (((b ^ (f + m) - 1) * b ^ r : Nat) : Int))) := upd_same
    generalize (upd H7 l2 (.tup ((List.range 4).map fun m => V.int (((b ^ (f + m) - 1) * b ^ r : Nat) : Int)))) = H8 at *
    have k8 := k6.ex (e7.trans e8)
    have p8 := e8 _ _ (e7 _ _ p6)
    have l8' := e8 _ _ (e7 _ _ l6)
    have nl2 : l2 ≠ p := fun q => by
      rw [q] at l8
      rw [p8] at l8
      cases l8
    refine ⟨_, rfl, p, a.Grid, dx, _, rfl, p8, T.cl_Grid, T.f_Grid_tops, lt1000 (ln (ln (ln (ln (ln (ln (Nat.le_refl 0))))))), ?_⟩
    have o5 : ((List.range 4).map fun m => V.int (((b ^ (f + m) - 1) * b ^ r : Nat) : Int))[0]? = some (V.int (((b ^ f - 1) * b ^ r : Nat) : Int)) := rfl
    refine ⟨_, rfl, p, a.Grid, dx, _, _, rfl, upd_same, T.cl_Grid, T.f_Grid_tops, by rw [lookup_putF, if_pos rfl], l2, _, _, _, rfl, rfl, SqT.of ((upd_ne nl2).trans l8), atN (m := 0) o5, ?_⟩
    refine ⟨_, rfl, p, a.Grid, dx, _, rfl, upd_same, T.cl_Grid, T.f_Grid_greatest, lt1000 (ln (ln (ln (ln (ln (ln (ln (Nat.le_refl 0)))))))), ?_⟩
    refine k _ (k8.set.set) ⟨⟨v1, v3, rfl, rfl⟩, v2, v4, v5, dx, l, l2, pl, ((b ^ pl : Nat) : Int), _, _, upd_same, ((upd_ne nlp).trans (upd_ne nlp)).trans l8', ((upd_ne nl2).trans (upd_ne nl2)).trans l8, fun m hm => ?_, fun m hm => ?_⟩ ⟨dx, l, l2, _, _, _, _, upd_same⟩
    · rw [List.getElem?_map, List.getElem?_range (by omega)]
      rfl
    · rw [List.getElem?_map, List.getElem?_range (by omega)]
      rfl
end
end My


set_option Elab.async false
set_option maxRecDepth 100000
set_option maxHeartbeats 1000000
set_option exponentiation.threshold 6000
namespace My
open PySem L2 Evl
/-! ### the law's own defs -/
/-- a pot of draws stands at p; n draws at the most were reckoned -/
def PotAt (H : Hp) (p : Addr) (n : Nat) : Prop := ∃ x y c : Int, H p = some (.lst [.int x, .int y, .int c]) ∧ 0 ≤ x ∧ x.natAbs < 2 ^ 1000 ∧ 0 ≤ y ∧ y < 2 ^ 61 ∧ 0 ≤ c ∧ c ≤ (n : Int)
theorem PotAt.mono {H : Hp} {p : Addr} {n m : Nat} (h : PotAt H p n) (hm : n ≤ m) : PotAt H p m := by
  obtain ⟨x, y, c, h1, h2, h3, h4, h5, h6, h7⟩ := h
  exact ⟨x, y, c, h1, h2, h3, h4, h5, h6, by omega⟩
theorem PotAt.ex {H H' : Hp} {p : Addr} {n : Nat} (h : PotAt H p n) (e : Ex H H') : PotAt H' p n := by
  obtain ⟨x, y, c, h1, h2⟩ := h
  exact ⟨x, y, c, e _ _ h1, h2⟩
theorem PotAt.ne {H : Hp} {p q : Addr} {n : Nat} (h : PotAt H p n) (hq : H q = none) : q ≠ p := fun e => by
  obtain ⟨x, y, c, h1, h2⟩ := h
  rw [e, h1] at hq
  cases hq
theorem Ex.kp {p : Addr} {H H' : Hp} (e : Ex H H') : Kp p H H' := fun c o h _ => e c o h
theorem Kp.trans {p : Addr} {H H1 H2 : Hp} (h : Kp p H H1) (h' : Kp p H1 H2) : Kp p H H2 := fun c o hc hn => h' c o (h c o hc hn) hn
theorem Kp.back {p : Addr} {H H1 : Hp} {q : Addr} (h : Kp p H H1) (hq : H1 q = none) (hn : q ≠ p) : H q = none := by
  cases e : H q with
  | none => rfl
  | some o => rw [h q o e hn] at hq; cases hq
def TG (K : PySem.W.Frag) (H : Hp) (t : Addr) (b f r pl : Nat) : Prop := SqT K H t [.int b, .int f, .int r, .int pl]
theorem TG.ex {K : PySem.W.Frag} {H H' : Hp} {t : Addr} {b f r pl : Nat} (h : TG K H t b f r pl) (e : Ex H H') : TG K H' t b f r pl := ex_t e h
def sp_pot (K : PySem.W.Frag) : Sp := fun vs H Q _ => ∃ (s : Addr) (ns : List Int) (place : Nat), vs = [.ref s, .int place] ∧ SqL K H s (ns.map V.int) ∧ place ≤ 4 ∧ ∀ p H', Ex H H' → H p = none → PotAt H' p 0 → Q (.ref p) H'
def sp_take : Sp := fun vs H Q _ => ∃ (p : Addr) (u : Int) (n : Nat), vs = [.ref p, .int u] ∧ PotAt H p n ∧ n ≤ 100000 ∧ 0 < u ∧ u.natAbs < 2 ^ 2400 ∧ ∀ d H', Kp p H H' → PotAt H' p (n + 1) → 0 ≤ d → d < u → Q (.int d) H'
def sp_of : Sp := fun vs H Q _ => ∃ (p s : Addr) (n : Nat) (xs : List V), vs = [.ref p, .ref s] ∧ PotAt H p n ∧ n ≤ 100000 ∧ H s = some (.lst xs) ∧ s ≠ p ∧ 0 < xs.length ∧ xs.length ≤ 100000 ∧ ∀ (i : Nat) (v : V) H', xs[i]? = some v → Kp p H H' → PotAt H' p (n + 1) → Q v H'
def sp_greatest (K : PySem.W.Frag) : Sp := fun vs H Q _ => ∃ (t : Addr) (b f r pl : Nat), vs = [.ref t] ∧ TG K H t b f r pl ∧ (2 ≤ b ∧ b ≤ 10 ∧ f ≤ 33 ∧ r ≤ 60) ∧ ∀ H', Ex H H' → Q (.int (((b ^ f - 1) * b ^ r : Nat) : Int)) H'
def sp_lspacing (K : PySem.W.Frag) : Sp := fun vs H Q _ => ∃ (t : Addr) (b f r pl : Nat) (x : Int) (d : Nat), vs = [.ref t, .int x, .int d] ∧ TG K H t b f r pl ∧ (2 ≤ b ∧ b ≤ 10 ∧ f ≤ 33 ∧ r ≤ 60) ∧ 1 ≤ d ∧ d < 2 ^ 2400 ∧ x.natAbs < 2 ^ 2400 ∧ ∀ H', Ex H H' → Q (.int (spc b (b ^ f) (x.natAbs / d) : Nat)) H'
def sp_has (K : PySem.W.Frag) : Sp := fun vs H Q _ => ∃ (t : Addr) (b f r pl : Nat) (x : Int), vs = [.ref t, .int x] ∧ TG K H t b f r pl ∧ (2 ≤ b ∧ b ≤ 10 ∧ f ≤ 33 ∧ r ≤ 60) ∧ x.natAbs < 2 ^ 2400 ∧ ∀ H', Ex H H' → Q (.bl (decide (x.natAbs ≤ (b ^ f - 1) * b ^ r) && decide (x % (spc b (b ^ f) x.natAbs : Nat) = 0))) H'
def sp_more (K : PySem.W.Frag) : Sp := fun vs H Q _ => ∃ (t : Addr) (b f r pl m : Nat), vs = [.ref t, .int m] ∧ TG K H t b f r pl ∧ ∀ q H', Ex H H' → H' q = some (.tup [.int b, .int ((f + m : Nat) : Int), .int r, .int pl]) → Q (.ref q) H'
def rzO (b L G : Nat) (t : Int) : V := if (rz b L t).natAbs ≤ G then .int (rz b L t) else .non
theorem t10 : (10 : Int) ^ (60 : Int).toNat = 10 ^ 60 := by decide +kernel
theorem t300 : ((10 : Int) ^ (60 : Int).toNat) ^ (5 : Int).toNat = 10 ^ 300 := by decide +kernel
section
variable {P : Program} {w : World} {K : PySem.W.Frag} {mg : Str → Option Value} {base : Heap} {a : Ad}
theorem ok_l_take (T : Txt K mg a) : FnOk P w K mg base CX0 1 a.l_take a.l_take_fd ["pot", "upto"] sp_take := by
  refine T.F_l_take.ok sc_l_take (fun vs H Q E h => ?_) (fun cdv A outer s H vs Q E hr h => ?_)
  · obtain ⟨p, u, n, rfl, _⟩ := h
    rfl
  · obtain ⟨p, u, n, rfl, hp, hn, hu, hus, k⟩ := h
    refine ⟨_, (pss_cons (ps_if (pt_cmpR op_gt (pe_ix ix_list (pv 0) pe_int (fun _ _ => rfl)) pe_int (nomark _)) (pss_cons (ps_set (i := 4) sc_l_take.nd rfl (Or.inl rfl) (pe_op op_mod (pe_callTy call_int1 (by rfl) T.n_int (by decide +kernel) (pa_cons (pe_ix ix_list (pv 0) pe_int (fun _ _ => rfl)) pa_nil)) (pv 1)))
      (pss_cons (ps_asg (pe_op op_fdivW (pe_ix ix_list (pv 0) pe_int (fun _ _ => rfl)) (pv 1)) (pg_sub (pv 0) pe_int set_list))
      (pss_one (ps_ret (pv 4))))) pss_nil)
      (pss_cons (ps_asg (pe_op op_add (pe_ix ix_list (pv 0) pe_int (fun _ _ => rfl)) pe_int) (pg_sub (pv 0) pe_int set_list))
      (pss_cons (ps_set (i := 2) sc_l_take.nd rfl (Or.inl rfl) (pe_ix ix_list (pe_lst (pa_cons pe_int (pa_cons pe_int (pa_cons pe_int (pa_cons pe_int (pa_cons pe_int pa_nil)))))) (pe_op op_mod (pe_callTy call_int1 (by rfl) T.n_int (by decide +kernel) (pa_cons (pe_ix ix_list (pv 0) pe_int (fun _ _ => rfl)) pa_nil)) pe_int) (fun _ _ => rfl)))
      (pss_cons (ps_set (i := 3) sc_l_take.nd rfl (Or.inl rfl) (pe_op op_mod (pe_callTy call_int1 (by rfl) T.n_int (by decide +kernel) (pa_cons (pe_op op_pow (pe_callTy call_int1 (by rfl) T.n_int (by decide +kernel) (pa_cons (pe_op op_add (pe_op op_add (pe_ix ix_list (pv 0) pe_int (fun _ _ => rfl)) (pe_op op_mulW (pe_op op_mulW pe_int (pe_ix ix_list (pv 0) pe_int (fun _ _ => rfl))) (pe_ix ix_list (pv 0) pe_int (fun _ _ => rfl)))) pe_int) pa_nil)) pe_int) pa_nil)) (pv 2)))
      (pss_cons (ps_set (i := 3) sc_l_take.nd rfl (Or.inl rfl) (pe_op op_mod (pe_callTy call_int1 (by rfl) T.n_int (by decide +kernel) (pa_cons (pe_op op_mulW (pv 3) (pe_op op_add (pe_op op_mod (pe_callTy call_int1 (by rfl) T.n_int (by decide +kernel) (pa_cons (pv 3) pa_nil)) pe_int) (pe_op op_mulW pe_int (pe_ix ix_list (pv 0) pe_int (fun _ _ => rfl))))) pa_nil)) pe_int))
      (pss_one (ps_ret (pe_op op_mod (pe_callTy call_int1 (by rfl) T.n_int (by decide +kernel) (pa_cons (pe_op op_fdivW (pv 3) pe_int) pa_nil)) (pv 1))))))))), ?_⟩
    obtain ⟨x, y, c, h1, h2, h3, h4, h5, h6, h7⟩ := hp
    have a0 : atI [V.int x, V.int y, V.int c] 0 = some (.int x) := atN (m := 0) rfl
    have a1 : atI [V.int x, V.int y, V.int c] 1 = some (.int y) := atN (m := 1) rfl
    have a2 : atI [V.int x, V.int y, V.int c] 2 = some (.int c) := atN (m := 2) rfl
    refine ⟨_, rfl, p, _, _, _, rfl, rfl, SqL.of h1, a0, _, _, rfl, rfl, _, rfl, ?_⟩
    refine ite2 (fun hc => ?_) (fun hc => ?_)
    · have hx := of_decide_eq_true hc
      refine ⟨_, rfl, p, _, _, _, rfl, rfl, SqL.of h1, a0, .inl ⟨_, rfl, _, rfl, _, _, rfl, rfl, hu, ?_⟩⟩
      refine ⟨_, rfl, p, _, _, _, rfl, rfl, SqL.of h1, a0, _, rfl, _, _, rfl, rfl, wd hu (p5000 hus), _, rfl, p, _, _, 0, rfl, rfl, h1, rfl, ?_⟩
      refine ⟨_, rfl, ?_⟩
      refine k _ _ (Kp.refl.set) ⟨x / u, y, c, upd_same, Int.ediv_nonneg h2 (by omega), ?_, h4, h5, h6, by omega⟩ (Int.emod_nonneg _ (by omega)) (Int.emod_lt_of_pos _ hu)
      have := Int.natAbs_ediv_le_natAbs x u
      omega
    · refine ⟨_, rfl, p, _, _, _, rfl, rfl, SqL.of h1, a2, _, _, rfl, rfl, _, rfl, p, _, _, 2, rfl, rfl, h1, rfl, ?_⟩
      have b1 : atI (List.set [V.int x, V.int y, V.int c] 2 (V.int (c + 1))) 1 = some (.int y) := atN (m := 1) rfl
      have b2 : atI (List.set [V.int x, V.int y, V.int c] 2 (V.int (c + 1))) 2 = some (.int (c + 1)) := atN (m := 2) rfl
      obtain ⟨pr, hpr, hpr0⟩ : ∃ pr : Int, atI [V.int 2147483647, V.int 2147483629, V.int 2147483587, V.int 2147483579, V.int 2147483563] ((c + 1) % 5) = some (.int pr) ∧ 0 < pr := by
        have h5 : (c + 1) % 5 = ((0 : Nat) : Int) ∨ (c + 1) % 5 = ((1 : Nat) : Int) ∨ (c + 1) % 5 = ((2 : Nat) : Int) ∨ (c + 1) % 5 = ((3 : Nat) : Int) ∨ (c + 1) % 5 = ((4 : Nat) : Int) := by omega
        rcases h5 with h | h | h | h | h
        · rw [h]; exact ⟨_, atN (m := 0) rfl, by decide⟩
        · rw [h]; exact ⟨_, atN (m := 1) rfl, by decide⟩
        · rw [h]; exact ⟨_, atN (m := 2) rfl, by decide⟩
        · rw [h]; exact ⟨_, atN (m := 3) rfl, by decide⟩
        · rw [h]; exact ⟨_, atN (m := 4) rfl, by decide⟩
      have kp : Kp p H (upd H p (.lst (List.set [V.int x, V.int y, V.int c] 2 (V.int (c + 1))))) := Kp.refl.set
      have hq : (upd H p (.lst (List.set [V.int x, V.int y, V.int c] 2 (V.int (c + 1))))) p = some (.lst (List.set [V.int x, V.int y, V.int c] 2 (V.int (c + 1)))) := upd_same
      generalize (upd H p (.lst (List.set [V.int x, V.int y, V.int c] 2 (V.int (c + 1))))) = H1 at *
      refine ⟨by decide, fun l hl => ?_⟩
      have lp : p ≠ l := ne_of_none hq hl
      have kp2 : Kp p H (upd H1 l (.lst [V.int 2147483647, V.int 2147483629, V.int 2147483587, V.int 2147483579, V.int 2147483563])) := kp.ex (Ex.new hl)
      have hq2 : (upd H1 l (.lst [V.int 2147483647, V.int 2147483629, V.int 2147483587, V.int 2147483579, V.int 2147483563])) p = some (.lst (List.set [V.int x, V.int y, V.int c] 2 (V.int (c + 1)))) := (upd_ne lp).trans hq
      have hl2 : (upd H1 l (.lst [V.int 2147483647, V.int 2147483629, V.int 2147483587, V.int 2147483579, V.int 2147483563])) l = some (.lst [V.int 2147483647, V.int 2147483629, V.int 2147483587, V.int 2147483579, V.int 2147483563]) := upd_same
      generalize (upd H1 l (.lst [V.int 2147483647, V.int 2147483629, V.int 2147483587, V.int 2147483579, V.int 2147483563])) = H2 at *
      refine ⟨_, rfl, p, _, _, _, rfl, rfl, SqL.of hq2, b2, .inl ⟨_, rfl, _, _, rfl, rfl, (by show (0 : Int) < 5; decide), l, _, _, _, rfl, rfl, SqL.of hl2, hpr, ?_⟩⟩
      have m1 : 0 ≤ c + 1 := by omega
      have m2 : c + 1 ≤ 100001 := by omega
      have m3 : 100471 * (c + 1) * (c + 1) ≤ 100471 * 100001 * 100001 := Int.mul_le_mul (by omega) m2 m1 (by decide)
      have m4 : 0 ≤ 100471 * (c + 1) * (c + 1) := Int.mul_nonneg (by omega) m1
      refine ⟨_, rfl, p, _, _, _, rfl, rfl, SqL.of hq2, b1, _, rfl, p, _, _, _, rfl, rfl, SqL.of hq2, b2, _, _, rfl, rfl, wm (p5000 (k := 64) (by decide)) (p5000 (k := 64) (by omega)), _, rfl, p, _, _, _, rfl, rfl, SqL.of hq2, b2, _, _, rfl, rfl, wm (p5000 (k := 64) (by omega)) (p5000 (k := 64) (by omega)), _, _, rfl, rfl, _, _, rfl, rfl, .inl ⟨_, rfl, _, _, rfl, rfl, ⟨by decide, by decide, ?_⟩, .inl ⟨_, rfl, _, rfl, _, _, rfl, rfl, hpr0, ?_⟩⟩⟩
      · omega
      generalize hbl : (y + 100471 * (c + 1) * (c + 1) + 885) ^ (3 : Int).toNat % pr = bl
      have hprs : pr < 2 ^ 31 := by
        have h5 : (c + 1) % 5 = ((0 : Nat) : Int) ∨ (c + 1) % 5 = ((1 : Nat) : Int) ∨ (c + 1) % 5 = ((2 : Nat) : Int) ∨ (c + 1) % 5 = ((3 : Nat) : Int) ∨ (c + 1) % 5 = ((4 : Nat) : Int) := by omega
        rcases h5 with h | h | h | h | h <;> rw [h] at hpr <;> cases hpr <;> decide
      have hb1 : 0 ≤ bl := by rw [← hbl]; exact Int.emod_nonneg _ (by omega)
      have hb2 : bl < 2 ^ 31 := by rw [← hbl]; exact Int.lt_trans (Int.emod_lt_of_pos _ hpr0) hprs
      refine ⟨_, rfl, _, rfl, .inl ⟨_, rfl, _, _, rfl, rfl, (by show (0 : Int) < 10817; decide), _, rfl, p, _, _, _, rfl, rfl, SqL.of hq2, b2, _, _, rfl, rfl, wm (p5000 (k := 64) (by decide)) (p5000 (k := 64) (by omega)), _, _, rfl, rfl, _, _, rfl, rfl, wm (p5000 (k := 64) (by omega)) (p5000 (k := 64) (by omega)), .inl ⟨_, rfl, _, _, rfl, rfl, (by show (0 : Int) < 2305843009213693907; decide), ?_⟩⟩⟩
      refine ⟨_, rfl, _, _, rfl, rfl, wd (by decide) (by decide +kernel), .inl ⟨_, rfl, _, rfl, _, _, rfl, rfl, hu, ?_⟩⟩
      exact k _ _ kp2 ⟨x, y, c + 1, hq2, h2, h3, h4, h5, m1, by omega⟩ (Int.emod_nonneg _ (by omega)) (Int.emod_lt_of_pos _ hu)
theorem ok_l_of (T : Txt K mg a) : FnOk P w K mg base CX0 2 a.l_of a.l_of_fd ["pot", "some"] sp_of := by
  refine T.F_l_of.ok sc_l_of (fun vs H Q E h => ?_) (fun cdv A outer s H vs Q E hr h => ?_)
  · obtain ⟨p, s, n, xs, rfl, _⟩ := h
    rfl
  · obtain ⟨p, q, n, xs, rfl, hp, hn, hs, hne, hl0, hl, k⟩ := h
    refine ⟨_, (pss_one (ps_ret (pe_ix ix_list (pv 1) (pe_call (ok_l_take T) (hr.mono (by decide)) rfl T.g_l_take T.k_l_take T.B_l_take .nil pass0 (pa_cons (pv 0) (pa_cons (pe_callB call_len_seq (by rfl) T.n_len (by decide +kernel) (pa_cons (pv 1) pa_nil)) pa_nil))) (fun _ _ => rfl)))), ?_⟩
    refine ⟨_, rfl, _, rfl, _, rfl, q, _, rfl, .inl (SqL.of hs), p, _, n, rfl, hp, hn, by omega, ?_, fun d H1 kp hp1 h0 h1 => ?_⟩
    · rw [Int.natAbs_natCast]
      exact Nat.lt_of_le_of_lt hl (by decide +kernel)
    · have hd : d = ((d.toNat : Nat) : Int) := by omega
      have hlt : d.toNat < xs.length := by omega
      exact ⟨q, _, _, _, rfl, rfl, SqL.of (kp _ _ hs hne), at_of hd (List.getElem?_eq_getElem hlt), k _ _ _ (List.getElem?_eq_getElem hlt) kp hp1⟩
theorem ok_l_grid_power (T : Txt K mg a) : FnOk P w K mg base CX0 1 a.l_grid_power a.l_grid_power_fd ["base", "many"] sp_power := by
  refine T.F_l_grid_power.ok sc_l_grid_power (fun vs H Q E h => ?_) (fun cdv A outer s H vs Q E hr h => ?_)
  · obtain ⟨b, e, rfl, _⟩ := h
    rfl
  · obtain ⟨b, n, rfl, hb, hn, k⟩ := h
    refine ⟨_, (pss_cons (ps_set (i := 2) sc_l_grid_power.nd rfl (Or.inl rfl) pe_int)
      (pss_cons (ps_for PassesOwn.never rfl (pi_range1 rfl T.n_range (pa_cons (pv 1) pa_nil)) (pg_name (i := 3) sc_l_grid_power.nd rfl (Or.inl rfl)) (pss_one (ps_set (i := 2) sc_l_grid_power.nd rfl (Or.inl rfl) (pe_op op_mulW (pv 2) (pe_callTy call_int1 (by rfl) T.n_int (by decide +kernel) (pa_cons (pv 0) pa_nil))))))
      (pss_one (ps_ret (pv 2))))), ?_⟩
    refine ⟨_, rfl, _, rfl, by omega, by omega, for_range (lo := 0) (n := n) (fun i σ H' => H' = H ∧ ∃ v, σ = [some (.int b), some (.int n), some (.int ((b ^ i : Nat) : Int)), v]) ⟨rfl, none, rfl⟩ ?_ ?_⟩
    · rintro i σ H' hi ⟨rfl, v, rfl⟩
      refine ⟨_, rfl, _, rfl, .inl ⟨_, rfl, _, _, rfl, rfl, wm (p5000 (pw400 hb (by omega))) (p5000 (k := 400) (by rw [Int.natAbs_natCast]; exact Nat.lt_of_le_of_lt hb (by decide +kernel))), rfl, some (.int (0 + (i : Int))), ?_⟩⟩
      show [_, _, some (V.int (((b ^ i : Nat) : Int) * (b : Int))), _] = _
      rw [Nat.pow_succ, Int.natCast_mul]
    · rintro σ H' ⟨rfl, v, rfl⟩
      exact ⟨_, rfl, k _ (Ex.refl _)⟩
end
section
theorem g0 {b f r pl : Nat} : atI [V.int b, V.int f, V.int r, V.int pl] 0 = some (.int b) := atN (m := 0) rfl
theorem g1 {b f r pl : Nat} : atI [V.int b, V.int f, V.int r, V.int pl] 1 = some (.int f) := atN (m := 1) rfl
theorem g2 {b f r pl : Nat} : atI [V.int b, V.int f, V.int r, V.int pl] 2 = some (.int r) := atN (m := 2) rfl
theorem g3 {b f r pl : Nat} : atI [V.int b, V.int f, V.int r, V.int pl] 3 = some (.int pl) := atN (m := 3) rfl
variable {P : Program} {w : World} {K : PySem.W.Frag} {mg : Str → Option Value} {base : Heap} {a : Ad}
theorem ok_l_grid_greatest (T : Txt K mg a) : FnOk P w K mg base CX0 2 a.l_grid_greatest a.l_grid_greatest_fd ["grid"] (sp_greatest K) := by
  refine T.F_l_grid_greatest.ok sc_l_grid_greatest (fun vs H Q E h => ?_) (fun cdv A outer s H vs Q E hr h => ?_)
  · obtain ⟨t, b, f, r, pl, rfl, _⟩ := h
    rfl
  · obtain ⟨t, b, f, r, pl, rfl, ht, ⟨hb, ub, uf, ur⟩, k⟩ := h
    refine ⟨_, (pss_one (ps_ret (pe_op op_mulW (pe_op op_sub (pe_call (ok_l_grid_power T) (hr.mono (by decide)) rfl T.g_l_grid_power T.k_l_grid_power T.B_l_grid_power .nil pass0 (pa_cons (pe_ix ix_tup (pv 0) pe_int (fun _ _ => rfl)) (pa_cons (pe_ix ix_tup (pv 0) pe_int (fun _ _ => rfl)) pa_nil))) pe_int) (pe_call (ok_l_grid_power T) (hr.mono (by decide)) rfl T.g_l_grid_power T.k_l_grid_power T.B_l_grid_power .nil pass0 (pa_cons (pe_ix ix_tup (pv 0) pe_int (fun _ _ => rfl)) (pa_cons (pe_ix ix_tup (pv 0) pe_int (fun _ _ => rfl)) pa_nil)))))), ?_⟩
    refine ⟨_, rfl, t, _, _, _, rfl, rfl, ht, g0, _, rfl, t, _, _, _, rfl, rfl, ht, g1, b, f, rfl, ub, by omega, fun H1 e1 => ?_⟩
    refine ⟨_, _, rfl, rfl, _, rfl, t, _, _, _, rfl, rfl, ht.ex e1, g0, _, rfl, t, _, _, _, rfl, rfl, ht.ex e1, g2, b, r, rfl, ub, by omega, fun H2 e2 => ?_⟩
    have hpos : 1 ≤ b ^ f := Nat.pow_pos (by omega)
    have hs : b ^ f < 2 ^ 400 := pw400 ub (by omega)
    refine ⟨_, _, rfl, rfl, wm (p5000 (k := 400) (by omega)) (p5000 (pw400 ub (by omega))), ?_⟩
    have kk := k H2 (e1.trans e2)
    rw [Int.natCast_mul, Int.natCast_sub hpos] at kk
    exact kk
theorem ok_l_grid_spacing (T : Txt K mg a) : FnOk P w K mg base CX0 2 a.l_grid_spacing a.l_grid_spacing_fd ["grid", "top", "bottom"] (sp_lspacing K) := by
  refine T.F_l_grid_spacing.ok sc_l_grid_spacing (fun vs H Q E h => ?_) (fun cdv A outer s H vs Q E hr h => ?_)
  · obtain ⟨t, b, f, r, pl, x, d, rfl, _⟩ := h
    rfl
  · obtain ⟨t, b, f, r, pl, x, d, rfl, ht, ⟨hb, ub, uf, ur⟩, hd, hd7, hx0, k⟩ := h
    have hx : x.natAbs / d < 2 ^ 2400 := Nat.lt_of_le_of_lt (Nat.div_le_self _ _) hx0
    have dsz : ((d : Nat) : Int).natAbs < 2 ^ 2400 := by rw [Int.natAbs_natCast]; exact hd7
    refine ⟨_, (pss_cons (ps_par (i := 3) (j := 4) (by rfl) sc_l_grid_spacing.nd rfl rfl (by decide) rfl rfl (pa_cons pe_int (pa_cons (pe_call (ok_l_grid_power T) (hr.mono (by decide)) rfl T.g_l_grid_power T.k_l_grid_power T.B_l_grid_power .nil pass0 (pa_cons (pe_ix ix_tup (pv 0) pe_int (fun _ _ => rfl)) (pa_cons (pe_ix ix_tup (pv 0) pe_int (fun _ _ => rfl)) pa_nil))) pa_nil)) (by rfl))
      (pss_cons (ps_while PassesOwn.never (pt_cmpR op_ge (pe_callB call_abs (by rfl) T.n_abs (by decide +kernel) (pa_cons (pv 1) pa_nil)) (pe_op op_mulW (pe_op op_mulW (pv 2) (pv 4)) (pv 3)) (nomark _)) (pss_one (ps_set (i := 3) sc_l_grid_spacing.nd rfl (Or.inl rfl) (pe_op op_mulW (pv 3) (pe_ix ix_tup (pv 0) pe_int (fun _ _ => rfl))))))
      (pss_one (ps_ret (pv 3))))), ?_⟩
    refine ⟨_, rfl, t, _, _, _, rfl, rfl, ht, g0, _, rfl, t, _, _, _, rfl, rfl, ht, g1, b, f, rfl, ub, by omega, fun H1 e1 => ⟨_, _, rfl, ?_⟩⟩
    have hM : 1 ≤ b ^ f := Nat.pow_pos (by omega)
    have hMl : b ^ f < 2 ^ 400 := pw400 ub (by omega)
    have ht1 := ht.ex e1
    generalize hMe : b ^ f = M at *
    refine ⟨fun c σ H' => ∃ k : Nat, H' = H1 ∧ c = spx b (M * b ^ k) (x.natAbs / d) ∧ spx b M (x.natAbs / d) = k + spx b (M * b ^ k) (x.natAbs / d) ∧ M * b ^ k < 2 ^ 2410 ∧ σ = [some (.ref t), some (.int x), some (.int d), some (.int ((b ^ k : Nat) : Int)), some (.int (M : Int))],
      ⟨_, 0, rfl, rfl, by rw [Nat.pow_zero, Nat.mul_one]; omega, by rw [Nat.pow_zero, Nat.mul_one]; exact Nat.lt_trans hMl (by decide +kernel), by rw [Nat.pow_zero]; rfl⟩, ?_⟩
    rintro c σ H' ⟨k', rfl, rfl, h1, h2, rfl⟩
    have hbk : b ^ k' < 2 ^ 2410 := Nat.lt_of_le_of_lt (Nat.le_mul_of_pos_left _ hM) h2
    refine ⟨_, rfl, _, rfl, _, rfl, _, rfl, _, _, rfl, rfl, wm (p5000 dsz) (p5000 (k := 400) hMl), _, rfl, _, _, rfl, rfl, wm (p5000 (wide_lt dsz (b := 400) (by rw [Int.natAbs_natCast]; exact hMl))) (p5000 hbk), _, _, rfl, rfl, _, rfl, ?_⟩
    rw [absI, ← Int.natCast_mul, ← Int.natCast_mul]
    refine ite2 (fun hc => ?_) (fun hc => ?_)
    · have hc : M * b ^ k' ≤ x.natAbs / d := by
        have := Int.ofNat_le.mp (of_decide_eq_true hc)
        refine (Nat.le_div_iff_mul_le hd).mpr ?_
        rw [Nat.mul_comm _ d, ← Nat.mul_assoc]
        exact this
      refine ⟨fun σ' H2 => H2 = H' ∧ σ' = [some (.ref t), some (.int x), some (.int d), some (.int ((b ^ (k' + 1) : Nat) : Int)), some (.int (M : Int))], ?_, ?_⟩
      · rintro σ' H2 ⟨rfl, rfl⟩
        have hpos : 1 ≤ M * b ^ k' := Nat.mul_pos hM (Nat.pow_pos (by omega))
        have hstep : spx b (M * b ^ k') (x.natAbs / d) = 1 + spx b (M * b ^ (k' + 1)) (x.natAbs / d) := by
          rw [Nat.pow_succ, ← Nat.mul_assoc]
          exact spx_ge hb hpos hc
        refine ⟨_, ?_, k' + 1, rfl, rfl, by omega, ?_, rfl⟩
        · omega
        · rw [Nat.pow_succ, ← Nat.mul_assoc]
          have : M * b ^ k' * b ≤ x.natAbs / d * 10 := Nat.mul_le_mul hc ub
          have h10 : 2 ^ 2400 * 10 ≤ 2 ^ 2410 := by decide +kernel
          omega
      · refine ⟨_, rfl, _, rfl, t, _, _, _, rfl, rfl, ht1, g0, _, _, rfl, rfl, wm (p5000 hbk) (p5000 (k := 400) (by rw [Int.natAbs_natCast]; exact Nat.lt_of_le_of_lt ub (by decide +kernel))), rfl, ?_⟩
        show [_, _, _, some (V.int (((b ^ k' : Nat) : Int) * (b : Int))), _] = _
        rw [Nat.pow_succ, Int.natCast_mul (b ^ k') b]
    · have hc : ¬ M * b ^ k' ≤ x.natAbs / d := fun z => hc (decide_eq_true (Int.ofNat_le.mpr (by
        have := (Nat.le_div_iff_mul_le hd).mp z
        rw [Nat.mul_comm _ d, ← Nat.mul_assoc] at this
        exact this)))
      refine ⟨_, rfl, ?_⟩
      have h0 : spx b (M * b ^ k') (x.natAbs / d) = 0 := spx_lt (by omega)
      have : spc b M (x.natAbs / d) = b ^ k' := by
        unfold spc
        rw [h1, h0, Nat.add_zero]
      rw [← this]
      exact k _ e1
theorem ok_l_grid_has (T : Txt K mg a) : FnOk P w K mg base CX0 3 a.l_grid_has a.l_grid_has_fd ["grid", "number"] (sp_has K) := by
  refine T.F_l_grid_has.ok sc_l_grid_has (fun vs H Q E h => ?_) (fun cdv A outer s H vs Q E hr h => ?_)
  · obtain ⟨t, b, f, r, pl, x, rfl, _⟩ := h
    rfl
  · obtain ⟨t, b, f, r, pl, x, rfl, ht, hv, hx, k⟩ := h
    refine ⟨_, (pss_one (ps_ret (pe_and (pe_cmpR op_le (pe_callB call_abs (by rfl) T.n_abs (by decide +kernel) (pa_cons (pv 1) pa_nil)) (pe_call (ok_l_grid_greatest T) (hr.mono (by decide)) rfl T.g_l_grid_greatest T.k_l_grid_greatest T.B_l_grid_greatest .nil pass0 (pa_cons (pv 0) pa_nil)) (nomark _)) (pe_one (pe_cmpR op_eq (pe_op op_mod (pe_callTy call_int1 (by rfl) T.n_int (by decide +kernel) (pa_cons (pv 1) pa_nil)) (pe_call (ok_l_grid_spacing T) (hr.mono (by decide)) rfl T.g_l_grid_spacing T.k_l_grid_spacing T.B_l_grid_spacing .nil pass0 (pa_cons (pv 0) (pa_cons (pv 1) (pa_cons pe_int pa_nil))))) pe_int (nomark _)))))), ?_⟩
    refine ⟨_, rfl, _, rfl, _, rfl, t, b, f, r, pl, rfl, ht, hv, fun H1 e1 => ⟨_, _, rfl, rfl, _, rfl, ?_⟩⟩
    rw [absI]
    refine ite2 (fun h => ?_) (fun h => ?_)
    · have h := Int.ofNat_le.mp (of_decide_eq_true h)
      have hs := spcI_pos (L := b ^ f) hv.1 x.natAbs
      refine ⟨_, rfl, .inl ⟨_, rfl, _, rfl, _, rfl, t, b, f, r, pl, x, 1, rfl, ht.ex e1, hv, by decide, by decide +kernel, hx, fun H2 e2 => ?_⟩⟩
      rw [Nat.div_one]
      refine ⟨_, _, rfl, rfl, hs, rfl, ?_⟩
      have kk := k H2 (e1.trans e2)
      rw [decide_eq_true h, Bool.true_and] at kk
      show Q (V.bl (decide (V.int (x % (spc b (b ^ f) x.natAbs : Nat)) = V.int 0))) H2
      have : decide (V.int (x % (spc b (b ^ f) x.natAbs : Nat)) = V.int 0) = decide (x % (spc b (b ^ f) x.natAbs : Nat) = 0) := by simp
      rw [this]
      exact kk
    · have h : ¬ x.natAbs ≤ (b ^ f - 1) * b ^ r := fun z => h (decide_eq_true (Int.ofNat_le.mpr z))
      have kk := k H1 e1
      rw [decide_eq_false h, Bool.false_and] at kk
      exact kk
theorem ok_l_grid_more (T : Txt K mg a) : FnOk P w K mg base CX0 1 a.l_grid_more a.l_grid_more_fd ["grid", "more"] (sp_more K) := by
  refine T.F_l_grid_more.ok sc_l_grid_more (fun vs H Q E h => ?_) (fun cdv A outer s H vs Q E hr h => ?_)
  · obtain ⟨t, b, f, r, pl, m, rfl, _⟩ := h
    rfl
  · obtain ⟨t, b, f, r, pl, m, rfl, ht, k⟩ := h
    refine ⟨_, (pss_one (ps_ret (pe_tup (pa_cons (pe_ix ix_tup (pv 0) pe_int (fun _ _ => rfl)) (pa_cons (pe_op op_add (pe_ix ix_tup (pv 0) pe_int (fun _ _ => rfl)) (pv 1)) (pa_cons (pe_ix ix_tup (pv 0) pe_int (fun _ _ => rfl)) (pa_cons (pe_ix ix_tup (pv 0) pe_int (fun _ _ => rfl)) pa_nil))))))), ?_⟩
    refine ⟨_, rfl, t, _, _, _, rfl, rfl, ht, g0, _, rfl, t, _, _, _, rfl, rfl, ht, g1, _, rfl, _, _, rfl, rfl, _, rfl, t, _, _, _, rfl, rfl, ht, g2, _, rfl, t, _, _, _, rfl, rfl, ht, g3, by show 4 ≤ sizeLine; decide, fun q hq => ?_⟩
    refine k q _ (Ex.new hq) ?_
    rw [upd_same, Int.natCast_add]
end
end My


set_option Elab.async false
set_option maxRecDepth 100000
set_option maxHeartbeats 1000000
set_option exponentiation.threshold 6000
namespace My
open PySem L2 Evl
def sp_check_worth : Sp := fun vs H Q _ => ∃ (t : Int) (d : Nat), vs = [.int t, .int d] ∧ 1 ≤ d ∧ ∀ H', Ex H H' → Q .non H'
def sp_check_way : Sp := fun vs H Q _ => ∃ y : Wy, vs = [.str y.str] ∧ ∀ H', Ex H H' → Q .non H'
def sp_check_more : Sp := fun vs H Q _ => ∃ m : Nat, vs = [.int m] ∧ m ≤ 3 ∧ ∀ H', Ex H H' → Q .non H'
def sp_is_tie (a : Ad) : Sp := fun vs H Q _ => ∃ (g : Addr) (b f r L G : Nat) (t : Int) (d m : Nat), vs = [.ref g, .int t, .int d, .int m] ∧ GridAt a H g b f r L G ∧ 1 ≤ d ∧ d < 2 ^ 2400 ∧ m ≤ 3 ∧ t.natAbs < 2 ^ 2400 ∧
  ∀ H', Ex H H' → Q (.bl (decide (t % ((d : Int) * (sps b (b ^ (f + m)) t d : Int)) * 2 = (d : Int) * (sps b (b ^ (f + m)) t d : Int)))) H'
def sp_around (a : Ad) : Sp := fun vs H Q _ => ∃ (g : Addr) (b f r L G : Nat) (t : Int) (d m : Nat), vs = [.ref g, .int t, .int d, .int m] ∧ GridAt a H g b f r L G ∧ 1 ≤ d ∧ d < 2 ^ 2400 ∧ m ≤ 3 ∧ t.natAbs < 2 ^ 2400 ∧
  ∀ q H', Ex H H' → H' q = some (.tup [.int (t / ((d : Int) * (sps b (b ^ (f + m)) t d : Int)) * (sps b (b ^ (f + m)) t d : Int)), .int (-(-t / ((d : Int) * (sps b (b ^ (f + m)) t d : Int))) * (sps b (b ^ (f + m)) t d : Int))]) → Q (.ref q) H'
def sp_reduced : Sp := fun vs H Q _ => ∃ (t : Int) (d : Nat), vs = [.int t, .int d] ∧ 1 ≤ d ∧ d < 2 ^ 2400 ∧ t.natAbs < 2 ^ 4900 ∧
  ∀ q H', Ex H H' → H' q = some (.tup [.int (t / ((Nat.gcd t.natAbs d : Nat) : Int)), .int ((d / Nat.gcd t.natAbs d : Nat) : Int)]) → Q (.ref q) H'
def sp_rest (a : Ad) : Sp := fun vs H Q _ => ∃ (g : Addr) (b f r L G : Nat) (t : Int) (d m : Nat) (y : Wy), vs = [.ref g, .int t, .int d, .str y.str, .int m] ∧ GridAt a H g b f r L G ∧ 1 ≤ d ∧ d < 2 ^ 2400 ∧ m ≤ 3 ∧ t.natAbs < 2 ^ 2400 ∧
  ((rg y b (b ^ (f + m)) t d).natAbs ≤ (b ^ (f + m) - 1) * b ^ r → ∀ q H', Ex H H' → H' q = some (.tup [.int ((t - rg y b (b ^ (f + m)) t d * d) / ((Nat.gcd (t - rg y b (b ^ (f + m)) t d * d).natAbs d : Nat) : Int)), .int ((d / Nat.gcd (t - rg y b (b ^ (f + m)) t d * d).natAbs d : Nat) : Int)]) → Q (.ref q) H') ∧
  (¬ (rg y b (b ^ (f + m)) t d).natAbs ≤ (b ^ (f + m) - 1) * b ^ r → ∀ H', Ex H H' → Q .non H')
section
variable {P : Program} {w : World} {K : PySem.W.Frag} {mg : Str → Option Value} {base : Heap} {a : Ad}
end
end My


set_option Elab.async false
set_option maxRecDepth 100000
set_option maxHeartbeats 1000000
set_option exponentiation.threshold 6000
namespace My
open PySem L2 Evl
def sp_rnd (K : PySem.W.Frag) : Sp := fun vs H Q _ => ∃ (t : Addr) (b f r pl : Nat) (x : Int) (d m : Nat) (y : Wy), vs = [.ref t, .int x, .int d, .str y.str, .int m] ∧ TG K H t b f r pl ∧ (2 ≤ b ∧ b ≤ 10 ∧ f + m ≤ 33 ∧ r ≤ 60) ∧ 1 ≤ d ∧ d < 2 ^ 2400 ∧ x.natAbs < 2 ^ 2400 ∧
  ∀ H', Ex H H' → Q (rgO y b f r m x d) H'
section
variable {P : Program} {w : World} {K : PySem.W.Frag} {mg : Str → Option Value} {base : Heap} {a : Ad}
theorem ok_l_grid_rounded (T : Txt K mg a) : FnOk P w K mg base CX0 3 a.l_grid_rounded a.l_grid_rounded_fd ["grid", "top", "bottom", "way", "more"] (sp_rnd K) := by
  refine T.F_l_grid_rounded.ok sc_l_grid_rounded (fun vs H Q E h => ?_) (fun cdv A outer s H vs Q E hr h => ?_)
  · obtain ⟨t, b, f, r, pl, x, d, m, y, rfl, _⟩ := h
    rfl
  · obtain ⟨t, b, f, r, pl, x, d, m, y, rfl, ht, hv, hd, hd7, hx, k⟩ := h
    refine ⟨_, (pss_cons (ps_set (i := 5) sc_l_grid_rounded.nd rfl (Or.inl rfl) (pe_call (ok_l_grid_more T) (hr.mono (by decide)) rfl T.g_l_grid_more T.k_l_grid_more T.B_l_grid_more .nil pass0 (pa_cons (pv 0) (pa_cons (pv 4) pa_nil))))
      (pss_cons (ps_set (i := 6) sc_l_grid_rounded.nd rfl (Or.inl rfl) (pe_call (ok_l_grid_spacing T) (hr.mono (by decide)) rfl T.g_l_grid_spacing T.k_l_grid_spacing T.B_l_grid_spacing .nil pass0 (pa_cons (pv 5) (pa_cons (pv 1) (pa_cons (pv 2) pa_nil)))))
      (pss_cons (ps_par (i := 7) (j := 8) (by rfl) sc_l_grid_rounded.nd rfl rfl (by decide) rfl rfl (pa_cons (pe_op op_fdivW (pe_callTy call_int1 (by rfl) T.n_int (by decide +kernel) (pa_cons (pv 1) pa_nil)) (pe_op op_mulW (pv 2) (pv 6))) (pa_cons (pe_op op_mod (pe_callTy call_int1 (by rfl) T.n_int (by decide +kernel) (pa_cons (pv 1) pa_nil)) (pe_op op_mulW (pv 2) (pv 6))) pa_nil)) (by rfl))
      (pss_cut (ps_if (pt_cmpR op_eq (pv 3) pe_str (nomark _)) (pss_cons (ps_set (i := 10) sc_l_grid_rounded.nd rfl (Or.inl rfl) (pe_op op_sub (pe_op op_mulW pe_int (pv 8)) (pe_op op_mulW (pv 2) (pv 6))))
      (pss_one (ps_set (i := 11) sc_l_grid_rounded.nd rfl (Or.inl rfl) (pe_callTy call_int1 (by rfl) T.n_int (by decide +kernel) (pa_cons (pe_or (pe_cmpR op_gt (pv 10) pe_int (nomark _)) (pe_one (pe_and (pe_cmpR op_eq (pv 10) pe_int (nomark _)) (pe_one (pe_cmpR op_eq (pe_op op_mod (pe_callTy call_int1 (by rfl) T.n_int (by decide +kernel) (pa_cons (pv 7) pa_nil)) pe_int) pe_int (nomark _)))))) pa_nil))))) (pss_one (ps_set (i := 11) sc_l_grid_rounded.nd rfl (Or.inl rfl) (pe_callTy call_int1 (by rfl) T.n_int (by decide +kernel) (pa_cons (pe_and (pe_cmpR op_gt (pv 8) pe_int (nomark _)) (pe_one (pe_or (pe_cmpR op_eq (pv 3) pe_str (nomark _)) (pe_one (pe_and (pe_cmpR op_eq (pv 3) pe_str (nomark _)) (pe_one (pe_cmpR op_lt (pv 1) pe_int (nomark _)))))))) pa_nil)))))
      (pss_cons (ps_set (i := 9) sc_l_grid_rounded.nd rfl (Or.inl rfl) (pe_op op_mulW (pe_op op_add (pv 7) (pv 11)) (pv 6)))
      (pss_one (ps_ret (pe_ifExp (pt_cmpR op_le (pe_callB call_abs (by rfl) T.n_abs (by decide +kernel) (pa_cons (pv 9) pa_nil)) (pe_call (ok_l_grid_greatest T) (hr.mono (by decide)) rfl T.g_l_grid_greatest T.k_l_grid_greatest T.B_l_grid_greatest .nil pass0 (pa_cons (pv 5) pa_nil)) (nomark _)) (pv 9) pe_non)))))))), ?_⟩
    obtain ⟨hb, ub, uf, ur⟩ := id hv
    have dsz : ((d : Nat) : Int).natAbs < 2 ^ 2400 := by rw [Int.natAbs_natCast]; exact hd7
    refine ⟨_, rfl, _, rfl, t, b, f, r, pl, m, rfl, ht, fun q H1 e1 hq => ?_⟩
    have hq : TG K H1 q b (f + m) r pl := SqT.of hq
    refine ⟨_, rfl, _, rfl, _, rfl, q, b, f + m, r, pl, x, d, rfl, hq, hv, hd, hd7, hx, fun H2 e2 => ?_⟩
    have hL : 1 ≤ b ^ (f + m) := Nat.pow_pos (by omega)
    have hs : (0 : Int) < ((spc b (b ^ (f + m)) (x.natAbs / d) : Nat) : Int) := sps_pos (L := b ^ (f + m)) hb x d
    have hsz := spc_sz hb ub hL (Nat.lt_of_le_of_lt (Nat.div_le_self _ _) hx : x.natAbs / d < 2 ^ 2400)
    have hsz' : ((spc b (b ^ (f + m)) (x.natAbs / d) : Nat) : Int).natAbs < 2 ^ 2410 := by rw [Int.natAbs_natCast]; exact hsz
    have ers : ∀ (up : Bool) (st : Int), ((x % ((d : Int) * ((spc b (b ^ (f + m)) (x.natAbs / d) : Nat) : Int)) != 0) = true ∧ wup y (x / ((d : Int) * ((spc b (b ^ (f + m)) (x.natAbs / d) : Nat) : Int))) (x % ((d : Int) * ((spc b (b ^ (f + m)) (x.natAbs / d) : Nat) : Int))) ((d : Int) * ((spc b (b ^ (f + m)) (x.natAbs / d) : Nat) : Int)) = true ↔ up = true) → st = (if up = true then 1 else 0) →
        (x / ((d : Int) * ((spc b (b ^ (f + m)) (x.natAbs / d) : Nat) : Int)) + st) * ((spc b (b ^ (f + m)) (x.natAbs / d) : Nat) : Int) = rg y b (b ^ (f + m)) x d := by
      intro up st h1 h2
      show _ = (if _ then _ else _)
      cases up with
      | true =>
        rw [h2, if_pos rfl]
        exact (if_pos (h1.mpr rfl)).symm
      | false =>
        rw [h2, if_neg (by decide), Int.add_zero]
        exact (if_neg (fun z => absurd (h1.mp z) (by decide))).symm
    generalize ((spc b (b ^ (f + m)) (x.natAbs / d) : Nat) : Int) = s at *
    have hS : 0 < (d : Int) * s := Int.mul_pos (by omega) hs
    have hSz : ((d : Int) * s).natAbs < 2 ^ 4810 := wide_lt dsz hsz'
    refine ⟨_, rfl, .inl ⟨_, rfl, _, rfl, _, rfl, _, _, rfl, rfl, wm (p5000 dsz) (p5000 hsz'), _, _, rfl, rfl, wd hS (p5000 hSz), _, rfl, .inl ⟨_, rfl, _, rfl, _, rfl, _, _, rfl, rfl, wm (p5000 dsz) (p5000 hsz'), _, _, rfl, rfl, hS, _, _, rfl, ?_⟩⟩⟩
    dsimp only
    generalize hSS : (d : Int) * s = S at *
    obtain ⟨q1, q2⟩ := quo_sz' hS hx
    have qm := mod_sz (t := x) hS hSz
    obtain ⟨f1, f2, f3⟩ := div_facts x S hS
    refine ⟨fun σ H3 => Ex H H3 ∧ TG K H3 q b (f + m) r pl ∧ ∃ z2 st, σ = [some (.ref t), some (.int x), some (.int d), some (.str y.str), some (.int m), some (.ref q), some (.int s), some (.int (x / S)), some (.int (x % S)), none, z2, some (.int st)] ∧ (st = 0 ∨ st = 1) ∧ (x / S + st) * s = rg y b (b ^ (f + m)) x d, ?_, ?_⟩
    · have hq2 := hq.ex e2
      have e12 := e1.trans e2
      cases y with
      | near =>
        refine ⟨_, rfl, rfl, _, rfl, ?_⟩
        refine ite2 (fun _ => ?_) (fun h => absurd (by decide +kernel) h)
        refine ⟨_, rfl, _, _, rfl, rfl, wm (by decide +kernel) (p5000 qm), _, rfl, _, rfl, _, _, rfl, rfl, wm (p5000 dsz) (p5000 hsz'), _, _, rfl, rfl, ?_⟩
        dsimp only
        rw [hSS]
        refine ⟨_, rfl, _, _, rfl, rfl, _, rfl, ?_⟩
        refine ite2 (fun h => ?_) (fun h => ?_)
        · have h := of_decide_eq_true h
          exact .inr ⟨_, rfl, e12, hq2, _, 1, rfl, .inr rfl, ers true 1 (by simp [wup]; omega) rfl⟩
        · have h : ¬ (0 < 2 * (x % S) - S) := fun z => h (decide_eq_true z)
          refine ⟨_, rfl, rfl, _, rfl, ?_⟩
          refine ite2 (fun h2 => ?_) (fun h2 => ?_)
          · have h2 : 2 * (x % S) - S = 0 := by simpa using h2
            refine ⟨_, rfl, .inl ⟨_, rfl, _, _, rfl, rfl, (by show (0 : Int) < 2; decide), rfl, ?_⟩⟩
            refine .inr ⟨_, rfl, e12, hq2, _, if decide (V.int (x / S % 2) = V.int 1) = true then 1 else 0, rfl, ?_, ers (decide (V.int (x / S % 2) = V.int 1)) _ ?_ rfl⟩
            · split
              · exact .inr rfl
              · exact .inl rfl
            · simp [wup]
              omega
          · have h2 : ¬ 2 * (x % S) - S = 0 := by simpa using h2
            exact .inr ⟨_, rfl, e12, hq2, _, 0, rfl, .inl rfl, ers false 0 (by simp [wup]; omega) rfl⟩
      | zero =>
        refine ⟨_, rfl, rfl, _, rfl, ?_⟩
        refine ite2 (fun h => absurd h (by decide +kernel)) (fun _ => ?_)
        refine ⟨_, rfl, _, _, rfl, rfl, _, rfl, ?_⟩
        refine ite2 (fun h => ?_) (fun h => ?_)
        · have h := of_decide_eq_true h
          refine ⟨_, rfl, rfl, _, rfl, ?_⟩
          refine ite2 (fun h => absurd h (by decide +kernel)) (fun _ => ?_)
          refine ⟨_, rfl, rfl, _, rfl, ?_⟩
          refine ite2 (fun _ => ?_) (fun h => absurd (by decide +kernel) h)
          refine ⟨_, rfl, _, _, rfl, rfl, ?_⟩
          have hneg : x / S < 0 ↔ x < 0 := by
            constructor
            · intro z
              by_cases w : x < 0
              · exact w
              · exact absurd (Int.ediv_nonneg (show 0 ≤ x by omega) (show 0 ≤ S by omega)) (by omega)
            · intro z
              exact Int.ediv_neg_of_neg_of_pos z hS
          refine .inr ⟨_, rfl, e12, hq2, _, if decide (x < 0) = true then 1 else 0, rfl, ?_, ers (decide (x < 0)) _ ?_ rfl⟩
          · split
            · exact .inr rfl
            · exact .inl rfl
          · simp [wup]
            rw [hneg]
            omega
        · have h : ¬ 0 < x % S := fun z => h (decide_eq_true z)
          exact .inr ⟨_, rfl, e12, hq2, _, 0, rfl, .inl rfl, ers false 0 (by simp [wup]; omega) rfl⟩
      | up =>
        refine ⟨_, rfl, rfl, _, rfl, ?_⟩
        refine ite2 (fun h => absurd h (by decide +kernel)) (fun _ => ?_)
        refine ⟨_, rfl, _, _, rfl, rfl, _, rfl, ?_⟩
        refine ite2 (fun h => ?_) (fun h => ?_)
        · have h := of_decide_eq_true h
          refine ⟨_, rfl, rfl, _, rfl, ?_⟩
          refine ite2 (fun _ => ?_) (fun h => absurd (by decide +kernel) h)
          exact .inr ⟨_, rfl, e12, hq2, _, 1, rfl, .inr rfl, ers true 1 (by simp [wup]; omega) rfl⟩
        · have h : ¬ 0 < x % S := fun z => h (decide_eq_true z)
          exact .inr ⟨_, rfl, e12, hq2, _, 0, rfl, .inl rfl, ers false 0 (by simp [wup]; omega) rfl⟩
      | down =>
        refine ⟨_, rfl, rfl, _, rfl, ?_⟩
        refine ite2 (fun h => absurd h (by decide +kernel)) (fun _ => ?_)
        refine ⟨_, rfl, _, _, rfl, rfl, _, rfl, ?_⟩
        refine ite2 (fun h => ?_) (fun h => ?_)
        · refine ⟨_, rfl, rfl, _, rfl, ?_⟩
          refine ite2 (fun h => absurd h (by decide +kernel)) (fun _ => ?_)
          refine ⟨_, rfl, rfl, _, rfl, ?_⟩
          refine ite2 (fun h => absurd h (by decide +kernel)) (fun _ => ?_)
          exact .inr ⟨_, rfl, e12, hq2, _, 0, rfl, .inl rfl, ers false 0 (by simp [wup]) rfl⟩
        · exact .inr ⟨_, rfl, e12, hq2, _, 0, rfl, .inl rfl, ers false 0 (by simp [wup]) rfl⟩
    · rintro σ H3 ⟨e3, hq3, z2, st, rfl, hst, hv2⟩
      have hsz2 : (x / S + st).natAbs < 2 ^ 2401 := by
        rcases hst with rfl | rfl
        · rw [Int.add_zero]; exact q1
        · exact q2
      refine ⟨_, rfl, _, rfl, _, _, rfl, rfl, _, rfl, _, _, rfl, rfl, wm (p5000 hsz2) (p5000 hsz'), ?_⟩
      dsimp only
      rw [hv2]
      refine ⟨_, rfl, _, rfl, _, rfl, q, b, f + m, r, pl, rfl, hq3, hv, fun H4 e4 => ⟨_, _, rfl, rfl, _, rfl, ?_⟩⟩
      rw [absI]
      have kq := k H4 (e3.trans e4)
      unfold rgO at kq
      refine ite2 (fun h => ?_) (fun h => ?_)
      · have h := Int.ofNat_le.mp (of_decide_eq_true h)
        rw [if_pos h] at kq
        exact ⟨_, rfl, kq⟩
      · have h : ¬ (rg y b (b ^ (f + m)) x d).natAbs ≤ (b ^ (f + m) - 1) * b ^ r := fun z => h (decide_eq_true (Int.ofNat_le.mpr z))
        rw [if_neg h] at kq
        exact kq
end
end My


set_option Elab.async false
set_option maxRecDepth 100000
set_option maxHeartbeats 1000000
set_option exponentiation.threshold 6000
namespace My
open PySem L2 Evl
theorem rg_rz {b L : Nat} (hb : 2 ≤ b) (t : Int) : rg .zero b L t 1 = rz b L t := by
  have hs := spcI_pos (L := L) hb t.natAbs
  have one : (((1 : Nat) : Int)) * (spc b L t.natAbs : Int) = (spc b L t.natAbs : Int) := by simp
  unfold rg rz sps
  rw [Nat.div_one, one]
  generalize (spc b L t.natAbs : Int) = s at *
  obtain ⟨h1, h2, h3⟩ := div_facts t s hs
  have hneg : t / s < 0 ↔ t < 0 := by
    constructor
    · intro z
      by_cases w : t < 0
      · exact w
      · exact absurd (Int.ediv_nonneg (show 0 ≤ t by omega) (show 0 ≤ s by omega)) (by omega)
    · intro z
      exact Int.ediv_neg_of_neg_of_pos z hs
  have e : ((t % s != 0) = true ∧ wup .zero (t / s) (t % s) s = true) ↔ (0 < t % s ∧ t < 0) := by
    simp [wup]
    rw [hneg]
    omega
  by_cases hc : 0 < t % s ∧ t < 0
  · rw [if_pos hc, if_pos (e.mpr hc)]
  · rw [if_neg hc, if_neg (fun z => hc (e.mp z))]
theorem rzO_rgO {b f r : Nat} (hb : 2 ≤ b) (t : Int) : rgO .zero b f r 0 t 1 = rzO b (b ^ f) ((b ^ f - 1) * b ^ r) t := by
  unfold rgO rzO
  rw [Nat.add_zero, rg_rz hb]
def okg (b f r : Nat) : Prop := 2 ≤ b ∧ b ≤ 10 ∧ 1 ≤ f ∧ f ≤ 30 ∧ r ≤ 60
def gG (b f r : Nat) : Nat := (b ^ f - 1) * b ^ r
theorem okg.gr {b f r : Nat} (h : okg b f r) : Gr b f r (b ^ f) (gG b f r) := ⟨h.1, h.2.2.1, rfl, rfl⟩
theorem okg.bG {b f r : Nat} (h : okg b f r) : gG b f r < 2 ^ 400 := by
  have h1 := h.gr.Gl
  rw [← Nat.pow_add] at h1
  exact Nat.lt_trans h1 (pw400 h.2.1 (by have := h.2.2.2.1; have := h.2.2.2.2; omega))
theorem okg.v {b f r : Nat} (h : okg b f r) : 2 ≤ b ∧ b ≤ 10 ∧ f ≤ 33 ∧ r ≤ 60 := ⟨h.1, h.2.1, by have := h.2.2.2.1; omega, h.2.2.2.2⟩
theorem TG.kp {K : PySem.W.Frag} {H H' : Hp} {t p : Addr} {b f r pl : Nat} (h : H t = some (.tup [.int b, .int f, .int r, .int pl])) (e : Kp p H H') (hn : t ≠ p) : TG K H' t b f r pl := SqT.of (e _ _ h hn)
theorem rz_onG2 {b f r L G : Nat} (g : Gr b f r L G) {t : Int} (h : (rz b L t).natAbs ≤ G) : OnG b L G (rz b L t) := by
  obtain ⟨q, e, h1⟩ := rz_cases (L := L) g.hb t
  have hu : t.natAbs < L * spc b L t.natAbs := spx_up g.hb (by have := g.L1; omega)
  exact onG_mul (k := spx b L t.natAbs) (q := q) g h (by show _ ≤ L * spc b L t.natAbs; omega) e
def sp_a_number (K : PySem.W.Frag) : Sp := fun vs H Q _ => ∃ (p t : Addr) (n b f r pl : Nat), vs = [.ref p, .ref t] ∧ PotAt H p n ∧ n + 10 ≤ 100000 ∧ H t = some (.tup [.int b, .int f, .int r, .int pl]) ∧ t ≠ p ∧ okg b f r ∧
  ∀ z H', Kp p H H' → PotAt H' p (n + 4) → OnG b (b ^ f) (gG b f r) z → Q (.int z) H'
def sp_cells (K : PySem.W.Frag) : Sp := fun vs H Q _ => ∃ (s : Addr) (ns : List Int) (m : Nat), vs = [.ref s, .int m] ∧ SqL K H s (ns.map V.int) ∧ 1 ≤ m ∧ m ≤ 5 ∧ ∀ (l : Addr) (k : Nat) H', Ex H H' → k ≤ m → H' l = some (.lst ((List.range k).map fun (i : Nat) => V.int (i : Int))) → Q (.ref l) H'
theorem ne_tup {H : Hp} {t p : Addr} {xs : List V} {n : Nat} (h : H t = some (.tup xs)) (hp : PotAt H p n) : t ≠ p := fun e => by
  obtain ⟨x, y, c, h1, _⟩ := hp
  rw [e, h1] at h
  cases h
section
variable {P : Program} {w : World} {K : PySem.W.Frag} {mg : Str → Option Value} {base : Heap} {a : Ad}
theorem ok_l_grid_a_number (T : Txt K mg a) : FnOk P w K mg base CX0 4 a.l_grid_a_number a.l_grid_a_number_fd ["pot", "grid"] (sp_a_number K) := by
  refine T.F_l_grid_a_number.ok sc_l_grid_a_number (fun vs H Q E h => ?_) (fun cdv A outer s H vs Q E hr h => ?_)
  · obtain ⟨p, t, n, b, f, r, pl, rfl, _⟩ := h
    rfl
  · obtain ⟨p, t, n, b, f, r, pl, rfl, hp, hn, ht, hne, hok, k⟩ := h
    refine ⟨_, (pss_cons (ps_par (i := 2) (j := 3) (by rfl) sc_l_grid_a_number.nd rfl rfl (by decide) rfl rfl (pa_cons (pe_call (ok_l_take T) (hr.mono (by decide)) rfl T.g_l_take T.k_l_take T.B_l_take .nil pass0 (pa_cons (pv 0) (pa_cons pe_int pa_nil))) (pa_cons (pe_call (ok_l_grid_greatest T) (hr.mono (by decide)) rfl T.g_l_grid_greatest T.k_l_grid_greatest T.B_l_grid_greatest .nil pass0 (pa_cons (pv 1) pa_nil)) pa_nil)) (by rfl))
      (pss_cut (ps_if (pt_cmpR op_eq (pv 2) pe_int (nomark _)) (pss_one (ps_set (i := 4) sc_l_grid_a_number.nd rfl (Or.inl rfl) (pe_callB (call_min2 rfl) (by rfl) T.n_min (by decide +kernel) (pa_cons (pv 3) (pa_cons (pe_call (ok_l_take T) (hr.mono (by decide)) rfl T.g_l_take T.k_l_take T.B_l_take .nil pass0 (pa_cons (pv 0) (pa_cons pe_int pa_nil))) pa_nil))))) (pss_one (ps_if (pt_cmpR op_lt (pv 2) pe_int (nomark _)) (pss_cons (ps_set (i := 5) sc_l_grid_a_number.nd rfl (Or.inl rfl) (pe_call (ok_l_grid_power T) (hr.mono (by decide)) rfl T.g_l_grid_power T.k_l_grid_power T.B_l_grid_power .nil pass0 (pa_cons (pe_ix ix_tup (pv 1) pe_int (fun _ _ => rfl)) (pa_cons (pe_op op_add (pe_ix ix_tup (pv 1) pe_int (fun _ _ => rfl)) (pe_call (ok_l_take T) (hr.mono (by decide)) rfl T.g_l_take T.k_l_take T.B_l_take .nil pass0 (pa_cons (pv 0) (pa_cons (pe_op op_add (pe_ix ix_tup (pv 1) pe_int (fun _ _ => rfl)) pe_int) pa_nil)))) pa_nil))))
      (pss_cons (ps_set (i := 4) sc_l_grid_a_number.nd rfl (Or.inl rfl) (pe_call (ok_l_grid_rounded T) (hr.mono (by decide)) rfl T.g_l_grid_rounded T.k_l_grid_rounded T.B_l_grid_rounded .nil pass0 (pa_cons (pv 1) (pa_cons (pe_op op_add (pv 5) (pe_call (ok_l_of T) (hr.mono (by decide)) rfl T.g_l_of T.k_l_of T.B_l_of .nil pass0 (pa_cons (pv 0) (pa_cons (pe_lst (pa_cons pe_int (pa_cons (pe_un un_neg pe_int) (pa_cons pe_int pa_nil)))) pa_nil)))) (pa_cons pe_int (pa_cons pe_str (pa_cons pe_int pa_nil)))))))
      (pss_one (ps_set (i := 4) sc_l_grid_a_number.nd rfl (Or.inl rfl) (pe_ifExp (pt_cmpR op_isN (pv 4) pe_non (nomark _)) (pv 3) (pv 4)))))) (pss_one (ps_if (pt_cmpR op_eq (pv 2) pe_int (nomark _)) (pss_cons (ps_set (i := 6) sc_l_grid_a_number.nd rfl (Or.inl rfl) (pe_op op_mulW (pe_call (ok_l_take T) (hr.mono (by decide)) rfl T.g_l_take T.k_l_take T.B_l_take .nil pass0 (pa_cons (pv 0) (pa_cons pe_int pa_nil))) (pe_call (ok_l_grid_power T) (hr.mono (by decide)) rfl T.g_l_grid_power T.k_l_grid_power T.B_l_grid_power .nil pass0 (pa_cons (pe_ix ix_tup (pv 1) pe_int (fun _ _ => rfl)) (pa_cons (pe_ix ix_tup (pv 1) pe_int (fun _ _ => rfl)) pa_nil)))))
      (pss_one (ps_set (i := 4) sc_l_grid_a_number.nd rfl (Or.inl rfl) (pe_call (ok_l_grid_rounded T) (hr.mono (by decide)) rfl T.g_l_grid_rounded T.k_l_grid_rounded T.B_l_grid_rounded .nil pass0 (pa_cons (pv 1) (pa_cons (pe_callB (call_max2 rfl) (by rfl) T.n_max (by decide +kernel) (pa_cons pe_int (pa_cons (pe_op op_sub (pv 3) (pv 6)) pa_nil))) (pa_cons pe_int (pa_cons pe_str (pa_cons pe_int pa_nil))))))))) (pss_one (ps_set (i := 4) sc_l_grid_a_number.nd rfl (Or.inl rfl) (pe_call (ok_l_grid_rounded T) (hr.mono (by decide)) rfl T.g_l_grid_rounded T.k_l_grid_rounded T.B_l_grid_rounded .nil pass0 (pa_cons (pv 1) (pa_cons (pe_call (ok_l_take T) (hr.mono (by decide)) rfl T.g_l_take T.k_l_take T.B_l_take .nil pass0 (pa_cons (pv 0) (pa_cons (pe_op op_add (pv 3) pe_int) pa_nil))) (pa_cons pe_int (pa_cons pe_str (pa_cons pe_int pa_nil)))))))))))))
      (pss_one (ps_ret (pe_ifExp (pt_cmpR op_eq (pe_call (ok_l_take T) (hr.mono (by decide)) rfl T.g_l_take T.k_l_take T.B_l_take .nil pass0 (pa_cons (pv 0) (pa_cons pe_int pa_nil))) pe_int (nomark _)) (pe_un un_neg (pv 4)) (pv 4)))))), ?_⟩
    obtain ⟨hb, ub, f1, uf, ur⟩ := id hok
    have hG := hok.bG
    have hG' : gG b f r = (b ^ f - 1) * b ^ r := rfl
    refine ⟨_, rfl, p, 6, n, rfl, hp, by omega, by decide, by decide +kernel, fun d H1 k1 p1 d0 d6 => ?_⟩
    refine ⟨_, rfl, t, b, f, r, pl, rfl, TG.kp ht k1 hne, hok.v, fun H2 e2 => ⟨_, _, rfl, ?_⟩⟩
    have k2 := k1.ex e2
    have p2 := p1.ex e2
    rw [← hG']
    have rzin : ∀ z : Int, z.natAbs ≤ gG b f r → rzO b (b ^ f) (gG b f r) z = .int (rz b (b ^ f) z) := fun z hz => if_pos (rz_le hok.gr.hb hz)
    have szG : ∀ z : Int, z.natAbs ≤ gG b f r → z.natAbs < 2 ^ 2400 := fun z hz => Nat.lt_of_le_of_lt hz (Nat.lt_trans hG (by decide +kernel))
    refine ⟨fun σ H3 => Kp p H H3 ∧ PotAt H3 p (n + 3) ∧ ∃ (z : Int) (z1 z2 : Option V), σ = [some (.ref p), some (.ref t), some (.int d), some (.int (gG b f r)), some (.int z), z1, z2] ∧ OnG b (b ^ f) (gG b f r) z, ?_, ?_⟩
    · refine ⟨_, rfl, rfl, _, rfl, ?_⟩
      refine ite2 (fun h => ?_) (fun h => ?_)
      · refine ⟨_, rfl, _, rfl, p, 3, n + 1, rfl, p2, by omega, by decide, by decide +kernel, fun d2 H3 k3 p3 e0 e3 => ?_⟩
        refine ⟨_, _, rfl, k2.trans k3, p3.mono (by omega), _, none, none, rfl, ?_⟩
        split
        · exact onG_two hok.gr e0 e3 (by omega)
        · exact onG_top hok.gr
      · refine ⟨_, rfl, _, _, rfl, rfl, _, rfl, ?_⟩
        refine ite2 (fun h => ?_) (fun h => ?_)
        · refine ⟨_, rfl, t, _, _, _, rfl, rfl, TG.kp ht k2 hne, g0, _, rfl, t, _, _, _, rfl, rfl, TG.kp ht k2 hne, g1, _, rfl, _, rfl, t, _, _, _, rfl, rfl, TG.kp ht k2 hne, g2, _, _, rfl, rfl, p, (r : Int) + 1, n + 1, rfl, p2, by omega, by omega, Nat.lt_of_le_of_lt (by omega : ((r : Int) + 1).natAbs ≤ 61) (by decide +kernel), fun d2 H3 k3 p3 e0 e3 => ?_⟩
          have k3' := k2.trans k3
          refine ⟨_, _, rfl, rfl, b, f + d2.toNat, ?_, ub, by omega, fun H4 e4 => ?_⟩
          · show [V.int b, V.int ((f : Int) + d2)] = [V.int b, V.int ((f + d2.toNat : Nat) : Int)]
            have : (f : Int) + d2 = ((f + d2.toNat : Nat) : Int) := by omega
            rw [this]
          have k4 := k3'.ex e4
          have p4 := p3.ex e4
          refine ⟨_, rfl, _, rfl, _, rfl, _, rfl, by decide, fun l hl => ?_⟩
          have k5 := k4.ex (Ex.new (o := .lst [V.int 0, V.int (-1), V.int 1]) hl)
          have p5 := p4.ex (Ex.new (o := .lst [V.int 0, V.int (-1), V.int 1]) hl)
          refine ⟨p, l, n + 2, [V.int 0, V.int (-1), V.int 1], rfl, p5, by omega, upd_same, p4.ne hl, by decide, by decide, fun i v H6 hv k6 p6 => ?_⟩
          obtain ⟨z, rfl, hz⟩ : ∃ z : Int, v = .int z ∧ -1 ≤ z ∧ z ≤ 1 := by
            match i, hv with
            | 0, hv => cases hv; exact ⟨0, rfl, by decide, by decide⟩
            | 1, hv => cases hv; exact ⟨-1, rfl, by decide, by decide⟩
            | 2, hv => cases hv; exact ⟨1, rfl, by decide, by decide⟩
          have k7 := k5.trans k6
          have hpw : b ^ (f + d2.toNat) < 2 ^ 400 := pw400 ub (by omega)
          have hsz : (((b ^ (f + d2.toNat) : Nat) : Int) + z).natAbs < 2 ^ 2400 := by
            have h10 : 2 ^ 400 + 2 < 2 ^ 2400 := by decide +kernel
            omega
          refine ⟨_, _, rfl, rfl, t, b, f, r, pl, _, 1, 0, .zero, rfl, TG.kp ht k7 hne, hok.v, by decide, by decide +kernel, hsz, fun H8 e8 => ?_⟩
          have k8 := k7.ex e8
          have p8 := p6.ex e8
          rw [rzO_rgO hb, ← hG']
          unfold rzO
          by_cases hle : (rz b (b ^ f) (((b ^ (f + d2.toNat) : Nat) : Int) + z)).natAbs ≤ gG b f r
          · rw [if_pos hle]
            refine ⟨_, rfl, rfl, _, rfl, ?_⟩
            refine ite2 (fun h => absurd h (by simp)) (fun _ => ?_)
            exact ⟨_, rfl, k8, p8.mono (by omega), _, _, none, rfl, rz_onG2 hok.gr hle⟩
          · rw [if_neg hle]
            refine ⟨_, rfl, rfl, _, rfl, ?_⟩
            refine ite2 (fun _ => ?_) (fun h => absurd (by simp) h)
            exact ⟨_, rfl, k8, p8.mono (by omega), _, _, none, rfl, onG_top hok.gr⟩
        · refine ⟨_, rfl, rfl, _, rfl, ?_⟩
          refine ite2 (fun h => ?_) (fun h => ?_)
          · refine ⟨_, rfl, p, 3, n + 1, rfl, p2, by omega, by decide, by decide +kernel, fun d2 H3 k3 p3 e0 e3 => ?_⟩
            have k3' := k2.trans k3
            refine ⟨_, rfl, t, _, _, _, rfl, rfl, TG.kp ht k3' hne, g0, _, rfl, t, _, _, _, rfl, rfl, TG.kp ht k3' hne, g2, b, r, rfl, ub, by omega, fun H4 e4 => ?_⟩
            have hpw : b ^ r < 2 ^ 400 := pw400 ub (by omega)
            refine ⟨_, _, rfl, rfl, wm (p5000 (k := 64) (by omega)) (p5000 hpw), ?_⟩
            have k4 := k3'.ex e4
            have p4 := p3.ex e4
            refine ⟨_, rfl, _, rfl, _, rfl, _, _, rfl, rfl, _, _, rfl, ?_⟩
            have hz : (if (gG b f r : Int) - d2 * ((b ^ r : Nat) : Int) > 0 then (gG b f r : Int) - d2 * ((b ^ r : Nat) : Int) else 0).natAbs ≤ gG b f r := by
              have : 0 ≤ d2 * ((b ^ r : Nat) : Int) := Int.mul_nonneg e0 (by omega)
              split <;> omega
            refine ⟨t, b, f, r, pl, _, 1, 0, .zero, rfl, TG.kp ht k4 hne, hok.v, by decide, by decide +kernel, szG _ hz, fun H5 e5 => ?_⟩
            rw [rzO_rgO hb, ← hG', rzin _ hz]
            exact ⟨k4.ex e5, (p4.ex e5).mono (by omega), _, none, _, rfl, rz_onG hok.gr hz⟩
          · refine ⟨_, rfl, _, rfl, _, rfl, _, _, rfl, rfl, p, _, n + 1, rfl, p2, by omega, by omega, Nat.lt_of_le_of_lt (by omega : ((gG b f r : Int) + 1).natAbs ≤ gG b f r + 1) (Nat.lt_of_lt_of_le (Nat.succ_lt_succ hG) (by decide +kernel)), fun d2 H3 k3 p3 e0 e3 => ?_⟩
            have k3' := k2.trans k3
            have hz : d2.natAbs ≤ gG b f r := by omega
            refine ⟨t, b, f, r, pl, d2, 1, 0, .zero, rfl, TG.kp ht k3' hne, hok.v, by decide, by decide +kernel, szG _ hz, fun H5 e5 => ?_⟩
            rw [rzO_rgO hb, ← hG', rzin _ hz]
            exact ⟨k3'.ex e5, (p3.ex e5).mono (by omega), _, none, none, rfl, rz_onG hok.gr hz⟩
    · rintro σ H3 ⟨k3, p3, z, z1, z2, rfl, hz⟩
      refine ⟨_, rfl, p, 3, n + 3, rfl, p3, by omega, by decide, by decide +kernel, fun d2 H4 k4 p4 e0 e3 => ⟨rfl, _, rfl, ?_⟩⟩
      refine ite2 (fun _ => ?_) (fun _ => ?_)
      · exact ⟨_, rfl, _, rfl, k _ H4 (k3.trans k4) p4 hz.neg⟩
      · exact ⟨_, rfl, k _ H4 (k3.trans k4) p4 hz⟩
theorem ok_l_cells (T : Txt K mg a) : FnOk P w K mg base CX0 1 a.l_cells a.l_cells_fd ["script", "most"] (sp_cells K) := by
  refine T.F_l_cells.ok sc_l_cells (fun vs H Q E h => ?_) (fun cdv A outer s H vs Q E hr h => ?_)
  · obtain ⟨q, ns, m, rfl, _⟩ := h
    rfl
  · obtain ⟨q, ns, m, rfl, hs, h1, h5, k⟩ := h
    refine ⟨_, (pss_one (ps_ret (pe_listRg rfl rfl T.n_list (prg_1 rfl T.n_range (pe_callB (call_max2 rfl) (by rfl) T.n_max (by decide +kernel) (pa_cons pe_int (pa_cons (pe_callB (call_min2 rfl) (by rfl) T.n_min (by decide +kernel) (pa_cons (pv 1) (pa_cons (pe_callB call_len_seq (by rfl) T.n_len (by decide +kernel) (pa_cons (pv 0) pa_nil)) pa_nil))) pa_nil))))))), ?_⟩
    refine ⟨_, rfl, _, rfl, q, _, rfl, .inl hs, _, _, rfl, _, _, rfl, _, rfl, ⟨by decide, by decide, ?_, ?_, ?_⟩, fun l hl => ?_⟩
    · split <;> split <;> omega
    · split <;> split <;> omega
    · split <;> split <;> omega
    · obtain ⟨j, hj, hjm⟩ : ∃ j : Nat, (if (if ((ns.map V.int).length : Int) < (m : Int) then ((ns.map V.int).length : Int) else (m : Int)) > 1 then (if ((ns.map V.int).length : Int) < (m : Int) then ((ns.map V.int).length : Int) else (m : Int)) else 1) = (j : Int) ∧ j ≤ m := by
        refine ⟨(if (if ((ns.map V.int).length : Int) < (m : Int) then ((ns.map V.int).length : Int) else (m : Int)) > 1 then (if ((ns.map V.int).length : Int) < (m : Int) then ((ns.map V.int).length : Int) else (m : Int)) else 1).toNat, ?_, ?_⟩ <;> split <;> split <;> omega
      rw [hj]
      refine k l j _ (Ex.new hl) hjm ?_
      rw [upd_same]
      unfold rgV
      have : ((j : Int) - 0).toNat = j := by omega
      rw [this]
      congr 2
      exact List.map_congr_left fun i _ => by rw [Int.zero_add]
end
end My


set_option Elab.async false
set_option maxRecDepth 100000
set_option maxHeartbeats 1000000
set_option exponentiation.threshold 6000
namespace My
open PySem L2 Evl
def Lst (xs : List Int) : Prop := ∃ ys m, xs = ys ++ [m] ∧ (1 : Int) ≤ m
theorem lst_app (xs : List Int) {ys : List Int} (h : ∀ y ∈ ys, (1 : Int) ≤ y) (h0 : ys ≠ []) : Lst (xs ++ ys) :=
  ⟨xs ++ ys.dropLast, ys.getLast h0, by rw [List.append_assoc, List.dropLast_concat_getLast], h _ (List.getLast_mem h0)⟩
def sp_ladder (K : PySem.W.Frag) : Sp := fun vs H Q _ => ∃ (t : Addr) (b f r pl : Nat), vs = [.ref t] ∧ TG K H t b f r pl ∧ okg b f r ∧ b ^ f ≤ 1000 ∧
  ∀ (l : Addr) H', H l = none → Ex H H' → H' l = some (.lst (iv (lad b (b ^ f) r))) → Q (.ref l) H'
theorem lad_len (b L : Nat) : ∀ k : Nat, (lad b L k).length ≤ L * (k + 1)
  | 0 => by
    unfold lad
    rw [List.length_map, List.length_range]
    omega
  | k + 1 => by
    unfold lad
    rw [List.length_append, List.length_map, List.length_range]
    have := lad_len b L k
    have e : L * (k + 1 + 1) = L * (k + 1) + L := Nat.mul_succ _ _
    rw [e]
    have h2 : L - L / b ≤ L := Nat.sub_le _ _
    exact Nat.add_le_add this h2
theorem lo_facts {M b : Nat} (hb : 2 ≤ b) : 0 ≤ ((M : Nat) : Int) / (b : Int) ∧ ((M : Nat) : Int) / (b : Int) ≤ (M : Int) := by
  refine ⟨Int.ediv_nonneg (by omega) (by omega), ?_⟩
  exact Int.ediv_le_self _ (by omega)
theorem b_sz (c : Bool) : (if c = true then (1 : Int) else 0).natAbs < 2 ^ 5000 := by cases c <;> decide +kernel
theorem own_sz (z : Int) (c : Bool) : 0 ≤ z % (((10 : Int) ^ (60 : Int).toNat) ^ (5 : Int).toNat) * (if c = true then 1 else 0) ∧ (z % (((10 : Int) ^ (60 : Int).toNat) ^ (5 : Int).toNat) * (if c = true then 1 else 0)).natAbs < 2 ^ 1000 := by
  rw [t300]
  have h0 : (0 : Int) < 10 ^ 300 := by decide +kernel
  have h1 := Int.emod_nonneg z (show (10 : Int) ^ 300 ≠ 0 by omega)
  have h2 := Int.emod_lt_of_pos z h0
  have h3 : (10 : Int) ^ 300 < 2 ^ 1000 := by decide +kernel
  cases c
  · rw [if_neg (by decide), Int.mul_zero]
    exact ⟨by omega, by decide +kernel⟩
  · rw [if_pos rfl, Int.mul_one]
    exact ⟨h1, by omega⟩
section
variable {P : Program} {w : World} {K : PySem.W.Frag} {mg : Str → Option Value} {base : Heap} {a : Ad}
theorem ok_l_grid_ladder (T : Txt K mg a) : FnOk P w K mg base CX0 2 a.l_grid_ladder a.l_grid_ladder_fd ["grid"] (sp_ladder K) := by
  refine T.F_l_grid_ladder.ok sc_l_grid_ladder (fun vs H Q E h => ?_) (fun cdv A outer s H vs Q E hr h => ?_)
  · obtain ⟨t, b, f, r, pl, rfl, _⟩ := h
    rfl
  · obtain ⟨t, b, f, r, pl, rfl, ht, hok, hM, k⟩ := h
    refine ⟨_, (pss_cons (ps_asg (pe_tup (pa_cons (pe_call (ok_l_grid_power T) (hr.mono (by decide)) rfl T.g_l_grid_power T.k_l_grid_power T.B_l_grid_power .nil pass0 (pa_cons (pe_ix ix_tup (pv 0) pe_int (fun _ _ => rfl)) (pa_cons (pe_ix ix_tup (pv 0) pe_int (fun _ _ => rfl)) pa_nil))) (pa_cons pe_int pa_nil))) (pg_tup rfl (pgs_cons (pg_name (i := 1) sc_l_grid_ladder.nd rfl (Or.inl rfl)) (pgs_cons (pg_name (i := 2) sc_l_grid_ladder.nd rfl (Or.inr rfl)) pgs_nil))))
      (pss_cons (ps_set (i := 3) sc_l_grid_ladder.nd rfl (Or.inl rfl) (pe_listRg rfl rfl T.n_list (prg_1 rfl T.n_range (pv 1))))
      (pss_cons (ps_for PassesOwn.never rfl (pi_range1 rfl T.n_range (pa_cons (pe_ix ix_tup (pv 0) pe_int (fun _ _ => rfl)) pa_nil)) (pg_name (i := 4) sc_l_grid_ladder.nd rfl (Or.inl rfl)) (pss_cons (ps_set (i := 2) sc_l_grid_ladder.nd rfl (Or.inr rfl) (pe_op op_mulW (pv 2) (pe_ix ix_tup (pv 0) pe_int (fun _ _ => rfl))))
      (pss_one (ps_expr (pe_bm PySem.F.plainAttrs_list PySem.F.slot_list_extend PySem.F.type_list_extend mt_extend (pv 3) (pa_cons (pe_lc (own := [("at", 5)]) (g := gName 5) (by rfl) sc_l_grid_ladder.nd (pi_range2 rfl T.n_range (pa_cons (pe_op op_fdivW (pv 1) (pe_ix ix_tup (pv 0) pe_int (fun _ _ => rfl))) (pa_cons (pv 1) pa_nil))) (blkOk_by (own := [("at", 5)]) (N := N_l_grid_ladder) (sc := defScope s_l_grid_ladder) (by decide +kernel)) (fun _ _ _ _ _ => pg_name (i := 5) sc_l_grid_ladder.nd rfl (Or.inl rfl)) (fun _ _ _ _ _ => pts_nil) (fun _ _ _ _ _ => (pe_op op_mulW (pv 2) (pv 5)))) pa_nil))))))
      (pss_one (ps_ret (pv 3)))))), ?_⟩
    obtain ⟨hb, ub, f1, uf, ur⟩ := id hok
    have gr := hok.gr
    refine ⟨_, rfl, t, _, _, _, rfl, rfl, ht, g0, _, rfl, t, _, _, _, rfl, rfl, ht, g1, b, f, rfl, ub, by omega, fun H1 e1 => ⟨by show 2 ≤ sizeLine; decide, fun u hu => ?_⟩⟩
    refine ⟨u, _, rfl, SqT.of upd_same, rfl, _, _, rfl, _, _, rfl, rfl, ?_⟩
    have e2 : Ex H (upd H1 u (.tup [V.int ((b ^ f : Nat) : Int), V.int 1])) := e1.trans (Ex.new hu)
    generalize (upd H1 u (.tup [V.int ((b ^ f : Nat) : Int), V.int 1])) = H2 at *
    refine ⟨_, rfl, _, rfl, ⟨by omega, by omega, by omega, by omega, by omega⟩, fun l hl => ?_⟩
    have hl0 := fresh_back e2 hl
    have hM1 : 1 ≤ b ^ f := Nat.pow_pos (by omega)
    have start : rgV 0 ((b ^ f : Nat) : Int) = iv (lad b (b ^ f) 0) := by
      unfold rgV iv lad
      have : (((b ^ f : Nat) : Int) - 0).toNat = b ^ f := by omega
      rw [this, List.map_map]
      exact List.map_congr_left fun i _ => by simp
    refine ⟨_, rfl, t, _, _, _, rfl, rfl, ht.ex (e2.trans (Ex.new hl)), g2, _, rfl, by omega, by omega, for_range (lo := 0) (n := r) (fun i σ H' => ∃ (v : Option V), Ex H H' ∧ H' l = some (.lst (iv (lad b (b ^ f) i))) ∧ σ = [some (.ref t), some (.int ((b ^ f : Nat) : Int)), some (.int ((b ^ i : Nat) : Int)), some (.ref l), v, none])
      ⟨none, e2.trans (Ex.new hl), by rw [upd_same, start], rfl⟩ ?_ ?_⟩
    · rintro i σ H' hi ⟨v, e3, h3, rfl⟩
      have hll := lad_len b (b ^ f) i
      have hll2 : b ^ f * (i + 1) ≤ 1000 * 61 := Nat.mul_le_mul hM (by omega)
      have hbi : b ^ i < 2 ^ 400 := pw400 ub (by omega)
      have hb400 : ((b : Nat) : Int).natAbs < 2 ^ 400 := by rw [Int.natAbs_natCast]; exact Nat.lt_of_le_of_lt ub (by decide +kernel)
      obtain ⟨lo0, lo1⟩ := lo_facts (M := b ^ f) hb
      have lo2 : 1 ≤ ((b ^ f : Nat) : Int) / (b : Int) := by
        have q := (div_b gr).1
        have q2 : ((b ^ f : Nat) : Int) / (b : Int) = ((b ^ f / b : Nat) : Int) := rfl
        omega
      have lo3 : ((b ^ f : Nat) : Int) / (b : Int) < ((b ^ f : Nat) : Int) := by
        have q := (div_b gr).2
        have q2 : ((b ^ f : Nat) : Int) / (b : Int) = ((b ^ f / b : Nat) : Int) := rfl
        omega
      refine ⟨_, rfl, _, rfl, t, _, _, _, rfl, rfl, ht.ex e3, g0, _, _, rfl, rfl, wm (p5000 hbi) (p5000 hb400), ?_⟩
      refine ⟨_, rfl, .inl ⟨rfl, _, SqL.of h3⟩, _, rfl, _, rfl, t, _, _, _, rfl, rfl, ht.ex e3, g0, _, _, rfl, rfl, wd (by omega) (p5000 hb400), _, rfl, _, _, rfl, ⟨by omega, by omega, by omega, by omega⟩, fun D hD => ?_⟩
      have elo : ((b ^ f : Nat) : Int) / (b : Int) = ((b ^ f / b : Nat) : Int) := rfl
      have en : (((b ^ f : Nat) : Int) - ((b ^ f : Nat) : Int) / (b : Int)).toNat = b ^ f - b ^ f / b := by rw [elo]; omega
      rw [en, elo]
      refine lc_range (lo := ((b ^ f / b : Nat) : Int)) (n := b ^ f - b ^ f / b) (fun j H'' => Ex H' H'' ∧ H'' D = some (.lst (iv ((List.range j).map fun q => ((b ^ (i + 1) * (b ^ f / b + q) : Nat) : Int))))) ⟨Ex.new hD, upd_same⟩ ?_ ?_
      · rintro j H'' hj ⟨e4, h4⟩
        refine ⟨rfl, ?_⟩
        dsimp only [tYes]
        refine iteT ?_
        have hn : ((b ^ f / b : Nat) : Int) + (j : Int) = ((b ^ f / b + j : Nat) : Int) := by omega
        have hlt : b ^ f / b + j < b ^ f := by omega
        have hbi1 : b ^ (i + 1) < 2 ^ 400 := pw400 ub (by omega)
        have ebi : ((b ^ i : Nat) : Int) * (b : Int) = ((b ^ (i + 1) : Nat) : Int) := by rw [Nat.pow_succ, Int.natCast_mul]
        refine ⟨_, rfl, _, rfl, _, _, rfl, rfl, wm (p5000 (k := 400) (by rw [ebi]; exact hbi1)) (p5000 (k := 400) (by rw [hn, Int.natAbs_natCast]; exact Nat.lt_of_lt_of_le (Nat.lt_of_lt_of_le hlt hM) (by decide +kernel))), _, h4, sz_lt (by unfold iv; rw [List.length_map, List.length_map, List.length_range]; omega), Ex.mut e4 hD, ?_⟩
        rw [upd_same, List.range_succ, List.map_append]
        show some (HO.lst (iv _ ++ [V.int (((b ^ i : Nat) : Int) * (b : Int) * (((b ^ f / b : Nat) : Int) + (j : Int)))])) = _
        rw [ebi, hn, ← Int.natCast_mul]
        unfold iv
        rw [List.map_append]
        rfl
      · rintro H'' ⟨e4, h4⟩
        refine ⟨l, D, _, _, rfl, rfl, e4 _ _ h3, h4, sz_of (by unfold iv; rw [List.length_map, List.length_map, List.length_map, List.length_range]; omega), ?_⟩
        refine ⟨some (.int (0 + (i : Int))), Ex.mut (e3.trans e4) hl0, ?_, ?_⟩
        · rw [upd_same]
          unfold iv
          rw [← List.map_append]
          rfl
        · show [_, _, some (V.int (((b ^ i : Nat) : Int) * (b : Int))), _, some (V.int (0 + (i : Int))), _] = _
          rw [Nat.pow_succ, Int.natCast_mul]
    · rintro σ H' ⟨v, e3, h3, rfl⟩
      exact ⟨_, rfl, k l H' hl0 e3 h3⟩
theorem ok_l_pot (T : Txt K mg a) : FnOk P w K mg base CX0 1 a.l_pot a.l_pot_fd ["script", "place"] (sp_pot K) := by
  refine T.F_l_pot.ok sc_l_pot (fun vs H Q E h => ?_) (fun cdv A outer s H vs Q E hr h => ?_)
  · obtain ⟨s, ns, place, rfl, _⟩ := h
    rfl
  · obtain ⟨q, ns, place, rfl, hs, hp, k⟩ := h
    refine ⟨_, (pss_cut (ps_set (i := 2) sc_l_pot.nd rfl (Or.inl rfl) (pe_ifExp (pt_cmpR op_lt (pv 1) (pe_callB call_len_seq (by rfl) T.n_len (by decide +kernel) (pa_cons (pv 0) pa_nil)) (nomark _)) (pe_ix ix_list (pv 0) (pv 1) (fun _ _ => rfl)) (pe_op op_add (pe_op op_add (pe_op op_mod (pe_callB (cr_sum rfl) (by rfl) T.n_sum (by decide +kernel) (pa_cons (pe_slice sl_list (pv 0) po_none (po_some pe_int)) pa_nil)) pe_int) (pe_op op_mulW pe_int (pv 1))) pe_int)))
      (pss_cons (ps_set (i := 3) sc_l_pot.nd rfl (Or.inl rfl) (pe_op op_mulW (pe_op op_mod (pe_callTy call_int1 (by rfl) T.n_int (by decide +kernel) (pa_cons (pe_callB call_abs (by rfl) T.n_abs (by decide +kernel) (pa_cons (pv 2) pa_nil)) pa_nil)) (pe_op op_powK (pe_op op_pow pe_int pe_int) pe_int)) (pe_callTy call_int1 (by rfl) T.n_int (by decide +kernel) (pa_cons (pe_cmpR op_ge (pe_callB call_abs (by rfl) T.n_abs (by decide +kernel) (pa_cons (pv 2) pa_nil)) (pe_op op_pow pe_int pe_int) (nomark _)) pa_nil))))
      (pss_cons (ps_set (i := 4) sc_l_pot.nd rfl (Or.inl rfl) (pe_op op_mod (pe_callTy call_int1 (by rfl) T.n_int (by decide +kernel) (pa_cons (pv 2) pa_nil)) pe_int))
      (pss_one (ps_ret (pe_lst (pa_cons (pv 3) (pa_cons (pe_op op_mod (pe_callTy call_int1 (by rfl) T.n_int (by decide +kernel) (pa_cons (pe_op op_add (pe_op op_add (pe_op op_mulW (pv 4) pe_int) (pe_op op_mulW (pe_op op_mulW pe_int (pv 1)) (pv 1))) pe_int) pa_nil)) pe_int) (pa_cons pe_int pa_nil))))))))), ?_⟩
    refine ⟨fun σ H2 => Ex H H2 ∧ ∃ z : Int, σ = [some (.ref q), some (.int place), some (.int z), none, none], ?_, ?_⟩
    · refine ⟨_, rfl, _, rfl, q, _, rfl, .inl hs, _, _, rfl, rfl, _, rfl, ?_⟩
      refine ite2 (fun h => ?_) (fun h => ?_)
      · have h : place < ns.length := by
          have := Int.ofNat_lt.mp (of_decide_eq_true h)
          rwa [List.length_map] at this
        exact ⟨_, rfl, _, rfl, q, _, _, _, rfl, rfl, hs, atN (by rw [List.getElem?_map, List.getElem?_eq_getElem h]; rfl), Ex.refl H, _, rfl⟩
      · refine ⟨_, rfl, _, rfl, q, _, rfl, hs, fun p hpn => ?_⟩
        obtain ⟨ms, hms⟩ : ∃ ms : List Int, cutV (ns.map V.int) none (some 1) = ms.map V.int := by
          unfold cutV
          rw [← List.map_drop, ← List.map_take]
          exact ⟨_, rfl⟩
        rw [hms]
        refine ⟨p, ms, rfl, SqL.of upd_same, _, _, rfl, rfl, (by show (0 : Int) < 1000003; decide), _, rfl, _, _, rfl, rfl, wm (by decide +kernel) (p5000 (k := 64) (by omega)), _, _, rfl, rfl, _, _, rfl, rfl, Ex.new hpn, _, rfl⟩
    · rintro σ H2 ⟨e2, z, rfl⟩
      refine ⟨_, rfl, _, rfl, .inl ⟨_, rfl, _, _, rfl, rfl, ⟨by decide, by decide, by decide⟩, _, _, rfl, rfl, ⟨by decide, by rw [t10]; decide +kernel⟩, _, _, rfl, rfl, (by show (0 : Int) < ((10 : Int) ^ (60 : Int).toNat) ^ (5 : Int).toNat; rw [t300]; decide +kernel), _, rfl, _, rfl, _, _, rfl, rfl, ⟨by decide, by decide, by decide⟩, _, _, rfl, rfl, .inr ⟨_, rfl, _, _, rfl, rfl, ?_, ?_⟩⟩⟩
      · have := own_sz ((if z < 0 then -z else z)) true
        rw [if_pos rfl, Int.mul_one] at this
        exact wm (p5000 this.2) (b_sz _)
      obtain ⟨o1, o2⟩ := own_sz (if z < 0 then -z else z) (decide ((10 : Int) ^ (18 : Int).toNat ≤ if z < 0 then -z else z))
      refine ⟨_, rfl, .inl ⟨_, rfl, _, _, rfl, rfl, (by show (0 : Int) < 2305843009213693951; decide), ?_⟩⟩
      have s1 := Int.emod_nonneg z (show (2305843009213693951 : Int) ≠ 0 by decide)
      have s2 := Int.emod_lt_of_pos z (show (0 : Int) < 2305843009213693951 by decide)
      refine ⟨_, rfl, _, rfl, _, _, rfl, rfl, wm (p5000 (k := 64) (by omega)) (by decide +kernel), _, rfl, _, _, rfl, rfl, wm (by decide +kernel) (p5000 (k := 64) (by omega)), _, rfl, _, _, rfl, rfl, wm (p5000 (k := 64) (by omega)) (p5000 (k := 64) (by omega)), _, _, rfl, rfl, _, _, rfl, rfl, .inl ⟨_, rfl, _, _, rfl, rfl, (by show (0 : Int) < 2305843009213693921; decide), by show 3 ≤ sizeLine; decide, fun p hpn => ?_⟩⟩
      refine k p _ (e2.trans (Ex.new hpn)) (fresh_back e2 hpn) ⟨_, _, _, upd_same, o1, o2, Int.emod_nonneg _ (by decide), Int.lt_trans (Int.emod_lt_of_pos _ (by decide)) (by decide), by decide, by decide⟩
end
end My


set_option Elab.async false
set_option maxRecDepth 100000
set_option maxHeartbeats 2000000
set_option exponentiation.threshold 6000
namespace My
open PySem L2 Evl
def psRow (b L G : Nat) : List Int → Option (Int × List Int)
  | [] => some (0, [])
  | x :: xs => psum b L G x xs []
/-- what plain_sum tells -/
def Tells (H : Hp) (v : V) : Option (Int × List Int) → Prop
  | none => v = .non
  | some p => ∃ q1 q2, v = .ref q1 ∧ H q1 = some (.tup [.int p.1, .ref q2]) ∧ H q2 = some (.tup (iv p.2))
theorem Tells.ex {H H' : Hp} {v : V} {o : Option (Int × List Int)} (h : Tells H v o) (e : Ex H H') : Tells H' v o := by
  cases o with
  | none => exact h
  | some p =>
    obtain ⟨q1, q2, h1, h2, h3⟩ := h
    exact ⟨q1, q2, h1, e _ _ h2, e _ _ h3⟩
/-- what renewed_row tells -/
def Rens (H : Hp) (v : V) (b L G : Nat) (t : Int) : Prop := (t.natAbs ≤ G ∧ ∃ q, v = .ref q ∧ H q = some (.tup (iv (row b L t)))) ∨ (G < t.natAbs ∧ v = .non)
theorem Rens.ex {H H' : Hp} {v : V} {b L G : Nat} {t : Int} (h : Rens H v b L G t) (e : Ex H H') : Rens H' v b L G t := by
  rcases h with ⟨h1, q, h2, h3⟩ | h
  · exact .inl ⟨h1, q, h2, e _ _ h3⟩
  · exact .inr h
def sp_split (a : Ad) : Sp := fun vs H Q _ => ∃ (g : Addr) (b f r L G : Nat) (t : Int), vs = [.ref g, .int t] ∧ GridAt a H g b f r L G ∧ t.natAbs < 2 ^ 2400 ∧
  ((rn b L t).natAbs ≤ G → ∀ q H', Ex H H' → H' q = some (.tup [.int (rn b L t), .int (t - rn b L t)]) → Q (.ref q) H') ∧ (¬ (rn b L t).natAbs ≤ G → ∀ H', Ex H H' → Q .non H')
def sp_check_row (a : Ad) : Sp := fun vs H Q _ => ∃ (g : Addr) (b f r L G : Nat) (t : Addr) (xs : List Int), vs = [.ref g, .ref t] ∧ GridAt a H g b f r L G ∧ H t = some (.tup (iv xs)) ∧ xs.length ≤ 100 ∧ (∀ x ∈ xs, OnG b L G x) ∧ ∀ H', Ex H H' → Q .non H'
def sp_row_worth (a : Ad) : Sp := fun vs H Q _ => ∃ (g : Addr) (b f r L G : Nat) (t : Addr) (xs : List Int), vs = [.ref g, .ref t] ∧ GridAt a H g b f r L G ∧ H t = some (.tup (iv xs)) ∧ xs.length ≤ 100 ∧ (∀ x ∈ xs, OnG b L G x) ∧ ∀ H', Ex H H' → Q (.int xs.sum) H'
def sp_renewed_row (a : Ad) : Sp := fun vs H Q _ => ∃ (g : Addr) (b f r L G : Nat) (t : Addr) (xs : List Int), vs = [.ref g, .ref t] ∧ GridAt a H g b f r L G ∧ H t = some (.tup (iv xs)) ∧ xs.length ≤ 100 ∧ (∀ x ∈ xs, OnG b L G x) ∧ ∀ v H', Ex H H' → Rens H' v b L G xs.sum → Q v H'
def sp_plain_sum (a : Ad) : Sp := fun vs H Q _ => ∃ (g : Addr) (b f r L G : Nat) (t : Addr) (xs : List Int), vs = [.ref g, .ref t] ∧ GridAt a H g b f r L G ∧ H t = some (.tup (iv xs)) ∧ xs.length ≤ 100 ∧ (∀ x ∈ xs, OnG b L G x) ∧ ∀ v H', Ex H H' → Tells H' v (psRow b L G xs) → Q v H'
theorem iv_len (xs : List Int) : (iv xs).length = xs.length := by unfold iv; rw [List.length_map]
theorem iv_get {xs : List Int} {i : Nat} {v : V} (h : (iv xs)[i]? = some v) : ∃ z, xs[i]? = some z ∧ v = .int z := by
  unfold iv at h
  rw [List.getElem?_map] at h
  cases e : xs[i]? with
  | none => rw [e] at h; cases h
  | some n => rw [e] at h; exact ⟨n, rfl, (Option.some.inj h).symm⟩
theorem iv_app (xs ys : List Int) : iv (xs ++ ys) = iv xs ++ iv ys := by unfold iv; rw [List.map_append]
theorem cut1 (xs : List V) : cutV xs (some 1) none = xs.drop 1 := by
  unfold cutV
  have h1 : HT.sIx xs.length 0 (some ((1 : Nat) : Int)) = min 1 xs.length := HT.sIx_nat _ _ _
  have h2 : HT.sIx xs.length 0 (some (1 : Int)) = min 1 xs.length := h1
  have h3 : HT.sIx xs.length xs.length none = xs.length := HT.sIx_none _ _
  rw [h2, h3]
  cases xs with
  | nil => rfl
  | cons x xs =>
    have : min 1 (x :: xs).length = 1 := by rw [List.length_cons]; omega
    rw [this, List.length_cons]
    show (xs).take (xs.length + 1 - 1) = xs
    rw [Nat.add_sub_cancel, List.take_length]
theorem whole1 (xs : List V) : (HT.sIx xs.length 0 (some 1) = 0 ∧ HT.sIx xs.length xs.length none = xs.length) → xs = [] := by
  rintro ⟨h, _⟩
  have h1 : HT.sIx xs.length 0 (some ((1 : Nat) : Int)) = min 1 xs.length := HT.sIx_nat _ _ _
  have h2 : HT.sIx xs.length 0 (some (1 : Int)) = min 1 xs.length := h1
  rw [h2] at h
  cases xs with
  | nil => rfl
  | cons x xs => rw [List.length_cons] at h; omega
theorem addsz {x y : Int} (hx : x.natAbs < 2 ^ 400) (hy : y.natAbs < 2 ^ 400) : (x + y).natAbs < 2 ^ 2400 := by
  have : 2 ^ 400 + 2 ^ 400 < 2 ^ 2400 := by decide +kernel
  omega
section
variable {P : Program} {w : World} {K : PySem.W.Frag} {mg : Str → Option Value} {base : Heap} {a : Ad}
end
end My


set_option Elab.async false
set_option maxRecDepth 100000
set_option maxHeartbeats 2000000
set_option exponentiation.threshold 6000
namespace My
open PySem L2 Evl
def sp_drawn : Sp := fun vs H Q _ => ∃ (p : Addr) (n : Nat), vs = [.ref p] ∧ PotAt H p n ∧ n + 10 ≤ 100000 ∧
  ∀ (t : Addr) (b f r pl : Nat) H', Kp p H H' → PotAt H' p (n + 4) → H' t = some (.tup [.int b, .int f, .int r, .int pl]) → okg b f r → pl ≤ 2 → b ^ f ≤ 1000 → r ≤ 3 → (b = 2 ∨ b = 3 ∨ b = 5 ∨ b = 10) → f ≤ 4 → Q (.ref t) H'
def sp_a_row : Sp := fun vs H Q _ => ∃ (p t : Addr) (n b f r pl : Nat) (fl : Bool), vs = [.ref p, .ref t, .bl fl] ∧ PotAt H p n ∧ n + 60 ≤ 100000 ∧ H t = some (.tup [.int b, .int f, .int r, .int pl]) ∧ okg b f r ∧
  ∀ (q : Addr) (xs : List Int) H', Kp p H H' → PotAt H' p (n + 40) → H' q = some (.tup (iv xs)) → xs.length ≤ 100 → (∀ x ∈ xs, OnG b (b ^ f) (gG b f r) x) → Q (.ref q) H'
def sp_gone (K : PySem.W.Frag) : Sp := fun vs H Q _ => ∃ (t rw : Addr) (b f r pl : Nat) (xs : List Int), vs = [.ref t, .ref rw] ∧ TG K H t b f r pl ∧ okg b f r ∧ H rw = some (.tup (iv xs)) ∧ xs.length ≤ 100 ∧ (∀ x ∈ xs, OnG b (b ^ f) (gG b f r) x) ∧
  ∀ v H', Ex H H' → Tells H' v (psRow b (b ^ f) (gG b f r) xs) → Q v H'
def sp_own (K : PySem.W.Frag) : Sp := fun vs H Q _ => ∃ (t : Addr) (b f r pl : Nat) (w : Int), vs = [.ref t, .int w] ∧ TG K H t b f r pl ∧ okg b f r ∧ w.natAbs ≤ gG b f r ∧ ∀ q H', Ex H H' → H' q = some (.tup (iv (row b (b ^ f) w))) → Q (.ref q) H'
theorem Kp.new {p D : Addr} {H H1 : Hp} {o : HO} (h : Kp p H H1) (hD : H D = none) : Kp p H (upd H1 D o) := fun c u hc hn => by
  rw [upd_ne (ne_of_none hc hD)]
  exact h c u hc hn
theorem PotAt.upd {H : Hp} {p q : Addr} {n : Nat} {o : HO} (h : PotAt H p n) (hn : q ≠ p) : PotAt (L2.upd H q o) p n := by
  obtain ⟨x, y, c, h1, h2⟩ := h
  exact ⟨x, y, c, by rw [upd_ne hn.symm]; exact h1, h2⟩
theorem dp_ints {K : PySem.W.Frag} {H : Hp} : ∀ xs : List Int, DpAll K H (iv xs) (xs.map PyData.int)
  | [] => .nil
  | x :: xs => .cons (.int x) (dp_ints xs)
theorem lay_ints : ∀ xs : List Int, PyData.canLayAll0 (xs.map PyData.int) = true
  | [] => rfl
  | x :: xs => by
    show (PyData.canLay0 (.int x) && PyData.canLayAll0 (xs.map PyData.int)) = true
    rw [lay_ints xs]; rfl
theorem dep_ints : ∀ xs : List Int, PyData.depthAll (xs.map PyData.int) = 0
  | [] => rfl
  | x :: xs => by
    show max (PyData.depth (.int x)) (PyData.depthAll (xs.map PyData.int)) = 0
    rw [dep_ints xs]; rfl
theorem sh_ints (xs : List Int) : SeqAt.shaped (.tuple (xs.map PyData.int)) = true := by
  unfold SeqAt.shaped
  have h1 : (PyData.tuple (xs.map PyData.int)).canLay0 = true := lay_ints xs
  have h2 : (PyData.tuple (xs.map PyData.int)).depth = 1 := by
    show PyData.depthAll (xs.map PyData.int) + 1 = 1
    rw [dep_ints]
  rw [h1, h2]; rfl
theorem sh_intsL (xs : List Int) : SeqAt.shaped (.list (xs.map PyData.int)) = true := by
  unfold SeqAt.shaped
  have h1 : (PyData.list (xs.map PyData.int)).canLay0 = true := lay_ints xs
  have h2 : (PyData.list (xs.map PyData.int)).depth = 1 := by
    show PyData.depthAll (xs.map PyData.int) + 1 = 1
    rw [dep_ints]
  rw [h1, h2]; rfl
theorem eqv_nil (xs : List Int) : PyData.eqv (.tuple (xs.map PyData.int)) (.tuple []) = xs.isEmpty := by
  cases xs with
  | nil => rfl
  | cons x xs => rfl
theorem eqv_nilL (xs : List Int) : PyData.eqv (.list (xs.map PyData.int)) (.list []) = xs.isEmpty := by
  cases xs with
  | nil => rfl
  | cons x xs => rfl
theorem cut100 (xs : List Int) : ∃ ms : List Int, cutV (List.replicate (100 : Int).toNat (iv xs)).flatten none (some 100) = iv ms ∧ (∀ m ∈ ms, m ∈ xs) ∧ ms.length ≤ 100 := by
  have e : (List.replicate (100 : Int).toNat (iv xs)).flatten = iv (List.replicate (100 : Int).toNat xs).flatten := by
    unfold iv
    rw [List.map_flatten, List.map_replicate]
  rw [e]
  unfold cutV iv
  rw [← List.map_drop, ← List.map_take]
  refine ⟨_, rfl, fun m hm => ?_, ?_⟩
  · have := List.mem_of_mem_drop (List.mem_of_mem_take hm)
    obtain ⟨l, hl, hml⟩ := List.mem_flatten.mp this
    rw [(List.mem_replicate.mp hl).2] at hml
    exact hml
  · rw [List.length_take]
    generalize (List.replicate (100 : Int).toNat xs).flatten = ys
    have h1 : HT.sIx (ys.map V.int).length (ys.map V.int).length (some ((100 : Nat) : Int)) = min 100 (ys.map V.int).length := HT.sIx_nat _ _ _
    have h2 : HT.sIx (ys.map V.int).length (ys.map V.int).length (some (100 : Int)) = min 100 (ys.map V.int).length := h1
    rw [h2]
    omega
section
variable {P : Program} {w : World} {K : PySem.W.Frag} {mg : Str → Option Value} {base : Heap} {a : Ad}
theorem ok_l_grid_drawn (T : Txt K mg a) : FnOk P w K mg base CX0 3 a.l_grid_drawn a.l_grid_drawn_fd ["pot"] sp_drawn := by
  refine T.F_l_grid_drawn.ok sc_l_grid_drawn (fun vs H Q E h => ?_) (fun cdv A outer s H vs Q E hr h => ?_)
  · obtain ⟨p, n, rfl, _⟩ := h
    rfl
  · obtain ⟨p, n, rfl, hp, hn, k⟩ := h
    refine ⟨_, (pss_cut (ps_set (i := 1) sc_l_grid_drawn.nd rfl (Or.inl rfl) (pe_call (ok_l_of T) (hr.mono (by decide)) rfl T.g_l_of T.k_l_of T.B_l_of .nil pass0 (pa_cons (pv 0) (pa_cons (pe_lst (pa_cons pe_int (pa_cons pe_int (pa_cons pe_int (pa_cons pe_int (pa_cons pe_int (pa_cons pe_int pa_nil))))))) pa_nil))))
      (pss_cut (ps_set (i := 2) sc_l_grid_drawn.nd rfl (Or.inl rfl) (pe_call (ok_l_of T) (hr.mono (by decide)) rfl T.g_l_of T.k_l_of T.B_l_of .nil pass0 (pa_cons (pv 0) (pa_cons (pe_dget (hu_of hr) (pe_disp (pps_cons pe_int (pe_lst (pa_cons pe_int (pa_cons pe_int (pa_cons pe_int (pa_cons pe_int pa_nil))))) (pps_cons pe_int (pe_lst (pa_cons pe_int (pa_cons pe_int (pa_cons pe_int pa_nil)))) (pps_cons pe_int (pe_lst (pa_cons pe_int (pa_cons pe_int pa_nil))) (pps_cons pe_int (pe_lst (pa_cons pe_int (pa_cons pe_int pa_nil))) pps_nil)))) (by rfl) (by rfl) (fun z => by cases z) (by decide)) (pv 1) (fun _ _ => rfl)) pa_nil))))
      (pss_one (ps_ret (pe_tup (pa_cons (pv 1) (pa_cons (pv 2) (pa_cons (pe_call (ok_l_of T) (hr.mono (by decide)) rfl T.g_l_of T.k_l_of T.B_l_of .nil pass0 (pa_cons (pv 0) (pa_cons (pe_lst (pa_cons pe_int (pa_cons pe_int (pa_cons pe_int (pa_cons pe_int pa_nil))))) pa_nil))) (pa_cons (pe_call (ok_l_of T) (hr.mono (by decide)) rfl T.g_l_of T.k_l_of T.B_l_of .nil pass0 (pa_cons (pv 0) (pa_cons (pe_lst (pa_cons pe_int (pa_cons pe_int (pa_cons pe_int (pa_cons pe_int pa_nil))))) pa_nil))) pa_nil))))))))), ?_⟩
    refine ⟨fun σ H2 => ∃ b : Nat, (b = 2 ∨ b = 3 ∨ b = 5 ∨ b = 10) ∧ Kp p H H2 ∧ PotAt H2 p (n + 1) ∧ σ = [some (.ref p), some (.int b), none], ?_, ?_⟩
    · refine ⟨_, rfl, by show 6 ≤ sizeLine; decide, fun l hl => ?_⟩
      refine ⟨p, l, n, _, rfl, hp.ex (Ex.new hl), by omega, upd_same, hp.ne hl, by show 0 < 6; decide, by show 6 ≤ 100000; decide, fun i v H2 hv k2 p2 => ?_⟩
      have k2' := (Ex.kp (Ex.new (o := .lst [V.int 2, V.int 2, V.int 3, V.int 10, V.int 5, V.int 2]) hl)).trans k2
      match i, hv with
      | 0, hv => cases hv; exact ⟨2, .inl rfl, k2', p2, rfl⟩
      | 1, hv => cases hv; exact ⟨2, .inl rfl, k2', p2, rfl⟩
      | 2, hv => cases hv; exact ⟨3, .inr (.inl rfl), k2', p2, rfl⟩
      | 3, hv => cases hv; exact ⟨10, .inr (.inr (.inr rfl)), k2', p2, rfl⟩
      | 4, hv => cases hv; exact ⟨5, .inr (.inr (.inl rfl)), k2', p2, rfl⟩
      | 5, hv => cases hv; exact ⟨2, .inl rfl, k2', p2, rfl⟩
    rintro σ H2 ⟨b, hb, k2, p2, rfl⟩
    refine ⟨fun σ H3 => ∃ f : Nat, 1 ≤ f ∧ f ≤ 4 ∧ b ^ f ≤ 1000 ∧ Kp p H H3 ∧ PotAt H3 p (n + 2) ∧ σ = [some (.ref p), some (.int b), some (.int f)], ?_, ?_⟩
    · refine ⟨_, rfl, fun d hd => ?_⟩
      have dp := p2.ne hd
      have e3 := Ex.new (o := .dK []) hd
      have d3 : (upd H2 d (.dK [])) d = some (.dK []) := upd_same
      generalize (upd H2 d (.dK [])) = H3 at *
      refine ⟨by show 4 ≤ sizeLine; decide, fun l1 h1 => ?_⟩
      have e4 := Ex.new (o := .lst [V.int 3, V.int 2, V.int 4, V.int 1]) h1
      have c1 : (upd H3 l1 (.lst [V.int 3, V.int 2, V.int 4, V.int 1])) l1 = some (.lst [V.int 3, V.int 2, V.int 4, V.int 1]) := upd_same
      generalize (upd H3 l1 (.lst [V.int 3, V.int 2, V.int 4, V.int 1])) = H4 at *
      refine ⟨by show 3 ≤ sizeLine; decide, fun l2 h2 => ?_⟩
      have e5 := Ex.new (o := .lst [V.int 2, V.int 1, V.int 3]) h2
      have c2 : (upd H4 l2 (.lst [V.int 2, V.int 1, V.int 3])) l2 = some (.lst [V.int 2, V.int 1, V.int 3]) := upd_same
      generalize (upd H4 l2 (.lst [V.int 2, V.int 1, V.int 3])) = H5 at *
      refine ⟨by show 2 ≤ sizeLine; decide, fun l3 h3 => ?_⟩
      have e6 := Ex.new (o := .lst [V.int 1, V.int 2]) h3
      have c3 : (upd H5 l3 (.lst [V.int 1, V.int 2])) l3 = some (.lst [V.int 1, V.int 2]) := upd_same
      generalize (upd H5 l3 (.lst [V.int 1, V.int 2])) = H6 at *
      refine ⟨by show 2 ≤ sizeLine; decide, fun l4 h4 => ?_⟩
      have e7 := Ex.new (o := .lst [V.int 1, V.int 2]) h4
      have c4 : (upd H6 l4 (.lst [V.int 1, V.int 2])) l4 = some (.lst [V.int 1, V.int 2]) := upd_same
      generalize (upd H6 l4 (.lst [V.int 1, V.int 2])) = H7 at *
      have e37 : Ex H3 H7 := ((e4.trans e5).trans e6).trans e7
      have d7 := e37 _ _ d3
      have c17 := e7 _ _ (e6 _ _ (e5 _ _ c1))
      have c27 := e7 _ _ (e6 _ _ c2)
      have c37 := e7 _ _ c3
      refine ⟨d7, [(Sum.inl 2, V.ref l1), (Sum.inl 3, V.ref l2), (Sum.inl 5, V.ref l3), (Sum.inl 10, V.ref l4)], rfl, by show 4 ≤ 15; decide, ?_⟩
      have kU : Kp p H (upd H7 d (.dK (mergeK [] [(Sum.inl 2, V.ref l1), (Sum.inl 3, V.ref l2), (Sum.inl 5, V.ref l3), (Sum.inl 10, V.ref l4)]))) := (k2.ex (e3.trans e37)).new (k2.back hd dp)
      have pU : PotAt (upd H7 d (.dK (mergeK [] [(Sum.inl 2, V.ref l1), (Sum.inl 3, V.ref l2), (Sum.inl 5, V.ref l3), (Sum.inl 10, V.ref l4)]))) p (n + 1) := (p2.ex (e3.trans e37)).upd dp
      have dU : (upd H7 d (.dK (mergeK [] [(Sum.inl 2, V.ref l1), (Sum.inl 3, V.ref l2), (Sum.inl 5, V.ref l3), (Sum.inl 10, V.ref l4)]))) d = some (.dK (mergeK [] [(Sum.inl 2, V.ref l1), (Sum.inl 3, V.ref l2), (Sum.inl 5, V.ref l3), (Sum.inl 10, V.ref l4)])) := upd_same
      have cU : ∀ {l : Addr} {xs : List V}, H7 l = some (.lst xs) → (upd H7 d (.dK (mergeK [] [(Sum.inl 2, V.ref l1), (Sum.inl 3, V.ref l2), (Sum.inl 5, V.ref l3), (Sum.inl 10, V.ref l4)]))) l = some (.lst xs) := fun {l xs} hl => by
        rw [upd_ne (ne_of hl d7 (by intro z; cases z))]
        exact hl
      have u1 := cU c17
      have u2 := cU c27
      have u3 := cU c37
      have u4 := cU c4
      generalize (upd H7 d (.dK (mergeK [] [(Sum.inl 2, V.ref l1), (Sum.inl 3, V.ref l2), (Sum.inl 5, V.ref l3), (Sum.inl 10, V.ref l4)]))) = H8 at *
      have lp : ∀ {l : Addr} {xs : List V} {m : Nat}, H8 l = some (.lst xs) → xs.length = m → m ≠ 3 → l ≠ p := fun {l xs m} hl hm h3 e => by
        obtain ⟨y1, y2, y3, hpp, _⟩ := pU
        rw [e, hpp] at hl
        cases hl
        exact h3 hm.symm
      have nlp : ∀ {l : Addr} {Hx : Hp}, Ex H2 Hx → Hx l = none → l ≠ p := fun {l Hx} ex hl => (p2.ex ex).ne hl
      have n1 := nlp e3 h1
      have n2 := nlp (e3.trans e4) h2
      have n3 := nlp ((e3.trans e4).trans e5) h3
      have n4 := nlp (((e3.trans e4).trans e5).trans e6) h4
      rcases hb with rfl | rfl | rfl | rfl
      · refine ⟨_, rfl, d, V.ref l1, rfl, .inl ⟨_, Sum.inl 2, .inl dU, rfl, rfl⟩, p, l1, n + 1, _, rfl, pU, by omega, u1, n1, by show 0 < 4; decide, by show 4 ≤ 100000; decide, fun i v H9 hv k9 p9 => ?_⟩
        match i, hv with
        | 0, hv => cases hv; exact ⟨3, by decide, by decide, by decide, kU.trans k9, p9, rfl⟩
        | 1, hv => cases hv; exact ⟨2, by decide, by decide, by decide, kU.trans k9, p9, rfl⟩
        | 2, hv => cases hv; exact ⟨4, by decide, by decide, by decide, kU.trans k9, p9, rfl⟩
        | 3, hv => cases hv; exact ⟨1, by decide, by decide, by decide, kU.trans k9, p9, rfl⟩
      · refine ⟨_, rfl, d, V.ref l2, rfl, .inl ⟨_, Sum.inl 3, .inl dU, rfl, rfl⟩, p, l2, n + 1, _, rfl, pU, by omega, u2, n2, by show 0 < 3; decide, by show 3 ≤ 100000; decide, fun i v H9 hv k9 p9 => ?_⟩
        match i, hv with
        | 0, hv => cases hv; exact ⟨2, by decide, by decide, by decide, kU.trans k9, p9, rfl⟩
        | 1, hv => cases hv; exact ⟨1, by decide, by decide, by decide, kU.trans k9, p9, rfl⟩
        | 2, hv => cases hv; exact ⟨3, by decide, by decide, by decide, kU.trans k9, p9, rfl⟩
      · refine ⟨_, rfl, d, V.ref l3, rfl, .inl ⟨_, Sum.inl 5, .inl dU, rfl, rfl⟩, p, l3, n + 1, _, rfl, pU, by omega, u3, n3, by show 0 < 2; decide, by show 2 ≤ 100000; decide, fun i v H9 hv k9 p9 => ?_⟩
        match i, hv with
        | 0, hv => cases hv; exact ⟨1, by decide, by decide, by decide, kU.trans k9, p9, rfl⟩
        | 1, hv => cases hv; exact ⟨2, by decide, by decide, by decide, kU.trans k9, p9, rfl⟩
      · refine ⟨_, rfl, d, V.ref l4, rfl, .inl ⟨_, Sum.inl 10, .inl dU, rfl, rfl⟩, p, l4, n + 1, _, rfl, pU, by omega, u4, n4, by show 0 < 2; decide, by show 2 ≤ 100000; decide, fun i v H9 hv k9 p9 => ?_⟩
        match i, hv with
        | 0, hv => cases hv; exact ⟨1, by decide, by decide, by decide, kU.trans k9, p9, rfl⟩
        | 1, hv => cases hv; exact ⟨2, by decide, by decide, by decide, kU.trans k9, p9, rfl⟩
    rintro σ H3 ⟨f, f1, f4, hbf, k3, p3, rfl⟩
    refine ⟨_, rfl, _, rfl, _, rfl, by show 4 ≤ sizeLine; decide, fun l hl => ?_⟩
    refine ⟨p, l, n + 2, _, rfl, p3.ex (Ex.new hl), by omega, upd_same, p3.ne hl, by show 0 < 4; decide, by show 4 ≤ 100000; decide, fun i v H4 hv k4 p4 => ?_⟩
    have k4' := (k3.ex (Ex.new (o := .lst [V.int 2, V.int 1, V.int 3, V.int 0]) hl)).trans k4
    obtain ⟨r, rfl, hr3⟩ : ∃ r : Nat, v = .int r ∧ r ≤ 3 := by
      match i, hv with
      | 0, hv => cases hv; exact ⟨2, rfl, by decide⟩
      | 1, hv => cases hv; exact ⟨1, rfl, by decide⟩
      | 2, hv => cases hv; exact ⟨3, rfl, by decide⟩
      | 3, hv => cases hv; exact ⟨0, rfl, by decide⟩
    refine ⟨_, rfl, by show 4 ≤ sizeLine; decide, fun l2 hl2 => ?_⟩
    refine ⟨p, l2, n + 3, _, rfl, p4.ex (Ex.new hl2), by omega, upd_same, p4.ne hl2, by show 0 < 4; decide, by show 4 ≤ 100000; decide, fun i2 v2 H5 hv2 k5 p5 => ?_⟩
    have k5' := (k4'.ex (Ex.new (o := .lst [V.int 0, V.int 0, V.int 1, V.int 2]) hl2)).trans k5
    obtain ⟨pl, rfl, hpl⟩ : ∃ pl : Nat, v2 = .int pl ∧ pl ≤ 2 := by
      match i2, hv2 with
      | 0, hv => cases hv; exact ⟨0, rfl, by decide⟩
      | 1, hv => cases hv; exact ⟨0, rfl, by decide⟩
      | 2, hv => cases hv; exact ⟨1, rfl, by decide⟩
      | 3, hv => cases hv; exact ⟨2, rfl, by decide⟩
    refine ⟨by show 4 ≤ sizeLine; decide, fun t ht => ?_⟩
    exact k t b f r pl _ (k5'.ex (Ex.new ht)) (p5.ex (Ex.new ht)) upd_same ⟨by omega, by omega, f1, by omega, by omega⟩ (by omega) hbf hr3 hb f4
end
end My


set_option Elab.async false
set_option maxRecDepth 100000
set_option maxHeartbeats 2000000
set_option exponentiation.threshold 6000
namespace My
open PySem L2 Evl
def sp_least : Sp := fun vs H Q _ => ∃ (t : Int) (d : Nat), vs = [.int t, .int d] ∧ 1 ≤ d ∧ d < 2 ^ 2400 ∧ t.natAbs < 2 ^ 2400 ∧
  ∀ q H', Ex H H' → H' q = some (.tup [.int (t / ((Nat.gcd t.natAbs d : Nat) : Int)), .int ((d / Nat.gcd t.natAbs d : Nat) : Int)]) → Q (.ref q) H'
def sp_neigh (K : PySem.W.Frag) : Sp := fun vs H Q _ => ∃ (l : Addr) (rs : List Int) (t : Int) (d : Nat) (B A : Int), vs = [.ref l, .int t, .int d] ∧ H l = some (.lst (iv rs)) ∧ rs.length ≤ 500000 ∧ (∀ x ∈ rs, x.natAbs < 2 ^ 400) ∧ 1 ≤ d ∧ d < 2 ^ 2400 ∧
  (∃ zs, rs.filter (fun n => decide (n * (d : Int) ≤ t)) = zs ++ [B]) ∧ (∃ zs, rs.filter (fun n => decide (t ≤ n * (d : Int))) = A :: zs) ∧
  ∀ q H', Ex H H' → H' q = some (.tup [.int B, .int A]) → Q (.ref q) H'
theorem at_last (ys : List Int) (m : Int) : atI (iv (ys ++ [m])) (-1) = some (.int m) := by
  have hl : (iv (ys ++ [m])).length = ys.length + 1 := by rw [iv_len, List.length_append]; rfl
  unfold atI ixN
  rw [hl, if_neg (by decide), if_pos (by omega)]
  have e : ((-1 : Int) + ((ys.length + 1 : Nat) : Int)).toNat = ys.length := by omega
  show (iv (ys ++ [m]))[((-1 : Int) + ((ys.length + 1 : Nat) : Int)).toNat]? = _
  rw [e]
  unfold iv
  rw [List.getElem?_map, List.getElem?_append_right (Nat.le_refl _), Nat.sub_self]
  rfl
theorem filt_take {p : Int → Bool} {rs : List Int} {i : Nat} {x : Int} (h : rs[i]? = some x) : (rs.take (i + 1)).filter p = (rs.take i).filter p ++ (if p x = true then [x] else []) := by
  rw [List.take_add_one, h, List.filter_append]
  congr 1
  cases hp : p x <;> simp [hp]
section
variable {P : Program} {w : World} {K : PySem.W.Frag} {mg : Str → Option Value} {base : Heap} {a : Ad}
end
end My


set_option Elab.async false
set_option maxRecDepth 100000
set_option maxHeartbeats 2000000
set_option exponentiation.threshold 6000
namespace My
open PySem L2 Evl TL
def sv (xs : List Str) : List V := xs.map V.str
theorem sv_len (xs : List Str) : (sv xs).length = xs.length := by unfold sv; rw [List.length_map]
theorem sv_flat (xs : List Str) : (sv xs).all flatV = true := by
  induction xs with
  | nil => rfl
  | cons x xs ih =>
    show (flatV (.str x) && (sv xs).all flatV) = true
    rw [ih]; rfl
theorem sv_get {xs : List Str} {i : Nat} {x : Str} (h : xs[i]? = some x) : (sv xs)[i]? = some (.str x) := by
  unfold sv
  rw [List.getElem?_map, h]; rfl
theorem inV_sv (x : Str) (xs : List Str) : inV (.str x) (sv xs) = decide (x ∈ xs) := by
  induction xs with
  | nil => rfl
  | cons y ys ih =>
    have e : inV (.str x) (sv (y :: ys)) = ((y == x) || inV (.str x) (sv ys)) := rfl
    rw [e, ih]
    by_cases h : y = x
    · subst h
      simp
    · have : (y == x) = false := by simpa using h
      rw [this]
      simp [Ne.symm h]
theorem waS_str (y : Wy) : waS y = y.str := by cases y <;> rfl
def sp_read_integer : Sp := fun vs H Q _ => ∃ n : Int, vs = [.str (numW n)] ∧ n.natAbs < 10 ^ 600 ∧ ∀ H', Ex H H' → Q (.int n) H'
def sp_is_letters : Sp := fun vs H Q _ => ∃ x, vs = [.str x] ∧ x ∈ LW ∧ ∀ H', Ex H H' → Q (.bl true) H'
def sp_is_step_name : Sp := fun vs H Q _ => ∃ x, vs = [.str x] ∧ x ∈ SN ∧ ∀ H', Ex H H' → Q (.bl true) H'
def sp_is_new : Sp := fun vs H Q _ => ∃ (x : Str) (l : Addr) (names : List Str), vs = [.str x, .ref l] ∧ H l = some (.lst (sv names)) ∧ x ∈ NM ∧ x ∉ names ∧ ∀ H', Ex H H' → Q (.bl true) H'
def sp_read_operand (a : Ad) : Sp := fun vs H Q _ => ∃ (o : Opd) (g l : Addr) (b f r : Nat) (names : List Str), vs = [.str o.w, .ref g, .ref l] ∧ GridAt a H g b f r (b ^ f) ((b ^ f - 1) * b ^ r) ∧ H l = some (.lst (sv names)) ∧ (∀ x ∈ names, x ∈ NM) ∧ OpOk b f r names o ∧
  ∀ H', Ex H H' → Q o.v H'
theorem nm_first : ∀ x ∈ NM ++ WD, ∃ c, (tl x)[0]? = some c ∧ ¬ (c = 45 ∨ (48 ≤ c ∧ c ≤ 57)) := by
  have h : ∀ x ∈ NM ++ WD, (match (tl x)[0]? with | some c => decide (¬ (c = 45 ∨ (48 ≤ c ∧ c ≤ 57))) | none => false) = true := by decide +kernel
  intro x hx
  have := h x hx
  cases e : (tl x)[0]? with
  | none => rw [e] at this; cases this
  | some c =>
    rw [e] at this
    exact ⟨c, rfl, of_decide_eq_true this⟩
theorem num_nm (n : Int) : numW n ∉ NM ++ WD := fun h => by
  obtain ⟨c, h1, h2⟩ := nm_first _ h
  rw [tl_numW] at h1
  split at h1
  · have h1 : some 45 = some c := h1
    cases h1
    exact h2 (.inl rfl)
  · obtain ⟨d, l, e, h3, h4⟩ := numL_cons n.natAbs
    rw [e] at h1
    have h1 : some d = some c := h1
    cases h1
    exact h2 (.inr ⟨h3, h4⟩)
theorem len10 {b f r : Nat} (hb : b ≤ 10) (hl : f + r ≤ 100) {n : Int} (h : n.natAbs ≤ (b ^ f - 1) * b ^ r) : n.natAbs < 10 ^ 600 := by
  have h1 : (b ^ f - 1) * b ^ r ≤ b ^ f * b ^ r := Nat.mul_le_mul_right _ (Nat.sub_le _ _)
  rw [← Nat.pow_add] at h1
  have h2 : b ^ (f + r) ≤ 10 ^ (f + r) := Nat.pow_le_pow_left hb _
  have h3 : 10 ^ (f + r) ≤ 10 ^ 100 := Nat.pow_le_pow_right (by decide) hl
  have h4 : 10 ^ 100 < 10 ^ 600 := Nat.pow_lt_pow_right (by decide) (by decide)
  omega
section
variable {P : Program} {w : World} {K : PySem.W.Frag} {mg : Str → Option Value} {base : Heap} {a : Ad}
theorem ok_read_integer (T : Txt K mg a) : FnOk P w K mg base CX0 1 a.read_integer a.read_integer_fd ["word"] sp_read_integer := by
  refine T.F_read_integer.ok sc_read_integer (fun vs H Q E h => ?_) (fun cdv A outer s H vs Q E hr h => ?_)
  · obtain ⟨n, rfl, _⟩ := h
    rfl
  · obtain ⟨n, rfl, hn, k⟩ := h
    refine ⟨_, (pss_cut (ps_set (i := 1) sc_read_integer.nd rfl (Or.inl rfl) (pe_ifExp (pt_val (pe_m1 PySem.F.slot_str_startswith PySem.F.type_str_startswith mt_startswith (pv 0) pe_str)) (pe_slice sl_str (pv 0) (po_some pe_int) po_none) (pv 0)))
      (pss_cons (ps_if (PW.pt (pw_or (pt_not (pt_val (pe_m0 PySem.F.slot_str_isdigit PySem.F.type_str_isdigit mt_isdigit (pv 1)))) (pw_or (pt_not (pt_val (pe_m0 PySem.F.slot_str_isascii PySem.F.type_str_isascii mt_isascii (pv 1)))) (pw_or1 (pt_cmpR op_gt (pe_callB call_len_str (by rfl) T.n_len (by decide +kernel) (pa_cons (pv 1) pa_nil)) (pe_glob (v := .int 4000) rfl T.c_LONGEST_INTEGER.choose_spec ⟨_, rfl⟩) (nomark _)))))) (pss_one (ps_ret pe_non)) pss_nil)
      (pss_cons (ps_if (PW.pt (pw_and (pt_val (pe_m1 PySem.F.slot_str_startswith PySem.F.type_str_startswith mt_startswith (pv 1) pe_str)) (pw_and1 (pt_cmpR op_ne (pv 0) pe_str (nomark _))))) (pss_one (ps_ret pe_non)) pss_nil)
      (pss_one (ps_ret (pe_callTy call_int_str (by rfl) T.n_int (by decide +kernel) (pa_cons (pv 0) pa_nil))))))), ?_⟩
    have hlen := numW_len (n := n) (k := 600) (by decide) hn
    have hdl : (digW n.natAbs).length ≤ 600 := by
      rw [len_tl, tl_digW]
      exact numL_len (by decide) hn
    have hz : (numW n).length ≤ sizeLine := Nat.le_trans hlen (by decide)
    refine ⟨fun σ H' => H' = H ∧ σ = [some (.str (numW n)), some (.str (digW n.natAbs))], ?_, ?_⟩
    · refine ⟨_, rfl, ⟨_, rfl⟩, _, _, rfl, rfl, _, rfl, ?_⟩
      rw [sw_minus]
      refine ite2 (fun h => ?_) (fun h => ?_)
      · have h := of_decide_eq_true h
        refine ⟨_, rfl, _, rfl, _, rfl, hz, rfl, ?_⟩
        rw [← cut_minus h]
        rfl
      · have h : ¬ n < 0 := fun z => h (decide_eq_true z)
        refine ⟨_, rfl, rfl, ?_⟩
        rw [← numW_pos h]
        rfl
    rintro σ H' ⟨rfl, rfl⟩
    refine ⟨_, rfl, ⟨_, rfl⟩, _, rfl, rfl, trivial, _, rfl, ?_⟩
    rw [dig_isdigit]
    refine ite2 (fun h => absurd h (by simp)) (fun _ => ?_)
    refine ⟨_, rfl, ⟨_, rfl⟩, _, rfl, rfl, trivial, _, rfl, ?_⟩
    rw [dig_isascii]
    refine ite2 (fun h => absurd h (by simp)) (fun _ => ?_)
    refine ⟨_, rfl, _, rfl, Nat.le_trans hdl (by decide), _, _, rfl, rfl, _, rfl, ?_⟩
    refine ite2 (fun h => absurd (of_decide_eq_true h) (by omega)) (fun _ => ?_)
    refine ⟨_, rfl, ⟨_, rfl⟩, _, _, rfl, rfl, _, rfl, ?_⟩
    rw [sw_nought]
    have fin : ∃ y, some (some (V.str (numW n))) = some (some y) ∧ ∃ a_1 n_1, [y] = [V.str a_1] ∧ PySem.intText? a_1 = some n_1 ∧ a_1.length ≤ 640 ∧ Q (.int n_1) H' := ⟨_, rfl, _, _, rfl, intText_numW (by omega), by omega, k H' (Ex.refl _)⟩
    refine ite2 (fun h => ?_) (fun h => ?_)
    · have h : n.natAbs = 0 := of_decide_eq_true h
      have : n = 0 := by omega
      subst this
      refine ⟨_, rfl, rfl, _, rfl, ?_⟩
      refine ite2 (fun h => absurd h (by decide +kernel)) (fun _ => ?_)
      exact fin
    · exact fin
theorem ok_is_letters (T : Txt K mg a) : FnOk P w K mg base CX0 4 a.is_letters a.is_letters_fd ["word"] sp_is_letters := by
  refine T.F_is_letters.ok sc_is_letters (fun vs H Q E h => ?_) (fun cdv A outer s H vs Q E hr h => ?_)
  · obtain ⟨x, rfl, _⟩ := h
    rfl
  · obtain ⟨x, rfl, hx, k⟩ := h
    refine ⟨_, (pss_one (ps_ret (pe_and (pe_cmpR op_in_rng (pe_callB call_len_str (by rfl) T.n_len (by decide +kernel) (pa_cons (pv 0) pa_nil)) (pe_callTy cr_range2 (by rfl) T.n_range (by decide +kernel) (pa_cons pe_int (pa_cons pe_int pa_nil))) (by rfl)) (pe_and (pe_m0 PySem.F.slot_str_isascii PySem.F.type_str_isascii mt_isascii (pv 0)) (pe_and (pe_m0 PySem.F.slot_str_isalpha PySem.F.type_str_isalpha mt_isalpha (pv 0)) (pe_one (pe_m0 PySem.F.slot_str_islower PySem.F.type_str_islower mt_islower (pv 0)))))))), ?_⟩
    obtain ⟨⟨l1, l2⟩, h2, h3, h4⟩ := lw_facts x hx
    refine ⟨_, rfl, _, rfl, Nat.le_trans (Nat.le_of_lt l2) (by decide), _, _, rfl, fun p hp => ?_⟩
    refine ⟨_, _, _, _, rfl, rfl, upd_same, _, rfl, ?_⟩
    rw [decide_eq_true (show (1 : Int) ≤ (x.length : Int) ∧ (x.length : Int) < 7 by omega)]
    refine iteT ⟨_, rfl, ⟨_, rfl⟩, _, rfl, rfl, trivial, _, rfl, ?_⟩
    rw [h2]
    refine iteT ⟨_, rfl, ⟨_, rfl⟩, _, rfl, rfl, trivial, _, rfl, ?_⟩
    rw [h3]
    refine iteT ⟨_, rfl, ⟨_, rfl⟩, _, rfl, rfl, trivial, ?_⟩
    rw [h4]
    exact k _ (Ex.new hp)
theorem ok_is_step_name (T : Txt K mg a) : FnOk P w K mg base CX0 5 a.is_step_name a.is_step_name_fd ["word"] sp_is_step_name := by
  refine T.F_is_step_name.ok sc_is_step_name (fun vs H Q E h => ?_) (fun cdv A outer s H vs Q E hr h => ?_)
  · obtain ⟨x, rfl, _⟩ := h
    rfl
  · obtain ⟨x, rfl, hx, k⟩ := h
    refine ⟨_, (pss_cons (ps_set (i := 1) sc_is_step_name.nd rfl (Or.inl rfl) (pe_m1 PySem.F.slot_str_rstrip PySem.F.type_str_rstrip mt_rstripChars (pv 0) pe_str))
      (pss_one (ps_ret (pe_and (pe_call (ok_is_letters T) (hr.mono (by decide)) rfl T.g_is_letters T.k_is_letters T.B_is_letters .nil pass0 (pa_cons (pv 1) pa_nil)) (pe_one (pe_cmpR op_le (pe_op op_sub (pe_callB call_len_str (by rfl) T.n_len (by decide +kernel) (pa_cons (pv 0) pa_nil)) (pe_callB call_len_str (by rfl) T.n_len (by decide +kernel) (pa_cons (pv 1) pa_nil))) pe_int (nomark _))))))), ?_⟩
    obtain ⟨h1, h2, h3⟩ := sn_facts x hx
    have hl := (lw_facts _ h1).1.2
    have hx9 : x.length ≤ 10 := by omega
    refine ⟨_, rfl, ⟨_, rfl⟩, _, _, rfl, rfl, Nat.le_trans hx9 (by decide), ?_⟩
    refine ⟨_, rfl, _, rfl, h1, fun H1 e1 => ⟨_, rfl, iteT ?_⟩⟩
    refine ⟨_, rfl, _, rfl, Nat.le_trans hx9 (by decide), _, rfl, _, rfl, Nat.le_trans (Nat.le_of_lt hl) (by decide), _, _, rfl, rfl, _, _, rfl, rfl, ?_⟩
    have e : decide ((x.length : Int) - ((Txt.rstripChars x ("0123456789" : Str)).length : Int) ≤ 3) = true := decide_eq_true (by omega)
    dsimp only
    rw [e]
    exact k H1 e1
theorem ok_is_new (T : Txt K mg a) : FnOk P w K mg base CX0 4 a.is_new a.is_new_fd ["word", "names"] sp_is_new := by
  refine T.F_is_new.ok sc_is_new (fun vs H Q E h => ?_) (fun cdv A outer s H vs Q E hr h => ?_)
  · obtain ⟨x, l, names, rfl, _⟩ := h
    rfl
  · obtain ⟨x, l, names, rfl, hl, hx, hn, k⟩ := h
    refine ⟨_, (pss_one (ps_ret (pe_and (pe_cmpR op_notIn_seq (pv 0) (pe_glob (v := .ref a.WORDS) rfl T.g_WORDS rfl) (by rfl)) (pe_one (pe_cmpR op_notIn_seq (pv 0) (pv 1) (by rfl)))))), ?_⟩
    have hw := (nm_facts x hx).1
    refine ⟨_, rfl, a.WORDS, _, rfl, .inr (T.t_WORDS H), rfl, rfl, _, rfl, ?_⟩
    have e : inV (.str x) [.str "grid", .str "input", .str "tell", .str "least", .str "most", .str "choose", .str "keep", .str "way"] = false := (inV_sv x WD).trans (decide_eq_false hw)
    rw [e]
    refine iteT ⟨_, rfl, _, rfl, l, _, rfl, .inl (SqL.of hl), rfl, sv_flat _, ?_⟩
    rw [inV_sv, decide_eq_false hn]
    exact k H (Ex.refl H)
theorem ok_read_operand (T : Txt K mg a) : FnOk P w K mg base CX0 4 a.read_operand a.read_operand_fd ["word", "grid", "names"] (sp_read_operand a) := by
  refine T.F_read_operand.ok sc_read_operand (fun vs H Q E h => ?_) (fun cdv A outer s H vs Q E hr h => ?_)
  · obtain ⟨o, g, l, b, f, r, names, rfl, _⟩ := h
    rfl
  · obtain ⟨o, g, l, b, f, r, names, rfl, hg, hl, hnm, ho, k⟩ := h
    refine ⟨_, (pss_cons (ps_if (pt_cmpR op_in_seq (pv 0) (pv 2) (by rfl)) (pss_one (ps_ret (pv 0))) pss_nil)
      (pss_cons (ps_set (i := 3) sc_read_operand.nd rfl (Or.inl rfl) (pe_call (ok_read_integer T) (hr.mono (by decide)) rfl T.g_read_integer T.k_read_integer T.B_read_integer .nil pass0 (pa_cons (pv 0) pa_nil)))
      (pss_one (ps_ret (pe_ifExp (pt_cmpR (op_inOwn (ok_Grid_contains T) (hr.mono (by decide)) T.cl_Grid T.m_Grid_contains T.B_Grid_contains pass0) (pv 3) (pv 1) (by rfl)) (pv 3) pe_non))))), ?_⟩
    refine ⟨_, rfl, _, rfl, l, _, rfl, .inl (SqL.of hl), rfl, sv_flat _, _, rfl, ?_⟩
    show (if inV (.str o.w) (sv names) = true then _ else _)
    rw [inV_sv]
    cases o with
    | nm x =>
      refine ite2 (fun _ => ?_) (fun h => absurd (decide_eq_true (show x ∈ names from ho)) h)
      exact ⟨_, rfl, k H (Ex.refl H)⟩
    | nb n =>
      refine ite2 (fun h => ?_) (fun _ => ?_)
      · exact absurd (List.mem_append_left _ (hnm _ (of_decide_eq_true h))) (num_nm n)
      have ho : OnG b (b ^ f) ((b ^ f - 1) * b ^ r) n := ho
      refine ⟨_, rfl, n, rfl, len10 hg.ub (by have := hg.uf; have := hg.ur; omega) ho.1, fun H1 e1 => ?_⟩
      obtain ⟨dx, lim, tops, p, u, xs, ys, o1, o2, o3, o4, o5⟩ := (hg.mono e1).ob
      refine ⟨_, rfl, _, rfl, g, dx, _, rfl, o1, g, b, f, r, _, _, n, rfl, hg.mono e1, ho, fun H2 e2 => ⟨true, rfl, _, rfl, ?_⟩⟩
      refine iteT ⟨_, rfl, k H2 (e1.trans e2)⟩
end
end My


set_option Elab.async false
set_option maxRecDepth 100000
set_option maxHeartbeats 2000000
set_option exponentiation.threshold 6000
namespace My
open PySem L2 Evl TL
theorem cut_drop (xs : List V) (k : Nat) : cutV xs (some (k : Int)) none = xs.drop k := by
  unfold cutV
  rw [HT.sIx_nat, HT.sIx_none]
  by_cases h : k ≤ xs.length
  · rw [Nat.min_eq_left h]
    rw [List.take_of_length_le]
    rw [List.length_drop]
    omega
  · rw [Nat.min_eq_right (by omega), List.drop_of_length_le (Nat.le_refl _), List.drop_of_length_le (by omega)]
    simp
theorem cut_take (xs : List V) (k : Nat) : cutV xs none (some (k : Int)) = xs.take k := by
  unfold cutV
  rw [HT.sIx_nat, HT.sIx_none]
  show (xs.drop 0).take (min k xs.length - 0) = xs.take k
  rw [List.drop_zero, Nat.sub_zero]
  by_cases h : k ≤ xs.length
  · rw [Nat.min_eq_left h]
  · rw [Nat.min_eq_right (by omega), List.take_of_length_le (Nat.le_refl _), List.take_of_length_le (by omega)]
theorem cut_mid (xs : List V) (i j : Nat) (hij : i ≤ j) : cutV xs (some (i : Int)) (some (j : Int)) = (xs.drop i).take (j - i) := by
  unfold cutV
  rw [HT.sIx_nat, HT.sIx_nat]
  by_cases h : i ≤ xs.length
  · rw [Nat.min_eq_left h]
    by_cases h2 : j ≤ xs.length
    · rw [Nat.min_eq_left h2]
    · rw [Nat.min_eq_right (by omega), List.take_of_length_le (by rw [List.length_drop]; omega), List.take_of_length_le (by rw [List.length_drop]; omega)]
  · rw [Nat.min_eq_right (by omega : xs.length ≤ i), List.drop_of_length_le (Nat.le_refl _), List.drop_of_length_le (by omega)]
    simp
theorem sv_drop (xs : List Str) (k : Nat) : (sv xs).drop k = sv (xs.drop k) := by unfold sv; rw [List.map_drop]
theorem sv_take (xs : List Str) (k : Nat) : (sv xs).take k = sv (xs.take k) := by unfold sv; rw [List.map_take]
theorem sv_app (xs ys : List Str) : sv (xs ++ ys) = sv xs ++ sv ys := by unfold sv; rw [List.map_append]
theorem dp_strs {K : PySem.W.Frag} {H : Hp} : ∀ xs : List Str, DpAll K H (sv xs) (xs.map PyData.str)
  | [] => .nil
  | x :: xs => .cons (.str x) (dp_strs xs)
theorem layS : ∀ xs : List Str, (∀ x ∈ xs, PyData.canLay0 (.str x) = true) → PyData.canLayAll0 (xs.map PyData.str) = true
  | [], _ => rfl
  | x :: xs, h => by
    show (PyData.canLay0 (.str x) && PyData.canLayAll0 (xs.map PyData.str)) = true
    rw [layS xs (fun y hy => h y (List.mem_cons_of_mem _ hy)), h x List.mem_cons_self]; rfl
theorem depS : ∀ xs : List Str, PyData.depthAll (xs.map PyData.str) = 0
  | [] => rfl
  | x :: xs => by
    show max (PyData.depth (.str x)) (PyData.depthAll (xs.map PyData.str)) = 0
    rw [depS xs]; rfl
theorem sh_strs (xs : List Str) (h : ∀ x ∈ xs, PyData.canLay0 (.str x) = true) : SeqAt.shaped (.list (xs.map PyData.str)) = true := by
  unfold SeqAt.shaped
  have h1 : (PyData.list (xs.map PyData.str)).canLay0 = true := layS xs h
  have h2 : (PyData.list (xs.map PyData.str)).depth = 1 := by
    show PyData.depthAll (xs.map PyData.str) + 1 = 1
    rw [depS]
  rw [h1, h2]; rfl
theorem gfl_figures {b f r p u G : Int} {lim tops : Addr} : (gfl b f r p u lim tops G).lookup ("figures" : Str) = some (.int f) := by
  unfold gfl
  repeat (first | rw [lookup_putF, if_pos (by decide +kernel)] | rw [lookup_putF, if_neg (by decide +kernel)])
def kW (m : Nat) : List Str := if 0 < m then [("keep" : Str), numW (m : Int)] else []
def wW (y : Wy) : List Str := match y with
  | .near => []
  | y => [("way" : Str), waS y]
theorem keep_eq (m : Nat) (y : Wy) : keepW m y = kW m ++ wW y := by
  unfold keepW kW wW
  cases y <;> rfl
theorem two_ok : ∀ x ∈ [("keep" : Str), ("way" : Str)], PyData.canLay0 (.str x) = true := by decide +kernel
theorem wW_ok (y : Wy) : ∀ x ∈ (wW y).take 1, PyData.canLay0 (.str x) = true := by
  intro x hx
  refine two_ok x ?_
  cases y with
  | near => cases hx
  | down => exact List.mem_cons_of_mem _ (by rw [List.mem_singleton]; exact List.mem_singleton.mp hx)
  | up => exact List.mem_cons_of_mem _ (by rw [List.mem_singleton]; exact List.mem_singleton.mp hx)
  | zero => exact List.mem_cons_of_mem _ (by rw [List.mem_singleton]; exact List.mem_singleton.mp hx)
theorem kwW_ok (m : Nat) (y : Wy) : ∀ x ∈ (kW m ++ wW y).take 1, PyData.canLay0 (.str x) = true := by
  unfold kW
  split
  · intro x hx
    have hx : x ∈ [("keep" : Str)] := hx
    rw [List.mem_singleton.mp hx]
    exact two_ok _ List.mem_cons_self
  · exact wW_ok y
def sp_read_keeping (a : Ad) : Sp := fun vs H Q _ => ∃ (m : Nat) (y : Wy) (g l : Addr) (b f r : Nat), vs = [.ref l, .ref g] ∧ GridAt a H g b f r (b ^ f) ((b ^ f - 1) * b ^ r) ∧ H l = some (.lst (sv (keepW m y))) ∧ m ≤ 3 ∧ (m = 0 ∨ f + m ≤ 30) ∧
  ∀ q H', Ex H H' → H' q = some (.tup [.int (m : Int), .str y.str]) → Q (.ref q) H'
/-- the words of a step behind its '=' -/
def Stp.tail (s : Stp) : List Str := if s.sg.isR = true then
    match s.ops with
    | [x, y] => [x.w, s.sg.str, y.w] ++ keepW s.more s.way
    | _ => []
  else [s.sg.str] ++ s.ops.map Opd.w
theorem words_tail {s : Stp} (h : s.ops.length = s.sg.ary) : s.words = [s.nm, ("=" : Str)] ++ s.tail := by
  unfold Stp.words Stp.tail
  split
  · rename_i g
    have : s.ops.length = 2 := by
      rw [h]
      cases hs : s.sg <;> first | rfl | (rw [hs] at g; cases g)
    match ho : s.ops, this with
    | [x, y], _ => rfl
  · rfl
def sp_read_form (a : Ad) : Sp := fun vs H Q _ => ∃ (s : Stp) (g l : Addr) (b f r : Nat) (names : List Str), vs = [.ref l, .ref g] ∧ GridAt a H g b f r (b ^ f) ((b ^ f - 1) * b ^ r) ∧ H l = some (.lst (sv s.tail)) ∧ StpOk b f r names s ∧ (∀ x ∈ names, x ∈ NM) ∧
  ∀ q o H', Ex H H' → H' q = some (.tup [.str s.sg.str, .ref o, .int (s.more : Int), .str s.way.str]) → H' o = some (.lst (sv (s.ops.map Opd.w))) → Q (.ref q) H'
section
variable {P : Program} {w : World} {K : PySem.W.Frag} {mg : Str → Option Value} {base : Heap} {a : Ad}
theorem ok_read_keeping (T : Txt K mg a) : FnOk P w K mg base CX0 4 a.read_keeping a.read_keeping_fd ["words", "grid"] (sp_read_keeping a) := by
  refine T.F_read_keeping.ok sc_read_keeping (fun vs H Q E h => ?_) (fun cdv A outer s H vs Q E hr h => ?_)
  · obtain ⟨m, y, g, l, b, f, r, rfl, _⟩ := h
    rfl
  · obtain ⟨m, y, g, l, b, f, r, rfl, hg, hl, hm, hfm, k⟩ := h
    refine ⟨_, (pss_cons (ps_set (i := 2) sc_read_keeping.nd rfl (Or.inl rfl) pe_int)
      (pss_cons (ps_set (i := 3) sc_read_keeping.nd rfl (Or.inl rfl) pe_str)
      (pss_cons (ps_set (i := 4) sc_read_keeping.nd rfl (Or.inl rfl) (pv 0))
      (pss_cut (ps_if (pt_cmpR (op_eqD hr.units) (pe_slice sl_list (pv 4) po_none (po_some pe_int)) (pe_lst (pa_cons pe_str pa_nil)) (nomark _)) (pss_cons (ps_set (i := 2) sc_read_keeping.nd rfl (Or.inl rfl) (pe_ifExp (pt_cmpR op_gt (pe_callB call_len_seq (by rfl) T.n_len (by decide +kernel) (pa_cons (pv 4) pa_nil)) pe_int (nomark _)) (pe_call (ok_read_integer T) (hr.mono (by decide)) rfl T.g_read_integer T.k_read_integer T.B_read_integer .nil pass0 (pa_cons (pe_ix ix_list (pv 4) pe_int (fun _ _ => rfl)) pa_nil)) pe_non))
      (pss_cons (ps_if (PW.pt (pw_or (pt_not (pt_val (pe_call (ok_is_from_to T) (hr.mono (by decide)) rfl T.g_is_from_to T.k_is_from_to T.B_is_from_to .nil pass0 (pa_cons (pv 2) (pa_cons pe_int (pa_cons (pe_glob (v := .int 3) rfl T.c_MOST_MORE.choose_spec ⟨_, rfl⟩) pa_nil)))))) (pw_or1 (pt_cmpR op_gt (pe_op op_add (pe_fld (pv 1) rfl) (pv 2)) (pe_glob (v := .int 30) rfl T.c_MOST_FIGURES.choose_spec ⟨_, rfl⟩) (nomark _))))) (pss_one (ps_ret pe_non)) pss_nil)
      (pss_one (ps_set (i := 4) sc_read_keeping.nd rfl (Or.inl rfl) (pe_slice sl_list (pv 4) (po_some pe_int) po_none))))) pss_nil)
      (pss_cut (ps_if (pt_cmpR (op_eqD hr.units) (pe_slice sl_list (pv 4) po_none (po_some pe_int)) (pe_lst (pa_cons pe_str pa_nil)) (nomark _)) (pss_cons (ps_if (PW.pt (pw_or (pt_cmpR op_lt (pe_callB call_len_seq (by rfl) T.n_len (by decide +kernel) (pa_cons (pv 4) pa_nil)) pe_int (nomark _)) (pw_or1 (pt_cmpR op_notIn_seq (pe_ix ix_list (pv 4) pe_int (fun _ _ => rfl)) (pe_glob (v := .ref a.WRITTEN_WAYS) rfl T.g_WRITTEN_WAYS rfl) (by rfl))))) (pss_one (ps_ret pe_non)) pss_nil)
      (pss_cons (ps_set (i := 3) sc_read_keeping.nd rfl (Or.inl rfl) (pe_ix ix_list (pv 4) pe_int (fun _ _ => rfl)))
      (pss_one (ps_set (i := 4) sc_read_keeping.nd rfl (Or.inl rfl) (pe_slice sl_list (pv 4) (po_some pe_int) po_none))))) pss_nil)
      (pss_one (ps_ret (pe_ifExp (pt_truth (pv 4) (by intro _; rfl)) pe_non (pe_tup (pa_cons (pv 2) (pa_cons (pv 3) pa_nil))))))))))), ?_⟩
    rw [keep_eq] at hl
    refine ⟨_, rfl, ?_⟩
    refine ⟨fun σ H' => ∃ l1, Ex H H' ∧ H' l1 = some (.lst (sv (wW y))) ∧ σ = [some (.ref l), some (.ref g), some (.int (m : Int)), some (.str "near"), some (.ref l1)], ?_, ?_⟩
    · refine ⟨_, rfl, _, rfl, l, _, rfl, SqL.of hl, fun p hp => ?_⟩
      have e1 : cutV (sv (kW m ++ wW y)) none (some 1) = sv ((kW m ++ wW y).take 1) := (cut_take _ 1).trans (sv_take _ 1)
      rw [e1]
      have x1 := Ex.new (o := .lst (sv ((kW m ++ wW y).take 1))) hp
      have h1 : (upd H p (.lst (sv ((kW m ++ wW y).take 1)))) p = some (.lst (sv ((kW m ++ wW y).take 1))) := upd_same
      generalize (upd H p (.lst (sv ((kW m ++ wW y).take 1)))) = H1 at *
      refine ⟨by show 1 ≤ sizeLine; decide, fun p2 hp2 => ?_⟩
      have x2 := Ex.new (o := .lst [V.str "keep"]) hp2
      have h2 : (upd H1 p2 (.lst [V.str "keep"])) p2 = some (.lst (sv [("keep" : Str)])) := upd_same
      have h1 := x2 _ _ h1
      have x12 := x1.trans x2
      generalize (upd H1 p2 (.lst [V.str "keep"])) = H2 at *
      have hl2 := x12 _ _ hl
      refine ⟨_, _, .lst (SqL.of h1) (dp_strs _), .lst (SqL.of h2) (dp_strs _), sh_strs _ (kwW_ok m y), sh_strs _ (fun x hx => two_ok x (by rw [List.mem_singleton.mp hx]; exact List.mem_cons_self)), _, rfl, ?_⟩
      by_cases hm0 : m = 0
      · subst hm0
        refine ite2 (fun h => ?_) (fun _ => ?_)
        · exfalso
          cases y <;> exact absurd h (by decide +kernel)
        · exact ⟨l, x12, hl2, rfl⟩
      · have ek : kW m = [("keep" : Str), numW (m : Int)] := if_pos (by omega)
        rw [ek] at hl2 ⊢
        refine ite2 (fun _ => ?_) (fun h => absurd (by show PyData.eqv (.list [.str "keep"]) (.list [.str "keep"]) = true; decide +kernel) h)
        have g1 : (sv ([("keep" : Str), numW (m : Int)] ++ wW y))[1]? = some (.str (numW (m : Int))) := rfl
        refine ⟨_, rfl, l, _, rfl, .inl (SqL.of hl2), _, _, rfl, rfl, _, rfl, ?_⟩
        refine ite2 (fun _ => ?_) (fun h => absurd (decide_eq_true (by rw [sv_len]; simp; omega)) h)
        refine ⟨_, rfl, l, _, _, _, rfl, rfl, SqL.of hl2, atN g1, (m : Int), rfl, ?_, fun H3 e3 => ?_⟩
        · rw [Int.natAbs_natCast]
          exact Nat.lt_of_le_of_lt hm (by decide +kernel)
        refine ⟨_, rfl, (m : Int), 1, 3, rfl, fun H4 e4 => ⟨_, rfl, ?_⟩⟩
        rw [decide_eq_true (show (1 : Int) ≤ m by omega), decide_eq_true (show (m : Int) ≤ 3 by omega)]
        refine ite2 (fun h => absurd h (by simp)) (fun _ => ?_)
        have x4 := x12.trans (e3.trans e4)
        obtain ⟨dx, lim, tops, p', u, xs, ys, o1, o2, o3, o4, o5⟩ := (hg.mono x4).ob
        refine ⟨_, rfl, g, _, dx, _, _, rfl, o1, T.cl_Grid, T.f_Grid_figures, gfl_figures, _, rfl, _, _, rfl, rfl, _, _, rfl, rfl, _, rfl, ?_⟩
        refine ite2 (fun h => absurd (of_decide_eq_true h) (by omega)) (fun _ => ?_)
        refine ⟨_, rfl, _, rfl, l, _, rfl, SqL.of ((e3.trans e4) _ _ hl2), fun p3 hp3 => ?_⟩
        refine ⟨p3, x4.trans (Ex.new hp3), ?_, rfl⟩
        rw [upd_same]
        have e2 : cutV (sv ([("keep" : Str), numW (m : Int)] ++ wW y)) (some 2) none = sv (([("keep" : Str), numW (m : Int)] ++ wW y).drop 2) := (cut_drop _ 2).trans (sv_drop _ 2)
        rw [e2]
        rfl
    rintro σ H1 ⟨l1, e1, h1, rfl⟩
    refine ⟨fun σ H' => ∃ l2, Ex H H' ∧ H' l2 = some (.lst []) ∧ σ = [some (.ref l), some (.ref g), some (.int (m : Int)), some (.str y.str), some (.ref l2)], ?_, ?_⟩
    · refine ⟨_, rfl, _, rfl, l1, _, rfl, SqL.of h1, fun p hp => ?_⟩
      have e2 : cutV (sv (wW y)) none (some 1) = sv ((wW y).take 1) := (cut_take _ 1).trans (sv_take _ 1)
      rw [e2]
      have x1 := Ex.new (o := .lst (sv ((wW y).take 1))) hp
      have h2 : (upd H1 p (.lst (sv ((wW y).take 1)))) p = some (.lst (sv ((wW y).take 1))) := upd_same
      generalize (upd H1 p (.lst (sv ((wW y).take 1)))) = H2 at *
      refine ⟨by show 1 ≤ sizeLine; decide, fun p2 hp2 => ?_⟩
      have x2 := Ex.new (o := .lst [V.str "way"]) hp2
      have h3 : (upd H2 p2 (.lst [V.str "way"])) p2 = some (.lst (sv [("way" : Str)])) := upd_same
      have h2 := x2 _ _ h2
      have x12 := x1.trans x2
      generalize (upd H2 p2 (.lst [V.str "way"])) = H3 at *
      have h13 := x12 _ _ h1
      refine ⟨_, _, .lst (SqL.of h2) (dp_strs _), .lst (SqL.of h3) (dp_strs _), sh_strs _ (wW_ok y), sh_strs _ (fun x hx => two_ok x (by rw [List.mem_singleton.mp hx]; exact List.mem_cons_of_mem _ List.mem_cons_self)), _, rfl, ?_⟩
      by_cases hy : y = .near
      · subst hy
        refine ite2 (fun h => absurd h (by decide +kernel)) (fun _ => ?_)
        exact ⟨l1, e1.trans x12, h13, rfl⟩
      · have ew : wW y = [("way" : Str), y.str] := by cases y <;> first | rfl | exact absurd rfl hy
        rw [ew] at h13 ⊢
        refine ite2 (fun _ => ?_) (fun h => absurd (by show PyData.eqv (.list [.str "way"]) (.list [.str "way"]) = true; decide +kernel) h)
        have g1 : (sv [("way" : Str), y.str])[1]? = some (.str y.str) := rfl
        refine ⟨_, rfl, l1, _, rfl, .inl (SqL.of h13), _, _, rfl, rfl, _, rfl, ?_⟩
        refine ite2 (fun h => absurd (of_decide_eq_true h) (by rw [sv_len]; simp)) (fun _ => ?_)
        refine ⟨_, rfl, l1, _, _, _, rfl, rfl, SqL.of h13, atN g1, a.WRITTEN_WAYS, _, rfl, .inr (T.t_WRITTEN_WAYS H3), rfl, rfl, _, rfl, ?_⟩
        refine ite2 (fun h => ?_) (fun _ => ?_)
        · exfalso
          replace h : (!inV (.str y.str) [.str "down", .str "up", .str "zero"]) = true := h
          cases y <;> first | exact absurd rfl hy | exact absurd h (by decide +kernel)
        refine ⟨_, rfl, l1, _, _, _, rfl, rfl, SqL.of h13, atN g1, ?_⟩
        refine ⟨_, rfl, _, rfl, l1, _, rfl, SqL.of h13, fun p3 hp3 => ?_⟩
        refine ⟨p3, e1.trans (x12.trans (Ex.new hp3)), ?_, rfl⟩
        rw [upd_same]
        have e3 : cutV (sv [("way" : Str), y.str]) (some 2) none = sv ([("way" : Str), y.str].drop 2) := (cut_drop _ 2).trans (sv_drop _ 2)
        rw [e3]
        rfl
    rintro σ H2 ⟨l2, e2, h2, rfl⟩
    refine ⟨_, rfl, false, .inl ⟨[], SqL.of h2, rfl⟩, ?_⟩
    refine iteF ⟨_, rfl, _, rfl, by show 2 ≤ sizeLine; decide, fun q hq => ?_⟩
    exact k q _ (e2.trans (Ex.new hq)) upd_same
end
end My


set_option Elab.async false
set_option maxRecDepth 100000
set_option maxHeartbeats 2000000
set_option exponentiation.threshold 6000
namespace My
open PySem L2 Evl TL
def StepAt (H : Hp) (q : Addr) (s : Stp) : Prop := ∃ o, H q = some (.tup [.str s.nm, .str s.sg.str, .ref o, .int (s.more : Int), .str s.way.str]) ∧ H o = some (.tup (s.ops.map Opd.v))
def InpAt (H : Hp) (q : Addr) (i : Inp) : Prop := H q = some (.tup [.str i.nm, .int i.lo, .int i.hi])
theorem StepAt.ex {H H' : Hp} {q : Addr} {s : Stp} (h : StepAt H q s) (e : Ex H H') : StepAt H' q s := by
  obtain ⟨o, h1, h2⟩ := h
  exact ⟨o, e _ _ h1, e _ _ h2⟩
theorem InpAt.ex {H H' : Hp} {q : Addr} {i : Inp} (h : InpAt H q i) (e : Ex H H') : InpAt H' q i := e _ _ h
def sp_read_step (a : Ad) : Sp := fun vs H Q _ => (∃ (s : Stp) (g l : Addr) (b f r : Nat) (names : List Str), vs = [.str (lineW s.words), .ref g, .ref l] ∧ GridAt a H g b f r (b ^ f) ((b ^ f - 1) * b ^ r) ∧ H l = some (.lst (sv names)) ∧ StpOk b f r names s ∧ (∀ x ∈ names, x ∈ NM) ∧
  ∀ q H', Ex H H' → StepAt H' q s → Q (.ref q) H') ∨
  (∃ (ws : List Str) (g l : Addr), vs = [.str (lineW ws), .ref g, .ref l] ∧ ws ≠ [] ∧ Free 32 ws ∧ (ws.length < 5 ∨ ∃ v, ws[1]? = some v ∧ v ≠ ("=" : Str)) ∧ (lineW ws).length ≤ 100000 ∧ ∀ H', Ex H H' → Q .non H')
def sp_read_input (a : Ad) : Sp := fun vs H Q _ => (∃ (i : Inp) (g l : Addr) (b f r : Nat) (names : List Str), vs = [.str (lineW i.words), .ref g, .ref l] ∧ GridAt a H g b f r (b ^ f) ((b ^ f - 1) * b ^ r) ∧ H l = some (.lst (sv names)) ∧ InpOk b f r names i ∧
  ∀ q H', Ex H H' → InpAt H' q i → Q (.ref q) H') ∨
  (∃ (w : Str) (ws : List Str) (g l : Addr), vs = [.str (lineW (w :: ws)), .ref g, .ref l] ∧ Free 32 (w :: ws) ∧ w ≠ ("input" : Str) ∧ (lineW (w :: ws)).length ≤ 100000 ∧ ∀ H', Ex H H' → Q .non H')
def sp_read_tell : Sp := fun vs H Q _ => ∃ (told names : List Str) (l : Addr), vs = [.str (lineW (tellWords told)), .ref l] ∧ H l = some (.lst (sv names)) ∧ (∀ x ∈ told, x ∈ names) ∧ (∀ x ∈ names, x ∈ NM) ∧ 1 ≤ told.length ∧ told.length ≤ 4 ∧
  ∀ q H', Ex H H' → H' q = some (.tup (sv told)) → Q (.ref q) H'
theorem opw_ne {b f r : Nat} {names : List Str} (hn : ∀ x ∈ names, x ∈ NM) {o : Opd} (h : OpOk b f r names o) : o.w ∉ WD := by
  cases o with
  | nm s => exact (nm_facts s (hn s h)).1
  | nb n => exact fun z => num_nm n (List.mem_append_right _ z)
theorem line_short {ws : List Str} (h : ∀ w ∈ ws, w.length ≤ 120) (hl : ws.length ≤ 9) : (lineW ws).length ≤ 2000 := by
  have h1 := line_len h
  have h2 : (120 + 1) * ws.length ≤ 121 * 9 := Nat.mul_le_mul_left _ hl
  omega
theorem ops_flat (ops : List Opd) : (ops.map Opd.v).all flatV = true := by
  rw [List.all_eq_true]
  intro v hv
  obtain ⟨o, _, rfl⟩ := List.mem_map.mp hv
  cases o <;> rfl
theorem ops_none (ops : List Opd) : inV .non (ops.map Opd.v) = false := by
  induction ops with
  | nil => rfl
  | cons o os ih =>
    have : inV .non ((o :: os).map Opd.v) = (eqV o.v .non || inV .non (os.map Opd.v)) := rfl
    rw [this, ih]
    cases o <;> rfl
section
variable {P : Program} {w : World} {K : PySem.W.Frag} {mg : Str → Option Value} {base : Heap} {a : Ad}
theorem ok_read_form (T : Txt K mg a) : FnOk P w K mg base CX0 5 a.read_form a.read_form_fd ["words", "grid"] (sp_read_form a) := by
  refine T.F_read_form.ok sc_read_form (fun vs H Q E h => ?_) (fun cdv A outer s H vs Q E hr h => ?_)
  · obtain ⟨s, g, l, b, f, r, names, rfl, _⟩ := h
    rfl
  · obtain ⟨s, g, l, b, f, r, names, rfl, hg, hl, hs, hn, k⟩ := h
    refine ⟨_, (pss_cons (ps_if (PW.pt (pw_or (PW.pt (pw_and (pt_cmpR op_in_seq (pe_ix ix_list (pv 0) pe_int (fun _ _ => rfl)) (pe_tup (pa_cons pe_str (pa_cons pe_str pa_nil))) (by rfl)) (pw_and1 (pt_cmpR op_eq (pe_callB call_len_seq (by rfl) T.n_len (by decide +kernel) (pa_cons (pv 0) pa_nil)) pe_int (nomark _))))) (pw_or1 (PW.pt (pw_and (pt_cmpR op_eq (pe_ix ix_list (pv 0) pe_int (fun _ _ => rfl)) pe_str (nomark _)) (pw_and1 (pt_cmpR op_eq (pe_callB call_len_seq (by rfl) T.n_len (by decide +kernel) (pa_cons (pv 0) pa_nil)) pe_int (nomark _)))))))) (pss_one (ps_ret (pe_tup (pa_cons (pe_ix ix_list (pv 0) pe_int (fun _ _ => rfl)) (pa_cons (pe_slice sl_list (pv 0) (po_some pe_int) po_none) (pa_cons pe_int (pa_cons pe_str pa_nil))))))) pss_nil)
      (pss_cons (ps_if (pt_cmpR op_notIn_seq (pe_ix ix_list (pv 0) pe_int (fun _ _ => rfl)) (pe_glob (v := .ref a.ROUNDED_SIGNS) rfl T.g_ROUNDED_SIGNS rfl) (by rfl)) (pss_one (ps_ret pe_non)) pss_nil)
      (pss_cons (ps_set (i := 2) sc_read_form.nd rfl (Or.inl rfl) (pe_call (ok_read_keeping T) (hr.mono (by decide)) rfl T.g_read_keeping T.k_read_keeping T.B_read_keeping .nil pass0 (pa_cons (pe_slice sl_list (pv 0) (po_some pe_int) po_none) (pa_cons (pv 1) pa_nil))))
      (pss_cons (ps_if (pt_cmpR op_isN (pv 2) pe_non (nomark _)) (pss_one (ps_ret pe_non)) pss_nil)
      (pss_one (ps_ret (pe_tup (pa_cons (pe_ix ix_list (pv 0) pe_int (fun _ _ => rfl)) (pa_cons (pe_lst (pa_cons (pe_ix ix_list (pv 0) pe_int (fun _ _ => rfl)) (pa_cons (pe_ix ix_list (pv 0) pe_int (fun _ _ => rfl)) pa_nil))) (pa_cons (pe_ix ix_tup (pv 2) pe_int (fun _ _ => rfl)) (pa_cons (pe_ix ix_tup (pv 2) pe_int (fun _ _ => rfl)) pa_nil))))))))))), ?_⟩
    by_cases hr0 : s.sg.isR = true
    · have hlen : s.ops.length = 2 := by
        rw [hs.len]
        cases hc : s.sg <;> first | rfl | (rw [hc] at hr0; cases hr0)
      obtain ⟨x, y, hxy⟩ : ∃ x y, s.ops = [x, y] := by
        match s.ops, hlen with
        | [x, y], _ => exact ⟨x, y, rfl⟩
      have ht : s.tail = [x.w, s.sg.str, y.w] ++ keepW s.more s.way := by
        unfold Stp.tail
        rw [if_pos hr0, hxy]
      rw [ht] at hl
      have hx := opw_ne hn (hs.ops x (by rw [hxy]; simp))
      have g0' : (sv ([x.w, s.sg.str, y.w] ++ keepW s.more s.way))[0]? = some (.str x.w) := rfl
      have g1' : (sv ([x.w, s.sg.str, y.w] ++ keepW s.more s.way))[1]? = some (.str s.sg.str) := rfl
      have g2' : (sv ([x.w, s.sg.str, y.w] ++ keepW s.more s.way))[2]? = some (.str y.w) := rfl
      refine ⟨_, rfl, l, _, _, _, rfl, rfl, SqL.of hl, atN g0', by show 2 ≤ sizeLine; decide, fun t ht => ?_⟩
      have x1 := Ex.new (o := .tup [V.str "least", V.str "most"]) ht
      refine ⟨t, _, rfl, .inr (SqT.of upd_same), rfl, rfl, _, rfl, ?_⟩
      refine ite2 (fun h => ?_) (fun _ => iteF ?_)
      · have h : inV (.str x.w) (sv [("least" : Str), ("most" : Str)]) = true := h
        rw [inV_sv] at h
        have h := of_decide_eq_true h
        exfalso
        rcases List.mem_cons.mp h with h | h
        · exact hx (by rw [h]; decide +kernel)
        · exact hx (by rw [List.mem_singleton.mp h]; decide +kernel)
      generalize (upd H t (.tup [V.str "least", V.str "most"])) = H1 at *
      have hl1 := x1 _ _ hl
      refine ⟨_, rfl, l, _, _, _, rfl, rfl, SqL.of hl1, atN g0', rfl, _, rfl, ?_⟩
      refine ite2 (fun h => ?_) (fun _ => iteF ?_)
      · exfalso
        have h : decide (V.str x.w = V.str ("choose" : Str)) = true := h
        have h := V.str.inj (of_decide_eq_true h)
        exact hx (by rw [h]; decide +kernel)
      refine ⟨_, rfl, l, _, _, _, rfl, rfl, SqL.of hl1, atN g1', a.ROUNDED_SIGNS, _, rfl, .inr (T.t_ROUNDED_SIGNS H1), rfl, rfl, _, rfl, ?_⟩
      refine ite2 (fun h => ?_) (fun _ => ?_)
      · exfalso
        replace h : (!inV (.str s.sg.str) [.str "+", .str "-", .str "*", .str "/"]) = true := h
        cases hc : s.sg <;> rw [hc] at h hr0 <;> first | exact absurd h (by decide +kernel) | cases hr0
      refine ⟨_, rfl, _, rfl, l, _, rfl, SqL.of hl1, fun p hp => ?_⟩
      have e3 : cutV (sv ([x.w, s.sg.str, y.w] ++ keepW s.more s.way)) (some 3) none = sv (keepW s.more s.way) := (cut_drop _ 3).trans (sv_drop _ 3)
      rw [e3]
      have x2 := x1.trans (Ex.new (o := .lst (sv (keepW s.more s.way))) hp)
      have h2 : (upd H1 p (.lst (sv (keepW s.more s.way)))) p = some (.lst (sv (keepW s.more s.way))) := upd_same
      generalize (upd H1 p (.lst (sv (keepW s.more s.way)))) = H2 at *
      refine ⟨_, rfl, s.more, s.way, g, p, b, f, r, rfl, hg.mono x2, h2, hs.more, hs.fine, fun q H3 e3 hq => ?_⟩
      refine ⟨_, rfl, rfl, _, rfl, ?_⟩
      refine ite2 (fun h => absurd h (by simp)) (fun _ => ?_)
      have x3 := x2.trans e3
      have hl3 := x3 _ _ hl
      refine ⟨_, rfl, l, _, _, _, rfl, rfl, SqL.of hl3, atN g1', _, rfl, l, _, _, _, rfl, rfl, SqL.of hl3, atN g0', _, rfl, l, _, _, _, rfl, rfl, SqL.of hl3, atN g2', by show 2 ≤ sizeLine; decide, fun o ho => ?_⟩
      have x4 := Ex.new (o := .lst [V.str x.w, V.str y.w]) ho
      have h4 : (upd H3 o (.lst [V.str x.w, V.str y.w])) o = some (.lst [V.str x.w, V.str y.w]) := upd_same
      generalize (upd H3 o (.lst [V.str x.w, V.str y.w])) = H4 at *
      have hq4 := x4 _ _ hq
      refine ⟨_, rfl, q, _, _, _, rfl, rfl, SqT.of hq4, atN (m := 0) rfl, _, rfl, q, _, _, _, rfl, rfl, SqT.of hq4, atN (m := 1) rfl, by show 4 ≤ sizeLine; decide, fun t2 ht2 => ?_⟩
      refine k t2 o _ ((x3.trans x4).trans (Ex.new ht2)) upd_same ?_
      rw [(Ex.new ht2) _ _ h4, hxy]
      rfl
    · have hr0 : s.sg.isR = false := by simpa using hr0
      have ht : s.tail = s.sg.str :: s.ops.map Opd.w := by
        unfold Stp.tail
        rw [if_neg (by rw [hr0]; decide)]
        rfl
      rw [ht] at hl
      obtain ⟨hm0, hw0⟩ := hs.plain hr0
      have g0' : (sv (s.sg.str :: s.ops.map Opd.w))[0]? = some (.str s.sg.str) := rfl
      have hlen : ((sv (s.sg.str :: s.ops.map Opd.w)).length : Int) = (s.sg.ary : Int) + 1 := by
        rw [sv_len, List.length_cons, List.length_map, hs.len]
        omega
      have body : ∀ H1, Ex H H1 → ∀ (p : Addr), H1 p = none → ∀ (t2 : Addr), (upd H1 p (.lst (sv (s.ops.map Opd.w)))) t2 = none → Q (.ref t2) (upd (upd H1 p (.lst (sv (s.ops.map Opd.w)))) t2 (.tup [.str s.sg.str, .ref p, .int 0, .str "near"])) := by
        intro H1 e1 p hp t2 ht2
        refine k t2 p _ ((e1.trans (Ex.new hp)).trans (Ex.new ht2)) ?_ ?_
        · rw [upd_same, hm0, hw0]
          rfl
        · exact (Ex.new ht2) _ _ upd_same
      have e1 : cutV (sv (s.sg.str :: s.ops.map Opd.w)) (some 1) none = sv (s.ops.map Opd.w) := (cut_drop _ 1).trans (sv_drop _ 1)
      refine ⟨_, rfl, l, _, _, _, rfl, rfl, SqL.of hl, atN g0', by show 2 ≤ sizeLine; decide, fun t ht => ?_⟩
      have x1 := Ex.new (o := .tup [V.str "least", V.str "most"]) ht
      have ht1 : (upd H t (.tup [V.str "least", V.str "most"])) t = some (.tup [V.str "least", V.str "most"]) := upd_same
      generalize (upd H t (.tup [V.str "least", V.str "most"])) = H1 at *
      have hl1 := x1 _ _ hl
      refine ⟨t, _, rfl, .inr (SqT.of ht1), rfl, rfl, _, rfl, ?_⟩
      by_cases hc : s.sg = .choose
      · refine ite2 (fun h => ?_) (fun _ => iteF ?_)
        · exfalso
          rw [hc] at h
          exact absurd h (by decide +kernel)
        refine ⟨_, rfl, l, _, _, _, rfl, rfl, SqL.of hl1, atN g0', rfl, _, rfl, ?_⟩
        refine ite2 (fun _ => ?_) (fun h => absurd (by rw [hc]; decide +kernel) h)
        refine ⟨_, rfl, l, _, rfl, .inl (SqL.of hl1), rfl, _, rfl, ?_⟩
        refine ite2 (fun _ => ?_) (fun h => absurd (by rw [hlen, hc]; decide +kernel) h)
        refine ⟨_, rfl, l, _, _, _, rfl, rfl, SqL.of hl1, atN g0', _, rfl, _, rfl, l, _, rfl, SqL.of hl1, fun p hp => ?_⟩
        rw [e1]
        exact ⟨by show 4 ≤ sizeLine; decide, fun t2 ht2 => body H1 x1 p hp t2 ht2⟩
      · have h2 : s.sg = .least ∨ s.sg = .most := by
          cases hg' : s.sg <;> rw [hg'] at hr0 hc <;> first | exact .inl rfl | exact .inr rfl | exact absurd rfl hc | cases hr0
        refine ite2 (fun _ => ?_) (fun h => ?_)
        rotate_left
        · exfalso
          rcases h2 with h2 | h2 <;> (rw [h2] at h; exact absurd (by decide +kernel) h)
        refine ⟨_, rfl, l, _, rfl, .inl (SqL.of hl1), rfl, _, rfl, ?_⟩
        refine ite2 (fun _ => ?_) (fun h => ?_)
        rotate_left
        · exfalso
          rw [hlen] at h
          rcases h2 with h2 | h2 <;> (rw [h2] at h; exact absurd (by decide +kernel) h)
        refine ⟨_, rfl, l, _, _, _, rfl, rfl, SqL.of hl1, atN g0', _, rfl, _, rfl, l, _, rfl, SqL.of hl1, fun p hp => ?_⟩
        rw [e1]
        exact ⟨by show 4 ≤ sizeLine; decide, fun t2 ht2 => body H1 x1 p hp t2 ht2⟩
end
end My


set_option Elab.async false
set_option maxRecDepth 100000
set_option maxHeartbeats 2000000
set_option exponentiation.threshold 6000
namespace My
open PySem L2 Evl TL
theorem all_true : ∀ bs : List Bool, (∀ b ∈ bs, b = true) → bs.all id = true
  | [], _ => rfl
  | b :: bs, h => by
    rw [List.all_cons, all_true bs (fun c hc => h c (List.mem_cons_of_mem _ hc)), h b List.mem_cons_self]; rfl
section
variable {P : Program} {w : World} {K : PySem.W.Frag} {mg : Str → Option Value} {base : Heap} {a : Ad}
theorem ok_read_step (T : Txt K mg a) : FnOk P w K mg base CX0 6 a.read_step a.read_step_fd ["line", "grid", "names"] (sp_read_step a) := by
  refine T.F_read_step.ok sc_read_step (fun vs H Q E h => ?_) (fun cdv A outer s H vs Q E hr h => ?_)
  · rcases h with ⟨s, g, l, b, f, r, names, rfl, _⟩ | ⟨ws, g, l, rfl, _⟩ <;> rfl
  · refine ⟨_, (pss_cons (ps_set (i := 3) sc_read_step.nd rfl (Or.inl rfl) (pe_split (pv 0) pe_str))
      (pss_cons (ps_if (PW.pt (pw_or (pt_cmpR op_lt (pe_callB call_len_seq (by rfl) T.n_len (by decide +kernel) (pa_cons (pv 3) pa_nil)) pe_int (nomark _)) (pw_or (pt_cmpR op_ne (pe_ix ix_list (pv 3) pe_int (fun _ _ => rfl)) pe_str (nomark _)) (pw_or (pt_not (pt_val (pe_call (ok_is_step_name T) (hr.mono (by decide)) rfl T.g_is_step_name T.k_is_step_name T.B_is_step_name .nil pass0 (pa_cons (pe_ix ix_list (pv 3) pe_int (fun _ _ => rfl)) pa_nil)))) (pw_or1 (pt_not (pt_val (pe_call (ok_is_new T) (hr.mono (by decide)) rfl T.g_is_new T.k_is_new T.B_is_new .nil pass0 (pa_cons (pe_ix ix_list (pv 3) pe_int (fun _ _ => rfl)) (pa_cons (pv 2) pa_nil)))))))))) (pss_one (ps_ret pe_non)) pss_nil)
      (pss_cons (ps_set (i := 4) sc_read_step.nd rfl (Or.inl rfl) (pe_call (ok_read_form T) (hr.mono (by decide)) rfl T.g_read_form T.k_read_form T.B_read_form .nil pass0 (pa_cons (pe_slice sl_list (pv 3) (po_some pe_int) po_none) (pa_cons (pv 1) pa_nil))))
      (pss_cons (ps_if (pt_cmpR op_isN (pv 4) pe_non (nomark _)) (pss_one (ps_ret pe_non)) pss_nil)
      (pss_cons (ps_asg (pv 4) (pg_tup rfl (pgs_cons (pg_name (i := 5) sc_read_step.nd rfl (Or.inl rfl)) (pgs_cons (pg_name (i := 6) sc_read_step.nd rfl (Or.inl rfl)) (pgs_cons (pg_name (i := 7) sc_read_step.nd rfl (Or.inl rfl)) (pgs_cons (pg_name (i := 8) sc_read_step.nd rfl (Or.inl rfl)) pgs_nil))))))
      (pss_cons (ps_setLc (i := 9) (own := [("word", 10)]) (g := gName 10) (by rfl) sc_read_step.nd rfl rfl (sw_true rfl rfl rfl (by decide +kernel)) (pi_list (pv 6)) (blkOk_by (own := [("word", 10)]) (N := N_read_step) (sc := defScope s_read_step) (by decide +kernel)) (fun _ _ _ _ _ => pg_name (i := 10) sc_read_step.nd rfl (Or.inl rfl)) (fun _ _ _ _ _ => pts_nil) (fun _ _ _ _ _ => (pe_call (ok_read_operand T) (hr.mono (by decide)) rfl T.g_read_operand T.k_read_operand T.B_read_operand .nil pass0 (pa_cons (pv 10) (pa_cons (pv 1) (pa_cons (pv 2) pa_nil))))))
      (pss_cons (ps_if (pt_cmpR op_in_seq pe_non (pv 9) (by rfl)) (pss_one (ps_ret pe_non)) pss_nil)
      (pss_one (ps_ret (pe_tup (pa_cons (pe_ix ix_list (pv 3) pe_int (fun _ _ => rfl)) (pa_cons (pv 5) (pa_cons (pe_callTy call_tuple_of (by rfl) T.n_tuple (by decide +kernel) (pa_cons (pv 9) pa_nil)) (pa_cons (pv 7) (pa_cons (pv 8) pa_nil))))))))))))))), ?_⟩
    rcases h with ⟨st, g, l, b, f, r, names, rfl, hg, hl, hs, hn, k⟩ | ⟨ws, g, l, rfl, h0, hfree, h5, hlen, k⟩
    · have hfr := stp_free hn hs (s := 32) (.inl rfl)
      obtain ⟨w5, w9⟩ := stp_words_len hs
      have hne : st.words ≠ [] := fun z => by rw [z] at w5; cases w5
      have hsh := line_short (stp_short hg.ub (by have := hg.uf; have := hg.ur; omega) hn hs) w9
      refine ⟨_, rfl, ⟨_, rfl⟩, _, _, rfl, rfl, by decide +kernel, Nat.le_trans (Nat.add_le_add_right hsh 2) (by decide), fun p hp => ?_⟩
      rw [split_line hne hfr]
      show tSeq _ _ _ _ _
      have x1 := Ex.new (o := .lst (sv st.words)) hp
      have h1 : (upd H p (.lst (st.words.map V.str))) p = some (.lst (sv st.words)) := upd_same
      have x1 : Ex H (upd H p (.lst (st.words.map V.str))) := x1
      generalize (upd H p (.lst (st.words.map V.str))) = H1 at *
      have ew := words_tail hs.len
      have g0' : (sv st.words)[0]? = some (.str st.nm) := by rw [ew]; rfl
      have g1' : (sv st.words)[1]? = some (.str ("=" : Str)) := by rw [ew]; rfl
      refine ⟨_, rfl, p, _, rfl, .inl (SqL.of h1), _, _, rfl, rfl, _, rfl, ?_⟩
      refine ite2 (fun h => absurd (of_decide_eq_true h) (by rw [sv_len]; omega)) (fun _ => ?_)
      refine ⟨_, rfl, p, _, _, _, rfl, rfl, SqL.of h1, atN g1', rfl, _, rfl, ?_⟩
      refine ite2 (fun h => absurd h (by decide +kernel)) (fun _ => ?_)
      refine ⟨_, rfl, p, _, _, _, rfl, rfl, SqL.of h1, atN g0', st.nm, rfl, hs.sn, fun H2 e2 => ⟨true, rfl, ?_⟩⟩
      refine ite2 (fun h => absurd h (by simp)) (fun _ => ?_)
      have x2 := x1.trans e2
      refine ⟨_, rfl, p, _, _, _, rfl, rfl, SqL.of (e2 _ _ h1), atN g0', _, rfl, st.nm, l, names, rfl, x2 _ _ hl, List.mem_append_right _ hs.sn, hs.new, fun H3 e3 => ⟨true, rfl, ?_⟩⟩
      refine ite2 (fun h => absurd h (by simp)) (fun _ => ?_)
      have x3 := x2.trans e3
      have h13 := (e2.trans e3) _ _ h1
      refine ⟨_, rfl, _, rfl, p, _, rfl, SqL.of h13, fun p2 hp2 => ?_⟩
      have ec : cutV (sv st.words) (some 2) none = sv st.tail := by
        refine (cut_drop _ 2).trans ((sv_drop _ 2).trans ?_)
        rw [ew]; rfl
      rw [ec]
      have x4 := x3.trans (Ex.new (o := .lst (sv st.tail)) hp2)
      have h4 : (upd H3 p2 (.lst (sv st.tail))) p2 = some (.lst (sv st.tail)) := upd_same
      have h14 := (Ex.new (o := .lst (sv st.tail)) hp2) _ _ h13
      generalize (upd H3 p2 (.lst (sv st.tail))) = H4 at *
      refine ⟨_, rfl, st, g, p2, b, f, r, names, rfl, hg.mono x4, h4, hs, hn, fun q o H5 e5 hq ho => ?_⟩
      have x5 := x4.trans e5
      refine ⟨_, rfl, rfl, _, rfl, ?_⟩
      refine ite2 (fun h => absurd h (by simp)) (fun _ => ?_)
      refine ⟨_, rfl, q, _, rfl, SqT.of hq, rfl, _, _, rfl, _, _, rfl, _, _, rfl, _, _, rfl, rfl, ?_⟩
      refine ⟨_, rfl, o, rfl, ⟨_, SqL.of ho⟩, fun D hD => ?_⟩
      refine lc_list (K := K) (a := o) (xs := sv (st.ops.map Opd.w)) (fun j H' => Ex H5 H' ∧ H' D = some (.lst ((st.ops.take j).map Opd.v))) ⟨Ex.new hD, upd_same⟩ (fun j H' _ z => SqL.of (z.1 _ _ ho)) ?_ ?_
      · rintro j v H6 hv ⟨e6, h6⟩
        obtain ⟨op, hop, rfl⟩ : ∃ op, st.ops[j]? = some op ∧ v = .str op.w := by
          unfold sv at hv
          rw [List.map_map, List.getElem?_map] at hv
          cases e : st.ops[j]? with
          | none => rw [e] at hv; cases hv
          | some op => rw [e] at hv; exact ⟨op, rfl, (Option.some.inj hv).symm⟩
        refine ⟨rfl, ?_⟩
        dsimp only [tYes]
        refine iteT ?_
        have hmem := List.mem_of_getElem? hop
        have x6 := x5.trans e6
        refine ⟨_, rfl, _, rfl, _, rfl, op, g, l, b, f, r, names, rfl, hg.mono x6, x6 _ _ hl, hn, hs.ops op hmem, fun H7 e7 => ?_⟩
        refine ⟨_, e7 _ _ h6, small1000 (by rw [List.length_map, List.length_take]; have := hs.len; have : st.sg.ary ≤ 4 := by cases st.sg <;> decide
                                            omega), Ex.mut (e6.trans e7) hD, ?_⟩
        rw [upd_same]
        have hj : j < st.ops.length := (List.getElem?_eq_some_iff.mp hop).1
        have e : st.ops.take (j + 1) = st.ops.take j ++ [op] := by
          rw [List.take_add_one, hop]; rfl
        rw [e, List.map_append]
        rfl
      · rintro H6 ⟨e6, h6⟩
        have h6 : H6 D = some (.lst (st.ops.map Opd.v)) := by
          rw [h6, sv_len, List.length_map, List.take_length]
        refine ⟨_, rfl, D, _, rfl, .inl (SqL.of h6), rfl, ops_flat _, _, rfl, ?_⟩
        refine ite2 (fun h => ?_) (fun _ => ?_)
        · exfalso
          have h : inV .non (st.ops.map Opd.v) = true := h
          rw [ops_none] at h
          cases h
        have h16 := (e5.trans e6) _ _ h14
        refine ⟨_, rfl, p, _, _, _, rfl, rfl, SqL.of h16, atN g0', _, rfl, _, rfl, D, _, rfl, .inl ⟨SqL.of h6, fun q2 hq2 => ?_⟩⟩
        have x7 := Ex.new (o := .tup (st.ops.map Opd.v)) hq2
        have h7 : (upd H6 q2 (.tup (st.ops.map Opd.v))) q2 = some (.tup (st.ops.map Opd.v)) := upd_same
        generalize (upd H6 q2 (.tup (st.ops.map Opd.v))) = H7 at *
        refine ⟨_, rfl, _, rfl, by show 5 ≤ sizeLine; decide, fun q3 hq3 => ?_⟩
        exact k q3 _ (x5.trans (e6.trans (x7.trans (Ex.new hq3)))) ⟨q2, upd_same, (Ex.new hq3) _ _ h7⟩
    · refine ⟨_, rfl, ⟨_, rfl⟩, _, _, rfl, rfl, by decide +kernel, Nat.le_trans (Nat.add_le_add_right hlen 2) (by decide), fun p hp => ?_⟩
      rw [split_line h0 hfree]
      have h1 : (upd H p (.lst (ws.map V.str))) p = some (.lst (sv ws)) := upd_same
      have x1 : Ex H (upd H p (.lst (ws.map V.str))) := Ex.new hp
      generalize (upd H p (.lst (ws.map V.str))) = H1 at *
      refine ⟨_, rfl, p, _, rfl, .inl (SqL.of h1), _, _, rfl, rfl, _, rfl, ?_⟩
      refine ite2 (fun _ => iteT (k H1 x1)) (fun h => ?_)
      have h : ¬ ((sv ws).length : Int) < 5 := fun z => h (decide_eq_true z)
      rw [sv_len] at h
      rcases h5 with h5 | ⟨v, hv, hve⟩
      · exact absurd (show ((ws.length : Nat) : Int) < 5 by omega) h
      refine ⟨_, rfl, p, _, _, _, rfl, rfl, SqL.of h1, atN (sv_get hv), rfl, _, rfl, ?_⟩
      refine ite2 (fun _ => iteT (k H1 x1)) (fun h2 => ?_)
      exfalso
      have h2 : ¬ (!decide (V.str v = V.str ("=" : Str))) = true := h2
      exact h2 (by rw [decide_eq_false (fun z => hve (V.str.inj z))]; rfl)
theorem ok_read_input (T : Txt K mg a) : FnOk P w K mg base CX0 5 a.read_input a.read_input_fd ["line", "grid", "names"] (sp_read_input a) := by
  refine T.F_read_input.ok sc_read_input (fun vs H Q E h => ?_) (fun cdv A outer s H vs Q E hr h => ?_)
  · rcases h with ⟨s, g, l, b, f, r, names, rfl, _⟩ | ⟨w, ws, g, l, rfl, _⟩ <;> rfl
  · refine ⟨_, (pss_cons (ps_set (i := 3) sc_read_input.nd rfl (Or.inl rfl) (pe_split (pv 0) pe_str))
      (pss_cons (ps_if (PW.pt (pw_or (pt_cmpR op_ne (pe_callB call_len_seq (by rfl) T.n_len (by decide +kernel) (pa_cons (pv 3) pa_nil)) pe_int (nomark _)) (pw_or (pt_cmpR op_ne (pe_ix ix_list (pv 3) pe_int (fun _ _ => rfl)) pe_str (nomark _)) (pw_or (pt_not (pt_val (pe_call (ok_is_letters T) (hr.mono (by decide)) rfl T.g_is_letters T.k_is_letters T.B_is_letters .nil pass0 (pa_cons (pe_ix ix_list (pv 3) pe_int (fun _ _ => rfl)) pa_nil)))) (pw_or1 (pt_not (pt_val (pe_call (ok_is_new T) (hr.mono (by decide)) rfl T.g_is_new T.k_is_new T.B_is_new .nil pass0 (pa_cons (pe_ix ix_list (pv 3) pe_int (fun _ _ => rfl)) (pa_cons (pv 2) pa_nil)))))))))) (pss_one (ps_ret pe_non)) pss_nil)
      (pss_cons (ps_set (i := 4) sc_read_input.nd rfl (Or.inl rfl) (pe_call (ok_read_integer T) (hr.mono (by decide)) rfl T.g_read_integer T.k_read_integer T.B_read_integer .nil pass0 (pa_cons (pe_ix ix_list (pv 3) pe_int (fun _ _ => rfl)) pa_nil)))
      (pss_cons (ps_set (i := 5) sc_read_input.nd rfl (Or.inl rfl) (pe_call (ok_read_integer T) (hr.mono (by decide)) rfl T.g_read_integer T.k_read_integer T.B_read_integer .nil pass0 (pa_cons (pe_ix ix_list (pv 3) pe_int (fun _ _ => rfl)) pa_nil)))
      (pss_cons (ps_if (PW.pt (pw_or (pt_cmpR (op_ninOwn (ok_Grid_contains T) (hr.mono (by decide)) T.cl_Grid T.m_Grid_contains T.B_Grid_contains pass0) (pv 4) (pv 1) (by rfl)) (pw_or (pt_cmpR (op_ninOwn (ok_Grid_contains T) (hr.mono (by decide)) T.cl_Grid T.m_Grid_contains T.B_Grid_contains pass0) (pv 5) (pv 1) (by rfl)) (pw_or1 (pt_cmpR op_gt (pv 4) (pv 5) (nomark _)))))) (pss_one (ps_ret pe_non)) pss_nil)
      (pss_one (ps_ret (pe_tup (pa_cons (pe_ix ix_list (pv 3) pe_int (fun _ _ => rfl)) (pa_cons (pv 4) (pa_cons (pv 5) pa_nil))))))))))), ?_⟩
    rcases h with ⟨i, g, l, b, f, r, names, rfl, hg, hl, hi, k⟩ | ⟨wd, ws, g, l, rfl, hfree, hw, hlen, k⟩
    · have hfr := inp_free hi (s := 32) (.inl rfl)
      have hne : i.words ≠ [] := List.cons_ne_nil _ _
      have hfr100 : f + r ≤ 100 := by have := hg.uf; have := hg.ur; omega
      have hnm := nm_facts i.nm (List.mem_append_left _ hi.inn)
      have hsh := line_short (ws := i.words) (fun w hw => by
        rcases List.mem_cons.mp hw with rfl | hw
        · decide +kernel
        rcases List.mem_cons.mp hw with rfl | hw
        · exact Nat.le_trans hnm.2.2.2.1 (by decide)
        rcases List.mem_cons.mp hw with rfl | hw
        · exact num_short hg.ub hfr100 hi.lo.1
        · rw [List.mem_singleton.mp hw]; exact num_short hg.ub hfr100 hi.hi.1) (by show 4 ≤ 9; decide)
      refine ⟨_, rfl, ⟨_, rfl⟩, _, _, rfl, rfl, by decide +kernel, Nat.le_trans (Nat.add_le_add_right hsh 2) (by decide), fun p hp => ?_⟩
      rw [split_line hne hfr]
      have h1 : (upd H p (.lst (i.words.map V.str))) p = some (.lst (sv i.words)) := upd_same
      have x1 : Ex H (upd H p (.lst (i.words.map V.str))) := Ex.new hp
      generalize (upd H p (.lst (i.words.map V.str))) = H1 at *
      have g0' : (sv i.words)[0]? = some (.str ("input" : Str)) := rfl
      have g1' : (sv i.words)[1]? = some (.str i.nm) := rfl
      have g2' : (sv i.words)[2]? = some (.str (numW i.lo)) := rfl
      have g3' : (sv i.words)[3]? = some (.str (numW i.hi)) := rfl
      refine ⟨_, rfl, p, _, rfl, .inl (SqL.of h1), rfl, _, rfl, ?_⟩
      refine ite2 (fun h => absurd h (by show ¬ (!decide (V.int ((4 : Nat) : Int) = V.int 4)) = true; decide +kernel)) (fun _ => ?_)
      refine ⟨_, rfl, p, _, _, _, rfl, rfl, SqL.of h1, atN g0', rfl, _, rfl, ?_⟩
      refine ite2 (fun h => absurd h (by decide +kernel)) (fun _ => ?_)
      refine ⟨_, rfl, p, _, _, _, rfl, rfl, SqL.of h1, atN g1', i.nm, rfl, in_lw _ hi.inn, fun H2 e2 => ⟨true, rfl, ?_⟩⟩
      refine ite2 (fun h => absurd h (by simp)) (fun _ => ?_)
      have x2 := x1.trans e2
      refine ⟨_, rfl, p, _, _, _, rfl, rfl, SqL.of (e2 _ _ h1), atN g1', _, rfl, i.nm, l, names, rfl, x2 _ _ hl, List.mem_append_left _ hi.inn, hi.new, fun H3 e3 => ⟨true, rfl, ?_⟩⟩
      refine ite2 (fun h => absurd h (by simp)) (fun _ => ?_)
      have x3 := x2.trans e3
      have h13 := (e2.trans e3) _ _ h1
      refine ⟨_, rfl, p, _, _, _, rfl, rfl, SqL.of h13, atN g2', i.lo, rfl, len10 hg.ub hfr100 hi.lo.1, fun H4 e4 => ?_⟩
      refine ⟨_, rfl, p, _, _, _, rfl, rfl, SqL.of (e4 _ _ h13), atN g3', i.hi, rfl, len10 hg.ub hfr100 hi.hi.1, fun H5 e5 => ?_⟩
      have x5 := x3.trans (e4.trans e5)
      obtain ⟨dx, lim, tops, p', u, xs, ys, o1, o2, o3, o4, o5⟩ := (hg.mono x5).ob
      refine ⟨_, rfl, _, rfl, g, dx, _, rfl, o1, g, b, f, r, _, _, i.lo, rfl, hg.mono x5, hi.lo, fun H6 e6 => ⟨true, rfl, _, rfl, ?_⟩⟩
      refine ite2 (fun h => absurd h (by simp)) (fun _ => ?_)
      have x6 := x5.trans e6
      refine ⟨_, rfl, _, rfl, g, dx, _, rfl, e6 _ _ o1, g, b, f, r, _, _, i.hi, rfl, hg.mono x6, hi.hi, fun H7 e7 => ⟨true, rfl, _, rfl, ?_⟩⟩
      refine ite2 (fun h => absurd h (by simp)) (fun _ => ?_)
      refine ⟨_, rfl, _, rfl, _, _, rfl, rfl, _, rfl, ?_⟩
      refine ite2 (fun h => absurd (of_decide_eq_true h) (by have := hi.le; omega)) (fun _ => ?_)
      have x7 := x6.trans e7
      refine ⟨_, rfl, p, _, _, _, rfl, rfl, SqL.of ((e4.trans (e5.trans (e6.trans e7))) _ _ h13), atN g1', _, rfl, _, rfl, by show 3 ≤ sizeLine; decide, fun q hq => ?_⟩
      exact k q _ (x7.trans (Ex.new hq)) upd_same
    · refine ⟨_, rfl, ⟨_, rfl⟩, _, _, rfl, rfl, by decide +kernel, Nat.le_trans (Nat.add_le_add_right hlen 2) (by decide), fun p hp => ?_⟩
      rw [split_line (List.cons_ne_nil _ _) hfree]
      have h1 : (upd H p (.lst ((wd :: ws).map V.str))) p = some (.lst (sv (wd :: ws))) := upd_same
      have x1 : Ex H (upd H p (.lst ((wd :: ws).map V.str))) := Ex.new hp
      generalize (upd H p (.lst ((wd :: ws).map V.str))) = H1 at *
      refine ⟨_, rfl, p, _, rfl, .inl (SqL.of h1), rfl, _, rfl, ?_⟩
      refine ite2 (fun _ => iteT (k H1 x1)) (fun _ => ?_)
      refine ⟨_, rfl, p, _, _, _, rfl, rfl, SqL.of h1, atN (m := 0) rfl, rfl, _, rfl, ?_⟩
      refine ite2 (fun _ => iteT (k H1 x1)) (fun h => ?_)
      exfalso
      have h : ¬ (!decide (V.str wd = V.str ("input" : Str))) = true := h
      exact h (by rw [decide_eq_false (fun z => hw (V.str.inj z))]; rfl)
theorem ok_read_tell (T : Txt K mg a) : FnOk P w K mg base CX0 4 a.read_tell a.read_tell_fd ["line", "names"] sp_read_tell := by
  refine T.F_read_tell.ok sc_read_tell (fun vs H Q E h => ?_) (fun cdv A outer s H vs Q E hr h => ?_)
  · obtain ⟨told, names, l, rfl, _⟩ := h
    rfl
  · obtain ⟨told, names, l, rfl, hl, ht, hn, h1n, hn4, k⟩ := h
    refine ⟨_, (pss_cons (ps_set (i := 2) sc_read_tell.nd rfl (Or.inl rfl) (pe_split (pv 0) pe_str))
      (pss_cons (ps_set (i := 3) sc_read_tell.nd rfl (Or.inl rfl) (pe_slice sl_list (pv 2) (po_some pe_int) po_none))
      (pss_cons (ps_if (PW.pt (pw_or (pt_cmpR op_ne (pe_ix ix_list (pv 2) pe_int (fun _ _ => rfl)) pe_str (nomark _)) (pw_or (pt_not (pt_chain op_le op_le pe_int (pe_callB call_len_seq (by rfl) T.n_len (by decide +kernel) (pa_cons (pv 3) pa_nil)) (pe_glob (v := .int 4) rfl T.c_MOST_TOLD.choose_spec ⟨_, rfl⟩))) (pw_or1 (pt_not (pt_val (pe_callB (cr_all rfl) (by rfl) T.n_all (by decide +kernel) (pa_cons (pe_lc (own := [("word", 4)]) (g := gName 4) (by rfl) sc_read_tell.nd (pi_list (pv 3)) (blkOk_by (own := [("word", 4)]) (N := N_read_tell) (sc := defScope s_read_tell) (by decide +kernel)) (fun _ _ _ _ _ => pg_name (i := 4) sc_read_tell.nd rfl (Or.inl rfl)) (fun _ _ _ _ _ => pts_nil) (fun _ _ _ _ _ => (pe_cmpR (r := rIn K false) op_in_seq (pv 4) (pv 1) (by rfl)))) pa_nil)))))))) (pss_one (ps_ret pe_non)) pss_nil)
      (pss_one (ps_ret (pe_callTy call_tuple_of (by rfl) T.n_tuple (by decide +kernel) (pa_cons (pv 3) pa_nil))))))), ?_⟩
    have hfr := tell_free (fun x hx => hn x (ht x hx)) (s := 32) (.inl rfl)
    have hsh := line_short (ws := tellWords told) (fun w hw => by
      rcases List.mem_cons.mp hw with rfl | hw
      · decide +kernel
      · exact Nat.le_trans (nm_facts w (hn w (ht w hw))).2.2.2.1 (by decide)) (by unfold tellWords; rw [List.length_cons]; omega)
    refine ⟨_, rfl, ⟨_, rfl⟩, _, _, rfl, rfl, by decide +kernel, Nat.le_trans (Nat.add_le_add_right hsh 2) (by decide), fun p hp => ?_⟩
    rw [show Txt.split (lineW (tellWords told)) (" " : Str) = tellWords told from split_line (List.cons_ne_nil _ _) hfr]
    have h1 : (upd H p (.lst ((tellWords told).map V.str))) p = some (.lst (sv (tellWords told))) := upd_same
    have x1 : Ex H (upd H p (.lst ((tellWords told).map V.str))) := Ex.new hp
    generalize (upd H p (.lst ((tellWords told).map V.str))) = H1 at *
    refine ⟨_, rfl, _, rfl, p, _, rfl, SqL.of h1, fun p2 hp2 => ?_⟩
    have ec : cutV (sv (tellWords told)) (some 1) none = sv told := (cut_drop _ 1).trans (sv_drop _ 1)
    rw [ec]
    have x2 := x1.trans (Ex.new (o := .lst (sv told)) hp2)
    have h2 : (upd H1 p2 (.lst (sv told))) p2 = some (.lst (sv told)) := upd_same
    have h12 := (Ex.new (o := .lst (sv told)) hp2) _ _ h1
    generalize (upd H1 p2 (.lst (sv told))) = H2 at *
    refine ⟨_, rfl, p, _, _, _, rfl, rfl, SqL.of h12, atN (m := 0) rfl, rfl, _, rfl, ?_⟩
    refine ite2 (fun h => absurd h (by decide +kernel)) (fun _ => ?_)
    refine ⟨_, rfl, p2, _, rfl, .inl (SqL.of h2), _, _, rfl, rfl, _, rfl, ?_⟩
    have hl1 : ((sv told).length : Int) = (told.length : Int) := by rw [sv_len]
    refine ite2 (fun _ => ?_) (fun h => absurd (decide_eq_true (by rw [hl1]; omega)) h)
    refine ⟨_, _, rfl, rfl, _, rfl, ?_⟩
    refine ite2 (fun h => ?_) (fun _ => ?_)
    · exfalso
      have h : (!decide (((sv told).length : Int) ≤ 4)) = true := h
      rw [hl1, decide_eq_true (by omega)] at h
      cases h
    refine ⟨_, rfl, p2, rfl, ⟨_, SqL.of h2⟩, fun D hD => ?_⟩
    refine lc_list (K := K) (a := p2) (xs := sv told) (fun j H' => Ex H2 H' ∧ ∃ bs : List Bool, H' D = some (.lst (bs.map V.bl)) ∧ (∀ b ∈ bs, b = true) ∧ bs.length ≤ j) ⟨Ex.new hD, [], upd_same, fun b hb => (by cases hb), Nat.le_refl _⟩ (fun j H' _ z => SqL.of (z.1 _ _ h2)) ?_ ?_
    · rintro j v H3 hv ⟨e3, bs, hb1, hb2, hb3⟩
      have hj : j < told.length := by
        have := (List.getElem?_eq_some_iff.mp hv).1
        rwa [sv_len] at this
      obtain ⟨x, hx, rfl⟩ : ∃ x, x ∈ told ∧ v = .str x := by
        unfold sv at hv
        rw [List.getElem?_map] at hv
        cases e : told[j]? with
        | none => rw [e] at hv; cases hv
        | some x => rw [e] at hv; exact ⟨x, List.mem_of_getElem? e, (Option.some.inj hv).symm⟩
      refine ⟨rfl, ?_⟩
      dsimp only [tYes]
      refine iteT ?_
      refine ⟨_, rfl, _, rfl, l, _, rfl, .inl (SqL.of ((x2.trans e3) _ _ hl)), rfl, sv_flat _, ?_⟩
      refine ⟨_, hb1, small1000 (by rw [List.length_map]; omega), Ex.mut e3 hD, bs ++ [true], ?_, ?_, ?_⟩
      · rw [upd_same, List.map_append]
        have : (if false = true then !inV (V.str x) (sv names) else inV (V.str x) (sv names)) = true := by
          rw [if_neg (by decide), inV_sv, decide_eq_true (ht x hx)]
        rw [this]
        rfl
      · intro b hb
        rcases List.mem_append.mp hb with hb | hb
        · exact hb2 b hb
        · exact List.mem_singleton.mp hb
      · rw [List.length_append, List.length_singleton]; omega
    · rintro H3 ⟨e3, bs, hb1, hb2, hb3⟩
      refine ⟨D, bs, rfl, SqL.of hb1, _, rfl, ?_⟩
      rw [all_true bs hb2]
      refine ite2 (fun h => absurd h (by simp)) (fun _ => ?_)
      refine ⟨_, rfl, p2, _, rfl, .inl ⟨SqL.of (e3 _ _ h2), fun q hq => ?_⟩⟩
      exact k q _ ((x2.trans e3).trans (Ex.new hq)) upd_same
end
end My


set_option Elab.async false
set_option maxRecDepth 100000
set_option maxHeartbeats 2000000
set_option exponentiation.threshold 6000
namespace My
open PySem L2 Evl TL
def sp_is_grid_l (K : PySem.W.Frag) : Sp := fun vs H Q _ => ∃ (t : Addr) (b f r p : Nat), vs = [.ref t] ∧ H t = some (.lst [.int b, .int f, .int r, .int p]) ∧ (2 ≤ b ∧ b ≤ 10 ∧ 1 ≤ f ∧ f ≤ 30 ∧ r ≤ 60 ∧ p ≤ 30) ∧ ∀ H', Ex H H' → Q (.bl true) H'
def sp_read_grid (a : Ad) : Sp := fun vs H Q _ => ∃ (b f r pl : Nat), vs = [.str (lineW (gridWords b f r pl))] ∧ (2 ≤ b ∧ b ≤ 10 ∧ 1 ≤ f ∧ f ≤ 30 ∧ r ≤ 60 ∧ pl ≤ 30) ∧
  ∀ g H', Ex H H' → GridAt a H' g b f r (b ^ f) ((b ^ f - 1) * b ^ r) → UnitAt a H' g b pl → Q (.ref g) H'
/-- a row of objects, each with its thing -/
def Each {α : Type} (at_ : Hp → Addr → α → Prop) (H : Hp) (qs : List Addr) (xs : List α) : Prop := qs.length = xs.length ∧ ∀ (i : Nat) (q : Addr) (x : α), qs[i]? = some q → xs[i]? = some x → at_ H q x
theorem Each.nil {α : Type} {at_ : Hp → Addr → α → Prop} {H : Hp} : Each at_ H [] [] := ⟨rfl, fun i q x h => by cases h⟩
theorem Each.ex {α : Type} {at_ : Hp → Addr → α → Prop} (hm : ∀ {H H' : Hp} {q : Addr} {x : α}, at_ H q x → Ex H H' → at_ H' q x) {H H' : Hp} {qs : List Addr} {xs : List α} (h : Each at_ H qs xs) (e : Ex H H') : Each at_ H' qs xs :=
  ⟨h.1, fun i q x hq hx => hm (h.2 i q x hq hx) e⟩
theorem Each.add {α : Type} {at_ : Hp → Addr → α → Prop} {H : Hp} {qs : List Addr} {xs : List α} {q : Addr} {x : α} (h : Each at_ H qs xs) (hq : at_ H q x) : Each at_ H (qs ++ [q]) (xs ++ [x]) := by
  refine ⟨by rw [List.length_append, List.length_append, h.1]; rfl, fun i q' x' hq' hx' => ?_⟩
  by_cases hi : i < qs.length
  · rw [List.getElem?_append_left hi] at hq'
    rw [List.getElem?_append_left (by rw [← h.1]; exact hi)] at hx'
    exact h.2 i q' x' hq' hx'
  · rw [List.getElem?_append_right (by omega)] at hq'
    rw [List.getElem?_append_right (by rw [← h.1]; omega), ← h.1] at hx'
    have h0 : i - qs.length = 0 := by
      have := (List.getElem?_eq_some_iff.mp hq').1
      rw [List.length_singleton] at this
      omega
    rw [h0] at hq' hx'
    cases hq'
    cases hx'
    exact hq
def rv (qs : List Addr) : List V := qs.map V.ref
def NotIn (rest : List Str) : Prop := rest = [] ∨ ∃ (w : Str) (ws rs : List Str), rest = lineW (w :: ws) :: rs ∧ Free 32 (w :: ws) ∧ w ≠ ("input" : Str) ∧ (lineW (w :: ws)).length ≤ 100000
def NotSt (rest : List Str) : Prop := rest = [] ∨ ∃ (ws rs : List Str), rest = lineW ws :: rs ∧ ws ≠ [] ∧ Free 32 ws ∧ (ws.length < 5 ∨ ∃ v, ws[1]? = some v ∧ v ≠ ("=" : Str)) ∧ (lineW ws).length ≤ 100000
def inLine (i : Inp) : Str := lineW i.words
def stLine (s : Stp) : Str := lineW s.words
def sp_read_rows (a : Ad) : Sp := fun vs H Q _ =>
  (∃ (L g l : Addr) (b f r : Nat) (ins : List Inp) (rest names : List Str), vs = [.ref a.read_input, .ref L, .ref g, .ref l] ∧ H L = some (.lst (sv (ins.map inLine ++ rest))) ∧ NotIn rest ∧ GridAt a H g b f r (b ^ f) ((b ^ f - 1) * b ^ r) ∧ H l = some (.lst (sv names)) ∧ InpsOk b f r names ins ∧ ins.length ≤ 20 ∧ names.length ≤ 20 ∧
    ∀ R qs H', Ex H H' → H R = none → H' R = some (.lst (rv qs)) → Each InpAt H' qs ins → Q (.ref R) H') ∨
  (∃ (L g l : Addr) (b f r : Nat) (sts : List Stp) (rest names : List Str), vs = [.ref a.read_step, .ref L, .ref g, .ref l] ∧ H L = some (.lst (sv (sts.map stLine ++ rest))) ∧ NotSt rest ∧ GridAt a H g b f r (b ^ f) ((b ^ f - 1) * b ^ r) ∧ H l = some (.lst (sv names)) ∧ StpsOk b f r names sts ∧ (∀ x ∈ names, x ∈ NM) ∧ sts.length ≤ 20 ∧ names.length ≤ 20 ∧
    ∀ R qs H', Ex H H' → H R = none → H' R = some (.lst (rv qs)) → Each StepAt H' qs sts → Q (.ref R) H')
theorem InpsOk.at {b f r : Nat} : ∀ {names : List Str} {ins : List Inp} {j : Nat} {i : Inp}, InpsOk b f r names ins → ins[j]? = some i → InpOk b f r (names ++ (ins.take j).map Inp.nm) i
  | names, x :: xs, 0, i, h, hj => by
    cases hj
    rw [List.take_zero, List.map_nil, List.append_nil]
    exact h.1
  | names, x :: xs, j + 1, i, h, hj => by
    have := InpsOk.at h.2 (j := j) hj
    rw [List.append_assoc] at this
    exact this
theorem StpsOk.at {b f r : Nat} : ∀ {names : List Str} {ss : List Stp} {j : Nat} {s : Stp}, StpsOk b f r names ss → ss[j]? = some s → StpOk b f r (names ++ (ss.take j).map Stp.nm) s
  | names, x :: xs, 0, i, h, hj => by
    cases hj
    rw [List.take_zero, List.map_nil, List.append_nil]
    exact h.1
  | names, x :: xs, j + 1, i, h, hj => by
    have := StpsOk.at h.2 (j := j) hj
    rw [List.append_assoc] at this
    exact this
theorem StpsOk.nms {b f r : Nat} {names : List Str} {ss : List Stp} (h : StpsOk b f r names ss) : ∀ s ∈ ss, s.nm ∈ NM := fun s hs => by
  obtain ⟨j, hj⟩ := List.getElem?_of_mem hs
  exact List.mem_append_right _ (StpsOk.at h hj).sn
theorem rv_get {qs : List Addr} {j : Nat} {v : V} (h : (rv qs)[j]? = some v) : ∃ q, qs[j]? = some q ∧ v = .ref q := by
  unfold rv at h
  rw [List.getElem?_map] at h
  cases e : qs[j]? with
  | none => rw [e] at h; cases h
  | some q => rw [e] at h; exact ⟨q, rfl, (Option.some.inj h).symm⟩
theorem sv_getI {xs : List Str} {j : Nat} {v : V} (h : (sv xs)[j]? = some v) : ∃ x, xs[j]? = some x ∧ v = .str x := by
  unfold sv at h
  rw [List.getElem?_map] at h
  cases e : xs[j]? with
  | none => rw [e] at h; cases h
  | some q => rw [e] at h; exact ⟨q, rfl, (Option.some.inj h).symm⟩
section
variable {P : Program} {w : World} {K : PySem.W.Frag} {mg : Str → Option Value} {base : Heap} {a : Ad}
theorem ok_is_grid_list (T : Txt K mg a) : FnOk P w K mg base CX0 3 a.is_grid a.is_grid_fd ["told"] (sp_is_grid_l K) := by
  refine T.F_is_grid.ok sc_is_grid (fun vs H Q E h => ?_) (fun cdv A outer s H vs Q E hr h => ?_)
  · obtain ⟨t, b, f, r, p, rfl, _⟩ := h
    rfl
  · obtain ⟨t, b, f, r, p, rfl, ht, ⟨h1, h2, h3, h4, h5, h6⟩, k⟩ := h
    refine ⟨_, (pss_cons (ps_asg (pv 0) (pg_lst rfl (pgs_cons (pg_name (i := 1) sc_is_grid.nd rfl (Or.inl rfl)) (pgs_cons (pg_name (i := 2) sc_is_grid.nd rfl (Or.inl rfl)) (pgs_cons (pg_name (i := 3) sc_is_grid.nd rfl (Or.inl rfl)) (pgs_cons (pg_name (i := 4) sc_is_grid.nd rfl (Or.inl rfl)) pgs_nil))))))
      (pss_one (ps_ret (pe_and (pe_call (ok_is_from_to T) (hr.mono (by decide)) rfl T.g_is_from_to T.k_is_from_to T.B_is_from_to .nil pass0 (pa_cons (pv 1) (pa_cons pe_int (pa_cons pe_int pa_nil)))) (pe_and (pe_call (ok_is_from_to T) (hr.mono (by decide)) rfl T.g_is_from_to T.k_is_from_to T.B_is_from_to .nil pass0 (pa_cons (pv 2) (pa_cons pe_int (pa_cons (pe_glob (v := .int 30) rfl T.c_MOST_FIGURES.choose_spec ⟨_, rfl⟩) pa_nil)))) (pe_and (pe_call (ok_is_from_to T) (hr.mono (by decide)) rfl T.g_is_from_to T.k_is_from_to T.B_is_from_to .nil pass0 (pa_cons (pv 3) (pa_cons pe_int (pa_cons pe_int pa_nil)))) (pe_one (pe_call (ok_is_from_to T) (hr.mono (by decide)) rfl T.g_is_from_to T.k_is_from_to T.B_is_from_to .nil pass0 (pa_cons (pv 4) (pa_cons pe_int (pa_cons pe_int pa_nil))))))))))), ?_⟩
    refine ⟨_, rfl, t, _, rfl, SqL.of ht, rfl, _, _, rfl, _, _, rfl, _, _, rfl, _, _, rfl, rfl, ?_⟩
    refine ⟨_, rfl, (b : Int), 2, 10, rfl, fun H1 e1 => ⟨true, ?_, iteT ?_⟩⟩
    · show V.bl (decide ((2 : Int) ≤ b) && decide ((b : Int) ≤ 10)) = _
      rw [decide_eq_true (by omega), decide_eq_true (by omega)]
      rfl
    refine ⟨_, rfl, (f : Int), 1, 30, rfl, fun H2 e2 => ⟨true, ?_, iteT ?_⟩⟩
    · show V.bl (decide ((1 : Int) ≤ f) && decide ((f : Int) ≤ 30)) = _
      rw [decide_eq_true (by omega), decide_eq_true (by omega)]
      rfl
    refine ⟨_, rfl, (r : Int), 0, 60, rfl, fun H3 e3 => ⟨true, ?_, iteT ?_⟩⟩
    · show V.bl (decide ((0 : Int) ≤ r) && decide ((r : Int) ≤ 60)) = _
      rw [decide_eq_true (by omega), decide_eq_true (by omega)]
      rfl
    refine ⟨_, rfl, (p : Int), 0, 30, rfl, fun H4 e4 => ?_⟩
    rw [decide_eq_true (by omega), decide_eq_true (by omega)]
    exact k H4 (((e1.trans e2).trans e3).trans e4)
theorem ok_read_grid (T : Txt K mg a) : FnOk P w K mg base CX0 6 a.read_grid a.read_grid_fd ["line"] (sp_read_grid a) := by
  refine T.F_read_grid.ok sc_read_grid (fun vs H Q E h => ?_) (fun cdv A outer s H vs Q E hr h => ?_)
  · obtain ⟨b, f, r, pl, rfl, _⟩ := h
    rfl
  · obtain ⟨b, f, r, pl, rfl, hv, k⟩ := h
    refine ⟨_, (pss_cons (ps_set (i := 1) sc_read_grid.nd rfl (Or.inl rfl) (pe_split (pv 0) pe_str))
      (pss_cons (ps_if (PW.pt (pw_or (pt_cmpR op_ne (pe_callB call_len_seq (by rfl) T.n_len (by decide +kernel) (pa_cons (pv 1) pa_nil)) pe_int (nomark _)) (pw_or1 (pt_cmpR op_ne (pe_ix ix_list (pv 1) pe_int (fun _ _ => rfl)) pe_str (nomark _))))) (pss_one (ps_ret pe_non)) pss_nil)
      (pss_cons (ps_setLc (i := 2) (own := [("word", 3)]) (g := gName 3) (by rfl) sc_read_grid.nd rfl rfl (sw_true rfl rfl rfl (by decide +kernel)) (pi_list (pe_slice sl_list (pv 1) (po_some pe_int) po_none)) (blkOk_by (own := [("word", 3)]) (N := N_read_grid) (sc := defScope s_read_grid) (by decide +kernel)) (fun _ _ _ _ _ => pg_name (i := 3) sc_read_grid.nd rfl (Or.inl rfl)) (fun _ _ _ _ _ => pts_nil) (fun _ _ _ _ _ => (pe_call (ok_read_integer T) (hr.mono (by decide)) rfl T.g_read_integer T.k_read_integer T.B_read_integer .nil pass0 (pa_cons (pv 3) pa_nil))))
      (pss_one (ps_ret (pe_ifExp (pt_val (pe_call (ok_is_grid_list T) (hr.mono (by decide)) rfl T.g_is_grid T.k_is_grid T.B_is_grid .nil pass0 (pa_cons (pv 2) pa_nil))) (pe_makeS T.mk_Grid (ok_Grid_init T) (hr.mono (by decide)) rfl T.g_Grid T.B_Grid_init .nil pass0 (pv 2)) pe_non)))))), ?_⟩
    obtain ⟨v1, v2, v3, v4, v5, v6⟩ := id hv
    have sm : ∀ n : Nat, n ≤ 60 → ((n : Nat) : Int).natAbs < 10 ^ 600 := fun n hn => by
      rw [Int.natAbs_natCast]
      exact Nat.lt_of_le_of_lt hn (by decide +kernel)
    have sl : ∀ n : Nat, n ≤ 60 → (numW (n : Int)).length ≤ 120 := fun n hn => by
      have := numW_len (n := (n : Int)) (k := 101) (by decide) (by rw [Int.natAbs_natCast]; exact Nat.lt_of_le_of_lt hn (by decide +kernel))
      omega
    have hsh := line_short (ws := gridWords b f r pl) (fun w hw => by
      rcases List.mem_cons.mp hw with rfl | hw
      · decide +kernel
      rcases List.mem_cons.mp hw with rfl | hw
      · exact sl _ (by omega)
      rcases List.mem_cons.mp hw with rfl | hw
      · exact sl _ (by omega)
      rcases List.mem_cons.mp hw with rfl | hw
      · exact sl _ (by omega)
      · rw [List.mem_singleton.mp hw]; exact sl _ (by omega)) (by show 5 ≤ 9; decide)
    refine ⟨_, rfl, ⟨_, rfl⟩, _, _, rfl, rfl, by decide +kernel, Nat.le_trans (Nat.add_le_add_right hsh 2) (by decide), fun p hp => ?_⟩
    rw [show Txt.split (lineW (gridWords b f r pl)) (" " : Str) = gridWords b f r pl from split_line (List.cons_ne_nil _ _) (grid_free b f r pl (s := 32) (.inl rfl))]
    have h1 : (upd H p (.lst ((gridWords b f r pl).map V.str))) p = some (.lst (sv (gridWords b f r pl))) := upd_same
    have x1 : Ex H (upd H p (.lst ((gridWords b f r pl).map V.str))) := Ex.new hp
    generalize (upd H p (.lst ((gridWords b f r pl).map V.str))) = H1 at *
    refine ⟨_, rfl, p, _, rfl, .inl (SqL.of h1), rfl, _, rfl, ?_⟩
    refine ite2 (fun h => absurd h (by show ¬ (!decide (V.int ((5 : Nat) : Int) = V.int 5)) = true; decide +kernel)) (fun _ => ?_)
    refine ⟨_, rfl, p, _, _, _, rfl, rfl, SqL.of h1, atN (m := 0) rfl, rfl, _, rfl, ?_⟩
    refine ite2 (fun h => absurd h (by decide +kernel)) (fun _ => ?_)
    refine ⟨_, rfl, _, rfl, p, _, rfl, SqL.of h1, fun p2 hp2 => ?_⟩
    have ec : cutV (sv (gridWords b f r pl)) (some 1) none = sv [numW (b : Int), numW (f : Int), numW (r : Int), numW (pl : Int)] := (cut_drop _ 1).trans (sv_drop _ 1)
    rw [ec]
    have x2 := x1.trans (Ex.new (o := .lst (sv [numW (b : Int), numW (f : Int), numW (r : Int), numW (pl : Int)])) hp2)
    have h2 : (upd H1 p2 (.lst (sv [numW (b : Int), numW (f : Int), numW (r : Int), numW (pl : Int)]))) p2 = some (.lst (sv [numW (b : Int), numW (f : Int), numW (r : Int), numW (pl : Int)])) := upd_same
    generalize (upd H1 p2 (.lst (sv [numW (b : Int), numW (f : Int), numW (r : Int), numW (pl : Int)]))) = H2 at *
    refine ⟨p2, rfl, ⟨_, SqL.of h2⟩, fun D hD => ?_⟩
    refine lc_list (K := K) (a := p2) (xs := sv [numW (b : Int), numW (f : Int), numW (r : Int), numW (pl : Int)]) (fun j H' => Ex H2 H' ∧ H' D = some (.lst (([b, f, r, pl].take j).map fun n => V.int ((n : Nat) : Int)))) ⟨Ex.new hD, upd_same⟩ (fun j H' _ z => SqL.of (z.1 _ _ h2)) ?_ ?_
    · rintro j v H3 hv ⟨e3, h3⟩
      obtain ⟨n, hn, rfl, hle⟩ : ∃ n : Nat, [b, f, r, pl][j]? = some n ∧ v = .str (numW (n : Int)) ∧ n ≤ 60 := by
        match j, hv with
        | 0, hv => cases hv; exact ⟨b, rfl, rfl, by omega⟩
        | 1, hv => cases hv; exact ⟨f, rfl, rfl, by omega⟩
        | 2, hv => cases hv; exact ⟨r, rfl, rfl, by omega⟩
        | 3, hv => cases hv; exact ⟨pl, rfl, rfl, by omega⟩
      refine ⟨rfl, ?_⟩
      dsimp only [tYes]
      refine iteT ?_
      refine ⟨_, rfl, (n : Int), rfl, sm n hle, fun H4 e4 => ?_⟩
      refine ⟨_, e4 _ _ h3, small1000 (by rw [List.length_map, List.length_take]; simp; omega), Ex.mut (e3.trans e4) hD, ?_⟩
      rw [upd_same, List.take_add_one, hn, List.map_append]
      rfl
    · rintro H3 ⟨e3, h3⟩
      have h3 : H3 D = some (.lst [.int b, .int f, .int r, .int pl]) := h3
      refine ⟨_, rfl, D, b, f, r, pl, rfl, h3, hv, fun H4 e4 => ⟨true, rfl, iteT ?_⟩⟩
      have h4 := e4 _ _ h3
      refine ⟨_, rfl, D, _, rfl, .inr (SqL.of h4), fun x dx nx ndx nex => ?_⟩
      refine ⟨x, dx, b, f, r, pl, rfl, upd_same, hv, fun H10 k10 ga ua => ⟨rfl, ?_⟩⟩
      have e10 : Ex H4 H10 := Same.made nx ndx k10
      exact k x H10 (x2.trans (e3.trans (e4.trans e10))) ga ua
theorem ok_read_rows (T : Txt K mg a) : FnOk P w K mg base CX0 12 a.read_rows a.read_rows_fd ["read", "lines", "grid", "names"] (sp_read_rows a) := by
  refine T.F_read_rows.ok sc_read_rows (fun vs H Q E h => ?_) (fun cdv A outer s H vs Q E hr h => ?_)
  · rcases h with ⟨L, g, l, b, f, r, ins, rest, names, rfl, _⟩ | ⟨L, g, l, b, f, r, ins, rest, names, rfl, _⟩ <;> rfl
  · rcases h with ⟨L, g, l, b, f, r, ins, rest, names, rfl, hL, hrest, hg, hl, hok, hlen, hnl, k⟩ | ⟨L, g, l, b, f, r, ins, rest, names, rfl, hL, hrest, hg, hl, hok, hnm, hlen, hnl, k⟩
    · refine ⟨_, (pss_cons (ps_set (i := 4) sc_read_rows.nd rfl (Or.inl rfl) (pe_lst pa_nil))
      (pss_cut (ps_for PassesOwn.never rfl (pi_list (pv 1)) (pg_name (i := 5) sc_read_rows.nd rfl (Or.inl rfl)) (pss_cons (ps_set (i := 6) sc_read_rows.nd rfl (Or.inl rfl) (pe_callL (i := 0) (ok_read_input T) (hr.mono (by decide)) rfl (Or.inl rfl) T.k_read_input T.B_read_input .nil pass0 (pa_cons (pv 5) (pa_cons (pv 2) (pa_cons (pe_op op_cat (pv 3) (pe_lc (own := [("ahead", 7)]) (g := gName 7) (by rfl) sc_read_rows.nd (pi_list (pv 4)) (blkOk_by (own := [("ahead", 7)]) (N := N_read_rows) (sc := defScope s_read_rows) (by decide +kernel)) (fun _ _ _ _ _ => pg_name (i := 7) sc_read_rows.nd rfl (Or.inl rfl)) (fun _ _ _ _ _ => pts_nil) (fun _ _ _ _ _ => (pe_ix (r := rIxT K) ix_tup (pv 7) pe_int (fun _ _ => rfl))))) pa_nil)))))
      (pss_cons (ps_if (pt_cmpR op_isN (pv 6) pe_non (nomark _)) (pss_one ps_break) pss_nil)
      (pss_one (ps_expr (pe_bm PySem.F.plainAttrs_list PySem.F.slot_list_append PySem.F.type_list_append mt_append (pv 4) (pa_cons (pv 6) pa_nil)))))))
      (pss_one (ps_ret (pv 4))))), ?_⟩
      refine ⟨Nat.zero_le _, fun R hR => ?_⟩
      refine ⟨fun σ H' => ∃ (qs : List Addr) (v1 v2 : Option V), Ex H H' ∧ H' R = some (.lst (rv qs)) ∧ Each InpAt H' qs ins ∧ σ = [some (.ref a.read_input), some (.ref L), some (.ref g), some (.ref l), some (.ref R), v1, v2, none], ?_, ?_⟩
      rotate_left
      · rintro σ H' ⟨qs, v1, v2, e1, h1, h2, rfl⟩
        exact ⟨_, rfl, k R qs H' e1 hR h1 h2⟩
      have x1 := Ex.new (o := .lst []) hR
      have hL1 := x1 _ _ hL
      refine ⟨_, rfl, L, rfl, ⟨_, SqL.of hL1⟩, for_list (K := K) (a := L) (xs := sv (ins.map inLine ++ rest)) (fun j σ H' => ∃ (qs : List Addr) (v1 v2 : Option V), j ≤ ins.length ∧ Ex H H' ∧ H' R = some (.lst (rv qs)) ∧ Each InpAt H' qs (ins.take j) ∧ σ = [some (.ref a.read_input), some (.ref L), some (.ref g), some (.ref l), some (.ref R), v1, v2, none])
        ⟨[], none, none, Nat.zero_le _, x1, upd_same, Each.nil, rfl⟩ (fun j σ H' _ ⟨qs, v1, v2, _, e, _⟩ => SqL.of (e _ _ hL)) ?_ ?_⟩
      · rintro j v σ H2 hv ⟨qs, v1, v2, hj, e2, h2, h3, rfl⟩
        obtain ⟨line, hline, rfl⟩ := sv_getI hv
        have hq : qs.length = j := by rw [h3.1, List.length_take]; omega
        -- the names ahead
        refine ⟨rfl, _, rfl, _, rfl, _, rfl, _, rfl, R, rfl, ⟨_, SqL.of h2⟩, fun D hD => ?_⟩
        refine lc_list (K := K) (a := R) (xs := rv qs) (fun i H' => Ex H2 H' ∧ H' D = some (.lst (sv (((ins.take j).map Inp.nm).take i)))) ⟨Ex.new hD, upd_same⟩ (fun i H' _ z => SqL.of (z.1 _ _ h2)) ?_ ?_
        · rintro i v H3 hv ⟨e3, hD3⟩
          obtain ⟨q, hq', rfl⟩ := rv_get hv
          have hi : i < qs.length := (List.getElem?_eq_some_iff.mp hq').1
          obtain ⟨x, hx⟩ : ∃ x, (ins.take j)[i]? = some x := ⟨_, List.getElem?_eq_getElem (by rw [← h3.1]; exact hi)⟩
          have hat := (h3.2 i q x hq' hx).ex e3
          refine ⟨rfl, ?_⟩
          dsimp only [tYes]
          refine iteT ?_
          refine ⟨_, rfl, q, _, _, _, rfl, rfl, SqT.of hat, atN (m := 0) rfl, ?_⟩
          refine ⟨_, hD3, small1000 (by rw [sv_len, List.length_take, List.length_map, List.length_take]; omega), Ex.mut e3 hD, ?_⟩
          rw [upd_same]
          have : ((ins.take j).map Inp.nm).take (i + 1) = ((ins.take j).map Inp.nm).take i ++ [x.nm] := by
            rw [List.take_add_one, List.getElem?_map, hx]; rfl
          rw [this, sv_app]
          rfl
        · rintro H3 ⟨e3, hD3⟩
          have hD3 : H3 D = some (.lst (sv ((ins.take j).map Inp.nm))) := by
            rw [hD3]
            congr 3
            refine List.take_of_length_le ?_
            unfold rv
            rw [List.length_map, List.length_map, h3.1]
            exact Nat.le_refl _
          refine ⟨l, D, _, _, rfl, rfl, (e2.trans e3) _ _ hl, hD3, Nat.le_trans (by rw [sv_len, sv_len, List.length_map, List.length_take]; omega : _ ≤ 100) (by decide), fun p hp => ?_⟩
          have e4 := (e2.trans e3).trans (Ex.new (o := .lst (sv names ++ sv ((ins.take j).map Inp.nm))) hp)
          have h4 : (upd H3 p (.lst (sv names ++ sv ((ins.take j).map Inp.nm)))) p = some (.lst (sv (names ++ (ins.take j).map Inp.nm))) := by rw [upd_same, sv_app]
          have h24 := (e3.trans (Ex.new (o := .lst (sv names ++ sv ((ins.take j).map Inp.nm))) hp))
          generalize (upd H3 p (.lst (sv names ++ sv ((ins.take j).map Inp.nm)))) = H4 at *
          by_cases hj2 : j < ins.length
          · obtain ⟨i, hi⟩ : ∃ i, ins[j]? = some i := ⟨_, List.getElem?_eq_getElem hj2⟩
            have hl2 : line = inLine i := by
              rw [List.getElem?_append_left (by rw [List.length_map]; exact hj2), List.getElem?_map, hi] at hline
              exact (Option.some.inj hline).symm
            subst hl2
            refine .inl ⟨i, g, p, b, f, r, _, rfl, hg.mono e4, h4, InpsOk.at hok hi, fun q H5 e5 hq5 => ?_⟩
            refine ⟨_, rfl, rfl, _, rfl, ?_⟩
            refine ite2 (fun h => absurd h (by simp)) (fun _ => ?_)
            have hR5 := (h24.trans e5) _ _ h2
            refine ⟨_, rfl, .inl ⟨rfl, _, SqL.of hR5⟩, _, rfl, R, _, _, rfl, rfl, hR5, small1000 (by unfold rv; rw [List.length_map]; omega), ?_⟩
            have e6 : Ex H (upd H5 R (.lst (rv qs ++ [.ref q]))) := Ex.mut (e4.trans e5) hR
            have nR : ∀ {c : Addr} {xs : List V}, H5 c = some (.tup xs) → c ≠ R := fun hc z => by
              rw [z, hR5] at hc
              cases hc
            refine ⟨qs ++ [q], _, _, hj2, e6, ?_, ?_, rfl⟩
            · rw [upd_same]
              unfold rv
              rw [List.map_append]
              rfl
            · have et : ins.take (j + 1) = ins.take j ++ [i] := by rw [List.take_add_one, hi]; rfl
              rw [et]
              have h35 : Each InpAt H5 qs (ins.take j) := h3.ex (fun h e => h.ex e) (h24.trans e5)
              have h36 := h35.add hq5
              refine ⟨h36.1, fun i' q' x' hq' hx' => ?_⟩
              have := h36.2 i' q' x' hq' hx'
              unfold InpAt at this ⊢
              rw [upd_ne (nR this)]
              exact this
          · have hj3 : j = ins.length := by omega
            rcases hrest with hrest | ⟨wd, ws, rs, hrest, hfree, hne, hlen2⟩
            · exfalso
              have := (List.getElem?_eq_some_iff.mp hline).1
              rw [hrest, List.append_nil, List.length_map] at this
              omega
            have hl2 : line = lineW (wd :: ws) := by
              rw [List.getElem?_append_right (by rw [List.length_map]; omega), List.length_map, hj3, Nat.sub_self, hrest] at hline
              exact (Option.some.inj hline).symm
            subst hl2
            refine .inr ⟨wd, ws, g, p, rfl, hfree, hne, hlen2, fun H5 e5 => ?_⟩
            refine ⟨_, rfl, rfl, _, rfl, ?_⟩
            refine ite2 (fun _ => ?_) (fun h => absurd (by simp) h)
            refine ⟨qs, _, _, e4.trans e5, (h24.trans e5) _ _ h2, ?_, rfl⟩
            rw [hj3, List.take_length] at h3
            exact h3.ex (fun h e => h.ex e) (h24.trans e5)
      · rintro σ H2 ⟨qs, v1, v2, hj, e2, h2, h3, rfl⟩
        refine ⟨qs, v1, v2, e2, h2, ?_, rfl⟩
        rw [List.take_of_length_le (by rw [sv_len, List.length_append, List.length_map]; omega)] at h3
        exact h3
    · refine ⟨_, (pss_cons (ps_set (i := 4) sc_read_rows.nd rfl (Or.inl rfl) (pe_lst pa_nil))
      (pss_cut (ps_for PassesOwn.never rfl (pi_list (pv 1)) (pg_name (i := 5) sc_read_rows.nd rfl (Or.inl rfl)) (pss_cons (ps_set (i := 6) sc_read_rows.nd rfl (Or.inl rfl) (pe_callL (i := 0) (ok_read_step T) (hr.mono (by decide)) rfl (Or.inl rfl) T.k_read_step T.B_read_step .nil pass0 (pa_cons (pv 5) (pa_cons (pv 2) (pa_cons (pe_op op_cat (pv 3) (pe_lc (own := [("ahead", 7)]) (g := gName 7) (by rfl) sc_read_rows.nd (pi_list (pv 4)) (blkOk_by (own := [("ahead", 7)]) (N := N_read_rows) (sc := defScope s_read_rows) (by decide +kernel)) (fun _ _ _ _ _ => pg_name (i := 7) sc_read_rows.nd rfl (Or.inl rfl)) (fun _ _ _ _ _ => pts_nil) (fun _ _ _ _ _ => (pe_ix (r := rIxT K) ix_tup (pv 7) pe_int (fun _ _ => rfl))))) pa_nil)))))
      (pss_cons (ps_if (pt_cmpR op_isN (pv 6) pe_non (nomark _)) (pss_one ps_break) pss_nil)
      (pss_one (ps_expr (pe_bm PySem.F.plainAttrs_list PySem.F.slot_list_append PySem.F.type_list_append mt_append (pv 4) (pa_cons (pv 6) pa_nil)))))))
      (pss_one (ps_ret (pv 4))))), ?_⟩
      refine ⟨Nat.zero_le _, fun R hR => ?_⟩
      refine ⟨fun σ H' => ∃ (qs : List Addr) (v1 v2 : Option V), Ex H H' ∧ H' R = some (.lst (rv qs)) ∧ Each StepAt H' qs ins ∧ σ = [some (.ref a.read_step), some (.ref L), some (.ref g), some (.ref l), some (.ref R), v1, v2, none], ?_, ?_⟩
      rotate_left
      · rintro σ H' ⟨qs, v1, v2, e1, h1, h2, rfl⟩
        exact ⟨_, rfl, k R qs H' e1 hR h1 h2⟩
      have x1 := Ex.new (o := .lst []) hR
      have hL1 := x1 _ _ hL
      refine ⟨_, rfl, L, rfl, ⟨_, SqL.of hL1⟩, for_list (K := K) (a := L) (xs := sv (ins.map stLine ++ rest)) (fun j σ H' => ∃ (qs : List Addr) (v1 v2 : Option V), j ≤ ins.length ∧ Ex H H' ∧ H' R = some (.lst (rv qs)) ∧ Each StepAt H' qs (ins.take j) ∧ σ = [some (.ref a.read_step), some (.ref L), some (.ref g), some (.ref l), some (.ref R), v1, v2, none])
        ⟨[], none, none, Nat.zero_le _, x1, upd_same, Each.nil, rfl⟩ (fun j σ H' _ ⟨qs, v1, v2, _, e, _⟩ => SqL.of (e _ _ hL)) ?_ ?_⟩
      · rintro j v σ H2 hv ⟨qs, v1, v2, hj, e2, h2, h3, rfl⟩
        obtain ⟨line, hline, rfl⟩ := sv_getI hv
        have hq : qs.length = j := by rw [h3.1, List.length_take]; omega
        -- the names ahead
        refine ⟨rfl, _, rfl, _, rfl, _, rfl, _, rfl, R, rfl, ⟨_, SqL.of h2⟩, fun D hD => ?_⟩
        refine lc_list (K := K) (a := R) (xs := rv qs) (fun i H' => Ex H2 H' ∧ H' D = some (.lst (sv (((ins.take j).map Stp.nm).take i)))) ⟨Ex.new hD, upd_same⟩ (fun i H' _ z => SqL.of (z.1 _ _ h2)) ?_ ?_
        · rintro i v H3 hv ⟨e3, hD3⟩
          obtain ⟨q, hq', rfl⟩ := rv_get hv
          have hi : i < qs.length := (List.getElem?_eq_some_iff.mp hq').1
          obtain ⟨x, hx⟩ : ∃ x, (ins.take j)[i]? = some x := ⟨_, List.getElem?_eq_getElem (by rw [← h3.1]; exact hi)⟩
          have hat := (h3.2 i q x hq' hx).ex e3
          refine ⟨rfl, ?_⟩
          dsimp only [tYes]
          refine iteT ?_
          refine ⟨_, rfl, q, _, _, _, rfl, rfl, SqT.of hat.choose_spec.1, atN (m := 0) rfl, ?_⟩
          refine ⟨_, hD3, small1000 (by rw [sv_len, List.length_take, List.length_map, List.length_take]; omega), Ex.mut e3 hD, ?_⟩
          rw [upd_same]
          have : ((ins.take j).map Stp.nm).take (i + 1) = ((ins.take j).map Stp.nm).take i ++ [x.nm] := by
            rw [List.take_add_one, List.getElem?_map, hx]; rfl
          rw [this, sv_app]
          rfl
        · rintro H3 ⟨e3, hD3⟩
          have hD3 : H3 D = some (.lst (sv ((ins.take j).map Stp.nm))) := by
            rw [hD3]
            congr 3
            refine List.take_of_length_le ?_
            unfold rv
            rw [List.length_map, List.length_map, h3.1]
            exact Nat.le_refl _
          refine ⟨l, D, _, _, rfl, rfl, (e2.trans e3) _ _ hl, hD3, Nat.le_trans (by rw [sv_len, sv_len, List.length_map, List.length_take]; omega : _ ≤ 100) (by decide), fun p hp => ?_⟩
          have e4 := (e2.trans e3).trans (Ex.new (o := .lst (sv names ++ sv ((ins.take j).map Stp.nm))) hp)
          have h4 : (upd H3 p (.lst (sv names ++ sv ((ins.take j).map Stp.nm)))) p = some (.lst (sv (names ++ (ins.take j).map Stp.nm))) := by rw [upd_same, sv_app]
          have h24 := (e3.trans (Ex.new (o := .lst (sv names ++ sv ((ins.take j).map Stp.nm))) hp))
          generalize (upd H3 p (.lst (sv names ++ sv ((ins.take j).map Stp.nm)))) = H4 at *
          by_cases hj2 : j < ins.length
          · obtain ⟨i, hi⟩ : ∃ i, ins[j]? = some i := ⟨_, List.getElem?_eq_getElem hj2⟩
            have hl2 : line = stLine i := by
              rw [List.getElem?_append_left (by rw [List.length_map]; exact hj2), List.getElem?_map, hi] at hline
              exact (Option.some.inj hline).symm
            subst hl2
            refine .inl ⟨i, g, p, b, f, r, _, rfl, hg.mono e4, h4, StpsOk.at hok hi, (fun x hx => (List.mem_append.mp hx).elim (hnm x) (fun hx => by
              obtain ⟨y, hy, rfl⟩ := List.mem_map.mp hx
              exact StpsOk.nms hok y (List.mem_of_mem_take hy))), fun q H5 e5 hq5 => ?_⟩
            refine ⟨_, rfl, rfl, _, rfl, ?_⟩
            refine ite2 (fun h => absurd h (by simp)) (fun _ => ?_)
            have hR5 := (h24.trans e5) _ _ h2
            refine ⟨_, rfl, .inl ⟨rfl, _, SqL.of hR5⟩, _, rfl, R, _, _, rfl, rfl, hR5, small1000 (by unfold rv; rw [List.length_map]; omega), ?_⟩
            have e6 : Ex H (upd H5 R (.lst (rv qs ++ [.ref q]))) := Ex.mut (e4.trans e5) hR
            have nR : ∀ {c : Addr} {xs : List V}, H5 c = some (.tup xs) → c ≠ R := fun hc z => by
              rw [z, hR5] at hc
              cases hc
            refine ⟨qs ++ [q], _, _, hj2, e6, ?_, ?_, rfl⟩
            · rw [upd_same]
              unfold rv
              rw [List.map_append]
              rfl
            · have et : ins.take (j + 1) = ins.take j ++ [i] := by rw [List.take_add_one, hi]; rfl
              rw [et]
              have h35 : Each StepAt H5 qs (ins.take j) := h3.ex (fun h e => h.ex e) (h24.trans e5)
              have h36 := h35.add hq5
              refine ⟨h36.1, fun i' q' x' hq' hx' => ?_⟩
              have := h36.2 i' q' x' hq' hx'
              obtain ⟨o, t1, t2⟩ := this
              exact ⟨o, by rw [upd_ne (nR t1)]; exact t1, by rw [upd_ne (nR t2)]; exact t2⟩
          · have hj3 : j = ins.length := by omega
            rcases hrest with hrest | ⟨ws, rs, hrest, h0, hfree, h5, hlen2⟩
            · exfalso
              have := (List.getElem?_eq_some_iff.mp hline).1
              rw [hrest, List.append_nil, List.length_map] at this
              omega
            have hl2 : line = lineW ws := by
              rw [List.getElem?_append_right (by rw [List.length_map]; omega), List.length_map, hj3, Nat.sub_self, hrest] at hline
              exact (Option.some.inj hline).symm
            subst hl2
            refine .inr ⟨ws, g, p, rfl, h0, hfree, h5, hlen2, fun H5 e5 => ?_⟩
            refine ⟨_, rfl, rfl, _, rfl, ?_⟩
            refine ite2 (fun _ => ?_) (fun h => absurd (by simp) h)
            refine ⟨qs, _, _, e4.trans e5, (h24.trans e5) _ _ h2, ?_, rfl⟩
            rw [hj3, List.take_length] at h3
            exact h3.ex (fun h e => h.ex e) (h24.trans e5)
      · rintro σ H2 ⟨qs, v1, v2, hj, e2, h2, h3, rfl⟩
        refine ⟨qs, v1, v2, e2, h2, ?_, rfl⟩
        rw [List.take_of_length_le (by rw [sv_len, List.length_append, List.length_map]; omega)] at h3
        exact h3
end
end My


set_option Elab.async false
set_option maxRecDepth 100000
set_option maxHeartbeats 2000000
set_option exponentiation.threshold 6000
namespace My
open PySem L2 Evl TL
structure Prg where
  b : Nat
  f : Nat
  r : Nat
  pl : Nat
  ins : List Inp
  steps : List Stp
  told : List Str
def Prg.names (p : Prg) : List Str := p.ins.map Inp.nm ++ p.steps.map Stp.nm
structure PrgOk (p : Prg) : Prop where
  g : 2 ≤ p.b ∧ p.b ≤ 10 ∧ 1 ≤ p.f ∧ p.f ≤ 30 ∧ p.r ≤ 60 ∧ p.pl ≤ 30
  ins : InpsOk p.b p.f p.r [] p.ins
  i1 : 1 ≤ p.ins.length
  i3 : p.ins.length ≤ 3
  sts : StpsOk p.b p.f p.r (p.ins.map Inp.nm) p.steps
  s20 : p.steps.length ≤ 20
  told : ∀ x ∈ p.told, x ∈ p.names
  t1 : 1 ≤ p.told.length
  t4 : p.told.length ≤ 4
def Prg.tellL (p : Prg) : Str := lineW (tellWords p.told)
def Prg.lines (p : Prg) : List Str := lineW (gridWords p.b p.f p.r p.pl) :: (p.ins.map inLine ++ (p.steps.map stLine ++ [p.tellL]))
def Prg.text (p : Prg) : Str := textW p.lines
theorem InpsOk.nms {b f r : Nat} {names : List Str} {ss : List Inp} (h : InpsOk b f r names ss) : ∀ s ∈ ss, s.nm ∈ NM := fun s hs => by
  obtain ⟨j, hj⟩ := List.getElem?_of_mem hs
  exact List.mem_append_left _ (InpsOk.at h hj).inn
theorem PrgOk.nms {p : Prg} (h : PrgOk p) : ∀ x ∈ p.names, x ∈ NM := fun x hx => by
  rcases List.mem_append.mp hx with hx | hx
  · obtain ⟨y, hy, rfl⟩ := List.mem_map.mp hx
    exact h.ins.nms y hy
  · obtain ⟨y, hy, rfl⟩ := List.mem_map.mp hx
    exact h.sts.nms y hy
theorem PrgOk.inms {p : Prg} (h : PrgOk p) : ∀ x ∈ p.ins.map Inp.nm, x ∈ NM := fun x hx => h.nms x (List.mem_append_left _ hx)
theorem StpsOk.free {b f r : Nat} {names : List Str} {ss : List Stp} (hn : ∀ x ∈ names, x ∈ NM) (h : StpsOk b f r names ss) {s : Nat} (hs : s = 32 ∨ s = 10) : ∀ st ∈ ss, Free s st.words := fun st hst => by
  obtain ⟨j, hj⟩ := List.getElem?_of_mem hst
  refine stp_free (fun x hx => ?_) (StpsOk.at h hj) hs
  rcases List.mem_append.mp hx with hx | hx
  · exact hn x hx
  · obtain ⟨y, hy, rfl⟩ := List.mem_map.mp hx
    exact h.nms y (List.mem_of_mem_take hy)
theorem StpsOk.short {b f r : Nat} (hb : b ≤ 10) (hl : f + r ≤ 100) {names : List Str} {ss : List Stp} (hn : ∀ x ∈ names, x ∈ NM) (h : StpsOk b f r names ss) : ∀ st ∈ ss, (stLine st).length ≤ 2000 := fun st hst => by
  obtain ⟨j, hj⟩ := List.getElem?_of_mem hst
  refine line_short (stp_short hb hl (fun x hx => ?_) (StpsOk.at h hj)) (stp_words_len (StpsOk.at h hj)).2
  rcases List.mem_append.mp hx with hx | hx
  · exact hn x hx
  · obtain ⟨y, hy, rfl⟩ := List.mem_map.mp hx
    exact h.nms y (List.mem_of_mem_take hy)
theorem inp_short {b f r : Nat} (hb : b ≤ 10) (hl : f + r ≤ 100) {names : List Str} {i : Inp} (h : InpOk b f r names i) : (inLine i).length ≤ 2000 := by
  have hnm := nm_facts i.nm (List.mem_append_left _ h.inn)
  exact line_short (ws := i.words) (fun w hw => by
    rcases List.mem_cons.mp hw with rfl | hw
    · decide +kernel
    rcases List.mem_cons.mp hw with rfl | hw
    · exact Nat.le_trans hnm.2.2.2.1 (by decide)
    rcases List.mem_cons.mp hw with rfl | hw
    · exact num_short hb hl h.lo.1
    · rw [List.mem_singleton.mp hw]; exact num_short hb hl h.hi.1) (by show 4 ≤ 9; decide)
theorem tell_short {told : List Str} (h : ∀ x ∈ told, x ∈ NM) (h4 : told.length ≤ 4) : (lineW (tellWords told)).length ≤ 2000 :=
  line_short (ws := tellWords told) (fun w hw => by
    rcases List.mem_cons.mp hw with rfl | hw
    · decide +kernel
    · exact Nat.le_trans (nm_facts w (h w hw)).2.2.2.1 (by decide)) (by unfold tellWords; rw [List.length_cons]; omega)
theorem grid_short {b f r pl : Nat} (h : b ≤ 60 ∧ f ≤ 60 ∧ r ≤ 60 ∧ pl ≤ 60) : (lineW (gridWords b f r pl)).length ≤ 2000 := by
  have sl : ∀ n : Nat, n ≤ 60 → (numW (n : Int)).length ≤ 120 := fun n hn => by
    have := numW_len (n := (n : Int)) (k := 101) (by decide) (by rw [Int.natAbs_natCast]; exact Nat.lt_of_le_of_lt hn (by decide +kernel))
    omega
  exact line_short (ws := gridWords b f r pl) (fun w hw => by
    rcases List.mem_cons.mp hw with rfl | hw
    · decide +kernel
    rcases List.mem_cons.mp hw with rfl | hw
    · exact sl _ h.1
    rcases List.mem_cons.mp hw with rfl | hw
    · exact sl _ h.2.1
    rcases List.mem_cons.mp hw with rfl | hw
    · exact sl _ h.2.2.1
    · rw [List.mem_singleton.mp hw]; exact sl _ h.2.2.2) (by show 5 ≤ 9; decide)
theorem PrgOk.lines {p : Prg} (h : PrgOk p) : Free 10 p.lines ∧ (∀ l ∈ p.lines, l.length ≤ 2000) ∧ p.lines.length = 2 + p.ins.length + p.steps.length := by
  obtain ⟨v1, v2, v3, v4, v5, v6⟩ := h.g
  have hl : p.f + p.r ≤ 100 := by omega
  have key : ∀ l ∈ p.lines, 10 ∉ tl l ∧ l.length ≤ 2000 := by
    intro l hl'
    rcases List.mem_cons.mp hl' with rfl | hl'
    · exact ⟨free_line (by decide) (grid_free _ _ _ _ (.inr rfl)), grid_short (by omega)⟩
    rcases List.mem_append.mp hl' with hl' | hl'
    · obtain ⟨i, hi, rfl⟩ := List.mem_map.mp hl'
      obtain ⟨j, hj⟩ := List.getElem?_of_mem hi
      have := InpsOk.at h.ins hj
      exact ⟨free_line (by decide) (inp_free this (.inr rfl)), inp_short v2 hl this⟩
    rcases List.mem_append.mp hl' with hl' | hl'
    · obtain ⟨i, hi, rfl⟩ := List.mem_map.mp hl'
      exact ⟨free_line (by decide) (h.sts.free h.inms (.inr rfl) i hi), h.sts.short v2 hl h.inms i hi⟩
    · rw [List.mem_singleton.mp hl']
      have ht : ∀ x ∈ p.told, x ∈ NM := fun x hx => h.nms x (h.told x hx)
      exact ⟨free_line (by decide) (tell_free ht (.inr rfl)), tell_short ht h.t4⟩
  refine ⟨fun l hl => (key l hl).1, fun l hl => (key l hl).2, ?_⟩
  unfold Prg.lines
  simp only [List.length_cons, List.length_append, List.length_map, List.length_nil]
  omega
theorem PrgOk.len {p : Prg} (h : PrgOk p) : p.text.length ≤ 100000 := by
  obtain ⟨h1, h2, h3⟩ := h.lines
  have := text_len h2
  have h4 : (2000 + 1) * p.lines.length ≤ 2001 * 25 := Nat.mul_le_mul_left _ (by have := h.i3; have := h.s20; omega)
  show (textW p.lines).length ≤ _
  omega
theorem PrgOk.split {p : Prg} (h : PrgOk p) : Txt.split p.text ("\n" : Str) = p.lines := split_text (List.cons_ne_nil _ _) h.lines.1
theorem tell_notin {told : List Str} (h : ∀ x ∈ told, x ∈ NM) (h4 : told.length ≤ 4) (rs : List Str) : NotIn (lineW (tellWords told) :: rs) :=
  .inr ⟨("tell" : Str), told, rs, rfl, tell_free h (.inl rfl), by decide +kernel, Nat.le_trans (tell_short h h4) (by decide)⟩
theorem tell_notst {told : List Str} (h : ∀ x ∈ told, x ∈ NM) (h1 : 1 ≤ told.length) (h4 : told.length ≤ 4) (rs : List Str) : NotSt (lineW (tellWords told) :: rs) := by
  refine .inr ⟨tellWords told, rs, rfl, List.cons_ne_nil _ _, tell_free h (.inl rfl), ?_, Nat.le_trans (tell_short h h4) (by decide)⟩
  match told, h1 with
  | x :: xs, _ => exact .inr ⟨x, rfl, (nm_facts x (h x List.mem_cons_self)).2.2.2.2.2⟩
theorem PrgOk.behind {p : Prg} (h : PrgOk p) (k : Nat) : NotIn ((p.steps.map stLine ++ [p.tellL]).take k) := by
  cases k with
  | zero => exact .inl rfl
  | succ k =>
    have ht : ∀ x ∈ p.told, x ∈ NM := fun x hx => h.nms x (h.told x hx)
    cases hs : p.steps with
    | nil => exact tell_notin ht h.t4 _
    | cons st ss =>
      have hmem : st ∈ p.steps := by rw [hs]; exact List.mem_cons_self
      have hok : StpOk p.b p.f p.r (p.ins.map Inp.nm) st := by
        have := h.sts
        rw [hs] at this
        exact this.1
      have ew := words_tail hok.len
      refine .inr ⟨st.nm, ("=" : Str) :: st.tail, (ss.map stLine ++ [p.tellL]).take k, ?_, ?_, (nm_facts st.nm (List.mem_append_right _ hok.sn)).2.2.2.2.1, ?_⟩
      · show stLine st :: _ = _
        unfold stLine
        rw [ew]
        rfl
      · have := h.sts.free h.inms (s := 32) (.inl rfl) st hmem
        rw [ew] at this
        exact this
      · have := h.sts.short h.g.2.1 (by have := h.g; omega) h.inms st hmem
        unfold stLine at this
        rw [ew] at this
        exact Nat.le_trans this (by decide)
def pfl (x : Str) (g I S Tt N : Addr) : List (Str × V) := putF "names" (.ref N) (putF "told" (.ref Tt) (putF "steps" (.ref S) (putF "inputs" (.ref I) (putF "grid" (.ref g) (putF "text" (.str x) [])))))
section
variable {x : Str} {g I S Tt N : Addr}
theorem pfl_grid : (pfl x g I S Tt N).lookup ("grid" : Str) = some (.ref g) := by
  unfold pfl
  repeat (first | rw [lookup_putF, if_pos (by decide +kernel)] | rw [lookup_putF, if_neg (by decide +kernel)])
theorem pfl_inputs : (pfl x g I S Tt N).lookup ("inputs" : Str) = some (.ref I) := by
  unfold pfl
  repeat (first | rw [lookup_putF, if_pos (by decide +kernel)] | rw [lookup_putF, if_neg (by decide +kernel)])
theorem pfl_steps : (pfl x g I S Tt N).lookup ("steps" : Str) = some (.ref S) := by
  unfold pfl
  repeat (first | rw [lookup_putF, if_pos (by decide +kernel)] | rw [lookup_putF, if_neg (by decide +kernel)])
theorem pfl_told : (pfl x g I S Tt N).lookup ("told" : Str) = some (.ref Tt) := by
  unfold pfl
  repeat (first | rw [lookup_putF, if_pos (by decide +kernel)] | rw [lookup_putF, if_neg (by decide +kernel)])
theorem pfl_names : (pfl x g I S Tt N).lookup ("names" : Str) = some (.ref N) := by
  unfold pfl
  repeat (first | rw [lookup_putF, if_pos (by decide +kernel)] | rw [lookup_putF, if_neg (by decide +kernel)])
end
/-- what a program's parts are -/
structure Parts (a : Ad) (H : Hp) (pr : Prg) (g I S Tt : Addr) : Prop where
  gr : GridAt a H g pr.b pr.f pr.r (pr.b ^ pr.f) ((pr.b ^ pr.f - 1) * pr.b ^ pr.r)
  un : UnitAt a H g pr.b pr.pl
  ex : ∃ qi qs, H I = some (.tup (rv qi)) ∧ Each InpAt H qi pr.ins ∧ H S = some (.tup (rv qs)) ∧ Each StepAt H qs pr.steps
  tt : H Tt = some (.tup (sv pr.told))
theorem Parts.mono {a : Ad} {H H' : Hp} {pr : Prg} {g I S Tt : Addr} (h : Parts a H pr g I S Tt) (e : Ex H H') : Parts a H' pr g I S Tt := by
  obtain ⟨h1, h2, ⟨qi, qs, h3, h4, h5, h6⟩, h7⟩ := h
  exact ⟨h1.mono e, h2.mono e, ⟨qi, qs, e _ _ h3, h4.ex (fun h e => h.ex e) e, e _ _ h5, h6.ex (fun h e => h.ex e) e⟩, e _ _ h7⟩
def ProgAt (a : Ad) (H : Hp) (p : Addr) (pr : Prg) : Prop := ∃ dx g I S Tt N, H p = some (.ins a.Program dx (pfl pr.text g I S Tt N)) ∧ Parts a H pr g I S Tt ∧ H N = some (.tup (sv pr.names))
theorem ProgAt.mono {a : Ad} {H H' : Hp} {p : Addr} {pr : Prg} (h : ProgAt a H p pr) (e : Ex H H') : ProgAt a H' p pr := by
  obtain ⟨dx, g, I, S, Tt, N, h1, h2, h3⟩ := h
  exact ⟨dx, g, I, S, Tt, N, e _ _ h1, h2.mono e, e _ _ h3⟩
theorem gfl_ne {b f r p u G : Int} {lim tops : Addr} : gfl b f r p u lim tops G ≠ [] := fun z => by
  have := gfl_base (b := b) (f := f) (r := r) (p := p) (u := u) (G := G) (lim := lim) (tops := tops)
  rw [z] at this
  cases this
theorem Parts.kp {a : Ad} {H H' : Hp} {pr : Prg} {g I S Tt p C dx : Addr} (h : Parts a H pr g I S Tt) (hp : H p = some (.ins C dx [])) (e : Kp p H H') : Parts a H' pr g I S Tt := by
  obtain ⟨⟨h1, h2, h3, h4, dx', lim, tops, p', u', xs', ys', h5, h6, h7, h8⟩, ⟨dx2, lim2, tops2, b2, f2, r2, G2, hu⟩, ⟨qi, qs, q1, q2, q3, q4⟩, h9⟩ := h
  have tn : ∀ {c : Addr} {xs : List V}, H c = some (.tup xs) → c ≠ p := fun hc => ne_of hc hp (by intro z; cases z)
  have gn : g ≠ p := fun z => by
    rw [z, hp] at h5
    have := HO.ins.inj (Option.some.inj h5)
    exact gfl_ne this.2.2.symm
  refine ⟨⟨h1, h2, h3, h4, dx', lim, tops, p', u', xs', ys', e _ _ h5 gn, e _ _ h6 (tn h6), e _ _ h7 (tn h7), h8⟩, ⟨dx2, lim2, tops2, b2, f2, r2, G2, e _ _ hu gn⟩, ⟨qi, qs, e _ _ q1 (tn q1), ⟨q2.1, fun i q x hq hx => ?_⟩, e _ _ q3 (tn q3), ⟨q4.1, fun i q x hq hx => ?_⟩⟩, e _ _ h9 (tn h9)⟩
  · have := q2.2 i q x hq hx
    exact e _ _ this (tn this)
  · obtain ⟨o, t1, t2⟩ := q4.2 i q x hq hx
    exact ⟨o, e _ _ t1 (tn t1), e _ _ t2 (tn t2)⟩
def sp_read_program (a : Ad) : Sp := fun vs H Q _ => ∃ pr : Prg, vs = [.str pr.text] ∧ PrgOk pr ∧ ∀ q g I S Tt H', Ex H H' → H' q = some (.tup [.ref g, .ref I, .ref S, .ref Tt]) → Parts a H' pr g I S Tt → Q (.ref q) H'
def sp_pinit (a : Ad) : Sp := fun vs H Q _ => ∃ (p dx : Addr) (pr : Prg), vs = [.ref p, .str pr.text] ∧ H p = some (.ins a.Program dx []) ∧ PrgOk pr ∧ ∀ H', Kp p H H' → ProgAt a H' p pr → Q .non H'
theorem rv_len (xs : List Addr) : (rv xs).length = xs.length := by unfold rv; rw [List.length_map]
theorem first_lc {α : Type} {at_ : Hp → Addr → α → Prop} {nm : α → Str} {H : Hp} {qs : List Addr} {xs : List α} (h : Each at_ H qs xs) {i : Nat} {v : V} (hv : (rv qs)[i]? = some v) : ∃ q x, v = .ref q ∧ at_ H q x ∧ i < xs.length ∧ (xs.map nm).take (i + 1) = (xs.map nm).take i ++ [nm x] := by
  obtain ⟨q, hq, rfl⟩ := rv_get hv
  have hi : i < qs.length := (List.getElem?_eq_some_iff.mp hq).1
  obtain ⟨x, hx⟩ : ∃ x, xs[i]? = some x := ⟨_, List.getElem?_eq_getElem (by rw [← h.1]; exact hi)⟩
  refine ⟨q, x, rfl, h.2 i q x hq hx, by rw [← h.1]; exact hi, ?_⟩
  rw [List.take_add_one, List.getElem?_map, hx]; rfl
section
variable {P : Program} {w : World} {K : PySem.W.Frag} {mg : Str → Option Value} {base : Heap} {a : Ad}
theorem ok_read_program (T : Txt K mg a) : FnOk P w K mg base CX0 13 a.read_program a.read_program_fd ["text"] (sp_read_program a) := by
  refine T.F_read_program.ok sc_read_program (fun vs H Q E h => ?_) (fun cdv A outer s H vs Q E hr h => ?_)
  · obtain ⟨pr, rfl, _⟩ := h
    rfl
  · obtain ⟨pr, rfl, hok, k⟩ := h
    refine ⟨_, (pss_cons (ps_set (i := 1) sc_read_program.nd rfl (Or.inl rfl) (pe_split (pv 0) pe_str))
      (pss_cut (ps_set (i := 2) sc_read_program.nd rfl (Or.inl rfl) (pe_call (ok_read_grid T) (hr.mono (by decide)) rfl T.g_read_grid T.k_read_grid T.B_read_grid .nil pass0 (pa_cons (pe_ix ix_list (pv 1) pe_int (fun _ _ => rfl)) pa_nil)))
      (pss_cons (ps_if (pt_cmpR op_isN (pv 2) pe_non (nomark _)) (pss_one ps_never) pss_nil)
      (pss_cut (ps_set (i := 3) sc_read_program.nd rfl (Or.inl rfl) (pe_call (ok_read_rows T) (hr.mono (by decide)) rfl T.g_read_rows T.k_read_rows T.B_read_rows .nil pass0 (pa_cons (pe_glob (v := .ref a.read_input) rfl T.g_read_input rfl) (pa_cons (pe_slice sl_list (pv 1) (po_some pe_int) (po_some (pe_op op_add pe_int (pe_glob (v := .int 3) rfl T.c_MOST_INPUTS.choose_spec ⟨_, rfl⟩)))) (pa_cons (pv 2) (pa_cons (pe_lst pa_nil) pa_nil))))))
      (pss_cut (ps_setLc (i := 4) (own := [("row", 8)]) (g := gName 8) (by rfl) sc_read_program.nd rfl rfl (sw_true rfl rfl rfl (by decide +kernel)) (pi_list (pv 3)) (blkOk_by (own := [("row", 8)]) (N := N_read_program) (sc := defScope s_read_program) (by decide +kernel)) (fun _ _ _ _ _ => pg_name (i := 8) sc_read_program.nd rfl (Or.inl rfl)) (fun _ _ _ _ _ => pts_nil) (fun _ _ _ _ _ => (pe_ix (r := rIxT K) ix_tup (pv 8) pe_int (fun _ _ => rfl))))
      (pss_cut (ps_set (i := 5) sc_read_program.nd rfl (Or.inl rfl) (pe_op op_add pe_int (pe_callB call_len_seq (by rfl) T.n_len (by decide +kernel) (pa_cons (pv 3) pa_nil))))
      (pss_cut (ps_set (i := 6) sc_read_program.nd rfl (Or.inl rfl) (pe_ifExp (pt_truth (pv 3) (by intro _; rfl)) (pe_call (ok_read_rows T) (hr.mono (by decide)) rfl T.g_read_rows T.k_read_rows T.B_read_rows .nil pass0 (pa_cons (pe_glob (v := .ref a.read_step) rfl T.g_read_step rfl) (pa_cons (pe_slice sl_list (pv 1) (po_some (pv 5)) (po_some (pe_op op_add (pv 5) (pe_glob (v := .int 20) rfl T.c_MOST_STEPS.choose_spec ⟨_, rfl⟩)))) (pa_cons (pv 2) (pa_cons (pv 4) pa_nil))))) (pe_lst pa_nil)))
      (pss_cut (ps_set (i := 5) sc_read_program.nd rfl (Or.inl rfl) (pe_op op_add (pv 5) (pe_callB call_len_seq (by rfl) T.n_len (by decide +kernel) (pa_cons (pv 6) pa_nil))))
      (pss_cut (ps_set (i := 4) sc_read_program.nd rfl (Or.inl rfl) (pe_op op_cat (pv 4) (pe_lc (own := [("step", 9)]) (g := gName 9) (by rfl) sc_read_program.nd (pi_list (pv 6)) (blkOk_by (own := [("step", 9)]) (N := N_read_program) (sc := defScope s_read_program) (by decide +kernel)) (fun _ _ _ _ _ => pg_name (i := 9) sc_read_program.nd rfl (Or.inl rfl)) (fun _ _ _ _ _ => pts_nil) (fun _ _ _ _ _ => (pe_ix (r := rIxT K) ix_tup (pv 9) pe_int (fun _ _ => rfl))))))
      (pss_cut (ps_set (i := 7) sc_read_program.nd rfl (Or.inl rfl) (pe_ifExp (pt_cmpR op_lt (pv 5) (pe_callB call_len_seq (by rfl) T.n_len (by decide +kernel) (pa_cons (pv 1) pa_nil)) (nomark _)) (pe_call (ok_read_tell T) (hr.mono (by decide)) rfl T.g_read_tell T.k_read_tell T.B_read_tell .nil pass0 (pa_cons (pe_ix ix_list (pv 1) (pv 5) (fun _ _ => rfl)) (pa_cons (pv 4) pa_nil))) pe_non))
      (pss_cons (ps_if (pt_cmpR op_isN (pv 7) pe_non (nomark _)) (pss_one ps_never) pss_nil)
      (pss_cons (ps_if (pt_cmpR op_gt (pe_callB call_len_seq (by rfl) T.n_len (by decide +kernel) (pa_cons (pv 1) pa_nil)) (pe_op op_add (pv 5) pe_int) (nomark _)) (pss_one ps_never) pss_nil)
      (pss_one (ps_ret (pe_tup (pa_cons (pv 2) (pa_cons (pe_callTy call_tuple_of (by rfl) T.n_tuple (by decide +kernel) (pa_cons (pv 3) pa_nil)) (pa_cons (pe_callTy call_tuple_of (by rfl) T.n_tuple (by decide +kernel) (pa_cons (pv 6) pa_nil)) (pa_cons (pv 7) pa_nil))))))))))))))))))), ?_⟩
    obtain ⟨l1, l2, l3⟩ := hok.lines
    have ht : ∀ x ∈ pr.told, x ∈ NM := fun x hx => hok.nms x (hok.told x hx)
    have i1 := hok.i1
    have i3 := hok.i3
    have s20 := hok.s20
    refine ⟨_, rfl, ⟨_, rfl⟩, _, _, rfl, rfl, by decide +kernel, Nat.le_trans (Nat.add_le_add_right hok.len 2) (by decide), fun L hLn => ?_⟩
    rw [hok.split]
    have hL : (upd H L (.lst (pr.lines.map V.str))) L = some (.lst (sv pr.lines)) := upd_same
    have x1 : Ex H (upd H L (.lst (pr.lines.map V.str))) := Ex.new hLn
    generalize (upd H L (.lst (pr.lines.map V.str))) = H1 at *
    refine ⟨fun σ H' => ∃ g, Ex H1 H' ∧ GridAt a H' g pr.b pr.f pr.r (pr.b ^ pr.f) ((pr.b ^ pr.f - 1) * pr.b ^ pr.r) ∧ UnitAt a H' g pr.b pr.pl ∧ σ = [some (.str pr.text), some (.ref L), some (.ref g), none, none, none, none, none, none, none], ?_, ?_⟩
    · refine ⟨_, rfl, L, _, _, _, rfl, rfl, SqL.of hL, atN (m := 0) rfl, pr.b, pr.f, pr.r, pr.pl, rfl, hok.g, fun g H2 e2 hg hu => ?_⟩
      exact ⟨g, e2, hg, hu, rfl⟩
    rintro σ H2 ⟨g, e2, hg, hu, rfl⟩
    have hL2 := e2 _ _ hL
    refine ⟨_, rfl, rfl, _, rfl, ?_⟩
    refine ite2 (fun h => absurd h (by simp)) (fun _ => ?_)
    -- the inputs
    refine ⟨fun σ H' => ∃ R qi, Ex H2 H' ∧ H' R = some (.lst (rv qi)) ∧ Each InpAt H' qi pr.ins ∧ σ = [some (.str pr.text), some (.ref L), some (.ref g), some (.ref R), none, none, none, none, none, none], ?_, ?_⟩
    · refine ⟨_, rfl, _, rfl, _, _, rfl, rfl, _, rfl, L, _, rfl, SqL.of hL2, fun p hp => ?_⟩
      have ec : cutV (sv pr.lines) (some 1) (some (1 + 3)) = sv (pr.ins.map inLine ++ (pr.steps.map stLine ++ [pr.tellL]).take (3 - pr.ins.length)) := by
        refine (cut_mid _ 1 4 (by decide)).trans ?_
        rw [sv_drop, sv_take]
        congr 1
        show ((pr.ins.map inLine ++ (pr.steps.map stLine ++ [pr.tellL]))).take 3 = _
        rw [List.take_append, List.length_map, List.take_of_length_le (by rw [List.length_map]; omega)]
      rw [ec]
      have e3 := Ex.new (o := .lst (sv (pr.ins.map inLine ++ (pr.steps.map stLine ++ [pr.tellL]).take (3 - pr.ins.length)))) hp
      have h3 : (upd H2 p (.lst (sv (pr.ins.map inLine ++ (pr.steps.map stLine ++ [pr.tellL]).take (3 - pr.ins.length))))) p = some (.lst (sv (pr.ins.map inLine ++ (pr.steps.map stLine ++ [pr.tellL]).take (3 - pr.ins.length)))) := upd_same
      generalize (upd H2 p (.lst (sv (pr.ins.map inLine ++ (pr.steps.map stLine ++ [pr.tellL]).take (3 - pr.ins.length))))) = H3 at *
      refine ⟨_, rfl, Nat.zero_le _, fun l hl => ?_⟩
      have e4 := Ex.new (o := .lst []) hl
      have h4 : (upd H3 l (.lst [])) l = some (.lst (sv [])) := upd_same
      have h34 := e4 _ _ h3
      generalize (upd H3 l (.lst [])) = H4 at *
      refine .inl ⟨p, g, l, pr.b, pr.f, pr.r, pr.ins, _, [], rfl, h34, hok.behind _, hg.mono (e3.trans e4), h4, hok.ins, by omega, Nat.zero_le _, fun R qi H5 e5 _ hR hqi => ?_⟩
      exact ⟨R, qi, e3.trans (e4.trans e5), hR, hqi, rfl⟩
    rintro σ H3 ⟨R, qi, e3, hR, hqi, rfl⟩
    have hqn : qi.length = pr.ins.length := hqi.1
    -- their names
    refine ⟨fun σ H' => ∃ Nm, Ex H3 H' ∧ H' Nm = some (.lst (sv (pr.ins.map Inp.nm))) ∧ σ = [some (.str pr.text), some (.ref L), some (.ref g), some (.ref R), some (.ref Nm), none, none, none, none, none], ?_, ?_⟩
    · refine ⟨_, rfl, R, rfl, ⟨_, SqL.of hR⟩, fun D hD => ?_⟩
      refine lc_list (K := K) (a := R) (xs := rv qi) (fun i H' => Ex H3 H' ∧ H' D = some (.lst (sv ((pr.ins.map Inp.nm).take i)))) ⟨Ex.new hD, upd_same⟩ (fun i H' _ z => SqL.of (z.1 _ _ hR)) ?_ ?_
      · rintro i v H4 hv ⟨e4, hD4⟩
        obtain ⟨q, x, rfl, hat, hi, et⟩ := first_lc (nm := Inp.nm) hqi hv
        refine ⟨rfl, ?_⟩
        dsimp only [tYes]
        refine iteT ?_
        refine ⟨_, rfl, q, _, _, _, rfl, rfl, SqT.of (hat.ex e4), atN (m := 0) rfl, ?_⟩
        refine ⟨_, hD4, small1000 (by rw [sv_len, List.length_take, List.length_map]; omega), Ex.mut e4 hD, ?_⟩
        rw [upd_same, et, sv_app]
        rfl
      · rintro H4 ⟨e4, hD4⟩
        refine ⟨D, e4, ?_, rfl⟩
        rw [hD4, List.take_of_length_le (by rw [rv_len, List.length_map]; omega)]
    rintro σ H4 ⟨Nm, e4, hNm, rfl⟩
    have hR4 := e4 _ _ hR
    have hL4 := (e3.trans e4) _ _ hL2
    have hn1 : ((rv qi).length : Int) = (pr.ins.length : Int) := by rw [rv_len, hqn]
    refine ⟨fun σ H' => H' = H4 ∧ σ = [some (.str pr.text), some (.ref L), some (.ref g), some (.ref R), some (.ref Nm), some (.int ((1 + pr.ins.length : Nat) : Int)), none, none, none, none], ?_, ?_⟩
    · refine ⟨_, rfl, R, _, rfl, .inl (SqL.of hR4), _, _, rfl, rfl, rfl, ?_⟩
      have e : ((1 + pr.ins.length : Nat) : Int) = 1 + ((rv qi).length : Int) := by rw [hn1]; omega
      rw [e]
      rfl
    rintro σ H4 ⟨rfl, rfl⟩
    -- the steps
    refine ⟨fun σ H' => ∃ S qs, Ex H4 H' ∧ H' S = some (.lst (rv qs)) ∧ Each StepAt H' qs pr.steps ∧ σ = [some (.str pr.text), some (.ref L), some (.ref g), some (.ref R), some (.ref Nm), some (.int ((1 + pr.ins.length : Nat) : Int)), some (.ref S), none, none, none], ?_, ?_⟩
    · refine ⟨_, rfl, true, .inl ⟨_, SqL.of hR4, ?_⟩, iteT ?_⟩
      · have : rv qi ≠ [] := fun z => by
          have : (rv qi).length = 0 := by rw [z]; rfl
          rw [rv_len, hqn] at this
          omega
        cases hh : rv qi with
        | nil => exact absurd hh this
        | cons => rfl
      refine ⟨_, rfl, _, rfl, _, rfl, _, rfl, _, _, rfl, rfl, _, rfl, L, _, rfl, SqL.of hL4, fun p hp => ?_⟩
      have en : ((1 + pr.ins.length : Nat) : Int) + 20 = ((1 + pr.ins.length + 20 : Nat) : Int) := by omega
      have ec : cutV (sv pr.lines) (some ((1 + pr.ins.length : Nat) : Int)) (some (((1 + pr.ins.length : Nat) : Int) + 20)) = sv (pr.steps.map stLine ++ [pr.tellL].take (20 - pr.steps.length)) := by
        rw [en]
        refine (cut_mid _ _ _ (by omega)).trans ?_
        rw [sv_drop, sv_take]
        congr 1
        have e1 : 1 + pr.ins.length + 20 - (1 + pr.ins.length) = 20 := by omega
        rw [e1]
        have e2 : pr.lines.drop (1 + pr.ins.length) = pr.steps.map stLine ++ [pr.tellL] := by
          rw [Nat.add_comm 1]
          show ((pr.ins.map inLine ++ (pr.steps.map stLine ++ [pr.tellL]))).drop pr.ins.length = _
          rw [List.drop_append_of_le_length (by rw [List.length_map]; exact Nat.le_refl _), List.drop_of_length_le (by rw [List.length_map]; exact Nat.le_refl _)]
          rfl
        rw [e2, List.take_append, List.length_map, List.take_of_length_le (by rw [List.length_map]; omega)]
      rw [ec]
      have e5 := Ex.new (o := .lst (sv (pr.steps.map stLine ++ [pr.tellL].take (20 - pr.steps.length)))) hp
      have h5 : (upd H4 p (.lst (sv (pr.steps.map stLine ++ [pr.tellL].take (20 - pr.steps.length))))) p = some (.lst (sv (pr.steps.map stLine ++ [pr.tellL].take (20 - pr.steps.length)))) := upd_same
      generalize (upd H4 p (.lst (sv (pr.steps.map stLine ++ [pr.tellL].take (20 - pr.steps.length))))) = H5 at *
      have hrest : NotSt ([pr.tellL].take (20 - pr.steps.length)) := by
        cases 20 - pr.steps.length with
        | zero => exact .inl rfl
        | succ n => exact tell_notst ht hok.t1 hok.t4 _
      refine ⟨_, rfl, _, rfl, .inr ⟨p, g, Nm, pr.b, pr.f, pr.r, pr.steps, _, pr.ins.map Inp.nm, rfl, h5, hrest, hg.mono (e3.trans (e4.trans e5)), e5 _ _ hNm, hok.sts, hok.inms, s20, by rw [List.length_map]; omega, fun S qs H6 e6 _ hS hqs => ?_⟩⟩
      exact ⟨S, qs, e5.trans e6, hS, hqs, rfl⟩
    rintro σ H5 ⟨S, qs, e5, hS, hqs, rfl⟩
    have hsn : qs.length = pr.steps.length := hqs.1
    have hn2 : ((rv qs).length : Int) = (pr.steps.length : Int) := by rw [rv_len, hsn]
    refine ⟨fun σ H' => H' = H5 ∧ σ = [some (.str pr.text), some (.ref L), some (.ref g), some (.ref R), some (.ref Nm), some (.int ((1 + pr.ins.length + pr.steps.length : Nat) : Int)), some (.ref S), none, none, none], ?_, ?_⟩
    · refine ⟨_, rfl, _, rfl, S, _, rfl, .inl (SqL.of hS), _, _, rfl, rfl, rfl, ?_⟩
      have e : ((1 + pr.ins.length + pr.steps.length : Nat) : Int) = ((1 + pr.ins.length : Nat) : Int) + ((rv qs).length : Int) := by rw [hn2]; omega
      rw [e]
      rfl
    rintro σ H5 ⟨rfl, rfl⟩
    have hNm5 := e5 _ _ hNm
    refine ⟨fun σ H' => ∃ Nm2, Ex H5 H' ∧ H' Nm2 = some (.lst (sv pr.names)) ∧ σ = [some (.str pr.text), some (.ref L), some (.ref g), some (.ref R), some (.ref Nm2), some (.int ((1 + pr.ins.length + pr.steps.length : Nat) : Int)), some (.ref S), none, none, none], ?_, ?_⟩
    · refine ⟨_, rfl, _, rfl, S, rfl, ⟨_, SqL.of hS⟩, fun D hD => ?_⟩
      refine lc_list (K := K) (a := S) (xs := rv qs) (fun i H' => Ex H5 H' ∧ H' D = some (.lst (sv ((pr.steps.map Stp.nm).take i)))) ⟨Ex.new hD, upd_same⟩ (fun i H' _ z => SqL.of (z.1 _ _ hS)) ?_ ?_
      · rintro i v H6 hv ⟨e6, hD6⟩
        obtain ⟨q, x, rfl, hat, hi, et⟩ := first_lc (nm := Stp.nm) hqs hv
        refine ⟨rfl, ?_⟩
        dsimp only [tYes]
        refine iteT ?_
        refine ⟨_, rfl, q, _, _, _, rfl, rfl, SqT.of (hat.ex e6).choose_spec.1, atN (m := 0) rfl, ?_⟩
        refine ⟨_, hD6, small1000 (by rw [sv_len, List.length_take, List.length_map]; omega), Ex.mut e6 hD, ?_⟩
        rw [upd_same, et, sv_app]
        rfl
      · rintro H6 ⟨e6, hD6⟩
        have hD6 : H6 D = some (.lst (sv (pr.steps.map Stp.nm))) := by
          rw [hD6, List.take_of_length_le (by rw [rv_len, List.length_map]; omega)]
        refine ⟨Nm, D, _, _, rfl, rfl, e6 _ _ hNm5, hD6, Nat.le_trans (by rw [sv_len, sv_len, List.length_map, List.length_map]; omega : _ ≤ 100) (by decide), fun p hp => ?_⟩
        refine ⟨p, e6.trans (Ex.new hp), ?_, rfl⟩
        rw [upd_same, ← sv_app]
        rfl
    rintro σ H6 ⟨Nm2, e6, hNm2, rfl⟩
    have hL6 := (e5.trans e6) _ _ hL4
    have hll : ((sv pr.lines).length : Int) = ((2 + pr.ins.length + pr.steps.length : Nat) : Int) := by rw [sv_len, l3]
    refine ⟨fun σ H' => ∃ Tt, Ex H6 H' ∧ H' Tt = some (.tup (sv pr.told)) ∧ σ = [some (.str pr.text), some (.ref L), some (.ref g), some (.ref R), some (.ref Nm2), some (.int ((1 + pr.ins.length + pr.steps.length : Nat) : Int)), some (.ref S), some (.ref Tt), none, none], ?_, ?_⟩
    · refine ⟨_, rfl, _, rfl, L, _, rfl, .inl (SqL.of hL6), _, _, rfl, rfl, _, rfl, ?_⟩
      refine ite2 (fun _ => ?_) (fun h => absurd (decide_eq_true (by rw [hll]; omega)) h)
      have hat : (sv pr.lines)[1 + pr.ins.length + pr.steps.length]? = some (.str pr.tellL) := by
        refine sv_get ?_
        have e1 : 1 + pr.ins.length + pr.steps.length = (pr.ins.length + pr.steps.length) + 1 := by omega
        rw [e1]
        show ((pr.ins.map inLine ++ (pr.steps.map stLine ++ [pr.tellL])))[pr.ins.length + pr.steps.length]? = _
        rw [List.getElem?_append_right (by rw [List.length_map]; omega), List.length_map, Nat.add_sub_cancel_left, List.getElem?_append_right (by rw [List.length_map]; exact Nat.le_refl _), List.length_map, Nat.sub_self]
        rfl
      refine ⟨_, rfl, _, rfl, L, _, _, _, rfl, rfl, SqL.of hL6, atN hat, _, rfl, pr.told, pr.names, Nm2, rfl, hNm2, hok.told, hok.nms, hok.t1, hok.t4, fun Tt H7 e7 hTt => ?_⟩
      exact ⟨Tt, e7, hTt, rfl⟩
    rintro σ H7 ⟨Tt, e7, hTt, rfl⟩
    refine ⟨_, rfl, rfl, _, rfl, ?_⟩
    refine ite2 (fun h => absurd h (by simp)) (fun _ => ?_)
    refine ⟨_, rfl, L, _, rfl, .inl (SqL.of (e7 _ _ hL6)), _, rfl, _, _, rfl, rfl, _, _, rfl, rfl, _, rfl, ?_⟩
    refine ite2 (fun h => absurd (of_decide_eq_true h) (by rw [hll]; omega)) (fun _ => ?_)
    have e37 := e4.trans (e5.trans (e6.trans e7))
    refine ⟨_, rfl, _, rfl, R, _, rfl, .inl ⟨SqL.of (e37 _ _ hR), fun I hI => ?_⟩⟩
    have e8 := Ex.new (o := .tup (rv qi)) hI
    have h8 : (upd H7 I (.tup (rv qi))) I = some (.tup (rv qi)) := upd_same
    generalize (upd H7 I (.tup (rv qi))) = H8 at *
    refine ⟨_, rfl, S, _, rfl, .inl ⟨SqL.of ((e6.trans (e7.trans e8)) _ _ hS), fun I2 hI2 => ?_⟩⟩
    have e9 := Ex.new (o := .tup (rv qs)) hI2
    have h9 : (upd H8 I2 (.tup (rv qs))) I2 = some (.tup (rv qs)) := upd_same
    have h89 := e9 _ _ h8
    generalize (upd H8 I2 (.tup (rv qs))) = H9 at *
    refine ⟨_, rfl, by show 4 ≤ sizeLine; decide, fun q hq => ?_⟩
    have e10 := Ex.new (o := .tup [V.ref g, V.ref I, V.ref I2, V.ref Tt]) hq
    have e6x := e6.trans (e7.trans (e8.trans (e9.trans e10)))
    have e4x := e4.trans (e5.trans e6x)
    refine k q g I I2 Tt _ (x1.trans (e2.trans (e3.trans e4x))) upd_same ⟨hg.mono (e3.trans e4x), hu.mono (e3.trans e4x), ⟨qi, qs, e10 _ _ h89, hqi.ex (fun h e => h.ex e) e4x, e10 _ _ h9, hqs.ex (fun h e => h.ex e) e6x⟩, (e8.trans (e9.trans e10)) _ _ hTt⟩
theorem ok_Program_init (T : Txt K mg a) : FnOk P w K mg base CX0 14 a.Program_init a.Program_init_fd ["self", "text"] (sp_pinit a) := by
  refine T.F_Program_init.ok sc_Program_init (fun vs H Q E h => ?_) (fun cdv A outer s H vs Q E hr h => ?_)
  · obtain ⟨p, dx, pr, rfl, _⟩ := h
    rfl
  · obtain ⟨p, dx, pr, rfl, hp, hok, k⟩ := h
    refine ⟨_, (pss_cons (ps_if (pt_not (pt_val (pe_callB call_isi (by rfl) T.n_isinstance (by decide +kernel) (pa_cons (pv 1) (pa_cons (pe_bltn (v := .ty "str") (u := .type "str") rfl T.n_str (by decide +kernel) rfl) pa_nil))))) (pss_one ps_never) pss_nil)
      (pss_cons (ps_asg (pe_call (ok_read_program T) (hr.mono (by decide)) rfl T.g_read_program T.k_read_program T.B_read_program .nil pass0 (pa_cons (pv 1) pa_nil)) (pg_tup rfl (pgs_cons (pg_name (i := 2) sc_Program_init.nd rfl (Or.inl rfl)) (pgs_cons (pg_name (i := 3) sc_Program_init.nd rfl (Or.inl rfl)) (pgs_cons (pg_name (i := 4) sc_Program_init.nd rfl (Or.inl rfl)) (pgs_cons (pg_name (i := 5) sc_Program_init.nd rfl (Or.inl rfl)) pgs_nil))))))
      (pss_cons (ps_fld (pv 0) (pv 1) rfl)
      (pss_cons (ps_fld (pv 0) (pv 2) rfl)
      (pss_cons (ps_fld (pv 0) (pv 3) rfl)
      (pss_cons (ps_fld (pv 0) (pv 4) rfl)
      (pss_cons (ps_fld (pv 0) (pv 5) rfl)
      (pss_one (ps_fld (pv 0) (pe_callTy call_tuple_of (by rfl) T.n_tuple (by decide +kernel) (pa_cons (pe_op op_cat (pe_lc (own := [("row", 6)]) (g := gName 6) (by rfl) sc_Program_init.nd (pi_tup (pv 3)) (blkOk_by (own := [("row", 6)]) (N := N_Program_init) (sc := defScope s_Program_init) (by decide +kernel)) (fun _ _ _ _ _ => pg_name (i := 6) sc_Program_init.nd rfl (Or.inl rfl)) (fun _ _ _ _ _ => pts_nil) (fun _ _ _ _ _ => (pe_ix (r := rIxT K) ix_tup (pv 6) pe_int (fun _ _ => rfl)))) (pe_lc (own := [("step", 7)]) (g := gName 7) (by rfl) sc_Program_init.nd (pi_tup (pv 4)) (blkOk_by (own := [("step", 7)]) (N := N_Program_init) (sc := defScope s_Program_init) (by decide +kernel)) (fun _ _ _ _ _ => pg_name (i := 7) sc_Program_init.nd rfl (Or.inl rfl)) (fun _ _ _ _ _ => pts_nil) (fun _ _ _ _ _ => (pe_ix (r := rIxT K) ix_tup (pv 7) pe_int (fun _ _ => rfl))))) pa_nil)) rfl))))))))), ?_⟩
    refine ⟨_, rfl, _, _, _, _, true, rfl, .ty _, .base (.str _), kit_ty (by decide +kernel), _, rfl, ?_⟩
    refine ite2 (fun h => absurd h (by simp)) (fun _ => ?_)
    refine ⟨_, rfl, pr, rfl, hok, fun q g I S Tt H1 e1 hq hparts => ?_⟩
    refine ⟨q, _, rfl, SqT.of hq, rfl, _, _, rfl, _, _, rfl, _, _, rfl, _, _, rfl, rfl, ?_⟩
    have hp1 := e1 _ _ hp
    refine ⟨_, rfl, _, rfl, p, a.Program, dx, [], rfl, hp1, T.cl_Program, T.f_Program_text, (by show 0 < 1000; decide), ?_⟩
    refine ⟨_, rfl, _, rfl, p, a.Program, dx, _, rfl, upd_same, T.cl_Program, T.f_Program_grid, lt1000 (ln (Nat.le_refl 0)), ?_⟩
    refine ⟨_, rfl, _, rfl, p, a.Program, dx, _, rfl, upd_same, T.cl_Program, T.f_Program_inputs, lt1000 (ln (ln (Nat.le_refl 0))), ?_⟩
    refine ⟨_, rfl, _, rfl, p, a.Program, dx, _, rfl, upd_same, T.cl_Program, T.f_Program_steps, lt1000 (ln (ln (ln (Nat.le_refl 0)))), ?_⟩
    refine ⟨_, rfl, _, rfl, p, a.Program, dx, _, rfl, upd_same, T.cl_Program, T.f_Program_told, lt1000 (ln (ln (ln (ln (Nat.le_refl 0))))), ?_⟩
    have kp1 : Kp p H1 (upd (upd (upd (upd (upd H1 p (.ins a.Program dx (putF "text" (.str pr.text) []))) p (.ins a.Program dx (putF "grid" (.ref g) (putF "text" (.str pr.text) [])))) p (.ins a.Program dx (putF "inputs" (.ref I) (putF "grid" (.ref g) (putF "text" (.str pr.text) []))))) p (.ins a.Program dx (putF "steps" (.ref S) (putF "inputs" (.ref I) (putF "grid" (.ref g) (putF "text" (.str pr.text) [])))))) p (.ins a.Program dx (putF "told" (.ref Tt) (putF "steps" (.ref S) (putF "inputs" (.ref I) (putF "grid" (.ref g) (putF "text" (.str pr.text) []))))))) := ((((Kp.refl.set).set).set).set).set
    have hp6 : (upd (upd (upd (upd (upd H1 p (.ins a.Program dx (putF "text" (.str pr.text) []))) p (.ins a.Program dx (putF "grid" (.ref g) (putF "text" (.str pr.text) [])))) p (.ins a.Program dx (putF "inputs" (.ref I) (putF "grid" (.ref g) (putF "text" (.str pr.text) []))))) p (.ins a.Program dx (putF "steps" (.ref S) (putF "inputs" (.ref I) (putF "grid" (.ref g) (putF "text" (.str pr.text) [])))))) p (.ins a.Program dx (putF "told" (.ref Tt) (putF "steps" (.ref S) (putF "inputs" (.ref I) (putF "grid" (.ref g) (putF "text" (.str pr.text) []))))))) p = some (.ins a.Program dx (putF "told" (.ref Tt) (putF "steps" (.ref S) (putF "inputs" (.ref I) (putF "grid" (.ref g) (putF "text" (.str pr.text) [])))))) := upd_same
    have hpt6 := hparts.kp hp1 kp1
    generalize (upd (upd (upd (upd (upd H1 p (.ins a.Program dx (putF "text" (.str pr.text) []))) p (.ins a.Program dx (putF "grid" (.ref g) (putF "text" (.str pr.text) [])))) p (.ins a.Program dx (putF "inputs" (.ref I) (putF "grid" (.ref g) (putF "text" (.str pr.text) []))))) p (.ins a.Program dx (putF "steps" (.ref S) (putF "inputs" (.ref I) (putF "grid" (.ref g) (putF "text" (.str pr.text) [])))))) p (.ins a.Program dx (putF "told" (.ref Tt) (putF "steps" (.ref S) (putF "inputs" (.ref I) (putF "grid" (.ref g) (putF "text" (.str pr.text) []))))))) = H6 at *
    obtain ⟨qi, qs, hI, hqi, hS, hqs⟩ := hpt6.ex
    have i3 := hok.i3
    have s20 := hok.s20
    have hqn : qi.length = pr.ins.length := hqi.1
    have hsn : qs.length = pr.steps.length := hqs.1
    refine ⟨_, rfl, I, rfl, ⟨_, SqT.of hI⟩, fun D hD => ?_⟩
    refine lc_tup (K := K) (a := I) (xs := rv qi) (fun i H' => Ex H6 H' ∧ H' D = some (.lst (sv ((pr.ins.map Inp.nm).take i)))) ⟨Ex.new hD, upd_same⟩ (fun i H' _ z => SqT.of (z.1 _ _ hI)) ?_ ?_
    · rintro i v H7 hv ⟨e7, hD7⟩
      obtain ⟨q', x, rfl, hat, hi, et⟩ := first_lc (nm := Inp.nm) hqi hv
      refine ⟨rfl, ?_⟩
      dsimp only [tYes]
      refine iteT ?_
      refine ⟨_, rfl, q', _, _, _, rfl, rfl, SqT.of (hat.ex e7), atN (m := 0) rfl, ?_⟩
      refine ⟨_, hD7, small1000 (by rw [sv_len, List.length_take, List.length_map]; omega), Ex.mut e7 hD, ?_⟩
      rw [upd_same, et, sv_app]
      rfl
    rintro H7 ⟨e7, hD7⟩
    have hD7 : H7 D = some (.lst (sv (pr.ins.map Inp.nm))) := by
      rw [hD7, List.take_of_length_le (by rw [rv_len, List.length_map]; omega)]
    have hS7 := e7 _ _ hS
    refine ⟨_, rfl, S, rfl, ⟨_, SqT.of hS7⟩, fun D2 hD2 => ?_⟩
    refine lc_tup (K := K) (a := S) (xs := rv qs) (fun i H' => Ex H7 H' ∧ H' D2 = some (.lst (sv ((pr.steps.map Stp.nm).take i)))) ⟨Ex.new hD2, upd_same⟩ (fun i H' _ z => SqT.of (z.1 _ _ hS7)) ?_ ?_
    · rintro i v H8 hv ⟨e8, hD8⟩
      obtain ⟨q', x, rfl, hat, hi, et⟩ := first_lc (nm := Stp.nm) (hqs.ex (fun h e => h.ex e) e7) hv
      refine ⟨rfl, ?_⟩
      dsimp only [tYes]
      refine iteT ?_
      refine ⟨_, rfl, q', _, _, _, rfl, rfl, SqT.of (hat.ex e8).choose_spec.1, atN (m := 0) rfl, ?_⟩
      refine ⟨_, hD8, small1000 (by rw [sv_len, List.length_take, List.length_map]; omega), Ex.mut e8 hD2, ?_⟩
      rw [upd_same, et, sv_app]
      rfl
    rintro H8 ⟨e8, hD8⟩
    have hD8 : H8 D2 = some (.lst (sv (pr.steps.map Stp.nm))) := by
      rw [hD8, List.take_of_length_le (by rw [rv_len, List.length_map]; omega)]
    refine ⟨D, D2, _, _, rfl, rfl, e8 _ _ hD7, hD8, Nat.le_trans (by rw [sv_len, sv_len, List.length_map, List.length_map]; omega : _ ≤ 100) (by decide), fun N1 hN1 => ?_⟩
    have e9 := Ex.new (o := .lst (sv (pr.ins.map Inp.nm) ++ sv (pr.steps.map Stp.nm))) hN1
    have h9 : (upd H8 N1 (.lst (sv (pr.ins.map Inp.nm) ++ sv (pr.steps.map Stp.nm)))) N1 = some (.lst (sv pr.names)) := by
      rw [upd_same, ← sv_app]; rfl
    generalize (upd H8 N1 (.lst (sv (pr.ins.map Inp.nm) ++ sv (pr.steps.map Stp.nm)))) = H9 at *
    refine ⟨N1, _, rfl, .inl ⟨SqL.of h9, fun N hN => ?_⟩⟩
    have e10 := Ex.new (o := .tup (sv pr.names)) hN
    have h10 : (upd H9 N (.tup (sv pr.names))) N = some (.tup (sv pr.names)) := upd_same
    generalize (upd H9 N (.tup (sv pr.names))) = H10 at *
    have e610 := e7.trans (e8.trans (e9.trans e10))
    have hp10 := e610 _ _ hp6
    refine ⟨_, rfl, p, a.Program, dx, _, rfl, hp10, T.cl_Program, T.f_Program_names, lt1000 (ln (ln (ln (ln (ln (Nat.le_refl 0)))))), ?_⟩
    have kfin : Kp p H1 (upd H10 p (.ins a.Program dx (pfl pr.text g I S Tt N))) := (kp1.ex e610).set
    have nN : N ≠ p := ne_of h10 hp10 (by intro z; cases z)
    refine k _ ((Kp.refl.ex e1).trans kfin) ⟨dx, g, I, S, Tt, N, upd_same, hparts.kp hp1 kfin, ?_⟩
    rw [upd_ne nN]
    exact h10
end
end My


set_option Elab.async false
set_option maxRecDepth 100000
set_option maxHeartbeats 2000000
set_option exponentiation.threshold 6000
namespace My
open PySem L2 Evl TL
def OwnAt (H : Hp) (d : Addr) (pr : Prg) : Prop := ∃ t Li Ls Lt qi qs, H d = some (.dK [(Sum.inr "grid", .ref t), (Sum.inr "inputs", .ref Li), (Sum.inr "steps", .ref Ls), (Sum.inr "told", .ref Lt)]) ∧ H t = some (.tup [.int pr.b, .int pr.f, .int pr.r, .int pr.pl]) ∧
  H Li = some (.lst (rv qi)) ∧ Each InpAt H qi pr.ins ∧ H Ls = some (.lst (rv qs)) ∧ Each StepAt H qs pr.steps ∧ H Lt = some (.lst (sv pr.told))
theorem OwnAt.ex {H H' : Hp} {d : Addr} {pr : Prg} (h : OwnAt H d pr) (e : Ex H H') : OwnAt H' d pr := by
  obtain ⟨t, Li, Ls, Lt, qi, qs, h1, h2, h3, h4, h5, h6, h7⟩ := h
  exact ⟨t, Li, Ls, Lt, qi, qs, e _ _ h1, e _ _ h2, e _ _ h3, h4.ex (fun h e => h.ex e) e, e _ _ h5, h6.ex (fun h e => h.ex e) e, e _ _ h7⟩
def sp_grid_text : Sp := fun vs H Q _ => ∃ (t : Addr) (b f r pl : Nat), vs = [.ref t] ∧ H t = some (.tup [.int b, .int f, .int r, .int pl]) ∧ (b ≤ 60 ∧ f ≤ 60 ∧ r ≤ 60 ∧ pl ≤ 60) ∧ ∀ H', Ex H H' → Q (.str (lineW (gridWords b f r pl))) H'
def sp_line : Sp := fun vs H Q _ => ∃ (q : Addr) (s : Stp) (b f r : Nat) (names : List Str), vs = [.ref q] ∧ StepAt H q s ∧ StpOk b f r names s ∧ (∀ x ∈ names, x ∈ NM) ∧ b ≤ 10 ∧ f + r ≤ 100 ∧ ∀ H', Ex H H' → Q (.str (stLine s)) H'
def sp_text : Sp := fun vs H Q _ => ∃ (d : Addr) (pr : Prg), vs = [.ref d] ∧ OwnAt H d pr ∧ PrgOk pr ∧ ∀ H', Ex H H' → Q (.str pr.text) H'
theorem sum_le {ws : List Str} {m : Nat} (h : ∀ w ∈ ws, w.length ≤ m) : (ws.map (·.length)).sum ≤ m * ws.length := by
  induction ws with
  | nil => exact Nat.zero_le _
  | cons w ws ih =>
    have h1 := h w List.mem_cons_self
    have h2 := ih fun x hx => h x (List.mem_cons_of_mem _ hx)
    rw [List.map_cons, List.sum_cons, List.length_cons, Nat.mul_add, Nat.mul_one]
    omega
theorem join_sz {ws : List Str} {m n : Nat} (h : ∀ w ∈ ws, w.length ≤ m) (hn : ws.length ≤ n) (hz : (m + 1) * n ≤ 16777216) {y : Str} (hy : y.length = 1) : (ws.map (·.length)).sum + ws.length * y.length ≤ 16777216 := by
  have h1 := sum_le h
  have h2 : (m + 1) * ws.length ≤ (m + 1) * n := Nat.mul_le_mul_left _ hn
  rw [Nat.add_mul, Nat.one_mul] at h2
  rw [hy]
  omega
theorem line_is (ws : List Str) : Txt.join (" " : Str) ws = lineW ws := join_eq _ _
theorem text_is (ws : List Str) : Txt.join ("\n" : Str) ws = textW ws := join_eq _ _
theorem line_cons (x w : Str) (ws : List Str) : x ++ (" " : Str) ++ lineW (w :: ws) = lineW (x :: w :: ws) := rfl
theorem way_ne {y : Wy} (h : y ≠ .near) : decide (V.str y.str = V.str ("near" : Str)) = false := by
  cases y <;> first | exact absurd rfl h | decide +kernel
theorem lgn {i : Int} {k : Nat} (h : i.natAbs < 2 ^ k) (h0 : 0 < k) (hk : k ≤ 1920) : i.natAbs.log2 < 1920 := Nat.lt_of_lt_of_le (PySem.Flt.log2_lt_of h0 h) hk
section
variable {P : Program} {w : World} {K : PySem.W.Frag} {mg : Str → Option Value} {base : Heap} {a : Ad}
theorem ok_l_grid_text (T : Txt K mg a) : FnOk P w K mg base CX0 1 a.l_grid_text a.l_grid_text_fd ["grid"] sp_grid_text := by
  refine T.F_l_grid_text.ok sc_l_grid_text (fun vs H Q E h => ?_) (fun cdv A outer s H vs Q E hr h => ?_)
  · obtain ⟨t, b, f, r, pl, rfl, _⟩ := h
    rfl
  · obtain ⟨t, b, f, r, pl, rfl, ht, hv, k⟩ := h
    refine ⟨_, (pss_one (ps_ret (pe_op op_add_str pe_str (pe_join pe_str (pe_lc (own := [("number", 1)]) (g := gName 1) (by rfl) sc_l_grid_text.nd (pi_tup (pv 0)) (blkOk_by (own := [("number", 1)]) (N := N_l_grid_text) (sc := defScope s_l_grid_text) (by decide +kernel)) (fun _ _ _ _ _ => pg_name (i := 1) sc_l_grid_text.nd rfl (Or.inl rfl)) (fun _ _ _ _ _ => pts_nil) (fun _ _ _ _ _ => (pe_callTy call_str_int (by rfl) T.n_str (by decide +kernel) (pa_cons (pe_callTy call_int1 (by rfl) T.n_int (by decide +kernel) (pa_cons (pv 1) pa_nil)) pa_nil)))))))), ?_⟩
    have sl : ∀ n : Nat, n ≤ 60 → (numW (n : Int)).length ≤ 120 := fun n hn => by
      have := numW_len (n := (n : Int)) (k := 101) (by decide) (by rw [Int.natAbs_natCast]; exact Nat.lt_of_le_of_lt hn (by decide +kernel))
      omega
    have hsh : ∀ w ∈ [numW (b : Int), numW (f : Int), numW (r : Int), numW (pl : Int)], w.length ≤ 120 := by
      intro w hw
      rcases List.mem_cons.mp hw with rfl | hw
      · exact sl _ hv.1
      rcases List.mem_cons.mp hw with rfl | hw
      · exact sl _ hv.2.1
      rcases List.mem_cons.mp hw with rfl | hw
      · exact sl _ hv.2.2.1
      · rw [List.mem_singleton.mp hw]; exact sl _ hv.2.2.2
    refine ⟨⟨_, rfl⟩, _, rfl, t, rfl, ⟨_, SqT.of ht⟩, fun D hD => ?_⟩
    refine lc_tup (K := K) (a := t) (xs := [.int b, .int f, .int r, .int pl]) (fun j H' => Ex H H' ∧ H' D = some (.lst (sv ([numW (b : Int), numW (f : Int), numW (r : Int), numW (pl : Int)].take j)))) ⟨Ex.new hD, upd_same⟩ (fun j H' _ z => SqT.of (z.1 _ _ ht)) ?_ ?_
    · rintro j v H1 hv1 ⟨e1, h1⟩
      obtain ⟨n, rfl, hn, hn6⟩ : ∃ n : Nat, v = .int (n : Int) ∧ [numW (b : Int), numW (f : Int), numW (r : Int), numW (pl : Int)][j]? = some (numW (n : Int)) ∧ n ≤ 60 := by
        obtain ⟨w1, w2, w3, w4⟩ := hv
        match j, hv1 with
        | 0, hv => cases hv; exact ⟨_, rfl, rfl, w1⟩
        | 1, hv => cases hv; exact ⟨_, rfl, rfl, w2⟩
        | 2, hv => cases hv; exact ⟨_, rfl, rfl, w3⟩
        | 3, hv => cases hv; exact ⟨_, rfl, rfl, w4⟩
      refine ⟨rfl, ?_⟩
      dsimp only [tYes]
      refine iteT ?_
      refine ⟨_, rfl, .inl ⟨_, rfl, _, rfl, lgn (k := 64) (by rw [Int.natAbs_natCast]; exact Nat.lt_of_le_of_lt hn6 (by decide +kernel)) (by decide) (by decide), ?_⟩⟩
      refine ⟨_, h1, small1000 (by rw [sv_len, List.length_take]; simp; omega), Ex.mut e1 hD, ?_⟩
      rw [upd_same, List.take_add_one, hn, sv_app]
      rfl
    · rintro H1 ⟨e1, h1⟩
      have h1 : H1 D = some (.lst (sv [numW (b : Int), numW (f : Int), numW (r : Int), numW (pl : Int)])) := h1
      refine ⟨_, D, _, rfl, rfl, .inl (SqL.of h1), join_sz hsh (n := 4) (by show 4 ≤ 4; decide) (by decide) rfl, ?_⟩
      rw [line_is]
      have := line_short hsh (by show 4 ≤ 9; decide)
      refine ⟨_, _, rfl, rfl, Nat.le_trans (Nat.add_le_add_left this _) (by decide +kernel), ?_⟩
      have e : (("grid " : Str) ++ lineW [numW (b : Int), numW (f : Int), numW (r : Int), numW (pl : Int)]) = lineW (gridWords b f r pl) := by
        have h0 : ("grid " : Str) = ("grid" : Str) ++ (" " : Str) := by decide +kernel
        rw [h0]
        exact line_cons _ _ _
      rw [e]
      exact k H1 e1
end
end My


set_option Elab.async false
set_option maxRecDepth 100000
set_option maxHeartbeats 2000000
set_option exponentiation.threshold 6000
namespace My
open PySem L2 Evl TL
theorem big_lg {b f r : Nat} (hb : b ≤ 10) (hl : f + r ≤ 100) {n : Int} (h : n.natAbs ≤ (b ^ f - 1) * b ^ r) : n.natAbs.log2 < 1920 := by
  have h1 : (b ^ f - 1) * b ^ r ≤ b ^ f * b ^ r := Nat.mul_le_mul_right _ (Nat.sub_le _ _)
  rw [← Nat.pow_add] at h1
  have h2 : b ^ (f + r) ≤ 10 ^ (f + r) := Nat.pow_le_pow_left hb _
  have h3 : 10 ^ (f + r) ≤ 10 ^ 100 := Nat.pow_le_pow_right (by decide) hl
  have h4 : 10 ^ 100 < 2 ^ 400 := by decide +kernel
  exact lgn (k := 400) (by omega) (by decide) (by decide)
theorem sv_two {xs ys : List Str} (h : xs.length + ys.length ≤ 1000) : (sv xs).length + (sv ys).length ≤ sizeLine := by
  rw [sv_len, sv_len]
  exact Nat.le_of_lt (small1000 h)
section
variable {P : Program} {w : World} {K : PySem.W.Frag} {mg : Str → Option Value} {base : Heap} {a : Ad}
theorem ok_l_program_line (T : Txt K mg a) : FnOk P w K mg base CX0 4 a.l_program_line a.l_program_line_fd ["step"] sp_line := by
  refine T.F_l_program_line.ok sc_l_program_line (fun vs H Q E h => ?_) (fun cdv A outer s H vs Q E hr h => ?_)
  · obtain ⟨q, s, b, f, r, names, rfl, _⟩ := h
    rfl
  · obtain ⟨q, s, b, f, r, names, rfl, hs, hok, hn, hb, hl, k⟩ := h
    refine ⟨_, (pss_cut (ps_asg (pv 0) (pg_tup rfl (pgs_cons (pg_name (i := 1) sc_l_program_line.nd rfl (Or.inl rfl)) (pgs_cons (pg_name (i := 2) sc_l_program_line.nd rfl (Or.inl rfl)) (pgs_cons (pg_name (i := 3) sc_l_program_line.nd rfl (Or.inl rfl)) (pgs_cons (pg_name (i := 4) sc_l_program_line.nd rfl (Or.inl rfl)) (pgs_cons (pg_name (i := 5) sc_l_program_line.nd rfl (Or.inl rfl)) pgs_nil)))))))
      (pss_cut (ps_setLc (i := 6) (own := [("one", 8)]) (g := gName 8) (by rfl) sc_l_program_line.nd rfl rfl (sw_true rfl rfl rfl (by decide +kernel)) (pi_tup (pv 3)) (blkOk_by (own := [("one", 8)]) (N := N_l_program_line) (sc := defScope s_l_program_line) (by decide +kernel)) (fun _ _ _ _ _ => pg_name (i := 8) sc_l_program_line.nd rfl (Or.inl rfl)) (fun _ _ _ _ _ => pts_nil) (fun _ _ _ _ _ => (pe_ifExp (pt_val (pe_callB (id := "isinstance") (r := rIsi K) call_isi (by rfl) T.n_isinstance (by decide +kernel) (pa_cons (pv 8) (pa_cons (pe_bltn (v := .ty "str") (u := .type "str") rfl T.n_str (by decide +kernel) rfl) pa_nil)))) (pv 8) (pe_callTy call_str_int (by rfl) T.n_str (by decide +kernel) (pa_cons (pe_callTy call_int1 (by rfl) T.n_int (by decide +kernel) (pa_cons (pv 8) pa_nil)) pa_nil)))))
      (pss_cons (ps_if (pt_cmpR op_in_seq (pv 2) (pe_tup (pa_cons pe_str (pa_cons pe_str (pa_cons pe_str pa_nil)))) (by rfl)) (pss_one (ps_ret (pe_join pe_str (pe_op op_cat (pe_lst (pa_cons (pv 1) (pa_cons pe_str (pa_cons (pv 2) pa_nil)))) (pv 6))))) pss_nil)
      (pss_cut (ps_set (i := 7) sc_l_program_line.nd rfl (Or.inl rfl) (pe_op op_cat (pe_ifExp (pt_cmpR op_gt (pv 4) pe_int (nomark _)) (pe_lst (pa_cons pe_str (pa_cons (pe_callTy call_str_int (by rfl) T.n_str (by decide +kernel) (pa_cons (pe_callTy call_int1 (by rfl) T.n_int (by decide +kernel) (pa_cons (pv 4) pa_nil)) pa_nil)) pa_nil))) (pe_lst pa_nil)) (pe_ifExp (pt_cmpR op_ne (pv 5) pe_str (nomark _)) (pe_lst (pa_cons pe_str (pa_cons (pv 5) pa_nil))) (pe_lst pa_nil))))
      (pss_one (ps_ret (pe_join pe_str (pe_op op_cat (pe_lst (pa_cons (pv 1) (pa_cons pe_str (pa_cons (pe_ix ix_list (pv 6) pe_int (fun _ _ => rfl)) (pa_cons (pv 2) (pa_cons (pe_ix ix_list (pv 6) pe_int (fun _ _ => rfl)) pa_nil)))))) (pv 7))))))))), ?_⟩
    obtain ⟨o, hq, ho⟩ := id hs
    refine ⟨fun σ H' => H' = H ∧ σ = [some (.ref q), some (.str s.nm), some (.str s.sg.str), some (.ref o), some (.int (s.more : Int)), some (.str s.way.str), none, none, none], ?_, ?_⟩
    · refine ⟨_, rfl, q, _, rfl, SqT.of hq, rfl, _, _, rfl, _, _, rfl, _, _, rfl, _, _, rfl, _, _, rfl, rfl, ?_⟩
      exact ⟨rfl, rfl⟩
    rintro σ H1 ⟨rfl, rfl⟩
    have hw : ∀ x ∈ s.ops.map Opd.w, x.length ≤ 120 := fun x hx => by
      obtain ⟨y, hy, rfl⟩ := List.mem_map.mp hx
      exact op_short hb hl hn (hok.ops y hy)
    have h4 : s.ops.length ≤ 4 := by rw [hok.len]; cases s.sg <;> decide
    refine ⟨fun σ H' => ∃ D, Ex H1 H' ∧ H' D = some (.lst (sv (s.ops.map Opd.w))) ∧ σ = [some (.ref q), some (.str s.nm), some (.str s.sg.str), some (.ref o), some (.int (s.more : Int)), some (.str s.way.str), some (.ref D), none, none], ?_, ?_⟩
    · refine ⟨_, rfl, o, rfl, ⟨_, SqT.of ho⟩, fun D hD => ?_⟩
      refine lc_tup (K := K) (a := o) (xs := s.ops.map Opd.v) (fun j H' => Ex H1 H' ∧ H' D = some (.lst (sv ((s.ops.map Opd.w).take j)))) ⟨Ex.new hD, upd_same⟩ (fun j H' _ z => SqT.of (z.1 _ _ ho)) ?_ ?_
      · rintro j v H3 hv ⟨e3, h3⟩
        rw [List.getElem?_map] at hv
        cases ej : s.ops[j]? with
        | none => rw [ej] at hv; cases hv
        | some op =>
          rw [ej] at hv
          cases hv
          have hop : op ∈ s.ops := List.mem_of_getElem? ej
          have ew : (s.ops.map Opd.w).take (j + 1) = (s.ops.map Opd.w).take j ++ [op.w] := by rw [List.take_add_one, List.getElem?_map, ej]; rfl
          refine ⟨rfl, ?_⟩
          dsimp only [tYes]
          refine iteT ?_
          have done : ∃ x, H3 D = some (.lst x) ∧ x.length < sizeLine ∧ (Ex H1 (upd H3 D (.lst (x ++ [.str op.w]))) ∧ (upd H3 D (.lst (x ++ [.str op.w]))) D = some (.lst (sv ((s.ops.map Opd.w).take (j + 1))))) := by
            refine ⟨_, h3, small1000 (by rw [sv_len, List.length_take, List.length_map]; omega), Ex.mut e3 hD, ?_⟩
            rw [upd_same, ew, sv_app]
            rfl
          cases op with
          | nm x =>
            refine ⟨_, rfl, _, _, _, _, true, rfl, .ty _, .base (.str _), kit_ty (by decide +kernel), true, rfl, iteT ?_⟩
            exact ⟨_, rfl, done⟩
          | nb n =>
            refine ⟨_, rfl, _, _, _, _, false, rfl, .ty _, .base (.int _), kit_ty (by decide +kernel), false, rfl, iteF ?_⟩
            have hno := (hok.ops _ hop).1
            refine ⟨_, rfl, .inl ⟨_, rfl, _, rfl, big_lg hb hl hno, done⟩⟩
      · rintro H3 ⟨e3, h3⟩
        refine ⟨D, e3, ?_, rfl⟩
        rw [h3, List.take_of_length_le (by simp)]
    rintro σ H2 ⟨D, e2, hD, rfl⟩
    have en : Txt.join (" " : Str) s.words = stLine s := line_is _
    have hsz : ∀ x ∈ s.words, x.length ≤ 120 := stp_short hb hl hn hok
    have hwl := (stp_words_len hok).2
    cases eR : s.sg.isR with
    | false =>
      have eW : s.words = [s.nm, ("=" : Str), s.sg.str] ++ s.ops.map Opd.w := by
        unfold Stp.words
        rw [eR]
        rfl
      refine ⟨_, rfl, by show 3 ≤ sizeLine; decide, fun t ht => ?_⟩
      have x1 := Ex.new (o := .tup [V.str "least", V.str "most", V.str "choose"]) ht
      refine ⟨t, _, rfl, .inr (SqT.of upd_same), rfl, rfl, _, rfl, ?_⟩
      refine ite2 (fun _ => ?_) (fun h => absurd (show (if false = true then !inV (.str s.sg.str) (sv [("least" : Str), ("most" : Str), ("choose" : Str)]) else inV (.str s.sg.str) (sv [("least" : Str), ("most" : Str), ("choose" : Str)])) = true by rw [if_neg (by decide), inV_sv]; cases hs : s.sg <;> first | decide +kernel | (rw [hs] at eR; cases eR)) h)
      have hD1 := x1 _ _ hD
      generalize (upd H2 t (.tup [V.str "least", V.str "most", V.str "choose"])) = H3 at *
      refine ⟨⟨_, rfl⟩, _, rfl, _, rfl, by show 3 ≤ sizeLine; decide, fun l hl' => ?_⟩
      have hl1 : (upd H3 l (.lst [V.str s.nm, .str "=", .str s.sg.str])) l = some (.lst (sv [s.nm, ("=" : Str), s.sg.str])) := upd_same
      have x2 := Ex.new (o := .lst [V.str s.nm, .str "=", .str s.sg.str]) hl'
      have hD2 := x2 _ _ hD1
      generalize (upd H3 l (.lst [V.str s.nm, .str "=", .str s.sg.str])) = H4 at *
      refine ⟨_, rfl, l, D, _, _, rfl, rfl, hl1, hD2, (show (sv [s.nm, ("=" : Str), s.sg.str]).length + (sv (s.ops.map Opd.w)).length ≤ sizeLine from sv_two (by rw [List.length_map]; simp; omega)), fun p hp => ?_⟩
      have hp1 : (upd H4 p (.lst (sv [s.nm, ("=" : Str), s.sg.str] ++ sv (s.ops.map Opd.w)))) p = some (.lst (sv s.words)) := by
        rw [upd_same, ← sv_app, eW]
      have x3 := Ex.new (o := .lst (sv [s.nm, ("=" : Str), s.sg.str] ++ sv (s.ops.map Opd.w))) hp
      generalize (upd H4 p (.lst (sv [s.nm, ("=" : Str), s.sg.str] ++ sv (s.ops.map Opd.w)))) = H5 at *
      refine ⟨_, p, _, rfl, rfl, .inl (SqL.of hp1), join_sz hsz hwl (by decide) rfl, ?_⟩
      rw [en]
      exact k H5 (e2.trans (x1.trans (x2.trans x3)))
    | true =>
      obtain ⟨ox, oy, eo⟩ : ∃ ox oy, s.ops = [ox, oy] := by
        have hl2 := hok.len
        have e2 : s.sg.ary = 2 := by cases hs : s.sg <;> first | rfl | (rw [hs] at eR; cases eR)
        rw [e2] at hl2
        match hh : s.ops, hl2 with
        | [x, y], _ => exact ⟨x, y, rfl⟩
      have eW : s.words = [s.nm, ("=" : Str), ox.w, s.sg.str, oy.w] ++ keepW s.more s.way := by
        unfold Stp.words
        rw [eR, eo]
        rfl
      refine ⟨_, rfl, by show 3 ≤ sizeLine; decide, fun t ht => ?_⟩
      have x1 := Ex.new (o := .tup [V.str "least", V.str "most", V.str "choose"]) ht
      refine ⟨t, _, rfl, .inr (SqT.of upd_same), rfl, rfl, _, rfl, ?_⟩
      refine ite2 (fun h => absurd (show (if false = true then !inV (.str s.sg.str) (sv [("least" : Str), ("most" : Str), ("choose" : Str)]) else inV (.str s.sg.str) (sv [("least" : Str), ("most" : Str), ("choose" : Str)])) = true from h) (by rw [if_neg (by decide), inV_sv]; cases hs : s.sg <;> first | decide +kernel | (rw [hs] at eR; cases eR))) (fun _ => ?_)
      have hD1 := x1 _ _ hD
      generalize (upd H2 t (.tup [V.str "least", V.str "most", V.str "choose"])) = H3 at *
      refine ⟨fun σ H' => ∃ E2, Ex H3 H' ∧ H' E2 = some (.lst (sv (keepW s.more s.way))) ∧ σ = [some (.ref q), some (.str s.nm), some (.str s.sg.str), some (.ref o), some (.int (s.more : Int)), some (.str s.way.str), some (.ref D), some (.ref E2), none], ?_, ?_⟩
      · refine ⟨_, rfl, _, _, rfl, rfl, _, rfl, ?_⟩
        refine ite2 (fun h => ?_) (fun h => ?_)
        · have hm : 0 < s.more := by have := of_decide_eq_true h; omega
          refine ⟨_, rfl, .inl ⟨_, rfl, _, rfl, lgn (k := 64) (by have := hok.more; omega) (by decide) (by decide), by show 2 ≤ sizeLine; decide, fun l1 hl1 => ?_⟩⟩
          have f1 : (upd H3 l1 (.lst [V.str "keep", .str (Str.ofString (toString (s.more : Int)))])) l1 = some (.lst (sv [("keep" : Str), numW (s.more : Int)])) := upd_same
          have x3 := Ex.new (o := .lst [V.str "keep", .str (Str.ofString (toString (s.more : Int)))]) hl1
          generalize (upd H3 l1 (.lst [V.str "keep", .str (Str.ofString (toString (s.more : Int)))])) = H4 at *
          cases ey : s.way with
          | near => 
            refine ⟨_, rfl, rfl, _, rfl, ?_⟩
            refine ite2 (fun h => absurd h (by decide +kernel)) (fun _ => ?_)
            refine ⟨by show 0 ≤ sizeLine; decide, fun l2 hl2 => ?_⟩
            have f2 : (upd H4 l2 (.lst [])) l2 = some (.lst (sv [])) := upd_same
            have x4 := Ex.new (o := .lst []) hl2
            have f1' := x4 _ _ f1
            generalize (upd H4 l2 (.lst [])) = H5 at *
            refine ⟨l1, l2, _, _, rfl, rfl, f1', f2, (show (sv [("keep" : Str), numW (s.more : Int)]).length + (sv []).length ≤ sizeLine from sv_two (by simp)), fun p hp => ?_⟩
            refine ⟨p, x3.trans (x4.trans (Ex.new hp)), ?_, by rw [← ey]; rfl⟩
            rw [upd_same, ← sv_app]
            unfold keepW
            rw [if_pos hm]
          | down => 
            refine ⟨_, rfl, rfl, _, rfl, ?_⟩
            refine ite2 (fun _ => ?_) (fun h => absurd (show (!decide (V.str _ = V.str _)) = true from (by decide +kernel)) h)
            refine ⟨_, rfl, by show 2 ≤ sizeLine; decide, fun l2 hl2 => ?_⟩
            have f2 : (upd H4 l2 (.lst [V.str "way", .str Wy.down.str])) l2 = some (.lst (sv [("way" : Str), waS .down])) := upd_same
            have x4 := Ex.new (o := .lst [V.str "way", .str Wy.down.str]) hl2
            have f1' := x4 _ _ f1
            generalize (upd H4 l2 (.lst [V.str "way", .str Wy.down.str])) = H5 at *
            refine ⟨l1, l2, _, _, rfl, rfl, f1', f2, (show (sv [("keep" : Str), numW (s.more : Int)]).length + (sv [("way" : Str), waS .down]).length ≤ sizeLine from sv_two (by simp)), fun p hp => ?_⟩
            refine ⟨p, x3.trans (x4.trans (Ex.new hp)), ?_, by rw [← ey]; rfl⟩
            rw [upd_same, ← sv_app]
            unfold keepW
            rw [if_pos hm]
          | up => 
            refine ⟨_, rfl, rfl, _, rfl, ?_⟩
            refine ite2 (fun _ => ?_) (fun h => absurd (show (!decide (V.str _ = V.str _)) = true from (by decide +kernel)) h)
            refine ⟨_, rfl, by show 2 ≤ sizeLine; decide, fun l2 hl2 => ?_⟩
            have f2 : (upd H4 l2 (.lst [V.str "way", .str Wy.up.str])) l2 = some (.lst (sv [("way" : Str), waS .up])) := upd_same
            have x4 := Ex.new (o := .lst [V.str "way", .str Wy.up.str]) hl2
            have f1' := x4 _ _ f1
            generalize (upd H4 l2 (.lst [V.str "way", .str Wy.up.str])) = H5 at *
            refine ⟨l1, l2, _, _, rfl, rfl, f1', f2, (show (sv [("keep" : Str), numW (s.more : Int)]).length + (sv [("way" : Str), waS .up]).length ≤ sizeLine from sv_two (by simp)), fun p hp => ?_⟩
            refine ⟨p, x3.trans (x4.trans (Ex.new hp)), ?_, by rw [← ey]; rfl⟩
            rw [upd_same, ← sv_app]
            unfold keepW
            rw [if_pos hm]
          | zero => 
            refine ⟨_, rfl, rfl, _, rfl, ?_⟩
            refine ite2 (fun _ => ?_) (fun h => absurd (show (!decide (V.str _ = V.str _)) = true from (by decide +kernel)) h)
            refine ⟨_, rfl, by show 2 ≤ sizeLine; decide, fun l2 hl2 => ?_⟩
            have f2 : (upd H4 l2 (.lst [V.str "way", .str Wy.zero.str])) l2 = some (.lst (sv [("way" : Str), waS .zero])) := upd_same
            have x4 := Ex.new (o := .lst [V.str "way", .str Wy.zero.str]) hl2
            have f1' := x4 _ _ f1
            generalize (upd H4 l2 (.lst [V.str "way", .str Wy.zero.str])) = H5 at *
            refine ⟨l1, l2, _, _, rfl, rfl, f1', f2, (show (sv [("keep" : Str), numW (s.more : Int)]).length + (sv [("way" : Str), waS .zero]).length ≤ sizeLine from sv_two (by simp)), fun p hp => ?_⟩
            refine ⟨p, x3.trans (x4.trans (Ex.new hp)), ?_, by rw [← ey]; rfl⟩
            rw [upd_same, ← sv_app]
            unfold keepW
            rw [if_pos hm]
        · have hm : ¬ 0 < s.more := fun z => h (decide_eq_true (by omega))
          refine ⟨by show 0 ≤ sizeLine; decide, fun l1 hl1 => ?_⟩
          have f1 : (upd H3 l1 (.lst [])) l1 = some (.lst (sv [])) := upd_same
          have x3 := Ex.new (o := .lst []) hl1
          generalize (upd H3 l1 (.lst [])) = H4 at *
          cases ey : s.way with
          | near => 
            refine ⟨_, rfl, rfl, _, rfl, ?_⟩
            refine ite2 (fun h => absurd h (by decide +kernel)) (fun _ => ?_)
            refine ⟨by show 0 ≤ sizeLine; decide, fun l2 hl2 => ?_⟩
            have f2 : (upd H4 l2 (.lst [])) l2 = some (.lst (sv [])) := upd_same
            have x4 := Ex.new (o := .lst []) hl2
            have f1' := x4 _ _ f1
            generalize (upd H4 l2 (.lst [])) = H5 at *
            refine ⟨l1, l2, _, _, rfl, rfl, f1', f2, (show (sv []).length + (sv []).length ≤ sizeLine from sv_two (by simp)), fun p hp => ?_⟩
            refine ⟨p, x3.trans (x4.trans (Ex.new hp)), ?_, by rw [← ey]; rfl⟩
            rw [upd_same, ← sv_app]
            unfold keepW
            rw [if_neg hm]
          | down => 
            refine ⟨_, rfl, rfl, _, rfl, ?_⟩
            refine ite2 (fun _ => ?_) (fun h => absurd (show (!decide (V.str _ = V.str _)) = true from (by decide +kernel)) h)
            refine ⟨_, rfl, by show 2 ≤ sizeLine; decide, fun l2 hl2 => ?_⟩
            have f2 : (upd H4 l2 (.lst [V.str "way", .str Wy.down.str])) l2 = some (.lst (sv [("way" : Str), waS .down])) := upd_same
            have x4 := Ex.new (o := .lst [V.str "way", .str Wy.down.str]) hl2
            have f1' := x4 _ _ f1
            generalize (upd H4 l2 (.lst [V.str "way", .str Wy.down.str])) = H5 at *
            refine ⟨l1, l2, _, _, rfl, rfl, f1', f2, (show (sv []).length + (sv [("way" : Str), waS .down]).length ≤ sizeLine from sv_two (by simp)), fun p hp => ?_⟩
            refine ⟨p, x3.trans (x4.trans (Ex.new hp)), ?_, by rw [← ey]; rfl⟩
            rw [upd_same, ← sv_app]
            unfold keepW
            rw [if_neg hm]
          | up => 
            refine ⟨_, rfl, rfl, _, rfl, ?_⟩
            refine ite2 (fun _ => ?_) (fun h => absurd (show (!decide (V.str _ = V.str _)) = true from (by decide +kernel)) h)
            refine ⟨_, rfl, by show 2 ≤ sizeLine; decide, fun l2 hl2 => ?_⟩
            have f2 : (upd H4 l2 (.lst [V.str "way", .str Wy.up.str])) l2 = some (.lst (sv [("way" : Str), waS .up])) := upd_same
            have x4 := Ex.new (o := .lst [V.str "way", .str Wy.up.str]) hl2
            have f1' := x4 _ _ f1
            generalize (upd H4 l2 (.lst [V.str "way", .str Wy.up.str])) = H5 at *
            refine ⟨l1, l2, _, _, rfl, rfl, f1', f2, (show (sv []).length + (sv [("way" : Str), waS .up]).length ≤ sizeLine from sv_two (by simp)), fun p hp => ?_⟩
            refine ⟨p, x3.trans (x4.trans (Ex.new hp)), ?_, by rw [← ey]; rfl⟩
            rw [upd_same, ← sv_app]
            unfold keepW
            rw [if_neg hm]
          | zero => 
            refine ⟨_, rfl, rfl, _, rfl, ?_⟩
            refine ite2 (fun _ => ?_) (fun h => absurd (show (!decide (V.str _ = V.str _)) = true from (by decide +kernel)) h)
            refine ⟨_, rfl, by show 2 ≤ sizeLine; decide, fun l2 hl2 => ?_⟩
            have f2 : (upd H4 l2 (.lst [V.str "way", .str Wy.zero.str])) l2 = some (.lst (sv [("way" : Str), waS .zero])) := upd_same
            have x4 := Ex.new (o := .lst [V.str "way", .str Wy.zero.str]) hl2
            have f1' := x4 _ _ f1
            generalize (upd H4 l2 (.lst [V.str "way", .str Wy.zero.str])) = H5 at *
            refine ⟨l1, l2, _, _, rfl, rfl, f1', f2, (show (sv []).length + (sv [("way" : Str), waS .zero]).length ≤ sizeLine from sv_two (by simp)), fun p hp => ?_⟩
            refine ⟨p, x3.trans (x4.trans (Ex.new hp)), ?_, by rw [← ey]; rfl⟩
            rw [upd_same, ← sv_app]
            unfold keepW
            rw [if_neg hm]
      rintro σ H4 ⟨E2, e4, h4, rfl⟩
      have g0 : (sv (s.ops.map Opd.w))[0]? = some (.str ox.w) := by rw [eo]; rfl
      have g1 : (sv (s.ops.map Opd.w))[1]? = some (.str oy.w) := by rw [eo]; rfl
      have hD4 := e4 _ _ hD1
      refine ⟨⟨_, rfl⟩, _, rfl, _, rfl, D, _, _, _, rfl, rfl, SqL.of hD4, atN g0, _, rfl, _, rfl, D, _, _, _, rfl, rfl, SqL.of hD4, atN g1, by show 5 ≤ sizeLine; decide, fun l hl' => ?_⟩
      have hl1 : (upd H4 l (.lst [V.str s.nm, .str "=", .str ox.w, .str s.sg.str, .str oy.w])) l = some (.lst (sv [s.nm, ("=" : Str), ox.w, s.sg.str, oy.w])) := upd_same
      have x2 := Ex.new (o := .lst [V.str s.nm, .str "=", .str ox.w, .str s.sg.str, .str oy.w]) hl'
      have hE2 := x2 _ _ h4
      generalize (upd H4 l (.lst [V.str s.nm, .str "=", .str ox.w, .str s.sg.str, .str oy.w])) = H5 at *
      refine ⟨_, rfl, l, E2, _, _, rfl, rfl, hl1, hE2, (show (sv [s.nm, ("=" : Str), ox.w, s.sg.str, oy.w]).length + (sv (keepW s.more s.way)).length ≤ sizeLine from sv_two (by have := keep_len s.more s.way; simp; omega)), fun p hp => ?_⟩
      have hp1 : (upd H5 p (.lst (sv [s.nm, ("=" : Str), ox.w, s.sg.str, oy.w] ++ sv (keepW s.more s.way)))) p = some (.lst (sv s.words)) := by
        rw [upd_same, ← sv_app, eW]
      have x3 := Ex.new (o := .lst (sv [s.nm, ("=" : Str), ox.w, s.sg.str, oy.w] ++ sv (keepW s.more s.way))) hp
      generalize (upd H5 p (.lst (sv [s.nm, ("=" : Str), ox.w, s.sg.str, oy.w] ++ sv (keepW s.more s.way)))) = H6 at *
      refine ⟨_, p, _, rfl, rfl, .inl (SqL.of hp1), join_sz hsz hwl (by decide) rfl, ?_⟩
      rw [en]
      exact k H6 (e2.trans (x1.trans (e4.trans (x2.trans x3))))
end
end My


set_option Elab.async false
set_option maxRecDepth 100000
set_option maxHeartbeats 2000000
set_option exponentiation.threshold 6000
namespace My
open PySem L2 Evl TL
theorem dget {H : Hp} {a : Addr} {kvs : List (Key × V)} {x : Str} {v : V} (e : H a = some (.dK kvs)) (h : valV kvs (.inr x) = some v) : DGet H a (.str x) (some v) := by
  have := DGet.k (k := .inr x) e
  rw [h] at this
  exact this
theorem inp_words_short {b f r : Nat} (hb : b ≤ 10) (hl : f + r ≤ 100) {names : List Str} {i : Inp} (h : InpOk b f r names i) : ∀ w ∈ i.words, w.length ≤ 120 := by
  have hnm := nm_facts i.nm (List.mem_append_left _ h.inn)
  intro w hw
  rcases List.mem_cons.mp hw with rfl | hw
  · decide +kernel
  rcases List.mem_cons.mp hw with rfl | hw
  · exact Nat.le_trans hnm.2.2.2.1 (by decide)
  rcases List.mem_cons.mp hw with rfl | hw
  · exact num_short hb hl h.lo.1
  · rw [List.mem_singleton.mp hw]; exact num_short hb hl h.hi.1
theorem OwnAt.gets {H : Hp} {d : Addr} {pr : Prg} (h : OwnAt H d pr) : ∃ t Li Ls Lt qi qs, DGet H d (.str "grid") (some (.ref t)) ∧ DGet H d (.str "inputs") (some (.ref Li)) ∧ DGet H d (.str "steps") (some (.ref Ls)) ∧ DGet H d (.str "told") (some (.ref Lt)) ∧
    H t = some (.tup [.int pr.b, .int pr.f, .int pr.r, .int pr.pl]) ∧ H Li = some (.lst (rv qi)) ∧ Each InpAt H qi pr.ins ∧ H Ls = some (.lst (rv qs)) ∧ Each StepAt H qs pr.steps ∧ H Lt = some (.lst (sv pr.told)) := by
  obtain ⟨t, Li, Ls, Lt, qi, qs, h1, h2, h3, h4, h5, h6, h7⟩ := h
  exact ⟨t, Li, Ls, Lt, qi, qs, dget h1 rfl, dget h1 rfl, dget h1 rfl, dget h1 rfl, h2, h3, h4, h5, h6, h7⟩
section
variable {P : Program} {w : World} {K : PySem.W.Frag} {mg : Str → Option Value} {base : Heap} {a : Ad}
theorem ok_l_program_text (T : Txt K mg a) : FnOk P w K mg base CX0 5 a.l_program_text a.l_program_text_fd ["own"] sp_text := by
  refine T.F_l_program_text.ok sc_l_program_text (fun vs H Q E h => ?_) (fun cdv A outer s H vs Q E hr h => ?_)
  · obtain ⟨d, pr, rfl, _⟩ := h
    rfl
  · obtain ⟨d, pr, rfl, hd, hok, k⟩ := h
    refine ⟨_, (pss_cut (ps_set (i := 1) sc_l_program_text.nd rfl (Or.inl rfl) (pe_lst (pa_cons (pe_call (ok_l_grid_text T) (hr.mono (by decide)) rfl T.g_l_grid_text T.k_l_grid_text T.B_l_grid_text .nil pass0 (pa_cons (pe_dget (hu_of hr) (pv 0) pe_str (fun _ _ => rfl)) pa_nil)) pa_nil)))
      (pss_cut (ps_expr (pe_bm PySem.F.plainAttrs_list PySem.F.slot_list_extend PySem.F.type_list_extend mt_extend (pv 1) (pa_cons (pe_lc (own := [("row", 2)]) (g := gName 2) (by rfl) sc_l_program_text.nd (pi_list (pe_dget (hu_of hr) (pv 0) pe_str (fun _ _ => rfl))) (blkOk_by (own := [("row", 2)]) (N := N_l_program_text) (sc := defScope s_l_program_text) (by decide +kernel)) (fun _ _ _ _ _ => pg_name (i := 2) sc_l_program_text.nd rfl (Or.inl rfl)) (fun _ _ _ _ _ => pts_nil) (fun _ _ _ _ _ => (pe_joinK (K := K) (by rfl) pe_str (pe_lst (pa_cons pe_str (pa_cons (pe_ix (r := rIxT K) ix_tup (pv 2) pe_int (fun _ _ => rfl)) (pa_cons (pe_callTy call_str_int (by rfl) T.n_str (by decide +kernel) (pa_cons (pe_callTy call_int1 (by rfl) T.n_int (by decide +kernel) (pa_cons (pe_ix (r := rIxT K) ix_tup (pv 2) pe_int (fun _ _ => rfl)) pa_nil)) pa_nil)) (pa_cons (pe_callTy call_str_int (by rfl) T.n_str (by decide +kernel) (pa_cons (pe_callTy call_int1 (by rfl) T.n_int (by decide +kernel) (pa_cons (pe_ix (r := rIxT K) ix_tup (pv 2) pe_int (fun _ _ => rfl)) pa_nil)) pa_nil)) pa_nil)))))))) pa_nil)))
      (pss_cut (ps_expr (pe_bm PySem.F.plainAttrs_list PySem.F.slot_list_extend PySem.F.type_list_extend mt_extend (pv 1) (pa_cons (pe_lc (own := [("step", 3)]) (g := gName 3) (by rfl) sc_l_program_text.nd (pi_list (pe_dget (hu_of hr) (pv 0) pe_str (fun _ _ => rfl))) (blkOk_by (own := [("step", 3)]) (N := N_l_program_text) (sc := defScope s_l_program_text) (by decide +kernel)) (fun _ _ _ _ _ => pg_name (i := 3) sc_l_program_text.nd rfl (Or.inl rfl)) (fun _ _ _ _ _ => pts_nil) (fun _ _ _ _ _ => (pe_call (ok_l_program_line T) (hr.mono (by decide)) rfl T.g_l_program_line T.k_l_program_line T.B_l_program_line .nil pass0 (pa_cons (pv 3) pa_nil)))) pa_nil)))
      (pss_one (ps_ret (pe_join pe_str (pe_op op_cat (pv 1) (pe_lst (pa_cons (pe_join pe_str (pe_op op_cat (pe_lst (pa_cons pe_str pa_nil)) (pe_callTy call_list_of (by rfl) T.n_list (by decide +kernel) (pa_cons (pe_dget (hu_of hr) (pv 0) pe_str (fun _ _ => rfl)) pa_nil)))) pa_nil))))))))), ?_⟩
    obtain ⟨t, Li, Ls, Lt, qi, qs, hdk, ht, hLi, hqi, hLs, hqs, hLt⟩ := id hd
    obtain ⟨v1, v2, v3, v4, v5, v6⟩ := hok.g
    have i3 := hok.i3
    have s20 := hok.s20
    have hln := hok.lines
    refine ⟨fun σ H' => ∃ L, Ex H H' ∧ H L = none ∧ H' L = some (.lst (sv [lineW (gridWords pr.b pr.f pr.r pr.pl)])) ∧ σ = [some (.ref d), some (.ref L), none, none], ?_, ?_⟩
    · refine ⟨_, rfl, d, .ref t, rfl, dget hdk rfl, ?_⟩
      refine ⟨t, pr.b, pr.f, pr.r, pr.pl, rfl, ht, by omega, fun H1 e1 => ?_⟩
      refine ⟨by show 1 ≤ sizeLine; decide, fun L hL => ?_⟩
      have hn : H L = none := by
        cases h' : H L with
        | none => rfl
        | some o => rw [e1 _ _ h'] at hL; cases hL
      exact ⟨L, e1.trans (Ex.new hL), hn, upd_same, rfl⟩
    rintro σ H1 ⟨L, e1, hLn, hL, rfl⟩
    have hsi : ∀ x ∈ pr.ins.map inLine, x.length ≤ 2000 := fun x hx => hln.2.1 x (List.mem_cons_of_mem _ (List.mem_append_left _ hx))
    refine ⟨fun σ H' => Ex H H' ∧ H' L = some (.lst (sv (lineW (gridWords pr.b pr.f pr.r pr.pl) :: pr.ins.map inLine))) ∧ σ = [some (.ref d), some (.ref L), none, none], ?_, ?_⟩
    · refine ⟨_, rfl, .inl ⟨rfl, _, SqL.of hL⟩, _, rfl, d, .ref Li, rfl, dget (e1 _ _ hdk) rfl, Li, rfl, ⟨_, SqL.of (e1 _ _ hLi)⟩, fun D hD => ?_⟩
      refine lc_list (K := K) (a := Li) (xs := rv qi) (fun j H' => Ex H1 H' ∧ H' D = some (.lst (sv ((pr.ins.map inLine).take j)))) ⟨Ex.new hD, upd_same⟩ (fun j H' _ z => SqL.of (z.1 _ _ (e1 _ _ hLi))) ?_ ?_
      · rintro j v H2 hv ⟨e2, h2⟩
        obtain ⟨q, hq, rfl⟩ := rv_get hv
        have hj : j < pr.ins.length := by rw [← hqi.1]; exact (List.getElem?_eq_some_iff.mp hq).1
        obtain ⟨x, hx⟩ : ∃ x, pr.ins[j]? = some x := ⟨_, List.getElem?_eq_getElem hj⟩
        have hat : H2 q = some (.tup [.str x.nm, .int x.lo, .int x.hi]) := (e1.trans e2) _ _ (hqi.2 j q x hq hx)
        have hxo := InpsOk.at hok.ins hx
        have ew : (pr.ins.map inLine).take (j + 1) = (pr.ins.map inLine).take j ++ [inLine x] := by rw [List.take_add_one, List.getElem?_map, hx]; rfl
        refine ⟨rfl, ?_⟩
        dsimp only [tYes]
        refine iteT ?_
        have b1 := big_lg v2 (by omega : pr.f + pr.r ≤ 100) hxo.lo.1
        have b2 := big_lg v2 (by omega : pr.f + pr.r ≤ 100) hxo.hi.1
        refine ⟨⟨_, rfl⟩, _, rfl, q, _, _, _, rfl, rfl, SqT.of hat, atN (m := 0) rfl, _, rfl, q, _, _, _, rfl, rfl, SqT.of hat, atN (m := 1) rfl, .inl ⟨_, rfl, _, rfl, b1, _, rfl, q, _, _, _, rfl, rfl, SqT.of hat, atN (m := 2) rfl, .inl ⟨_, rfl, _, rfl, b2, by show 4 ≤ sizeLine; decide, fun l hl => ?_⟩⟩⟩
        have f1 : (upd H2 l (.lst [V.str "input", .str x.nm, .str (Str.ofString (toString x.lo)), .str (Str.ofString (toString x.hi))])) l = some (.lst (sv x.words)) := upd_same
        have x3 := Ex.new (o := .lst [V.str "input", .str x.nm, .str (Str.ofString (toString x.lo)), .str (Str.ofString (toString x.hi))]) hl
        have h3 := x3 _ _ h2
        generalize (upd H2 l (.lst [V.str "input", .str x.nm, .str (Str.ofString (toString x.lo)), .str (Str.ofString (toString x.hi))])) = H3 at *
        refine ⟨_, l, _, rfl, rfl, .inl (SqL.of f1), join_sz (inp_words_short v2 (by omega) hxo) (show x.words.length ≤ 4 from Nat.le_refl 4) (by decide) rfl, ?_⟩
        rw [line_is]
        refine ⟨_, h3, small1000 (by rw [sv_len, List.length_take, List.length_map]; omega), Ex.mut (e2.trans x3) hD, ?_⟩
        rw [upd_same]
        show some (HO.lst (sv ((pr.ins.map inLine).take j) ++ sv [inLine x])) = _
        rw [ew, sv_app]
      · rintro H2 ⟨e2, h2⟩
        rw [List.take_of_length_le (by rw [rv_len, List.length_map, hqi.1]; exact Nat.le_refl _)] at h2
        refine ⟨L, D, _, _, rfl, rfl, e2 _ _ hL, h2, sv_two (by rw [List.length_map]; simp; omega), ?_⟩
        refine ⟨Ex.mut (e1.trans e2) hLn, ?_, rfl⟩
        rw [upd_same, ← sv_app]
        rfl
    rintro σ H2 ⟨e2, hL2, rfl⟩
    refine ⟨fun σ H' => Ex H H' ∧ H' L = some (.lst (sv (lineW (gridWords pr.b pr.f pr.r pr.pl) :: (pr.ins.map inLine ++ pr.steps.map stLine)))) ∧ σ = [some (.ref d), some (.ref L), none, none], ?_, ?_⟩
    · refine ⟨_, rfl, .inl ⟨rfl, _, SqL.of hL2⟩, _, rfl, d, .ref Ls, rfl, dget (e2 _ _ hdk) rfl, Ls, rfl, ⟨_, SqL.of (e2 _ _ hLs)⟩, fun D hD => ?_⟩
      refine lc_list (K := K) (a := Ls) (xs := rv qs) (fun j H' => Ex H2 H' ∧ H' D = some (.lst (sv ((pr.steps.map stLine).take j)))) ⟨Ex.new hD, upd_same⟩ (fun j H' _ z => SqL.of (z.1 _ _ (e2 _ _ hLs))) ?_ ?_
      · rintro j v H3 hv ⟨e3, h3⟩
        obtain ⟨q, hq, rfl⟩ := rv_get hv
        have hj : j < pr.steps.length := by rw [← hqs.1]; exact (List.getElem?_eq_some_iff.mp hq).1
        obtain ⟨x, hx⟩ : ∃ x, pr.steps[j]? = some x := ⟨_, List.getElem?_eq_getElem hj⟩
        have hat : StepAt H3 q x := (hqs.2 j q x hq hx).ex (e2.trans e3)
        have hxo := StpsOk.at hok.sts hx
        have ew : (pr.steps.map stLine).take (j + 1) = (pr.steps.map stLine).take j ++ [stLine x] := by rw [List.take_add_one, List.getElem?_map, hx]; rfl
        refine ⟨rfl, ?_⟩
        dsimp only [tYes]
        refine iteT ?_
        refine ⟨_, rfl, q, x, pr.b, pr.f, pr.r, _, rfl, hat, hxo, ?_, v2, by omega, fun H4 e4 => ?_⟩
        · intro y hy
          rcases List.mem_append.mp hy with hy | hy
          · exact hok.inms y hy
          · obtain ⟨z, hz, rfl⟩ := List.mem_map.mp hy
            exact hok.sts.nms z (List.mem_of_mem_take hz)
        refine ⟨_, e4 _ _ h3, small1000 (by rw [sv_len, List.length_take, List.length_map]; omega), Ex.mut (e3.trans e4) hD, ?_⟩
        rw [upd_same, ew, sv_app]
        rfl
      · rintro H3 ⟨e3, h3⟩
        rw [List.take_of_length_le (by rw [rv_len, List.length_map, hqs.1]; exact Nat.le_refl _)] at h3
        refine ⟨L, D, _, _, rfl, rfl, e3 _ _ hL2, h3, sv_two (by simp; omega), ?_⟩
        refine ⟨Ex.mut (e2.trans e3) hLn, ?_, rfl⟩
        rw [upd_same, ← sv_app]
        rfl
    rintro σ H3 ⟨e3, hL3, rfl⟩
    have hLt3 := e3 _ _ hLt
    refine ⟨⟨_, rfl⟩, _, rfl, ⟨_, rfl⟩, by show 1 ≤ sizeLine; decide, fun l1 hl1 => ?_⟩
    have f1 : (upd H3 l1 (.lst [V.str "tell"])) l1 = some (.lst (sv [("tell" : Str)])) := upd_same
    have x4 := Ex.new (o := .lst [V.str "tell"]) hl1
    have hdk4 := x4 _ _ (e3 _ _ hdk)
    have hLt4 := x4 _ _ hLt3
    have hL4 := x4 _ _ hL3
    have e4 := e3.trans x4
    generalize (upd H3 l1 (.lst [V.str "tell"])) = H4 at *
    refine ⟨_, rfl, d, .ref Lt, rfl, dget hdk4 rfl, Lt, _, rfl, .inl (SqL.of hLt4), fun l2 hl2 => ?_⟩
    have f2 : (upd H4 l2 (.lst (sv pr.told))) l2 = some (.lst (sv pr.told)) := upd_same
    have x5 := Ex.new (o := .lst (sv pr.told)) hl2
    have f1' := x5 _ _ f1
    have hL5 := x5 _ _ hL4
    have e5 := e4.trans x5
    generalize (upd H4 l2 (.lst (sv pr.told))) = H5 at *
    have t4 := hok.t4
    refine ⟨l1, l2, _, _, rfl, rfl, f1', f2, sv_two (by simp; omega), fun l3 hl3 => ?_⟩
    have f3 : (upd H5 l3 (.lst (sv [("tell" : Str)] ++ sv pr.told))) l3 = some (.lst (sv (tellWords pr.told))) := by rw [upd_same, ← sv_app]; rfl
    have x6 := Ex.new (o := .lst (sv [("tell" : Str)] ++ sv pr.told)) hl3
    have hL6 := x6 _ _ hL5
    have e6 := e5.trans x6
    generalize (upd H5 l3 (.lst (sv [("tell" : Str)] ++ sv pr.told))) = H6 at *
    have hts : ∀ x ∈ tellWords pr.told, x.length ≤ 2000 := fun x hx => by
      rcases List.mem_cons.mp hx with rfl | hx
      · decide +kernel
      · exact Nat.le_trans (nm_facts x (hok.nms x (hok.told x hx))).2.2.2.1 (by decide)
    refine ⟨_, l3, _, rfl, rfl, .inl (SqL.of f3), join_sz hts (show (tellWords pr.told).length ≤ 5 from Nat.succ_le_succ t4) (by decide) rfl, ?_⟩
    rw [line_is]
    refine ⟨by show 1 ≤ sizeLine; decide, fun l4 hl4 => ?_⟩
    have f4 : (upd H6 l4 (.lst [V.str (lineW (tellWords pr.told))])) l4 = some (.lst (sv [pr.tellL])) := upd_same
    have x7 := Ex.new (o := .lst [V.str (lineW (tellWords pr.told))]) hl4
    have hL7 := x7 _ _ hL6
    have e7 := e6.trans x7
    generalize (upd H6 l4 (.lst [V.str (lineW (tellWords pr.told))])) = H7 at *
    refine ⟨L, l4, _, _, rfl, rfl, hL7, f4, sv_two (by simp; omega), fun l5 hl5 => ?_⟩
    have f5 : (upd H7 l5 (.lst (sv (lineW (gridWords pr.b pr.f pr.r pr.pl) :: (pr.ins.map inLine ++ pr.steps.map stLine)) ++ sv [pr.tellL]))) l5 = some (.lst (sv pr.lines)) := by
      rw [upd_same, ← sv_app]
      show some (HO.lst (sv (_ :: ((pr.ins.map inLine ++ pr.steps.map stLine) ++ [pr.tellL])))) = _
      rw [List.append_assoc]
      rfl
    have x8 := Ex.new (o := .lst (sv (lineW (gridWords pr.b pr.f pr.r pr.pl) :: (pr.ins.map inLine ++ pr.steps.map stLine)) ++ sv [pr.tellL])) hl5
    refine ⟨_, l5, _, rfl, rfl, .inl (SqL.of f5), join_sz hln.2.1 (show pr.lines.length ≤ 25 by rw [hln.2.2]; omega) (by decide) rfl, ?_⟩
    rw [text_is]
    exact k _ (e7.trans x8)
end
end My


set_option Elab.async false
set_option maxRecDepth 100000
set_option maxHeartbeats 2000000
set_option exponentiation.threshold 6000
namespace My
open PySem L2 Evl TL
/-- a fraction stands at q -/
def FrAt (H : Hp) (q : Addr) (x : Fr) : Prop := H q = some (.tup [.int x.1, .int ((x.2 : Nat) : Int)])
theorem FrAt.ex {H H' : Hp} {q : Addr} {x : Fr} (h : FrAt H q x) (e : Ex H H') : FrAt H' q x := e _ _ h
theorem p2400 {n k : Nat} (h : n < 2 ^ k) (hk : k ≤ 2400 := by decide) : n < 2 ^ 2400 := Nat.lt_of_lt_of_le h (Nat.pow_le_pow_right (by decide) hk)
theorem Bd.w1 {x : Fr} (h : Bd 1721 x) : x.1.natAbs < 2 ^ 5000 := p5000 h.t
theorem Bd.w2 {x : Fr} (h : Bd 1721 x) : ((x.2 : Nat) : Int).natAbs < 2 ^ 5000 := by rw [Int.natAbs_natCast]; exact p5000 h.d
theorem mulQ {i j : Int} (hi : i.natAbs < 2 ^ 1721) (hj : j.natAbs < 2 ^ 1721) : (i * j).natAbs < 2 ^ 5000 := by
  rw [Int.natAbs_mul]
  exact p5000 (mul_lt hi hj) (by decide)
theorem Bd.n2 {x : Fr} (h : Bd 1721 x) : ((x.2 : Nat) : Int).natAbs < 2 ^ 1721 := by rw [Int.natAbs_natCast]; exact h.d
theorem p4000 {n k : Nat} (h : n < 2 ^ k) (hk : k ≤ 2400 := by decide) : n < 2 ^ 2400 := p2400 h hk
def sp_less : Sp := fun vs H Q _ => ∃ (p q : Addr) (x y : Fr), vs = [.ref p, .ref q] ∧ FrAt H p x ∧ FrAt H q y ∧ Bd 1721 x ∧ Bd 1721 y ∧ ∀ H', Ex H H' → Q (.bl (lessQ x y)) H'
def sp_lesser : Sp := fun vs H Q _ => ∃ (p q : Addr) (x y : Fr), vs = [.ref p, .ref q] ∧ FrAt H p x ∧ FrAt H q y ∧ Bd 1721 x ∧ Bd 1721 y ∧ ∀ z H', Ex H H' → FrAt H' z (if lessQ y x = true then y else x) → Q (.ref z) H'
def sp_greater : Sp := fun vs H Q _ => ∃ (p q : Addr) (x y : Fr), vs = [.ref p, .ref q] ∧ FrAt H p x ∧ FrAt H q y ∧ Bd 1721 x ∧ Bd 1721 y ∧ ∀ z H', Ex H H' → FrAt H' z (if lessQ x y = true then y else x) → Q (.ref z) H'
def sp_outcome : Sp := fun vs H Q _ => ∃ (g : Sg) (p q : Addr) (x y : Fr) (u : Nat), vs = [.str g.str, .ref p, .ref q, .int (u : Int)] ∧ g.isR = true ∧ FrAt H p x ∧ FrAt H q y ∧ Bd 1721 x ∧ Bd 1721 y ∧ 1 ≤ u ∧ u < 2 ^ 7 ∧
  (outQ g x y u = none → ∀ H', Ex H H' → Q .non H') ∧ (∀ td, outQ g x y u = some td → ∀ z H', Ex H H' → FrAt H' z td → Q (.ref z) H')
def sp_chosen : Sp := fun vs H Q _ => ∃ (g : Sg) (L : Addr) (qs : List Addr) (xs : List Fr), vs = [.str g.str, .ref L] ∧ g.isR = false ∧ H L = some (.lst (rv qs)) ∧ Each FrAt H qs xs ∧ (∀ n ∈ xs, Bd 1721 n) ∧ xs.length = g.ary ∧
  ∀ z H', Ex H H' → FrAt H' z (pickQ g xs) → Q (.ref z) H'
def sp_exactly (K : PySem.W.Frag) : Sp := fun vs H Q _ => ∃ (g : Sg) (t p q : Addr) (x y : Fr) (b f r pl : Nat), vs = [.ref t, .str g.str, .ref p, .ref q] ∧ TG K H t b f r pl ∧ (2 ≤ b ∧ b ≤ 10 ∧ pl ≤ 30) ∧ b ^ pl < 2 ^ 7 ∧ g.isR = true ∧ FrAt H p x ∧ FrAt H q y ∧ Bd 1150 x ∧ Bd 1150 y ∧
  (outQ g x y (b ^ pl) = none → ∀ H', Ex H H' → Q .non H') ∧ (∀ td, outQ g x y (b ^ pl) = some td → ∀ z H', Ex H H' → FrAt H' z (redQ td) → Q (.ref z) H')
theorem two_of {α : Type} {xs : List α} (h : xs.length = 2) : ∃ x y, xs = [x, y] := by
  match xs, h with
  | [x, y], _ => exact ⟨x, y, rfl⟩
theorem four_of {α : Type} {xs : List α} (h : xs.length = 4) : ∃ x y z u, xs = [x, y, z, u] := by
  match xs, h with
  | [x, y, z, u], _ => exact ⟨x, y, z, u, rfl⟩
section
variable {P : Program} {w : World} {K : PySem.W.Frag} {mg : Str → Option Value} {base : Heap} {a : Ad}
end
end My


set_option Elab.async false
set_option maxRecDepth 100000
set_option maxHeartbeats 2000000
set_option exponentiation.threshold 6000
namespace My
open PySem L2 Evl TL
/-- the dict of what is known -/
def kd (ts : List (Str × Fr × Addr)) : List (Key × V) := ts.map fun t => (Sum.inr t.1, V.ref t.2.2)
def kn (ts : List (Str × Fr × Addr)) : List (Str × Fr) := ts.map fun t => (t.1, t.2.1)
def KnAt (H : Hp) (d : Addr) (l : List (Str × Fr)) : Prop := ∃ ts, H d = some (.dK (kd ts)) ∧ kn ts = l ∧ ∀ t ∈ ts, FrAt H t.2.2 t.2.1
theorem KnAt.ex {H H' : Hp} {d : Addr} {l : List (Str × Fr)} (h : KnAt H d l) (e : Ex H H') : KnAt H' d l := by
  obtain ⟨ts, h1, h2, h3⟩ := h
  exact ⟨ts, e _ _ h1, h2, fun t ht => (h3 t ht).ex e⟩
theorem kd_get : ∀ {ts : List (Str × Fr × Addr)} {x : Str}, x ∈ (kn ts).map (·.1) → ∃ t ∈ ts, valV (kd ts) (Sum.inr x) = some (.ref t.2.2) ∧ t.2.1 = lookQ (kn ts) x
  | [], x, h => by cases h
  | t :: ts, x, h => by
    by_cases e : t.1 = x
    · refine ⟨t, List.mem_cons_self, ?_, ?_⟩
      · exact valV_pos (by show Sum.inr t.1 = Sum.inr x; rw [e])
      · show _ = (if t.1 = x then t.2.1 else _)
        rw [if_pos e]
    · have h' : x ∈ (kn ts).map (·.1) := by
        rcases List.mem_cons.mp h with h | h
        · exact absurd h.symm e
        · exact h
      obtain ⟨t', m, h1, h2⟩ := kd_get h'
      refine ⟨t', List.mem_cons_of_mem _ m, ?_, ?_⟩
      · show valV ((Sum.inr t.1, V.ref t.2.2) :: kd ts) _ = _
        rw [valV_neg (by show ¬ Sum.inr t.1 = Sum.inr x; intro z; exact e (Sum.inr.inj z))]
        exact h1
      · show _ = (if t.1 = x then t.2.1 else _)
        rw [if_neg e]
        exact h2
theorem KnAt.get {H : Hp} {d : Addr} {l : List (Str × Fr)} (h : KnAt H d l) {x : Str} (hx : x ∈ l.map (·.1)) : ∃ q, DGet H d (.str x) (some (.ref q)) ∧ FrAt H q (lookQ l x) := by
  obtain ⟨ts, h1, rfl, h3⟩ := h
  obtain ⟨t, m, e1, e2⟩ := kd_get hx
  exact ⟨t.2.2, dget h1 e1, by rw [← e2]; exact h3 t m⟩
theorem kd_put {ts : List (Str × Fr × Addr)} {x : Str} {q : Addr} {n : Fr} (hx : x ∉ (kn ts).map (·.1)) : putK (kd ts) (Sum.inr x) (.ref q) = kd (ts ++ [(x, n, q)]) := by
  unfold putK
  rw [if_neg]
  · unfold kd
    rw [List.map_append]
    rfl
  · intro h
    obtain ⟨p, hp, e⟩ := List.any_eq_true.mp h
    obtain ⟨t, ht, rfl⟩ := List.mem_map.mp hp
    have e := of_decide_eq_true e
    refine hx ?_
    rw [← Sum.inr.inj e]
    exact List.mem_map.mpr ⟨(t.1, t.2.1), List.mem_map.mpr ⟨t, ht, rfl⟩, rfl⟩
/-- a new one behind what is known -/
theorem KnAt.put {H : Hp} {d : Addr} {l : List (Str × Fr)} (h : KnAt H d l) {x : Str} (hx : x ∉ l.map (·.1)) {q : Addr} {n : Fr} (hq : FrAt H q n) (hl : l.length < 1000) :
    ∃ H', DPut H d (.str x) (.ref q) H' ∧ KnAt H' d (l ++ [(x, n)]) ∧ ∀ H0, H0 d = none → Ex H0 H → Ex H0 H' := by
  obtain ⟨ts, h1, rfl, h3⟩ := h
  have hqd : ∀ {t : Addr} {m : Fr}, FrAt H t m → t ≠ d := fun ht z => by
    unfold FrAt at ht
    rw [z, h1] at ht
    cases ht
  refine ⟨upd H d (.dK (putK (kd ts) (Sum.inr x) (.ref q))), .inl ⟨kd ts, Sum.inr x, h1, rfl, small1000 (by unfold kd; rw [List.length_map]; unfold kn at hl; rw [List.length_map] at hl; exact Nat.le_of_lt hl), rfl⟩, ?_, fun H0 h0 e => Ex.mut e h0⟩
  rw [kd_put (n := n) hx]
  refine ⟨ts ++ [(x, n, q)], upd_same, by unfold kn; rw [List.map_append]; rfl, fun t ht => ?_⟩
  rcases List.mem_append.mp ht with ht | ht
  · unfold FrAt
    rw [upd_ne (hqd (h3 t ht))]
    exact h3 t ht
  · rw [List.mem_singleton.mp ht]
    unfold FrAt
    rw [upd_ne (hqd hq)]
    exact hq
/-- an operand is known -/
def OpIn (l : List (Str × Fr)) : Opd → Prop
  | .nm s => s ∈ l.map (·.1)
  | .nb n => n.natAbs < 2 ^ 20
def sp_worth_of : Sp := fun vs H Q _ => ∃ (d : Addr) (l : List (Str × Fr)) (o : Opd), vs = [.ref d, o.v] ∧ KnAt H d l ∧ OpIn l o ∧ ∀ z H', Ex H H' → FrAt H' z (opQ l o) → Q (.ref z) H'
def sp_step_rounded (a : Ad) : Sp := fun vs H Q _ => ∃ (g q z : Addr) (b f r L G : Nat) (s : Stp) (td : Fr), vs = [.ref g, .ref q, .ref z] ∧ GridAt a H g b f r L G ∧ StepAt H q s ∧ s.more ≤ 3 ∧ FrAt H z td ∧ 1 ≤ td.2 ∧ td.2 < 2 ^ 2400 ∧ td.1.natAbs < 2 ^ 2400 ∧
  (fitQ b f r s.way s.more td = .over → ∀ H', Ex H H' → Q .non H') ∧ (∀ n, fitQ b f r s.way s.more td = .val n → ∀ u H', Ex H H' → FrAt H' u n → Q (.ref u) H')
section
variable {P : Program} {w : World} {K : PySem.W.Frag} {mg : Str → Option Value} {base : Heap} {a : Ad}
end
end My


set_option Elab.async false
set_option maxRecDepth 100000
set_option maxHeartbeats 2000000
set_option exponentiation.threshold 6000
namespace My
open PySem L2 Evl TL
theorem gfl_unit {b f r p u G : Int} {lim tops : Addr} : (gfl b f r p u lim tops G).lookup ("unit" : Str) = some (.int u) := by
  unfold gfl
  repeat (first | rw [lookup_putF, if_pos (by decide +kernel)] | rw [lookup_putF, if_neg (by decide +kernel)])
/-- sizes within which all stays -/
structure SzQ (p : Prg) : Prop where
  g20 : (p.b ^ p.f - 1) * p.b ^ p.r < 2 ^ 20
  g47 : (p.b ^ (p.f + 3) - 1) * p.b ^ p.r < 2 ^ 47
  u : p.b ^ p.pl < 2 ^ 7
theorem SzQ.more {p : Prg} (h : SzQ p) (hb : 2 ≤ p.b) {m : Nat} (hm : m ≤ 3) : (p.b ^ (p.f + m) - 1) * p.b ^ p.r < 2 ^ 47 := by
  refine Nat.lt_of_le_of_lt (Nat.mul_le_mul_right _ ?_) h.g47
  have := Nat.pow_le_pow_right (n := p.b) (by omega) (show p.f + m ≤ p.f + 3 by omega)
  omega
theorem SzQ.on {p : Prg} (h : SzQ p) {n : Int} (hn : n.natAbs ≤ (p.b ^ p.f - 1) * p.b ^ p.r) : n.natAbs < 2 ^ 20 := Nat.lt_of_le_of_lt hn h.g20
theorem flat_sv (xs : List Str) : (sv xs).all flatV = true := List.all_eq_true.mpr fun v hv => by
  obtain ⟨x, _, rfl⟩ := List.mem_map.mp hv
  rfl
/-- so many steps that are not rounded -/
def Cap (p : Prg) (free : List Str) : Prop := cnt p.steps ≤ 6 ∨ free = []
def kn0 (p : Prg) (xs : List Int) : List (Str × Fr) := List.zipWith (fun (i : Inp) x => (i.nm, ((x, 1) : Fr))) p.ins xs
theorem zw_fst : ∀ {ins : List Inp} {xs : List Int}, xs.length = ins.length → (List.zipWith (fun (i : Inp) x => (i.nm, ((x, 1) : Fr))) ins xs).map (·.1) = ins.map Inp.nm
  | [], [], _ => rfl
  | i :: is, x :: xs, h => by
    show i.nm :: (List.zipWith (fun (i : Inp) x => (i.nm, ((x, 1) : Fr))) is xs).map (·.1) = i.nm :: is.map Inp.nm
    rw [zw_fst (Nat.succ.inj h)]
  | [], _ :: _, h => by cases h
  | _ :: _, [], h => by cases h
theorem kn0_fst {p : Prg} {xs : List Int} (h : xs.length = p.ins.length) : (kn0 p xs).map (·.1) = p.ins.map Inp.nm := zw_fst h
theorem kn0_len {p : Prg} {xs : List Int} (h : xs.length = p.ins.length) : (kn0 p xs).length = p.ins.length := by
  unfold kn0; rw [List.length_zipWith, h, Nat.min_self]
theorem kn0_take {p : Prg} {xs : List Int} {i : Nat} {x : Inp} {n : Int} (hx : p.ins[i]? = some x) (hn : xs[i]? = some n) : (kn0 p xs).take (i + 1) = (kn0 p xs).take i ++ [(x.nm, ((n, 1) : Fr))] := by
  rw [List.take_add_one]
  congr 1
  unfold kn0
  rw [List.getElem?_zipWith, hx, hn]
  rfl
theorem kn0_bd {p : Prg} {xs : List Int} (h : ∀ x ∈ xs, x.natAbs < 2 ^ 20) (free : List Str) (c : Nat) : ∀ q ∈ kn0 p xs, Bd (bt free c) q.2 := by
  intro q hq
  unfold kn0 at hq
  obtain ⟨i, hi⟩ := List.getElem?_of_mem hq
  rw [List.getElem?_zipWith] at hi
  cases h1 : p.ins[i]? with
  | none => rw [h1] at hi; cases hi
  | some a =>
    cases h2 : xs[i]? with
    | none => rw [h1, h2] at hi; cases hi
    | some b =>
      rw [h1, h2] at hi
      cases hi
      exact (bd_int (h b (List.mem_of_getElem? h2)) (by decide)).le (bt_20 free c)
def Prg.walk (p : Prg) (free : List Str) (xs : List Int) : List (Str × Fr) × EndR := walkQ p.b p.f p.r p.pl free (kn0 p xs) p.steps
theorem bt_le5 {free : List Str} {c : Nat} (h : c ≤ 5 ∨ free = []) : bt free c ≤ 857 := by
  rcases h with h | h
  · unfold bt
    split
    · decide
    · exact Nat.le_trans (bits_mono h) (by decide)
  · rw [h]; show 47 ≤ 857; decide
theorem cap_at {p : Prg} {free : List Str} (h : Cap p free) (j : Nat) : bt free (cnt (p.steps.take j)) ≤ 1721 := bt_le (by
  rcases h with h | h
  · exact .inl (Nat.le_trans (cnt_take _ _) h)
  · exact .inr h)
theorem cnt_next {p : Prg} {j : Nat} {st : Stp} (h : p.steps[j]? = some st) : cnt (p.steps.take (j + 1)) = cnt (p.steps.take j) + cnt [st] := by
  rw [List.take_add_one, h, cnt_app]
  rfl
theorem cap_r {p : Prg} {free : List Str} (h : Cap p free) {j : Nat} {st : Stp} (hst : p.steps[j]? = some st) (hR : st.sg.isR = true) : bt free (cnt (p.steps.take j)) ≤ 857 := bt_le5 (by
  rcases h with h | h
  · have h1 := cnt_take p.steps (j + 1)
    rw [cnt_next hst, cnt_one, if_pos hR] at h1
    exact .inl (by omega)
  · exact .inr h)
def EndAt (H : Hp) (v : V) : EndR → Prop
  | .told => v = .non
  | .nought x => ∃ q, v = .ref q ∧ H q = some (.tup [.str "nought", .str x])
  | .over x => ∃ q, v = .ref q ∧ H q = some (.tup [.str "over", .str x])
theorem EndAt.ex {H H' : Hp} {v : V} {e : EndR} (h : EndAt H v e) (x : Ex H H') : EndAt H' v e := by
  cases e with
  | told => exact h
  | nought y => obtain ⟨q, h1, h2⟩ := h; exact ⟨q, h1, x _ _ h2⟩
  | over y => obtain ⟨q, h1, h2⟩ := h; exact ⟨q, h1, x _ _ h2⟩
def sp_walked (a : Ad) : Sp := fun vs H Q _ => ∃ (p t e : Addr) (pr : Prg) (xs : List Int) (free : List Str), vs = [.ref p, .ref t, .ref e] ∧ ProgAt a H p pr ∧ PrgOk pr ∧ SzQ pr ∧ Cap pr free ∧ H t = some (.tup (iv xs)) ∧ xs.length = pr.ins.length ∧ (∀ x ∈ xs, x.natAbs < 2 ^ 20) ∧ H e = some (.tup (sv free)) ∧
  ∀ (u d : Addr) (v : V) H', Ex H H' → KnAt H' d (pr.walk free xs).1 → EndAt H' v (pr.walk free xs).2 → H' u = some (.tup [.ref d, v]) → Q (.ref u) H'
section
variable {P : Program} {w : World} {K : PySem.W.Frag} {mg : Str → Option Value} {base : Heap} {a : Ad}
end
end My


set_option Elab.async false
set_option maxRecDepth 100000
set_option maxHeartbeats 2000000
set_option exponentiation.threshold 6000
namespace My
open PySem L2 Evl TL PyProof.Rows LiI
/-- a pair: a name, a worth -/
def PairAt (H : Hp) (q : Addr) (t : Str × Fr × Addr) : Prop := H q = some (.tup [.str t.1, .ref t.2.2]) ∧ FrAt H t.2.2 t.2.1
theorem PairAt.ex {H H' : Hp} {q : Addr} {t : Str × Fr × Addr} (h : PairAt H q t) (e : Ex H H') : PairAt H' q t := ⟨e _ _ h.1, e _ _ h.2⟩
def ItemsAt (H : Hp) (L : Addr) (l : List (Str × Fr)) : Prop := ∃ ps ts, H L = some (.lst (rv ps)) ∧ kn ts = l ∧ Each PairAt H ps ts
theorem ItemsAt.ex {H H' : Hp} {L : Addr} {l : List (Str × Fr)} (h : ItemsAt H L l) (e : Ex H H') : ItemsAt H' L l := by
  obtain ⟨ps, ts, h1, h2, h3⟩ := h
  exact ⟨ps, ts, e _ _ h1, h2, h3.ex (fun h e => h.ex e) e⟩
theorem paired_each {α β : Type} {F : α → β → Prop} : ∀ {xs : List α} {ys : List β}, Paired F xs ys → xs.length = ys.length ∧ ∀ (i : Nat) (x : α) (y : β), xs[i]? = some x → ys[i]? = some y → F x y
  | _, _, .nil => ⟨rfl, fun i x y h => by cases h⟩
  | _, _, .cons h t => by
    obtain ⟨h1, h2⟩ := paired_each t
    refine ⟨congrArg (· + 1) h1, fun i x y hx hy => ?_⟩
    cases i with
    | zero => cases hx; cases hy; exact h
    | succ i => exact h2 i x y hx hy
theorem each_paired {α β : Type} {F : α → β → Prop} : ∀ {xs : List α} {ys : List β}, xs.length = ys.length → (∀ (i : Nat) (x : α) (y : β), xs[i]? = some x → ys[i]? = some y → F x y) → Paired F xs ys
  | [], [], _, _ => .nil
  | x :: xs, y :: ys, h, f => .cons (f 0 x y rfl rfl) (each_paired (Nat.succ.inj h) fun i a b ha hb => f (i + 1) a b ha hb)
  | [], _ :: _, h, _ => by cases h
  | _ :: _, [], h, _ => by cases h
theorem kd_get? {ts : List (Str × Fr × Addr)} {i : Nat} {t : Str × Fr × Addr} (h : ts[i]? = some t) : (kd ts)[i]? = some (Sum.inr t.1, V.ref t.2.2) := by
  unfold kd; rw [List.getElem?_map, h]; rfl
theorem kd_get2 {ts : List (Str × Fr × Addr)} {i : Nat} {p : Key × V} (h : (kd ts)[i]? = some p) : ∃ t, ts[i]? = some t ∧ p = (Sum.inr t.1, V.ref t.2.2) := by
  unfold kd at h
  rw [List.getElem?_map] at h
  cases e : ts[i]? with
  | none => rw [e] at h; cases h
  | some t => rw [e] at h; exact ⟨t, rfl, (Option.some.inj h).symm⟩
theorem kd_len (ts : List (Str × Fr × Addr)) : (kd ts).length = ts.length := by unfold kd; rw [List.length_map]
theorem kd_merge : ∀ (rest done : List (Str × Fr × Addr)), ((kn (done ++ rest)).map (·.1)).Nodup → mergeK (kd done) (kd rest) = kd (done ++ rest)
  | [], done, _ => by rw [List.append_nil]; rfl
  | t :: rest, done, h => by
    have e : mergeK (kd done) (kd (t :: rest)) = mergeK (putK (kd done) (Sum.inr t.1) (.ref t.2.2)) (kd rest) := rfl
    have e2 : done ++ t :: rest = (done ++ [t]) ++ rest := by rw [List.append_assoc]; rfl
    have hx : t.1 ∉ (kn done).map (·.1) := by
      unfold kn at h
      rw [List.map_append, List.map_append, List.nodup_append] at h
      intro z
      exact h.2.2 _ z t.1 (by simp) rfl
    rw [e, kd_put (n := t.2.1) hx, show (t.1, t.2.1, t.2.2) = t from rfl, kd_merge rest (done ++ [t]) (by rw [← e2]; exact h), e2]
theorem ins_nodup {b f r : Nat} : ∀ {ins : List Inp} {names : List Str}, InpsOk b f r names ins → (ins.map Inp.nm).Nodup ∧ ∀ x ∈ ins.map Inp.nm, x ∉ names
  | [], names, _ => ⟨List.nodup_nil, fun x hx => by cases hx⟩
  | i :: is, names, h => by
    obtain ⟨h1, h2⟩ := ins_nodup h.2
    refine ⟨List.nodup_cons.mpr ⟨fun z => h2 _ z (List.mem_append_right _ (List.mem_singleton.mpr rfl)), h1⟩, fun x hx => ?_⟩
    rcases List.mem_cons.mp hx with rfl | hx
    · exact h.1.new
    · exact fun z => h2 x hx (List.mem_append_left _ z)
/-- how the law names an end -/
def EndNm (v1 v2 : V) : EndR → Prop
  | .told => v1 = .non ∧ v2 = .non
  | .nought x => v1 = .str "nought" ∧ v2 = .str x
  | .over x => v1 = .str "over" ∧ v2 = .str x
def sp_goneP : Sp := fun vs H Q _ => ∃ (d t lo : Addr) (pr : Prg) (xs : List Int) (free : List Str), vs = [.ref d, .ref t, .ref lo] ∧ OwnAt H d pr ∧ PrgOk pr ∧ SzQ pr ∧ Cap pr free ∧ H t = some (.tup (iv xs)) ∧ xs.length = pr.ins.length ∧ (∀ x ∈ xs, x.natAbs < 2 ^ 20) ∧ H lo = some (.lst (sv free)) ∧
  ∀ (u L : Addr) (w1 w2 : V) H', Ex H H' → ItemsAt H' L (pr.walk free xs).1 → EndNm w1 w2 (pr.walk free xs).2 → H' u = some (.tup [w1, w2, .ref L]) → Q (.ref u) H'
theorem items_of {H : Hp} {d : Addr} {l : List (Str × Fr)} (h : KnAt H d l) {Q : VK} (hQ : ∀ (H' : Hp) (p : Addr), Ex H H' → ItemsAt H' p l → Q (.ref p) H') : rItemsL (.ref d) H Q := by
  obtain ⟨ts, h1, rfl, h3⟩ := h
  refine ⟨d, kd ts, rfl, h1, fun H' p as e _ _ _ hp pr => ?_⟩
  obtain ⟨hl, hf⟩ := paired_each pr
  refine hQ H' p (fun b o => e b o) ⟨as, ts, hp, rfl, by rw [hl, kd_len], fun i q t hq ht => ⟨hf i q _ hq (kd_get? ht), e _ _ (h3 t (List.mem_of_getElem? ht))⟩⟩
section
variable {P : Program} {w : World} {K : PySem.W.Frag} {mg : Str → Option Value} {base : Heap} {a : Ad}
end
end My


set_option Elab.async false
set_option maxRecDepth 100000
set_option maxHeartbeats 2000000
set_option exponentiation.threshold 6000
namespace My
open PySem L2 Evl TL PyProof.Rows LiI
/-- inputs of a program -/
def InR (pr : Prg) (xs : List Int) : Prop := xs.length = pr.ins.length ∧ ∀ (i : Nat) (x : Int) (n : Inp), xs[i]? = some x → pr.ins[i]? = some n → OnG pr.b (pr.b ^ pr.f) ((pr.b ^ pr.f - 1) * pr.b ^ pr.r) x ∧ n.lo ≤ x ∧ x ≤ n.hi
theorem InR.sm {pr : Prg} {xs : List Int} (h : InR pr xs) (hs : SzQ pr) : ∀ x ∈ xs, x.natAbs < 2 ^ 20 := fun x hx => by
  obtain ⟨i, hi⟩ := List.getElem?_of_mem hx
  obtain ⟨n, hn⟩ : ∃ n, pr.ins[i]? = some n := ⟨_, List.getElem?_eq_getElem (by rw [← h.1]; exact (List.getElem?_eq_some_iff.mp hi).1)⟩
  exact hs.on (h.2 i x n hi hn).1.1
theorem Prg.walk_told {pr : Prg} {free : List Str} {xs : List Int} (hx : xs.length = pr.ins.length) (h : (pr.walk free xs).2 = .told) : (pr.walk free xs).1.map (·.1) = pr.names := by
  unfold Prg.walk at h ⊢
  rw [wq_names _ _ h, kn0_fst hx]
  rfl
theorem Prg.walk_len {pr : Prg} {free : List Str} (hok : PrgOk pr) {xs : List Int} (hx : xs.length = pr.ins.length) : (pr.walk free xs).1.length ≤ 23 := by
  have := wq_le (b := pr.b) (f := pr.f) (r := pr.r) (pl := pr.pl) (free := free) pr.steps (kn0 pr xs)
  rw [kn0_len hx] at this
  have := hok.i3
  have := hok.s20
  unfold Prg.walk
  omega
theorem Prg.walk_nd {pr : Prg} {free : List Str} (hok : PrgOk pr) {xs : List Int} (hx : xs.length = pr.ins.length) : ((pr.walk free xs).1.map (·.1)).Nodup := by
  unfold Prg.walk
  refine wq_nodup _ _ ?_ ?_
  · rw [kn0_fst hx]; exact hok.sts
  · rw [kn0_fst hx]; exact (ins_nodup hok.ins).1
/-- names of the rounded steps -/
def Prg.rnd (pr : Prg) : List Str := (pr.steps.filter fun s => s.sg.isR).map Stp.nm
theorem steps_nd {b f r : Nat} : ∀ {ss : List Stp} {names : List Str}, StpsOk b f r names ss → (ss.map Stp.nm).Nodup ∧ ∀ x ∈ ss.map Stp.nm, x ∉ names
  | [], names, _ => ⟨List.nodup_nil, fun x hx => by cases hx⟩
  | s :: ss, names, h => by
    obtain ⟨h1, h2⟩ := steps_nd h.2
    refine ⟨List.nodup_cons.mpr ⟨fun z => h2 _ z (List.mem_append_right _ (List.mem_singleton.mpr rfl)), h1⟩, fun x hx => ?_⟩
    rcases List.mem_cons.mp hx with rfl | hx
    · exact h.1.new
    · exact fun z => h2 x hx (List.mem_append_left _ z)
theorem Prg.rnd_nd {pr : Prg} (hok : PrgOk pr) : pr.rnd.Nodup := (steps_nd hok.sts).1.sublist (List.filter_sublist.map _)
theorem Prg.rnd_len {pr : Prg} (hok : PrgOk pr) : pr.rnd.length ≤ 20 := by
  unfold Prg.rnd
  rw [List.length_map]
  exact Nat.le_trans (List.length_filter_le _ _) hok.s20
theorem Prg.rnd_mem {pr : Prg} {s : Stp} (hs : s ∈ pr.steps) (hR : s.sg.isR = true) : s.nm ∈ pr.rnd := List.mem_map.mpr ⟨s, List.mem_filter.mpr ⟨hs, hR⟩, rfl⟩
theorem rnd_nm {pr : Prg} (hok : PrgOk pr) : ∀ x ∈ pr.rnd, x ∈ NM := fun x hx => by
  obtain ⟨s, hs, rfl⟩ := List.mem_map.mp hx
  exact hok.nms _ (List.mem_append_right _ (List.mem_map.mpr ⟨s, (List.mem_filter.mp hs).1, rfl⟩))
theorem wq_cong {b f r pl : Nat} {free free' : List Str} (h : ∀ x, x ∈ free ↔ x ∈ free') : ∀ (ss : List Stp) (l : List (Str × Fr)), walkQ b f r pl free l ss = walkQ b f r pl free' l ss
  | [], _ => rfl
  | s :: ss, l => by
    have e : stepQ b f r pl free l s = stepQ b f r pl free' l s := by
      unfold stepQ
      split
      · split
        · rfl
        · by_cases hf : s.nm ∈ free
          · rw [if_pos hf, if_pos ((h _).mp hf)]
          · rw [if_neg hf, if_neg (fun z => hf ((h _).mpr z))]
      · rfl
    cases e2 : stepQ b f r pl free l s with
    | val n => rw [wq_val e2, wq_val (e ▸ e2)]; exact wq_cong h ss _
    | nought => rw [wq_nought e2, wq_nought (e ▸ e2)]
    | over => rw [wq_over e2, wq_over (e ▸ e2)]
theorem Prg.walk_cong {pr : Prg} {free free' : List Str} (h : ∀ x, x ∈ free ↔ x ∈ free') (xs : List Int) : pr.walk free xs = pr.walk free' xs := wq_cong h _ _
/-- a lot of rounded steps, ascending -/
structure LotOk (pr : Prg) (ys : List Str) : Prop where
  sub : ∀ y ∈ ys, y ∈ pr.rnd
  srt : sortedS ys = true
  nd : ys.Nodup
theorem LotOk.len {pr : Prg} {ys : List Str} (h : LotOk pr ys) (hok : PrgOk pr) : ys.length ≤ 20 := Nat.le_trans (h.nd.length_le_of_subset h.sub) (Prg.rnd_len hok)
/-- what a mixed run tells -/
def MixAt (H : Hp) (v : V) (l : List (Str × Fr)) (told : List Str) : EndR → Prop
  | .told => ∃ q z zs, v = .ref q ∧ H q = some (.tup [.str "tells", .ref z]) ∧ H z = some (.tup (rv zs)) ∧ Each FrAt H zs (told.map (lookQ l))
  | .nought x => ∃ q, v = .ref q ∧ H q = some (.tup [.str "nought", .str x])
  | .over x => ∃ q, v = .ref q ∧ H q = some (.tup [.str "over", .str x])
theorem MixAt.ex {H H' : Hp} {v : V} {l : List (Str × Fr)} {told : List Str} {e : EndR} (h : MixAt H v l told e) (x : Ex H H') : MixAt H' v l told e := by
  cases e with
  | told => obtain ⟨q, z, zs, h1, h2, h3, h4⟩ := h; exact ⟨q, z, zs, h1, x _ _ h2, x _ _ h3, h4.ex (fun h e => h.ex e) x⟩
  | nought y => obtain ⟨q, h1, h2⟩ := h; exact ⟨q, h1, x _ _ h2⟩
  | over y => obtain ⟨q, h1, h2⟩ := h; exact ⟨q, h1, x _ _ h2⟩
/-- rows (name, fraction) -/
def RowsAt (H : Hp) (v : V) (l : List (Str × Fr)) : Prop := ∃ q ps ts, v = .ref q ∧ H q = some (.tup (rv ps)) ∧ kn ts = l ∧ Each PairAt H ps ts
def sp_is_inputs (a : Ad) : Sp := fun vs H Q _ => ∃ (p t : Addr) (pr : Prg) (xs : List Int), vs = [.ref p, .ref t] ∧ ProgAt a H p pr ∧ PrgOk pr ∧ H t = some (.tup (iv xs)) ∧ InR pr xs ∧ ∀ H', Ex H H' → Q (.bl true) H'
def sp_check_inputs (a : Ad) : Sp := fun vs H Q _ => ∃ (p t : Addr) (pr : Prg) (xs : List Int), vs = [.ref p, .ref t] ∧ ProgAt a H p pr ∧ PrgOk pr ∧ H t = some (.tup (iv xs)) ∧ InR pr xs ∧ ∀ H', Ex H H' → Q .non H'
def sp_rounded_names (a : Ad) : Sp := fun vs H Q _ => ∃ (p : Addr) (pr : Prg), vs = [.ref p] ∧ ProgAt a H p pr ∧ PrgOk pr ∧ ∀ q H', Ex H H' → H' q = some (.tup (sv pr.rnd)) → Q (.ref q) H'
def sp_ascending_names (a : Ad) : Sp := fun vs H Q _ => ∃ (p : Addr) (pr : Prg), vs = [.ref p] ∧ ProgAt a H p pr ∧ PrgOk pr ∧ ∀ q ys H', Ex H H' → H' q = some (.tup (sv ys)) → ys.Perm pr.rnd → sortedS ys = true → Q (.ref q) H'
def sp_is_ascending : Sp := fun vs H Q _ => ∃ (t : Addr) (ys : List Str), vs = [.ref t] ∧ H t = some (.tup (sv ys)) ∧ ys.length ≤ 20 ∧ (∀ y ∈ ys, y ∈ NM) ∧ sortedS ys = true ∧ ys.Nodup ∧ ∀ H', Ex H H' → Q (.bl true) H'
def sp_is_lot (a : Ad) : Sp := fun vs H Q _ => ∃ (p t : Addr) (pr : Prg) (ys : List Str), vs = [.ref p, .ref t] ∧ ProgAt a H p pr ∧ PrgOk pr ∧ H t = some (.tup (sv ys)) ∧ LotOk pr ys ∧ ∀ H', Ex H H' → Q (.bl true) H'
def sp_check_lot (a : Ad) : Sp := fun vs H Q _ => ∃ (p t : Addr) (pr : Prg) (ys : List Str), vs = [.ref p, .ref t] ∧ ProgAt a H p pr ∧ PrgOk pr ∧ H t = some (.tup (sv ys)) ∧ LotOk pr ys ∧ ∀ H', Ex H H' → Q .non H'
def sp_mixed_run (a : Ad) : Sp := fun vs H Q _ => ∃ (p t e : Addr) (pr : Prg) (xs : List Int) (ys : List Str), vs = [.ref p, .ref t, .ref e] ∧ ProgAt a H p pr ∧ PrgOk pr ∧ SzQ pr ∧ Cap pr ys ∧ H t = some (.tup (iv xs)) ∧ InR pr xs ∧ H e = some (.tup (sv ys)) ∧ LotOk pr ys ∧ ∀ v H', Ex H H' → MixAt H' v (pr.walk ys xs).1 pr.told (pr.walk ys xs).2 → Q v H'
def sp_mixed_worths (a : Ad) : Sp := fun vs H Q _ => ∃ (p t e : Addr) (pr : Prg) (xs : List Int) (ys : List Str), vs = [.ref p, .ref t, .ref e] ∧ ProgAt a H p pr ∧ PrgOk pr ∧ SzQ pr ∧ Cap pr ys ∧ H t = some (.tup (iv xs)) ∧ InR pr xs ∧ H e = some (.tup (sv ys)) ∧ LotOk pr ys ∧ ∀ v H', Ex H H' → RowsAt H' v (pr.walk ys xs).1 → Q v H'
def sp_exact_run (a : Ad) : Sp := fun vs H Q _ => ∃ (p t : Addr) (pr : Prg) (xs : List Int), vs = [.ref p, .ref t] ∧ ProgAt a H p pr ∧ PrgOk pr ∧ SzQ pr ∧ cnt pr.steps ≤ 6 ∧ H t = some (.tup (iv xs)) ∧ InR pr xs ∧ ∀ v H', Ex H H' → MixAt H' v (pr.walk pr.rnd xs).1 pr.told (pr.walk pr.rnd xs).2 → Q v H'
def sp_exact_worths (a : Ad) : Sp := fun vs H Q _ => ∃ (p t : Addr) (pr : Prg) (xs : List Int), vs = [.ref p, .ref t] ∧ ProgAt a H p pr ∧ PrgOk pr ∧ SzQ pr ∧ cnt pr.steps ≤ 6 ∧ H t = some (.tup (iv xs)) ∧ InR pr xs ∧ ∀ v H', Ex H H' → RowsAt H' v (pr.walk pr.rnd xs).1 → Q v H'
theorem lot_all {pr : Prg} (hok : PrgOk pr) {ys : List Str} (h : ys.Perm pr.rnd) (hs : sortedS ys = true) : LotOk pr ys := ⟨fun y hy => h.mem_iff.mp hy, hs, h.nodup_iff.mpr (Prg.rnd_nd hok)⟩
theorem dp_svs {K : PySem.W.Frag} {H : Hp} : ∀ xs : List Str, DpAll K H (sv xs) (xs.map PyData.str)
  | [] => .nil
  | x :: xs => .cons (.str x) (dp_svs xs)
theorem nm_lay : ∀ x ∈ NM, (PyData.str x).canLay0 = true := by decide +kernel
theorem lay_svs : ∀ xs : List Str, (∀ x ∈ xs, x ∈ NM) → PyData.canLayAll0 (xs.map PyData.str) = true
  | [], _ => rfl
  | x :: xs, h => by
    show (PyData.canLay0 (.str x) && PyData.canLayAll0 (xs.map PyData.str)) = true
    rw [lay_svs xs fun y hy => h y (List.mem_cons_of_mem _ hy), nm_lay x (h x List.mem_cons_self)]; rfl
theorem dep_svs : ∀ xs : List Str, PyData.depthAll (xs.map PyData.str) = 0
  | [] => rfl
  | x :: xs => by
    show max (PyData.depth (.str x)) (PyData.depthAll (xs.map PyData.str)) = 0
    rw [dep_svs xs]; rfl
theorem sh_svsL {xs : List Str} (h : ∀ x ∈ xs, x ∈ NM) : SeqAt.shaped (.list (xs.map PyData.str)) = true := by
  unfold SeqAt.shaped
  have h1 : (PyData.list (xs.map PyData.str)).canLay0 = true := lay_svs xs h
  have h2 : (PyData.list (xs.map PyData.str)).depth = 1 := by
    show PyData.depthAll (xs.map PyData.str) + 1 = 1
    rw [dep_svs]
  rw [h1, h2]; rfl
theorem rnd_take {ss : List Stp} {j : Nat} {st : Stp} (h : ss[j]? = some st) : ((ss.take (j + 1)).filter fun s => s.sg.isR).map Stp.nm = ((ss.take j).filter fun s => s.sg.isR).map Stp.nm ++ (if st.sg.isR = true then [st.nm] else []) := by
  rw [List.take_add_one, h, List.filter_append, List.map_append]
  congr 1
  by_cases hR : st.sg.isR = true
  · rw [if_pos hR]
    show (List.filter (fun s : Stp => s.sg.isR) [st]).map Stp.nm = _
    rw [List.filter_cons_of_pos (p := fun s : Stp => s.sg.isR) hR]; rfl
  · rw [if_neg hR]
    show (List.filter (fun s : Stp => s.sg.isR) [st]).map Stp.nm = _
    rw [List.filter_cons_of_neg (p := fun s : Stp => s.sg.isR) hR]; rfl
theorem rs_in {st : Stp} : inV (.str st.sg.str) (sv [("+" : Str), ("-" : Str), ("*" : Str), ("/" : Str)]) = st.sg.isR := by
  rw [inV_sv]
  cases hs : st.sg <;> decide +kernel
section
variable {P : Program} {w : World} {K : PySem.W.Frag} {mg : Str → Option Value} {base : Heap} {a : Ad}
end
end My


set_option Elab.async false
set_option maxRecDepth 100000
set_option maxHeartbeats 2000000
set_option exponentiation.threshold 6000
namespace My
open PySem L2 Evl TL PyProof.Rows LiI
def sp_lotP : Sp := fun vs H Q _ => ∃ (d : Addr) (pr : Prg), vs = [.ref d] ∧ OwnAt H d pr ∧ PrgOk pr ∧ ∀ L H', H L = none → Ex H H' → H' L = some (.lst (sv pr.rnd)) → Q (.ref L) H'
def sp_ended : Sp := fun vs H Q _ => ∃ (d L : Addr) (pr : Prg) (l : List (Str × Fr)) (w1 w2 : V) (e : EndR), vs = [.ref d, w1, w2, .ref L] ∧ OwnAt H d pr ∧ PrgOk pr ∧ ItemsAt H L l ∧ EndNm w1 w2 e ∧ (l.map (·.1)).Nodup ∧ (e = .told → ∀ x ∈ pr.told, x ∈ l.map (·.1)) ∧
  ∀ v H', Ex H H' → MixAt H' v l pr.told e → Q v H'
section
variable {P : Program} {w : World} {K : PySem.W.Frag} {mg : Str → Option Value} {base : Heap} {a : Ad}
end
end My


set_option Elab.async false
set_option maxRecDepth 100000
set_option maxHeartbeats 2000000
set_option exponentiation.threshold 6000
namespace My
open PySem L2 Evl TL PyProof.Rows LiI
theorem iv_ext (xs ys : List Int) : iv xs ++ iv ys = iv (xs ++ ys) := by unfold iv; rw [List.map_append]
theorem Each.app {α : Type} {at_ : Hp → Addr → α → Prop} {H : Hp} {qs rs : List Addr} {xs ys : List α} (h : Each at_ H qs xs) (g : Each at_ H rs ys) : Each at_ H (qs ++ rs) (xs ++ ys) := by
  refine ⟨by rw [List.length_append, List.length_append, h.1, g.1], fun i q x hq hx => ?_⟩
  by_cases hi : i < qs.length
  · rw [List.getElem?_append_left hi] at hq
    rw [List.getElem?_append_left (by rw [← h.1]; exact hi)] at hx
    exact h.2 i q x hq hx
  · rw [List.getElem?_append_right (by omega)] at hq
    rw [List.getElem?_append_right (by rw [← h.1]; omega), ← h.1] at hx
    exact g.2 _ q x hq hx
def PtAt (H : Hp) (q : Addr) (xs : List Int) : Prop := H q = some (.tup (iv xs))
theorem PtAt.ex {H H' : Hp} {q : Addr} {xs : List Int} (h : PtAt H q xs) (e : Ex H H') : PtAt H' q xs := e _ _ h
def within (lo hi : Int) (xs : List Int) : List Int := xs.filter fun x => decide (lo ≤ x) && decide (x ≤ hi)
/-- so wide are the ranges -/
def Wide (pr : Prg) : Prop := ∃ s : Nat, 1 ≤ s ∧ s ^ pr.ins.length ≤ 60 ∧ ∀ i ∈ pr.ins, (within i.lo i.hi (rgs pr.b (pr.b ^ pr.f) pr.r)).length ≤ s
/-- in range, the first k inputs -/
def InK (pr : Prg) (k : Nat) (xs : List Int) : Prop := xs.length = k ∧ ∀ (i : Nat) (x : Int) (n : Inp), xs[i]? = some x → pr.ins[i]? = some n → OnG pr.b (pr.b ^ pr.f) ((pr.b ^ pr.f - 1) * pr.b ^ pr.r) x ∧ n.lo ≤ x ∧ x ≤ n.hi
def sp_points : Sp := fun vs H Q _ => ∃ (d : Addr) (pr : Prg), vs = [.ref d] ∧ OwnAt H d pr ∧ PrgOk pr ∧ pr.b ^ pr.f ≤ 1000 ∧ Wide pr ∧ ∀ F ps xss H', H F = none → Ex H H' → H' F = some (.lst (rv ps)) → Each PtAt H' ps xss → (∀ xs ∈ xss, InR pr xs) → 1 ≤ xss.length → xss.length ≤ 60 → Q (.ref F) H'
theorem on_top {b f k n : Nat} (hb : 2 ≤ b) (h : n < b ^ f * b ^ k) (hd : spc b (b ^ f) n ∣ n) : n ≤ (b ^ f - 1) * b ^ k := by
  have hL : 1 ≤ b ^ f := Nat.pow_pos (by omega)
  have h1 : n < b ^ f * spc b (b ^ f) n := spx_up hb hL
  have h2 : spc b (b ^ f) n ≤ b ^ k := Nat.pow_le_pow_right (by omega) (spx_le hb hL h)
  generalize spc b (b ^ f) n = s at *
  obtain ⟨c, hc⟩ := hd
  have h3 : c < b ^ f := by
    rw [hc, Nat.mul_comm] at h1
    exact Nat.lt_of_mul_lt_mul_right h1
  rw [hc, Nat.mul_comm s c]
  exact Nat.mul_le_mul (by omega) h2
theorem rgs_on {b f r : Nat} (hb : 2 ≤ b) (hf : 1 ≤ f) {x : Int} (h : x ∈ rgs b (b ^ f) r) : OnG b (b ^ f) ((b ^ f - 1) * b ^ r) x := by
  obtain ⟨h1, h2⟩ := (rgs_mem hb hf r x).mp h
  exact ⟨on_top hb h1 (Int.ofNat_dvd_left.mp (Int.dvd_of_emod_eq_zero h2)), h2⟩
theorem on_rgs {b f r : Nat} (hb : 2 ≤ b) (hf : 1 ≤ f) {x : Int} (h : OnG b (b ^ f) ((b ^ f - 1) * b ^ r) x) : x ∈ rgs b (b ^ f) r := by
  refine (rgs_mem hb hf r x).mpr ⟨Nat.lt_of_le_of_lt h.1 (Nat.mul_lt_mul_of_pos_right ?_ (Nat.pow_pos (by omega))), h.2⟩
  have : 0 < b ^ f := Nat.pow_pos (by omega)
  omega
section
variable {P : Program} {w : World} {K : PySem.W.Frag} {mg : Str → Option Value} {base : Heap} {a : Ad}
end
end My


set_option Elab.async false
set_option maxRecDepth 100000
set_option maxHeartbeats 2000000
set_option exponentiation.threshold 6000
namespace My
open PySem L2 Evl TL PyProof.Rows LiI
def sp_operand : Sp := fun vs H Q _ => ∃ (p t l : Addr) (n b f r pl : Nat) (names : List Str), vs = [.ref p, .ref t, .ref l] ∧ PotAt H p n ∧ n + 20 ≤ 100000 ∧ H t = some (.tup [.int b, .int f, .int r, .int pl]) ∧ okg b f r ∧ H l = some (.lst (sv names)) ∧ l ≠ p ∧ 1 ≤ names.length ∧ names.length ≤ 30 ∧
  ∀ (o : Opd) H', Kp p H H' → PotAt H' p (n + 10) → OpOk b f r names o → Q o.v H'
theorem onG_zero {b L G : Nat} : OnG b L G 0 := ⟨Nat.zero_le _, Int.zero_emod _⟩
theorem slice_sub (names : List Str) (lo hi : Option Int) : ∃ zs, cutV (sv names) lo hi = sv zs ∧ (∀ z ∈ zs, z ∈ names) ∧ zs.length ≤ names.length := by
  unfold cutV
  generalize HT.sIx (sv names).length 0 lo = a
  generalize HT.sIx (sv names).length (sv names).length hi = c
  refine ⟨(names.drop a).take (c - a), ?_, fun z hz => List.mem_of_mem_drop (List.mem_of_mem_take hz), ?_⟩
  · unfold sv
    rw [List.map_take, List.map_drop]
  · rw [List.length_take, List.length_drop]
    omega
section
variable {P : Program} {w : World} {K : PySem.W.Frag} {mg : Str → Option Value} {base : Heap} {a : Ad}
theorem ok_l_program_operand (T : Txt K mg a) : FnOk P w K mg base CX0 5 a.l_program_operand a.l_program_operand_fd ["pot", "grid", "names"] sp_operand := by
  refine T.F_l_program_operand.ok sc_l_program_operand (fun vs H Q E h => ?_) (fun cdv A outer s H vs Q E hr h => ?_)
  · obtain ⟨p, t, l, n, b, f, r, pl, names, rfl, _⟩ := h
    rfl
  · obtain ⟨p, t, l, n, b, f, r, pl, names, rfl, hp, hn, ht, hok, hl, hlp, hn1, hn2, k⟩ := h
    refine ⟨_, (pss_cons (ps_if (pt_cmpR op_eq (pe_call (ok_l_take T) (hr.mono (by decide)) rfl T.g_l_take T.k_l_take T.B_l_take .nil pass0 (pa_cons (pv 0) (pa_cons pe_int pa_nil))) pe_int (nomark _)) (pss_cons (ps_set (i := 3) sc_l_program_operand.nd rfl (Or.inl rfl) (pe_lst (pa_cons pe_int (pa_cons pe_int (pa_cons pe_int (pa_cons (pe_un un_neg pe_int) (pa_cons (pe_call (ok_l_grid_a_number T) (hr.mono (by decide)) rfl T.g_l_grid_a_number T.k_l_grid_a_number T.B_l_grid_a_number .nil pass0 (pa_cons (pv 0) (pa_cons (pv 1) pa_nil))) pa_nil)))))))
      (pss_one (ps_ret (pe_call (ok_l_of T) (hr.mono (by decide)) rfl T.g_l_of T.k_l_of T.B_l_of .nil pass0 (pa_cons (pv 0) (pa_cons (pe_lc (own := [("number", 4)]) (g := gName 4) (by rfl) sc_l_program_operand.nd (pi_list (pv 3)) (blkOk_by (own := [("number", 4)]) (N := N_l_program_operand) (sc := defScope s_l_program_operand) (by decide +kernel)) (fun _ _ _ _ _ => pg_name (i := 4) sc_l_program_operand.nd rfl (Or.inl rfl)) (fun _ _ _ _ _ => (pts_one (pt_val (pe_call (ok_l_grid_has T) (hr.mono (by decide)) rfl T.g_l_grid_has T.k_l_grid_has T.B_l_grid_has .nil pass0 (pa_cons (pv 1) (pa_cons (pv 4) pa_nil)))))) (fun _ _ _ _ _ => (pv 4))) pa_nil)))))) pss_nil)
      (pss_one (ps_ret (pe_call (ok_l_of T) (hr.mono (by decide)) rfl T.g_l_of T.k_l_of T.B_l_of .nil pass0 (pa_cons (pv 0) (pa_cons (pe_op op_cat (pv 2) (pe_slice sl_list (pv 2) (po_some (pe_un un_neg pe_int)) po_none)) pa_nil)))))), ?_⟩
    have hne : t ≠ p := ne_tup ht hp
    have hG := hok.bG
    refine ⟨_, rfl, p, 6, n, rfl, hp, by omega, by decide, by decide +kernel, fun d H1 k1 p1 d0 d6 => ⟨rfl, _, rfl, ?_⟩⟩
    refine ite2 (fun _ => ?_) (fun _ => ?_)
    · refine ⟨_, rfl, _, rfl, _, rfl, p, t, n + 1, b, f, r, pl, rfl, p1, by omega, k1 _ _ ht hne, hne, hok, fun z H2 k2 p2 hz => ⟨by show 5 ≤ sizeLine; decide, fun sm hsm => ?_⟩⟩
      have x3 := Ex.new (o := .lst [V.int 0, .int 1, .int 2, .int (-1), .int z]) hsm
      have f3 : (upd H2 sm (.lst [V.int 0, .int 1, .int 2, .int (-1), .int z])) sm = some (.lst (iv [0, 1, 2, -1, z])) := upd_same
      have k3 := (k1.trans k2).ex x3
      have p3 := p2.ex x3
      generalize (upd H2 sm (.lst [V.int 0, .int 1, .int 2, .int (-1), .int z])) = H3 at *
      have ht3 := k3 _ _ ht hne
      have zsz : ∀ x ∈ [0, 1, 2, -1, z], x.natAbs < 2 ^ 2400 := fun x hx => by
        have : (4 : Nat) < 2 ^ 2400 := by decide +kernel
        rcases List.mem_cons.mp hx with rfl | hx
        · omega
        rcases List.mem_cons.mp hx with rfl | hx
        · omega
        rcases List.mem_cons.mp hx with rfl | hx
        · omega
        rcases List.mem_cons.mp hx with rfl | hx
        · omega
        · rw [List.mem_singleton.mp hx]
          exact Nat.lt_of_le_of_lt hz.1 (Nat.lt_trans hG (by decide +kernel))
      refine ⟨_, rfl, _, rfl, sm, rfl, ⟨_, SqL.of f3⟩, fun D hD => ?_⟩
      refine lc_list (K := K) (a := sm) (xs := iv [0, 1, 2, -1, z]) (fun i H' => ∃ ws, Ex H3 H' ∧ H' D = some (.lst (iv ws)) ∧ ws.length ≤ i ∧ (1 ≤ i → 1 ≤ ws.length) ∧ ∀ x ∈ ws, OnG b (b ^ f) ((b ^ f - 1) * b ^ r) x) ⟨[], Ex.new hD, upd_same, Nat.le_refl _, fun h => absurd h (by omega), fun x hx => by cases hx⟩ (fun i H' _ z => by obtain ⟨_, e, _⟩ := z; exact SqL.of (e _ _ f3)) ?_ ?_
      · rintro i v H4 hv ⟨ws, e4, hD4, hw1, hw2, hw3⟩
        obtain ⟨x, hx, rfl⟩ := iv_get hv
        have hi5 : i < 5 := (List.getElem?_eq_some_iff.mp hx).1
        refine ⟨rfl, ?_⟩
        refine ⟨_, rfl, _, rfl, t, b, f, r, pl, x, rfl, SqT.of (e4 _ _ ht3), hok.v, zsz x (List.mem_of_getElem? hx), fun H5 e5 => ⟨_, rfl, ?_⟩⟩
        have hD5 := e5 _ _ hD4
        by_cases hon : (decide (x.natAbs ≤ (b ^ f - 1) * b ^ r) && decide (x % (spc b (b ^ f) x.natAbs : Nat) = 0)) = true
        · refine ite2 (fun _ => ?_) (fun h => absurd hon h)
          refine ⟨_, rfl, _, hD5, small1000 (by rw [iv_len]; omega), ws ++ [x], Ex.mut (e4.trans e5) hD, ?_, ?_, ?_, ?_⟩
          · rw [upd_same]
            unfold iv
            rw [List.map_append]
            rfl
          · rw [List.length_append, List.length_singleton]; omega
          · intro _; rw [List.length_append, List.length_singleton]; omega
          · intro y hy
            rcases List.mem_append.mp hy with hy | hy
            · exact hw3 y hy
            · rw [List.mem_singleton.mp hy]
              rw [Bool.and_eq_true] at hon
              exact ⟨of_decide_eq_true hon.1, of_decide_eq_true hon.2⟩
        · refine ite2 (fun h => absurd h hon) (fun _ => ?_)
          refine ⟨ws, e4.trans e5, hD5, by omega, fun _ => ?_, hw3⟩
          cases i with
          | zero =>
            cases hx
            have oz := onG_zero (b := b) (L := b ^ f) (G := (b ^ f - 1) * b ^ r)
            exact absurd (by rw [Bool.and_eq_true]; exact ⟨decide_eq_true oz.1, decide_eq_true oz.2⟩) hon
          | succ i => exact hw2 (by omega)
      · rintro H4 ⟨ws, e4, hD4, hw1, hw2, hw3⟩
        have hwl : ws.length ≤ 5 := hw1
        have hDp : D ≠ p := p3.ne hD
        refine ⟨p, D, n + 5, iv ws, rfl, p3.ex e4 |>.mono (by omega), by omega, hD4, hDp, by rw [iv_len]; exact hw2 (by show 1 ≤ 5; decide), by rw [iv_len]; omega, fun i v H5 hv k5 p5 => ?_⟩
        obtain ⟨x, hx, rfl⟩ := iv_get hv
        exact k (.nb x) H5 ((k3.ex e4).trans k5) (p5.mono (by omega)) (hw3 x (List.mem_of_getElem? hx))
    · obtain ⟨zs, hz1, hz2, hz3⟩ := slice_sub names (some (-2)) none
      have hl1 := k1 _ _ hl hlp
      refine ⟨_, rfl, _, rfl, _, rfl, _, rfl, _, rfl, l, _, rfl, SqL.of hl1, fun c hc => ?_⟩
      rw [hz1]
      have x2 := Ex.new (o := .lst (sv zs)) hc
      have f2 : (upd H1 c (.lst (sv zs))) c = some (.lst (sv zs)) := upd_same
      have hl2 := x2 _ _ hl1
      have p2 := p1.ex x2
      have k2 := k1.ex x2
      generalize (upd H1 c (.lst (sv zs))) = H2 at *
      refine ⟨l, c, _, _, rfl, rfl, hl2, f2, sv_two (by omega), fun e he => ?_⟩
      have x3 := Ex.new (o := .lst (sv names ++ sv zs)) he
      have f3 : (upd H2 e (.lst (sv names ++ sv zs))) e = some (.lst (sv (names ++ zs))) := by rw [upd_same, sv_app]
      have hep := p2.ne he
      have p3 := p2.ex x3
      have k3 := k2.ex x3
      generalize (upd H2 e (.lst (sv names ++ sv zs))) = H3 at *
      refine ⟨p, e, n + 1, sv (names ++ zs), rfl, p3, by omega, f3, hep, by rw [sv_len, List.length_append]; omega, by rw [sv_len, List.length_append]; omega, fun i v H4 hv k4 p4 => ?_⟩
      obtain ⟨x, hx, rfl⟩ := sv_getI hv
      refine k (.nm x) H4 (k3.trans k4) (p4.mono (by omega)) ?_
      show x ∈ names
      rcases List.mem_append.mp (List.mem_of_getElem? hx) with h | h
      · exact h
      · exact hz2 x h
end
end My


set_option Elab.async false
set_option maxRecDepth 100000
set_option maxHeartbeats 2000000
set_option exponentiation.threshold 6000
namespace My
open PySem L2 Evl TL PyProof.Rows LiI
def sp_a_step : Sp := fun vs H Q _ => ∃ (p t l : Addr) (n b f r pl : Nat) (names : List Str) (nm : Str), vs = [.ref p, .ref t, .str nm, .ref l] ∧ PotAt H p n ∧ n + 100 ≤ 100000 ∧ H t = some (.tup [.int b, .int f, .int r, .int pl]) ∧ okg b f r ∧ f ≤ 4 ∧ H l = some (.lst (sv names)) ∧ l ≠ p ∧ 1 ≤ names.length ∧ names.length ≤ 30 ∧ nm ∈ SN ∧ nm ∉ names ∧
  ∀ (q : Addr) (st : Stp) H', Kp p H H' → PotAt H' p (n + 80) → StepAt H' q st → StpOk b f r names st → st.nm = nm → Q (.ref q) H'
def SGL : List Sg := [.add, .add, .add, .sub, .sub, .sub, .mul, .div, .least, .most, .choose, .add]
theorem sgl_get {i : Nat} {v : V} (h : (SGL.map fun g => V.str g.str)[i]? = some v) : ∃ g : Sg, v = .str g.str := by
  rw [List.getElem?_map] at h
  cases e : SGL[i]? with
  | none => rw [e] at h; cases h
  | some g => rw [e] at h; exact ⟨g, (Option.some.inj h).symm⟩
def WYL : List Wy := [.near, .near, .near, .near, .down, .up, .zero]
theorem wyl_get {i : Nat} {v : V} (h : (WYL.map fun g => V.str g.str)[i]? = some v) : ∃ g : Wy, v = .str g.str := by
  rw [List.getElem?_map] at h
  cases e : WYL[i]? with
  | none => rw [e] at h; cases h
  | some g => rw [e] at h; exact ⟨g, (Option.some.inj h).symm⟩
def MOL : List Nat := [0, 0, 0, 0, 0, 0, 0, 0, 1, 1, 2, 3]
theorem mol_get {i : Nat} {v : V} (h : (MOL.map fun (g : Nat) => V.int ((g : Nat) : Int))[i]? = some v) : ∃ g : Nat, v = .int (g : Int) ∧ g ≤ 3 := by
  rw [List.getElem?_map] at h
  cases e : MOL[i]? with
  | none => rw [e] at h; cases h
  | some g =>
    rw [e] at h
    have : ∀ g ∈ MOL, g ≤ 3 := by decide
    exact ⟨g, (Option.some.inj h).symm, this g (List.mem_of_getElem? e)⟩
section
variable {P : Program} {w : World} {K : PySem.W.Frag} {mg : Str → Option Value} {base : Heap} {a : Ad}
theorem ok_l_program_a_step (T : Txt K mg a) : FnOk P w K mg base CX0 6 a.l_program_a_step a.l_program_a_step_fd ["pot", "grid", "name", "names"] sp_a_step := by
  refine T.F_l_program_a_step.ok sc_l_program_a_step (fun vs H Q E h => ?_) (fun cdv A outer s H vs Q E hr h => ?_)
  · obtain ⟨p, t, l, n, b, f, r, pl, names, nm, rfl, _⟩ := h
    rfl
  · obtain ⟨p, t, l, n, b, f, r, pl, names, nm, rfl, hp, hn, ht, hok, hf4, hl, hlp, hn1, hn2, hsn, hnew, k⟩ := h
    refine ⟨_, (pss_cut (ps_set (i := 4) sc_l_program_a_step.nd rfl (Or.inl rfl) (pe_call (ok_l_of T) (hr.mono (by decide)) rfl T.g_l_of T.k_l_of T.B_l_of .nil pass0 (pa_cons (pv 0) (pa_cons (pe_lst (pa_cons pe_str (pa_cons pe_str (pa_cons pe_str (pa_cons pe_str (pa_cons pe_str (pa_cons pe_str (pa_cons pe_str (pa_cons pe_str (pa_cons pe_str (pa_cons pe_str (pa_cons pe_str (pa_cons pe_str pa_nil))))))))))))) pa_nil))))
      (pss_cut (ps_set (i := 5) sc_l_program_a_step.nd rfl (Or.inl rfl) (pe_ifExp (pt_cmpR op_eq (pv 4) pe_str (nomark _)) pe_int pe_int))
      (pss_cut (ps_set (i := 6) sc_l_program_a_step.nd rfl (Or.inl rfl) (pe_callTy call_tuple_of (by rfl) T.n_tuple (by decide +kernel) (pa_cons (pe_lc (own := [("lap", 8)]) (g := gName 8) (by rfl) sc_l_program_a_step.nd (pi_range1 rfl T.n_range (pa_cons (pv 5) pa_nil)) (blkOk_by (own := [("lap", 8)]) (N := N_l_program_a_step) (sc := defScope s_l_program_a_step) (by decide +kernel)) (fun _ _ _ _ _ => pg_name (i := 8) sc_l_program_a_step.nd rfl (Or.inl rfl)) (fun _ _ _ _ _ => pts_nil) (fun _ _ _ _ _ => (pe_call (ok_l_program_operand T) (hr.mono (by decide)) rfl T.g_l_program_operand T.k_l_program_operand T.B_l_program_operand .nil pass0 (pa_cons (pv 0) (pa_cons (pv 1) (pa_cons (pv 3) pa_nil)))))) pa_nil)))
      (pss_cut (ps_if (pt_not (pt_val (pe_callB call_isi (by rfl) T.n_isinstance (by decide +kernel) (pa_cons (pe_ix ix_tup (pv 6) (pe_un un_neg pe_int) (fun _ _ => rfl)) (pa_cons (pe_bltn (v := .ty "str") (u := .type "str") rfl T.n_str (by decide +kernel) rfl) pa_nil))))) (pss_one (ps_set (i := 6) sc_l_program_a_step.nd rfl (Or.inl rfl) (pe_op op_catA (pe_tup (pa_cons (pe_call (ok_l_of T) (hr.mono (by decide)) rfl T.g_l_of T.k_l_of T.B_l_of .nil pass0 (pa_cons (pv 0) (pa_cons (pv 3) pa_nil))) pa_nil)) (pe_slice sl_tupA (pv 6) (po_some pe_int) po_none)))) pss_nil)
      (pss_cons (ps_if (pt_cmpR op_in_seq (pv 4) (pe_tup (pa_cons pe_str (pa_cons pe_str (pa_cons pe_str pa_nil)))) (by rfl)) (pss_one (ps_ret (pe_tup (pa_cons (pv 2) (pa_cons (pv 4) (pa_cons (pv 6) (pa_cons pe_int (pa_cons pe_str pa_nil)))))))) pss_nil)
      (pss_cut (ps_set (i := 7) sc_l_program_a_step.nd rfl (Or.inl rfl) (pe_call (ok_l_of T) (hr.mono (by decide)) rfl T.g_l_of T.k_l_of T.B_l_of .nil pass0 (pa_cons (pv 0) (pa_cons (pe_lst (pa_cons pe_int (pa_cons pe_int (pa_cons pe_int (pa_cons pe_int (pa_cons pe_int (pa_cons pe_int (pa_cons pe_int (pa_cons pe_int (pa_cons pe_int (pa_cons pe_int (pa_cons pe_int (pa_cons pe_int pa_nil))))))))))))) pa_nil))))
      (pss_one (ps_ret (pe_tup (pa_cons (pv 2) (pa_cons (pv 4) (pa_cons (pv 6) (pa_cons (pv 7) (pa_cons (pe_call (ok_l_of T) (hr.mono (by decide)) rfl T.g_l_of T.k_l_of T.B_l_of .nil pass0 (pa_cons (pv 0) (pa_cons (pe_lst (pa_cons pe_str (pa_cons pe_str (pa_cons pe_str (pa_cons pe_str (pa_cons pe_str (pa_cons pe_str (pa_cons pe_str pa_nil)))))))) pa_nil))) pa_nil)))))))))))))), ?_⟩
    have hne : t ≠ p := ne_tup ht hp
    refine ⟨fun σ H' => ∃ g : Sg, Kp p H H' ∧ PotAt H' p (n + 1) ∧ σ = [some (.ref p), some (.ref t), some (.str nm), some (.ref l), some (.str g.str), none, none, none, none], ?_, ?_⟩
    · refine ⟨_, rfl, by show 12 ≤ sizeLine; decide, fun c hc => ?_⟩
      have f1 : (upd H c (.lst [V.str "+", .str "+", .str "+", .str "-", .str "-", .str "-", .str "*", .str "/", .str "least", .str "most", .str "choose", .str "+"])) c = some (.lst (SGL.map fun g => V.str g.str)) := upd_same
      have x1 := Ex.new (o := .lst [V.str "+", .str "+", .str "+", .str "-", .str "-", .str "-", .str "*", .str "/", .str "least", .str "most", .str "choose", .str "+"]) hc
      have hcp := hp.ne hc
      have p1 := hp.ex x1
      generalize (upd H c (.lst [V.str "+", .str "+", .str "+", .str "-", .str "-", .str "-", .str "*", .str "/", .str "least", .str "most", .str "choose", .str "+"])) = H1 at *
      refine ⟨p, c, n, _, rfl, p1, by omega, f1, hcp, by show 0 < 12; decide, by show 12 ≤ 100000; decide, fun i v H2 hv k2 p2 => ?_⟩
      obtain ⟨g, rfl⟩ := sgl_get hv
      exact ⟨g, (Ex.kp x1).trans k2, p2, rfl⟩
    rintro σ H1 ⟨g, k1, p1, rfl⟩
    refine ⟨fun σ H' => H' = H1 ∧ σ = [some (.ref p), some (.ref t), some (.str nm), some (.ref l), some (.str g.str), some (.int (g.ary : Int)), none, none, none], ?_, ?_⟩
    · refine ⟨_, rfl, rfl, _, rfl, ?_⟩
      cases g with
      | choose => exact ite2 (fun _ => ⟨rfl, rfl⟩) (fun h => absurd (by decide +kernel) h)
      | add => exact ite2 (fun h => absurd h (by decide +kernel)) (fun _ => ⟨rfl, rfl⟩)
      | sub => exact ite2 (fun h => absurd h (by decide +kernel)) (fun _ => ⟨rfl, rfl⟩)
      | mul => exact ite2 (fun h => absurd h (by decide +kernel)) (fun _ => ⟨rfl, rfl⟩)
      | div => exact ite2 (fun h => absurd h (by decide +kernel)) (fun _ => ⟨rfl, rfl⟩)
      | least => exact ite2 (fun h => absurd h (by decide +kernel)) (fun _ => ⟨rfl, rfl⟩)
      | most => exact ite2 (fun h => absurd h (by decide +kernel)) (fun _ => ⟨rfl, rfl⟩)
    rintro σ H1 ⟨rfl, rfl⟩
    have hary : g.ary = 2 ∨ g.ary = 4 := by cases g <;> first | exact .inl rfl | exact .inr rfl
    have hl1 := k1 _ _ hl hlp
    refine ⟨fun σ H' => ∃ (o : Addr) (ops : List Opd), Kp p H H' ∧ PotAt H' p (n + 50) ∧ H' o = some (.tup (ops.map Opd.v)) ∧ ops.length = g.ary ∧ (∀ x ∈ ops, OpOk b f r names x) ∧ σ = [some (.ref p), some (.ref t), some (.str nm), some (.ref l), some (.str g.str), some (.int (g.ary : Int)), some (.ref o), none, none], ?_, ?_⟩
    · refine ⟨_, rfl, (g.ary : Int), rfl, by omega, by omega, fun D hD => lc_it walk_range (fun i H' => ∃ ops : List Opd, Kp p H H' ∧ PotAt H' p (n + 1 + 10 * i) ∧ H' D = some (.lst (ops.map Opd.v)) ∧ ops.length = i ∧ ∀ x ∈ ops, OpOk b f r names x) ?_ (fun _ _ _ _ => trivial) ?_ ?_⟩
      · have hDp := p1.ne hD
        exact ⟨[], k1.new (k1.back hD hDp), p1.upd hDp |>.mono (by omega), upd_same, rfl, fun x hx => by cases hx⟩
      · rintro i v H2 H3 hi ⟨ops, k2, p2, hD2, hol, hoo⟩ ⟨rfl, rfl⟩
        have hi4 : i < 4 := by
          have : i < (g.ary : Int).toNat := hi
          omega
        have hDp : D ≠ p := p1.ne hD
        have hD0 : H D = none := k1.back hD hDp
        refine ⟨rfl, ?_⟩
        dsimp only [tYes]
        refine iteT ?_
        refine ⟨_, rfl, _, rfl, _, rfl, p, t, l, n + 1 + 10 * i, b, f, r, pl, names, rfl, p2, by omega, k2 _ _ ht hne, hok, k2 _ _ hl hlp, hlp, hn1, hn2, fun op H4 k4 p4 hop => ?_⟩
        refine ⟨_, k4 _ _ hD2 hDp, small1000 (by rw [List.length_map, hol]; omega), ops ++ [op], (k2.trans k4).new hD0, (p4.upd hDp).mono (by omega), ?_, by rw [List.length_append, hol]; rfl, ?_⟩
        · rw [upd_same, List.map_append]; rfl
        · intro x hx
          rcases List.mem_append.mp hx with hx | hx
          · exact hoo x hx
          · rw [List.mem_singleton.mp hx]; exact hop
      · rintro H2 ⟨ops, k2, p2, hD2, hol, hoo⟩
        have hol : ops.length = g.ary := by rw [hol]; exact Int.toNat_natCast _
        refine ⟨D, _, rfl, .inl ⟨SqL.of hD2, fun o ho => ?_⟩⟩
        exact ⟨o, ops, k2.ex (Ex.new ho), (p2.ex (Ex.new ho)).mono (by have : ((g.ary : Int)).toNat = g.ary := Int.toNat_natCast _; omega), upd_same, hol, hoo, rfl⟩
    rintro σ H2 ⟨o, ops, k2, p2, ho, hol, hoo, rfl⟩
    refine ⟨fun σ H' => ∃ (o : Addr) (ops : List Opd), Kp p H H' ∧ PotAt H' p (n + 51) ∧ H' o = some (.tup (ops.map Opd.v)) ∧ ops.length = g.ary ∧ (∀ x ∈ ops, OpOk b f r names x) ∧ σ = [some (.ref p), some (.ref t), some (.str nm), some (.ref l), some (.str g.str), some (.int (g.ary : Int)), some (.ref o), none, none], ?_, ?_⟩
    · rcases hary with hg | hg
      · obtain ⟨x0, x1, rfl⟩ := two_of (hol.trans hg)
        have ho' : H2 o = some (.tup [x0.v, x1.v]) := ho
        cases x1 with
        | nm z =>
          refine ⟨_, rfl, _, rfl, o, _, _, _, rfl, rfl, SqT.of ho', rfl, _, _, _, _, true, rfl, .ty _, .base (.str _), kit_ty (by decide +kernel), true, rfl, ?_⟩
          refine iteF ?_
          exact ⟨o, _, k2, p2.mono (by omega), ho, hol, hoo, rfl⟩
        | nb z =>
          refine ⟨_, rfl, _, rfl, o, _, _, _, rfl, rfl, SqT.of ho', rfl, _, _, _, _, false, rfl, .ty _, .base (.int _), kit_ty (by decide +kernel), false, rfl, ?_⟩
          refine iteT ?_
          refine ⟨_, rfl, _, rfl, p, l, n + 50, sv names, rfl, p2, by omega, k2 _ _ hl hlp, hlp, by rw [sv_len]; omega, by rw [sv_len]; omega, fun i v H3 hv k3 p3 => ⟨by show 1 ≤ sizeLine; decide, fun u hu => ?_⟩⟩
          obtain ⟨x, hx, rfl⟩ := sv_getI hv
          have hop : o ≠ p := ne_tup ho p2
          have x4 := Ex.new (o := .tup [V.str x]) hu
          have f4 : (upd H3 u (.tup [V.str x])) u = some (.tup [V.str x]) := upd_same
          have k4 := (k2.trans k3).ex x4
          have p4 := p3.ex x4
          have ho4 := x4 _ _ (k3 _ _ ho' hop)
          generalize (upd H3 u (.tup [V.str x])) = H4 at *
          refine ⟨_, rfl, _, rfl, o, _, rfl, SqT.of ho4, fun h => absurd h (show ¬ (HT.sIx 2 0 (some 1) = 0 ∧ HT.sIx 2 2 none = 2) by decide), fun _ c hc => ?_⟩
          have x5 := Ex.new (o := .tup [V.int z]) hc
          have f5 : (upd H4 c (.tup [V.int z])) c = some (.tup [V.int z]) := upd_same
          have k5 := k4.ex x5
          have p5 := p4.ex x5
          have f45 := x5 _ _ f4
          rw [show cutV [x0.v, (Opd.nb z).v] (some 1) none = [V.int z] from rfl]
          generalize (upd H4 c (.tup [V.int z])) = H5 at *
          refine ⟨u, c, _, _, rfl, rfl, SqT.of f45, SqT.of f5, by show 2 ≤ sizeLine; decide, fun h => (by cases h), fun _ h => (by cases h), fun _ _ e he => ?_⟩
          refine ⟨e, [.nm x, .nb z], k5.ex (Ex.new he), p5.ex (Ex.new he), upd_same, hg.symm, fun w hw => ?_, rfl⟩
          rcases List.mem_cons.mp hw with rfl | hw
          · exact List.mem_of_getElem? hx
          · exact hoo w (List.mem_cons_of_mem _ hw)
      · obtain ⟨x0, x1, x2, x3, rfl⟩ := four_of (hol.trans hg)
        have ho' : H2 o = some (.tup [x0.v, x1.v, x2.v, x3.v]) := ho
        cases x3 with
        | nm z =>
          refine ⟨_, rfl, _, rfl, o, _, _, _, rfl, rfl, SqT.of ho', rfl, _, _, _, _, true, rfl, .ty _, .base (.str _), kit_ty (by decide +kernel), true, rfl, ?_⟩
          refine iteF ?_
          exact ⟨o, _, k2, p2.mono (by omega), ho, hol, hoo, rfl⟩
        | nb z =>
          refine ⟨_, rfl, _, rfl, o, _, _, _, rfl, rfl, SqT.of ho', rfl, _, _, _, _, false, rfl, .ty _, .base (.int _), kit_ty (by decide +kernel), false, rfl, ?_⟩
          refine iteT ?_
          refine ⟨_, rfl, _, rfl, p, l, n + 50, sv names, rfl, p2, by omega, k2 _ _ hl hlp, hlp, by rw [sv_len]; omega, by rw [sv_len]; omega, fun i v H3 hv k3 p3 => ⟨by show 1 ≤ sizeLine; decide, fun u hu => ?_⟩⟩
          obtain ⟨x, hx, rfl⟩ := sv_getI hv
          have hop : o ≠ p := ne_tup ho p2
          have x4 := Ex.new (o := .tup [V.str x]) hu
          have f4 : (upd H3 u (.tup [V.str x])) u = some (.tup [V.str x]) := upd_same
          have k4 := (k2.trans k3).ex x4
          have p4 := p3.ex x4
          have ho4 := x4 _ _ (k3 _ _ ho' hop)
          generalize (upd H3 u (.tup [V.str x])) = H4 at *
          refine ⟨_, rfl, _, rfl, o, _, rfl, SqT.of ho4, fun h => absurd h (show ¬ (HT.sIx 4 0 (some 1) = 0 ∧ HT.sIx 4 4 none = 4) by decide), fun _ c hc => ?_⟩
          have x5 := Ex.new (o := .tup [x1.v, x2.v, V.int z]) hc
          have f5 : (upd H4 c (.tup [x1.v, x2.v, V.int z])) c = some (.tup [x1.v, x2.v, V.int z]) := upd_same
          have k5 := k4.ex x5
          have p5 := p4.ex x5
          have f45 := x5 _ _ f4
          rw [show cutV [x0.v, x1.v, x2.v, (Opd.nb z).v] (some 1) none = [x1.v, x2.v, V.int z] from rfl]
          generalize (upd H4 c (.tup [x1.v, x2.v, V.int z])) = H5 at *
          refine ⟨u, c, _, _, rfl, rfl, SqT.of f45, SqT.of f5, by show 4 ≤ sizeLine; decide, fun h => (by cases h), fun _ h => (by cases h), fun _ _ e he => ?_⟩
          refine ⟨e, [.nm x, x1, x2, .nb z], k5.ex (Ex.new he), p5.ex (Ex.new he), upd_same, hg.symm, fun w hw => ?_, rfl⟩
          rcases List.mem_cons.mp hw with rfl | hw
          · exact List.mem_of_getElem? hx
          · exact hoo w (List.mem_cons_of_mem _ hw)
    rintro σ H3 ⟨o, ops, k3, p3, ho, hol, hoo, rfl⟩
    refine ⟨_, rfl, by show 3 ≤ sizeLine; decide, fun c hc => ?_⟩
    have x4 := Ex.new (o := .tup [V.str "least", .str "most", .str "choose"]) hc
    have f4 : (upd H3 c (.tup [V.str "least", .str "most", .str "choose"])) c = some (.tup [V.str "least", .str "most", .str "choose"]) := upd_same
    have k4 := k3.ex x4
    have p4 := p3.ex x4
    have ho4 := x4 _ _ ho
    generalize (upd H3 c (.tup [V.str "least", .str "most", .str "choose"])) = H4 at *
    refine ⟨c, _, rfl, .inr (SqT.of f4), rfl, rfl, _, rfl, ?_⟩
    cases eR : g.isR with
    | false =>
      refine ite2 (fun _ => ?_) (fun h => absurd (show (if false = true then !inV (.str g.str) (sv [("least" : Str), ("most" : Str), ("choose" : Str)]) else inV (.str g.str) (sv [("least" : Str), ("most" : Str), ("choose" : Str)])) = true by rw [if_neg (by decide), inV_sv]; cases hs : g <;> first | decide +kernel | (rw [hs] at eR; cases eR)) h)
      refine ⟨_, rfl, _, rfl, _, rfl, by show 5 ≤ sizeLine; decide, fun q hq => ?_⟩
      refine k q ⟨nm, g, ops, 0, .near⟩ _ (k4.ex (Ex.new hq)) ((p4.ex (Ex.new hq)).mono (by omega)) ⟨o, upd_same, Ex.new hq _ _ ho4⟩ ⟨hsn, hnew, hol, hoo, fun _ => ⟨rfl, rfl⟩, Nat.zero_le _, .inl rfl⟩ rfl
    | true =>
      refine ite2 (fun h => absurd (show (if false = true then !inV (.str g.str) (sv [("least" : Str), ("most" : Str), ("choose" : Str)]) else inV (.str g.str) (sv [("least" : Str), ("most" : Str), ("choose" : Str)])) = true from h) (by rw [if_neg (by decide), inV_sv]; cases hs : g <;> first | decide +kernel | (rw [hs] at eR; cases eR))) (fun _ => ?_)
      have hop : o ≠ p := ne_tup ho4 p4
      refine ⟨fun σ H' => ∃ m : Nat, m ≤ 3 ∧ Kp p H H' ∧ Kp p H4 H' ∧ PotAt H' p (n + 52) ∧ σ = [some (.ref p), some (.ref t), some (.str nm), some (.ref l), some (.str g.str), some (.int (g.ary : Int)), some (.ref o), some (.int (m : Int)), none], ?_, ?_⟩
      · refine ⟨_, rfl, by show 12 ≤ sizeLine; decide, fun c hc => ?_⟩
        have f1 : (upd H4 c (.lst [V.int 0, .int 0, .int 0, .int 0, .int 0, .int 0, .int 0, .int 0, .int 1, .int 1, .int 2, .int 3])) c = some (.lst (MOL.map fun (g : Nat) => V.int ((g : Nat) : Int))) := upd_same
        have x1 := Ex.new (o := .lst [V.int 0, .int 0, .int 0, .int 0, .int 0, .int 0, .int 0, .int 0, .int 1, .int 1, .int 2, .int 3]) hc
        have hcp := p4.ne hc
        have p5 := p4.ex x1
        generalize (upd H4 c (.lst [V.int 0, .int 0, .int 0, .int 0, .int 0, .int 0, .int 0, .int 0, .int 1, .int 1, .int 2, .int 3])) = H5 at *
        refine ⟨p, c, n + 51, _, rfl, p5, by omega, f1, hcp, by show 0 < 12; decide, by show 12 ≤ 100000; decide, fun i v H6 hv k6 p6 => ?_⟩
        obtain ⟨m, rfl, hm⟩ := mol_get hv
        exact ⟨m, hm, (k4.ex x1).trans k6, (Ex.kp x1).trans k6, p6, rfl⟩
      rintro σ H5 ⟨m, hm, k5, k45, p5, rfl⟩
      refine ⟨_, rfl, _, rfl, _, rfl, _, rfl, _, rfl, by show 7 ≤ sizeLine; decide, fun c hc => ?_⟩
      have f6 : (upd H5 c (.lst [V.str "near", .str "near", .str "near", .str "near", .str "down", .str "up", .str "zero"])) c = some (.lst (WYL.map fun g => V.str g.str)) := upd_same
      have x6 := Ex.new (o := .lst [V.str "near", .str "near", .str "near", .str "near", .str "down", .str "up", .str "zero"]) hc
      have hcp := p5.ne hc
      have p6 := p5.ex x6
      generalize (upd H5 c (.lst [V.str "near", .str "near", .str "near", .str "near", .str "down", .str "up", .str "zero"])) = H6 at *
      refine ⟨p, c, n + 52, _, rfl, p6, by omega, f6, hcp, by show 0 < 7; decide, by show 7 ≤ 100000; decide, fun i v H7 hv k7 p7 => ?_⟩
      obtain ⟨y, rfl⟩ := wyl_get hv
      refine ⟨by show 5 ≤ sizeLine; decide, fun q hq => ?_⟩
      have ho7 := k7 _ _ (x6 _ _ (k45 _ _ ho4 hop)) hop
      refine k q ⟨nm, g, ops, m, y⟩ _ (((k5.ex x6).trans k7).ex (Ex.new hq)) ((p7.ex (Ex.new hq)).mono (by omega)) ⟨o, upd_same, Ex.new hq _ _ ho7⟩ ⟨hsn, hnew, hol, hoo, fun h => (by rw [eR] at h; cases h), hm, .inr (show f + m ≤ 30 by omega)⟩ rfl
end
end My


set_option Elab.async false
set_option maxRecDepth 100000
set_option maxHeartbeats 2000000
set_option exponentiation.threshold 6000
namespace My
open PySem L2 Evl TL PyProof.Rows LiI
theorem asc_lt {xs : List Int} (h : xs.Pairwise (· < ·)) {i j : Nat} {x y : Int} (hx : xs[i]? = some x) (hy : xs[j]? = some y) (hij : i < j) : x < y := by
  obtain ⟨h1, e1⟩ := List.getElem?_eq_some_iff.mp hx
  obtain ⟨h2, e2⟩ := List.getElem?_eq_some_iff.mp hy
  have := (List.pairwise_iff_getElem.mp h) i j h1 h2 hij
  rw [e1, e2] at this
  exact this
theorem asc_le {xs : List Int} (h : xs.Pairwise (· < ·)) {i k : Nat} {x y : Int} (hx : xs[i]? = some x) (hy : xs[i + k]? = some y) : x ≤ y := by
  cases k with
  | zero => rw [Nat.add_zero, hx] at hy; cases hy; exact Int.le_refl _
  | succ k => exact Int.le_of_lt (asc_lt h hx hy (by omega))
theorem asc_within {xs : List Int} (h : xs.Pairwise (· < ·)) {i k : Nat} {lo hi : Int} (hlo : xs[i]? = some lo) (hhi : xs[i + k]? = some hi) : (within lo hi xs).length ≤ k + 1 := by
  have e1 : xs = xs.take i ++ ((xs.drop i).take (k + 1) ++ (xs.drop i).drop (k + 1)) := by rw [List.take_append_drop, List.take_append_drop]
  have n1 : within lo hi (xs.take i) = [] := by
    unfold within
    rw [List.filter_eq_nil_iff]
    intro x hx
    obtain ⟨j, hj⟩ := List.getElem?_of_mem hx
    have hji : j < i := by
      have := (List.getElem?_eq_some_iff.mp hj).1
      rw [List.length_take] at this
      omega
    rw [List.getElem?_take_of_lt hji] at hj
    have := asc_lt h hj hlo hji
    rw [decide_eq_false (show ¬ lo ≤ x by omega), Bool.false_and]
    decide
  have n2 : within lo hi ((xs.drop i).drop (k + 1)) = [] := by
    unfold within
    rw [List.filter_eq_nil_iff]
    intro x hx
    obtain ⟨j, hj⟩ := List.getElem?_of_mem hx
    rw [List.getElem?_drop, List.getElem?_drop] at hj
    have := asc_lt h hhi hj (by omega)
    rw [decide_eq_false (show ¬ x ≤ hi by omega), Bool.and_false]
    decide
  rw [e1]
  have e2 : within lo hi (xs.take i ++ ((xs.drop i).take (k + 1) ++ (xs.drop i).drop (k + 1))) = within lo hi (xs.take i) ++ (within lo hi ((xs.drop i).take (k + 1)) ++ within lo hi ((xs.drop i).drop (k + 1))) := by
    unfold within
    rw [List.filter_append, List.filter_append]
  rw [e2, n1, n2, List.nil_append, List.append_nil]
  unfold within
  exact Nat.le_trans (List.length_filter_le _ _) (by rw [List.length_take]; exact Nat.min_le_left _ _)
theorem ins_ok {b f r : Nat} : ∀ {ins : List Inp} {names : List Str}, (∀ i ∈ ins, i.nm ∈ IN ∧ OnG b (b ^ f) ((b ^ f - 1) * b ^ r) i.lo ∧ OnG b (b ^ f) ((b ^ f - 1) * b ^ r) i.hi ∧ i.lo ≤ i.hi) → (ins.map Inp.nm).Nodup → (∀ x ∈ ins.map Inp.nm, x ∉ names) → InpsOk b f r names ins
  | [], _, _, _, _ => trivial
  | i :: is, names, h, hd, hn => by
    obtain ⟨h1, h2, h3, h4⟩ := h i List.mem_cons_self
    obtain ⟨d1, d2⟩ := List.nodup_cons.mp hd
    refine ⟨⟨h1, hn _ List.mem_cons_self, h2, h3, h4⟩, ins_ok (fun j hj => h j (List.mem_cons_of_mem _ hj)) d2 fun x hx z => ?_⟩
    rcases List.mem_append.mp z with z | z
    · exact hn x (List.mem_cons_of_mem _ hx) z
    · rw [List.mem_singleton.mp z] at hx
      exact d1 hx
/-- the heap in the law's loop over names -/
structure RS (p R ev la : Addr) (b f r : Nat) (H H' : Hp) (n : Nat) (qi : List Addr) (ins : List Inp) : Prop where
  kp : Kp p H H'
  pot : PotAt H' p n
  rows : H' R = some (.lst (rv qi))
  each : Each InpAt H' qi ins
  ev : H' ev = some (.lst (iv (rgs b (b ^ f) r)))
  la : H' la = some (.lst (iv (lad b (b ^ f) r)))
theorem RS.step {p R ev la : Addr} {b f r : Nat} {H H' H2 : Hp} {n m : Nat} {qi : List Addr} {ins : List Inp} (h : RS p R ev la b f r H H' n qi ins) (hR : R ≠ p) (he : ev ≠ p) (hl : la ≠ p) (k : Kp p H' H2) (q : PotAt H2 p m) : RS p R ev la b f r H H2 m qi ins :=
  ⟨h.kp.trans k, q, k _ _ h.rows hR, ⟨h.each.1, fun i q' x h1 h2 => k _ _ (h.each.2 i q' x h1 h2) (ne_tup (h.each.2 i q' x h1 h2) h.pot)⟩, k _ _ h.ev he, k _ _ h.la hl⟩
theorem RS.ex {p R ev la : Addr} {b f r : Nat} {H H' H2 : Hp} {n : Nat} {qi : List Addr} {ins : List Inp} (h : RS p R ev la b f r H H' n qi ins) (e : Ex H' H2) : RS p R ev la b f r H H2 n qi ins :=
  ⟨h.kp.ex e, h.pot.ex e, e _ _ h.rows, h.each.ex (fun h e => h.ex e) e, e _ _ h.ev, e _ _ h.la⟩
def sp_ranges : Sp := fun vs H Q _ => ∃ (p t : Addr) (n b f r pl mo : Nat), vs = [.ref p, .ref t, .int (mo : Int)] ∧ (1 ≤ mo ∧ mo ≤ 60) ∧ PotAt H p n ∧ n + 100 ≤ 100000 ∧ H t = some (.tup [.int b, .int f, .int r, .int pl]) ∧ okg b f r ∧ b ^ f ≤ 1000 ∧
  ∀ (R : Addr) (qi : List Addr) (ins : List Inp) H', H R = none → Kp p H H' → PotAt H' p (n + 60) → H' R = some (.lst (rv qi)) → Each InpAt H' qi ins → InpsOk b f r [] ins → 1 ≤ ins.length → ins.length ≤ 3 →
    (∃ s : Nat, 1 ≤ s ∧ s ^ ins.length ≤ 60 ∧ ∀ i ∈ ins, (within i.lo i.hi (rgs b (b ^ f) r)).length ≤ s) → Q (.ref R) H'
section
variable {P : Program} {w : World} {K : PySem.W.Frag} {mg : Str → Option Value} {base : Heap} {a : Ad}
theorem ok_l_program_ranges (T : Txt K mg a) : FnOk P w K mg base CX0 3 a.l_program_ranges a.l_program_ranges_fd ["pot", "grid", "most"] sp_ranges := by
  refine T.F_l_program_ranges.ok sc_l_program_ranges (fun vs H Q E h => ?_) (fun cdv A outer s H vs Q E hr h => ?_)
  · obtain ⟨p, t, n, b, f, r, pl, mo, rfl, _⟩ := h
    rfl
  · obtain ⟨p, t, n, b, f, r, pl, mo, rfl, hmo, hp, hn, ht, hok, hL, k⟩ := h
    refine ⟨_, (pss_cut (ps_par (i := 3) (j := 4) (by rfl) sc_l_program_ranges.nd rfl rfl (by decide) rfl rfl (pa_cons (pe_call (ok_l_of T) (hr.mono (by decide)) rfl T.g_l_of T.k_l_of T.B_l_of .nil pass0 (pa_cons (pv 0) (pa_cons (pe_lst (pa_cons pe_int (pa_cons pe_int (pa_cons pe_int (pa_cons pe_int (pa_cons pe_int pa_nil)))))) pa_nil))) (pa_cons pe_int pa_nil)) (by rfl))
      (pss_cons (ps_while PassesOwn.never (pt_cmpR op_le (pe_ix ix_list (pe_lst (pa_cons (pe_op op_add (pv 4) pe_int) (pa_cons (pe_op op_mulW (pe_op op_add (pv 4) pe_int) (pe_op op_add (pv 4) pe_int)) (pa_cons (pe_op op_mulW (pe_op op_mulW (pe_op op_add (pv 4) pe_int) (pe_op op_add (pv 4) pe_int)) (pe_op op_add (pv 4) pe_int)) pa_nil)))) (pe_op op_sub (pv 3) pe_int) (fun _ _ => rfl)) (pv 2) (nomark _)) (pss_one (ps_set (i := 4) sc_l_program_ranges.nd rfl (Or.inl rfl) (pe_op op_add (pv 4) pe_int))))
      (pss_cut (ps_par3 (i := 5) (j := 6) (l := 7) rfl sc_l_program_ranges.nd rfl rfl rfl (by decide) (by decide) (by decide) rfl rfl rfl (pa_cons (pe_call (ok_l_grid_ladder T) (hr.mono (by decide)) rfl T.g_l_grid_ladder T.k_l_grid_ladder T.B_l_grid_ladder .nil pass0 (pa_cons (pv 1) pa_nil)) (pa_cons (pe_call (ok_l_grid_power T) (hr.mono (by decide)) rfl T.g_l_grid_power T.k_l_grid_power T.B_l_grid_power .nil pass0 (pa_cons (pe_ix ix_tup (pv 1) pe_int (fun _ _ => rfl)) (pa_cons (pe_ix ix_tup (pv 1) pe_int (fun _ _ => rfl)) pa_nil))) (pa_cons (pe_lst pa_nil) pa_nil))) (by rfl))
      (pss_cut (ps_set (i := 8) sc_l_program_ranges.nd rfl (Or.inl rfl) (pe_op op_cat (pe_lc (own := [("number", 13)]) (g := gName 13) (by rfl) sc_l_program_ranges.nd (pi_list (pe_pick (pv 5) po_none (po_some pe_int) (po_some (pe_un un_neg pe_int)))) (blkOk_by (own := [("number", 13)]) (N := N_l_program_ranges) (sc := defScope s_l_program_ranges) (by decide +kernel)) (fun _ _ _ _ _ => pg_name (i := 13) sc_l_program_ranges.nd rfl (Or.inl rfl)) (fun _ _ _ _ _ => pts_nil) (fun _ _ _ _ _ => (pe_un un_neg (pv 13)))) (pv 5)))
      (pss_cons (ps_for PassesOwn.never rfl (pi_list (pe_slice sl_list (pe_lst (pa_cons pe_str (pa_cons pe_str (pa_cons pe_str pa_nil)))) po_none (po_some (pv 3)))) (pg_name (i := 9) sc_l_program_ranges.nd rfl (Or.inl rfl)) (pss_cut (ps_set (i := 10) sc_l_program_ranges.nd rfl (Or.inl rfl) (pe_callB (call_min2 rfl) (by rfl) T.n_min (by decide +kernel) (pa_cons (pe_callB call_len_seq (by rfl) T.n_len (by decide +kernel) (pa_cons (pv 8) pa_nil)) (pa_cons (pe_call (ok_l_of T) (hr.mono (by decide)) rfl T.g_l_of T.k_l_of T.B_l_of .nil pass0 (pa_cons (pv 0) (pa_cons (pe_lst (pa_cons (pv 4) (pa_cons (pv 4) (pa_cons (pv 4) (pa_cons (pe_op op_add pe_int (pe_call (ok_l_take T) (hr.mono (by decide)) rfl T.g_l_take T.k_l_take T.B_l_take .nil pass0 (pa_cons (pv 0) (pa_cons (pv 4) pa_nil)))) pa_nil))))) pa_nil))) pa_nil))))
      (pss_cut (ps_set (i := 11) sc_l_program_ranges.nd rfl (Or.inl rfl) (pe_op op_add (pe_op op_sub (pe_callB call_len_seq (by rfl) T.n_len (by decide +kernel) (pa_cons (pv 5) pa_nil)) pe_int) (pe_call (ok_l_of T) (hr.mono (by decide)) rfl T.g_l_of T.k_l_of T.B_l_of .nil pass0 (pa_cons (pv 0) (pa_cons (pe_lst (pa_cons pe_int (pa_cons (pe_op op_fdivW (pv 6) pe_int) (pa_cons (pe_op op_sub (pv 6) pe_int) (pa_cons (pe_op op_sub (pv 6) pe_int) (pa_cons (pe_call (ok_l_take T) (hr.mono (by decide)) rfl T.g_l_take T.k_l_take T.B_l_take .nil pass0 (pa_cons (pv 0) (pa_cons (pe_callB call_len_seq (by rfl) T.n_len (by decide +kernel) (pa_cons (pv 5) pa_nil)) pa_nil))) pa_nil)))))) pa_nil)))))
      (pss_cut (ps_set (i := 12) sc_l_program_ranges.nd rfl (Or.inl rfl) (pe_call (ok_l_of T) (hr.mono (by decide)) rfl T.g_l_of T.k_l_of T.B_l_of .nil pass0 (pa_cons (pv 0) (pa_cons (pe_lst (pa_cons (pe_op op_sub (pv 11) (pe_call (ok_l_take T) (hr.mono (by decide)) rfl T.g_l_take T.k_l_take T.B_l_take .nil pass0 (pa_cons (pv 0) (pa_cons (pv 10) pa_nil)))) (pa_cons (pe_call (ok_l_take T) (hr.mono (by decide)) rfl T.g_l_take T.k_l_take T.B_l_take .nil pass0 (pa_cons (pv 0) (pa_cons (pe_callB call_len_seq (by rfl) T.n_len (by decide +kernel) (pa_cons (pv 8) pa_nil)) pa_nil))) (pa_cons (pv 11) pa_nil)))) pa_nil))))
      (pss_cut (ps_set (i := 12) sc_l_program_ranges.nd rfl (Or.inl rfl) (pe_callB (call_max2 rfl) (by rfl) T.n_max (by decide +kernel) (pa_cons pe_int (pa_cons (pe_callB (call_min2 rfl) (by rfl) T.n_min (by decide +kernel) (pa_cons (pv 12) (pa_cons (pe_op op_sub (pe_callB call_len_seq (by rfl) T.n_len (by decide +kernel) (pa_cons (pv 8) pa_nil)) (pv 10)) pa_nil))) pa_nil))))
      (pss_one (ps_expr (pe_bm PySem.F.plainAttrs_list PySem.F.slot_list_append PySem.F.type_list_append mt_append (pv 7) (pa_cons (pe_tup (pa_cons (pv 9) (pa_cons (pe_ix ix_list (pv 8) (pv 12) (fun _ _ => rfl)) (pa_cons (pe_ix ix_list (pv 8) (pe_op op_sub (pe_op op_add (pv 12) (pv 10)) pe_int) (fun _ _ => rfl)) pa_nil)))) pa_nil)))))))))
      (pss_one (ps_ret (pv 7)))))))), ?_⟩
    have hne : t ≠ p := ne_tup ht hp
    obtain ⟨hb, ub, f1, uf, ur⟩ := id hok
    refine ⟨fun σ H' => ∃ m : Nat, 1 ≤ m ∧ m ≤ 3 ∧ Kp p H H' ∧ PotAt H' p (n + 1) ∧ σ = [some (.ref p), some (.ref t), some (.int (mo : Int)), some (.int (m : Int)), some (.int 1), none, none, none, none, none, none, none, none, none], ?_, ?_⟩
    · refine ⟨_, rfl, by show 5 ≤ sizeLine; decide, fun c hc => ?_⟩
      have x1 := Ex.new (o := .lst [V.int 1, .int 2, .int 2, .int 2, .int 3]) hc
      have f1 : (upd H c (.lst [V.int 1, .int 2, .int 2, .int 2, .int 3])) c = some (.lst [V.int 1, .int 2, .int 2, .int 2, .int 3]) := upd_same
      have hcp := hp.ne hc
      have p1 := hp.ex x1
      generalize (upd H c (.lst [V.int 1, .int 2, .int 2, .int 2, .int 3])) = H1 at *
      refine ⟨p, c, n, _, rfl, p1, by omega, f1, hcp, by show 0 < 5; decide, by show 5 ≤ 100000; decide, fun i v H2 hv k2 p2 => ⟨_, _, rfl, ?_⟩⟩
      match i, hv with
      | 0, hv => cases hv; exact ⟨1, by omega, by omega, (Ex.kp x1).trans k2, p2, rfl⟩
      | 1, hv => cases hv; exact ⟨2, by omega, by omega, (Ex.kp x1).trans k2, p2, rfl⟩
      | 2, hv => cases hv; exact ⟨2, by omega, by omega, (Ex.kp x1).trans k2, p2, rfl⟩
      | 3, hv => cases hv; exact ⟨2, by omega, by omega, (Ex.kp x1).trans k2, p2, rfl⟩
      | 4, hv => cases hv; exact ⟨3, by omega, by omega, (Ex.kp x1).trans k2, p2, rfl⟩
    rintro σ H1 ⟨m, m1, m3, k1, p1, rfl⟩
    -- the size
    refine ⟨fun c σ H' => ∃ s : Nat, 1 ≤ s ∧ s ^ m ≤ mo ∧ c = mo + 1 - s ∧ Kp p H H' ∧ PotAt H' p (n + 1) ∧ σ = [some (.ref p), some (.ref t), some (.int (mo : Int)), some (.int (m : Int)), some (.int (s : Int)), none, none, none, none, none, none, none, none, none],
      ⟨_, 1, Nat.le_refl 1, by rw [Nat.one_pow]; exact hmo.1, rfl, k1, p1, rfl⟩, ?_⟩
    rintro c σ H2 ⟨s, s1, s60, rfl, k2, p2, rfl⟩
    have s6 : s ≤ 60 := Nat.le_trans (Nat.le_trans (by
      have := Nat.pow_le_pow_right s1 m1
      rw [Nat.pow_one] at this
      exact this) s60) hmo.2
    have sz1 : ((s : Int) + 1).natAbs < 2 ^ 5000 := p5000 (k := 10) (by omega)
    have sz2 : (((s : Int) + 1) * ((s : Int) + 1)).natAbs < 2 ^ 5000 := p5000 (k := 20) (by
      have e : ((s : Int) + 1).natAbs = s + 1 := by omega
      rw [Int.natAbs_mul, e]
      have := Nat.mul_le_mul (show s + 1 ≤ 61 by omega) (show s + 1 ≤ 61 by omega)
      omega)
    refine ⟨_, rfl, _, _, rfl, rfl, _, rfl, _, _, rfl, rfl, _, rfl, _, _, rfl, rfl, _, _, rfl, rfl, wm sz1 sz1, ?_⟩
    refine ⟨_, rfl, _, _, rfl, rfl, _, rfl, _, _, rfl, rfl, _, _, rfl, rfl, wm sz1 sz1, _, rfl, _, _, rfl, rfl, _, _, rfl, rfl, wm sz2 sz1, by show 3 ≤ sizeLine; decide, fun c hc => ?_⟩
    have f3 : (upd H2 c (.lst [V.int ((s : Int) + 1), V.int (((s : Int) + 1) * ((s : Int) + 1)), V.int (((s : Int) + 1) * ((s : Int) + 1) * ((s : Int) + 1))])) c = some (.lst [V.int ((s : Int) + 1), V.int (((s : Int) + 1) * ((s : Int) + 1)), V.int (((s : Int) + 1) * ((s : Int) + 1) * ((s : Int) + 1))]) := upd_same
    have x3 := Ex.new (o := .lst [V.int ((s : Int) + 1), V.int (((s : Int) + 1) * ((s : Int) + 1)), V.int (((s : Int) + 1) * ((s : Int) + 1) * ((s : Int) + 1))]) hc
    have k3 := k2.ex x3
    have p3 := p2.ex x3
    generalize (upd H2 c (.lst [V.int ((s : Int) + 1), V.int (((s : Int) + 1) * ((s : Int) + 1)), V.int (((s : Int) + 1) * ((s : Int) + 1) * ((s : Int) + 1))])) = H3 at *
    have hat : atI [V.int ((s : Int) + 1), V.int (((s : Int) + 1) * ((s : Int) + 1)), V.int (((s : Int) + 1) * ((s : Int) + 1) * ((s : Int) + 1))] ((m : Int) - 1) = some (.int (((s + 1) ^ m : Nat) : Int)) := by
      have e1 : (((s + 1 : Nat) : Int)) = (s : Int) + 1 := by omega
      have : m = 1 ∨ m = 2 ∨ m = 3 := by omega
      rcases this with rfl | rfl | rfl
      · rw [Nat.pow_one, e1]; rfl
      · rw [Nat.pow_succ, Nat.pow_one, Int.natCast_mul, e1]; rfl
      · rw [Nat.pow_succ, Nat.pow_succ, Nat.pow_one, Int.natCast_mul, Int.natCast_mul, e1]; rfl
    refine ⟨_, rfl, _, _, rfl, rfl, c, _, _, _, rfl, rfl, SqL.of f3, hat, _, rfl, _, _, rfl, rfl, _, rfl, ?_⟩
    refine ite2 (fun hc => ?_) (fun hc => ?_)
    · have hc : (s + 1) ^ m ≤ mo := Int.ofNat_le.mp (of_decide_eq_true hc)
      refine ⟨fun σ' H4 => H4 = H3 ∧ σ' = [some (.ref p), some (.ref t), some (.int (mo : Int)), some (.int (m : Int)), some (.int ((s + 1 : Nat) : Int)), none, none, none, none, none, none, none, none, none], ?_, ?_⟩
      · rintro σ' H4 ⟨rfl, rfl⟩
        have hsm : s + 1 ≤ mo := Nat.le_trans (by
          have := Nat.pow_le_pow_right (n := s + 1) (by omega) m1
          rw [Nat.pow_one] at this
          exact this) hc
        exact ⟨mo + 1 - (s + 1), by omega, s + 1, by omega, hc, rfl, k3, p3, rfl⟩
      · exact ⟨_, rfl, _, _, rfl, rfl, rfl, rfl⟩
    have lad9 := lad_len b (b ^ f) r
    have llen2 : b ^ f * (r + 1) ≤ 1000 * 61 := Nat.mul_le_mul hL (by omega)
    have sz9 : 61000 < sizeLine := by decide
    have ladl : (lad b (b ^ f) r).length ≤ 61000 := by omega
    obtain ⟨lx, hlx⟩ := lad_cons hb f1 r
    have lad1 : 1 ≤ (lad b (b ^ f) r).length := by rw [hlx]; exact Nat.succ_pos _
    have rgl : (rgs b (b ^ f) r).length ≤ 122000 := by
      unfold rgs
      rw [List.length_append, List.length_map, List.length_reverse, List.length_drop]
      omega
    have rgl1 : 1 ≤ (rgs b (b ^ f) r).length := by
      unfold rgs
      rw [List.length_append]
      omega
    refine ⟨fun σ H' => ∃ la R, Kp p H H' ∧ PotAt H' p (n + 1) ∧ H' la = some (.lst (iv (lad b (b ^ f) r))) ∧ H' R = some (.lst []) ∧ H R = none ∧ la ≠ R ∧ R ≠ p ∧ la ≠ p ∧ σ = [some (.ref p), some (.ref t), some (.int (mo : Int)), some (.int (m : Int)), some (.int (s : Int)), some (.ref la), some (.int ((b ^ f : Nat) : Int)), some (.ref R), none, none, none, none, none, none], ?_, ?_⟩
    · refine ⟨_, rfl, t, b, f, r, pl, rfl, TG.kp ht k3 hne, hok, hL, fun la H4 hla e4 hla4 => ?_⟩
      have k4 := k3.ex e4
      have p4 := p3.ex e4
      refine ⟨_, rfl, t, _, _, _, rfl, rfl, TG.kp ht k4 hne, g0, _, rfl, t, _, _, _, rfl, rfl, TG.kp ht k4 hne, g1, b, f, rfl, ub, by omega, fun H5 e5 => ⟨by show 0 ≤ sizeLine; decide, fun R hR => ⟨_, _, _, rfl, ?_⟩⟩⟩
      have k5 := k4.ex e5
      have p5 := p4.ex e5
      have hla5 := e5 _ _ hla4
      have hRp := p5.ne hR
      refine ⟨la, R, k5.ex (Ex.new hR), p5.ex (Ex.new hR), Ex.new hR _ _ hla5, upd_same, k5.back hR hRp, (fun z => by rw [z, hR] at hla5; cases hla5), hRp, p3.ne hla, rfl⟩
    rintro σ H4 ⟨la, R, k4, p4, hla, hR, hR0, hlaR, hRp, hlap, rfl⟩
    refine ⟨fun σ H' => ∃ ev, Ex H4 H' ∧ H' ev = some (.lst (iv (rgs b (b ^ f) r))) ∧ H4 ev = none ∧ σ = [some (.ref p), some (.ref t), some (.int (mo : Int)), some (.int (m : Int)), some (.int (s : Int)), some (.ref la), some (.int ((b ^ f : Nat) : Int)), some (.ref R), some (.ref ev), none, none, none, none, none], ?_, ?_⟩
    · have hpk : pickV (iv (lad b (b ^ f) r)) none (some 0) (some (-1)) = iv ((lad b (b ^ f) r).drop 1).reverse := by
        rw [pick_back _ (by rw [iv_len]; exact lad1)]
        unfold iv
        rw [List.map_reverse, List.map_drop]
      refine ⟨_, rfl, _, rfl, _, rfl, _, rfl, la, _, rfl, SqL.of hla, by decide, fun q hq => ?_⟩
      rw [hpk]
      have e5 := Ex.new (o := .lst (iv ((lad b (b ^ f) r).drop 1).reverse)) hq
      have h5q : (upd H4 q (.lst (iv ((lad b (b ^ f) r).drop 1).reverse))) q = some (.lst (iv ((lad b (b ^ f) r).drop 1).reverse)) := upd_same
      have h5 := e5 _ _ hla
      generalize (upd H4 q (.lst (iv ((lad b (b ^ f) r).drop 1).reverse))) = H5 at *
      refine ⟨q, rfl, ⟨_, SqL.of h5q⟩, fun D hD => lc_list (K := K) (a := q) (xs := iv ((lad b (b ^ f) r).drop 1).reverse) (fun i H' => Ex H5 H' ∧ H' D = some (.lst (iv ((((lad b (b ^ f) r).drop 1).reverse.take i).map fun x => -x)))) ⟨Ex.new hD, upd_same⟩ (fun i H' _ z => SqL.of (z.1 _ _ h5q)) ?_ ?_⟩
      · rintro i v H' hv ⟨e6, h6⟩
        obtain ⟨x, hx, rfl⟩ := iv_get hv
        refine ⟨rfl, ?_⟩
        dsimp only [tYes]
        refine iteT ?_
        refine ⟨_, rfl, _, rfl, _, h6, Nat.lt_of_le_of_lt (by rw [iv_len, List.length_map, List.length_take, List.length_reverse, List.length_drop]; omega) sz9, Ex.mut e6 hD, ?_⟩
        rw [upd_same, List.take_add_one, hx, List.map_append]
        exact congrArg (fun q => some (HO.lst q)) (by unfold iv; rw [List.map_append]; rfl)
      · rintro H6 ⟨e6, h6⟩
        rw [iv_len, List.take_length] at h6
        refine ⟨_, rfl, D, la, _, _, rfl, rfl, h6, e6 _ _ h5, ?_, fun z hz => ?_⟩
        · have sz12 : 122000 ≤ sizeLine := by decide
          refine Nat.le_trans ?_ sz12
          rw [iv_len, iv_len, List.length_map, List.length_reverse, List.length_drop]
          omega
        · refine ⟨z, (e5.trans e6).trans (Ex.new hz), ?_, fresh_back (e5.trans e6) hz, rfl⟩
          rw [upd_same, iv_ext]
          rfl
    rintro σ H5 ⟨ev, e5, hev, hev0, rfl⟩
    have hevR : ev ≠ R := fun z => by rw [z, hR] at hev0; cases hev0
    have hevp := p4.ne hev0
    have asc := rgs_asc hb f1 (b := b) r
    refine ⟨by show 3 ≤ sizeLine; decide, fun c hc => ?_⟩
    have x6 := Ex.new (o := .lst [V.str "a", .str "b", .str "c"]) hc
    have f6 : (upd H5 c (.lst [V.str "a", .str "b", .str "c"])) c = some (.lst (sv IN)) := upd_same
    have R5 : RS p R ev la b f r H H5 (n + 1) [] [] := ⟨k4.ex e5, p4.ex e5, e5 _ _ hR, Each.nil, hev, e5 _ _ hla⟩
    have R6 := R5.ex x6
    generalize (upd H5 c (.lst [V.str "a", .str "b", .str "c"])) = H6 at *
    refine ⟨_, rfl, _, rfl, c, _, rfl, SqL.of f6, fun c2 hc2 => ?_⟩
    have ec : cutV (sv IN) none (some (m : Int)) = sv (IN.take m) := (cut_take _ m).trans (sv_take _ _)
    rw [ec]
    have x7 := Ex.new (o := .lst (sv (IN.take m))) hc2
    have f7 : (upd H6 c2 (.lst (sv (IN.take m)))) c2 = some (.lst (sv (IN.take m))) := upd_same
    have R7 := R6.ex x7
    have hc2p := R6.pot.ne hc2
    have hc2R : c2 ≠ R := fun z => by have := R6.rows; rw [← z, hc2] at this; cases this
    generalize (upd H6 c2 (.lst (sv (IN.take m)))) = H7 at *
    have hIN : (IN.take m).length = m := by rw [List.length_take]; show min m 3 = m; omega
    refine ⟨c2, rfl, ⟨_, SqL.of f7⟩, for_list (K := K) (a := c2) (xs := sv (IN.take m)) (fun i σ H' => ∃ qi ins v9 v10 v11 v12 v13, RS p R ev la b f r H H' (n + 1 + 10 * i) qi ins ∧ H' c2 = some (.lst (sv (IN.take m))) ∧ ins.map Inp.nm = (IN.take m).take i ∧ (∀ i ∈ ins, OnG b (b ^ f) ((b ^ f - 1) * b ^ r) i.lo ∧ OnG b (b ^ f) ((b ^ f - 1) * b ^ r) i.hi ∧ i.lo ≤ i.hi ∧ (within i.lo i.hi (rgs b (b ^ f) r)).length ≤ s) ∧ σ = [some (.ref p), some (.ref t), some (.int (mo : Int)), some (.int (m : Int)), some (.int (s : Int)), some (.ref la), some (.int ((b ^ f : Nat) : Int)), some (.ref R), some (.ref ev),  v9, v10, v11, v12, v13]) ⟨[], [], _, _, _, _, _, R7, f7, rfl, fun i hi => (by cases hi), rfl⟩ (fun i σ H' _ z => by obtain ⟨_, _, _, _, _, _, _, _, e, _⟩ := z; exact SqL.of e) ?_ ?_⟩
    · rintro i v σ H8 hv ⟨qi, ins, v9, v10, v11, v12, v13, R8, hc8, hnm, hin, rfl⟩
      obtain ⟨nm, hnmx, rfl⟩ := sv_getI hv
      have him : i < m := by have := (List.getElem?_eq_some_iff.mp hnmx).1; omega
      -- how wide
      refine ⟨fun σ H' => ∃ wd : Nat, 1 ≤ wd ∧ wd ≤ s ∧ wd ≤ (rgs b (b ^ f) r).length ∧ RS p R ev la b f r H H' (n + 1 + 10 * i + 2) qi ins ∧ H' c2 = some (.lst (sv (IN.take m))) ∧ σ = [some (.ref p), some (.ref t), some (.int (mo : Int)), some (.int (m : Int)), some (.int (s : Int)), some (.ref la), some (.int ((b ^ f : Nat) : Int)), some (.ref R), some (.ref ev),  some (.str nm), some (.int (wd : Int)), v11, v12, v13], ?_, ?_⟩
      · refine ⟨_, rfl, ev, _, rfl, .inl (SqL.of R8.ev), _, rfl, _, rfl, _, rfl, _, rfl, _, rfl, _, rfl, p, (s : Int), _, rfl, R8.pot, by omega, by omega, Nat.lt_of_le_of_lt (show ((s : Int)).natAbs ≤ 60 by omega) (by decide +kernel), fun d H9 k9 p9 d0 ds => ?_⟩
        have Ra := R8.step hRp hevp hlap k9 p9
        refine ⟨_, _, rfl, rfl, by show 4 ≤ sizeLine; decide, fun c3 hc3 => ?_⟩
        have y1 := Ex.new (o := .lst [V.int (s : Int), V.int (s : Int), V.int (s : Int), V.int (1 + d)]) hc3
        have g1' : (upd H9 c3 (.lst [V.int (s : Int), V.int (s : Int), V.int (s : Int), V.int (1 + d)])) c3 = some (.lst [V.int (s : Int), V.int (s : Int), V.int (s : Int), V.int (1 + d)]) := upd_same
        have hc3p := p9.ne hc3
        have Rb := Ra.ex y1
        have hcb := y1 _ _ (k9 _ _ hc8 hc2p)
        generalize (upd H9 c3 (.lst [V.int (s : Int), V.int (s : Int), V.int (s : Int), V.int (1 + d)])) = H10 at *
        refine ⟨p, c3, _, _, rfl, Rb.pot, by omega, g1', hc3p, by show 0 < 4; decide, by show 4 ≤ 100000; decide, fun i' v' H11 hv' k11 p11 => ?_⟩
        obtain ⟨z, rfl, z1, z2⟩ : ∃ z : Int, v' = .int z ∧ 1 ≤ z ∧ z ≤ (s : Int) := by
          match i', hv' with
          | 0, hv => cases hv; exact ⟨_, rfl, by omega, by omega⟩
          | 1, hv => cases hv; exact ⟨_, rfl, by omega, by omega⟩
          | 2, hv => cases hv; exact ⟨_, rfl, by omega, by omega⟩
          | 3, hv => cases hv; exact ⟨_, rfl, by omega, by omega⟩
        have Rc := Rb.step hRp hevp hlap k11 p11
        have hcc := k11 _ _ hcb hc2p
        refine ⟨_, _, rfl, ?_⟩
        obtain ⟨wd, hw1, hw2, hw3, hw4⟩ : ∃ wd : Nat, (if z < ((iv (rgs b (b ^ f) r)).length : Int) then z else ((iv (rgs b (b ^ f) r)).length : Int)) = (wd : Int) ∧ 1 ≤ wd ∧ wd ≤ s ∧ wd ≤ (rgs b (b ^ f) r).length := by
          rw [iv_len]
          refine ⟨(if z < ((rgs b (b ^ f) r).length : Int) then z else ((rgs b (b ^ f) r).length : Int)).toNat, ?_, ?_, ?_, ?_⟩ <;> split <;> omega
        rw [hw1]
        exact ⟨wd, hw2, hw3, hw4, ⟨Rc.kp, Rc.pot.mono (by omega), Rc.rows, Rc.each, Rc.ev, Rc.la⟩, hcc, rfl⟩
      rintro σ H9 ⟨wd, wd1, wds, wdl, R9, hc9, rfl⟩
      have wsz : ((wd : Nat) : Int).natAbs < 2 ^ 2400 := by rw [Int.natAbs_natCast]; exact p4000 (k := 20) (by omega)
      have esz : (((iv (rgs b (b ^ f) r)).length : Nat) : Int).natAbs < 2 ^ 2400 := by rw [Int.natAbs_natCast, iv_len]; exact p4000 (k := 20) (by omega)
      have lsz : (((iv (lad b (b ^ f) r)).length : Nat) : Int).natAbs < 2 ^ 2400 := by rw [Int.natAbs_natCast, iv_len]; exact p4000 (k := 20) (by omega)
      have e1 : (0 : Int) < (((iv (rgs b (b ^ f) r)).length : Nat) : Int) := by rw [iv_len]; omega
      have l1 : (0 : Int) < (((iv (lad b (b ^ f) r)).length : Nat) : Int) := by rw [iv_len]; omega
      -- around where
      refine ⟨fun σ H' => ∃ mi : Int, RS p R ev la b f r H H' (n + 1 + 10 * i + 4) qi ins ∧ H' c2 = some (.lst (sv (IN.take m))) ∧ σ = [some (.ref p), some (.ref t), some (.int (mo : Int)), some (.int (m : Int)), some (.int (s : Int)), some (.ref la), some (.int ((b ^ f : Nat) : Int)), some (.ref R), some (.ref ev),  some (.str nm), some (.int (wd : Int)), some (.int mi), v12, v13], ?_, ?_⟩
      · refine ⟨_, rfl, la, _, rfl, .inl (SqL.of R9.la), _, _, rfl, rfl, _, rfl, _, rfl, _, _, rfl, rfl, My.wd (by decide) (p5000 (k := 4) (by decide)), _, rfl, _, _, rfl, rfl, _, rfl, _, _, rfl, rfl, _, rfl, _, rfl, la, _, rfl, .inl (SqL.of R9.la), p, _, _, rfl, R9.pot, by omega, l1, lsz, fun d H10 k10 p10 d0 ds => ⟨by show 5 ≤ sizeLine; decide, fun c3 hc3 => ?_⟩⟩
        have Ra := R9.step hRp hevp hlap k10 p10
        have hca := k10 _ _ hc9 hc2p
        have g1' : (upd H10 c3 (.lst [V.int 0, V.int (((b ^ f : Nat) : Int) / 2), V.int (((b ^ f : Nat) : Int) - 1), V.int (((b ^ f : Nat) : Int) - 1), V.int d])) c3 = some (.lst (iv [0, ((b ^ f : Nat) : Int) / 2, ((b ^ f : Nat) : Int) - 1, ((b ^ f : Nat) : Int) - 1, d])) := upd_same
        have y1 := Ex.new (o := .lst [V.int 0, V.int (((b ^ f : Nat) : Int) / 2), V.int (((b ^ f : Nat) : Int) - 1), V.int (((b ^ f : Nat) : Int) - 1), V.int d]) hc3
        have hc3p := p10.ne hc3
        have Rb := Ra.ex y1
        have hcb := y1 _ _ hca
        refine ⟨p, c3, _, _, rfl, Rb.pot, by omega, g1', hc3p, by show 0 < 5; decide, by show 5 ≤ 100000; decide, fun i' v' H11 hv' k11 p11 => ?_⟩
        obtain ⟨z, hz, rfl⟩ := iv_get hv'
        have Rc := Rb.step hRp hevp hlap k11 p11
        exact ⟨_, _, rfl, rfl, _, ⟨Rc.kp, Rc.pot.mono (by omega), Rc.rows, Rc.each, Rc.ev, Rc.la⟩, k11 _ _ hcb hc2p, rfl⟩
      rintro σ H10 ⟨mi, R10, hc10, rfl⟩
      -- from where
      refine ⟨fun σ H' => ∃ st : Int, RS p R ev la b f r H H' (n + 1 + 10 * i + 8) qi ins ∧ H' c2 = some (.lst (sv (IN.take m))) ∧ σ = [some (.ref p), some (.ref t), some (.int (mo : Int)), some (.int (m : Int)), some (.int (s : Int)), some (.ref la), some (.int ((b ^ f : Nat) : Int)), some (.ref R), some (.ref ev),  some (.str nm), some (.int (wd : Int)), some (.int mi), some (.int st), v13], ?_, ?_⟩
      · refine ⟨_, rfl, _, rfl, _, rfl, _, rfl, p, (wd : Int), _, rfl, R10.pot, by omega, by omega, wsz, fun d1 Ha ka pa a0 a1 => ⟨_, _, rfl, rfl, ?_⟩⟩
        have Ra := R10.step hRp hevp hlap ka pa
        refine ⟨_, rfl, _, rfl, ev, _, rfl, .inl (SqL.of Ra.ev), p, _, _, rfl, Ra.pot, by omega, e1, esz, fun d2 Hb kb pb b0 b1 => ⟨_, rfl, by show 3 ≤ sizeLine; decide, fun c3 hc3 => ?_⟩⟩
        have Rb := Ra.step hRp hevp hlap kb pb
        have hcb := kb _ _ (ka _ _ hc10 hc2p) hc2p
        have g1' : (upd Hb c3 (.lst [V.int (mi - d1), V.int d2, V.int mi])) c3 = some (.lst (iv [mi - d1, d2, mi])) := upd_same
        have y1 := Ex.new (o := .lst [V.int (mi - d1), V.int d2, V.int mi]) hc3
        have hc3p := pb.ne hc3
        have Rc := Rb.ex y1
        have hcc := y1 _ _ hcb
        refine ⟨p, c3, _, _, rfl, Rc.pot, by omega, g1', hc3p, by show 0 < 3; decide, by show 3 ≤ 100000; decide, fun i' v' H11 hv' k11 p11 => ?_⟩
        obtain ⟨z, hz, rfl⟩ := iv_get hv'
        have Rd := Rc.step hRp hevp hlap k11 p11
        exact ⟨z, ⟨Rd.kp, Rd.pot.mono (by omega), Rd.rows, Rd.each, Rd.ev, Rd.la⟩, k11 _ _ hcc hc2p, rfl⟩
      rintro σ H11 ⟨st, R11, hc11, rfl⟩
      refine ⟨fun σ H' => ∃ st : Nat, st + wd ≤ (rgs b (b ^ f) r).length ∧ H' = H11 ∧ σ = [some (.ref p), some (.ref t), some (.int (mo : Int)), some (.int (m : Int)), some (.int (s : Int)), some (.ref la), some (.int ((b ^ f : Nat) : Int)), some (.ref R), some (.ref ev),  some (.str nm), some (.int (wd : Int)), some (.int mi), some (.int (st : Int)), v13], ?_, ?_⟩
      · refine ⟨_, rfl, _, rfl, ev, _, rfl, .inl (SqL.of R11.ev), _, rfl, _, _, rfl, rfl, _, _, rfl, _, _, rfl, ?_⟩
        obtain ⟨sn, hs1, hs2⟩ : ∃ sn : Nat, (if (if ((iv (rgs b (b ^ f) r)).length : Int) - (wd : Int) < st then ((iv (rgs b (b ^ f) r)).length : Int) - (wd : Int) else st) > 0 then (if ((iv (rgs b (b ^ f) r)).length : Int) - (wd : Int) < st then ((iv (rgs b (b ^ f) r)).length : Int) - (wd : Int) else st) else 0) = (sn : Int) ∧ sn + wd ≤ (rgs b (b ^ f) r).length := by
          rw [iv_len]
          refine ⟨(if (if ((rgs b (b ^ f) r).length : Int) - (wd : Int) < st then ((rgs b (b ^ f) r).length : Int) - (wd : Int) else st) > 0 then (if ((rgs b (b ^ f) r).length : Int) - (wd : Int) < st then ((rgs b (b ^ f) r).length : Int) - (wd : Int) else st) else 0).toNat, ?_, ?_⟩ <;> split <;> split <;> omega
        rw [hs1]
        exact ⟨sn, hs2, rfl, rfl⟩
      rintro σ H11 ⟨sn, hsn, rfl, rfl⟩
      obtain ⟨lo, hlo⟩ : ∃ x, (rgs b (b ^ f) r)[sn]? = some x := ⟨_, List.getElem?_eq_getElem (by omega)⟩
      obtain ⟨hi, hhi⟩ : ∃ x, (rgs b (b ^ f) r)[sn + (wd - 1)]? = some x := ⟨_, List.getElem?_eq_getElem (by omega)⟩
      have at1 : atI (iv (rgs b (b ^ f) r)) (sn : Int) = some (.int lo) := atN (by unfold iv; rw [List.getElem?_map, hlo]; rfl)
      have at2 : atI (iv (rgs b (b ^ f) r)) ((sn : Int) + (wd : Int) - 1) = some (.int hi) := by
        have e : (sn : Int) + (wd : Int) - 1 = ((sn + (wd - 1) : Nat) : Int) := by omega
        rw [e]
        exact atN (by unfold iv; rw [List.getElem?_map, hhi]; rfl)
      have hqil : qi.length ≤ 3 := by
        have := congrArg List.length hnm
        rw [List.length_map, List.length_take] at this
        rw [R11.each.1]
        omega
      refine ⟨_, rfl, .inl ⟨rfl, _, SqL.of R11.rows⟩, _, rfl, _, rfl, _, rfl, ev, _, _, _, rfl, rfl, SqL.of R11.ev, at1, _, rfl, _, rfl, _, rfl, _, _, rfl, rfl, _, _, rfl, rfl, ev, _, _, _, rfl, rfl, SqL.of R11.ev, at2, by show 3 ≤ sizeLine; decide, fun u hu => ?_⟩
      have y1 := Ex.new (o := .tup [V.str nm, V.int lo, V.int hi]) hu
      have hu1 : InpAt (upd H11 u (.tup [V.str nm, V.int lo, V.int hi])) u ⟨nm, lo, hi⟩ := upd_same
      have Ra := R11.ex y1
      have hca := y1 _ _ hc11
      generalize (upd H11 u (.tup [V.str nm, V.int lo, V.int hi])) = H12 at *
      refine ⟨R, _, _, rfl, rfl, Ra.rows, small1000 (by rw [rv_len]; omega), ?_⟩
      have hc2R' : c2 ≠ R := hc2R
      have hmut : ∀ {c : Addr} {x : Inp}, InpAt H12 c x → InpAt (upd H12 R (.lst (rv qi ++ [.ref u]))) c x := fun {c x} hc => by
        have : c ≠ R := fun z => by unfold InpAt at hc; rw [z, Ra.rows] at hc; cases hc
        unfold InpAt
        rw [upd_ne this]
        exact hc
      refine ⟨qi ++ [u], ins ++ [⟨nm, lo, hi⟩], _, _, _, _, _, ⟨Ra.kp.new hR0, (Ra.pot.upd hRp).mono (by omega), ?_, ?_, ?_, ?_⟩, ?_, ?_, ?_, rfl⟩
      · rw [upd_same]; unfold rv; rw [List.map_append]; rfl
      · exact Each.add ⟨Ra.each.1, fun i' q' x' h1 h2 => hmut (Ra.each.2 i' q' x' h1 h2)⟩ (hmut hu1)
      · rw [upd_ne hevR]; exact Ra.ev
      · rw [upd_ne hlaR]; exact Ra.la
      · rw [upd_ne hc2R']; exact hca
      · rw [List.map_append, hnm, List.take_add_one, hnmx]; rfl
      · intro j hj
        rcases List.mem_append.mp hj with hj | hj
        · exact hin j hj
        · rw [List.mem_singleton.mp hj]
          exact ⟨rgs_on hb f1 (List.mem_of_getElem? hlo), rgs_on hb f1 (List.mem_of_getElem? hhi), asc_le asc hlo hhi, Nat.le_trans (asc_within asc hlo hhi) (by omega)⟩
    · rintro σ H8 ⟨qi, ins, v9, v10, v11, v12, v13, R8, hc8, hnm, hin, rfl⟩
      have hnm : ins.map Inp.nm = IN.take m := by rw [hnm, List.take_of_length_le (by rw [sv_len]; exact Nat.le_refl _)]
      have hil : ins.length = m := by rw [← hIN, ← hnm, List.length_map]
      have hno : (IN.take m).Nodup := by
        have : m = 1 ∨ m = 2 ∨ m = 3 := by omega
        rcases this with rfl | rfl | rfl <;> decide +kernel
      refine ⟨_, rfl, k R qi ins H8 hR0 R8.kp (R8.pot.mono (by rw [sv_len, hIN]; omega)) R8.rows R8.each (ins_ok (fun j hj => ?_) (by rw [hnm]; exact hno) (fun x _ z => by cases z)) (by omega) (by omega) ⟨s, s1, by rw [hil]; exact Nat.le_trans s60 hmo.2, fun j hj => (hin j hj).2.2.2⟩⟩
      obtain ⟨h1, h2, h3, _⟩ := hin j hj
      have : j.nm ∈ IN.take m := by rw [← hnm]; exact List.mem_map.mpr ⟨j, hj, rfl⟩
      exact ⟨List.mem_of_mem_take this, h1, h2, h3⟩
end
end My


set_option Elab.async false
set_option maxRecDepth 100000
set_option maxHeartbeats 2000000
set_option exponentiation.threshold 6000
namespace My
open PySem L2 Evl TL PyProof.Rows LiI
theorem sts_add {b f r : Nat} : ∀ {ss : List Stp} {names : List Str} {s : Stp}, StpsOk b f r names ss → StpOk b f r (names ++ ss.map Stp.nm) s → StpsOk b f r names (ss ++ [s])
  | [], names, s, _, h => by
    rw [List.map_nil, List.append_nil] at h
    exact ⟨h, trivial⟩
  | x :: xs, names, s, h, g => by
    refine ⟨h.1, sts_add h.2 ?_⟩
    rw [List.append_assoc]
    exact g
theorem sn_in : ∀ x ∈ SND, x ∉ IN := by decide +kernel
theorem sn_nodup : SND.Nodup := by decide +kernel
theorem ins_in {b f r : Nat} {names : List Str} {ins : List Inp} (h : InpsOk b f r names ins) : ∀ x ∈ ins.map Inp.nm, x ∈ IN := fun x hx => by
  obtain ⟨i, hi, rfl⟩ := List.mem_map.mp hx
  obtain ⟨j, hj⟩ := List.getElem?_of_mem hi
  exact (InpsOk.at h hj).inn
theorem at_lastS {xs : List Str} (h : 1 ≤ xs.length) : ∃ x, x ∈ xs ∧ atI (sv xs) (-1) = some (.str x) := by
  refine ⟨xs[xs.length - 1]'(by omega), List.getElem_mem _, ?_⟩
  unfold atI ixN
  rw [if_neg (by decide), sv_len, if_pos (by omega)]
  show (sv xs)[_]? = _
  unfold sv
  rw [List.getElem?_map]
  have : ((-1 + (xs.length : Int)).toNat) = xs.length - 1 := by omega
  rw [this, List.getElem?_eq_getElem (by omega)]
  rfl
def ownD (t Li Ls Lt : Addr) : List (Key × V) := [(Sum.inr "grid", .ref t), (Sum.inr "inputs", .ref Li), (Sum.inr "steps", .ref Ls), (Sum.inr "told", .ref Lt)]
structure DS (p d t Li Ls Lt Nm c : Addr) (b f r pl : Nat) (H H' : Hp) (n : Nat) (qi : List Addr) (ins : List Inp) (qs : List Addr) (sts : List Stp) (names N2 : List Str) : Prop where
  kp : Kp p H H'
  pot : PotAt H' p n
  own : H' d = some (.dK (ownD t Li Ls Lt))
  gr : H' t = some (.tup [.int b, .int f, .int r, .int pl])
  li : H' Li = some (.lst (rv qi))
  ei : Each InpAt H' qi ins
  ls : H' Ls = some (.lst (rv qs))
  es : Each StepAt H' qs sts
  lt : H' Lt = some (.lst [])
  nm : H' Nm = some (.lst (sv names))
  c2 : H' c = some (.lst (sv N2))
structure DD (p Li Ls Lt Nm c : Addr) (H : Hp) : Prop where
  n1 : Li ≠ p
  n2 : Ls ≠ p
  n3 : Lt ≠ p
  n4 : Nm ≠ p
  n5 : c ≠ p
  m1 : Li ≠ Ls
  m2 : Lt ≠ Ls
  m3 : Nm ≠ Ls
  m4 : c ≠ Ls
  k1 : Li ≠ Nm
  k2 : Lt ≠ Nm
  k3 : c ≠ Nm
  f1 : H Ls = none
  f2 : H Nm = none
section
variable {p d t Li Ls Lt Nm c : Addr} {b f r pl : Nat} {H H' H2 : Hp} {n m : Nat} {qi : List Addr} {ins : List Inp} {qs : List Addr} {sts : List Stp} {names N2 : List Str}
theorem step_kp {q : Addr} {s : Stp} (h : StepAt H' q s) (hp : PotAt H' p n) (k : Kp p H' H2) : StepAt H2 q s := by
  obtain ⟨o, h1, h2⟩ := h
  exact ⟨o, k _ _ h1 (ne_tup h1 hp), k _ _ h2 (ne_tup h2 hp)⟩
theorem DS.step (h : DS p d t Li Ls Lt Nm c b f r pl H H' n qi ins qs sts names N2) (D : DD p Li Ls Lt Nm c H) (k : Kp p H' H2) (q : PotAt H2 p m) : DS p d t Li Ls Lt Nm c b f r pl H H2 m qi ins qs sts names N2 := by
  have hd : d ≠ p := fun z => by
    obtain ⟨x, y, w, hh, _⟩ := h.pot
    have := h.own
    rw [z, hh] at this
    cases this
  exact ⟨h.kp.trans k, q, k _ _ h.own hd, k _ _ h.gr (ne_tup h.gr h.pot), k _ _ h.li D.n1, ⟨h.ei.1, fun i q' x h1 h2 => k _ _ (h.ei.2 i q' x h1 h2) (ne_tup (h.ei.2 i q' x h1 h2) h.pot)⟩, k _ _ h.ls D.n2, ⟨h.es.1, fun i q' x h1 h2 => step_kp (h.es.2 i q' x h1 h2) h.pot k⟩, k _ _ h.lt D.n3, k _ _ h.nm D.n4, k _ _ h.c2 D.n5⟩
theorem DS.ex (h : DS p d t Li Ls Lt Nm c b f r pl H H' n qi ins qs sts names N2) (e : Ex H' H2) : DS p d t Li Ls Lt Nm c b f r pl H H2 n qi ins qs sts names N2 :=
  ⟨h.kp.ex e, h.pot.ex e, e _ _ h.own, e _ _ h.gr, e _ _ h.li, h.ei.ex (fun h e => h.ex e) e, e _ _ h.ls, h.es.ex (fun h e => h.ex e) e, e _ _ h.lt, e _ _ h.nm, e _ _ h.c2⟩
/-- a step behind the steps -/
theorem DS.addS (h : DS p d t Li Ls Lt Nm c b f r pl H H' n qi ins qs sts names N2) (D : DD p Li Ls Lt Nm c H) {q : Addr} {s : Stp} (hq : StepAt H' q s) : DS p d t Li Ls Lt Nm c b f r pl H (upd H' Ls (.lst (rv qs ++ [.ref q]))) n qi ins (qs ++ [q]) (sts ++ [s]) names N2 := by
  have nl : ∀ {x : Addr} {o : HO}, H' x = some o → (∀ l, o ≠ .lst l) → x ≠ Ls := fun hx ho z => by rw [z, h.ls] at hx; exact ho _ (Option.some.inj hx).symm
  have up : ∀ {x : Addr} {o : HO}, H' x = some o → x ≠ Ls → (upd H' Ls (.lst (rv qs ++ [.ref q]))) x = some o := fun hx hn => by rw [upd_ne hn]; exact hx
  have upS : ∀ {x : Addr} {s : Stp}, StepAt H' x s → StepAt (upd H' Ls (.lst (rv qs ++ [.ref q]))) x s := fun {x s} hx => by
    obtain ⟨o, h1, h2⟩ := hx
    exact ⟨o, up h1 (nl h1 fun l z => by cases z), up h2 (nl h2 fun l z => by cases z)⟩
  refine ⟨h.kp.new D.f1, h.pot.upd D.n2, up h.own (nl h.own fun l z => by cases z), up h.gr (nl h.gr fun l z => by cases z), up h.li D.m1, ⟨h.ei.1, fun i q' x h1 h2 => up (h.ei.2 i q' x h1 h2) (nl (h.ei.2 i q' x h1 h2) fun l z => by cases z)⟩, ?_, ?_, up h.lt D.m2, up h.nm D.m3, up h.c2 D.m4⟩
  · rw [upd_same]; unfold rv; rw [List.map_append]; rfl
  · exact Each.add ⟨h.es.1, fun i q' x h1 h2 => upS (h.es.2 i q' x h1 h2)⟩ (upS hq)
/-- a name behind the names -/
theorem DS.addN (h : DS p d t Li Ls Lt Nm c b f r pl H H' n qi ins qs sts names N2) (D : DD p Li Ls Lt Nm c H) {x : Str} : DS p d t Li Ls Lt Nm c b f r pl H (upd H' Nm (.lst (sv names ++ [.str x]))) n qi ins qs sts (names ++ [x]) N2 := by
  have nl : ∀ {x : Addr} {o : HO}, H' x = some o → (∀ l, o ≠ .lst l) → x ≠ Nm := fun hx ho z => by rw [z, h.nm] at hx; exact ho _ (Option.some.inj hx).symm
  have up : ∀ {y : Addr} {o : HO}, H' y = some o → y ≠ Nm → (upd H' Nm (.lst (sv names ++ [.str x]))) y = some o := fun hx hn => by rw [upd_ne hn]; exact hx
  have upS : ∀ {y : Addr} {s : Stp}, StepAt H' y s → StepAt (upd H' Nm (.lst (sv names ++ [.str x]))) y s := fun {y s} hx => by
    obtain ⟨o, h1, h2⟩ := hx
    exact ⟨o, up h1 (nl h1 fun l z => by cases z), up h2 (nl h2 fun l z => by cases z)⟩
  refine ⟨h.kp.new D.f2, h.pot.upd D.n4, up h.own (nl h.own fun l z => by cases z), up h.gr (nl h.gr fun l z => by cases z), up h.li D.k1, ⟨h.ei.1, fun i q' y h1 h2 => up (h.ei.2 i q' y h1 h2) (nl (h.ei.2 i q' y h1 h2) fun l z => by cases z)⟩, up h.ls D.m3.symm, ⟨h.es.1, fun i q' y h1 h2 => upS (h.es.2 i q' y h1 h2)⟩, up h.lt D.k2, ?_, up h.c2 D.k3⟩
  rw [upd_same]; unfold sv; rw [List.map_append]; rfl
end
/-- what of the law's own dict is new -/
def FrOwn (H H' : Hp) (p d : Addr) : Prop := ∃ t Li Ls Lt, H' d = some (.dK (ownD t Li Ls Lt)) ∧ H Ls = none ∧ H d = none ∧ Ls ≠ p ∧ Li ≠ p ∧ Lt ≠ p ∧ Li ≠ Ls ∧ Lt ≠ Ls
theorem sv_ne_rv {ws : List Str} {qs : List Addr} (h : 1 ≤ ws.length) : sv ws ≠ rv qs := by
  cases ws with
  | nil => exact absurd h (by decide)
  | cons w ws =>
    cases qs with
    | nil => intro z; cases z
    | cons q qs => intro z; cases z
def sp_drawnP : Sp := fun vs H Q _ => ∃ (p : Addr) (n mo ma : Nat), vs = [.ref p, .int (mo : Int), .int (ma : Int)] ∧ (1 ≤ mo ∧ mo ≤ 60) ∧ (1 ≤ ma ∧ ma ≤ 10) ∧ PotAt H p n ∧ n + 3000 ≤ 100000 ∧
  ∀ (d : Addr) (pr : Prg) H', Kp p H H' → PotAt H' p (n + 2000) → OwnAt H' d pr → PrgOk pr → SzQ pr → pr.b ^ pr.f ≤ 1000 → Wide pr → pr.steps.length ≤ ma → 1 ≤ pr.steps.length → pr.told.length ≤ 2 → FrOwn H H' p d → (∀ x ∈ pr.steps.map Stp.nm, x ∈ SND) → Q (.ref d) H'
section
variable {P : Program} {w : World} {K : PySem.W.Frag} {mg : Str → Option Value} {base : Heap} {a : Ad}
theorem ok_l_program_drawn (T : Txt K mg a) : FnOk P w K mg base CX0 7 a.l_program_drawn a.l_program_drawn_fd ["pot", "most", "many"] sp_drawnP := by
  refine T.F_l_program_drawn.ok sc_l_program_drawn (fun vs H Q E h => ?_) (fun cdv A outer s H vs Q E hr h => ?_)
  · obtain ⟨p, n, mo, ma, rfl, _⟩ := h
    rfl
  · obtain ⟨p, n, mo, ma, rfl, hmo, hma, hp, hn, k⟩ := h
    refine ⟨_, (pss_cut (ps_set (i := 3) sc_l_program_drawn.nd rfl (Or.inl rfl) (pe_call (ok_l_grid_drawn T) (hr.mono (by decide)) rfl T.g_l_grid_drawn T.k_l_grid_drawn T.B_l_grid_drawn .nil pass0 (pa_cons (pv 0) pa_nil)))
      (pss_cut (ps_set (i := 4) sc_l_program_drawn.nd rfl (Or.inl rfl) (pe_disp (pps_cons pe_str (pv 3) (pps_cons pe_str (pe_call (ok_l_program_ranges T) (hr.mono (by decide)) rfl T.g_l_program_ranges T.k_l_program_ranges T.B_l_program_ranges .nil pass0 (pa_cons (pv 0) (pa_cons (pv 3) (pa_cons (pv 1) pa_nil)))) (pps_cons pe_str (pe_lst pa_nil) (pps_cons pe_str (pe_lst pa_nil) pps_nil)))) (by rfl) (by rfl) (fun z => by cases z) (by decide)))
      (pss_cut (ps_setLc (i := 5) (own := [("row", 7)]) (g := gName 7) (by rfl) sc_l_program_drawn.nd rfl rfl (sw_true rfl rfl rfl (by decide +kernel)) (pi_list (pe_dget (hu_of hr) (pv 4) pe_str (fun _ _ => rfl))) (blkOk_by (own := [("row", 7)]) (N := N_l_program_drawn) (sc := defScope s_l_program_drawn) (by decide +kernel)) (fun _ _ _ _ _ => pg_name (i := 7) sc_l_program_drawn.nd rfl (Or.inl rfl)) (fun _ _ _ _ _ => pts_nil) (fun _ _ _ _ _ => (pe_ix (r := rIxT K) ix_tup (pv 7) pe_int (fun _ _ => rfl))))
      (pss_cut (ps_for PassesOwn.never rfl (pi_list (pe_slice sl_list (pe_lst (pa_cons pe_str (pa_cons pe_str (pa_cons pe_str (pa_cons pe_str (pa_cons pe_str (pa_cons pe_str (pa_cons pe_str (pa_cons pe_str (pa_cons pe_str (pa_cons pe_str pa_nil))))))))))) po_none (po_some (pe_op op_add pe_int (pe_call (ok_l_take T) (hr.mono (by decide)) rfl T.g_l_take T.k_l_take T.B_l_take .nil pass0 (pa_cons (pv 0) (pa_cons (pv 2) pa_nil))))))) (pg_name (i := 6) sc_l_program_drawn.nd rfl (Or.inl rfl)) (pss_cons (ps_expr (pe_bm PySem.F.plainAttrs_list PySem.F.slot_list_append PySem.F.type_list_append mt_append (pe_dget (hu_of hr) (pv 4) pe_str (fun _ _ => rfl)) (pa_cons (pe_call (ok_l_program_a_step T) (hr.mono (by decide)) rfl T.g_l_program_a_step T.k_l_program_a_step T.B_l_program_a_step .nil pass0 (pa_cons (pv 0) (pa_cons (pv 3) (pa_cons (pv 6) (pa_cons (pv 5) pa_nil))))) pa_nil)))
      (pss_one (ps_expr (pe_bm PySem.F.plainAttrs_list PySem.F.slot_list_append PySem.F.type_list_append mt_append (pv 5) (pa_cons (pv 6) pa_nil))))))
      (pss_cut (ps_dput (hu_of hr) (pv 4) pe_str (pe_op op_cat (pe_lst (pa_cons (pe_ix ix_list (pv 5) (pe_un un_neg pe_int) (fun _ _ => rfl)) pa_nil)) (pe_ifExp (pt_cmpR op_eq (pe_call (ok_l_take T) (hr.mono (by decide)) rfl T.g_l_take T.k_l_take T.B_l_take .nil pass0 (pa_cons (pv 0) (pa_cons pe_int pa_nil))) pe_int (nomark _)) (pe_lst (pa_cons (pe_call (ok_l_of T) (hr.mono (by decide)) rfl T.g_l_of T.k_l_of T.B_l_of .nil pass0 (pa_cons (pv 0) (pa_cons (pv 5) pa_nil))) pa_nil)) (pe_lst pa_nil))) rfl)
      (pss_one (ps_ret (pv 4)))))))), ?_⟩
    refine ⟨fun σ H' => ∃ (t : Addr) (b f r pl : Nat), Kp p H H' ∧ PotAt H' p (n + 4) ∧ H' t = some (.tup [.int b, .int f, .int r, .int pl]) ∧ okg b f r ∧ pl ≤ 2 ∧ b ^ f ≤ 1000 ∧ r ≤ 3 ∧ f ≤ 4 ∧ σ = [some (.ref p), some (.int (mo : Int)), some (.int (ma : Int)), some (.ref t), none, none, none, none], ?_, ?_⟩
    · refine ⟨_, rfl, p, n, rfl, hp, by omega, fun t b f r pl H1 k1 p1 ht hok hpl hL hr3 _ hf4 => ?_⟩
      exact ⟨t, b, f, r, pl, k1, p1, ht, hok, hpl, hL, hr3, hf4, rfl⟩
    rintro σ H1 ⟨t, b, f, r, pl, k1, p1, ht, hok, hpl, hL, hr3, hf4, rfl⟩
    have htp : t ≠ p := ne_tup ht p1
    refine ⟨fun σ H' => ∃ (d Li Ls Lt : Addr) (qi : List Addr) (ins : List Inp), Kp p H H' ∧ PotAt H' p (n + 64) ∧ H d = none ∧ H' d = some (.dK (ownD t Li Ls Lt)) ∧ H' t = some (.tup [.int b, .int f, .int r, .int pl]) ∧ H' Li = some (.lst (rv qi)) ∧ Each InpAt H' qi ins ∧ H' Ls = some (.lst []) ∧ H' Lt = some (.lst []) ∧ Li ≠ Ls ∧ Lt ≠ Ls ∧ Li ≠ p ∧ Ls ≠ p ∧ Lt ≠ p ∧ H Ls = none ∧ InpsOk b f r [] ins ∧ 1 ≤ ins.length ∧ ins.length ≤ 3 ∧ (∃ s : Nat, 1 ≤ s ∧ s ^ ins.length ≤ 60 ∧ ∀ i ∈ ins, (within i.lo i.hi (rgs b (b ^ f) r)).length ≤ s) ∧ σ = [some (.ref p), some (.int (mo : Int)), some (.int (ma : Int)), some (.ref t), some (.ref d), none, none, none], ?_, ?_⟩
    · refine fun d hd => ?_
      have x1 := Ex.new (o := .dK []) hd
      have f1 : (upd H1 d (.dK [])) d = some (.dK []) := upd_same
      have hdp := p1.ne hd
      have p1' := p1.ex x1
      have ht1 := x1 _ _ ht
      have k1' := k1.ex x1
      generalize (upd H1 d (.dK [])) = Hd at *
      refine ⟨_, rfl, _, rfl, _, rfl, _, rfl, p, t, n + 4, b, f, r, pl, mo, rfl, hmo, p1', by omega, ht1, hok, hL, fun Li qi ins H2 hLi0 k2 p2 hLi hqi hins i1 i3 hwd => ⟨by show 0 ≤ sizeLine; decide, fun Ls hLs => ⟨by show 0 ≤ sizeLine; decide, fun Lt hLt => ?_⟩⟩⟩
      have k2' := k1'.trans k2
      have hLip : Li ≠ p := p1'.ne hLi0
      have hLsp := p2.ne hLs
      have f2 := k2 _ _ f1 hdp
      have ht2 := k2 _ _ ht1 htp
      have hLs0 : H Ls = none := k2'.back hLs hLsp
      have hLiLs : Li ≠ Ls := fun z => by rw [z, hLs] at hLi; cases hLi
      have x3 := Ex.new (o := .lst []) hLs
      have g3 : (upd H2 Ls (.lst [])) Ls = some (.lst (rv [])) := upd_same
      have f3 := x3 _ _ f2
      have ht3 := x3 _ _ ht2
      have hLi3 := x3 _ _ hLi
      have hqi3 := hqi.ex (fun h e => h.ex e) x3
      have k3 := k2'.ex x3
      have p3 := p2.ex x3
      generalize (upd H2 Ls (.lst [])) = H3 at *
      have hLtp := p3.ne hLt
      have hLtLs : Lt ≠ Ls := fun z => by rw [z, g3] at hLt; cases hLt
      have x4 := Ex.new (o := .lst []) hLt
      have g4 : (upd H3 Lt (.lst [])) Lt = some (.lst []) := upd_same
      have f4 := x4 _ _ f3
      have ht4 := x4 _ _ ht3
      have hLi4 := x4 _ _ hLi3
      have hLs4 := x4 _ _ g3
      have hqi4 := hqi3.ex (fun h e => h.ex e) x4
      have k4 := k3.ex x4
      have p4 := p3.ex x4
      generalize (upd H3 Lt (.lst [])) = H4 at *
      refine ⟨f4, ownD t Li Ls Lt, rfl, by show 4 ≤ 15; decide, ?_⟩
      have hm : mergeK [] (ownD t Li Ls Lt) = ownD t Li Ls Lt := rfl
      rw [hm]
      have hd0 : H d = none := k1.back hd hdp
      have nd : ∀ {x : Addr} {o : HO}, H4 x = some o → (∀ l, o ≠ .dK l) → x ≠ d := fun hx ho z => by rw [z, f4] at hx; exact ho _ (Option.some.inj hx).symm
      have up : ∀ {x : Addr} {o : HO}, H4 x = some o → (∀ l, o ≠ .dK l) → (upd H4 d (.dK (ownD t Li Ls Lt))) x = some o := fun hx ho => by rw [upd_ne (nd hx ho)]; exact hx
      exact ⟨d, Li, Ls, Lt, qi, ins, k4.new hd0, (p4.upd hdp).mono (by omega), hd0, upd_same, up ht4 (fun l z => by cases z), up hLi4 (fun l z => by cases z), ⟨hqi4.1, fun i q x h1 h2 => up (hqi4.2 i q x h1 h2) (fun l z => by cases z)⟩, up hLs4 (fun l z => by cases z), up g4 (fun l z => by cases z), hLiLs, hLtLs, hLip, hLsp, hLtp, hLs0, hins, i1, i3, hwd, rfl⟩
    rintro σ H2 ⟨d, Li, Ls, Lt, qi, ins, k2, p2, hd0, hd, ht2, hLi, hqi, hLs, hLt, m1, m2, n1, n2, n3, f1, hins, i1, i3, hwd, rfl⟩
    -- the names
    refine ⟨fun σ H' => ∃ Nm, Ex H2 H' ∧ H2 Nm = none ∧ H' Nm = some (.lst (sv (ins.map Inp.nm))) ∧ σ = [some (.ref p), some (.int (mo : Int)), some (.int (ma : Int)), some (.ref t), some (.ref d), some (.ref Nm), none, none], ?_, ?_⟩
    · refine ⟨_, rfl, d, .ref Li, rfl, dget hd rfl, Li, rfl, ⟨_, SqL.of hLi⟩, fun D hD => ?_⟩
      refine lc_list (K := K) (a := Li) (xs := rv qi) (fun i H' => Ex H2 H' ∧ H' D = some (.lst (sv ((ins.map Inp.nm).take i)))) ⟨Ex.new hD, upd_same⟩ (fun i H' _ z => SqL.of (z.1 _ _ hLi)) ?_ ?_
      · rintro i v H4 hv ⟨e4, hD4⟩
        obtain ⟨q, x, rfl, hat, hi, et⟩ := first_lc (nm := Inp.nm) hqi hv
        refine ⟨rfl, ?_⟩
        dsimp only [tYes]
        refine iteT ?_
        refine ⟨_, rfl, q, _, _, _, rfl, rfl, SqT.of (hat.ex e4), atN (m := 0) rfl, ?_⟩
        refine ⟨_, hD4, small1000 (by rw [sv_len, List.length_take, List.length_map]; omega), Ex.mut e4 hD, ?_⟩
        rw [upd_same, et, sv_app]
        rfl
      · rintro H4 ⟨e4, hD4⟩
        refine ⟨D, e4, hD, ?_, rfl⟩
        rw [hD4, List.take_of_length_le (by rw [rv_len, List.length_map, hqi.1]; exact Nat.le_refl _)]
    rintro σ H3 ⟨Nm, e3, hNm0, hNm, rfl⟩
    have hNmp := p2.ne hNm0
    have hNmLs : Nm ≠ Ls := fun z => by rw [z, hLs] at hNm0; cases hNm0
    have hLiNm : Li ≠ Nm := fun z => by rw [z, hNm0] at hLi; cases hLi
    have hLtNm : Lt ≠ Nm := fun z => by rw [z, hNm0] at hLt; cases hLt
    -- the steps
    refine ⟨fun σ H' => ∃ (c : Addr) (qs : List Addr) (sts : List Stp) (N2 : List Str) (v6 v7 : Option V), DS p d t Li Ls Lt Nm c b f r pl H H' (n + 1000) qi ins qs sts (ins.map Inp.nm ++ sts.map Stp.nm) N2 ∧ DD p Li Ls Lt Nm c H ∧ StpsOk b f r (ins.map Inp.nm) sts ∧ (sts.length ≤ ma ∧ 1 ≤ sts.length) ∧ (∀ x ∈ sts.map Stp.nm, x ∈ SND) ∧ σ = [some (.ref p), some (.int (mo : Int)), some (.int (ma : Int)), some (.ref t), some (.ref d), some (.ref Nm), v6, v7], ?_, ?_⟩
    · refine ⟨by show 10 ≤ sizeLine; decide, fun c0 hc0 => ?_⟩
      have x4 := Ex.new (o := .lst [V.str "s", .str "t", .str "u", .str "v", .str "x1", .str "y2", .str "z", .str "sum", .str "d12", .str "e"]) hc0
      have f4 : (upd H3 c0 (.lst [V.str "s", .str "t", .str "u", .str "v", .str "x1", .str "y2", .str "z", .str "sum", .str "d12", .str "e"])) c0 = some (.lst (sv SND)) := upd_same
      have k3 := k2.ex e3
      have p3 := p2.ex e3
      have hc0p := p3.ne hc0
      have k4 := k3.ex x4
      have p4 := p3.ex x4
      have e24 := e3.trans x4
      have hNm4 := x4 _ _ hNm
      generalize (upd H3 c0 (.lst [V.str "s", .str "t", .str "u", .str "v", .str "x1", .str "y2", .str "z", .str "sum", .str "d12", .str "e"])) = H4 at *
      refine ⟨_, rfl, _, rfl, p, (ma : Int), _, rfl, p4, by omega, by omega, Nat.lt_of_le_of_lt (show ((ma : Int)).natAbs ≤ 10 by omega) (by decide +kernel), fun dd H5 k5 p5 d0 d8 => ?_⟩
      obtain ⟨m, rfl⟩ : ∃ m : Nat, dd = (m : Int) := ⟨dd.toNat, by omega⟩
      refine ⟨_, _, rfl, rfl, _, rfl, c0, _, rfl, SqL.of (k5 _ _ f4 hc0p), fun c hc => ?_⟩
      have em : (1 : Int) + (m : Int) = ((m + 1 : Nat) : Int) := by omega
      have ec : cutV (sv SND) none (some ((1 : Int) + (m : Int))) = sv (SND.take (m + 1)) := by
        rw [em]
        exact (cut_take _ (m + 1)).trans (sv_take _ _)
      rw [ec]
      have hm9 : (SND.take (m + 1)).length = m + 1 := by rw [List.length_take]; show min (m + 1) 10 = _; omega
      have x6 := Ex.new (o := .lst (sv (SND.take (m + 1)))) hc
      have f6 : (upd H5 c (.lst (sv (SND.take (m + 1))))) c = some (.lst (sv (SND.take (m + 1)))) := upd_same
      have hcp := p5.ne hc
      have hLs5 := k5 _ _ (e24 _ _ hLs) n2
      have hNm5 := k5 _ _ hNm4 hNmp
      have hcLs : c ≠ Ls := fun z => by rw [z, hLs5] at hc; cases hc
      have hcNm : c ≠ Nm := fun z => by rw [z, hNm5] at hc; cases hc
      have DDs : DD p Li Ls Lt Nm c H := ⟨n1, n2, n3, hNmp, hcp, m1, m2, hNmLs, hcLs, hLiNm, hLtNm, hcNm, f1, k2.back hNm0 hNmp⟩
      have hdp : d ≠ p := fun z => by
        obtain ⟨x, y, w, hh, _⟩ := p2
        rw [z, hh] at hd
        cases hd
      have k25 : Kp p H2 H5 := (Ex.kp e24).trans k5
      have DS6 : DS p d t Li Ls Lt Nm c b f r pl H (upd H5 c (.lst (sv (SND.take (m + 1))))) (n + 65) qi ins [] [] (ins.map Inp.nm) (SND.take (m + 1)) :=
        ⟨(k2.trans k25).ex x6, p5.ex x6, x6 _ _ (k25 _ _ hd hdp), x6 _ _ (k25 _ _ ht2 htp), x6 _ _ (k25 _ _ hLi n1), ⟨hqi.1, fun i q x h1 h2 => x6 _ _ (k25 _ _ (hqi.2 i q x h1 h2) (ne_tup (hqi.2 i q x h1 h2) p2))⟩, x6 _ _ hLs5, Each.nil, x6 _ _ (k25 _ _ hLt n3), x6 _ _ hNm5, f6⟩
      generalize (upd H5 c (.lst (sv (SND.take (m + 1))))) = H6 at *
      refine ⟨c, rfl, ⟨_, SqL.of f6⟩, for_list (K := K) (a := c) (xs := sv (SND.take (m + 1))) (fun i σ H' => ∃ (qs : List Addr) (sts : List Stp) (v6 v7 : Option V), DS p d t Li Ls Lt Nm c b f r pl H H' (n + 65 + 80 * i) qi ins qs sts (ins.map Inp.nm ++ sts.map Stp.nm) (SND.take (m + 1)) ∧ StpsOk b f r (ins.map Inp.nm) sts ∧ sts.map Stp.nm = (SND.take (m + 1)).take i ∧ σ = [some (.ref p), some (.int (mo : Int)), some (.int (ma : Int)), some (.ref t), some (.ref d), some (.ref Nm), v6, v7]) ⟨[], [], _, _, by rw [List.map_nil, List.append_nil]; exact DS6, trivial, rfl, rfl⟩ (fun i σ H' _ z => by obtain ⟨_, _, _, _, e, _⟩ := z; exact SqL.of e.c2) ?_ ?_⟩
      · rintro i v σ H7 hv ⟨qs, sts, v6, v7, D7, hst, hsn, rfl⟩
        obtain ⟨nm, hnmx, rfl⟩ := sv_getI hv
        have hi9 : i < m + 1 := by have := (List.getElem?_eq_some_iff.mp hnmx).1; omega
        have hsl : sts.length = i := by
          have := congrArg List.length hsn
          rw [List.length_map, List.length_take, hm9] at this
          omega
        have hnsn : nm ∈ SND := List.mem_of_mem_take (List.mem_of_getElem? hnmx)
        have hnew : nm ∉ ins.map Inp.nm ++ sts.map Stp.nm := fun z => by
          rcases List.mem_append.mp z with z | z
          · exact sn_in nm hnsn (ins_in hins nm z)
          · rw [hsn] at z
            obtain ⟨j, hj⟩ := List.getElem?_of_mem z
            have hji : j < i := by
              have := (List.getElem?_eq_some_iff.mp hj).1
              rw [List.length_take] at this
              omega
            rw [List.getElem?_take_of_lt hji] at hj
            have hnd : (SND.take (m + 1)).Nodup := List.Sublist.nodup (List.take_sublist _ _) sn_nodup
            have := (List.getElem?_inj (List.getElem?_eq_some_iff.mp hj).1 hnd).mp (hj.trans hnmx.symm)
            omega
        refine ⟨_, rfl, d, .ref Ls, rfl, dget D7.own rfl, .inl ⟨rfl, _, SqL.of D7.ls⟩, ?_⟩
        refine ⟨_, rfl, _, rfl, _, rfl, _, rfl, p, t, Nm, _, b, f, r, pl, _, nm, rfl, D7.pot, by omega, D7.gr, hok, hf4, D7.nm, hNmp, by rw [List.length_append, List.length_map]; omega, by rw [List.length_append, List.length_map, List.length_map]; omega, snd_sn nm hnsn, hnew, fun q st H8 k8 p8 hq hso hnm => ?_⟩
        have D8 := D7.step DDs k8 p8
        have D9 := D8.addS DDs hq
        refine ⟨Ls, _, _, rfl, rfl, D8.ls, small1000 (by rw [rv_len, D8.es.1]; omega), ?_⟩
        generalize (upd H8 Ls (.lst (rv qs ++ [.ref q]))) = H9 at *
        refine ⟨_, rfl, .inl ⟨rfl, _, SqL.of D9.nm⟩, _, rfl, ?_⟩
        have D10 := D9.addN DDs (x := nm)
        refine ⟨Nm, _, _, rfl, rfl, D9.nm, small1000 (by rw [sv_len, List.length_append, List.length_map, List.length_map]; omega), ?_⟩
        refine ⟨qs ++ [q], sts ++ [st], _, _, ?_, sts_add hst hso, ?_, rfl⟩
        · rw [List.append_assoc] at D10
          rw [List.map_append]
          show DS p d t Li Ls Lt Nm c b f r pl H _ _ qi ins _ _ (ins.map Inp.nm ++ (sts.map Stp.nm ++ [st.nm])) _
          rw [hnm]
          exact ⟨D10.kp, D10.pot.mono (by omega), D10.own, D10.gr, D10.li, D10.ei, D10.ls, D10.es, D10.lt, D10.nm, D10.c2⟩
        · have e : (SND.take (m + 1)).take (i + 1) = (SND.take (m + 1)).take i ++ [nm] := by rw [List.take_add_one (l := SND.take (m + 1)) (i := i), hnmx]; rfl
          rw [List.map_append, hsn, e, List.map_cons, hnm]; rfl
      · rintro σ H7 ⟨qs, sts, v6, v7, D7, hst, hsn, rfl⟩
        have hsl : sts.length ≤ ma := by
          have := congrArg List.length hsn
          rw [List.length_map, List.length_take, hm9] at this
          omega
        refine ⟨c, qs, sts, _, v6, v7, ⟨D7.kp, D7.pot.mono (by rw [sv_len, hm9]; omega), D7.own, D7.gr, D7.li, D7.ei, D7.ls, D7.es, D7.lt, D7.nm, D7.c2⟩, DDs, hst, ⟨hsl, by have := congrArg List.length hsn; rw [List.length_map, List.length_take, sv_len, hm9] at this; omega⟩, fun x hx => by rw [hsn] at hx; exact List.mem_of_mem_take (List.mem_of_mem_take hx), rfl⟩
    rintro σ H4 ⟨c, qs, sts, N2, v6, v7, D4, DDs, hst, ⟨hs8, hs1⟩, hsnd, rfl⟩
    have hnl : 1 ≤ (ins.map Inp.nm ++ sts.map Stp.nm).length := by rw [List.length_append, List.length_map]; omega
    have hnl2 : (ins.map Inp.nm ++ sts.map Stp.nm).length ≤ 13 := by rw [List.length_append, List.length_map, List.length_map]; omega
    obtain ⟨last, hlm, hl2⟩ := at_lastS hnl
    refine ⟨fun σ H' => ∃ (L2 : Addr) (told : List Str), Kp p H H' ∧ PotAt H' p (n + 2000) ∧ H' d = some (.dK (ownD t Li Ls L2)) ∧ H' t = some (.tup [.int b, .int f, .int r, .int pl]) ∧ H' Li = some (.lst (rv qi)) ∧ Each InpAt H' qi ins ∧ H' Ls = some (.lst (rv qs)) ∧ Each StepAt H' qs sts ∧ H' L2 = some (.lst (sv told)) ∧ (∀ x ∈ told, x ∈ ins.map Inp.nm ++ sts.map Stp.nm) ∧ 1 ≤ told.length ∧ told.length ≤ 2 ∧ σ = [some (.ref p), some (.int (mo : Int)), some (.int (ma : Int)), some (.ref t), some (.ref d), some (.ref Nm), v6, v7], ?_, ?_⟩
    · refine ⟨_, rfl, _, rfl, Nm, _, _, _, rfl, rfl, SqL.of D4.nm, hl2, by show 1 ≤ sizeLine; decide, fun l1 hl1 => ?_⟩
      have x5 := Ex.new (o := .lst [V.str last]) hl1
      have f5 : (upd H4 l1 (.lst [V.str last])) l1 = some (.lst (sv [last])) := upd_same
      have D5 := D4.ex x5
      have hl1p := D4.pot.ne hl1
      generalize (upd H4 l1 (.lst [V.str last])) = H5 at *
      have fin : ∀ (H6 : Hp) (l2 : Addr) (ws : List Str) (m : Nat), m ≤ n + 2000 → DS p d t Li Ls Lt Nm c b f r pl H H6 m qi ins qs sts (ins.map Inp.nm ++ sts.map Stp.nm) N2 → H6 l1 = some (.lst (sv [last])) → H6 l2 = some (.lst (sv ws)) → ws.length ≤ 1 → (∀ x ∈ ws, x ∈ ins.map Inp.nm ++ sts.map Stp.nm) →
          ∀ l3, H6 l3 = none → ∃ (L2 : Addr) (told : List Str) (H' : Hp), DPut (upd H6 l3 (.lst (sv [last] ++ sv ws))) d (.str "told") (.ref l3) H' ∧ Kp p H H' ∧ PotAt H' p (n + 2000) ∧ H' d = some (.dK (ownD t Li Ls L2)) ∧ H' t = some (.tup [.int b, .int f, .int r, .int pl]) ∧ H' Li = some (.lst (rv qi)) ∧ Each InpAt H' qi ins ∧ H' Ls = some (.lst (rv qs)) ∧ Each StepAt H' qs sts ∧ H' L2 = some (.lst (sv told)) ∧ (∀ x ∈ told, x ∈ ins.map Inp.nm ++ sts.map Stp.nm) ∧ 1 ≤ told.length ∧ told.length ≤ 2 := by
        intro H6 l2 ws m hmn D6 h1 h2 hw hin l3 hl3
        have x7 := Ex.new (o := .lst (sv [last] ++ sv ws)) hl3
        have f7 : (upd H6 l3 (.lst (sv [last] ++ sv ws))) l3 = some (.lst (sv ([last] ++ ws))) := by rw [upd_same, sv_app]
        have D7 := D6.ex x7
        generalize (upd H6 l3 (.lst (sv [last] ++ sv ws))) = H7 at *
        have hp' := DPut.k (k := Sum.inr "told") (v := .ref l3) D7.own (by show 4 < sizeLine; decide)
        have hput : putK (ownD t Li Ls Lt) (Sum.inr ("told" : Str)) (.ref l3) = ownD t Li Ls l3 := rfl
        rw [hput] at hp'
        have nd : ∀ {x : Addr} {o : HO}, H7 x = some o → (∀ l, o ≠ .dK l) → x ≠ d := fun hx ho z => by rw [z, D7.own] at hx; exact ho _ (Option.some.inj hx).symm
        have up : ∀ {x : Addr} {o : HO}, H7 x = some o → (∀ l, o ≠ .dK l) → (upd H7 d (.dK (ownD t Li Ls l3))) x = some o := fun hx ho => by rw [upd_ne (nd hx ho)]; exact hx
        refine ⟨l3, [last] ++ ws, _, hp', fun x o hx hn => ?_, (D7.pot.mono hmn).upd (fun z => by obtain ⟨x, y, w, hh, _⟩ := D7.pot; have := D7.own; rw [z, hh] at this; cases this), upd_same, up D7.gr (fun l z => by cases z), up D7.li (fun l z => by cases z), ⟨D7.ei.1, fun i q x h1 h2 => up (D7.ei.2 i q x h1 h2) (fun l z => by cases z)⟩, up D7.ls (fun l z => by cases z), ⟨D7.es.1, fun i q x h1 h2 => ?_⟩, up f7 (fun l z => by cases z), fun x hx => ?_, by simp, by simp; omega⟩
        · have hxd : x ≠ d := fun z => by rw [z, hd0] at hx; cases hx
          rw [upd_ne hxd]
          exact D7.kp x o hx hn
        · obtain ⟨o, g1, g2⟩ := D7.es.2 i q x h1 h2
          exact ⟨o, up g1 (fun l z => by cases z), up g2 (fun l z => by cases z)⟩
        · rcases List.mem_append.mp hx with hx | hx
          · rw [List.mem_singleton.mp hx]; exact hlm
          · exact hin x hx
      refine ⟨_, rfl, p, 3, _, rfl, D5.pot, by omega, by decide, by decide +kernel, fun dd H6 k6 p6 d0 d3 => ⟨rfl, _, rfl, ?_⟩⟩
      have D6 := D5.step DDs k6 p6
      have f6 := k6 _ _ f5 hl1p
      refine ite2 (fun _ => ?_) (fun _ => ?_)
      · refine ⟨_, rfl, _, rfl, p, Nm, _, _, rfl, D6.pot, by omega, D6.nm, DDs.n4, by rw [sv_len]; omega, by rw [sv_len]; omega, fun i v H7 hv k7 p7 => ⟨by show 1 ≤ sizeLine; decide, fun l2 hl2 => ?_⟩⟩
        obtain ⟨x, hx, rfl⟩ := sv_getI hv
        have D7 := D6.step DDs k7 p7
        have f7 := k7 _ _ f6 hl1p
        have x8 := Ex.new (o := .lst [V.str x]) hl2
        have g8 : (upd H7 l2 (.lst [V.str x])) l2 = some (.lst (sv [x])) := upd_same
        have f8 := x8 _ _ f7
        have D8 := D7.ex x8
        generalize (upd H7 l2 (.lst [V.str x])) = H8 at *
        refine ⟨l1, l2, _, _, rfl, rfl, f8, g8, sv_two (by show 1 + 1 ≤ 1000; decide), fun l3 hl3 => ?_⟩
        obtain ⟨L2, told, H9, q0, q1, q12, q2, q3, q4, q5, q6, q7, q8, q9, q10, q11⟩ := fin H8 l2 [x] _ (by omega) D8 f8 g8 (Nat.le_refl 1) (fun y hy => by rw [List.mem_singleton.mp hy]; exact List.mem_of_getElem? hx) l3 hl3
        exact ⟨_, rfl, d, H9, rfl, q0, L2, told, q1, q12, q2, q3, q4, q5, q6, q7, q8, q9, q10, q11, rfl⟩
      · refine ⟨by show 0 ≤ sizeLine; decide, fun l2 hl2 => ?_⟩
        have x8 := Ex.new (o := .lst []) hl2
        have g8 : (upd H6 l2 (.lst [])) l2 = some (.lst (sv [])) := upd_same
        have f8 := x8 _ _ f6
        have D8 := D6.ex x8
        generalize (upd H6 l2 (.lst [])) = H8 at *
        refine ⟨l1, l2, _, _, rfl, rfl, f8, g8, sv_two (by show 1 + 0 ≤ 1000; decide), fun l3 hl3 => ?_⟩
        obtain ⟨L2, told, H9, q0, q1, q12, q2, q3, q4, q5, q6, q7, q8, q9, q10, q11⟩ := fin H8 l2 [] _ (by omega) D8 f8 g8 (Nat.zero_le _) (fun y hy => by cases hy) l3 hl3
        exact ⟨_, rfl, d, H9, rfl, q0, L2, told, q1, q12, q2, q3, q4, q5, q6, q7, q8, q9, q10, q11, rfl⟩
    rintro σ H5 ⟨L2, told, k5, p5, hd5, ht5, hLi5, hei5, hLs5, hes5, hL2, htold, t1, t2, rfl⟩
    obtain ⟨hb2, ub, hf1, uf, ur⟩ := id hok
    have hbp : b ^ pl < 2 ^ 7 := Nat.lt_of_le_of_lt (Nat.le_trans (Nat.pow_le_pow_left ub pl) (Nat.pow_le_pow_right (by decide) hpl)) (by decide)
    have h2 : b ^ r ≤ 1000 := Nat.le_trans (Nat.pow_le_pow_left ub r) (Nat.le_trans (Nat.pow_le_pow_right (by decide) hr3) (by decide))
    have hbg : (b ^ f - 1) * b ^ r < 2 ^ 20 := Nat.lt_of_le_of_lt (Nat.mul_le_mul (Nat.le_trans (Nat.sub_le _ _) hL) h2) (by decide)
    have hbf : (b ^ (f + 3) - 1) * b ^ r < 2 ^ 47 := by
      have h1 : b ^ (f + 3) ≤ 1000 * 1000 := by
        rw [Nat.pow_add]
        exact Nat.mul_le_mul hL (Nat.le_trans (Nat.pow_le_pow_left ub 3) (by decide))
      have h3 : (b ^ (f + 3) - 1) * b ^ r ≤ 1000 * 1000 * 1000 := Nat.mul_le_mul (Nat.le_trans (Nat.sub_le _ _) h1) h2
      exact Nat.lt_of_le_of_lt h3 (by decide)
    refine ⟨_, rfl, k d ⟨b, f, r, pl, ins, sts, told⟩ H5 k5 p5 ⟨t, Li, Ls, L2, qi, qs, hd5, ht5, hLi5, hei5, hLs5, hes5, hL2⟩ ⟨⟨hb2, ub, hf1, uf, ur, by show pl ≤ 30; omega⟩, hins, i1, i3, hst, by show sts.length ≤ 20; omega, htold, t1, by show told.length ≤ 4; omega⟩ ⟨hbg, hbf, hbp⟩ hL hwd hs8 hs1 t2 ⟨t, Li, Ls, L2, hd5, DDs.f1, hd0, DDs.n2, DDs.n1, fun z => ?_, DDs.m1, fun z => ?_⟩ hsnd⟩
    · obtain ⟨x, y, w, hh, _⟩ := p5
      rw [z, hh] at hL2
      cases told with
      | nil => exact absurd t1 (by decide)
      | cons u us => cases hL2
    · rw [z, hLs5] at hL2
      exact sv_ne_rv t1 (HO.lst.inj (Option.some.inj hL2)).symm
end
end My


set_option Elab.async false
set_option maxRecDepth 100000
set_option maxHeartbeats 2000000
set_option exponentiation.threshold 6000
namespace My
open PySem L2 Evl TL PyProof.Rows LiI
/-- what a run tells: the tops -/
def topsQ (l : List (Str × Fr)) (told : List Str) : List Int := told.map fun x => (lookQ l x).1
def RunAt (H : Hp) (v : V) (l : List (Str × Fr)) (told : List Str) : EndR → Prop
  | .told => ∃ q z, v = .ref q ∧ H q = some (.tup [.str "tells", .ref z]) ∧ H z = some (.tup (iv (topsQ l told)))
  | .nought x => ∃ q, v = .ref q ∧ H q = some (.tup [.str "nought", .str x])
  | .over x => ∃ q, v = .ref q ∧ H q = some (.tup [.str "over", .str x])
theorem RunAt.ex {H H' : Hp} {v : V} {l : List (Str × Fr)} {told : List Str} {e : EndR} (h : RunAt H v l told e) (x : Ex H H') : RunAt H' v l told e := by
  cases e with
  | told => obtain ⟨q, z, h1, h2, h3⟩ := h; exact ⟨q, z, h1, x _ _ h2, x _ _ h3⟩
  | nought y => obtain ⟨q, h1, h2⟩ := h; exact ⟨q, h1, x _ _ h2⟩
  | over y => obtain ⟨q, h1, h2⟩ := h; exact ⟨q, h1, x _ _ h2⟩
/-- rows (name, number) -/
def tops (l : List (Str × Fr)) : List (Str × Int) := l.map fun p => (p.1, p.2.1)
def NumAt (H : Hp) (q : Addr) (t : Str × Int) : Prop := H q = some (.tup [.str t.1, .int t.2])
theorem NumAt.ex {H H' : Hp} {q : Addr} {t : Str × Int} (h : NumAt H q t) (e : Ex H H') : NumAt H' q t := e _ _ h
def WorthsAt (H : Hp) (v : V) (l : List (Str × Int)) : Prop := ∃ q ps, v = .ref q ∧ H q = some (.tup (rv ps)) ∧ Each NumAt H ps l
def sp_end_of (a : Ad) : Sp := fun vs H Q _ => ∃ (p t : Addr) (pr : Prg) (xs : List Int), vs = [.ref p, .ref t] ∧ ProgAt a H p pr ∧ PrgOk pr ∧ SzQ pr ∧ H t = some (.tup (iv xs)) ∧ InR pr xs ∧ ∀ v H', Ex H H' → RunAt H' v (pr.walk [] xs).1 pr.told (pr.walk [] xs).2 → Q v H'
def sp_worths (a : Ad) : Sp := fun vs H Q _ => ∃ (p t : Addr) (pr : Prg) (xs : List Int), vs = [.ref p, .ref t] ∧ ProgAt a H p pr ∧ PrgOk pr ∧ SzQ pr ∧ H t = some (.tup (iv xs)) ∧ InR pr xs ∧ ∀ v H', Ex H H' → WorthsAt H' v (tops (pr.walk [] xs).1) → Q v H'
def sp_endsP : Sp := fun vs H Q _ => ∃ (d t lo : Addr) (pr : Prg) (xs : List Int) (free : List Str), vs = [.ref d, .ref t, .ref lo] ∧ OwnAt H d pr ∧ PrgOk pr ∧ SzQ pr ∧ Cap pr free ∧ H t = some (.tup (iv xs)) ∧ xs.length = pr.ins.length ∧ (∀ x ∈ xs, x.natAbs < 2 ^ 20) ∧ H lo = some (.lst (sv free)) ∧
  ∀ v H', Ex H H' → MixAt H' v (pr.walk free xs).1 pr.told (pr.walk free xs).2 → Q v H'
def sp_runP : Sp := fun vs H Q _ => ∃ (d t : Addr) (pr : Prg) (xs : List Int), vs = [.ref d, .ref t] ∧ OwnAt H d pr ∧ PrgOk pr ∧ SzQ pr ∧ H t = some (.tup (iv xs)) ∧ xs.length = pr.ins.length ∧ (∀ x ∈ xs, x.natAbs < 2 ^ 20) ∧
  ∀ v H', Ex H H' → RunAt H' v (pr.walk [] xs).1 pr.told (pr.walk [] xs).2 → Q v H'
def sp_worthsP : Sp := fun vs H Q _ => ∃ (d t : Addr) (pr : Prg) (xs : List Int), vs = [.ref d, .ref t] ∧ OwnAt H d pr ∧ PrgOk pr ∧ SzQ pr ∧ H t = some (.tup (iv xs)) ∧ xs.length = pr.ins.length ∧ (∀ x ∈ xs, x.natAbs < 2 ^ 20) ∧
  ∀ v H', Ex H H' → WorthsAt H' v (tops (pr.walk [] xs).1) → Q v H'
section
variable {P : Program} {w : World} {K : PySem.W.Frag} {mg : Str → Option Value} {base : Heap} {a : Ad}
end
end My


set_option Elab.async false
set_option maxRecDepth 100000
set_option maxHeartbeats 2000000
set_option exponentiation.threshold 6000
namespace My
open PySem L2 Evl TL PyProof.Rows LiI
/-! ### shown alike -/
def Sd (M k : Nat) (d : PyData) : Prop := d.showable = true ∧ d.hasDict = false ∧ d.depth ≤ k ∧ d.shown.length ≤ M
theorem sd_all : ∀ {ds : List PyData} {M k : Nat}, (∀ d ∈ ds, Sd M k d) → PyData.showableAll ds = true ∧ PyData.hasDictAll ds = false ∧ PyData.depthAll ds ≤ k ∧ (∀ t ∈ PyData.shownAll ds, t.length ≤ M) ∧ (PyData.shownAll ds).length = ds.length
  | [], M, k, _ => ⟨rfl, rfl, Nat.zero_le _, fun t ht => (by cases ht), rfl⟩
  | d :: ds, M, k, h => by
    obtain ⟨h1, h2, h3, h4⟩ := h d List.mem_cons_self
    obtain ⟨g1, g2, g3, g4, g5⟩ := sd_all (ds := ds) (M := M) (k := k) fun e he => h e (List.mem_cons_of_mem _ he)
    refine ⟨?_, ?_, ?_, ?_, ?_⟩
    · show (PyData.showable d && PyData.showableAll ds) = true
      rw [h1, g1]; rfl
    · show (PyData.hasDict d || PyData.hasDictAll ds) = false
      rw [h2, g2]; rfl
    · show max (PyData.depth d) (PyData.depthAll ds) ≤ k
      omega
    · intro t ht
      rcases List.mem_cons.mp ht with rfl | ht
      · exact h4
      · exact g4 t ht
    · show (PyData.shown d :: PyData.shownAll ds).length = _
      rw [List.length_cons, g5]; rfl
theorem sd_tup {ds : List PyData} {M k : Nat} (h : ∀ d ∈ ds, Sd M k d) : Sd ((M + 2) * ds.length + 10) (k + 1) (.tuple ds) := by
  obtain ⟨g1, g2, g3, g4, g5⟩ := sd_all h
  refine ⟨g1, g2, Nat.succ_le_succ g3, ?_⟩
  have := tupleText_le (M := M) (ts := PyData.shownAll ds) g4
  rw [g5] at this
  exact this
theorem Sd.le {M M' k k' : Nat} {d : PyData} (h : Sd M k d) (hM : M ≤ M') (hk : k ≤ k') : Sd M' k' d := ⟨h.1, h.2.1, Nat.le_trans h.2.2.1 hk, Nat.le_trans h.2.2.2 hM⟩
theorem sd_int {n : Int} (h : n.natAbs < 2 ^ 1721) : Sd 2000 0 (.int n) := by
  have h1 : n.natAbs.log2 < 1920 := lgn (k := 1721) h (by decide) (by decide)
  exact ⟨decide_eq_true h1, rfl, Nat.le_refl _, Nat.le_trans (PyProof.Rows.int_text_len_1921 h1) (by decide)⟩
theorem nm_shown : ∀ x ∈ ("tells" : Str) :: ("nought" : Str) :: ("over" : Str) :: NM, (PyData.shown (.str x)).length ≤ 2000 := by decide +kernel
theorem sd_nm {x : Str} (h : x ∈ ("tells" : Str) :: ("nought" : Str) :: ("over" : Str) :: NM) : Sd 2000 0 (.str x) := ⟨rfl, rfl, Nat.le_refl _, nm_shown x h⟩
/-- a fraction, shown -/
def frD (x : Fr) : PyData := .tuple [.int x.1, .int ((x.2 : Nat) : Int)]
theorem sd_fr {x : Fr} (h : Bd 1721 x) : Sd 4014 1 (frD x) := by
  refine (sd_tup (ds := [.int x.1, .int ((x.2 : Nat) : Int)]) (M := 2000) (k := 0) fun d hd => ?_).le (by show (2000 + 2) * 2 + 10 ≤ 4014; decide) (Nat.le_refl _)
  rcases List.mem_cons.mp hd with rfl | hd
  · exact sd_int h.t
  · rw [List.mem_singleton.mp hd]; exact sd_int h.n2
theorem fr_dp {K : PySem.W.Frag} {H : Hp} {q : Addr} {x : Fr} (h : FrAt H q x) : Dp K H (.ref q) (frD x) := .tup (SqT.of h) (.cons (.int _) (.cons (.int _) .nil))
theorem dp_frs {K : PySem.W.Frag} {H : Hp} : ∀ {ps : List Addr} {xs : List Fr}, Each FrAt H ps xs → DpAll K H (rv ps) (xs.map frD)
  | [], [], _ => .nil
  | p :: ps, x :: xs, h => .cons (fr_dp (h.2 0 p x rfl rfl)) (dp_frs (ps := ps) (xs := xs) ⟨Nat.succ.inj h.1, fun i q y h1 h2 => h.2 (i + 1) q y h1 h2⟩)
  | [], _ :: _, h => by cases h.1
  | _ :: _, [], h => by cases h.1
def mixD (l : List (Str × Fr)) (told : List Str) : EndR → PyData
  | .told => .tuple [.str "tells", .tuple ((told.map (lookQ l)).map frD)]
  | .nought x => .tuple [.str "nought", .str x]
  | .over x => .tuple [.str "over", .str x]
theorem mix_dp {K : PySem.W.Frag} {H : Hp} {v : V} {l : List (Str × Fr)} {told : List Str} {e : EndR} (h : MixAt H v l told e) : Dp K H v (mixD l told e) := by
  cases e with
  | told =>
    obtain ⟨q, z, zs, rfl, h1, h2, h3⟩ := h
    exact .tup (SqT.of h1) (.cons (.str _) (.cons (.tup (SqT.of h2) (dp_frs h3)) .nil))
  | nought x =>
    obtain ⟨q, rfl, h1⟩ := h
    exact .tup (SqT.of h1) (.cons (.str _) (.cons (.str _) .nil))
  | over x =>
    obtain ⟨q, rfl, h1⟩ := h
    exact .tup (SqT.of h1) (.cons (.str _) (.cons (.str _) .nil))
def rowsD (l : List (Str × Fr)) : PyData := .tuple (l.map fun p => .tuple [.str p.1, frD p.2])
theorem dp_rows {K : PySem.W.Frag} {H : Hp} : ∀ {ps : List Addr} {ts : List (Str × Fr × Addr)}, Each PairAt H ps ts → DpAll K H (rv ps) ((kn ts).map fun p => .tuple [.str p.1, frD p.2])
  | [], [], _ => .nil
  | p :: ps, x :: l, h => by
    have h0 : PairAt H p x := h.2 0 p x rfl rfl
    refine .cons (.tup (SqT.of h0.1) (.cons (.str _) (.cons (fr_dp h0.2) .nil))) (dp_rows (ps := ps) (ts := l) ⟨Nat.succ.inj h.1, fun i q y h1 h2 => h.2 (i + 1) q y h1 h2⟩)
  | [], _ :: _, h => by cases h.1
  | _ :: _, [], h => by cases h.1
theorem rows_dp {K : PySem.W.Frag} {H : Hp} {v : V} {l : List (Str × Fr)} (h : RowsAt H v l) : Dp K H v (rowsD l) := by
  obtain ⟨q, ps, ts, rfl, h1, rfl, h2⟩ := h
  exact .tup (SqT.of h1) (dp_rows h2)
theorem Prg.walk_all {pr : Prg} {free : List Str} (hok : PrgOk pr) (hsz : SzQ pr) (hcap : Cap pr free) {xs : List Int} (hx : xs.length = pr.ins.length) (hs : ∀ x ∈ xs, x.natAbs < 2 ^ 20) : (∀ p ∈ (pr.walk free xs).1, Bd 1721 p.2 ∧ p.1 ∈ NM) ∧ ∀ x, (pr.walk free xs).2 = .nought x ∨ (pr.walk free xs).2 = .over x → x ∈ NM := by
  have hb2 := hok.g.1
  obtain ⟨g1, g2, g3⟩ := wq_bd (f := pr.f) (r := pr.r) (free := free) (show 1 ≤ pr.b ^ pr.pl from Nat.pow_pos (by omega)) hsz.u pr.steps (kn0 pr xs) 0 (kn0_bd hs free 0) fun s hs' => by
    obtain ⟨j, hj⟩ := List.getElem?_of_mem hs'
    have hso := StpsOk.at hok.sts hj
    refine ⟨fun o ho m hm => ?_, hsz.more hok.g.1 hso.more⟩
    have := hso.ops o ho
    rw [hm] at this
    exact hsz.on this.1
  refine ⟨fun p hp => ⟨(g1 p hp).le ?_, hok.nms _ ?_⟩, fun x h => hok.nms x (List.mem_append_right _ (g3 x h))⟩
  · rw [Nat.zero_add]; exact bt_le hcap
  · have := g2 p hp
    rw [kn0_fst hx] at this
    exact this
def Rp (d : PyData) : Prop := d.showable = true ∧ d.hasDict = false ∧ d.depth ≤ 60 ∧ (∀ z, d ≠ .str z) ∧ d.shown.length ≤ sizeLine
theorem Sd.rp {M k : Nat} {ds : List PyData} (h : Sd M k (.tuple ds)) (hM : M ≤ 200000) (hk : k ≤ 60) : Rp (.tuple ds) :=
  ⟨h.1, h.2.1, Nat.le_trans h.2.2.1 hk, nofun, Nat.le_trans h.2.2.2 (Nat.le_trans hM (by decide))⟩
theorem mix_rp {pr : Prg} {free : List Str} (hok : PrgOk pr) (hsz : SzQ pr) (hcap : Cap pr free) {xs : List Int} (hx : xs.length = pr.ins.length) (hs : ∀ x ∈ xs, x.natAbs < 2 ^ 20) : Rp (mixD (pr.walk free xs).1 pr.told (pr.walk free xs).2) := by
  obtain ⟨h1, h2⟩ := Prg.walk_all hok hsz hcap hx hs
  have t4 := hok.t4
  cases e : (pr.walk free xs).2 with
  | told =>
    have s1 : Sd 20000 2 (.tuple ((pr.told.map (lookQ (pr.walk free xs).1)).map frD)) := by
      refine (sd_tup (M := 4014) (k := 1) fun d hd => ?_).le ?_ (Nat.le_refl _)
      · obtain ⟨n, hn, rfl⟩ := List.mem_map.mp hd
        obtain ⟨x, _, rfl⟩ := List.mem_map.mp hn
        exact sd_fr (look_bd (by decide) (fun p hp => (h1 p hp).1) x)
      · rw [List.length_map, List.length_map]
        omega
    refine Sd.rp (M := (20000 + 2) * 2 + 10) (k := 3) (sd_tup (ds := [.str "tells", .tuple ((pr.told.map (lookQ (pr.walk free xs).1)).map frD)]) (M := 20000) (k := 2) fun d hd => ?_) (by decide) (by decide)
    rcases List.mem_cons.mp hd with rfl | hd
    · exact (sd_nm (by simp)).le (by decide) (by decide)
    · rw [List.mem_singleton.mp hd]; exact s1
  | nought x =>
    refine Sd.rp (M := (2000 + 2) * 2 + 10) (k := 1) (sd_tup (ds := [.str "nought", .str x]) (M := 2000) (k := 0) fun d hd => ?_) (by decide) (by decide)
    rcases List.mem_cons.mp hd with rfl | hd
    · exact sd_nm (by simp)
    · rw [List.mem_singleton.mp hd]; exact sd_nm (List.mem_cons_of_mem _ (List.mem_cons_of_mem _ (List.mem_cons_of_mem _ (h2 x (.inl e)))))
  | over x =>
    refine Sd.rp (M := (2000 + 2) * 2 + 10) (k := 1) (sd_tup (ds := [.str "over", .str x]) (M := 2000) (k := 0) fun d hd => ?_) (by decide) (by decide)
    rcases List.mem_cons.mp hd with rfl | hd
    · exact sd_nm (by simp)
    · rw [List.mem_singleton.mp hd]; exact sd_nm (List.mem_cons_of_mem _ (List.mem_cons_of_mem _ (List.mem_cons_of_mem _ (h2 x (.inr e)))))
theorem rows_rp {pr : Prg} {free : List Str} (hok : PrgOk pr) (hsz : SzQ pr) (hcap : Cap pr free) {xs : List Int} (hx : xs.length = pr.ins.length) (hs : ∀ x ∈ xs, x.natAbs < 2 ^ 20) : Rp (rowsD (pr.walk free xs).1) := by
  obtain ⟨h1, h2⟩ := Prg.walk_all hok hsz hcap hx hs
  have hl := Prg.walk_len (free := free) hok hx
  refine Sd.rp (k := 3) (sd_tup (M := (4014 + 2) * 2 + 10) (k := 2) fun d hd => ?_) ?_ (by decide)
  · obtain ⟨p, hp, rfl⟩ := List.mem_map.mp hd
    refine sd_tup (M := 4014) (k := 1) fun d hd => ?_
    rcases List.mem_cons.mp hd with rfl | hd
    · exact (sd_nm (List.mem_cons_of_mem _ (List.mem_cons_of_mem _ (List.mem_cons_of_mem _ (h1 p hp).2)))).le (by decide) (by decide)
    · rw [List.mem_singleton.mp hd]; exact sd_fr (h1 p hp).1
  · rw [List.length_map]
    have : ((4014 + 2) * 2 + 10 + 2) * (pr.walk free xs).1.length ≤ ((4014 + 2) * 2 + 10 + 2) * 23 := Nat.mul_le_mul_left _ hl
    omega
theorem cnt_len (ss : List Stp) : cnt ss ≤ ss.length := List.length_filter_le _ _
theorem ex_made {H H1 : Hp} {x dx C : Addr} (nx : H x = none) (nd : H dx = none) (k : Kp x (upd (upd H dx (.own x)) x (.ins C dx [])) H1) : Ex H H1 := Same.made nx nd k
theorem all_id : ∀ bs : List Bool, (∀ b ∈ bs, b = true) → bs.all id = true
  | [], _ => rfl
  | b :: bs, h => by
    rw [List.all_cons, all_id bs (fun c hc => h c (List.mem_cons_of_mem _ hc)), h b List.mem_cons_self]; rfl
def spLaw (K : PySem.W.Frag) : Sp := fun vs H Q _ => ∃ (a : Addr) (ns : List Int), vs = [.ref a] ∧ SqL K H a (ns.map V.int) ∧ ns.length ≤ 63 ∧ ∀ H', Q (.bl true) H'
def runD (l : List (Str × Fr)) (told : List Str) : EndR → PyData
  | .told => .tuple [.str "tells", .tuple ((topsQ l told).map PyData.int)]
  | .nought x => .tuple [.str "nought", .str x]
  | .over x => .tuple [.str "over", .str x]
theorem run_dp {K : PySem.W.Frag} {H : Hp} {v : V} {l : List (Str × Fr)} {told : List Str} {e : EndR} (h : RunAt H v l told e) : Dp K H v (runD l told e) := by
  cases e with
  | told =>
    obtain ⟨q, z, rfl, h1, h2⟩ := h
    exact .tup (SqT.of h1) (.cons (.str _) (.cons (.tup (SqT.of h2) (dp_ints _)) .nil))
  | nought x =>
    obtain ⟨q, rfl, h1⟩ := h
    exact .tup (SqT.of h1) (.cons (.str _) (.cons (.str _) .nil))
  | over x =>
    obtain ⟨q, rfl, h1⟩ := h
    exact .tup (SqT.of h1) (.cons (.str _) (.cons (.str _) .nil))
def worthsD (l : List (Str × Int)) : PyData := .tuple (l.map fun p => .tuple [.str p.1, .int p.2])
theorem dp_nums {K : PySem.W.Frag} {H : Hp} : ∀ {ps : List Addr} {l : List (Str × Int)}, Each NumAt H ps l → DpAll K H (rv ps) (l.map fun p => .tuple [.str p.1, .int p.2])
  | [], [], _ => .nil
  | p :: ps, x :: l, h => by
    have h0 : NumAt H p x := h.2 0 p x rfl rfl
    refine .cons (.tup (SqT.of h0) (.cons (.str _) (.cons (.int _) .nil))) (dp_nums (ps := ps) (l := l) ⟨Nat.succ.inj h.1, fun i q y h1 h2 => h.2 (i + 1) q y h1 h2⟩)
  | [], _ :: _, h => by cases h.1
  | _ :: _, [], h => by cases h.1
theorem worths_dp {K : PySem.W.Frag} {H : Hp} {v : V} {l : List (Str × Int)} (h : WorthsAt H v l) : Dp K H v (worthsD l) := by
  obtain ⟨q, ps, rfl, h1, h2⟩ := h
  exact .tup (SqT.of h1) (dp_nums h2)
theorem run_rp {pr : Prg} (hok : PrgOk pr) (hsz : SzQ pr) {xs : List Int} (hx : xs.length = pr.ins.length) (hs : ∀ x ∈ xs, x.natAbs < 2 ^ 20) : Rp (runD (pr.walk [] xs).1 pr.told (pr.walk [] xs).2) := by
  obtain ⟨h1, h2⟩ := Prg.walk_all (free := []) hok hsz (.inr rfl) hx hs
  have t4 := hok.t4
  cases e : (pr.walk [] xs).2 with
  | told =>
    have s1 : Sd 20000 1 (.tuple ((topsQ (pr.walk [] xs).1 pr.told).map PyData.int)) := by
      refine (sd_tup (M := 2000) (k := 0) fun d hd => ?_).le ?_ (Nat.le_refl _)
      · obtain ⟨n, hn, rfl⟩ := List.mem_map.mp hd
        obtain ⟨x, _, rfl⟩ := List.mem_map.mp hn
        exact sd_int (look_bd (by decide) (fun p hp => (h1 p hp).1) x).t
      · unfold topsQ
        rw [List.length_map, List.length_map]
        omega
    refine Sd.rp (M := (20000 + 2) * 2 + 10) (k := 2) (sd_tup (ds := [.str "tells", .tuple ((topsQ (pr.walk [] xs).1 pr.told).map PyData.int)]) (M := 20000) (k := 1) fun d hd => ?_) (by decide) (by decide)
    rcases List.mem_cons.mp hd with rfl | hd
    · exact (sd_nm (by simp)).le (by decide) (by decide)
    · rw [List.mem_singleton.mp hd]; exact s1
  | nought x =>
    refine Sd.rp (M := (2000 + 2) * 2 + 10) (k := 1) (sd_tup (ds := [.str "nought", .str x]) (M := 2000) (k := 0) fun d hd => ?_) (by decide) (by decide)
    rcases List.mem_cons.mp hd with rfl | hd
    · exact sd_nm (by simp)
    · rw [List.mem_singleton.mp hd]; exact sd_nm (List.mem_cons_of_mem _ (List.mem_cons_of_mem _ (List.mem_cons_of_mem _ (h2 x (.inl e)))))
  | over x =>
    refine Sd.rp (M := (2000 + 2) * 2 + 10) (k := 1) (sd_tup (ds := [.str "over", .str x]) (M := 2000) (k := 0) fun d hd => ?_) (by decide) (by decide)
    rcases List.mem_cons.mp hd with rfl | hd
    · exact sd_nm (by simp)
    · rw [List.mem_singleton.mp hd]; exact sd_nm (List.mem_cons_of_mem _ (List.mem_cons_of_mem _ (List.mem_cons_of_mem _ (h2 x (.inr e)))))
theorem worths_rp {pr : Prg} (hok : PrgOk pr) (hsz : SzQ pr) {xs : List Int} (hx : xs.length = pr.ins.length) (hs : ∀ x ∈ xs, x.natAbs < 2 ^ 20) : Rp (worthsD (tops (pr.walk [] xs).1)) := by
  obtain ⟨h1, h2⟩ := Prg.walk_all (free := []) hok hsz (.inr rfl) hx hs
  have hl := Prg.walk_len (free := []) hok hx
  refine Sd.rp (k := 2) (sd_tup (M := (2000 + 2) * 2 + 10) (k := 1) fun d hd => ?_) ?_ (by decide)
  · obtain ⟨p, hp, rfl⟩ := List.mem_map.mp hd
    obtain ⟨o, ho, rfl⟩ := List.mem_map.mp hp
    refine sd_tup (M := 2000) (k := 0) fun d hd => ?_
    rcases List.mem_cons.mp hd with rfl | hd
    · exact sd_nm (List.mem_cons_of_mem _ (List.mem_cons_of_mem _ (List.mem_cons_of_mem _ (h1 o ho).2)))
    · rw [List.mem_singleton.mp hd]; exact sd_int (h1 o ho).1.t
  · unfold tops
    rw [List.length_map, List.length_map]
    have : ((2000 + 2) * 2 + 10 + 2) * (pr.walk [] xs).1.length ≤ ((2000 + 2) * 2 + 10 + 2) * 23 := Nat.mul_le_mul_left _ hl
    omega
/-! ### where a walk ends -/
theorem wq_end {b f r pl : Nat} {free : List Str} : ∀ (ss : List Stp) (l : List (Str × Fr)) (x : Str), (walkQ b f r pl free l ss).2 = .nought x ∨ (walkQ b f r pl free l ss).2 = .over x → ∃ k, (ss.map Stp.nm)[k]? = some x ∧ (walkQ b f r pl free l ss).1.map (·.1) = l.map (·.1) ++ (ss.map Stp.nm).take k
  | [], l, x, h => by rcases h with h | h <;> cases h
  | s :: ss, l, x, h => by
    cases e : stepQ b f r pl free l s with
    | val n =>
      rw [wq_val e] at h ⊢
      obtain ⟨k, h1, h2⟩ := wq_end ss _ x h
      refine ⟨k + 1, h1, ?_⟩
      rw [h2, List.map_append, List.append_assoc]
      rfl
    | nought =>
      rw [wq_nought e] at h ⊢
      rcases h with h | h
      · cases h; exact ⟨0, rfl, by rw [List.take_zero, List.append_nil]⟩
      · cases h
    | over =>
      rw [wq_over e] at h ⊢
      rcases h with h | h
      · cases h
      · cases h; exact ⟨0, rfl, by rw [List.take_zero, List.append_nil]⟩
theorem pair_srt {l : List Str} (h : l.Pairwise LeS) : sortedS l = true :=
  sortedS_of_pairwise l (h.imp fun {x y} hxy => by
    rw [ltCps_eq]
    exact decide_eq_false (List.not_lt.mpr hxy))
/-! ### what is no list stays -/
def nolist (H : Hp) : Hp := fun c => match H c with
  | some (.lst _) => none
  | o => o
theorem nolist_at {H : Hp} {c : Addr} {o : HO} (h : H c = some o) (ho : ∀ l, o ≠ .lst l) : nolist H c = some o := by
  unfold nolist
  rw [h]
  cases o <;> first | rfl | exact absurd rfl (ho _)
theorem nolist_of {H : Hp} {c : Addr} {o : HO} (h : nolist H c = some o) : H c = some o ∧ ∀ l, o ≠ .lst l := by
  unfold nolist at h
  cases e : H c with
  | none => rw [e] at h; cases h
  | some u =>
    rw [e] at h
    cases u with
    | lst l => cases h
    | _ => exact ⟨h, fun l z => by rw [z] at h; cases h⟩
theorem ProgAt.nl {a : Ad} {H : Hp} {p : Addr} {pr : Prg} (h : ProgAt a H p pr) : ProgAt a (nolist H) p pr := by
  obtain ⟨dx, g, I, S, Tt, N, h0, ⟨⟨h1, h2, h3, h4, dx', lim, tops, p', u', xs', ys', h5, h6, h7, h8⟩, ⟨dx2, lim2, tops2, b2, f2, r2, G2, hu⟩, ⟨qi, qs, q1, q2, q3, q4⟩, h9⟩, hN⟩ := h
  have tn : ∀ {c : Addr} {xs : List V}, H c = some (.tup xs) → nolist H c = some (.tup xs) := fun hc => nolist_at hc fun l z => by cases z
  have inn : ∀ {c C d : Addr} {fs : List (Str × V)}, H c = some (.ins C d fs) → nolist H c = some (.ins C d fs) := fun hc => nolist_at hc fun l z => by cases z
  refine ⟨dx, g, I, S, Tt, N, inn h0, ⟨⟨h1, h2, h3, h4, dx', lim, tops, p', u', xs', ys', inn h5, tn h6, tn h7, h8⟩, ⟨dx2, lim2, tops2, b2, f2, r2, G2, inn hu⟩, ⟨qi, qs, tn q1, ⟨q2.1, fun i q x hq hx => tn (q2.2 i q x hq hx)⟩, tn q3, ⟨q4.1, fun i q x hq hx => ?_⟩⟩, tn h9⟩, tn hN⟩
  obtain ⟨o, t1, t2⟩ := q4.2 i q x hq hx
  exact ⟨o, tn t1, tn t2⟩
theorem Prg.rnd_free {pr : Prg} (xs : List Int) (x : Str) : (pr.walk pr.rnd xs).2 ≠ .over x := wq_free _ _ (fun s hs hR => Prg.rnd_mem hs hR) x
theorem Prg.walk_end {pr : Prg} {free : List Str} {xs : List Int} {x : Str} (hx : xs.length = pr.ins.length) (h : (pr.walk free xs).2 = .nought x ∨ (pr.walk free xs).2 = .over x) : ∃ k, (pr.steps.map Stp.nm)[k]? = some x ∧ (pr.walk free xs).1.map (·.1) = pr.ins.map Inp.nm ++ (pr.steps.map Stp.nm).take k := by
  have := wq_end _ _ x h
  rw [kn0_fst hx] at this
  exact this
end My


set_option Elab.async false
set_option maxRecDepth 100000
set_option maxHeartbeats 2000000
set_option exponentiation.threshold 6000
namespace My
open PySem L2 Evl TL
/-! ### values of any kind -/
inductive NotInt (H : Hp) : V → Prop
  | non : NotInt H .non
  | bl (b : Bool) : NotInt H (.bl b)
  | str (s : Str) : NotInt H (.str s)
  | tup {a : Addr} {xs : List V} (h : H a = some (.tup xs)) : NotInt H (.ref a)
  | lst {a : Addr} {xs : List V} (h : H a = some (.lst xs)) : NotInt H (.ref a)
  | dK {a : Addr} {kvs : List (Key × V)} (h : H a = some (.dK kvs)) : NotInt H (.ref a)
inductive NotTup (H : Hp) : V → Prop
  | non : NotTup H .non
  | bl (b : Bool) : NotTup H (.bl b)
  | int (i : Int) : NotTup H (.int i)
  | str (s : Str) : NotTup H (.str s)
  | lst {a : Addr} {xs : List V} (h : H a = some (.lst xs)) : NotTup H (.ref a)
  | dK {a : Addr} {kvs : List (Key × V)} (h : H a = some (.dK kvs)) : NotTup H (.ref a)
theorem NotInt.ex {H H' : Hp} {v : V} (h : NotInt H v) (e : Ex H H') : NotInt H' v := by
  cases h with
  | non => exact .non
  | bl b => exact .bl b
  | str s => exact .str s
  | tup h => exact .tup (e _ _ h)
  | lst h => exact .lst (e _ _ h)
  | dK h => exact .dK (e _ _ h)
theorem NotTup.ex {H H' : Hp} {v : V} (h : NotTup H v) (e : Ex H H') : NotTup H' v := by
  cases h with
  | non => exact .non
  | bl b => exact .bl b
  | int i => exact .int i
  | str s => exact .str s
  | lst h => exact .lst (e _ _ h)
  | dK h => exact .dK (e _ _ h)
def Part (H : Hp) (v : V) : Prop := (∃ i, v = .int i) ∨ NotInt H v
theorem Part.ex {H H' : Hp} {v : V} (h : Part H v) (e : Ex H H') : Part H' v := h.imp id fun z => z.ex e
def Val (H : Hp) (v : V) : Prop := NotTup H v ∨ ∃ (a : Addr) (xs : List V), v = .ref a ∧ H a = some (.tup xs) ∧ xs.length ≤ 100 ∧ ∀ y ∈ xs, Part H y
theorem Val.ex {H H' : Hp} {v : V} (h : Val H v) (e : Ex H H') : Val H' v := by
  rcases h with h | ⟨a, xs, h1, h2, h3, h4⟩
  · exact .inl (h.ex e)
  · exact .inr ⟨a, xs, h1, e _ _ h2, h3, fun y hy => (h4 y hy).ex e⟩
theorem NotInt.kp {H H' : Hp} {v : V} {p : Addr} {n m : Nat} (h : NotInt H v) (hp : PotAt H p n) (hp' : PotAt H' p m) (e : Kp p H H') : NotInt H' v := by
  obtain ⟨x, y, c, hpp, _⟩ := hp
  cases h with
  | non => exact .non
  | bl b => exact .bl b
  | str s => exact .str s
  | tup h => exact .tup (e _ _ h (ne_of h hpp (by intro z; cases z)))
  | @lst a xs h =>
    by_cases ha : a = p
    · subst ha
      obtain ⟨x, y, c, hp2, _⟩ := hp'
      exact .lst hp2
    · exact .lst (e _ _ h ha)
  | dK h => exact .dK (e _ _ h (ne_of h hpp (by intro z; cases z)))
theorem Part.kp {H H' : Hp} {v : V} {p : Addr} {n m : Nat} (h : Part H v) (hp : PotAt H p n) (hp' : PotAt H' p m) (e : Kp p H H') : Part H' v := h.imp id fun z => z.kp hp hp' e
theorem Val.kp {H H' : Hp} {v : V} {p : Addr} {n m : Nat} (h : Val H v) (hp : PotAt H p n) (hp' : PotAt H' p m) (e : Kp p H H') : Val H' v := by
  rcases h with h | ⟨a, xs, h1, h2, h3, h4⟩
  · obtain ⟨x, y, c, hpp, _⟩ := id hp
    refine .inl ?_
    cases h with
    | non => exact .non
    | bl b => exact .bl b
    | int i => exact .int i
    | str s => exact .str s
    | @lst a xs h =>
      by_cases ha : a = p
      · subst ha
        obtain ⟨x, y, c, hp2, _⟩ := hp'
        exact .lst hp2
      · exact .lst (e _ _ h ha)
    | dK h => exact .dK (e _ _ h (ne_of h hpp (by intro z; cases z)))
  · obtain ⟨x, y, c, hpp, _⟩ := id hp
    exact .inr ⟨a, xs, h1, e _ _ h2 (ne_of h2 hpp (by intro z; cases z)), h3, fun y hy => (h4 y hy).kp hp hp' e⟩
theorem Val.any {H : Hp} {v : V} (h : Val H v) : flatV v = true ∨ RefV H v := by
  rcases h with h | ⟨a, xs, rfl, h, _⟩
  · cases h with
    | non => exact .inl rfl
    | bl b => exact .inl rfl
    | int i => exact .inl rfl
    | str s => exact .inl rfl
    | lst h => exact .inr ⟨_, rfl, .inr (.inl ⟨_, h⟩)⟩
    | dK h => exact .inr ⟨_, rfl, .inr (.inr ⟨_, h⟩)⟩
  · exact .inr ⟨_, rfl, .inl ⟨_, h⟩⟩
theorem Val.isS {K : PySem.W.Frag} {H : Hp} {v : V} (h : Val H v) : (∃ s, v = .str s) ∨ ((∃ t, TyX K H v (.type t) ∧ kitB t "str" = some false) ∧ ∀ ss, flatV v = true → inV v (sv ss) = false) := by
  have ni : ∀ (x : V), flatV x = true → (∀ s, x ≠ .str s) → ∀ ss, inV x (sv ss) = false := fun x hx hn ss => by
    unfold inV sv
    rw [List.any_map]
    refine List.any_eq_false.mpr fun s _ => ?_
    cases x <;> first | exact absurd rfl (hn _) | (show ¬ _ ; simp [eqV])
  rcases h with h | ⟨a, xs, rfl, h, _⟩
  · cases h with
    | non => exact .inr ⟨⟨_, .base .non, by decide +kernel⟩, fun ss f => ni _ f (fun s z => by cases z) ss⟩
    | bl b => exact .inr ⟨⟨_, .base (.bl b), by decide +kernel⟩, fun ss f => ni _ f (fun s z => by cases z) ss⟩
    | int i => exact .inr ⟨⟨_, .base (.int i), by decide +kernel⟩, fun ss f => ni _ f (fun s z => by cases z) ss⟩
    | str s => exact .inl ⟨s, rfl⟩
    | lst h => exact .inr ⟨⟨_, .base (.lst h), by decide +kernel⟩, fun ss f => ni _ f (fun s z => by cases z) ss⟩
    | dK h => exact .inr ⟨⟨_, .base (.dK h), by decide +kernel⟩, fun ss f => ni _ f (fun s z => by cases z) ss⟩
  · exact .inr ⟨⟨_, .base (.tup h), by decide +kernel⟩, fun ss f => ni _ f (fun s z => by cases z) ss⟩
/-! ### a program of its own ==, len and in -/
theorem pfl_text {x : Str} {g I S Tt N : Addr} : (pfl x g I S Tt N).lookup ("text" : Str) = some (.str x) := by
  unfold pfl
  repeat (first | rw [lookup_putF, if_pos (by decide +kernel)] | rw [lookup_putF, if_neg (by decide +kernel)])
def TyN (K : PySem.W.Frag) (H : Hp) (v : V) : Prop := ∃ t, TyX K H v (.type t) ∧ t ∈ ["str", "NoneType", "tuple", "int", "bool", "list", "dict"]
def sp_peq (K : PySem.W.Frag) (a : Ad) : Sp := fun vs H Q _ => ∃ (p : Addr) (pr : Prg) (v : V), vs = [.ref p, v] ∧ ProgAt a H p pr ∧ ((∃ q pr2, v = .ref q ∧ ProgAt a H q pr2 ∧ Q (.bl (decide (V.str pr.text = V.str pr2.text))) H) ∨ (TyN K H v ∧ Q (.bl false) H))
def sp_plen (a : Ad) : Sp := fun vs H Q _ => ∃ (p : Addr) (pr : Prg), vs = [.ref p] ∧ ProgAt a H p pr ∧ Q (.int (pr.steps.length : Nat)) H
def sp_pin (a : Ad) : Sp := fun vs H Q _ => ∃ (p : Addr) (pr : Prg) (v : V), vs = [.ref p, v] ∧ ProgAt a H p pr ∧ ((flatV v = true ∧ Q (.bl (inV v (sv pr.names))) H) ∨ (RefV H v ∧ Q (.bl false) H))
section
variable {P : Program} {w : World} {K : PySem.W.Frag} {mg : Str → Option Value} {base : Heap} {a : Ad}
theorem ok_Program_eq (T : Txt K mg a) : FnOk P w K mg base CX0 1 a.Program_eq a.Program_eq_fd ["self", "other"] (sp_peq K a) := by
  refine T.F_Program_eq.ok sc_Program_eq (fun vs H Q E h => ?_) (fun cdv A outer s H vs Q E hr h => ?_)
  · obtain ⟨p, pr, v, rfl, _⟩ := h
    rfl
  · obtain ⟨p, pr, v, rfl, hp, h⟩ := h
    refine ⟨_, (pss_one (ps_ret (pe_and (pe_callB call_isi (by rfl) T.n_isinstance (by decide +kernel) (pa_cons (pv 1) (pa_cons (pe_glob (v := .ref a.Program) rfl T.g_Program rfl) pa_nil))) (pe_one (pe_cmpR op_eq (pe_fld (pv 0) rfl) (pe_fld (pv 1) rfl) (nomark _)))))), ?_⟩
    obtain ⟨dx, g, I, S, Tt, N, hpo, hparts, hN⟩ := id hp
    rcases h with ⟨q, pr2, rfl, hq, k⟩ | ⟨⟨t, ht, htm⟩, k⟩
    · obtain ⟨dx', g', I', S', Tt', N', hqo, hparts', hN'⟩ := id hq
      refine ⟨_, rfl, _, _, _, _, true, rfl, .own _, T.q_Program.ins T.cl_Program hqo, kit_self, ?_⟩
      refine ⟨true, rfl, iteT ?_⟩
      refine ⟨_, rfl, p, _, dx, _, _, rfl, hpo, T.cl_Program, T.f_Program_text, pfl_text, _, rfl, q, _, dx', _, _, rfl, hqo, T.cl_Program, T.f_Program_text, pfl_text, ?_⟩
      exact ⟨rfl, k⟩
    · refine ⟨_, rfl, _, _, _, _, false, rfl, .own _, ht, T.q_Program.kit htm, ?_⟩
      exact ⟨false, rfl, ite2 (fun z => absurd z (by decide)) fun _ => k⟩
theorem ok_Program_len (T : Txt K mg a) : FnOk P w K mg base CX0 1 a.Program_len a.Program_len_fd ["self"] (sp_plen a) := by
  refine T.F_Program_len.ok sc_Program_len (fun vs H Q E h => ?_) (fun cdv A outer s H vs Q E hr h => ?_)
  · obtain ⟨p, pr, rfl, _⟩ := h
    rfl
  · obtain ⟨p, pr, rfl, hp, k⟩ := h
    refine ⟨_, (pss_one (ps_ret (pe_callB call_len_seq (by rfl) T.n_len (by decide +kernel) (pa_cons (pe_fld (pv 0) rfl) pa_nil)))), ?_⟩
    obtain ⟨dx, g, I, S, Tt, N, hpo, hparts, hN⟩ := id hp
    obtain ⟨qi, qs, h1, h2, h3, h4⟩ := hparts.ex
    refine ⟨_, rfl, p, _, dx, _, _, rfl, hpo, T.cl_Program, T.f_Program_steps, pfl_steps, S, _, rfl, .inr (SqT.of h3), ?_⟩
    rw [rv_len, h4.1]
    exact k
theorem ok_Program_contains (T : Txt K mg a) : FnOk P w K mg base CX0 4 a.Program_contains a.Program_contains_fd ["self", "value"] (sp_pin a) := by
  refine T.F_Program_contains.ok sc_Program_contains (fun vs H Q E h => ?_) (fun cdv A outer s H vs Q E hr h => ?_)
  · obtain ⟨p, pr, v, rfl, _⟩ := h
    rfl
  · obtain ⟨p, pr, v, rfl, hp, h⟩ := h
    refine ⟨_, (pss_one (ps_ret (pe_cmpR (op_inS (hr.mono (by decide))) (pv 1) (pe_fld (pv 0) rfl) (by rfl)))), ?_⟩
    obtain ⟨dx, g, I, S, Tt, N, hpo, hparts, hN⟩ := id hp
    refine ⟨_, rfl, _, rfl, p, _, dx, _, _, rfl, hpo, T.cl_Program, T.f_Program_names, pfl_names, N, pr.names, rfl, .inr (SqT.of hN), ?_⟩
    exact h
end
end My


set_option Elab.async false
set_option maxRecDepth 100000
set_option maxHeartbeats 4000000
set_option exponentiation.threshold 6000
namespace My
open PySem L2 Evl
def sp_odd : Sp := fun vs H Q _ => ∃ (p : Addr) (n : Nat), vs = [.ref p] ∧ PotAt H p n ∧ n ≤ 100000 ∧ ∀ v H', Kp p H H' → PotAt H' p (n + 1) → Val H' v → Q v H'
theorem ex_twice {H : Hp} {q : Addr} {o o' : HO} (h : H q = none) : Ex H (upd (upd H q o) q o') := fun b x hb => by
  have hn : b ≠ q := by rintro rfl; rw [h] at hb; cases hb
  rw [upd_ne hn, upd_ne hn]; exact hb
section
variable {P : Program} {w : World} {K : PySem.W.Frag} {mg : Str → Option Value} {base : Heap} {a : Ad}
theorem ok_l_odd (T : Txt K mg a) : FnOk P w K mg base CX0 3 a.l_odd a.l_odd_fd ["pot"] sp_odd := by
  refine T.F_l_odd.ok sc_l_odd (fun vs H Q E h => ?_) (fun cdv A outer s H vs Q E hr h => ?_)
  · obtain ⟨p, n, rfl, _⟩ := h
    rfl
  · obtain ⟨p, n, rfl, hp, hn, k⟩ := h
    refine ⟨_, (pss_cut (ps_set (i := 1) sc_l_odd.nd rfl (Or.inl rfl) (pe_lst (pa_cons pe_non (pa_cons pe_bl (pa_cons pe_bl (pa_cons pe_int (pa_cons pe_int (pa_cons (pe_un un_neg pe_int) (pa_cons pe_int (pa_cons (pe_op op_pow pe_int pe_int) (pa_cons pe_str (pa_cons pe_str (pa_cons pe_str (pa_cons pe_str (pa_cons pe_str (pa_cons pe_str (pa_cons (pe_tup pa_nil) (pa_cons (pe_lst pa_nil) (pa_cons pe_dnewK (pa_cons (pe_tup (pa_cons pe_int pa_nil)) (pa_cons (pe_tup (pa_cons pe_int (pa_cons pe_int pa_nil))) pa_nil)))))))))))))))))))))
      (pss_cons (ps_set (i := 1) sc_l_odd.nd rfl (Or.inl rfl) (pe_op op_cat (pv 1) (pe_lst (pa_cons (pe_tup (pa_cons pe_int (pa_cons pe_int pa_nil))) (pa_cons (pe_tup (pa_cons (pe_tup pa_nil) pa_nil)) (pa_cons (pe_lst (pa_cons pe_int pa_nil)) (pa_cons (pe_tup (pa_cons pe_non pa_nil)) (pa_cons (pe_disp (pps_cons pe_str pe_int pps_nil) (by rfl) (by rfl) (fun z => by cases z) (by decide)) (pa_cons (pe_tup (pa_cons pe_bl pa_nil)) (pa_cons pe_str (pa_cons (pe_tup (pa_cons pe_str pa_nil)) (pa_cons (pe_tup (pa_cons pe_str pa_nil)) (pa_cons (pe_tup (pa_cons pe_str pa_nil)) (pa_cons (pe_tup (pa_cons pe_int (pa_cons pe_int pa_nil))) pa_nil))))))))))))))
      (pss_one (ps_ret (pe_call (ok_l_of T) (hr.mono (by decide)) rfl T.g_l_of T.k_l_of T.B_l_of .nil pass0 (pa_cons (pv 0) (pa_cons (pv 1) pa_nil))))))), ?_⟩
    refine ⟨fun σ H' => ∃ (l : Addr) (vs : List V), Ex H H' ∧ H l = none ∧ H' l = some (.lst vs) ∧ vs.length = 19 ∧ (∀ v ∈ vs, Val H' v) ∧ σ = [some (.ref p), some (.ref l)], ?_, ?_⟩
    · refine ⟨_, rfl, ?_⟩
      refine ⟨_, _, rfl, rfl, ⟨by decide, by decide, by decide⟩, ?_⟩
      refine ⟨by show 0 ≤ sizeLine; decide, fun q1 h1 => ?_⟩
      have e1 := Ex.new (o := .tup []) h1
      have w1 : (upd H q1 (.tup [])) q1 = some (.tup []) := upd_same
      generalize (upd H q1 (.tup [])) = A1 at *
      refine ⟨by show 0 ≤ sizeLine; decide, fun q2 h2 => ?_⟩
      have e2 := Ex.new (o := .lst []) h2
      have w2 : (upd A1 q2 (.lst [])) q2 = some (.lst []) := upd_same
      generalize (upd A1 q2 (.lst [])) = A2 at *
      refine fun q3 h3 => ?_
      have e3 := Ex.new (o := .dK []) h3
      have w3 : (upd A2 q3 (.dK [])) q3 = some (.dK []) := upd_same
      generalize (upd A2 q3 (.dK [])) = A3 at *
      refine ⟨by show 1 ≤ sizeLine; decide, fun q4 h4 => ?_⟩
      have e4 := Ex.new (o := .tup [V.int 0]) h4
      have w4 : (upd A3 q4 (.tup [V.int 0])) q4 = some (.tup [V.int 0]) := upd_same
      generalize (upd A3 q4 (.tup [V.int 0])) = A4 at *
      refine ⟨by show 2 ≤ sizeLine; decide, fun q5 h5 => ?_⟩
      have e5 := Ex.new (o := .tup [V.int 0, V.int 1]) h5
      have w5 : (upd A4 q5 (.tup [V.int 0, V.int 1])) q5 = some (.tup [V.int 0, V.int 1]) := upd_same
      generalize (upd A4 q5 (.tup [V.int 0, V.int 1])) = A5 at *
      refine ⟨by show 19 ≤ sizeLine; decide, fun l hl => ?_⟩
      have el := Ex.new (o := .lst [V.non, V.bl true, V.bl false, V.int 0, V.int 1, V.int (-1), V.int 7, V.int (10 ^ (8 : Int).toNat), V.str (Str.ofString ""), V.str (Str.ofString "s"), V.str (Str.ofString "t"), V.str (Str.ofString "near"), V.str (Str.ofString "x"), V.str (Str.ofString "tell t"), V.ref q1, V.ref q2, V.ref q3, V.ref q4, V.ref q5]) hl
      have c5 := el
      have c4 := e5.trans c5
      have c3 := e4.trans c4
      have c2 := e3.trans c3
      have c1 := e2.trans c2
      have c0 := e1.trans c1
      have hl0 : H l = none := by
       cases hh : H l with
       | none => rfl
       | some o => exact absurd ((((((e1.trans e2).trans e3).trans e4).trans e5) _ _ hh).symm.trans hl) (by intro z; cases z)
      refine ⟨l, _, c0, hl0, upd_same, rfl, ?_, rfl⟩
      intro v hv
      rcases List.mem_cons.mp hv with rfl | hv
      · exact .inl .non
      rcases List.mem_cons.mp hv with rfl | hv
      · exact .inl (.bl _)
      rcases List.mem_cons.mp hv with rfl | hv
      · exact .inl (.bl _)
      rcases List.mem_cons.mp hv with rfl | hv
      · exact .inl (.int _)
      rcases List.mem_cons.mp hv with rfl | hv
      · exact .inl (.int _)
      rcases List.mem_cons.mp hv with rfl | hv
      · exact .inl (.int _)
      rcases List.mem_cons.mp hv with rfl | hv
      · exact .inl (.int _)
      rcases List.mem_cons.mp hv with rfl | hv
      · exact .inl (.int _)
      rcases List.mem_cons.mp hv with rfl | hv
      · exact .inl (.str _)
      rcases List.mem_cons.mp hv with rfl | hv
      · exact .inl (.str _)
      rcases List.mem_cons.mp hv with rfl | hv
      · exact .inl (.str _)
      rcases List.mem_cons.mp hv with rfl | hv
      · exact .inl (.str _)
      rcases List.mem_cons.mp hv with rfl | hv
      · exact .inl (.str _)
      rcases List.mem_cons.mp hv with rfl | hv
      · exact .inl (.str _)
      rcases List.mem_cons.mp hv with rfl | hv
      · exact .inr ⟨_, _, rfl, c1 _ _ w1, by decide, fun y hy => by cases hy⟩
      rcases List.mem_cons.mp hv with rfl | hv
      · exact .inl (.lst (c2 _ _ w2))
      rcases List.mem_cons.mp hv with rfl | hv
      · exact .inl (.dK (c3 _ _ w3))
      rcases List.mem_cons.mp hv with rfl | hv
      · exact .inr ⟨_, _, rfl, c4 _ _ w4, by decide, fun y hy => by rw [List.mem_singleton.mp hy]; exact .inl ⟨0, rfl⟩⟩
      rcases List.mem_cons.mp hv with rfl | hv
      · exact .inr ⟨_, _, rfl, c5 _ _ w5, by decide, fun y hy => by rcases List.mem_cons.mp hy with rfl | hy; exact .inl ⟨0, rfl⟩; rw [List.mem_singleton.mp hy]; exact .inl ⟨1, rfl⟩⟩
      cases hv
    · rintro σ G0 ⟨l, vs, eG, hl, hlv, h19, hvs, rfl⟩
      refine ⟨_, rfl, ?_⟩
      refine ⟨by show 2 ≤ sizeLine; decide, fun q1 h1 => ?_⟩
      have e1 := Ex.new (o := .tup [V.int 1, V.int 0]) h1
      have w1 : (upd G0 q1 (.tup [V.int 1, V.int 0])) q1 = some (.tup [V.int 1, V.int 0]) := upd_same
      generalize (upd G0 q1 (.tup [V.int 1, V.int 0])) = B1 at *
      refine ⟨by show 0 ≤ sizeLine; decide, fun q2 h2 => ?_⟩
      have e2 := Ex.new (o := .tup []) h2
      have w2 : (upd B1 q2 (.tup [])) q2 = some (.tup []) := upd_same
      generalize (upd B1 q2 (.tup [])) = B2 at *
      refine ⟨by show 1 ≤ sizeLine; decide, fun q3 h3 => ?_⟩
      have e3 := Ex.new (o := .tup [V.ref q2]) h3
      have w3 : (upd B2 q3 (.tup [V.ref q2])) q3 = some (.tup [V.ref q2]) := upd_same
      generalize (upd B2 q3 (.tup [V.ref q2])) = B3 at *
      refine ⟨by show 1 ≤ sizeLine; decide, fun q4 h4 => ?_⟩
      have e4 := Ex.new (o := .lst [V.int 0]) h4
      have w4 : (upd B3 q4 (.lst [V.int 0])) q4 = some (.lst [V.int 0]) := upd_same
      generalize (upd B3 q4 (.lst [V.int 0])) = B4 at *
      refine ⟨by show 1 ≤ sizeLine; decide, fun q5 h5 => ?_⟩
      have e5 := Ex.new (o := .tup [V.non]) h5
      have w5 : (upd B4 q5 (.tup [V.non])) q5 = some (.tup [V.non]) := upd_same
      generalize (upd B4 q5 (.tup [V.non])) = B5 at *
      refine fun q6 h6 => ⟨upd_same, [(.inr (Str.ofString "a"), V.int 1)], rfl, by decide, ?_⟩
      obtain ⟨B6, w6, e6, hG⟩ : ∃ G, G q6 = some (.dK (mergeK [] [(.inr (Str.ofString "a"), V.int 1)])) ∧ Ex B5 G ∧ (upd (upd B5 q6 (.dK [])) q6 (.dK (mergeK [] [(.inr (Str.ofString "a"), V.int 1)]))) = G := ⟨_, upd_same, ex_twice h6, rfl⟩
      rw [hG]
      refine ⟨by show 1 ≤ sizeLine; decide, fun q7 h7 => ?_⟩
      have e7 := Ex.new (o := .tup [V.bl true]) h7
      have w7 : (upd B6 q7 (.tup [V.bl true])) q7 = some (.tup [V.bl true]) := upd_same
      generalize (upd B6 q7 (.tup [V.bl true])) = B7 at *
      refine ⟨by show 1 ≤ sizeLine; decide, fun q8 h8 => ?_⟩
      have e8 := Ex.new (o := .tup [V.str (Str.ofString "s")]) h8
      have w8 : (upd B7 q8 (.tup [V.str (Str.ofString "s")])) q8 = some (.tup [V.str (Str.ofString "s")]) := upd_same
      generalize (upd B7 q8 (.tup [V.str (Str.ofString "s")])) = B8 at *
      refine ⟨by show 1 ≤ sizeLine; decide, fun q9 h9 => ?_⟩
      have e9 := Ex.new (o := .tup [V.str (Str.ofString "box")]) h9
      have w9 : (upd B8 q9 (.tup [V.str (Str.ofString "box")])) q9 = some (.tup [V.str (Str.ofString "box")]) := upd_same
      generalize (upd B8 q9 (.tup [V.str (Str.ofString "box")])) = B9 at *
      refine ⟨by show 1 ≤ sizeLine; decide, fun q10 h10 => ?_⟩
      have e10 := Ex.new (o := .tup [V.str (Str.ofString "sound")]) h10
      have w10 : (upd B9 q10 (.tup [V.str (Str.ofString "sound")])) q10 = some (.tup [V.str (Str.ofString "sound")]) := upd_same
      generalize (upd B9 q10 (.tup [V.str (Str.ofString "sound")])) = B10 at *
      refine ⟨by show 2 ≤ sizeLine; decide, fun q11 h11 => ?_⟩
      have e11 := Ex.new (o := .tup [V.int 0, V.int 16]) h11
      have w11 : (upd B10 q11 (.tup [V.int 0, V.int 16])) q11 = some (.tup [V.int 0, V.int 16]) := upd_same
      generalize (upd B10 q11 (.tup [V.int 0, V.int 16])) = B11 at *
      refine ⟨by show 11 ≤ sizeLine; decide, fun m hm => ?_⟩
      have em := Ex.new (o := .lst [V.ref q1, V.ref q3, V.ref q4, V.ref q5, V.ref q6, V.ref q7, V.str (Str.ofString "sound"), V.ref q8, V.ref q9, V.ref q10, V.ref q11]) hm
      have wm : (upd B11 m (.lst [V.ref q1, V.ref q3, V.ref q4, V.ref q5, V.ref q6, V.ref q7, V.str (Str.ofString "sound"), V.ref q8, V.ref q9, V.ref q10, V.ref q11])) m = some (.lst [V.ref q1, V.ref q3, V.ref q4, V.ref q5, V.ref q6, V.ref q7, V.str (Str.ofString "sound"), V.ref q8, V.ref q9, V.ref q10, V.ref q11]) := upd_same
      generalize (upd B11 m (.lst [V.ref q1, V.ref q3, V.ref q4, V.ref q5, V.ref q6, V.ref q7, V.str (Str.ofString "sound"), V.ref q8, V.ref q9, V.ref q10, V.ref q11])) = B12 at *
      have c11 := em
      have c10 := e11.trans c11
      have c9 := e10.trans c10
      have c8 := e9.trans c9
      have c7 := e8.trans c8
      have c6 := e7.trans c7
      have c5 := e6.trans c6
      have c4 := e5.trans c5
      have c3 := e4.trans c4
      have c2 := e3.trans c3
      have c1 := e2.trans c2
      have c0 := e1.trans c1
      have all2 : ∀ v ∈ [V.ref q1, V.ref q3, V.ref q4, V.ref q5, V.ref q6, V.ref q7, V.str (Str.ofString "sound"), V.ref q8, V.ref q9, V.ref q10, V.ref q11], Val B12 v := by
        intro v hv
        rcases List.mem_cons.mp hv with rfl | hv
        · exact .inr ⟨_, _, rfl, c1 _ _ w1, by decide, fun y hy => by rcases List.mem_cons.mp hy with rfl | hy; exact .inl ⟨1, rfl⟩; rw [List.mem_singleton.mp hy]; exact .inl ⟨0, rfl⟩⟩
        rcases List.mem_cons.mp hv with rfl | hv
        · exact .inr ⟨_, _, rfl, c3 _ _ w3, Nat.le_of_ble_eq_true rfl, fun y hy => by rw [List.mem_singleton.mp hy]; exact .inr (.tup (c2 _ _ w2))⟩
        rcases List.mem_cons.mp hv with rfl | hv
        · exact .inl (.lst (c4 _ _ w4))
        rcases List.mem_cons.mp hv with rfl | hv
        · exact .inr ⟨_, _, rfl, c5 _ _ w5, Nat.le_of_ble_eq_true rfl, fun y hy => by rw [List.mem_singleton.mp hy]; exact .inr .non⟩
        rcases List.mem_cons.mp hv with rfl | hv
        · exact .inl (.dK (c6 _ _ w6))
        rcases List.mem_cons.mp hv with rfl | hv
        · exact .inr ⟨_, _, rfl, c7 _ _ w7, Nat.le_of_ble_eq_true rfl, fun y hy => by rw [List.mem_singleton.mp hy]; exact .inr (.bl _)⟩
        rcases List.mem_cons.mp hv with rfl | hv
        · exact .inl (.str _)
        rcases List.mem_cons.mp hv with rfl | hv
        · exact .inr ⟨_, _, rfl, c8 _ _ w8, Nat.le_of_ble_eq_true rfl, fun y hy => by rw [List.mem_singleton.mp hy]; exact .inr (.str _)⟩
        rcases List.mem_cons.mp hv with rfl | hv
        · exact .inr ⟨_, _, rfl, c9 _ _ w9, Nat.le_of_ble_eq_true rfl, fun y hy => by rw [List.mem_singleton.mp hy]; exact .inr (.str _)⟩
        rcases List.mem_cons.mp hv with rfl | hv
        · exact .inr ⟨_, _, rfl, c10 _ _ w10, Nat.le_of_ble_eq_true rfl, fun y hy => by rw [List.mem_singleton.mp hy]; exact .inr (.str _)⟩
        rcases List.mem_cons.mp hv with rfl | hv
        · exact .inr ⟨_, _, rfl, c11 _ _ w11, by decide, fun y hy => by rcases List.mem_cons.mp hy with rfl | hy; exact .inl ⟨0, rfl⟩; rw [List.mem_singleton.mp hy]; exact .inl ⟨16, rfl⟩⟩
        cases hv
      refine ⟨l, m, vs, _, rfl, rfl, c0 _ _ hlv, wm, by rw [h19]; show 19 + 11 ≤ sizeLine; decide, fun z hz => ?_⟩
      have pz := ((hp.ex eG).ex c0).ex (Ex.new (o := .lst (vs ++ [V.ref q1, V.ref q3, V.ref q4, V.ref q5, V.ref q6, V.ref q7, V.str (Str.ofString "sound"), V.ref q8, V.ref q9, V.ref q10, V.ref q11])) hz)
      refine ⟨_, rfl, _, rfl, p, z, n, _, rfl, pz, hn, upd_same, ((hp.ex eG).ex c0).ne hz, by rw [List.length_append, h19]; show 0 < 19 + 11; decide, by rw [List.length_append, h19]; show 19 + 11 ≤ 100000; decide, fun j v H' hv kp pp => ?_⟩
      refine k v H' (((Ex.kp (p := p) (eG.trans c0)).ex (Ex.new hz)).trans kp) pp ?_
      refine Val.kp (Val.ex (?_ : Val B12 v) (Ex.new hz)) pz pp kp
      rcases List.mem_append.mp (List.mem_of_getElem? hv) with h | h
      · exact (hvs v h).ex c0
      · exact all2 v h
end
end My


set_option Elab.async false
set_option maxRecDepth 100000
set_option maxHeartbeats 2000000
set_option exponentiation.threshold 6000
namespace My
open PySem L2 Evl TL LiI
def Prg.tol (pr : Prg) (told : List Str) : Prg := ⟨pr.b, pr.f, pr.r, pr.pl, pr.ins, pr.steps, told⟩
theorem PrgOk.tol {pr : Prg} {told : List Str} (h : PrgOk pr) (h1 : ∀ x ∈ told, x ∈ pr.names) (h2 : 1 ≤ told.length) (h4 : told.length ≤ 4) : PrgOk (pr.tol told) := ⟨h.g, h.ins, h.i1, h.i3, h.sts, h.s20, h1, h2, h4⟩
/-- all but two cells stay -/
def Kp2 (p d : Addr) (H H' : Hp) : Prop := ∀ b o, H b = some o → b ≠ p → b ≠ d → H' b = some o
def sp_told : Sp := fun vs H Q _ => ∃ (p d : Addr) (n : Nat) (pr : Prg), vs = [.ref p, .ref d] ∧ PotAt H p n ∧ n + 100 ≤ 100000 ∧ OwnAt H d pr ∧ PrgOk pr ∧ 1 ≤ pr.steps.length ∧
  ∀ (told : List Str) H', Kp2 p d H H' → PotAt H' p (n + 5) → OwnAt H' d (pr.tol told) → (∀ x ∈ told, x ∈ pr.names) → 1 ≤ told.length → told.length ≤ 4 → Q (.ref d) H'
theorem rv_potl {H : Hp} {p L : Addr} {n : Nat} {qs : List Addr} (hp : PotAt H p n) (h : H L = some (.lst (rv qs))) (h1 : 1 ≤ qs.length) : L ≠ p := fun z => by
  obtain ⟨x, y, c, hh, _⟩ := hp
  rw [z, hh] at h
  cases qs with
  | nil => exact absurd h1 (by decide)
  | cons q qs => cases h
theorem sv_potl {H : Hp} {p L : Addr} {n : Nat} {ws : List Str} (hp : PotAt H p n) (h : H L = some (.lst (sv ws))) (h1 : 1 ≤ ws.length) : L ≠ p := fun z => by
  obtain ⟨x, y, c, hh, _⟩ := hp
  rw [z, hh] at h
  cases ws with
  | nil => exact absurd h1 (by decide)
  | cons q qs => cases h
section
variable {P : Program} {w : World} {K : PySem.W.Frag} {mg : Str → Option Value} {base : Heap} {a : Ad}
theorem ok_l_told (T : Txt K mg a) : FnOk P w K mg base CX0 3 a.l_told a.l_told_fd ["pot", "own"] sp_told := by
  refine T.F_l_told.ok sc_l_told (fun vs H Q E h => ?_) (fun cdv A outer s H vs Q E hr h => ?_)
  · obtain ⟨p, d, n, pr, rfl, _⟩ := h
    rfl
  · obtain ⟨p, d, n, pr, rfl, hp, hn, hd, hok, hs1, k⟩ := h
    refine ⟨_, (pss_cut (ps_set (i := 2) sc_l_told.nd rfl (Or.inl rfl) (pe_op op_cat (pe_lc (own := [("row", 5)]) (g := gName 5) (by rfl) sc_l_told.nd (pi_list (pe_dget (hu_of hr) (pv 1) pe_str (fun _ _ => rfl))) (blkOk_by (own := [("row", 5)]) (N := N_l_told) (sc := defScope s_l_told) (by decide +kernel)) (fun _ _ _ _ _ => pg_name (i := 5) sc_l_told.nd rfl (Or.inl rfl)) (fun _ _ _ _ _ => pts_nil) (fun _ _ _ _ _ => (pe_ix (r := rIxT K) ix_tup (pv 5) pe_int (fun _ _ => rfl)))) (pe_lc (own := [("step", 6)]) (g := gName 6) (by rfl) sc_l_told.nd (pi_list (pe_dget (hu_of hr) (pv 1) pe_str (fun _ _ => rfl))) (blkOk_by (own := [("step", 6)]) (N := N_l_told) (sc := defScope s_l_told) (by decide +kernel)) (fun _ _ _ _ _ => pg_name (i := 6) sc_l_told.nd rfl (Or.inl rfl)) (fun _ _ _ _ _ => pts_nil) (fun _ _ _ _ _ => (pe_ix (r := rIxT K) ix_tup (pv 6) pe_int (fun _ _ => rfl))))))
      (pss_cut (ps_dput (hu_of hr) (pv 1) pe_str (pe_lst pa_nil) rfl)
      (pss_cons (ps_for PassesOwn.never rfl (pi_range1 rfl T.n_range (pa_cons (pe_op op_add pe_int (pe_call (ok_l_take T) (hr.mono (by decide)) rfl T.g_l_take T.k_l_take T.B_l_take .nil pass0 (pa_cons (pv 0) (pa_cons pe_int pa_nil)))) pa_nil)) (pg_name (i := 3) sc_l_told.nd rfl (Or.inl rfl)) (pss_cons (ps_set (i := 4) sc_l_told.nd rfl (Or.inl rfl) (pe_call (ok_l_of T) (hr.mono (by decide)) rfl T.g_l_of T.k_l_of T.B_l_of .nil pass0 (pa_cons (pv 0) (pa_cons (pv 2) pa_nil))))
      (pss_one (ps_expr (pe_bm PySem.F.plainAttrs_list PySem.F.slot_list_extend PySem.F.type_list_extend mt_extend (pe_dget (hu_of hr) (pv 1) pe_str (fun _ _ => rfl)) (pa_cons (pe_ifExp (pt_cmpR op_lt (pe_bm PySem.F.plainAttrs_list PySem.F.slot_list_count PySem.F.type_list_count mt_lcountS (pe_dget (hu_of hr) (pv 1) pe_str (fun _ _ => rfl)) (pa_cons (pv 4) pa_nil)) pe_int (nomark _)) (pe_lst (pa_cons (pv 4) pa_nil)) (pe_lst pa_nil)) pa_nil))))))
      (pss_one (ps_ret (pv 1)))))), ?_⟩
    obtain ⟨t, Li, Ls, Lt, qi, qs, hdk, ht, hLi, hei, hLs, hes, hLt⟩ := id hd
    replace hdk : H d = some (.dK (ownD t Li Ls Lt)) := hdk
    have s20 := hok.s20
    have i1 := hok.i1
    have i3 := hok.i3
    have hnl : pr.names.length ≤ 23 := by unfold Prg.names; rw [List.length_append, List.length_map, List.length_map]; omega
    have hn1 : 1 ≤ pr.names.length := by unfold Prg.names; rw [List.length_append, List.length_map, List.length_map]; omega
    have tp : t ≠ p := ne_tup ht hp
    have lip : Li ≠ p := rv_potl hp hLi (by rw [hei.1]; exact i1)
    have lsp : Ls ≠ p := rv_potl hp hLs (by rw [hes.1]; exact hs1)
    have dp : d ≠ p := fun z => by obtain ⟨x, y, c, hh, _⟩ := hp; rw [z, hh] at hdk; cases hdk
    refine ⟨fun σ H' => ∃ Nm, Ex H H' ∧ H Nm = none ∧ H' Nm = some (.lst (sv pr.names)) ∧ σ = [some (.ref p), some (.ref d), some (.ref Nm), none, none, none, none], ?_, ?_⟩
    · refine ⟨_, rfl, d, .ref Li, rfl, dget hdk rfl, Li, rfl, ⟨_, SqL.of hLi⟩, fun D hD => ?_⟩
      refine lc_list (K := K) (a := Li) (xs := rv qi) (fun i H' => Ex H H' ∧ H' D = some (.lst (sv ((pr.ins.map Inp.nm).take i)))) ⟨Ex.new hD, upd_same⟩ (fun i H' _ z => SqL.of (z.1 _ _ hLi)) ?_ ?_
      · rintro i v H7 hv ⟨e7, hD7⟩
        obtain ⟨q', x, rfl, hat, hi, et⟩ := first_lc (nm := Inp.nm) hei hv
        refine ⟨rfl, ?_⟩
        dsimp only [tYes]
        refine iteT ?_
        refine ⟨_, rfl, q', _, _, _, rfl, rfl, SqT.of (hat.ex e7), atN (m := 0) rfl, ?_⟩
        refine ⟨_, hD7, small1000 (by rw [sv_len, List.length_take, List.length_map]; omega), Ex.mut e7 hD, ?_⟩
        rw [upd_same, et, sv_app]
        rfl
      rintro H7 ⟨e7, hD7⟩
      have hD7 : H7 D = some (.lst (sv (pr.ins.map Inp.nm))) := by
        rw [hD7, List.take_of_length_le (by rw [rv_len, List.length_map, hei.1]; omega)]
      have hS7 := e7 _ _ hLs
      refine ⟨_, rfl, d, .ref Ls, rfl, dget (e7 _ _ hdk) rfl, Ls, rfl, ⟨_, SqL.of hS7⟩, fun D2 hD2 => ?_⟩
      refine lc_list (K := K) (a := Ls) (xs := rv qs) (fun i H' => Ex H7 H' ∧ H' D2 = some (.lst (sv ((pr.steps.map Stp.nm).take i)))) ⟨Ex.new hD2, upd_same⟩ (fun i H' _ z => SqL.of (z.1 _ _ hS7)) ?_ ?_
      · rintro i v H8 hv ⟨e8, hD8⟩
        obtain ⟨q', x, rfl, hat, hi, et⟩ := first_lc (nm := Stp.nm) (hes.ex (fun h e => h.ex e) e7) hv
        refine ⟨rfl, ?_⟩
        dsimp only [tYes]
        refine iteT ?_
        refine ⟨_, rfl, q', _, _, _, rfl, rfl, SqT.of (hat.ex e8).choose_spec.1, atN (m := 0) rfl, ?_⟩
        refine ⟨_, hD8, small1000 (by rw [sv_len, List.length_take, List.length_map]; omega), Ex.mut e8 hD2, ?_⟩
        rw [upd_same, et, sv_app]
        rfl
      rintro H8 ⟨e8, hD8⟩
      have hD8 : H8 D2 = some (.lst (sv (pr.steps.map Stp.nm))) := by
        rw [hD8, List.take_of_length_le (by rw [rv_len, List.length_map, hes.1]; omega)]
      refine ⟨D, D2, _, _, rfl, rfl, e8 _ _ hD7, hD8, Nat.le_trans (by rw [sv_len, sv_len, List.length_map, List.length_map]; omega : _ ≤ 100) (by decide), fun N1 hN1 => ?_⟩
      have h9 : (upd H8 N1 (.lst (sv (pr.ins.map Inp.nm) ++ sv (pr.steps.map Stp.nm)))) N1 = some (.lst (sv pr.names)) := by
        rw [upd_same, ← sv_app]; rfl
      exact ⟨N1, (e7.trans e8).trans (Ex.new hN1), fresh_back (e7.trans e8) hN1, h9, rfl⟩
    rintro σ H1 ⟨Nm, e1, hNm0, hNm, rfl⟩
    refine ⟨fun σ H' => ∃ L0, Kp2 p d H H' ∧ PotAt H' p n ∧ H' d = some (.dK (ownD t Li Ls L0)) ∧ H' L0 = some (.lst (sv [])) ∧ H L0 = none ∧ L0 ≠ Nm ∧ H' Nm = some (.lst (sv pr.names)) ∧ σ = [some (.ref p), some (.ref d), some (.ref Nm), none, none, none, none], ?_, ?_⟩
    · refine ⟨by show 0 ≤ sizeLine; decide, fun L0 hL0 => ?_⟩
      have x2 := Ex.new (o := .lst []) hL0
      have g2 : (upd H1 L0 (.lst [])) L0 = some (.lst (sv [])) := upd_same
      have hd2 := x2 _ _ (e1 _ _ hdk)
      have hNm2 := x2 _ _ hNm
      have e2 := e1.trans x2
      have hL00 := fresh_back e1 hL0
      have hLN : L0 ≠ Nm := fun z => by rw [z, hNm] at hL0; cases hL0
      generalize (upd H1 L0 (.lst [])) = H2 at *
      refine ⟨_, rfl, d, _, rfl, DPut.k (k := Sum.inr "told") (v := .ref L0) hd2 (by show 4 < sizeLine; decide), ?_⟩
      have hput : putK (ownD t Li Ls Lt) (Sum.inr ("told" : Str)) (.ref L0) = ownD t Li Ls L0 := rfl
      rw [hput]
      have up : ∀ {x : Addr} {o : HO}, H2 x = some o → (∀ l, o ≠ .dK l) → (upd H2 d (.dK (ownD t Li Ls L0))) x = some o := fun hx ho => by rw [upd_ne (fun z => by rw [z, hd2] at hx; exact ho _ (Option.some.inj hx).symm)]; exact hx
      exact ⟨L0, fun b o hb hbp hbd => by rw [upd_ne hbd]; exact e2 _ _ hb, (hp.ex e2).upd dp, upd_same, up g2 (fun l z => by cases z), hL00, hLN, up hNm2 (fun l z => by cases z), rfl⟩
    rintro σ H2 ⟨L0, k2, p2, hd2, hL2, hL0, hLN, hNm2, rfl⟩
    have Lp : L0 ≠ p := hp.ne hL0
    have Np : Nm ≠ p := hp.ne hNm0
    have Ld : L0 ≠ d := fun z => by rw [z, hd2] at hL2; cases hL2
    refine ⟨_, rfl, p, 4, n, rfl, p2, by omega, by decide, by decide +kernel, fun dd H3 k3 p3 d0 d4 => ?_⟩
    have hd3 := k3 _ _ hd2 dp
    have hL3 := k3 _ _ hL2 Lp
    have hNm3 := k3 _ _ hNm2 Np
    have k23 : Kp2 p d H H3 := fun b o hb hbp hbd => k3 _ _ (k2 b o hb hbp hbd) hbp
    obtain ⟨m, rfl⟩ : ∃ m : Nat, dd = (m : Int) := ⟨dd.toNat, by omega⟩
    refine ⟨_, _, rfl, rfl, ((1 + m : Nat) : Int), by rw [Int.natCast_add]; rfl, by omega, by omega, for_range (lo := 0) (n := 1 + m) (fun i σ H' => ∃ told v3 v4, Kp2 p d H H' ∧ PotAt H' p (n + 1 + i) ∧ H' d = some (.dK (ownD t Li Ls L0)) ∧ H' L0 = some (.lst (sv told)) ∧ H' Nm = some (.lst (sv pr.names)) ∧ (∀ x ∈ told, x ∈ pr.names) ∧ told.length ≤ i ∧ (1 ≤ i → 1 ≤ told.length) ∧ σ = [some (.ref p), some (.ref d), some (.ref Nm), v3, v4, none, none]) ⟨[], none, none, k23, p3, hd3, hL3, hNm3, fun x hx => (by cases hx), Nat.le_refl _, fun z => absurd z (by decide), rfl⟩ ?_ ?_⟩
    · rintro i σ H4 hi ⟨told, v3, v4, k4, p4, hd4, hL4, hNm4, hin, hle, h1, rfl⟩
      refine ⟨_, rfl, _, rfl, p, Nm, _, _, rfl, p4, by omega, hNm4, Np, by rw [sv_len]; omega, by rw [sv_len]; omega, fun j v H5 hv k5 p5 => ?_⟩
      obtain ⟨x, hx, rfl⟩ := sv_getI hv
      have hxn := List.mem_of_getElem? hx
      have hd5 := k5 _ _ hd4 dp
      have hL5 := k5 _ _ hL4 Lp
      have hNm5 := k5 _ _ hNm4 Np
      have k45 : Kp2 p d H H5 := fun b o hb hbp hbd => k5 _ _ (k4 b o hb hbp hbd) hbp
      refine ⟨_, rfl, ?_⟩
      refine ⟨d, .ref L0, rfl, dget hd5 rfl, .inl ⟨rfl, _, SqL.of hL5⟩, ?_⟩
      refine ⟨_, rfl, d, .ref L0, rfl, dget hd5 rfl, .inl ⟨rfl, _, SqL.of hL5⟩, _, rfl, L0, told, x, rfl, rfl, SqL.of hL5, _, _, rfl, rfl, ?_⟩
      have fin : ∀ (ws : List Str) (H6 : Hp) (l : Addr), Ex H5 H6 → H6 l = some (.lst (sv ws)) → l ≠ L0 → ws.length ≤ 1 → (∀ y ∈ ws, y ∈ pr.names) → (1 ≤ i + 1 → 1 ≤ (told ++ ws).length) → rExtend (.ref L0) [.ref l] H6 fun _ H' => ∃ told v3 v4, Kp2 p d H H' ∧ PotAt H' p (n + 1 + (i + 1)) ∧ H' d = some (.dK (ownD t Li Ls L0)) ∧ H' L0 = some (.lst (sv told)) ∧ H' Nm = some (.lst (sv pr.names)) ∧ (∀ x ∈ told, x ∈ pr.names) ∧ told.length ≤ i + 1 ∧ (1 ≤ i + 1 → 1 ≤ told.length) ∧ [some (V.ref p), some (.ref d), some (.ref Nm), some (V.int (0 + (i : Int))), some (.str x), none, none] = [some (.ref p), some (.ref d), some (.ref Nm), v3, v4, none, none] := by
        intro ws H6 l e6 hl hlL hw1 hwn hone
        refine ⟨L0, l, sv told, sv ws, rfl, rfl, e6 _ _ hL5, hl, Nat.le_trans (by rw [sv_len, sv_len]; omega : _ ≤ 100) (by decide), told ++ ws, _, _, ?_, ?_, ?_, ?_, ?_, ?_, ?_, hone, rfl⟩
        · intro b o hb hbp hbd
          rw [upd_ne (fun z => by rw [z, hL0] at hb; cases hb)]
          exact e6 _ _ (k45 b o hb hbp hbd)
        · exact (p5.ex e6).upd Lp
        · rw [upd_ne (Ne.symm Ld)]; exact e6 _ _ hd5
        · rw [upd_same, sv_app]
        · rw [upd_ne (Ne.symm hLN)]; exact e6 _ _ hNm5
        · intro y hy
          rcases List.mem_append.mp hy with hy | hy
          · exact hin y hy
          · exact hwn y hy
        · rw [List.length_append]; omega
      refine ⟨_, rfl, ?_⟩
      refine ite2 (fun _ => ?_) (fun hc => ?_)
      · refine ⟨_, rfl, by show 1 ≤ sizeLine; decide, fun l hl => ?_⟩
        exact fin [x] _ l (Ex.new hl) upd_same (fun z => by rw [z, hL5] at hl; cases hl) (Nat.le_refl 1) (fun y hy => by rw [List.mem_singleton.mp hy]; exact hxn) (fun _ => by rw [List.length_append]; exact Nat.le_add_left 1 _)
      · refine ⟨by show 0 ≤ sizeLine; decide, fun l hl => ?_⟩
        refine fin [] _ l (Ex.new hl) upd_same (fun z => by rw [z, hL5] at hl; cases hl) (Nat.zero_le 1) (fun y hy => by cases hy) (fun _ => ?_)
        rw [List.append_nil]
        cases told with
        | nil => exact absurd (show decide (((0 : Nat) : Int) < 2) = true by decide) hc
        | cons y ys => exact Nat.succ_le_succ (Nat.zero_le _)
    · rintro σ H4 ⟨told, v3, v4, k4, p4, hd4, hL4, hNm4, hin, hle, h1, rfl⟩
      refine ⟨_, rfl, k told H4 k4 (p4.mono (by omega)) ?_ hin (h1 (by omega)) (by omega)⟩
      refine ⟨t, Li, Ls, L0, qi, qs, hd4, k4 _ _ ht tp (fun z => by rw [z, hdk] at ht; cases ht), k4 _ _ hLi lip (fun z => by rw [z, hdk] at hLi; cases hLi), ⟨hei.1, fun i q x h1 h2 => ?_⟩, k4 _ _ hLs lsp (fun z => by rw [z, hdk] at hLs; cases hLs), ⟨hes.1, fun i q x h1 h2 => ?_⟩, hL4⟩
      · have q1 := hei.2 i q x h1 h2
        exact k4 _ _ q1 (ne_tup q1 hp) (fun z => by rw [z] at q1; exact absurd (hdk.symm.trans q1) (by intro z; cases z))
      · obtain ⟨o, o1, o2⟩ := hes.2 i q x h1 h2
        exact ⟨o, k4 _ _ o1 (ne_tup o1 hp) (fun z => by rw [z, hdk] at o1; cases o1), k4 _ _ o2 (ne_tup o2 hp) (fun z => by rw [z, hdk] at o2; cases o2)⟩
end
end My


set_option Elab.async false
set_option maxRecDepth 100000
set_option maxHeartbeats 2000000
set_option exponentiation.threshold 6000
namespace My
open PySem L2 Evl TL PyProof.Rows LiI
def byS (s : Stp) (y : Wy) : Stp := ⟨s.nm, s.sg, s.ops, s.more, y⟩
theorem bys_ok {b f r : Nat} {names : List Str} {s : Stp} {y : Wy} (h : StpOk b f r names s) (hR : s.sg.isR = true) : StpOk b f r names (byS s y) := ⟨h.sn, h.new, h.len, h.ops, fun z => absurd ((show s.sg.isR = false from z).symm.trans hR) (by decide), h.more, h.fine⟩
theorem sts_takeK {b f r : Nat} {ss : List Stp} : ∀ {names : List Str} (k : Nat), StpsOk b f r names ss → StpsOk b f r names (ss.take k) := by
  induction ss with
  | nil => intro names k _; rw [List.take_nil]; trivial
  | cons s ss ih =>
    intro names k h
    cases k with
    | zero => trivial
    | succ k => exact ⟨h.1, ih k h.2⟩
theorem step_mut {H : Hp} {D q : Addr} {l l' : List V} {s : Stp} (hD : H D = some (.lst l)) (h : StepAt H q s) : StepAt (upd H D (.lst l')) q s := by
  obtain ⟨o, h1, h2⟩ := h
  exact ⟨o, by rw [upd_ne (fun z => by rw [z, hD] at h1; cases h1)]; exact h1, by rw [upd_ne (fun z => by rw [z, hD] at h2; cases h2)]; exact h2⟩
theorem step_mutK {H : Hp} {D q : Addr} {l l' : List (Key × V)} {s : Stp} (hD : H D = some (.dK l)) (h : StepAt H q s) : StepAt (upd H D (.dK l')) q s := by
  obtain ⟨o, h1, h2⟩ := h
  exact ⟨o, by rw [upd_ne (fun z => by rw [z, hD] at h1; cases h1)]; exact h1, by rw [upd_ne (fun z => by rw [z, hD] at h2; cases h2)]; exact h2⟩
theorem tup_mut {H : Hp} {D q : Addr} {l l' : List V} {xs : List V} (hD : H D = some (.lst l)) (h : H q = some (.tup xs)) : (upd H D (.lst l')) q = some (.tup xs) := by
  rw [upd_ne (fun z => by rw [z, hD] at h; cases h)]; exact h
theorem ix_in {n i : Nat} (h : i < n) : ixN n (i : Int) = some i := by
  unfold ixN
  rw [if_pos (by omega), if_pos (by omega)]
  rfl
theorem Each.tk {α : Type} {R : Hp → Addr → α → Prop} {H : Hp} {qs : List Addr} {xs : List α} (h : Each R H qs xs) (k : Nat) : Each R H (qs.take k) (xs.take k) := by
  refine ⟨by rw [List.length_take, List.length_take, h.1], fun i q x h1 h2 => ?_⟩
  rw [List.getElem?_take] at h1 h2
  by_cases hi : i < k
  · rw [if_pos hi] at h1 h2
    exact h.2 i q x h1 h2
  · rw [if_neg hi] at h1; cases h1
theorem ix_m1 {xs : List V} {k : Nat} {v : V} (hk : xs.length = k + 1) (h : xs[k]? = some v) : atI xs (-1) = some v := by
  unfold atI ixN
  rw [if_neg (by decide), if_pos (by omega)]
  show xs[((-1 : Int) + (xs.length : Int)).toNat]? = some v
  rw [show ((-1 : Int) + (xs.length : Int)).toNat = k by omega]
  exact h
theorem cut_m1 {xs : List V} {k : Nat} (hk : xs.length = k + 1) : cutV xs none (some (-1)) = xs.take k := by
  unfold cutV
  rw [HT.sIx_none]
  have : HT.sIx xs.length xs.length (some (-1)) = k := by
    rw [hk]
    unfold HT.sIx
    simp
    omega
  rw [this, List.drop_zero, Nat.sub_zero]
theorem isR_in (g : Sg) : inV (.str g.str) (sv [("+" : Str), ("-" : Str), ("*" : Str), ("/" : Str)]) = g.isR := by cases g <;> decide +kernel
theorem up_ne (y : Wy) : (!decide (V.str y.str = V.str ("up" : Str))) = true ∨ y = .up := by cases y <;> first | exact .inr rfl | exact .inl (by decide +kernel)
theorem ins_high {b f r : Nat} {x : Inp} {xs : List Inp} (h : InpsOk b f r [] (x :: xs)) : InpsOk b f r [] (⟨x.nm, x.hi, x.hi⟩ :: xs) := ⟨⟨h.1.inn, h.1.new, h.1.hi, h.1.hi, Int.le_refl _⟩, h.2⟩
def highP (pr : Prg) (x : Inp) : Prg := ⟨pr.b, pr.f, pr.r, pr.pl, ⟨x.nm, x.hi, x.hi⟩ :: pr.ins.drop 1, pr.steps, pr.told⟩
theorem high_ok {pr : Prg} {x : Inp} (h : PrgOk pr) (hx : pr.ins[0]? = some x) : PrgOk (highP pr x) := by
  have e : pr.ins = x :: pr.ins.drop 1 := by
    cases hh : pr.ins with
    | nil => rw [hh] at hx; cases hx
    | cons y ys => rw [hh] at hx; cases hx; rfl
  have en : (highP pr x).ins.map Inp.nm = pr.ins.map Inp.nm := by rw [e]; rfl
  have el : (highP pr x).ins.length = pr.ins.length := by rw [e]; rfl
  have hi := h.ins
  rw [e] at hi
  refine ⟨h.g, ins_high hi, by rw [el]; exact h.i1, by rw [el]; exact h.i3, by rw [en]; exact h.sts, h.s20, fun y hy => ?_, h.t1, h.t4⟩
  have := h.told y hy
  unfold Prg.names at this ⊢
  rw [en]
  exact this
def lastP (pr : Prg) (k : Nat) (s : Stp) (y : Wy) : Prg := ⟨pr.b, pr.f, pr.r, pr.pl, pr.ins, pr.steps.take k ++ [byS s y], pr.told⟩
theorem last_ok {pr : Prg} {k : Nat} {s : Stp} {y : Wy} (h : PrgOk pr) (hk : pr.steps.length = k + 1) (hs : pr.steps[k]? = some s) (hR : s.sg.isR = true) : PrgOk (lastP pr k s y) := by
  have e : pr.steps = pr.steps.take k ++ [s] := by
    have := List.take_add_one (l := pr.steps) (i := k)
    rw [hs, ← hk, List.take_length] at this
    exact this
  have en : (lastP pr k s y).steps.map Stp.nm = pr.steps.map Stp.nm := by
    have h1 : (lastP pr k s y).steps.map Stp.nm = (pr.steps.take k ++ [s]).map Stp.nm := by
      show (pr.steps.take k ++ [byS s y]).map Stp.nm = _
      rw [List.map_append, List.map_append]; rfl
    rw [h1, ← e]
  refine ⟨h.g, h.ins, h.i1, h.i3, sts_add (sts_takeK k h.sts) (bys_ok (StpsOk.at h.sts hs) hR), ?_, fun x hx => ?_, h.t1, h.t4⟩
  · have := congrArg List.length en
    rw [List.length_map, List.length_map] at this
    rw [this]; exact h.s20
  · have := h.told x hx
    unfold Prg.names at this ⊢
    rw [en]
    exact this
def sp_other : Sp := fun vs H Q _ => ∃ (p d : Addr) (n : Nat) (pr : Prg), vs = [.ref p, .ref d] ∧ PotAt H p n ∧ n + 100 ≤ 100000 ∧ OwnAt H d pr ∧ PrgOk pr ∧ 1 ≤ pr.steps.length ∧
  ∀ (f : Addr) (pr2 : Prg) H', Kp p H H' → PotAt H' p (n + 1) → OwnAt H' f pr2 → PrgOk pr2 → 1 ≤ pr2.steps.length → Q (.ref f) H'
section
variable {P : Program} {w : World} {K : PySem.W.Frag} {mg : Str → Option Value} {base : Heap} {a : Ad}
theorem ok_l_other (T : Txt K mg a) : FnOk P w K mg base CX0 4 a.l_other a.l_other_fd ["pot", "own"] sp_other := by
  refine T.F_l_other.ok sc_l_other (fun vs H Q E h => ?_) (fun cdv A outer s H vs Q E hr h => ?_)
  · obtain ⟨p, d, n, pr, rfl, _⟩ := h
    rfl
  · obtain ⟨p, d, n, pr, rfl, hp, hn, hd, hok, hs1, k⟩ := h
    refine ⟨_, (pss_cut (ps_set (i := 2) sc_l_other.nd rfl (Or.inl rfl) (pe_callTy (call_dictP rfl) (by rfl) T.n_dict (by decide +kernel) (pa_cons (pe_listItems rfl (pv 1) (by rfl) T.n_list (by decide +kernel)) pa_nil)))
      (pss_cut (ps_par (i := 3) (j := 4) (by rfl) sc_l_other.nd rfl rfl (by decide) rfl rfl (pa_cons (pe_call (ok_l_take T) (hr.mono (by decide)) rfl T.g_l_take T.k_l_take T.B_l_take .nil pass0 (pa_cons (pv 0) (pa_cons pe_int pa_nil))) (pa_cons (pe_callTy call_list_of (by rfl) T.n_list (by decide +kernel) (pa_cons (pe_dget (hu_of hr) (pv 1) pe_str (fun _ _ => rfl)) pa_nil)) pa_nil)) (by rfl))
      (pss_cons (ps_if (pt_cmpR op_eq (pv 3) pe_int (nomark _)) (pss_cut (ps_set (i := 5) sc_l_other.nd rfl (Or.inl rfl) (pe_ix ix_tup (pe_ix ix_list (pe_dget (hu_of hr) (pv 1) pe_str (fun _ _ => rfl)) pe_int (fun _ _ => rfl)) pe_int (fun _ _ => rfl)))
      (pss_cut (ps_set (i := 6) sc_l_other.nd rfl (Or.inl rfl) (pe_and (pe_cmpR op_lt (pe_callB call_len_seq (by rfl) T.n_len (by decide +kernel) (pa_cons (pe_dget (hu_of hr) (pv 1) pe_str (fun _ _ => rfl)) pa_nil)) pe_int (nomark _)) (pe_one (pe_cmpR op_lt (pe_bm PySem.F.plainAttrs_list PySem.F.slot_list_count PySem.F.type_list_count mt_lcountS (pe_dget (hu_of hr) (pv 1) pe_str (fun _ _ => rfl)) (pa_cons (pv 5) pa_nil)) pe_int (nomark _)))))
      (pss_one (ps_dput (hu_of hr) (pv 2) pe_str (pe_ifExp (pt_val (pv 6)) (pe_op op_cat (pe_dget (hu_of hr) (pv 1) pe_str (fun _ _ => rfl)) (pe_lst (pa_cons (pv 5) pa_nil))) (pe_slice sl_list (pe_dget (hu_of hr) (pv 1) pe_str (fun _ _ => rfl)) po_none (po_some pe_int))) rfl)))) (pss_one (ps_if (pt_cmpR op_eq (pv 3) pe_int (nomark _)) (pss_cut (ps_asg (pe_ix ix_list (pe_dget (hu_of hr) (pv 1) pe_str (fun _ _ => rfl)) pe_int (fun _ _ => rfl)) (pg_tup rfl (pgs_cons (pg_name (i := 7) sc_l_other.nd rfl (Or.inl rfl)) (pgs_cons (pg_name (i := 8) sc_l_other.nd rfl (Or.inl rfl)) (pgs_cons (pg_name (i := 9) sc_l_other.nd rfl (Or.inl rfl)) pgs_nil)))))
      (pss_one (ps_dput (hu_of hr) (pv 2) pe_str (pe_op op_cat (pe_lst (pa_cons (pe_tup (pa_cons (pv 7) (pa_cons (pv 9) (pa_cons (pv 9) pa_nil)))) pa_nil)) (pe_slice sl_list (pe_dget (hu_of hr) (pv 1) pe_str (fun _ _ => rfl)) (po_some pe_int) po_none)) rfl))) (pss_one (ps_if (pt_cmpR op_in_seq (pe_ix ix_tup (pe_ix ix_list (pv 4) (pe_un un_neg pe_int) (fun _ _ => rfl)) pe_int (fun _ _ => rfl)) (pe_tup (pa_cons pe_str (pa_cons pe_str (pa_cons pe_str (pa_cons pe_str pa_nil))))) (by rfl)) (pss_one (ps_dput (hu_of hr) (pv 2) pe_str (pe_op op_cat (pe_slice sl_list (pv 4) po_none (po_some (pe_un un_neg pe_int))) (pe_lst (pa_cons (pe_op op_catA (pe_slice sl_tupA (pe_ix ix_list (pv 4) (pe_un un_neg pe_int) (fun _ _ => rfl)) po_none (po_some pe_int)) (pe_tup (pa_cons (pe_ifExp (pt_cmpR op_ne (pe_ix ix_tup (pe_ix ix_list (pv 4) (pe_un un_neg pe_int) (fun _ _ => rfl)) pe_int (fun _ _ => rfl)) pe_str (nomark _)) pe_str pe_str) pa_nil))) pa_nil))) rfl)) pss_nil)))))
      (pss_one (ps_ret (pv 2)))))), ?_⟩
    obtain ⟨t, Li, Ls, Lt, qi, qs, hdk, ht, hLi, hei, hLs, hes, hLt⟩ := id hd
    replace hdk : H d = some (.dK (ownD t Li Ls Lt)) := hdk
    have s20 := hok.s20
    have i1 := hok.i1
    have i3 := hok.i3
    have t1 := hok.t1
    have t4 := hok.t4
    have tp : t ≠ p := ne_tup ht hp
    have lip : Li ≠ p := rv_potl hp hLi (by rw [hei.1]; exact i1)
    have lsp : Ls ≠ p := rv_potl hp hLs (by rw [hes.1]; exact hs1)
    have ltp : Lt ≠ p := sv_potl hp hLt t1
    have dp : d ≠ p := fun z => by obtain ⟨x, y, c, hh, _⟩ := hp; rw [z, hh] at hdk; cases hdk
    refine ⟨fun σ H' => ∃ f, H f = none ∧ Ex H H' ∧ H' f = some (.dK (ownD t Li Ls Lt)) ∧ σ = [some (.ref p), some (.ref d), some (.ref f), none, none, none, none, none, none, none], ?_, ?_⟩
    · refine ⟨_, rfl, ?_⟩
      refine ⟨d, ownD t Li Ls Lt, rfl, hdk, fun H1 L as e hL _ _ hp pr => ?_⟩
      obtain ⟨hl, hf⟩ := paired_each pr
      refine ⟨L, as, ownD t Li Ls Lt, rfl, SqL.of hp, each_paired hl (fun i q p hq hp => SqT.of (hf i q p hq hp)), fun f hf => ?_⟩
      have e1 : Ex H H1 := fun b o => e b o
      exact ⟨f, fresh_back e1 hf, e1.trans (Ex.new hf), upd_same, rfl⟩
    rintro σ H1 ⟨f, hf0, e1, hf1, rfl⟩
    have fp : f ≠ p := hp.ne hf0
    refine ⟨fun σ H' => ∃ (S : Addr) (m : Nat), m < 3 ∧ Kp p H H' ∧ PotAt H' p (n + 1) ∧ H' f = some (.dK (ownD t Li Ls Lt)) ∧ H S = none ∧ H' S = some (.lst (rv qs)) ∧ σ = [some (.ref p), some (.ref d), some (.ref f), some (.int (m : Int)), some (.ref S), none, none, none, none, none], ?_, ?_⟩
    · refine ⟨_, rfl, p, 3, n, rfl, hp.ex e1, by omega, by decide, by decide +kernel, fun dd H2 k2 p2 d0 d3 => ?_⟩
      obtain ⟨m, rfl⟩ : ∃ m : Nat, dd = (m : Int) := ⟨dd.toNat, by omega⟩
      have k12 : Kp p H H2 := (Ex.kp e1).trans k2
      refine ⟨_, rfl, d, .ref Ls, rfl, dget (k12 _ _ hdk dp) rfl, Ls, _, rfl, .inl (SqL.of (k12 _ _ hLs lsp)), fun S hS => ?_⟩
      have hS0 : H S = none := k12.back hS (p2.ne hS)
      exact ⟨_, _, rfl, S, m, by omega, k12.ex (Ex.new hS), p2.ex (Ex.new hS), Ex.new hS _ _ (k2 _ _ hf1 fp), hS0, upd_same, rfl⟩
    rintro σ H2 ⟨S, m, hm, k2, p2, hf2, hS0, hS2, rfl⟩
    have Sp : S ≠ p := hp.ne hS0
    have hd2 := k2 _ _ hdk dp
    have ht2 := k2 _ _ ht tp
    have hLi2 := k2 _ _ hLi lip
    have hLs2 := k2 _ _ hLs lsp
    have hLt2 := k2 _ _ hLt ltp
    have hei2 : Each InpAt H2 qi pr.ins := ⟨hei.1, fun i q x h1 h2 => k2 _ _ (hei.2 i q x h1 h2) (ne_tup (hei.2 i q x h1 h2) hp)⟩
    have hes2 : Each StepAt H2 qs pr.steps := ⟨hes.1, fun i q x h1 h2 => step_kp (hes.2 i q x h1 h2) hp k2⟩
    -- what is handed back
    have fin : ∀ (pr2 : Prg) (Li2 Ls2 Lt2 : Addr) (qi2 qs2 : List Addr) (H3 : Hp), Kp p H H3 → PotAt H3 p (n + 1) → H3 f = some (.dK (ownD t Li2 Ls2 Lt2)) → (pr2.b = pr.b ∧ pr2.f = pr.f ∧ pr2.r = pr.r ∧ pr2.pl = pr.pl) → H3 Li2 = some (.lst (rv qi2)) → Each InpAt H3 qi2 pr2.ins → H3 Ls2 = some (.lst (rv qs2)) → Each StepAt H3 qs2 pr2.steps → H3 Lt2 = some (.lst (sv pr2.told)) → PrgOk pr2 → 1 ≤ pr2.steps.length → Q (.ref f) H3 := by
      intro pr2 Li2 Ls2 Lt2 qi2 qs2 H3 k3 p3 h1 hg h2 h3 h4 h5 h6 h7 h8
      refine k f pr2 H3 k3 p3 ⟨t, Li2, Ls2, Lt2, qi2, qs2, h1, ?_, h2, h3, h4, h5, h6⟩ h7 h8
      rw [hg.1, hg.2.1, hg.2.2.1, hg.2.2.2]
      exact k3 _ _ ht tp
    have up : ∀ {H3 : Hp} {o' : HO} {x : Addr} {o : HO}, H3 f = some (.dK (ownD t Li Ls Lt)) → H3 x = some o → (∀ l, o ≠ .dK l) → (upd H3 f o') x = some o := fun hf3 hx ho => by rw [upd_ne (fun z => by rw [z, hf3] at hx; exact ho _ (Option.some.inj hx).symm)]; exact hx
    have putT : ∀ (x : Addr), putK (ownD t Li Ls Lt) (Sum.inr ("told" : Str)) (.ref x) = ownD t Li Ls x := fun _ => rfl
    have putI : ∀ (x : Addr), putK (ownD t Li Ls Lt) (Sum.inr ("inputs" : Str)) (.ref x) = ownD t x Ls Lt := fun _ => rfl
    have putS : ∀ (x : Addr), putK (ownD t Li Ls Lt) (Sum.inr ("steps" : Str)) (.ref x) = ownD t Li x Lt := fun _ => rfl
    have kpf : ∀ {H3 : Hp} {o : HO}, Kp p H H3 → Kp p H (upd H3 f o) := fun k3 b o hb hbp => by rw [upd_ne (fun z => by rw [z, hf0] at hb; cases hb)]; exact k3 b o hb hbp
    have finG : ∀ (pr2 : Prg) (Li2 Ls2 Lt2 : Addr) (qi2 qs2 : List Addr) (H5 : Hp), Ex H2 H5 → (pr2.b = pr.b ∧ pr2.f = pr.f ∧ pr2.r = pr.r ∧ pr2.pl = pr.pl) → H5 Li2 = some (.lst (rv qi2)) → Each InpAt H5 qi2 pr2.ins → H5 Ls2 = some (.lst (rv qs2)) → Each StepAt H5 qs2 pr2.steps → H5 Lt2 = some (.lst (sv pr2.told)) → PrgOk pr2 → 1 ≤ pr2.steps.length → Q (.ref f) (upd H5 f (.dK (ownD t Li2 Ls2 Lt2))) := by
      intro pr2 Li2 Ls2 Lt2 qi2 qs2 H5 e hg h2 h3 h4 h5 h6 h7 h8
      have hf5 := e _ _ hf2
      refine fin pr2 Li2 Ls2 Lt2 qi2 qs2 _ (kpf (k2.ex e)) ((p2.ex e).upd fp) upd_same hg (up hf5 h2 (fun l z => by cases z)) ⟨h3.1, fun i q x hq hx => up hf5 (h3.2 i q x hq hx) (fun l z => by cases z)⟩ (up hf5 h4 (fun l z => by cases z)) ⟨h5.1, fun i q x hq hx => step_mutK hf5 (h5.2 i q x hq hx)⟩ (up hf5 h6 (fun l z => by cases z)) h7 h8
    obtain ⟨q0, hq0⟩ : ∃ q, qi[0]? = some q := ⟨_, List.getElem?_eq_getElem (by rw [hei.1]; omega)⟩
    obtain ⟨x0, hx0⟩ : ∃ x, pr.ins[0]? = some x := ⟨_, List.getElem?_eq_getElem (by omega)⟩
    have hat0 : InpAt H2 q0 x0 := hei2.2 0 q0 x0 hq0 hx0
    have hqr0 : (rv qi)[0]? = some (.ref q0) := by unfold rv; rw [List.getElem?_map, hq0]; rfl
    have hx0n : x0.nm ∈ pr.names := List.mem_append_left _ (List.mem_map.mpr ⟨x0, List.mem_of_getElem? hx0, rfl⟩)
    refine ⟨_, rfl, rfl, _, rfl, ite2 (fun h0 => ?_) (fun h0 => ?_)⟩
    · refine ⟨fun σ H' => H' = H2 ∧ σ = [some (.ref p), some (.ref d), some (.ref f), some (.int (m : Int)), some (.ref S), some (.str x0.nm), none, none, none, none], ?_, ?_⟩
      · exact ⟨_, rfl, d, .ref Li, rfl, dget hd2 rfl, Li, _, _, _, rfl, rfl, SqL.of hLi2, atN (m := 0) hqr0, q0, _, _, _, rfl, rfl, SqT.of hat0, atN (m := 0) rfl, rfl, rfl⟩
      rintro σ H3 ⟨rfl, rfl⟩
      refine ⟨fun σ H' => ∃ b : Bool, (b = true → pr.told.length < 4) ∧ H' = H3 ∧ σ = [some (.ref p), some (.ref d), some (.ref f), some (.int (m : Int)), some (.ref S), some (.str x0.nm), some (.bl b), none, none, none], ?_, ?_⟩
      · refine ⟨_, rfl, d, .ref Lt, rfl, dget hd2 rfl, Lt, _, rfl, .inl (SqL.of hLt2), _, _, rfl, rfl, _, rfl, ite2 (fun h4 => ?_) (fun h4 => ?_)⟩
        · have h4 := of_decide_eq_true h4
          rw [sv_len] at h4
          exact ⟨_, rfl, d, .ref Lt, rfl, dget hd2 rfl, .inl ⟨rfl, _, SqL.of hLt2⟩, _, rfl, Lt, pr.told, x0.nm, rfl, rfl, SqL.of hLt2, _, _, rfl, rfl, _, fun _ => by omega, rfl, rfl⟩
        · exact ⟨false, (fun z => by cases z), rfl, rfl⟩
      rintro σ H4 ⟨b, hb, rfl, rfl⟩
      refine ⟨_, rfl, _, rfl, ite2 (fun hb1 => ?_) (fun _ => ?_)⟩
      · refine ⟨_, rfl, d, .ref Lt, rfl, dget hd2 rfl, _, rfl, by show 1 ≤ sizeLine; decide, fun l1 hl1 => ?_⟩
        have x5 := Ex.new (o := .lst [V.str x0.nm]) hl1
        have g5 : (upd H4 l1 (.lst [V.str x0.nm])) l1 = some (.lst (sv [x0.nm])) := upd_same
        have hLt5 := x5 _ _ hLt2
        generalize (upd H4 l1 (.lst [V.str x0.nm])) = H5 at *
        refine ⟨Lt, l1, _, _, rfl, rfl, hLt5, g5, Nat.le_trans (by rw [sv_len, sv_len, List.length_singleton]; omega : _ ≤ 100) (by decide), fun l3 hl3 => ?_⟩
        have x6 := Ex.new (o := .lst (sv pr.told ++ sv [x0.nm])) hl3
        have g6 : (upd H5 l3 (.lst (sv pr.told ++ sv [x0.nm]))) l3 = some (.lst (sv (pr.told ++ [x0.nm]))) := by rw [upd_same, sv_app]
        have e6 := x5.trans x6
        generalize (upd H5 l3 (.lst (sv pr.told ++ sv [x0.nm]))) = H6 at *
        refine ⟨_, rfl, f, _, rfl, DPut.k (k := Sum.inr "told") (v := .ref l3) (e6 _ _ hf2) (by show 4 < sizeLine; decide), ?_⟩
        rw [putT]
        have hb4 := hb hb1
        refine ⟨_, rfl, finG (pr.tol (pr.told ++ [x0.nm])) Li Ls l3 qi qs H6 e6 ⟨rfl, rfl, rfl, rfl⟩ (e6 _ _ hLi2) (hei2.ex (fun h e => h.ex e) e6) (e6 _ _ hLs2) (hes2.ex (fun h e => h.ex e) e6) g6 (hok.tol (fun x hx => ?_) ?_ ?_) hs1⟩
        · rcases List.mem_append.mp hx with hx | hx
          · exact hok.told x hx
          · rw [List.mem_singleton.mp hx]; exact hx0n
        · rw [List.length_append]; exact Nat.le_add_left 1 _
        · rw [List.length_append, List.length_singleton]; omega
      · refine ⟨_, rfl, d, .ref Lt, rfl, dget hd2 rfl, ?_⟩
        dsimp only [tNoPart]
        refine ⟨_, rfl, Lt, _, rfl, SqL.of hLt2, fun l3 hl3 => ?_⟩
        have ec : cutV (sv pr.told) none (some 1) = sv (pr.told.take 1) := (cut_take _ 1).trans (sv_take _ _)
        rw [ec]
        have e6 := Ex.new (o := .lst (sv (pr.told.take 1))) hl3
        have g6 : (upd H4 l3 (.lst (sv (pr.told.take 1)))) l3 = some (.lst (sv (pr.told.take 1))) := upd_same
        generalize (upd H4 l3 (.lst (sv (pr.told.take 1)))) = H6 at *
        refine ⟨_, rfl, f, _, rfl, DPut.k (k := Sum.inr "told") (v := .ref l3) (e6 _ _ hf2) (by show 4 < sizeLine; decide), ?_⟩
        rw [putT]
        exact ⟨_, rfl, finG (pr.tol (pr.told.take 1)) Li Ls l3 qi qs H6 e6 ⟨rfl, rfl, rfl, rfl⟩ (e6 _ _ hLi2) (hei2.ex (fun h e => h.ex e) e6) (e6 _ _ hLs2) (hes2.ex (fun h e => h.ex e) e6) g6 (hok.tol (fun x hx => hok.told x (List.mem_of_mem_take hx)) (by rw [List.length_take]; omega) (by rw [List.length_take]; omega)) hs1⟩
    refine ⟨_, rfl, rfl, _, rfl, ite2 (fun h1 => ?_) (fun h1 => ?_)⟩
    · refine ⟨fun σ H' => H' = H2 ∧ σ = [some (.ref p), some (.ref d), some (.ref f), some (.int (m : Int)), some (.ref S), none, none, some (.str x0.nm), some (.int x0.lo), some (.int x0.hi)], ?_, ?_⟩
      · refine ⟨_, rfl, d, .ref Li, rfl, dget hd2 rfl, Li, _, _, _, rfl, rfl, SqL.of hLi2, atN (m := 0) hqr0, q0, _, rfl, SqT.of hat0, rfl, ?_⟩
        exact ⟨_, _, rfl, _, _, rfl, _, _, rfl, rfl, rfl, rfl⟩
      rintro σ H3 ⟨rfl, rfl⟩
      refine ⟨_, rfl, _, rfl, _, rfl, by show 3 ≤ sizeLine; decide, fun u hu => ⟨by show 1 ≤ sizeLine; decide, fun l1 hl1 => ?_⟩⟩
      have x4 := Ex.new (o := .tup [V.str x0.nm, .int x0.hi, .int x0.hi]) hu
      have g4 : InpAt (upd H3 u (.tup [V.str x0.nm, .int x0.hi, .int x0.hi])) u ⟨x0.nm, x0.hi, x0.hi⟩ := upd_same
      generalize (upd H3 u (.tup [V.str x0.nm, .int x0.hi, .int x0.hi])) = H4 at *
      have x5 := Ex.new (o := .lst [V.ref u]) hl1
      have g5 : (upd H4 l1 (.lst [V.ref u])) l1 = some (.lst (rv [u])) := upd_same
      have g45 := x5 _ _ g4
      have e5 := x4.trans x5
      generalize (upd H4 l1 (.lst [V.ref u])) = H5 at *
      refine ⟨_, rfl, d, .ref Li, rfl, dget (e5 _ _ hd2) rfl, ?_⟩
      dsimp only [tNoPart]
      refine ⟨_, rfl, Li, _, rfl, SqL.of (e5 _ _ hLi2), fun q3 hq3 => ?_⟩
      have ec : cutV (rv qi) (some 1) none = rv (qi.drop 1) := (cut_drop _ 1).trans (by unfold rv; rw [List.map_drop])
      rw [ec]
      have x6 := Ex.new (o := .lst (rv (qi.drop 1))) hq3
      have g6 : (upd H5 q3 (.lst (rv (qi.drop 1)))) q3 = some (.lst (rv (qi.drop 1))) := upd_same
      have g46 := x6 _ _ g45
      have g56 := x6 _ _ g5
      have e6 := e5.trans x6
      generalize (upd H5 q3 (.lst (rv (qi.drop 1)))) = H6 at *
      refine ⟨l1, q3, _, _, rfl, rfl, g56, g6, Nat.le_trans (by rw [rv_len, rv_len, List.length_drop, List.length_singleton, hei.1]; omega : _ ≤ 100) (by decide), fun l3 hl3 => ?_⟩
      have x7 := Ex.new (o := .lst (rv [u] ++ rv (qi.drop 1))) hl3
      have g7 : (upd H6 l3 (.lst (rv [u] ++ rv (qi.drop 1)))) l3 = some (.lst (rv (u :: qi.drop 1))) := upd_same
      have g47 := x7 _ _ g46
      have e7 := e6.trans x7
      generalize (upd H6 l3 (.lst (rv [u] ++ rv (qi.drop 1)))) = H7 at *
      refine ⟨_, rfl, f, _, rfl, DPut.k (k := Sum.inr "inputs") (v := .ref l3) (e7 _ _ hf2) (by show 4 < sizeLine; decide), ?_⟩
      rw [putI]
      refine ⟨_, rfl, finG (highP pr x0) l3 Ls Lt (u :: qi.drop 1) qs H7 e7 ⟨rfl, rfl, rfl, rfl⟩ g7 ?_ (e7 _ _ hLs2) (hes2.ex (fun h e => h.ex e) e7) (e7 _ _ hLt2) (high_ok hok hx0) hs1⟩
      have ex7 := hei2.ex (fun h e => h.ex e) e7
      refine ⟨by show (qi.drop 1).length + 1 = (pr.ins.drop 1).length + 1; rw [List.length_drop, List.length_drop, hei.1], fun i q x hq hx => ?_⟩
      cases i with
      | zero => cases hq; cases hx; exact g47
      | succ i =>
        have hq : (qi.drop 1)[i]? = some q := hq
        have hx : (pr.ins.drop 1)[i]? = some x := hx
        rw [List.getElem?_drop] at hq hx
        exact ex7.2 (1 + i) q x hq hx
    · obtain ⟨j, hj⟩ : ∃ j, pr.steps.length = j + 1 := ⟨pr.steps.length - 1, by omega⟩
      obtain ⟨s, hs⟩ : ∃ s, pr.steps[j]? = some s := ⟨_, List.getElem?_eq_getElem (by omega)⟩
      obtain ⟨q, hq⟩ : ∃ q, qs[j]? = some q := ⟨_, List.getElem?_eq_getElem (by rw [hes.1]; omega)⟩
      have hqr : (rv qs)[j]? = some (.ref q) := by unfold rv; rw [List.getElem?_map, hq]; rfl
      have hql : (rv qs).length = j + 1 := by rw [rv_len, hes.1, hj]
      have hm1 : atI (rv qs) (-1) = some (.ref q) := ix_m1 hql hqr
      obtain ⟨o, ho1, ho2⟩ := hes2.2 j q s hq hs
      refine ⟨_, rfl, _, rfl, S, _, _, _, rfl, rfl, SqL.of hS2, hm1, q, _, _, _, rfl, rfl, SqT.of ho1, atN (m := 1) rfl, by show 4 ≤ sizeLine; decide, fun tp' htp' => ?_⟩
      have htp2 : (upd H2 tp' (.tup [V.str "+", .str "-", .str "*", .str "/"])) tp' = some (.tup (sv [("+" : Str), ("-" : Str), ("*" : Str), ("/" : Str)])) := upd_same
      have xt := Ex.new (o := .tup [V.str "+", .str "-", .str "*", .str "/"]) htp'
      have hS3 := xt _ _ hS2
      have ho13 := xt _ _ ho1
      have ho23 := xt _ _ ho2
      generalize (upd H2 tp' (.tup [V.str "+", .str "-", .str "*", .str "/"])) = H3 at *
      refine ⟨tp', _, rfl, .inr (SqT.of htp2), rfl, flat_sv _, _, rfl, ?_⟩
      rw [if_neg (by decide), isR_in]
      refine ite2 (fun hR => ?_) (fun hR => ?_)
      · refine ⟨_, rfl, _, rfl, ?_⟩
        dsimp only [tNoPart]
        refine ⟨_, rfl, S, _, rfl, SqL.of hS3, fun q3 hq3 => ?_⟩
        rw [cut_m1 hql]
        have x4 := Ex.new (o := .lst ((rv qs).take j)) hq3
        have g4 : (upd H3 q3 (.lst ((rv qs).take j))) q3 = some (.lst (rv (qs.take j))) := by rw [upd_same]; unfold rv; rw [List.map_take]
        have hS4 := x4 _ _ hS3
        have ho14 := x4 _ _ ho13
        have ho24 := x4 _ _ ho23
        have e4 := xt.trans x4
        generalize (upd H3 q3 (.lst ((rv qs).take j))) = H4 at *
        refine ⟨_, rfl, _, rfl, S, _, _, _, rfl, rfl, SqL.of hS4, hm1, ?_⟩
        dsimp only [tNoPart]
        refine ⟨_, rfl, q, _, rfl, SqT.of ho14, fun hw => absurd (show HT.sIx 5 5 (some 4) = 5 from hw.2) (by decide), fun _ u1 hu1 => ?_⟩
        rw [show cutV [V.str s.nm, .str s.sg.str, .ref o, .int (s.more : Int), .str s.way.str] none (some 4) = [V.str s.nm, .str s.sg.str, .ref o, .int (s.more : Int)] from rfl]
        have x5 := Ex.new (o := .tup [V.str s.nm, .str s.sg.str, .ref o, .int (s.more : Int)]) hu1
        have g5 : (upd H4 u1 (.tup [V.str s.nm, .str s.sg.str, .ref o, .int (s.more : Int)])) u1 = some (.tup [V.str s.nm, .str s.sg.str, .ref o, .int (s.more : Int)]) := upd_same
        have hS5 := x5 _ _ hS4
        have ho15 := x5 _ _ ho14
        have ho25 := x5 _ _ ho24
        have g45 := x5 _ _ g4
        have e5 := e4.trans x5
        generalize (upd H4 u1 (.tup [V.str s.nm, .str s.sg.str, .ref o, .int (s.more : Int)])) = H5 at *
        have done : ∀ (y : Wy) (u2 : Addr), H5 u2 = none → ∀ R : VK, (∀ u3 H6, Ex H5 H6 → StepAt H6 u3 (byS s y) → R (.ref u3) H6) → rCatA K (.ref u1) (.ref u2) (upd H5 u2 (.tup [V.str y.str])) R := by
          intro y u2 hu2 R hR2
          have x6 := Ex.new (o := .tup [V.str y.str]) hu2
          have g6 : (upd H5 u2 (.tup [V.str y.str])) u2 = some (.tup [V.str y.str]) := upd_same
          have g56 := x6 _ _ g5
          have ho26 := x6 _ _ ho25
          generalize (upd H5 u2 (.tup [V.str y.str])) = H6 at *
          refine ⟨u1, u2, _, _, rfl, rfl, SqT.of g56, SqT.of g6, by show 4 + 1 ≤ sizeLine; decide, fun z => (by cases z), fun _ z => (by cases z), fun _ _ u3 hu3 => ?_⟩
          have x7 := Ex.new (o := .tup ([V.str s.nm, .str s.sg.str, .ref o, .int (s.more : Int)] ++ [V.str y.str])) hu3
          have g7 : (upd H6 u3 (.tup ([V.str s.nm, .str s.sg.str, .ref o, .int (s.more : Int)] ++ [V.str y.str]))) u3 = some (.tup [V.str s.nm, .str s.sg.str, .ref o, .int (s.more : Int), .str y.str]) := upd_same
          exact hR2 u3 _ (x6.trans x7) ⟨o, g7, x7 _ _ ho26⟩
        have hjq : j < qs.length := by rw [hes.1]; omega
        refine ⟨_, rfl, _, rfl, S, _, _, _, rfl, rfl, SqL.of hS5, hm1, q, _, _, _, rfl, rfl, SqT.of ho15, atN (m := 4) rfl, rfl, _, rfl, ?_⟩
        refine ite2 (fun _ => ?_) (fun _ => ?_)
        · refine ⟨by show 1 ≤ sizeLine; decide, fun u2 hu2 => done .up u2 hu2 _ fun u3 H6 e6 st => ?_⟩
          refine ⟨by show 1 ≤ sizeLine; decide, fun l1 hl1 => ?_⟩
          have x7 := Ex.new (o := .lst [V.ref u3]) hl1
          have g7 : (upd H6 l1 (.lst [V.ref u3])) l1 = some (.lst (rv [u3])) := upd_same
          have g47 := x7 _ _ (e6 _ _ g45)
          have st7 := st.ex x7
          have e7 := (e5.trans e6).trans x7
          generalize (upd H6 l1 (.lst [V.ref u3])) = H7 at *
          refine ⟨q3, l1, _, _, rfl, rfl, g47, g7, Nat.le_trans (by rw [rv_len, rv_len, List.length_take, List.length_singleton]; omega : _ ≤ 100) (by decide), fun l3 hl3 => ?_⟩
          have x8 := Ex.new (o := .lst (rv (qs.take j) ++ rv [u3])) hl3
          have g8 : (upd H7 l3 (.lst (rv (qs.take j) ++ rv [u3]))) l3 = some (.lst (rv (qs.take j ++ [u3]))) := by rw [upd_same]; unfold rv; rw [List.map_append]
          have st8 := st7.ex x8
          have e8 := e7.trans x8
          generalize (upd H7 l3 (.lst (rv (qs.take j) ++ rv [u3]))) = H8 at *
          refine ⟨_, rfl, f, _, rfl, DPut.k (k := Sum.inr "steps") (v := .ref l3) (e8 _ _ hf2) (by show 4 < sizeLine; decide), ?_⟩
          rw [putS]
          exact ⟨_, rfl, finG (lastP pr j s .up) Li l3 Lt qi (qs.take j ++ [u3]) H8 e8 ⟨rfl, rfl, rfl, rfl⟩ (e8 _ _ hLi2) (hei2.ex (fun h e => h.ex e) e8) g8 (Each.add ((hes2.ex (fun h e => h.ex e) e8).tk j) st8) (e8 _ _ hLt2) (last_ok hok hj hs hR) (by show 1 ≤ (pr.steps.take j ++ [byS s .up]).length; rw [List.length_append]; exact Nat.le_add_left 1 _)⟩
        · refine ⟨by show 1 ≤ sizeLine; decide, fun u2 hu2 => done .near u2 hu2 _ fun u3 H6 e6 st => ?_⟩
          refine ⟨by show 1 ≤ sizeLine; decide, fun l1 hl1 => ?_⟩
          have x7 := Ex.new (o := .lst [V.ref u3]) hl1
          have g7 : (upd H6 l1 (.lst [V.ref u3])) l1 = some (.lst (rv [u3])) := upd_same
          have g47 := x7 _ _ (e6 _ _ g45)
          have st7 := st.ex x7
          have e7 := (e5.trans e6).trans x7
          generalize (upd H6 l1 (.lst [V.ref u3])) = H7 at *
          refine ⟨q3, l1, _, _, rfl, rfl, g47, g7, Nat.le_trans (by rw [rv_len, rv_len, List.length_take, List.length_singleton]; omega : _ ≤ 100) (by decide), fun l3 hl3 => ?_⟩
          have x8 := Ex.new (o := .lst (rv (qs.take j) ++ rv [u3])) hl3
          have g8 : (upd H7 l3 (.lst (rv (qs.take j) ++ rv [u3]))) l3 = some (.lst (rv (qs.take j ++ [u3]))) := by rw [upd_same]; unfold rv; rw [List.map_append]
          have st8 := st7.ex x8
          have e8 := e7.trans x8
          generalize (upd H7 l3 (.lst (rv (qs.take j) ++ rv [u3]))) = H8 at *
          refine ⟨_, rfl, f, _, rfl, DPut.k (k := Sum.inr "steps") (v := .ref l3) (e8 _ _ hf2) (by show 4 < sizeLine; decide), ?_⟩
          rw [putS]
          exact ⟨_, rfl, finG (lastP pr j s .near) Li l3 Lt qi (qs.take j ++ [u3]) H8 e8 ⟨rfl, rfl, rfl, rfl⟩ (e8 _ _ hLi2) (hei2.ex (fun h e => h.ex e) e8) g8 (Each.add ((hes2.ex (fun h e => h.ex e) e8).tk j) st8) (e8 _ _ hLt2) (last_ok hok hj hs hR) (by show 1 ≤ (pr.steps.take j ++ [byS s .near]).length; rw [List.length_append]; exact Nat.le_add_left 1 _)⟩
      · exact ⟨_, rfl, fin pr Li Ls Lt qi qs H3 (k2.ex xt) (p2.ex xt) (xt _ _ hf2) ⟨rfl, rfl, rfl, rfl⟩ (xt _ _ hLi2) (hei2.ex (fun h e => h.ex e) xt) (xt _ _ hLs2) (hes2.ex (fun h e => h.ex e) xt) (xt _ _ hLt2) hok hs1⟩
end
end My


set_option Elab.async false
set_option maxRecDepth 100000
set_option maxHeartbeats 2000000
set_option exponentiation.threshold 6000
namespace My
open PySem L2 Evl TL PyProof.Rows LiI
/-! ### a program's text has plain signs alone -/
abbrev Smw (x : Str) : Prop := ∀ c ∈ tl x, c < 128
theorem sm_nm : ∀ x ∈ NM, Smw x := by decide +kernel
theorem sm_num (n : Int) : Smw (numW n) := fun c hc => by
  by_cases h : c < 128
  · exact h
  · exact absurd hc (numW_free (s := c) (by omega) (.inr (by omega)))
theorem sm_join {y : Str} (hy : Smw y) : ∀ {ws : List Str}, (∀ w ∈ ws, Smw w) → Smw (Str.join y ws)
  | [], _ => fun c hc => by cases hc
  | [x], h => h x List.mem_cons_self
  | x :: z :: r, h => fun c hc => by
    have hc : c ∈ tl (x ++ y ++ Str.join y (z :: r)) := hc
    rw [tl_append, tl_append] at hc
    rcases List.mem_append.mp hc with hc | hc
    · rcases List.mem_append.mp hc with hc | hc
      · exact h x List.mem_cons_self c hc
      · exact hy c hc
    · exact sm_join hy (ws := z :: r) (fun w hw => h w (List.mem_cons_of_mem _ hw)) c hc
theorem sm_way (y : Wy) : Smw (waS y) ∧ Smw y.str := by cases y <;> decide +kernel
theorem sm_sg (g : Sg) : Smw g.str := by cases g <;> decide +kernel
theorem sm_keep (m : Nat) (y : Wy) : ∀ w ∈ keepW m y, Smw w := fun w hw => by
  unfold keepW at hw
  rcases List.mem_append.mp hw with hw | hw
  · split at hw
    · rcases List.mem_cons.mp hw with rfl | hw
      · decide +kernel
      · rw [List.mem_singleton.mp hw]; exact sm_num _
    · cases hw
  · cases y with
    | near => cases hw
    | down => rcases List.mem_cons.mp hw with rfl | hw; decide +kernel; rw [List.mem_singleton.mp hw]; exact (sm_way .down).1
    | up => rcases List.mem_cons.mp hw with rfl | hw; decide +kernel; rw [List.mem_singleton.mp hw]; exact (sm_way .up).1
    | zero => rcases List.mem_cons.mp hw with rfl | hw; decide +kernel; rw [List.mem_singleton.mp hw]; exact (sm_way .zero).1
theorem sm_opd {b f r : Nat} {names : List Str} (hn : ∀ x ∈ names, x ∈ NM) {o : Opd} (h : OpOk b f r names o) : Smw o.w := by
  cases o with
  | nm s => exact sm_nm s (hn s h)
  | nb n => exact sm_num n
theorem sm_eq : Smw ("=" : Str) := by decide +kernel
theorem sm_step {b f r : Nat} {names : List Str} (hn : ∀ x ∈ names, x ∈ NM) {st : Stp} (h : StpOk b f r names st) : ∀ w ∈ st.words, Smw w := fun w hw => by
  have hnm : Smw st.nm := sm_nm _ (List.mem_append_right _ h.sn)
  have hop : ∀ o ∈ st.ops, Smw o.w := fun o ho => sm_opd hn (h.ops o ho)
  unfold Stp.words at hw
  split at hw
  · split at hw
    · rename_i x y e
      rcases List.mem_append.mp hw with hw | hw
      · rcases List.mem_cons.mp hw with rfl | hw
        · exact hnm
        rcases List.mem_cons.mp hw with rfl | hw
        · exact sm_eq
        rcases List.mem_cons.mp hw with rfl | hw
        · exact hop x (by rw [e]; simp)
        rcases List.mem_cons.mp hw with rfl | hw
        · exact sm_sg _
        · rw [List.mem_singleton.mp hw]; exact hop y (by rw [e]; simp)
      · exact sm_keep _ _ w hw
    · cases hw
  · rcases List.mem_append.mp hw with hw | hw
    · rcases List.mem_cons.mp hw with rfl | hw
      · exact hnm
      rcases List.mem_cons.mp hw with rfl | hw
      · exact sm_eq
      · rw [List.mem_singleton.mp hw]; exact sm_sg _
    · obtain ⟨o, ho, rfl⟩ := List.mem_map.mp hw
      exact hop o ho
theorem sm_sp : Smw (" " : Str) := by decide +kernel
theorem sm_nl : Smw ("\n" : Str) := by decide +kernel
theorem PrgOk.snms {p : Prg} (h : PrgOk p) (j : Nat) : ∀ x ∈ p.ins.map Inp.nm ++ (p.steps.take j).map Stp.nm, x ∈ NM := fun x hx => by
  rcases List.mem_append.mp hx with hx | hx
  · exact h.inms x hx
  · obtain ⟨y, hy, rfl⟩ := List.mem_map.mp hx
    exact h.sts.nms y (List.mem_of_mem_take hy)
theorem PrgOk.smw {p : Prg} (h : PrgOk p) : Smw p.text := by
  refine sm_join sm_nl fun l hl => ?_
  rcases List.mem_cons.mp hl with rfl | hl
  · refine sm_join sm_sp fun w hw => ?_
    rcases List.mem_cons.mp hw with rfl | hw
    · decide +kernel
    rcases List.mem_cons.mp hw with rfl | hw
    · exact sm_num _
    rcases List.mem_cons.mp hw with rfl | hw
    · exact sm_num _
    rcases List.mem_cons.mp hw with rfl | hw
    · exact sm_num _
    · rw [List.mem_singleton.mp hw]; exact sm_num _
  rcases List.mem_append.mp hl with hl | hl
  · obtain ⟨i, hi, rfl⟩ := List.mem_map.mp hl
    refine sm_join sm_sp fun w hw => ?_
    rcases List.mem_cons.mp hw with rfl | hw
    · decide +kernel
    rcases List.mem_cons.mp hw with rfl | hw
    · exact sm_nm _ (h.inms _ (List.mem_map.mpr ⟨i, hi, rfl⟩))
    rcases List.mem_cons.mp hw with rfl | hw
    · exact sm_num _
    · rw [List.mem_singleton.mp hw]; exact sm_num _
  rcases List.mem_append.mp hl with hl | hl
  · obtain ⟨i, hi, rfl⟩ := List.mem_map.mp hl
    obtain ⟨j, hj⟩ := List.getElem?_of_mem hi
    exact sm_join sm_sp (sm_step (h.snms j) (StpsOk.at h.sts hj))
  · rw [List.mem_singleton.mp hl]
    refine sm_join sm_sp fun w hw => ?_
    rcases List.mem_cons.mp hw with rfl | hw
    · decide +kernel
    · exact sm_nm _ (h.nms _ (h.told _ hw))
/-! ### a program's parts, shown -/
theorem sd_str {x : Str} {n : Nat} (h : Smw x) (hn : x.length ≤ n) : Sd (10 * n + 2) 0 (.str x) := by
  refine ⟨rfl, rfl, Nat.le_refl _, ?_⟩
  have := PySem.StrLaws.reprText_len x (fun c hc => Nat.lt_trans (h c hc) (by decide))
  show (reprText x).length ≤ _
  omega
def opD : Opd → PyData
  | .nm s => .str s
  | .nb n => .int n
def inD (i : Inp) : PyData := .tuple [.str i.nm, .int i.lo, .int i.hi]
def stD (s : Stp) : PyData := .tuple [.str s.nm, .str s.sg.str, .tuple (s.ops.map opD), .int (s.more : Int), .str s.way.str]
theorem dp_each {α : Type} {K : PySem.W.Frag} {H : Hp} {R : Hp → Addr → α → Prop} {F : α → PyData} (hR : ∀ q x, R H q x → Dp K H (.ref q) (F x)) : ∀ {qs : List Addr} {xs : List α}, Each R H qs xs → DpAll K H (rv qs) (xs.map F)
  | [], [], _ => .nil
  | q :: qs, x :: xs, h => .cons (hR q x (h.2 0 q x rfl rfl)) (dp_each hR (qs := qs) (xs := xs) ⟨Nat.succ.inj h.1, fun i q y h1 h2 => h.2 (i + 1) q y h1 h2⟩)
  | [], _ :: _, h => by cases h.1
  | _ :: _, [], h => by cases h.1
theorem dp_sv {K : PySem.W.Frag} {H : Hp} : ∀ (ws : List Str), DpAll K H (sv ws) (ws.map PyData.str)
  | [] => .nil
  | w :: ws => .cons (.str _) (dp_sv ws)
theorem dp_ops {K : PySem.W.Frag} {H : Hp} : ∀ (os : List Opd), DpAll K H (os.map Opd.v) (os.map opD)
  | [] => .nil
  | .nm s :: os => .cons (.str _) (dp_ops os)
  | .nb n :: os => .cons (.int _) (dp_ops os)
theorem dp_in {K : PySem.W.Frag} {H : Hp} {q : Addr} {i : Inp} (h : InpAt H q i) : Dp K H (.ref q) (inD i) := .tup (SqT.of h) (.cons (.str _) (.cons (.int _) (.cons (.int _) .nil)))
theorem dp_st {K : PySem.W.Frag} {H : Hp} {q : Addr} {s : Stp} (h : StepAt H q s) : Dp K H (.ref q) (stD s) := by
  obtain ⟨o, h1, h2⟩ := h
  exact .tup (SqT.of h1) (.cons (.str _) (.cons (.str _) (.cons (.tup (SqT.of h2) (dp_ops _)) (.cons (.int _) (.cons (.str _) .nil)))))
theorem sd_on {b f r : Nat} (hb : b ≤ 10) (hf : f + r ≤ 100) {n : Int} (h : OnG b (b ^ f) ((b ^ f - 1) * b ^ r) n) : Sd 2000 0 (.int n) := by
  refine sd_int (Nat.lt_of_le_of_lt h.1 ?_)
  refine Nat.lt_of_le_of_lt (Nat.mul_le_mul_right _ (Nat.sub_le _ _)) ?_
  rw [← Nat.pow_add]
  exact Nat.lt_of_le_of_lt (Nat.le_trans (Nat.pow_le_pow_left hb _) (Nat.pow_le_pow_right (by decide) hf)) (by decide +kernel)
theorem sd_nmS {x : Str} (h : x ∈ NM) : Sd 2000 0 (.str x) := sd_nm (List.mem_cons_of_mem _ (List.mem_cons_of_mem _ (List.mem_cons_of_mem _ h)))
theorem sgs_short (g : Sg) : Sd 2000 0 (.str g.str) := ⟨rfl, rfl, Nat.le_refl _, by cases g <;> decide +kernel⟩
theorem wy_short (g : Wy) : Sd 2000 0 (.str g.str) := ⟨rfl, rfl, Nat.le_refl _, by cases g <;> decide +kernel⟩
theorem Sd.rp2 {M k : Nat} {ds : List PyData} (h : Sd M k (.tuple ds)) (hM : M ≤ 4000000) (hk : k ≤ 60) : Rp (.tuple ds) :=
  ⟨h.1, h.2.1, Nat.le_trans h.2.2.1 hk, (fun z => by intro e; cases e), Nat.le_trans (Nat.le_trans h.2.2.2 hM) (by decide)⟩
theorem all2 {P : PyData → Prop} {x y : PyData} (hx : P x) (hy : P y) : ∀ d ∈ [x, y], P d := fun d hd => by
  rcases List.mem_cons.mp hd with rfl | hd
  · exact hx
  · rw [List.mem_singleton.mp hd]; exact hy
def textD (pr : Prg) : PyData := .tuple [.str pr.text, .tuple (pr.told.map PyData.str)]
def partsD (pr : Prg) : PyData := .tuple [.tuple (pr.ins.map inD), .tuple (pr.steps.map stD)]
def gridD (pr : Prg) : PyData := .tuple [.int (pr.b : Nat), .int (pr.f : Nat), .int (pr.r : Nat), .int (pr.pl : Nat)]
theorem text_rp {pr : Prg} (h : PrgOk pr) : Rp (textD pr) := by
  have ht : Sd 8100 1 (.tuple (pr.told.map PyData.str)) := by
    refine (sd_tup (M := 2000) (k := 0) fun d hd => ?_).le (by rw [List.length_map]; have := h.t4; omega) (Nat.le_refl _)
    obtain ⟨x, hx, rfl⟩ := List.mem_map.mp hd
    exact sd_nmS (h.nms x (h.told x hx))
  exact (sd_tup (M := 1000002) (k := 1) (all2 ((sd_str h.smw h.len).le (by decide) (by decide)) (ht.le (by decide) (Nat.le_refl _)))).rp2 (by show (1000002 + 2) * 2 + 10 ≤ 4000000; decide) (by decide)
theorem parts_rp {pr : Prg} (h : PrgOk pr) : Rp (partsD pr) := by
  obtain ⟨v1, v2, v3, v4, v5, v6⟩ := h.g
  have hl : pr.f + pr.r ≤ 100 := by omega
  have hi : Sd 22000 2 (.tuple (pr.ins.map inD)) := by
    refine (sd_tup (M := 7000) (k := 1) fun d hd => ?_).le (by rw [List.length_map]; have := h.i3; omega) (Nat.le_refl _)
    obtain ⟨i, hi, rfl⟩ := List.mem_map.mp hd
    obtain ⟨j, hj⟩ := List.getElem?_of_mem hi
    have ho := InpsOk.at h.ins hj
    refine (sd_tup (ds := [.str i.nm, .int i.lo, .int i.hi]) (M := 2000) (k := 0) fun d hd => ?_).le (by show (2000 + 2) * 3 + 10 ≤ 7000; decide) (Nat.le_refl _)
    rcases List.mem_cons.mp hd with rfl | hd
    · exact sd_nmS (h.inms _ (List.mem_map.mpr ⟨i, hi, rfl⟩))
    rcases List.mem_cons.mp hd with rfl | hd
    · exact sd_on v2 hl ho.lo
    · rw [List.mem_singleton.mp hd]; exact sd_on v2 hl ho.hi
  have hs : Sd 1000000 3 (.tuple (pr.steps.map stD)) := by
    refine (sd_tup (M := 46000) (k := 2) fun d hd => ?_).le (by rw [List.length_map]; have := h.s20; omega) (Nat.le_refl _)
    obtain ⟨s, hs, rfl⟩ := List.mem_map.mp hd
    obtain ⟨j, hj⟩ := List.getElem?_of_mem hs
    have ho := StpsOk.at h.sts hj
    have hops : Sd 9000 1 (.tuple (s.ops.map opD)) := by
      refine (sd_tup (M := 2000) (k := 0) fun d hd => ?_).le (by rw [List.length_map, ho.len]; cases s.sg <;> (show _ * _ + _ ≤ _; decide)) (Nat.le_refl _)
      obtain ⟨o, hoo, rfl⟩ := List.mem_map.mp hd
      have := ho.ops o hoo
      cases o with
      | nm x => exact sd_nmS (h.snms j x this)
      | nb n => exact sd_on v2 hl this
    refine (sd_tup (ds := [.str s.nm, .str s.sg.str, .tuple (s.ops.map opD), .int (s.more : Int), .str s.way.str]) (M := 9000) (k := 1) fun d hd => ?_).le (by show (9000 + 2) * 5 + 10 ≤ 46000; decide) (Nat.le_refl _)
    rcases List.mem_cons.mp hd with rfl | hd
    · exact (sd_nmS (h.sts.nms s hs)).le (by decide) (by decide)
    rcases List.mem_cons.mp hd with rfl | hd
    · exact (sgs_short _).le (by decide) (by decide)
    rcases List.mem_cons.mp hd with rfl | hd
    · exact hops
    rcases List.mem_cons.mp hd with rfl | hd
    · refine (sd_int (Nat.lt_of_le_of_lt (?_ : _ ≤ 3) (by decide +kernel))).le (by decide) (by decide)
      rw [Int.natAbs_natCast]; exact ho.more
    · rw [List.mem_singleton.mp hd]; exact (wy_short _).le (by decide) (by decide)
  exact (sd_tup (M := 1000000) (k := 3) (all2 (hi.le (by decide) (by decide)) hs)).rp2 (by show (1000000 + 2) * 2 + 10 ≤ 4000000; decide) (by decide)
theorem grid_rp {pr : Prg} (h : PrgOk pr) : Rp (gridD pr) := by
  obtain ⟨v1, v2, v3, v4, v5, v6⟩ := h.g
  have si : ∀ n : Nat, n ≤ 60 → Sd 2000 0 (.int (n : Int)) := fun n hn => sd_int (Nat.lt_of_le_of_lt (by rw [Int.natAbs_natCast]; exact hn) (by decide +kernel))
  refine (sd_tup (ds := [.int (pr.b : Nat), .int (pr.f : Nat), .int (pr.r : Nat), .int (pr.pl : Nat)]) (M := 2000) (k := 0) fun d hd => ?_).rp2 (by show (2000 + 2) * 4 + 10 ≤ 4000000; decide) (by decide)
  rcases List.mem_cons.mp hd with rfl | hd
  · exact si _ (by omega)
  rcases List.mem_cons.mp hd with rfl | hd
  · exact si _ (by omega)
  rcases List.mem_cons.mp hd with rfl | hd
  · exact si _ (by omega)
  · rw [List.mem_singleton.mp hd]; exact si _ (by omega)
end My


set_option Elab.async false
set_option maxRecDepth 100000
set_option maxHeartbeats 2000000
set_option exponentiation.threshold 6000
namespace My
open PySem L2 Evl TL PyProof.Rows LiI
def sp_read (a : Ad) : Sp := fun vs H Q _ => ∃ (q d : Addr) (pr : Prg), vs = [.ref q, .ref d] ∧ ProgAt a H q pr ∧ OwnAt H d pr ∧ PrgOk pr ∧ ∀ H', Ex H H' → Q (.bl true) H'
theorem gfl_get {b f r p u G : Int} {lim tops : Addr} : (gfl b f r p u lim tops G).lookup ("base" : Str) = some (.int b) ∧ (gfl b f r p u lim tops G).lookup ("figures" : Str) = some (.int f) ∧ (gfl b f r p u lim tops G).lookup ("reach" : Str) = some (.int r) ∧ (gfl b f r p u lim tops G).lookup ("places" : Str) = some (.int p) := by
  unfold gfl
  refine ⟨?_, ?_, ?_, ?_⟩ <;> repeat (first | rw [lookup_putF, if_pos (by decide +kernel)] | rw [lookup_putF, if_neg (by decide +kernel)])
section
variable {P : Program} {w : World} {K : PySem.W.Frag} {mg : Str → Option Value} {base : Heap} {a : Ad}
theorem ok_l_is_read_right (T : Txt K mg a) : GOk P w K mg base 6 a.l_is_read_right a.l_is_read_right_fd ["program", "own"] (sp_read a) := by
  refine okG T.F_l_is_read_right sc_l_is_read_right (fun vs H Q E h => ?_) (fun cdv A outer s H vs Q E hG hr h => ?_)
  · obtain ⟨q, d, pr, rfl, _⟩ := h
    rfl
  · obtain ⟨q, d, pr, rfl, hq, hd, hok, k⟩ := h
    refine ⟨_, (pss_cons (ps_set (i := 2) sc_l_is_read_right.nd rfl (Or.inl rfl) (pe_call (ok_l_program_text T) (hr.mono (by decide)) rfl T.g_l_program_text T.k_l_program_text T.B_l_program_text .nil pass0 (pa_cons (pv 1) pa_nil)))
      (pss_cons (ps_if (pt_cmpR op_ne (pe_callB (cr_repr hG hr.units) (by rfl) T.n_repr (by decide +kernel) (pa_cons (pe_tup (pa_cons (pe_fld (pv 0) rfl) (pa_cons (pe_fld (pv 0) rfl) pa_nil))) pa_nil)) (pe_callB (cr_repr hG hr.units) (by rfl) T.n_repr (by decide +kernel) (pa_cons (pe_tup (pa_cons (pv 2) (pa_cons (pe_callTy call_tuple_of (by rfl) T.n_tuple (by decide +kernel) (pa_cons (pe_dget (hu_of hr) (pv 1) pe_str (fun _ _ => rfl)) pa_nil)) pa_nil))) pa_nil)) (nomark _)) (pss_one (ps_ret pe_bl)) pss_nil)
      (pss_cons (ps_if (pt_cmpR op_ne (pe_callB (cr_repr hG hr.units) (by rfl) T.n_repr (by decide +kernel) (pa_cons (pe_tup (pa_cons (pe_fld (pv 0) rfl) (pa_cons (pe_fld (pv 0) rfl) pa_nil))) pa_nil)) (pe_callB (cr_repr hG hr.units) (by rfl) T.n_repr (by decide +kernel) (pa_cons (pe_tup (pa_cons (pe_callTy call_tuple_of (by rfl) T.n_tuple (by decide +kernel) (pa_cons (pe_dget (hu_of hr) (pv 1) pe_str (fun _ _ => rfl)) pa_nil)) (pa_cons (pe_callTy call_tuple_of (by rfl) T.n_tuple (by decide +kernel) (pa_cons (pe_dget (hu_of hr) (pv 1) pe_str (fun _ _ => rfl)) pa_nil)) pa_nil))) pa_nil)) (nomark _)) (pss_one (ps_ret pe_bl)) pss_nil)
      (pss_cons (ps_par (i := 3) (j := 4) (by rfl) sc_l_is_read_right.nd rfl rfl (by decide) rfl rfl (pa_cons (pe_fld (pv 0) rfl) (pa_cons (pe_callB call_len_seq (by rfl) T.n_len (by decide +kernel) (pa_cons (pe_dget (hu_of hr) (pv 1) pe_str (fun _ _ => rfl)) pa_nil)) pa_nil)) (by rfl))
      (pss_cons (ps_if (pt_cmpR op_ne (pe_callB (cr_repr hG hr.units) (by rfl) T.n_repr (by decide +kernel) (pa_cons (pe_tup (pa_cons (pe_fld (pv 3) rfl) (pa_cons (pe_fld (pv 3) rfl) (pa_cons (pe_fld (pv 3) rfl) (pa_cons (pe_fld (pv 3) rfl) pa_nil))))) pa_nil)) (pe_callB (cr_repr hG hr.units) (by rfl) T.n_repr (by decide +kernel) (pa_cons (pe_dget (hu_of hr) (pv 1) pe_str (fun _ _ => rfl)) pa_nil)) (nomark _)) (pss_one (ps_ret pe_bl)) pss_nil)
      (pss_one (ps_ret (pe_cmpR op_eq (pe_callB (cr_repr hG hr.units) (by rfl) T.n_repr (by decide +kernel) (pa_cons (pe_callB (call_lenOwn (ok_Program_len T) (hr.mono (by decide)) T.m_Program_len T.B_Program_len pass0) (by rfl) T.n_len (by decide +kernel) (pa_cons (pv 0) pa_nil)) pa_nil)) (pe_callB (cr_repr hG hr.units) (by rfl) T.n_repr (by decide +kernel) (pa_cons (pv 4) pa_nil)) (nomark _))))))))), ?_⟩
    have rt := text_rp hok
    have rp := parts_rp hok
    have rg := grid_rp hok
    refine ⟨_, rfl, d, pr, rfl, hd, hok, fun H1 e1 => ?_⟩
    have hq1 := hq.mono e1
    have hd1 := hd.ex e1
    obtain ⟨dx, g, I, S, Tt, N, hpo, hparts, hN⟩ := id hq1
    obtain ⟨qi, qs, hI, hei, hS, hes⟩ := hparts.ex
    obtain ⟨t, Li, Ls, Lt, qi', qs', hdk, ht, hLi, hei', hLs, hes', hLt⟩ := id hd1
    refine ⟨_, rfl, q, _, dx, _, _, rfl, hpo, T.cl_Program, T.f_Program_text, pfl_text, _, rfl, q, _, dx, _, _, rfl, hpo, T.cl_Program, T.f_Program_told, pfl_told, by show 2 ≤ sizeLine; decide, fun u1 hu1 => ?_⟩
    have x2 := Ex.new (o := .tup [V.str pr.text, .ref Tt]) hu1
    have g2 : (upd H1 u1 (.tup [V.str pr.text, .ref Tt])) u1 = some (.tup [V.str pr.text, .ref Tt]) := upd_same
    have e2 := e1.trans x2
    have f2 := x2
    generalize (upd H1 u1 (.tup [V.str pr.text, .ref Tt])) = H2 at *
    refine ⟨_, textD pr, rfl, .tup (SqT.of g2) (.cons (.str _) (.cons (.tup (SqT.of (f2 _ _ hparts.tt)) (dp_sv _)) .nil)), rt.1, rt.2.1, rt.2.2.1, rt.2.2.2.1, rt.2.2.2.2, ?_⟩
    refine ⟨_, rfl, _, rfl, d, .ref Lt, rfl, dget (f2 _ _ hdk) rfl, Lt, _, rfl, .inl ⟨SqL.of (f2 _ _ hLt), fun l3 hl3 => ?_⟩⟩
    have x3 := Ex.new (o := .tup (sv pr.told)) hl3
    have g3 : (upd H2 l3 (.tup (sv pr.told))) l3 = some (.tup (sv pr.told)) := upd_same
    have f3 := f2.trans x3
    generalize (upd H2 l3 (.tup (sv pr.told))) = H3 at *
    refine ⟨by show 2 ≤ sizeLine; decide, fun u4 hu4 => ?_⟩
    have x4 := Ex.new (o := .tup [V.str pr.text, .ref l3]) hu4
    have g4 : (upd H3 u4 (.tup [V.str pr.text, .ref l3])) u4 = some (.tup [V.str pr.text, .ref l3]) := upd_same
    have g34 := x4 _ _ g3
    have f4 := f3.trans x4
    generalize (upd H3 u4 (.tup [V.str pr.text, .ref l3])) = H4 at *
    refine ⟨_, textD pr, rfl, .tup (SqT.of g4) (.cons (.str _) (.cons (.tup (SqT.of g34) (dp_sv _)) .nil)), rt.1, rt.2.1, rt.2.2.1, rt.2.2.2.1, rt.2.2.2.2, ?_⟩
    refine ⟨rfl, _, rfl, ite2 (fun z => absurd z (by simp)) fun _ => ?_⟩
    -- inputs and steps
    refine ⟨_, rfl, q, _, dx, _, _, rfl, f4 _ _ hpo, T.cl_Program, T.f_Program_inputs, pfl_inputs, _, rfl, q, _, dx, _, _, rfl, f4 _ _ hpo, T.cl_Program, T.f_Program_steps, pfl_steps, by show 2 ≤ sizeLine; decide, fun u5 hu5 => ?_⟩
    have x5 := Ex.new (o := .tup [V.ref I, .ref S]) hu5
    have g5 : (upd H4 u5 (.tup [V.ref I, .ref S])) u5 = some (.tup [V.ref I, .ref S]) := upd_same
    have f5 := f4.trans x5
    generalize (upd H4 u5 (.tup [V.ref I, .ref S])) = H5 at *
    have DI : ∀ {H' : Hp}, Ex H1 H' → DpAll K H' (rv qi) (pr.ins.map inD) := fun e => dp_each (fun q x h => dp_in h) (hei.ex (fun h e => h.ex e) e)
    have DS2 : ∀ {H' : Hp}, Ex H1 H' → DpAll K H' (rv qs) (pr.steps.map stD) := fun e => dp_each (fun q x h => dp_st h) (hes.ex (fun h e => h.ex e) e)
    have DI' : ∀ {H' : Hp}, Ex H1 H' → DpAll K H' (rv qi') (pr.ins.map inD) := fun e => dp_each (fun q x h => dp_in h) (hei'.ex (fun h e => h.ex e) e)
    have DS' : ∀ {H' : Hp}, Ex H1 H' → DpAll K H' (rv qs') (pr.steps.map stD) := fun e => dp_each (fun q x h => dp_st h) (hes'.ex (fun h e => h.ex e) e)
    refine ⟨_, partsD pr, rfl, .tup (SqT.of g5) (.cons (.tup (SqT.of (f5 _ _ hI)) (DI f5)) (.cons (.tup (SqT.of (f5 _ _ hS)) (DS2 f5)) .nil)), rp.1, rp.2.1, rp.2.2.1, rp.2.2.2.1, rp.2.2.2.2, ?_⟩
    refine ⟨_, rfl, d, .ref Li, rfl, dget (f5 _ _ hdk) rfl, Li, _, rfl, .inl ⟨SqL.of (f5 _ _ hLi), fun l6 hl6 => ?_⟩⟩
    have x6 := Ex.new (o := .tup (rv qi')) hl6
    have g6 : (upd H5 l6 (.tup (rv qi'))) l6 = some (.tup (rv qi')) := upd_same
    have f6 := f5.trans x6
    generalize (upd H5 l6 (.tup (rv qi'))) = H6 at *
    refine ⟨_, rfl, d, .ref Ls, rfl, dget (f6 _ _ hdk) rfl, Ls, _, rfl, .inl ⟨SqL.of (f6 _ _ hLs), fun l7 hl7 => ?_⟩⟩
    have x7 := Ex.new (o := .tup (rv qs')) hl7
    have g7 : (upd H6 l7 (.tup (rv qs'))) l7 = some (.tup (rv qs')) := upd_same
    have g67 := x7 _ _ g6
    have f7 := f6.trans x7
    generalize (upd H6 l7 (.tup (rv qs'))) = H7 at *
    refine ⟨by show 2 ≤ sizeLine; decide, fun u8 hu8 => ?_⟩
    have x8 := Ex.new (o := .tup [V.ref l6, .ref l7]) hu8
    have g8 : (upd H7 u8 (.tup [V.ref l6, .ref l7])) u8 = some (.tup [V.ref l6, .ref l7]) := upd_same
    have g68 := x8 _ _ g67
    have g78 := x8 _ _ g7
    have f8 := f7.trans x8
    generalize (upd H7 u8 (.tup [V.ref l6, .ref l7])) = H8 at *
    refine ⟨_, partsD pr, rfl, .tup (SqT.of g8) (.cons (.tup (SqT.of g68) (DI' f8)) (.cons (.tup (SqT.of g78) (DS' f8)) .nil)), rp.1, rp.2.1, rp.2.2.1, rp.2.2.2.1, rp.2.2.2.2, ?_⟩
    refine ⟨rfl, _, rfl, ite2 (fun z => absurd z (by simp)) fun _ => ?_⟩
    -- the grid
    obtain ⟨dg, lim, tops, p', u', xs', ys', o1, o2, o3, o4, o5⟩ := hparts.gr.ob
    obtain ⟨dg', lim', tops', b', f', r', G', hun⟩ := hparts.un
    have ep : p' = (pr.pl : Int) := by
      have h1 := HO.ins.inj (Option.some.inj (o1.symm.trans hun))
      have h3 := congrArg (fun l : List (Str × V) => l.lookup ("places" : Str)) h1.2.2
      rw [gfl_get.2.2.2, gfl_get.2.2.2] at h3
      exact V.int.inj (Option.some.inj h3)
    subst ep
    refine ⟨_, rfl, q, _, dx, _, _, rfl, f8 _ _ hpo, T.cl_Program, T.f_Program_grid, pfl_grid, ?_⟩
    refine ⟨_, rfl, d, .ref Ls, rfl, dget (f8 _ _ hdk) rfl, Ls, _, rfl, .inl (SqL.of (f8 _ _ hLs)), _, _, rfl, ?_⟩
    rw [rv_len, hes'.1]
    obtain ⟨FL, hFL, b1, b2, b3, b4⟩ : ∃ FL, H8 g = some (.ins a.Grid dg FL) ∧ FL.lookup ("base" : Str) = some (.int (pr.b : Nat)) ∧ FL.lookup ("figures" : Str) = some (.int (pr.f : Nat)) ∧ FL.lookup ("reach" : Str) = some (.int (pr.r : Nat)) ∧ FL.lookup ("places" : Str) = some (.int (pr.pl : Nat)) := ⟨_, f8 _ _ o1, gfl_get⟩
    refine ⟨_, rfl, g, _, dg, _, _, rfl, hFL, T.cl_Grid, T.f_Grid_base, b1, ?_⟩
    refine ⟨_, rfl, g, _, dg, _, _, rfl, hFL, T.cl_Grid, T.f_Grid_figures, b2, ?_⟩
    refine ⟨_, rfl, g, _, dg, _, _, rfl, hFL, T.cl_Grid, T.f_Grid_reach, b3, ?_⟩
    refine ⟨_, rfl, g, _, dg, _, _, rfl, hFL, T.cl_Grid, T.f_Grid_places, b4, by show 4 ≤ sizeLine; decide, fun u9 hu9 => ?_⟩
    have x9 := Ex.new (o := .tup [V.int (pr.b : Nat), .int (pr.f : Nat), .int (pr.r : Nat), .int (pr.pl : Nat)]) hu9
    have g9 : (upd H8 u9 (.tup [V.int (pr.b : Nat), .int (pr.f : Nat), .int (pr.r : Nat), .int (pr.pl : Nat)])) u9 = some (.tup [V.int (pr.b : Nat), .int (pr.f : Nat), .int (pr.r : Nat), .int (pr.pl : Nat)]) := upd_same
    have f9 := f8.trans x9
    generalize (upd H8 u9 (.tup [V.int (pr.b : Nat), .int (pr.f : Nat), .int (pr.r : Nat), .int (pr.pl : Nat)])) = H9 at *
    refine ⟨_, gridD pr, rfl, .tup (SqT.of g9) (.cons (.int _) (.cons (.int _) (.cons (.int _) (.cons (.int _) .nil)))), rg.1, rg.2.1, rg.2.2.1, rg.2.2.2.1, rg.2.2.2.2, ?_⟩
    refine ⟨_, rfl, d, .ref t, rfl, dget (f9 _ _ hdk) rfl, _, gridD pr, rfl, .tup (SqT.of (f9 _ _ ht)) (.cons (.int _) (.cons (.int _) (.cons (.int _) (.cons (.int _) .nil)))), rg.1, rg.2.1, rg.2.2.1, rg.2.2.2.1, rg.2.2.2.2, ?_⟩
    generalize PyData.shown (gridD pr) = sh
    refine ⟨rfl, _, rfl, ite2 (fun z => absurd z (by simp)) fun _ => ?_⟩
    -- how many steps
    have s20 := hok.s20
    have sl : Sd 2000 0 (.int ((pr.steps.length : Nat) : Int)) := sd_int (Nat.lt_of_le_of_lt (by rw [Int.natAbs_natCast]; exact s20) (by decide +kernel))
    have si : (PyData.int ((pr.steps.length : Nat) : Int)).depth ≤ 60 ∧ (PyData.int ((pr.steps.length : Nat) : Int)).shown.length ≤ sizeLine := ⟨Nat.le_trans sl.2.2.1 (by decide), Nat.le_trans sl.2.2.2 (by decide)⟩
    refine ⟨_, rfl, q, dx, _, rfl, f9 _ _ hpo, q, pr, rfl, hq1.mono f9, pr.steps.length, rfl, Nat.lt_of_le_of_lt s20 (by decide), ?_⟩
    refine ⟨_, _, rfl, .int _, sl.1, sl.2.1, si.1, (fun z => by intro e; cases e), si.2, ?_⟩
    refine ⟨_, rfl, _, _, rfl, .int _, sl.1, sl.2.1, si.1, (fun z => by intro e; cases e), si.2, ?_⟩
    generalize PyData.shown (PyData.int ((pr.steps.length : Nat) : Int)) = sh2
    refine ⟨rfl, ?_⟩
    rw [show decide (V.str sh2 = V.str sh2) = true from decide_eq_true rfl]
    exact k H9 (e1.trans f9)
end
end My


set_option Elab.async false
set_option maxRecDepth 100000
set_option maxHeartbeats 2000000
set_option exponentiation.threshold 6000
namespace My
open PySem L2 Evl TL PyProof.Rows LiI
def rem (p : Addr) (H : Hp) : Hp := fun c => if c = p then none else H c
theorem rem_ex {p : Addr} {H : Hp} : Ex (rem p H) H := fun c o h => by
  unfold rem at h
  split at h
  · cases h
  · exact h
theorem rem_at {p c : Addr} {H : Hp} {o : HO} (h : H c = some o) (hn : c ≠ p) : rem p H c = some o := by
  unfold rem
  rw [if_neg hn]
  exact h
theorem rem_p {p : Addr} {H : Hp} : rem p H p = none := by unfold rem; rw [if_pos rfl]
theorem rem_no {p c : Addr} {H : Hp} (h : H c = none) : rem p H c = none := by unfold rem; split <;> first | rfl | exact h
theorem Ex.of_kp {B H H' : Hp} {p : Addr} (e : Ex B H) (hp : B p = none) (k : Kp p H H') : Ex B H' := fun c o h => k c o (e c o h) (fun z => by rw [z, hp] at h; cases h)
theorem own_rem {H : Hp} {d p : Addr} {n : Nat} {pr : Prg} (h : OwnAt H d pr) (hp : PotAt H p n) (hok : PrgOk pr) (h1 : 1 ≤ pr.steps.length) : OwnAt (rem p H) d pr := by
  obtain ⟨t, Li, Ls, Lt, qi, qs, hdk, ht, hLi, hei, hLs, hes, hLt⟩ := h
  obtain ⟨x, y, c, hh, _⟩ := hp
  have nl : ∀ {q : Addr} {o : HO}, H q = some o → o ≠ .lst [.int x, .int y, .int c] → rem p H q = some o := fun hq ho => rem_at hq fun z => by rw [z, hh] at hq; exact ho (Option.some.inj hq).symm
  have i1 := hok.i1
  have t1 := hok.t1
  have rvn : ∀ {qs : List Addr}, 1 ≤ qs.length → HO.lst (rv qs) ≠ .lst [.int x, .int y, .int c] := fun {qs} hl z => by
    cases qs with
    | nil => cases hl
    | cons q qs => have := HO.lst.inj z; cases this
  refine ⟨t, Li, Ls, Lt, qi, qs, nl hdk (by intro z; cases z), nl ht (by intro z; cases z), nl hLi (rvn (by rw [hei.1]; exact i1)), ⟨hei.1, fun i q x h1 h2 => nl (hei.2 i q x h1 h2) (by intro z; cases z)⟩, nl hLs (rvn (by rw [hes.1]; exact h1)), ⟨hes.1, fun i q x h1 h2 => ?_⟩, nl hLt ?_⟩
  · obtain ⟨o, g1, g2⟩ := hes.2 i q x h1 h2
    exact ⟨o, nl g1 (by intro z; cases z), nl g2 (by intro z; cases z)⟩
  · intro z
    have := HO.lst.inj z
    cases e : pr.told with
    | nil => rw [e] at t1; cases t1
    | cons u us => rw [e] at this; cases this
def sp_right : Sp := fun vs H Q _ => ∃ (p : Addr) (n : Nat), vs = [.ref p] ∧ PotAt H p n ∧ n + 6000 ≤ 100000 ∧ ∀ H', Kp p H H' → Q (.bl true) H'
theorem nl_kp {H H' : Hp} {p : Addr} {n : Nat} (hp : PotAt H p n) (k : Kp p H H') : Ex (nolist H) H' := fun c o h => by
  obtain ⟨h1, h2⟩ := nolist_of h
  refine k c o h1 fun z => ?_
  obtain ⟨x, y, w, hh, _⟩ := hp
  rw [z, hh] at h1
  exact h2 _ (Option.some.inj h1).symm
section
variable {P : Program} {w : World} {K : PySem.W.Frag} {mg : Str → Option Value} {base : Heap} {a : Ad}
theorem ok_l_right (T : Txt K mg a) : GOk P w K mg base 16 a.l_right a.l_right_fd ["pot"] sp_right := by
  refine okG T.F_l_right sc_l_right (fun vs H Q E h => ?_) (fun cdv A outer s H vs Q E hG hr h => ?_)
  · obtain ⟨p, n, rfl, _⟩ := h
    rfl
  · obtain ⟨p, n, rfl, hp, hn, k⟩ := h
    refine ⟨_, (pss_cut (ps_set (i := 1) sc_l_right.nd rfl (Or.inl rfl) (pe_call (ok_l_told T) (hr.mono (by decide)) rfl T.g_l_told T.k_l_told T.B_l_told .nil pass0 (pa_cons (pv 0) (pa_cons (pe_call (ok_l_program_drawn T) (hr.mono (by decide)) rfl T.g_l_program_drawn T.k_l_program_drawn T.B_l_program_drawn .nil pass0 (pa_cons (pv 0) (pa_cons pe_int (pa_cons pe_int pa_nil)))) pa_nil))))
      (pss_cut (ps_par (i := 2) (j := 3) (by rfl) sc_l_right.nd rfl rfl (by decide) rfl rfl (pa_cons (pe_call (ok_l_program_text T) (hr.mono (by decide)) rfl T.g_l_program_text T.k_l_program_text T.B_l_program_text .nil pass0 (pa_cons (pv 1) pa_nil)) (pa_cons (pe_call (ok_l_other T) (hr.mono (by decide)) rfl T.g_l_other T.k_l_other T.B_l_other .nil pass0 (pa_cons (pv 0) (pa_cons (pv 1) pa_nil))) pa_nil)) (by rfl))
      (pss_cut (ps_asg (pe_tup (pa_cons (pe_make T.mk_Program (ok_Program_init T) (hr.mono (by decide)) rfl T.g_Program T.B_Program_init .nil pass0 (pa_cons (pv 2) pa_nil)) (pa_cons (pe_makeK0 T.mk_Program (ok_Program_init T) (hr.mono (by decide)) rfl T.g_Program (kbn_text T.F_Program_init (by intros; rfl)) pass0 (pk_cons (pv 2) pk_nil)) (pa_cons (pe_make T.mk_Program (ok_Program_init T) (hr.mono (by decide)) rfl T.g_Program T.B_Program_init .nil pass0 (pa_cons (pe_call (ok_l_program_text T) (hr.mono (by decide)) rfl T.g_l_program_text T.k_l_program_text T.B_l_program_text .nil pass0 (pa_cons (pv 3) pa_nil)) pa_nil)) pa_nil)))) (pg_tup rfl (pgs_cons (pg_name (i := 4) sc_l_right.nd rfl (Or.inr rfl)) (pgs_cons (pg_name (i := 5) sc_l_right.nd rfl (Or.inl rfl)) (pgs_cons (pg_name (i := 6) sc_l_right.nd rfl (Or.inl rfl)) pgs_nil)))))
      (pss_cut (ps_if (PW.pt (pw_or (pt_not (pt_val (pe_callG (ok_l_is_read_right T) hG (hr.mono (by decide)) rfl T.g_l_is_read_right T.k_l_is_read_right T.B_l_is_read_right .nil (pa_cons (pv 4) (pa_cons (pv 1) pa_nil))))) (pw_or1 (pt_not (pt_val (pe_callG (ok_l_is_read_right T) hG (hr.mono (by decide)) rfl T.g_l_is_read_right T.k_l_is_read_right T.B_l_is_read_right .nil (pa_cons (pv 6) (pa_cons (pv 3) pa_nil)))))))) (pss_one (ps_ret pe_bl)) pss_nil)
      (pss_cut (ps_set (i := 7) sc_l_right.nd rfl (Or.inl rfl) (pe_op op_cat (pe_lc (own := [("row", 10)]) (g := gName 10) (by rfl) sc_l_right.nd (pi_list (pe_dget (hu_of hr) (pv 1) pe_str (fun _ _ => rfl))) (blkOk_by (own := [("row", 10)]) (N := N_l_right) (sc := defScope s_l_right) (by decide +kernel)) (fun _ _ _ _ _ => pg_name (i := 10) sc_l_right.nd rfl (Or.inl rfl)) (fun _ _ _ _ _ => pts_nil) (fun _ _ _ _ _ => (pe_ix (r := rIxT K) ix_tup (pv 10) pe_int (fun _ _ => rfl)))) (pe_lc (own := [("step", 11)]) (g := gName 11) (by rfl) sc_l_right.nd (pi_list (pe_dget (hu_of hr) (pv 1) pe_str (fun _ _ => rfl))) (blkOk_by (own := [("step", 11)]) (N := N_l_right) (sc := defScope s_l_right) (by decide +kernel)) (fun _ _ _ _ _ => pg_name (i := 11) sc_l_right.nd rfl (Or.inl rfl)) (fun _ _ _ _ _ => pts_nil) (fun _ _ _ _ _ => (pe_ix (r := rIxT K) ix_tup (pv 11) pe_int (fun _ _ => rfl))))))
      (pss_cut (ps_for PassesOwn.never rfl (pi_list (pe_op op_cat (pv 7) (pe_lst (pa_cons pe_str (pa_cons pe_str (pa_cons pe_str (pa_cons pe_non (pa_cons pe_int (pa_cons pe_bl (pa_cons (pe_tup (pa_cons (pe_ix ix_list (pv 7) pe_int (fun _ _ => rfl)) pa_nil)) (pa_cons (pe_call (ok_l_odd T) (hr.mono (by decide)) rfl T.g_l_odd T.k_l_odd T.B_l_odd .nil pass0 (pa_cons (pv 0) pa_nil)) pa_nil))))))))))) (pg_name (i := 8) sc_l_right.nd rfl (Or.inl rfl)) (pss_one (ps_if (pt_cmpR op_ne (pe_cmpR (op_inOwn (ok_Program_contains T) (hr.mono (by decide)) T.cl_Program T.m_Program_contains T.B_Program_contains pass0) (pv 8) (pv 4) (by rfl)) (pe_and (pe_callB call_isi (by rfl) T.n_isinstance (by decide +kernel) (pa_cons (pv 8) (pa_cons (pe_bltn (v := .ty "str") (u := .type "str") rfl T.n_str (by decide +kernel) rfl) pa_nil))) (pe_one (pe_cmpR (op_inS (hr.mono (by decide))) (pv 8) (pv 7) (by rfl)))) (nomark _)) (pss_one (ps_ret pe_bl)) pss_nil)))
      (pss_cut (ps_set (i := 9) sc_l_right.nd rfl (Or.inl rfl) (pe_cmpR op_eq (pe_call (ok_l_program_text T) (hr.mono (by decide)) rfl T.g_l_program_text T.k_l_program_text T.B_l_program_text .nil pass0 (pa_cons (pv 3) pa_nil)) (pv 2) (nomark _)))
      (pss_cons (ps_if (pt_cmpR op_ne (pe_callB (cr_repr hG hr.units) (by rfl) T.n_repr (by decide +kernel) (pa_cons (pe_tup (pa_cons (pe_cmpR (op_eqOwn (ok_Program_eq T) (hr.mono (by decide)) T.m_Program_eq T.B_Program_eq pass0) (pv 4) (pv 5) (nomark _)) (pa_cons (pe_cmpR (op_neOwn (ok_Program_eq T) (hr.mono (by decide)) T.q_Program T.m_Program_eq T.B_Program_eq pass0) (pv 4) (pv 5) (nomark _)) (pa_cons (pe_cmpR (op_eqOwn (ok_Program_eq T) (hr.mono (by decide)) T.m_Program_eq T.B_Program_eq pass0) (pv 4) (pv 6) (nomark _)) (pa_cons (pe_cmpR (op_neOwn (ok_Program_eq T) (hr.mono (by decide)) T.q_Program T.m_Program_eq T.B_Program_eq pass0) (pv 4) (pv 6) (nomark _)) pa_nil))))) pa_nil)) (pe_callB (cr_repr hG hr.units) (by rfl) T.n_repr (by decide +kernel) (pa_cons (pe_tup (pa_cons pe_bl (pa_cons pe_bl (pa_cons (pv 9) (pa_cons (pe_not (pv 9)) pa_nil))))) pa_nil)) (nomark _)) (pss_one (ps_ret pe_bl)) pss_nil)
      (pss_one (ps_ret (pe_not (pe_callB (cr_any rfl) (by rfl) T.n_any (by decide +kernel) (pa_cons (pe_lc (own := [("value", 8)]) (g := gName 8) (by rfl) sc_l_right.nd (pi_tup (pe_tup (pa_cons (pv 2) (pa_cons pe_non (pa_cons (pe_fld (pv 4) rfl) (pa_cons pe_int pa_nil)))))) (blkOk_by (own := [("value", 8)]) (N := N_l_right) (sc := defScope s_l_right) (by decide +kernel)) (fun _ _ _ _ _ => pg_name (i := 8) sc_l_right.nd rfl (Or.inl rfl)) (fun _ _ _ _ _ => pts_nil) (fun _ _ _ _ _ => (pe_cmpR (r := rEqOwn K (sp_peq K a) E0 a.Program false) (op_eqOwn (ok_Program_eq T) (hr.mono (by decide)) T.m_Program_eq T.B_Program_eq pass0) (pv 4) (pv 8) (nomark _)))) pa_nil))))))))))))), ?_⟩
    refine ⟨fun σ H' => ∃ d pr, Kp p H H' ∧ PotAt H' p (n + 2005) ∧ OwnAt H' d pr ∧ PrgOk pr ∧ 1 ≤ pr.steps.length ∧ σ = [some (.ref p), some (.ref d), none, none, none, none, none, none, none, none, none, none], ?_, ?_⟩
    · refine ⟨_, rfl, _, rfl, p, n, 60, 10, rfl, ⟨by decide, by decide⟩, ⟨by decide, by decide⟩, hp, by omega, fun d pr H1 k1 p1 hown hok hsz hL hwd hst6 hst1 ht2 hfr hsnd => ?_⟩
      refine ⟨p, d, n + 2000, pr, rfl, p1, by omega, hown, hok, hst1, fun told H2 k2 p2 own2 ti t1 t4 => ?_⟩
      have hd0 : H d = none := by obtain ⟨t, Li, Ls, Lt, _, _, h0, _⟩ := hfr; exact h0
      refine ⟨d, pr.tol told, fun b o hb hbp => k2 _ _ (k1 b o hb hbp) hbp (fun z => by rw [z, hd0] at hb; cases hb), p2, own2, hok.tol ti t1 t4, hst1, rfl⟩
    rintro σ H1 ⟨d, pr, k1, p1, own1, hok, hs1, rfl⟩
    have ownB := own_rem own1 p1 hok hs1
    refine ⟨fun σ H' => ∃ f pr2, Kp p H1 H' ∧ PotAt H' p (n + 2006) ∧ OwnAt H' f pr2 ∧ PrgOk pr2 ∧ 1 ≤ pr2.steps.length ∧ σ = [some (.ref p), some (.ref d), some (.str pr.text), some (.ref f), none, none, none, none, none, none, none, none], ?_, ?_⟩
    · refine ⟨_, rfl, d, pr, rfl, own1, hok, fun H2 e2 => ?_⟩
      refine ⟨_, rfl, _, rfl, p, d, n + 2005, pr, rfl, p1.ex e2, by omega, own1.ex e2, hok, hs1, fun f pr2 H3 k3 p3 own3 ok3 hs3 => ?_⟩
      exact ⟨_, _, rfl, f, pr2, (Ex.kp e2).trans k3, p3, own3, ok3, hs3, rfl⟩
    rintro σ H2 ⟨f, pr2, k2, p2, own2, ok2, hs2, rfl⟩
    have own12 : OwnAt H2 d pr := ownB.ex (Ex.of_kp rem_ex rem_p k2)
    have k02 := k1.trans k2
    clear ownB k1 k2 p1 own1
    refine ⟨fun σ H' => ∃ x y z, Ex H2 H' ∧ ProgAt a H' x pr ∧ ProgAt a H' y pr ∧ ProgAt a H' z pr2 ∧ σ = [some (.ref p), some (.ref d), some (.str pr.text), some (.ref f), some (.ref x), some (.ref y), some (.ref z), none, none, none, none, none], ?_, ?_⟩
    · refine ⟨_, rfl, fun x dx nx nd hxd => ⟨x, dx, pr, rfl, upd_same, hok, fun H3 k3 px => ⟨rfl, ?_⟩⟩⟩
      have e3 := ex_made nx nd k3
      refine ⟨_, rfl, rfl, rfl, fun y dy ny nd' hyd => ⟨y, dy, pr, rfl, upd_same, hok, fun H4 k4 py => ⟨rfl, ?_⟩⟩⟩
      have e4 := e3.trans (ex_made ny nd' k4)
      have px4 := px.mono (ex_made ny nd' k4)
      refine ⟨_, rfl, f, pr2, rfl, own2.ex e4, ok2, fun H5 e5 => fun z dz nz ndz hzd => ⟨z, dz, pr2, rfl, upd_same, ok2, fun H6 k6 pz => ⟨rfl, ?_⟩⟩⟩
      have e6 := ex_made nz ndz k6
      have px6 := (px4.mono e5).mono e6
      have py6 := (py.mono e5).mono e6
      have f6 := (e4.trans e5).trans e6
      refine ⟨by show 3 ≤ sizeLine; decide, fun u hu => ?_⟩
      have x7 := Ex.new (o := .tup [V.ref x, .ref y, .ref z]) hu
      refine ⟨u, _, rfl, SqT.of upd_same, rfl, _, _, rfl, _, _, rfl, _, _, rfl, rfl, x, y, z, f6.trans x7, px6.mono x7, py6.mono x7, pz.mono x7, rfl⟩
    rintro σ H3 ⟨x, y, z, e3, px, py, pz, rfl⟩
    have k03 := k02.ex e3
    have p3 := p2.ex e3
    have owd := own12.ex e3
    have owf := own2.ex e3
    clear k02 p2 own12 own2
    refine ⟨fun σ H' => Ex H3 H' ∧ σ = [some (.ref p), some (.ref d), some (.str pr.text), some (.ref f), some (.ref x), some (.ref y), some (.ref z), none, none, none, none, none], ?_, ?_⟩
    · refine ⟨_, rfl, _, rfl, x, d, pr, rfl, px, owd, hok, fun H4 e4 => ⟨_, rfl, ?_⟩⟩
      refine ite2 (fun z => absurd z (by decide)) fun _ => ?_
      refine ⟨_, rfl, _, rfl, z, f, pr2, rfl, pz.mono e4, owf.ex e4, ok2, fun H5 e5 => ⟨_, rfl, ?_⟩⟩
      refine ite2 (fun z => absurd z (by decide)) fun _ => ?_
      exact ⟨e4.trans e5, rfl⟩
    rintro σ H4 ⟨e4, rfl⟩
    have k04 := k03.ex e4
    have p4 := p3.ex e4
    have owd4 := owd.ex e4
    have owf4 := owf.ex e4
    have px4 := px.mono e4
    have py4 := py.mono e4
    have pz4 := pz.mono e4
    clear k03 p3 owd owf px py pz e4 e3
    obtain ⟨t, Li, Ls, Lt, qi, qs, hdk, ht, hLi, hei, hLs, hes, hLt⟩ := id owd4
    have s20 := hok.s20
    have i1 := hok.i1
    have i3 := hok.i3
    have hnl : pr.names.length ≤ 23 := by unfold Prg.names; rw [List.length_append, List.length_map, List.length_map]; omega
    have hn1 : 1 ≤ pr.names.length := by unfold Prg.names; rw [List.length_append, List.length_map, List.length_map]; omega
    refine ⟨fun σ H' => ∃ Nm, Ex H4 H' ∧ H4 Nm = none ∧ H' Nm = some (.lst (sv pr.names)) ∧ σ = [some (.ref p), some (.ref d), some (.str pr.text), some (.ref f), some (.ref x), some (.ref y), some (.ref z), some (.ref Nm), none, none, none, none], ?_, ?_⟩
    · refine ⟨_, rfl, d, .ref Li, rfl, dget hdk rfl, Li, rfl, ⟨_, SqL.of hLi⟩, fun D hD => ?_⟩
      refine lc_list (K := K) (a := Li) (xs := rv qi) (fun i H' => Ex H4 H' ∧ H' D = some (.lst (sv ((pr.ins.map Inp.nm).take i)))) ⟨Ex.new hD, upd_same⟩ (fun i H' _ z => SqL.of (z.1 _ _ hLi)) ?_ ?_
      · rintro i v H7 hv ⟨e7, hD7⟩
        obtain ⟨q', x, rfl, hat, hi, et⟩ := first_lc (nm := Inp.nm) hei hv
        refine ⟨rfl, ?_⟩
        dsimp only [tYes]
        refine iteT ?_
        refine ⟨_, rfl, q', _, _, _, rfl, rfl, SqT.of (hat.ex e7), atN (m := 0) rfl, ?_⟩
        refine ⟨_, hD7, small1000 (by rw [sv_len, List.length_take, List.length_map]; omega), Ex.mut e7 hD, ?_⟩
        rw [upd_same, et, sv_app]
        rfl
      rintro H7 ⟨e7, hD7⟩
      have hD7 : H7 D = some (.lst (sv (pr.ins.map Inp.nm))) := by
        rw [hD7, List.take_of_length_le (by rw [rv_len, List.length_map, hei.1]; omega)]
      have hS7 := e7 _ _ hLs
      refine ⟨_, rfl, d, .ref Ls, rfl, dget (e7 _ _ hdk) rfl, Ls, rfl, ⟨_, SqL.of hS7⟩, fun D2 hD2 => ?_⟩
      refine lc_list (K := K) (a := Ls) (xs := rv qs) (fun i H' => Ex H7 H' ∧ H' D2 = some (.lst (sv ((pr.steps.map Stp.nm).take i)))) ⟨Ex.new hD2, upd_same⟩ (fun i H' _ z => SqL.of (z.1 _ _ hS7)) ?_ ?_
      · rintro i v H8 hv ⟨e8, hD8⟩
        obtain ⟨q', x, rfl, hat, hi, et⟩ := first_lc (nm := Stp.nm) (hes.ex (fun h e => h.ex e) e7) hv
        refine ⟨rfl, ?_⟩
        dsimp only [tYes]
        refine iteT ?_
        refine ⟨_, rfl, q', _, _, _, rfl, rfl, SqT.of (hat.ex e8).choose_spec.1, atN (m := 0) rfl, ?_⟩
        refine ⟨_, hD8, small1000 (by rw [sv_len, List.length_take, List.length_map]; omega), Ex.mut e8 hD2, ?_⟩
        rw [upd_same, et, sv_app]
        rfl
      rintro H8 ⟨e8, hD8⟩
      have hD8 : H8 D2 = some (.lst (sv (pr.steps.map Stp.nm))) := by
        rw [hD8, List.take_of_length_le (by rw [rv_len, List.length_map, hes.1]; omega)]
      refine ⟨D, D2, _, _, rfl, rfl, e8 _ _ hD7, hD8, Nat.le_trans (by rw [sv_len, sv_len, List.length_map, List.length_map]; omega : _ ≤ 100) (by decide), fun N1 hN1 => ?_⟩
      have h9 : (upd H8 N1 (.lst (sv (pr.ins.map Inp.nm) ++ sv (pr.steps.map Stp.nm)))) N1 = some (.lst (sv pr.names)) := by
        rw [upd_same, ← sv_app]; rfl
      exact ⟨N1, (e7.trans e8).trans (Ex.new hN1), fresh_back (e7.trans e8) hN1, h9, rfl⟩
    rintro σ H5 ⟨Nm, e5, hNm0, hNm, rfl⟩
    have k05 := k04.ex e5
    have p5 := p4.ex e5
    have owf5 := owf4.ex e5
    have Np : Nm ≠ p := p4.ne hNm0
    have px5 := (px4.mono e5).nl
    have py5 := (py4.mono e5).nl
    have pz5 := (pz4.mono e5).nl
    have ownB := own_rem owf5 p5 ok2 hs2
    clear k04 p4 owd4 owf4 px4 py4 pz4 hdk ht hLi hei hLs hes hLt e5 hNm0
    obtain ⟨nm0, hnm0⟩ : ∃ s, pr.names[0]? = some s := ⟨_, List.getElem?_eq_getElem (by omega)⟩
    have hnr0 : (sv pr.names)[0]? = some (.str nm0) := by unfold sv; rw [List.getElem?_map, hnm0]; rfl
    refine ⟨fun σ H' => ∃ v8, Kp p H H' ∧ OwnAt H' f pr2 ∧ ProgAt a H' x pr ∧ ProgAt a H' y pr ∧ ProgAt a H' z pr2 ∧ σ = [some (.ref p), some (.ref d), some (.str pr.text), some (.ref f), some (.ref x), some (.ref y), some (.ref z), some (.ref Nm), v8, none, none, none], ?_, ?_⟩
    · refine ⟨_, rfl, _, rfl, Nm, _, _, _, rfl, rfl, SqL.of hNm, atN (m := 0) hnr0, by show 1 ≤ sizeLine; decide, fun u hu => ?_⟩
      have x6 := Ex.new (o := .tup [V.str nm0]) hu
      have g6 : (upd H5 u (.tup [V.str nm0])) u = some (.tup [V.str nm0]) := upd_same
      have up := p5.ex x6
      have hu6 : u ≠ p := p5.ne hu
      generalize (upd H5 u (.tup [V.str nm0])) = H6 at *
      refine ⟨_, rfl, p, n + 2006, rfl, up, by omega, fun v H7 k7 p7 hv => ⟨by show 8 ≤ sizeLine; decide, fun l hl => ?_⟩⟩
      have k57 : Kp p H5 H7 := (Ex.kp x6).trans k7
      have eB := nl_kp p5 k57
      have eR : Ex (rem p H5) H7 := Ex.of_kp rem_ex rem_p k57
      have hNm7 := k57 _ _ hNm Np
      have g7 := k7 _ _ g6 hu6
      have k07 := k05.trans k57
      have x8 := Ex.new (o := .lst [V.str "q9", .str "grid", .str "", .non, .int 0, .bl true, .ref u, v]) hl
      have g8 : (upd H7 l (.lst [V.str "q9", .str "grid", .str "", .non, .int 0, .bl true, .ref u, v])) l = some (.lst [V.str "q9", .str "grid", .str "", .non, .int 0, .bl true, .ref u, v]) := upd_same
      generalize (upd H7 l (.lst [V.str "q9", .str "grid", .str "", .non, .int 0, .bl true, .ref u, v])) = H8 at *
      refine ⟨Nm, l, _, _, rfl, rfl, x8 _ _ hNm7, g8, Nat.le_trans (by rw [sv_len]; show _ + 8 ≤ 100; omega : _ ≤ 100) (by decide), fun L hL => ?_⟩
      have x9 := Ex.new (o := .lst (sv pr.names ++ [V.str "q9", .str "grid", .str "", .non, .int 0, .bl true, .ref u, v])) hL
      have g9 : (upd H8 L (.lst (sv pr.names ++ [V.str "q9", .str "grid", .str "", .non, .int 0, .bl true, .ref u, v]))) L = some (.lst (sv pr.names ++ [V.str "q9", .str "grid", .str "", .non, .int 0, .bl true, .ref u, v])) := upd_same
      have e79 := x8.trans x9
      generalize (upd H8 L (.lst (sv pr.names ++ [V.str "q9", .str "grid", .str "", .non, .int 0, .bl true, .ref u, v]))) = G at *
      have hvs : ∀ w ∈ sv pr.names ++ [V.str "q9", .str "grid", .str "", .non, .int 0, .bl true, .ref u, v], Val G w := by
        intro w hw
        rcases List.mem_append.mp hw with hw | hw
        · obtain ⟨s, _, rfl⟩ := List.mem_map.mp hw
          exact .inl (.str s)
        rcases List.mem_cons.mp hw with rfl | hw
        · exact .inl (.str _)
        rcases List.mem_cons.mp hw with rfl | hw
        · exact .inl (.str _)
        rcases List.mem_cons.mp hw with rfl | hw
        · exact .inl (.str _)
        rcases List.mem_cons.mp hw with rfl | hw
        · exact .inl .non
        rcases List.mem_cons.mp hw with rfl | hw
        · exact .inl (.int _)
        rcases List.mem_cons.mp hw with rfl | hw
        · exact .inl (.bl _)
        rcases List.mem_cons.mp hw with rfl | hw
        · exact .inr ⟨u, _, rfl, e79 _ _ g7, by show 1 ≤ 100; decide, fun y hy => by rw [List.mem_singleton.mp hy]; exact .inr (.str _)⟩
        · rw [List.mem_singleton.mp hw]; exact hv.ex e79
      have pxG := px5.mono (eB.trans e79)
      have hNmG := e79 _ _ hNm7
      obtain ⟨dx, g, I, S, Tt, N, hpo, hparts, hN⟩ := id pxG
      refine ⟨L, rfl, ⟨_, SqL.of g9⟩, for_list (K := K) (a := L) (xs := sv pr.names ++ [V.str "q9", .str "grid", .str "", .non, .int 0, .bl true, .ref u, v]) (fun i σ H' => ∃ v8, H' = G ∧ σ = [some (.ref p), some (.ref d), some (.str pr.text), some (.ref f), some (.ref x), some (.ref y), some (.ref z), some (.ref Nm), v8, none, none, none]) ⟨none, rfl, rfl⟩ (fun i σ H' _ z => by obtain ⟨_, rfl, _⟩ := z; exact SqL.of g9) ?_ ?_⟩
      · rintro i v σ H' hvi ⟨v8, rfl, rfl⟩
        have hval := hvs v (List.mem_of_getElem? hvi)
        refine ⟨_, rfl, _, rfl, x, dx, _, rfl, hpo, x, pr, v, rfl, pxG, ?_⟩
        rcases hval.isS with ⟨s, rfl⟩ | ⟨⟨ty, hty, hk⟩, hin⟩
        · refine .inl ⟨rfl, _, rfl, ?_⟩
          refine ⟨_, rfl, _, _, _, _, true, rfl, .ty _, .base (.str s), kit_ty (by decide +kernel), true, rfl, iteT ?_⟩
          refine ⟨_, rfl, _, rfl, Nm, pr.names, rfl, .inl (SqL.of hNmG), .inl ⟨rfl, ?_⟩⟩
          refine ⟨rfl, _, rfl, ite2 (fun z => absurd z (by simp [sv])) fun _ => ?_⟩
          exact ⟨_, rfl, rfl⟩
        · rcases hval.any with hf | hf
          · refine .inl ⟨hf, _, rfl, ?_⟩
            refine ⟨_, rfl, _, _, _, _, false, rfl, .ty _, hty, kit_ty hk, false, rfl, ite2 (fun z => absurd z (by decide)) fun _ => ?_⟩
            rw [hin _ hf]
            refine ⟨rfl, _, rfl, ite2 (fun z => absurd z (by simp)) fun _ => ?_⟩
            exact ⟨_, rfl, rfl⟩
          · refine .inr ⟨hf, _, rfl, ?_⟩
            refine ⟨_, rfl, _, _, _, _, false, rfl, .ty _, hty, kit_ty hk, false, rfl, ite2 (fun z => absurd z (by decide)) fun _ => ?_⟩
            refine ⟨rfl, _, rfl, ite2 (fun z => absurd z (by simp)) fun _ => ?_⟩
            exact ⟨_, rfl, rfl⟩
      · rintro σ H' ⟨v8, rfl, rfl⟩
        exact ⟨v8, k07.ex e79, ownB.ex (eR.trans e79), pxG, py5.mono (eB.trans e79), pz5.mono (eB.trans e79), rfl⟩
    rintro σ H6 ⟨v8, k06, owf6, px6, py6, pz6, rfl⟩
    obtain ⟨dx, g, I, S, Tt, N, hpo, hparts, hN⟩ := id px6
    obtain ⟨dy, g', I', S', Tt', N', hpoY, hpartsY, hNY⟩ := id py6
    obtain ⟨dz, g2, I2, S2, Tt2, N2, hpoZ, hpartsZ, hNZ⟩ := id pz6
    refine ⟨fun σ H' => ∃ c, c = decide (V.str pr2.text = V.str pr.text) ∧ Ex H6 H' ∧ σ = [some (.ref p), some (.ref d), some (.str pr.text), some (.ref f), some (.ref x), some (.ref y), some (.ref z), some (.ref Nm), v8, some (.bl c), none, none], ?_, ?_⟩
    · refine ⟨_, rfl, f, pr2, rfl, owf6, ok2, fun H7 e7 => ?_⟩
      exact ⟨_, rfl, rfl, _, rfl, e7, rfl⟩
    rintro σ H7 ⟨c, hc, e7, rfl⟩
    have hsym : decide (V.str pr.text = V.str pr2.text) = c := by
      rw [hc]
      exact decide_eq_decide.mpr ⟨Eq.symm, Eq.symm⟩
    have hself : decide (V.str pr.text = V.str pr.text) = true := decide_eq_true rfl
    refine ⟨_, rfl, _, rfl, x, dx, _, _, rfl, e7 _ _ hpo, T.q_Program.ins T.cl_Program (e7 _ _ hpoY), first_self, x, pr, .ref y, rfl, px6.mono e7, .inl ⟨y, pr, rfl, py6.mono e7, _, rfl, ?_⟩⟩
    refine ⟨_, rfl, _, rfl, x, dx, _, _, rfl, e7 _ _ hpo, T.q_Program.ins T.cl_Program (e7 _ _ hpoY), first_self, x, pr, .ref y, rfl, px6.mono e7, .inl ⟨y, pr, rfl, py6.mono e7, _, rfl, ?_⟩⟩
    refine ⟨_, rfl, _, rfl, x, dx, _, _, rfl, e7 _ _ hpo, T.q_Program.ins T.cl_Program (e7 _ _ hpoZ), first_self, x, pr, .ref z, rfl, px6.mono e7, .inl ⟨z, pr2, rfl, pz6.mono e7, _, rfl, ?_⟩⟩
    refine ⟨_, rfl, _, rfl, x, dx, _, _, rfl, e7 _ _ hpo, T.q_Program.ins T.cl_Program (e7 _ _ hpoZ), first_self, x, pr, .ref z, rfl, px6.mono e7, .inl ⟨z, pr2, rfl, pz6.mono e7, _, rfl, ?_⟩⟩
    rw [hself, hsym]
    refine ⟨by show 4 ≤ sizeLine; decide, fun u hu => ?_⟩
    have r4 : Rp (.tuple [.bool true, .bool false, .bool c, .bool (!c)]) := by cases c <;> exact ⟨rfl, rfl, by decide, (fun z => by intro e; cases e), by decide +kernel⟩
    have x8 := Ex.new (o := .tup [V.bl true, .bl false, .bl c, .bl (!c)]) hu
    refine ⟨_, .tuple [.bool true, .bool false, .bool c, .bool (!c)], rfl, .tup (SqT.of upd_same) (.cons (.bl true) (.cons (.bl false) (.cons (.bl c) (.cons (.bl (!c)) .nil)))), r4.1, r4.2.1, r4.2.2.1, r4.2.2.2.1, r4.2.2.2.2, ?_⟩
    obtain ⟨H8, h8, e8⟩ : ∃ H8, H8 = (upd H7 u (.tup [V.bl true, .bl false, .bl c, .bl (!c)])) ∧ Ex H7 H8 := ⟨_, rfl, x8⟩
    change tCB (rRepr K) _ _ (upd H7 u (.tup [V.bl true, .bl false, .bl c, .bl (!c)])) _
    rw [← h8]
    refine ⟨_, rfl, _, rfl, c, rfl, by show 4 ≤ sizeLine; decide, fun u2 hu2 => ?_⟩
    have x9 := Ex.new (o := .tup [V.bl true, .bl false, .bl c, .bl (!c)]) hu2
    refine ⟨_, .tuple [.bool true, .bool false, .bool c, .bool (!c)], rfl, .tup (SqT.of upd_same) (.cons (.bl true) (.cons (.bl false) (.cons (.bl c) (.cons (.bl (!c)) .nil)))), r4.1, r4.2.1, r4.2.2.1, r4.2.2.2.1, r4.2.2.2.2, ?_⟩
    generalize PyData.shown (.tuple [.bool true, .bool false, .bool c, .bool (!c)]) = sh
    have e9 := e7.trans (e8.trans x9)
    generalize (upd H8 u2 (.tup [V.bl true, .bl false, .bl c, .bl (!c)])) = H9 at *
    refine ⟨rfl, _, rfl, ite2 (fun z => absurd z (by simp)) fun _ => ?_⟩
    obtain ⟨qi9, qs9, hI9, hei9, hS9, hes9⟩ := hparts.ex
    refine ⟨_, rfl, _, rfl, x, _, dx, _, _, rfl, e9 _ _ hpo, T.cl_Program, T.f_Program_steps, pfl_steps, by show 4 ≤ sizeLine; decide, fun u3 hu3 => ?_⟩
    have x10 := Ex.new (o := .tup [V.str pr.text, .non, .ref S, .int 0]) hu3
    have g10 : (upd H9 u3 (.tup [V.str pr.text, .non, .ref S, .int 0])) u3 = some (.tup [V.str pr.text, .non, .ref S, .int 0]) := upd_same
    have e10 := e9.trans x10
    generalize (upd H9 u3 (.tup [V.str pr.text, .non, .ref S, .int 0])) = H10 at *
    refine ⟨u3, rfl, ⟨_, SqT.of g10⟩, fun D hD => ?_⟩
    refine lc_tup (K := K) (a := u3) (xs := [V.str pr.text, .non, .ref S, .int 0]) (fun i H' => Ex H10 H' ∧ ∃ bs : List Bool, H' D = some (.lst (bs.map V.bl)) ∧ (∀ b ∈ bs, b = false) ∧ bs.length ≤ i) ⟨Ex.new hD, [], upd_same, fun b hb => (by cases hb), Nat.le_refl _⟩ (fun i H' _ z => SqT.of (z.1 _ _ g10)) ?_ ?_
    · rintro i v H11 hv ⟨e11, bs, hb1, hb2, hb3⟩
      have hi4 : i < 4 := (List.getElem?_eq_some_iff.mp hv).1
      have f11 := e10.trans e11
      have hty : TyN K H11 v := by
        match i, hv with
        | 0, hv => cases hv; exact ⟨_, .base (.str _), by simp⟩
        | 1, hv => cases hv; exact ⟨_, .base .non, by simp⟩
        | 2, hv => cases hv; exact ⟨_, .base (.tup (f11 _ _ hS9)), by simp⟩
        | 3, hv => cases hv; exact ⟨_, .base (.int _), by simp⟩
      obtain ⟨ty, hty1, hty2⟩ := id hty
      refine ⟨rfl, ?_⟩
      dsimp only [tYes]
      refine iteT ?_
      refine ⟨_, rfl, _, rfl, x, dx, _, _, rfl, f11 _ _ hpo, hty1, T.q_Program.first hty2, x, pr, v, rfl, px6.mono f11, .inr ⟨hty, _, rfl, ?_⟩⟩
      refine ⟨_, hb1, small1000 (by rw [List.length_map]; omega), Ex.mut e11 hD, bs ++ [false], ?_, ?_, ?_⟩
      · rw [upd_same, List.map_append]; rfl
      · intro b hb
        rcases List.mem_append.mp hb with hb | hb
        · exact hb2 b hb
        · exact List.mem_singleton.mp hb
      · rw [List.length_append, List.length_singleton]; omega
    · rintro H11 ⟨e11, bs, hb1, hb2, hb3⟩
      have hany : bs.any id = false := List.any_eq_false.mpr fun b hb => by rw [hb2 b hb]; decide
      refine ⟨D, bs, rfl, SqL.of hb1, ?_⟩
      rw [hany]
      exact ⟨_, rfl, k H11 (k06.ex (e10.trans e11))⟩
theorem ok_law (T : Txt K mg a) : GOk P w K mg base 17 a.law a.law_fd ["script"] (spLaw K) := by
  refine okG T.F_law sc_law (fun vs H Q E h => ?_) (fun cdv A outer s H vs Q E hG hr h => ?_)
  · obtain ⟨q, ns, rfl, _⟩ := h
    rfl
  · obtain ⟨q, ns, rfl, hs, hl, k⟩ := h
    refine ⟨_, (pss_one (ps_ret (pe_callB (cr_all rfl) (by rfl) T.n_all (by decide +kernel) (pa_cons (pe_lc (own := [("place", 1)]) (g := gName 1) (by rfl) sc_law.nd (pi_list (pe_call (ok_l_cells T) (hr.mono (by decide)) rfl T.g_l_cells T.k_l_cells T.B_l_cells .nil pass0 (pa_cons (pv 0) (pa_cons pe_int pa_nil)))) (blkOk_by (own := [("place", 1)]) (N := N_law) (sc := defScope s_law) (by decide +kernel)) (fun _ _ _ _ _ => pg_name (i := 1) sc_law.nd rfl (Or.inl rfl)) (fun _ _ _ _ _ => pts_nil) (fun _ _ _ _ _ => (pe_callG (ok_l_right T) hG (hr.mono (by decide)) rfl T.g_l_right T.k_l_right T.B_l_right .nil (pa_cons (pe_call (ok_l_pot T) (hr.mono (by decide)) rfl T.g_l_pot T.k_l_pot T.B_l_pot .nil pass0 (pa_cons (pv 0) (pa_cons (pv 1) pa_nil))) pa_nil)))) pa_nil)))), ?_⟩
    refine ⟨_, rfl, q, ns, 3, rfl, hs, by decide, by decide, fun l c H1 e1 hc hl1 => ⟨l, rfl, ⟨_, SqL.of hl1⟩, fun D hD => lc_list (K := K) (a := l) (xs := (List.range c).map fun (i : Nat) => V.int (i : Int)) (fun j H2 => Ex H1 H2 ∧ ∃ bs : List Bool, H2 D = some (.lst (bs.map V.bl)) ∧ (∀ b ∈ bs, b = true) ∧ bs.length ≤ j)
      ⟨Ex.new hD, [], upd_same, fun b hb => (by cases hb), Nat.le_refl _⟩ (fun j H2 _ z => SqL.of (z.1 _ _ hl1)) ?_ ?_⟩⟩
    · rintro j v H2 hv ⟨e2, bs, hb1, hb2, hb3⟩
      obtain ⟨hjc, rfl⟩ : j < c ∧ v = V.int (j : Int) := by
        have h1 := (List.getElem?_eq_some_iff.mp hv).1
        rw [List.length_map, List.length_range] at h1
        rw [List.getElem?_map, List.getElem?_range h1] at hv
        exact ⟨h1, (Option.some.inj hv).symm⟩
      refine ⟨rfl, ?_⟩
      dsimp only [tYes]
      refine iteT ?_
      refine ⟨_, rfl, _, rfl, q, ns, j, rfl, ex_l (e1.trans e2) hs, by omega, fun p H3 e3 hp p3 => ⟨p, 0, rfl, p3, by decide, fun H4 k4 => ?_⟩⟩
      have e4 : Ex H2 H4 := fun b o hb => k4 b o (e3 b o hb) (ne_of_none hb hp)
      refine ⟨_, e4 _ _ hb1, small1000 (by rw [List.length_map]; omega), Ex.mut (e2.trans e4) hD, bs ++ [true], ?_, ?_, ?_⟩
      · rw [upd_same, List.map_append]; rfl
      · intro b hb
        rcases List.mem_append.mp hb with hb | hb
        · exact hb2 b hb
        · exact List.mem_singleton.mp hb
      · rw [List.length_append, List.length_singleton]; omega
    · rintro H2 ⟨e2, bs, hb1, hb2, hb3⟩
      refine ⟨D, bs, rfl, SqL.of hb1, ?_⟩
      rw [all_id bs hb2]
      exact k H2
end
end My


set_option Elab.async false
set_option maxRecDepth 100000
namespace My
open PySem L2 Evl
namespace Hd
set_option maxHeartbeats 0 in
theorem facts {P : Program} {w : World} {K : PySem.W.Frag} {h : Heap} {mg : Str → Option Value} {f : Addr} (X : K.In h) (G : h.Ns mainGlobals mg) (hfa : mg ("law" : Str) = some (.ref f)) (c : SaysM fa fn K) :
    ∃ fd : FuncData, (∀ (s : Shared) (v : Value), BindsTo s fd ⟨[v], []⟩ [("script", v)]) ∧ ∀ base : Heap, K.In base → base.Ns mainGlobals mg → GOk P w K mg base 17 f fd ["script"] (spLaw K) := by
  have c0 := c.fact 0 (f := ck fa0)
  have c1 := c.fact 1 (f := ck fa1)
  have c2 := c.fact 2 (f := ck fa2)
  have c3 := c.fact 3 (f := ck fa3)
  have c4 := c.fact 4 (f := ck fa4)
  have c5 := c.fact 5 (f := ck fa5)
  obtain ⟨fd_is_whole, F_is_whole⟩ := c.fn 0 (st := s_is_whole)
  have B_is_whole := F_is_whole.binds (ps := ["value"]) fun _ _ _ _ _ _ us hl => match us, hl with | [_], _ => rfl
  obtain ⟨fd_is_from_to, F_is_from_to⟩ := c.fn 1 (st := s_is_from_to)
  have B_is_from_to := F_is_from_to.binds (ps := ["value", "low", "high"]) fun _ _ _ _ _ _ us hl => match us, hl with | [_, _, _], _ => rfl
  obtain ⟨fd_power, F_power⟩ := c.fn 2 (st := s_power)
  have B_power := F_power.binds (ps := ["base", "exponent"]) fun _ _ _ _ _ _ us hl => match us, hl with | [_, _], _ => rfl
  obtain ⟨fd_Grid_init, F_Grid_init⟩ := c.fn 3 (st := s_Grid_init)
  have B_Grid_init := F_Grid_init.binds (ps := ["self", "base", "figures", "reach", "places"]) fun _ _ _ _ _ _ us hl => match us, hl with | [_, _, _, _, _], _ => rfl
  obtain ⟨fd_Grid_contains, F_Grid_contains⟩ := c.fn 4 (st := s_Grid_contains)
  have B_Grid_contains := F_Grid_contains.binds (ps := ["self", "value"]) fun _ _ _ _ _ _ us hl => match us, hl with | [_, _], _ => rfl
  obtain ⟨fd_is_grid, F_is_grid⟩ := c.fn 5 (st := s_is_grid)
  have B_is_grid := F_is_grid.binds (ps := ["told"]) fun _ _ _ _ _ _ us hl => match us, hl with | [_], _ => rfl
  obtain ⟨fd_spacing_at, F_spacing_at⟩ := c.fn 6 (st := s_spacing_at)
  have B_spacing_at := F_spacing_at.binds (ps := ["grid", "size", "more"]) fun _ _ _ _ _ _ us hl => match us, hl with | [_, _, _], _ => rfl
  obtain ⟨fd_read_program, F_read_program⟩ := c.fn 7 (st := s_read_program)
  have B_read_program := F_read_program.binds (ps := ["text"]) fun _ _ _ _ _ _ us hl => match us, hl with | [_], _ => rfl
  obtain ⟨fd_read_grid, F_read_grid⟩ := c.fn 8 (st := s_read_grid)
  have B_read_grid := F_read_grid.binds (ps := ["line"]) fun _ _ _ _ _ _ us hl => match us, hl with | [_], _ => rfl
  obtain ⟨fd_read_rows, F_read_rows⟩ := c.fn 9 (st := s_read_rows)
  have B_read_rows := F_read_rows.binds (ps := ["read", "lines", "grid", "names"]) fun _ _ _ _ _ _ us hl => match us, hl with | [_, _, _, _], _ => rfl
  obtain ⟨fd_read_input, F_read_input⟩ := c.fn 10 (st := s_read_input)
  have B_read_input := F_read_input.binds (ps := ["line", "grid", "names"]) fun _ _ _ _ _ _ us hl => match us, hl with | [_, _, _], _ => rfl
  obtain ⟨fd_read_step, F_read_step⟩ := c.fn 11 (st := s_read_step)
  have B_read_step := F_read_step.binds (ps := ["line", "grid", "names"]) fun _ _ _ _ _ _ us hl => match us, hl with | [_, _, _], _ => rfl
  obtain ⟨fd_read_form, F_read_form⟩ := c.fn 12 (st := s_read_form)
  have B_read_form := F_read_form.binds (ps := ["words", "grid"]) fun _ _ _ _ _ _ us hl => match us, hl with | [_, _], _ => rfl
  obtain ⟨fd_read_keeping, F_read_keeping⟩ := c.fn 13 (st := s_read_keeping)
  have B_read_keeping := F_read_keeping.binds (ps := ["words", "grid"]) fun _ _ _ _ _ _ us hl => match us, hl with | [_, _], _ => rfl
  obtain ⟨fd_read_operand, F_read_operand⟩ := c.fn 14 (st := s_read_operand)
  have B_read_operand := F_read_operand.binds (ps := ["word", "grid", "names"]) fun _ _ _ _ _ _ us hl => match us, hl with | [_, _, _], _ => rfl
  obtain ⟨fd_read_tell, F_read_tell⟩ := c.fn 15 (st := s_read_tell)
  have B_read_tell := F_read_tell.binds (ps := ["line", "names"]) fun _ _ _ _ _ _ us hl => match us, hl with | [_, _], _ => rfl
  obtain ⟨fd_read_integer, F_read_integer⟩ := c.fn 16 (st := s_read_integer)
  have B_read_integer := F_read_integer.binds (ps := ["word"]) fun _ _ _ _ _ _ us hl => match us, hl with | [_], _ => rfl
  obtain ⟨fd_is_letters, F_is_letters⟩ := c.fn 17 (st := s_is_letters)
  have B_is_letters := F_is_letters.binds (ps := ["word"]) fun _ _ _ _ _ _ us hl => match us, hl with | [_], _ => rfl
  obtain ⟨fd_is_step_name, F_is_step_name⟩ := c.fn 18 (st := s_is_step_name)
  have B_is_step_name := F_is_step_name.binds (ps := ["word"]) fun _ _ _ _ _ _ us hl => match us, hl with | [_], _ => rfl
  obtain ⟨fd_is_new, F_is_new⟩ := c.fn 19 (st := s_is_new)
  have B_is_new := F_is_new.binds (ps := ["word", "names"]) fun _ _ _ _ _ _ us hl => match us, hl with | [_, _], _ => rfl
  obtain ⟨fd_Program_init, F_Program_init⟩ := c.fn 20 (st := s_Program_init)
  have B_Program_init := F_Program_init.binds (ps := ["self", "text"]) fun _ _ _ _ _ _ us hl => match us, hl with | [_, _], _ => rfl
  obtain ⟨fd_Program_eq, F_Program_eq⟩ := c.fn 21 (st := s_Program_eq)
  have B_Program_eq := F_Program_eq.binds (ps := ["self", "other"]) fun _ _ _ _ _ _ us hl => match us, hl with | [_, _], _ => rfl
  obtain ⟨fd_Program_len, F_Program_len⟩ := c.fn 22 (st := s_Program_len)
  have B_Program_len := F_Program_len.binds (ps := ["self"]) fun _ _ _ _ _ _ us hl => match us, hl with | [_], _ => rfl
  obtain ⟨fd_Program_contains, F_Program_contains⟩ := c.fn 23 (st := s_Program_contains)
  have B_Program_contains := F_Program_contains.binds (ps := ["self", "value"]) fun _ _ _ _ _ _ us hl => match us, hl with | [_, _], _ => rfl
  obtain ⟨fd_l_pot, F_l_pot⟩ := c.fn 24 (st := s_l_pot)
  have B_l_pot := F_l_pot.binds (ps := ["script", "place"]) fun _ _ _ _ _ _ us hl => match us, hl with | [_, _], _ => rfl
  obtain ⟨fd_l_take, F_l_take⟩ := c.fn 25 (st := s_l_take)
  have B_l_take := F_l_take.binds (ps := ["pot", "upto"]) fun _ _ _ _ _ _ us hl => match us, hl with | [_, _], _ => rfl
  obtain ⟨fd_l_of, F_l_of⟩ := c.fn 26 (st := s_l_of)
  have B_l_of := F_l_of.binds (ps := ["pot", "some"]) fun _ _ _ _ _ _ us hl => match us, hl with | [_, _], _ => rfl
  obtain ⟨fd_l_cells, F_l_cells⟩ := c.fn 27 (st := s_l_cells)
  have B_l_cells := F_l_cells.binds (ps := ["script", "most"]) fun _ _ _ _ _ _ us hl => match us, hl with | [_, _], _ => rfl
  obtain ⟨fd_l_odd, F_l_odd⟩ := c.fn 28 (st := s_l_odd)
  have B_l_odd := F_l_odd.binds (ps := ["pot"]) fun _ _ _ _ _ _ us hl => match us, hl with | [_], _ => rfl
  obtain ⟨fd_l_grid_power, F_l_grid_power⟩ := c.fn 29 (st := s_l_grid_power)
  have B_l_grid_power := F_l_grid_power.binds (ps := ["base", "many"]) fun _ _ _ _ _ _ us hl => match us, hl with | [_, _], _ => rfl
  obtain ⟨fd_l_grid_text, F_l_grid_text⟩ := c.fn 30 (st := s_l_grid_text)
  have B_l_grid_text := F_l_grid_text.binds (ps := ["grid"]) fun _ _ _ _ _ _ us hl => match us, hl with | [_], _ => rfl
  obtain ⟨fd_l_grid_more, F_l_grid_more⟩ := c.fn 31 (st := s_l_grid_more)
  have B_l_grid_more := F_l_grid_more.binds (ps := ["grid", "more"]) fun _ _ _ _ _ _ us hl => match us, hl with | [_, _], _ => rfl
  obtain ⟨fd_l_grid_greatest, F_l_grid_greatest⟩ := c.fn 32 (st := s_l_grid_greatest)
  have B_l_grid_greatest := F_l_grid_greatest.binds (ps := ["grid"]) fun _ _ _ _ _ _ us hl => match us, hl with | [_], _ => rfl
  obtain ⟨fd_l_grid_spacing, F_l_grid_spacing⟩ := c.fn 33 (st := s_l_grid_spacing)
  have B_l_grid_spacing := F_l_grid_spacing.binds (ps := ["grid", "top", "bottom"]) fun _ _ _ _ _ _ us hl => match us, hl with | [_, _, _], _ => rfl
  obtain ⟨fd_l_grid_has, F_l_grid_has⟩ := c.fn 34 (st := s_l_grid_has)
  have B_l_grid_has := F_l_grid_has.binds (ps := ["grid", "number"]) fun _ _ _ _ _ _ us hl => match us, hl with | [_, _], _ => rfl
  obtain ⟨fd_l_grid_ladder, F_l_grid_ladder⟩ := c.fn 35 (st := s_l_grid_ladder)
  have B_l_grid_ladder := F_l_grid_ladder.binds (ps := ["grid"]) fun _ _ _ _ _ _ us hl => match us, hl with | [_], _ => rfl
  obtain ⟨fd_l_grid_rounded, F_l_grid_rounded⟩ := c.fn 36 (st := s_l_grid_rounded)
  have B_l_grid_rounded := F_l_grid_rounded.binds (ps := ["grid", "top", "bottom", "way", "more"]) fun _ _ _ _ _ _ us hl => match us, hl with | [_, _, _, _, _], _ => rfl
  obtain ⟨fd_l_grid_drawn, F_l_grid_drawn⟩ := c.fn 37 (st := s_l_grid_drawn)
  have B_l_grid_drawn := F_l_grid_drawn.binds (ps := ["pot"]) fun _ _ _ _ _ _ us hl => match us, hl with | [_], _ => rfl
  obtain ⟨fd_l_grid_a_number, F_l_grid_a_number⟩ := c.fn 38 (st := s_l_grid_a_number)
  have B_l_grid_a_number := F_l_grid_a_number.binds (ps := ["pot", "grid"]) fun _ _ _ _ _ _ us hl => match us, hl with | [_, _], _ => rfl
  obtain ⟨fd_l_program_line, F_l_program_line⟩ := c.fn 39 (st := s_l_program_line)
  have B_l_program_line := F_l_program_line.binds (ps := ["step"]) fun _ _ _ _ _ _ us hl => match us, hl with | [_], _ => rfl
  obtain ⟨fd_l_program_text, F_l_program_text⟩ := c.fn 40 (st := s_l_program_text)
  have B_l_program_text := F_l_program_text.binds (ps := ["own"]) fun _ _ _ _ _ _ us hl => match us, hl with | [_], _ => rfl
  obtain ⟨fd_l_program_ranges, F_l_program_ranges⟩ := c.fn 41 (st := s_l_program_ranges)
  have B_l_program_ranges := F_l_program_ranges.binds (ps := ["pot", "grid", "most"]) fun _ _ _ _ _ _ us hl => match us, hl with | [_, _, _], _ => rfl
  obtain ⟨fd_l_program_operand, F_l_program_operand⟩ := c.fn 42 (st := s_l_program_operand)
  have B_l_program_operand := F_l_program_operand.binds (ps := ["pot", "grid", "names"]) fun _ _ _ _ _ _ us hl => match us, hl with | [_, _, _], _ => rfl
  obtain ⟨fd_l_program_a_step, F_l_program_a_step⟩ := c.fn 43 (st := s_l_program_a_step)
  have B_l_program_a_step := F_l_program_a_step.binds (ps := ["pot", "grid", "name", "names"]) fun _ _ _ _ _ _ us hl => match us, hl with | [_, _, _, _], _ => rfl
  obtain ⟨fd_l_program_drawn, F_l_program_drawn⟩ := c.fn 44 (st := s_l_program_drawn)
  have B_l_program_drawn := F_l_program_drawn.binds (ps := ["pot", "most", "many"]) fun _ _ _ _ _ _ us hl => match us, hl with | [_, _, _], _ => rfl
  obtain ⟨fd_l_told, F_l_told⟩ := c.fn 45 (st := s_l_told)
  have B_l_told := F_l_told.binds (ps := ["pot", "own"]) fun _ _ _ _ _ _ us hl => match us, hl with | [_, _], _ => rfl
  obtain ⟨fd_l_is_read_right, F_l_is_read_right⟩ := c.fn 46 (st := s_l_is_read_right)
  have B_l_is_read_right := F_l_is_read_right.binds (ps := ["program", "own"]) fun _ _ _ _ _ _ us hl => match us, hl with | [_, _], _ => rfl
  obtain ⟨fd_l_other, F_l_other⟩ := c.fn 47 (st := s_l_other)
  have B_l_other := F_l_other.binds (ps := ["pot", "own"]) fun _ _ _ _ _ _ us hl => match us, hl with | [_, _], _ => rfl
  obtain ⟨fd_l_right, F_l_right⟩ := c.fn 48 (st := s_l_right)
  have B_l_right := F_l_right.binds (ps := ["pot"]) fun _ _ _ _ _ _ us hl => match us, hl with | [_], _ => rfl
  obtain ⟨fd_law, F_law⟩ := c.fn 49 (st := s_law)
  have B_law := F_law.binds (ps := ["script"]) fun _ _ _ _ _ _ us hl => match us, hl with | [_], _ => rfl
  have T : Txt K mg ⟨He.ga K "is_whole", fd_is_whole, He.ga K "is_from_to", fd_is_from_to, He.ga K "power", fd_power, He.ma K (He.ga K "Grid") "__init__", fd_Grid_init, He.ma K (He.ga K "Grid") "__contains__", fd_Grid_contains, He.ga K "is_grid", fd_is_grid, He.ga K "spacing_at", fd_spacing_at, He.ga K "read_program", fd_read_program, He.ga K "read_grid", fd_read_grid, He.ga K "read_rows", fd_read_rows, He.ga K "read_input", fd_read_input, He.ga K "read_step", fd_read_step, He.ga K "read_form", fd_read_form, He.ga K "read_keeping", fd_read_keeping, He.ga K "read_operand", fd_read_operand, He.ga K "read_tell", fd_read_tell, He.ga K "read_integer", fd_read_integer, He.ga K "is_letters", fd_is_letters, He.ga K "is_step_name", fd_is_step_name, He.ga K "is_new", fd_is_new, He.ma K (He.ga K "Program") "__init__", fd_Program_init, He.ma K (He.ga K "Program") "__eq__", fd_Program_eq, He.ma K (He.ga K "Program") "__len__", fd_Program_len, He.ma K (He.ga K "Program") "__contains__", fd_Program_contains, He.ga K "_law_pot", fd_l_pot, He.ga K "_law_take", fd_l_take, He.ga K "_law_of", fd_l_of, He.ga K "_law_cells", fd_l_cells, He.ga K "_law_odd", fd_l_odd, He.ga K "_law_grid_power", fd_l_grid_power, He.ga K "_law_grid_text", fd_l_grid_text, He.ga K "_law_grid_more", fd_l_grid_more, He.ga K "_law_grid_greatest", fd_l_grid_greatest, He.ga K "_law_grid_spacing", fd_l_grid_spacing, He.ga K "_law_grid_has", fd_l_grid_has, He.ga K "_law_grid_ladder", fd_l_grid_ladder, He.ga K "_law_grid_rounded", fd_l_grid_rounded, He.ga K "_law_grid_drawn", fd_l_grid_drawn, He.ga K "_law_grid_a_number", fd_l_grid_a_number, He.ga K "_law_program_line", fd_l_program_line, He.ga K "_law_program_text", fd_l_program_text, He.ga K "_law_program_ranges", fd_l_program_ranges, He.ga K "_law_program_operand", fd_l_program_operand, He.ga K "_law_program_a_step", fd_l_program_a_step, He.ga K "_law_program_drawn", fd_l_program_drawn, He.ga K "_law_told", fd_l_told, He.ga K "_law_is_read_right", fd_l_is_read_right, He.ga K "_law_other", fd_l_other, He.ga K "_law_right", fd_l_right, He.ga K "law", fd_law, He.ga K "Grid", He.ga K "Program", He.ga K "ROUNDED_SIGNS", He.ga K "WORDS", He.ga K "WRITTEN_WAYS"⟩ := {
    F_is_whole := F_is_whole
    B_is_whole := B_is_whole
    g_is_whole := He.glo_ok X G (ck_at c0 0 (f := fc (.glo "is_whole")))
    k_is_whole := F_is_whole.kp
    F_is_from_to := F_is_from_to
    B_is_from_to := B_is_from_to
    g_is_from_to := He.glo_ok X G (ck_at c0 1 (f := fc (.glo "is_from_to")))
    k_is_from_to := F_is_from_to.kp
    F_power := F_power
    B_power := B_power
    g_power := He.glo_ok X G (ck_at c0 2 (f := fc (.glo "power")))
    k_power := F_power.kp
    F_Grid_init := F_Grid_init
    B_Grid_init := B_Grid_init
    F_Grid_contains := F_Grid_contains
    B_Grid_contains := B_Grid_contains
    m_Grid_contains := ⟨(He.meth_ok (ck_at c0 3 (f := fc (.meth "Grid" "__contains__")))).at_, (He.meth_ok (ck_at c0 3 (f := fc (.meth "Grid" "__contains__")))).fn⟩
    F_is_grid := F_is_grid
    B_is_grid := B_is_grid
    g_is_grid := He.glo_ok X G (ck_at c0 4 (f := fc (.glo "is_grid")))
    k_is_grid := F_is_grid.kp
    F_spacing_at := F_spacing_at
    B_spacing_at := B_spacing_at
    g_spacing_at := He.glo_ok X G (ck_at c0 5 (f := fc (.glo "spacing_at")))
    k_spacing_at := F_spacing_at.kp
    F_read_program := F_read_program
    B_read_program := B_read_program
    g_read_program := He.glo_ok X G (ck_at c0 6 (f := fc (.glo "read_program")))
    k_read_program := F_read_program.kp
    F_read_grid := F_read_grid
    B_read_grid := B_read_grid
    g_read_grid := He.glo_ok X G (ck_at c0 7 (f := fc (.glo "read_grid")))
    k_read_grid := F_read_grid.kp
    F_read_rows := F_read_rows
    B_read_rows := B_read_rows
    g_read_rows := He.glo_ok X G (ck_at c0 8 (f := fc (.glo "read_rows")))
    k_read_rows := F_read_rows.kp
    F_read_input := F_read_input
    B_read_input := B_read_input
    g_read_input := He.glo_ok X G (ck_at c0 9 (f := fc (.glo "read_input")))
    k_read_input := F_read_input.kp
    F_read_step := F_read_step
    B_read_step := B_read_step
    g_read_step := He.glo_ok X G (ck_at c0 10 (f := fc (.glo "read_step")))
    k_read_step := F_read_step.kp
    F_read_form := F_read_form
    B_read_form := B_read_form
    g_read_form := He.glo_ok X G (ck_at c0 11 (f := fc (.glo "read_form")))
    k_read_form := F_read_form.kp
    F_read_keeping := F_read_keeping
    B_read_keeping := B_read_keeping
    g_read_keeping := He.glo_ok X G (ck_at c0 12 (f := fc (.glo "read_keeping")))
    k_read_keeping := F_read_keeping.kp
    F_read_operand := F_read_operand
    B_read_operand := B_read_operand
    g_read_operand := He.glo_ok X G (ck_at c0 13 (f := fc (.glo "read_operand")))
    k_read_operand := F_read_operand.kp
    F_read_tell := F_read_tell
    B_read_tell := B_read_tell
    g_read_tell := He.glo_ok X G (ck_at c0 14 (f := fc (.glo "read_tell")))
    k_read_tell := F_read_tell.kp
    F_read_integer := F_read_integer
    B_read_integer := B_read_integer
    g_read_integer := He.glo_ok X G (ck_at c0 15 (f := fc (.glo "read_integer")))
    k_read_integer := F_read_integer.kp
    F_is_letters := F_is_letters
    B_is_letters := B_is_letters
    g_is_letters := He.glo_ok X G (ck_at c0 16 (f := fc (.glo "is_letters")))
    k_is_letters := F_is_letters.kp
    F_is_step_name := F_is_step_name
    B_is_step_name := B_is_step_name
    g_is_step_name := He.glo_ok X G (ck_at c0 17 (f := fc (.glo "is_step_name")))
    k_is_step_name := F_is_step_name.kp
    F_is_new := F_is_new
    B_is_new := B_is_new
    g_is_new := He.glo_ok X G (ck_at c0 18 (f := fc (.glo "is_new")))
    k_is_new := F_is_new.kp
    F_Program_init := F_Program_init
    B_Program_init := B_Program_init
    F_Program_eq := F_Program_eq
    B_Program_eq := B_Program_eq
    m_Program_eq := ⟨(He.meth_ok (ck_at c0 19 (f := fc (.meth "Program" "__eq__")))).at_, (He.meth_ok (ck_at c0 19 (f := fc (.meth "Program" "__eq__")))).fn⟩
    F_Program_len := F_Program_len
    B_Program_len := B_Program_len
    m_Program_len := ⟨(He.meth_ok (ck_at c1 0 (f := fc (.meth "Program" "__len__")))).at_, (He.meth_ok (ck_at c1 0 (f := fc (.meth "Program" "__len__")))).fn⟩
    F_Program_contains := F_Program_contains
    B_Program_contains := B_Program_contains
    m_Program_contains := ⟨(He.meth_ok (ck_at c1 1 (f := fc (.meth "Program" "__contains__")))).at_, (He.meth_ok (ck_at c1 1 (f := fc (.meth "Program" "__contains__")))).fn⟩
    F_l_pot := F_l_pot
    B_l_pot := B_l_pot
    g_l_pot := He.glo_ok X G (ck_at c1 2 (f := fc (.glo "_law_pot")))
    k_l_pot := F_l_pot.kp
    F_l_take := F_l_take
    B_l_take := B_l_take
    g_l_take := He.glo_ok X G (ck_at c1 3 (f := fc (.glo "_law_take")))
    k_l_take := F_l_take.kp
    F_l_of := F_l_of
    B_l_of := B_l_of
    g_l_of := He.glo_ok X G (ck_at c1 4 (f := fc (.glo "_law_of")))
    k_l_of := F_l_of.kp
    F_l_cells := F_l_cells
    B_l_cells := B_l_cells
    g_l_cells := He.glo_ok X G (ck_at c1 5 (f := fc (.glo "_law_cells")))
    k_l_cells := F_l_cells.kp
    F_l_odd := F_l_odd
    B_l_odd := B_l_odd
    g_l_odd := He.glo_ok X G (ck_at c1 6 (f := fc (.glo "_law_odd")))
    k_l_odd := F_l_odd.kp
    F_l_grid_power := F_l_grid_power
    B_l_grid_power := B_l_grid_power
    g_l_grid_power := He.glo_ok X G (ck_at c1 7 (f := fc (.glo "_law_grid_power")))
    k_l_grid_power := F_l_grid_power.kp
    F_l_grid_text := F_l_grid_text
    B_l_grid_text := B_l_grid_text
    g_l_grid_text := He.glo_ok X G (ck_at c1 8 (f := fc (.glo "_law_grid_text")))
    k_l_grid_text := F_l_grid_text.kp
    F_l_grid_more := F_l_grid_more
    B_l_grid_more := B_l_grid_more
    g_l_grid_more := He.glo_ok X G (ck_at c1 9 (f := fc (.glo "_law_grid_more")))
    k_l_grid_more := F_l_grid_more.kp
    F_l_grid_greatest := F_l_grid_greatest
    B_l_grid_greatest := B_l_grid_greatest
    g_l_grid_greatest := He.glo_ok X G (ck_at c1 10 (f := fc (.glo "_law_grid_greatest")))
    k_l_grid_greatest := F_l_grid_greatest.kp
    F_l_grid_spacing := F_l_grid_spacing
    B_l_grid_spacing := B_l_grid_spacing
    g_l_grid_spacing := He.glo_ok X G (ck_at c1 11 (f := fc (.glo "_law_grid_spacing")))
    k_l_grid_spacing := F_l_grid_spacing.kp
    F_l_grid_has := F_l_grid_has
    B_l_grid_has := B_l_grid_has
    g_l_grid_has := He.glo_ok X G (ck_at c1 12 (f := fc (.glo "_law_grid_has")))
    k_l_grid_has := F_l_grid_has.kp
    F_l_grid_ladder := F_l_grid_ladder
    B_l_grid_ladder := B_l_grid_ladder
    g_l_grid_ladder := He.glo_ok X G (ck_at c1 13 (f := fc (.glo "_law_grid_ladder")))
    k_l_grid_ladder := F_l_grid_ladder.kp
    F_l_grid_rounded := F_l_grid_rounded
    B_l_grid_rounded := B_l_grid_rounded
    g_l_grid_rounded := He.glo_ok X G (ck_at c1 14 (f := fc (.glo "_law_grid_rounded")))
    k_l_grid_rounded := F_l_grid_rounded.kp
    F_l_grid_drawn := F_l_grid_drawn
    B_l_grid_drawn := B_l_grid_drawn
    g_l_grid_drawn := He.glo_ok X G (ck_at c1 15 (f := fc (.glo "_law_grid_drawn")))
    k_l_grid_drawn := F_l_grid_drawn.kp
    F_l_grid_a_number := F_l_grid_a_number
    B_l_grid_a_number := B_l_grid_a_number
    g_l_grid_a_number := He.glo_ok X G (ck_at c1 16 (f := fc (.glo "_law_grid_a_number")))
    k_l_grid_a_number := F_l_grid_a_number.kp
    F_l_program_line := F_l_program_line
    B_l_program_line := B_l_program_line
    g_l_program_line := He.glo_ok X G (ck_at c1 17 (f := fc (.glo "_law_program_line")))
    k_l_program_line := F_l_program_line.kp
    F_l_program_text := F_l_program_text
    B_l_program_text := B_l_program_text
    g_l_program_text := He.glo_ok X G (ck_at c1 18 (f := fc (.glo "_law_program_text")))
    k_l_program_text := F_l_program_text.kp
    F_l_program_ranges := F_l_program_ranges
    B_l_program_ranges := B_l_program_ranges
    g_l_program_ranges := He.glo_ok X G (ck_at c1 19 (f := fc (.glo "_law_program_ranges")))
    k_l_program_ranges := F_l_program_ranges.kp
    F_l_program_operand := F_l_program_operand
    B_l_program_operand := B_l_program_operand
    g_l_program_operand := He.glo_ok X G (ck_at c2 0 (f := fc (.glo "_law_program_operand")))
    k_l_program_operand := F_l_program_operand.kp
    F_l_program_a_step := F_l_program_a_step
    B_l_program_a_step := B_l_program_a_step
    g_l_program_a_step := He.glo_ok X G (ck_at c2 1 (f := fc (.glo "_law_program_a_step")))
    k_l_program_a_step := F_l_program_a_step.kp
    F_l_program_drawn := F_l_program_drawn
    B_l_program_drawn := B_l_program_drawn
    g_l_program_drawn := He.glo_ok X G (ck_at c2 2 (f := fc (.glo "_law_program_drawn")))
    k_l_program_drawn := F_l_program_drawn.kp
    F_l_told := F_l_told
    B_l_told := B_l_told
    g_l_told := He.glo_ok X G (ck_at c2 3 (f := fc (.glo "_law_told")))
    k_l_told := F_l_told.kp
    F_l_is_read_right := F_l_is_read_right
    B_l_is_read_right := B_l_is_read_right
    g_l_is_read_right := He.glo_ok X G (ck_at c2 4 (f := fc (.glo "_law_is_read_right")))
    k_l_is_read_right := F_l_is_read_right.kp
    F_l_other := F_l_other
    B_l_other := B_l_other
    g_l_other := He.glo_ok X G (ck_at c2 5 (f := fc (.glo "_law_other")))
    k_l_other := F_l_other.kp
    F_l_right := F_l_right
    B_l_right := B_l_right
    g_l_right := He.glo_ok X G (ck_at c2 6 (f := fc (.glo "_law_right")))
    k_l_right := F_l_right.kp
    F_law := F_law
    B_law := B_law
    g_law := He.glo_ok X G (ck_at c2 7 (f := fc (.glo "law")))
    k_law := F_law.kp
    cl_Grid := He.cls_ok (ck_at c2 8 (f := fc (.cls "Grid")))
    mk_Grid := He.mkr_ok (ck_at c2 9 (f := fc (.mkr "Grid")))
    g_Grid := He.glo_ok X G (ck_at c2 10 (f := fc (.glo "Grid")))
    f_Grid_base := He.noat_ok (ck_at c2 11 (f := fc (.noat "Grid" "base")))
    f_Grid_figures := He.noat_ok (ck_at c2 12 (f := fc (.noat "Grid" "figures")))
    f_Grid_reach := He.noat_ok (ck_at c2 13 (f := fc (.noat "Grid" "reach")))
    f_Grid_places := He.noat_ok (ck_at c2 14 (f := fc (.noat "Grid" "places")))
    f_Grid_unit := He.noat_ok (ck_at c2 15 (f := fc (.noat "Grid" "unit")))
    f_Grid_limits := He.noat_ok (ck_at c2 16 (f := fc (.noat "Grid" "limits")))
    f_Grid_tops := He.noat_ok (ck_at c2 17 (f := fc (.noat "Grid" "tops")))
    f_Grid_greatest := He.noat_ok (ck_at c2 18 (f := fc (.noat "Grid" "greatest")))
    cl_Program := He.cls_ok (ck_at c2 19 (f := fc (.cls "Program")))
    mk_Program := He.mkr_ok (ck_at c3 0 (f := fc (.mkr "Program")))
    g_Program := He.glo_ok X G (ck_at c3 1 (f := fc (.glo "Program")))
    f_Program_text := He.noat_ok (ck_at c3 2 (f := fc (.noat "Program" "text")))
    f_Program_grid := He.noat_ok (ck_at c3 3 (f := fc (.noat "Program" "grid")))
    f_Program_inputs := He.noat_ok (ck_at c3 4 (f := fc (.noat "Program" "inputs")))
    f_Program_steps := He.noat_ok (ck_at c3 5 (f := fc (.noat "Program" "steps")))
    f_Program_told := He.noat_ok (ck_at c3 6 (f := fc (.noat "Program" "told")))
    f_Program_names := He.noat_ok (ck_at c3 7 (f := fc (.noat "Program" "names")))
    c_MOST_FIGURES := He.int_ok X G (ck_at c3 8 (f := fc (.int "MOST_FIGURES" 30)))
    c_MOST_MORE := He.int_ok X G (ck_at c3 9 (f := fc (.int "MOST_MORE" 3)))
    c_MOST_INPUTS := He.int_ok X G (ck_at c3 10 (f := fc (.int "MOST_INPUTS" 3)))
    c_MOST_STEPS := He.int_ok X G (ck_at c3 11 (f := fc (.int "MOST_STEPS" 20)))
    c_MOST_TOLD := He.int_ok X G (ck_at c3 12 (f := fc (.int "MOST_TOLD" 4)))
    c_LONGEST_INTEGER := He.int_ok X G (ck_at c3 13 (f := fc (.int "LONGEST_INTEGER" 4000)))
    g_ROUNDED_SIGNS := He.glo_ok X G (ck_at c3 14 (f := fc (.glo "ROUNDED_SIGNS")))
    t_ROUNDED_SIGNS := tp_ok (ck_at c3 15 (f := tp "ROUNDED_SIGNS" ["+", "-", "*", "/"]))
    g_WORDS := He.glo_ok X G (ck_at c3 16 (f := fc (.glo "WORDS")))
    t_WORDS := tp_ok (ck_at c3 17 (f := tp "WORDS" ["grid", "input", "tell", "least", "most", "choose", "keep", "way"]))
    g_WRITTEN_WAYS := He.glo_ok X G (ck_at c3 18 (f := fc (.glo "WRITTEN_WAYS")))
    t_WRITTEN_WAYS := tp_ok (ck_at c3 19 (f := tp "WRITTEN_WAYS" ["down", "up", "zero"]))
    n_isinstance := He.free_ok X G (ck_at c4 0 (f := fc (.free "isinstance")))
    n_int := He.free_ok X G (ck_at c4 1 (f := fc (.free "int")))
    n_bool := He.free_ok X G (ck_at c4 2 (f := fc (.free "bool")))
    n_range := He.free_ok X G (ck_at c4 3 (f := fc (.free "range")))
    n_tuple := He.free_ok X G (ck_at c4 4 (f := fc (.free "tuple")))
    n_list := He.free_ok X G (ck_at c4 5 (f := fc (.free "list")))
    n_abs := He.free_ok X G (ck_at c4 6 (f := fc (.free "abs")))
    n_sum := He.free_ok X G (ck_at c4 7 (f := fc (.free "sum")))
    n_len := He.free_ok X G (ck_at c4 8 (f := fc (.free "len")))
    n_all := He.free_ok X G (ck_at c4 9 (f := fc (.free "all")))
    n_max := He.free_ok X G (ck_at c4 10 (f := fc (.free "max")))
    n_min := He.free_ok X G (ck_at c4 11 (f := fc (.free "min")))
    n_repr := He.free_ok X G (ck_at c4 12 (f := fc (.free "repr")))
    n_str := He.free_ok X G (ck_at c4 13 (f := fc (.free "str")))
    n_zip := He.free_ok X G (ck_at c4 14 (f := fc (.free "zip")))
    n_dict := He.free_ok X G (ck_at c4 15 (f := fc (.free "dict")))
    n_sorted := He.free_ok X G (ck_at c4 16 (f := fc (.free "sorted")))
    n_set := He.free_ok X G (ck_at c4 17 (f := fc (.free "set")))
    n_enumerate := He.free_ok X G (ck_at c4 18 (f := fc (.free "enumerate")))
    n_any := He.free_ok X G (ck_at c4 19 (f := fc (.free "any")))
    q_Program := eqB_ok (ck_at c5 0 (f := fun K => eqB K (He.ga K "Program"))) }
  have e := hfa.symm.trans T.g_law
  cases e
  exact ⟨fd_law, fun s v => bindsAll (ps := ["script"]) F_law (fun _ _ _ _ _ _ us hl => match us, hl with | [_], _ => rfl) s [v] rfl, fun base _ _ => ok_law T⟩
end Hd
end My
open PySem PySem.W PySem.Calls PyProof.Rows
set_option maxHeartbeats 0 in
theorem PySem.Challenge.cw_roundedsteps_k08_whole_programs_and_thei_holds : PySem.Challenge.rw_roundedsteps_k08_whole_programs_and_thei.Holds := by
  refine My.Hd.all (My.Hd.hd ?_)
  refine My.walk_ofGE (l := PySem.Challenge.rw_roundedsteps_k08_whole_programs_and_thei) (n := 63) (k := 17) (x := "script") rfl (by decide) (by kernel_rfl) ⟨rfl, by decide, by decide⟩ ?F
  intro w mg fa h Y G hmg0
  obtain ⟨K, KX, c⟩ := Y
  have hmg : mg ("law" : PySem.Str) = some (.ref fa) := by
    have e : (HandSHeadRun.topDef (OpenLaw.row PySem.Challenge.rw_roundedsteps_k08_whole_programs_and_thei).prog 69).name = ("law" : PySem.Str) := by kernel_rfl
    rw [← e]
    exact hmg0
  obtain ⟨fd, hb, hF⟩ := My.Hd.facts (P := PySem.Challenge.rw_roundedsteps_k08_whole_programs_and_thei.prog) (w := w) KX G hmg c
  exact ⟨K, fd, My.spLaw K, KX, hb, fun H a ns hl hS => ⟨a, ns, rfl, hS, hl, fun _ => rfl⟩, hF⟩
#print axioms PySem.Challenge.cw_roundedsteps_k08_whole_programs_and_thei_holds


