import PyProof.Rows.All
import Wide.All
import OpenK.AllK
import Wide.FinOn
import HandS.ForMost
import HandS.Wide
import HandS.IsInst
import HandS.TupLe
import HandS.Evl
import HandS.Conv
import HandS.Style
import HandS.RaiseMore
import HandS.TupAny
import HandS.SortInts
import HandS.Gcd
import HandS.TryOnly
import HandS.Zip
import HandS.Text
import PySem.Challenge.RW_roundedsteps_k69_whole_far_laps_of_sums
set_option Elab.async false
set_option maxRecDepth 100000
set_option exponentiation.threshold 6000
set_option Elab.async false
set_option maxRecDepth 100000
namespace My
open PySem L2 PyProof.Rows
/-! ### rules of my own -/
section
variable {prog : Program} {w : World} {A : Around} {E : Value → Shared → Prop} {s : Shared} {l : Addr} {its : List Value} {ns : List Int} {xs : Array (Int × Tok)} {Q : Value → Shared → Prop}
theorem sum_intTupG (hh : A.handled = none) (hl : s.heap.IsTuple l (intItems xs))
    (h : ∀ h' tk t', (∀ b o, s.heap.get? b = some o → h'.get? b = some o) → Q (.int (preSum (numAt xs) xs.size) t') { s with heap := h', toks := tk }) :
    wpAny (model prog w) A (call (.builtin "sum") [.ref l]) Q E s := by
  have hlt : l < s.heap.objs.size := by
    obtain ⟨o, e, _⟩ := hl
    exact Heap.lt_size e
  refine call_sum_walkG (wpAny_pyIter_tuple hl ?_)
  refine ⟨_, [s.heap.objs.size, l], [s.heap.objs.size], _, _, _, numAt xs, rfl, Walks.tuple (A := A.in1) hh _ l (Nat.ne_of_lt hlt) (intItems xs), ⟨⟨_, Heap.get?_push_size _ rfl, rfl, rfl⟩, hl.push _⟩, fun c hc => ?_, (fun _ _ => intItems_at), fun h' tk t' hk => ?_⟩
  · show c < (s.heap.push _).objs.size
    rw [Heap.size_push]
    rcases List.mem_cons.mp hc with rfl | hc
    · exact Nat.lt_succ_self _
    · rcases List.mem_cons.mp hc with rfl | hc
      · exact Nat.lt_succ_of_lt hlt
      · cases hc
  · have hold : ∀ c o, s.heap.get? c = some o → h'.get? c = some o := fun c o e => by
      refine hk c o (fun hm => ?_) (Heap.get?_push_of_some _ e)
      rcases List.mem_cons.mp hm with e1 | hm
      · have := Heap.lt_size e; rw [e1] at this; exact Nat.lt_irrefl _ this
      · cases hm
    have := h h' tk t' hold
    simpa [intItems] using this
theorem sum_rawT (hh : A.handled = none) (hl : s.heap.IsTuple l its.toArray) (hi : IntsAre its ns)
    (h : ∀ h' tk t', (∀ b o, s.heap.get? b = some o → h'.get? b = some o) → Q (.int ns.sum t') { s with heap := h', toks := tk }) : wpAny (model prog w) A (call (.builtin "sum") [.ref l]) Q E s := by
  obtain ⟨xs, e⟩ := hi.allInts.items
  have hn : numsOf (intItems xs).toList = ns := by rw [← e]; exact hi.numsOf
  rw [nums_intItems] at hn
  rw [e] at hl
  refine sum_intTupG hh hl fun h' tk t' hk => ?_
  have := h h' tk t' hk
  rw [preSum_eq, List.take_of_length_le (by simp), hn]; exact this
end
section
variable {X : Cx}
def rSumT (K : PySem.W.Frag) : List V → Hp → VK → Prop := fun vs H Q => ∃ (a : Addr) (ns : List Int), vs = [V.ref a] ∧ SqT K H a (ns.map V.int) ∧ Q (.int ns.sum) H
theorem cr_sumT (hc : X.calm = true) : CallR X (.builtin "sum") (rSumT X.K) := by
  intro pins s σ H vs us Q I r h
  obtain ⟨a, ns, rfl, hs, q⟩ := h
  obtain ⟨its, rv, hl, _⟩ := I.tuple hs
  rw [Vals.ref1 r]
  exact sum_rawT (I.ok.hd hc) hl rv.ints fun h' tk t' hk => ⟨.int _, H, I.kept hk, ⟨_, rfl⟩, q⟩
def CPowK (i j : Int) : Prop := 0 ≤ j ∧ (Builtin.Int.intBits i : Int) * j ≤ 2 ^ 27
theorem op_powK : OpR X (binaryOp .Pow) (rI CPowK fun i j => .int (i ^ j.toNat)) := opI fun _ _ _ _ _ _ _ hc q => pow_int hc.1 hc.2 q

/-- x in o, o an instance of a class with its own __contains__ that hands back a bool -/
theorem contains_own {CX : CXT} {C f : Addr} {k : Nat} {fd : FuncData} {ps : List Str} {sp : Sp} {E : XK} (F : FnOk X.prog X.w X.K X.mg X.base CX k f fd ps sp) (hr : Room k X.A)
    (hs : PySem.W.findIn X.K (.ref C) "__contains__" = some (some (.ref f))) (hf : PySem.W.isFn X.K (.ref f) = true) (hb : L2.Binds X.K fd ps []) (hx : Passes CX X E)
    {pins : List (Addr × Obj)} {σ : L2.St} {H : Hp} {s : Shared} {a dx : Addr} {fs : List (Str × V)} {x : V} {u : Value} {Q : VK} {g : Bool → Bool} (I : Inv X pins σ H s) (rx : L2.RelV x u) (ha : H a = some (.ins C dx fs))
    (h : sp [.ref a, x] H (fun v H' => ∃ b, v = .bl b ∧ Q (.bl (g b)) H') E) :
    wpAny (model X.prog X.w) X.A (contains (.ref a) u) (fun b s' => EP X pins σ Q (.bool (g b)) s') X.xe s := by
  obtain ⟨mA, J, _⟩ := ins_get I.hok ha
  obtain ⟨od, J, _⟩ := J.look
  unfold contains
  refine wpAny_holding ?_
  rw [stdlibNamesSay?_ref]
  refine wpAny_bind (wpAny_bind (J.type.here ((PySem.W.looks_findIn I.kIn hs).here ?_)))
  show wpAny _ _ (if (some (Value.ref f) == some Value.none) = true then _ else _) _ _ _
  rw [if_neg (by simp)]
  refine wpAny_bind (m := callSpecialUnlessNone? (.ref a) (Str.ofString "__contains__") _ _) ?_
  unfold callSpecialUnlessNone?
  refine wpAny_bind (wpAny_bind (J.type.here ((PySem.W.looks_findIn I.kIn hs).here (wpAny_holding (wpAny_bind ((PySem.W.bind_fn I.kIn _ (beq_iff_eq.mp hf)).here ?_))))))
  show wpAny _ _ (if (Value.ref f == Value.none) = true then _ else _) _ _ _
  rw [if_neg (by simp)]
  have hsp := run_fn (us := [.ref a, u]) (vs := [.ref a, x]) F hr hb .nil hx I (.cons rfl (.cons rx .nil)) h
  refine wpAny_bind (wpAny_mono hsp (fun v s' hv => ?_) fun _ _ z => z)
  obtain ⟨y, H', I', ry, b, ey, q⟩ := hv
  subst ey
  cases ry
  exact wpAny_pure (wpAny_truthy_bool ⟨.bl (g b), H', I', rfl, q⟩)
def rInOwn (sp : Sp) (E : XK) (C : Addr) (neg : Bool) : R2 := fun x y H Q => ∃ a dx fs, y = .ref a ∧ H a = some (.ins C dx fs) ∧ sp [.ref a, x] H (fun v H' => ∃ b, v = .bl b ∧ Q (.bl (if neg then !b else b)) H') E
theorem op_inOwn {CX : CXT} {C f : Addr} {k : Nat} {fd : FuncData} {ps : List Str} {sp : Sp} {E : XK} (F : FnOk X.prog X.w X.K X.mg X.base CX k f fd ps sp) (hr : Room k X.A) (_c : Cls X.K C)
    (hm : PySem.W.findIn X.K (.ref C) "__contains__" = some (some (.ref f)) ∧ PySem.W.isFn X.K (.ref f) = true) (hb : L2.Binds X.K fd ps []) (hx : Passes CX X E) : OpR X (compareOp .In) (rInOwn sp E C false) := by
  intro pins s σ H x y u v Q I rx ry h
  obtain ⟨a, dx, fs, rfl, ha, q⟩ := h
  cases ry
  exact wpAny_bind (wpAny_mono (contains_own (g := fun b => b) F hr hm.1 hm.2 hb hx I rx ha q) (fun b s' hq => wpAny_pure hq) fun _ _ z => z)
theorem op_ninOwn {CX : CXT} {C f : Addr} {k : Nat} {fd : FuncData} {ps : List Str} {sp : Sp} {E : XK} (F : FnOk X.prog X.w X.K X.mg X.base CX k f fd ps sp) (hr : Room k X.A) (_c : Cls X.K C)
    (hm : PySem.W.findIn X.K (.ref C) "__contains__" = some (some (.ref f)) ∧ PySem.W.isFn X.K (.ref f) = true) (hb : L2.Binds X.K fd ps []) (hx : Passes CX X E) : OpR X (compareOp .NotIn) (rInOwn sp E C true) := by
  intro pins s σ H x y u v Q I rx ry h
  obtain ⟨a, dx, fs, rfl, ha, q⟩ := h
  cases ry
  exact wpAny_bind (wpAny_mono (contains_own (g := fun b => !b) F hr hm.1 hm.2 hb hx I rx ha q) (fun b s' hq => wpAny_pure hq) fun _ _ z => z)
end
end My

set_option Elab.async false
set_option maxRecDepth 100000
namespace My
open PySem L2 PyProof.Rows
/-! ### promises kept where no guard is around (repr of containers asks that) -/
section
variable {P : Program} {w : World} {K : PySem.W.Frag} {mg : Str → Option Value} {base : Heap}
structure GOk (P : Program) (w : World) (K : PySem.W.Frag) (mg : Str → Option Value) (base : Heap)
    (k : Nat) (f : Addr) (fd : FuncData) (ps : List Str) (sp : Sp) : Prop where
  len : ∀ vs H Q E, sp vs H Q E → vs.length = ps.length
  run : ∀ (A : Around) (out : List Env) (s : Shared) (H : Hp) (args : Args) (us : List Value)
    (vs : List V) (Q : VK) (E : XK), A.guards = some [] → Room k A →
    Env0 P w K mg base A out s H → BindsTo s fd args (ps.zip us) → Vals vs us → sp vs H Q E →
    codeAny (model P w) A (.call (.ref f) args) (CR CX0 out P w H s Q E) s
theorem FnOk.g {k : Nat} {f : Addr} {fd : FuncData} {ps : List Str} {sp : Sp}
    (F : FnOk P w K mg base CX0 k f fd ps sp) : GOk P w K mg base k f fd ps sp :=
  ⟨F.len, fun A out s H args us vs Q E _ => F.run A out s H args us vs Q E⟩
theorem GOk.mono {j k : Nat} {f : Addr} {fd : FuncData} {ps : List Str} {sp : Sp}
    (F : GOk P w K mg base j f fd ps sp) (h : j ≤ k) : GOk P w K mg base k f fd ps sp :=
  ⟨F.len, fun A out s H args us vs Q E g r => F.run A out s H args us vs Q E g (r.mono h)⟩
/-- a def by its body, the guards known -/
theorem okG {x qual : Str} {st : Stmt} {f : Addr} {fd : FuncData} {N ps : List Str} {k : Nat} {sp : Sp}
    (F : Fun K x qual st f fd) (S : FnScope N ps (defScope st)) (len : ∀ vs H Q E, sp vs H Q E → vs.length = ps.length)
    (body : ∀ (cdv : Value) (A : Around) (out : List Env) (s : Shared) (H : Hp) (vs : List V) (Q : VK) (E : XK),
      (A.deeper (envOfC qual (defScope st) s.heap.objs.size f cdv)).guards = some [] →
      Room k (A.deeper (envOfC qual (defScope st) s.heap.objs.size f cdv)) → sp vs H Q E →
      ∃ t, PSs (cxOf CX0 P w K mg base N qual (defScope st) f cdv A out s H E).nox (defBody st) t ∧
        t { nx := fun _ H' => Q .non H', rt := Q } (start N vs) H) :
    GOk P w K mg base (k + 1) f fd ps sp := by
  obtain ⟨oc, od, kV, doc, pm, an, cdv, ct, osl, rfl, lk, hcd⟩ := F.ex
  constructor
  · exact len
  intro A out s H args us vs Q E hG room e0 hb rv hsp
  have n1 := len _ _ _ _ hsp
  have inS : K.In s.heap := e0.mod.kin.keeps fun b o h => (e0.bs b o h).1
  have nolim : s.heap.NoLimit := e0.mod.nolimit.keeps fun b o h => (e0.bs b o h).1
  refine codeAny_call_function room.depth (inS _ _ lk) rfl S.co S.gen rfl (PySem.W.codeRec_of inS hcd) (hb _ _ _ _ ?_)
  refine wpAny_newFunctionEnv_cells S.kind ?_ fun env he s1 ic => ?_
  · rintro ⟨y, v⟩ hy
    cases S.par y (List.of_mem_zip hy).1 with
    | inl h => exact .inl h
    | inr h => exact .inr ⟨h, PySem.W.cellsFrom_some _ _ _ (.inl h)⟩
  cases he
  refine ⟨nolim.keeps ic.toInCall.keep, codeAny_func ?_⟩
  have hG2 : (A.deeper (envOfC qual (defScope st) s.heap.objs.size f cdv)).guards = some [] := hG
  obtain ⟨t, ht, hq⟩ := body cdv A out s H vs Q E hG2 (room.deeper _) hsp
  have I0 := inv_start (CX := CX0) (E := E) (qual := qual) (f := f) (cd := cdv) S room.hd e0 n1 rv ic
  refine wpAny_mono (ht.nox.run [] s1 (start N vs) H _ I0 hq) (fun fl s' hs => ?_) fun _ _ z => z
  cases fl with
  | ret u =>
    obtain ⟨v, σ', H', J, rv', q⟩ := hs
    exact ⟨v, H', J.os, J.bare, J.base, J.hok, rv', q⟩
  | next =>
    obtain ⟨σ', H', J, q⟩ := hs
    exact ⟨V.non, H', J.os, J.bare, J.base, J.hok, rfl, q⟩
  | brk =>
    obtain ⟨_, _, _, q⟩ := hs
    exact q.elim
  | cont =>
    obtain ⟨_, _, _, q⟩ := hs
    exact q.elim
end
section
variable {X : Cx} {k : Nat} {f : Addr} {fd : FuncData} {ps : List Str} {sp : Sp} {dvs : List V} {ds : List Value} {x : Str} {p pos : Pos} {e : Expr} {es : List Expr} {t : TA}
/-- f(..), f's promise wanting that no guard is around -/
theorem pe_callG (F : GOk X.prog X.w X.K X.mg X.base k f fd ps sp) (hG : X.A.guards = some []) (hr : Room k X.A)
    (hg : Gl X x) (hm : X.mg x = some (.ref f)) (hk : PySem.W.keepIn X.K (.ref f) = true)
    (hb : L2.Binds X.K fd ps ds) (hd : Vals dvs ds) (ha : PA X (e :: es) t)
    (hdb : (x == ("__debug__" : Str)) = false := by decide)
    (he : starEach (e :: es) X.env = (false, eval e X.env) :: starEach es X.env := by rfl)
    (hpl : (backTo pos (starEach es X.env)).any (·.1) = false := by rfl) :
    PE X (.Call (.Name x p) (e :: es) [] pos) (tCall sp dvs E0 t) := by
  constructor
  intro pins s σ H Q I h
  refine wpAny_Call_Name_kw (ld_glob I hg hm ?_ hdb)
  refine PySem.W.callWith_K (h₀ := X.base) I.ok.mod.kin hk ?_ he hpl
  refine thn (ha.run pos pins s σ H _ I h) ?_
  rintro us s1 ⟨vs, H1, I1, r, q⟩
  refine ⟨I1.kIn, ?_⟩
  have r2 : Vals (vs ++ dvs) (us ++ ds) := r.append hd
  have hl : (us ++ ds).length = ps.length := by rw [← r2.length]; exact F.len _ _ _ _ q
  refine wpAny_call (codeAny_mono (F.run X.A X.stack s1 H1 ⟨us, []⟩ _ _ Q E0 hG hr I1.env0 (hb s1 us I1.kIn hl) r2 q) ?_)
  intro r s' hq
  cases r with
  | error _ => exact (hq : False).elim
  | ok fl => cases fl <;> first | exact I1.after hq | exact (hq : False).elim
/-- repr of data -/
def rRepr (K : PySem.W.Frag) : List V → Hp → VK → Prop := fun vs H Q => ∃ x d, vs = [x] ∧ Dp K H x d ∧ d.showable = true ∧ d.hasDict = false ∧ d.depth ≤ 60 ∧ (∀ z, d ≠ .str z) ∧ d.shown.length ≤ sizeLine ∧ Q (.str d.shown) H
theorem cr_repr (hG : X.A.guards = some []) (hu : X.A.units + 64 < cLine) : CallR X (.builtin "repr") (rRepr X.K) := by
  intro pins s σ H vs us Q I r h
  obtain ⟨x, d, rfl, hd, hs, hn, hdep, hnz, hz, q⟩ := h
  cases r with
  | cons rx rt =>
    cases rt
    rename_i u
    obtain ⟨as, rd⟩ := Dp.reads I d x u hd rx
    cases hd with
    | int i =>
      obtain ⟨t, rfl⟩ := rx
      exact PySem.P.repr_of_int (of_decide_eq_true hs) ⟨.str _, H, I.tok _, ⟨_, rfl⟩, q⟩
    | lst h1 h2 =>
      cases rx
      exact repr_of_reads' rd hs (PyData.noDict_hsm hn) hG (by omega) (fun _ _ z => z) (fun h' t tk hk => ⟨.str _, H, I.kept hk, ⟨_, rfl⟩, q⟩) hz
    | tup h1 h2 =>
      cases rx
      exact repr_of_reads' rd hs (PyData.noDict_hsm hn) hG (by omega) (fun _ _ z => z) (fun h' t tk hk => ⟨.str _, H, I.kept hk, ⟨_, rfl⟩, q⟩) hz
    | non =>
      cases rx
      exact PySem.P.repr_of_none ⟨.str _, H, I.tok _, ⟨_, rfl⟩, q⟩
    | bl b =>
      cases rx
      exact PySem.P.repr_of_bool ⟨.str _, H, I.tok _, ⟨_, rfl⟩, q⟩
    | str z => exact absurd rfl (hnz z)
end
/-! ### the end of a law's row over such a promise -/
section
variable {P : Program} {w : World} {K : PySem.W.Frag} {mg mb : Str → Option Value} {k : Nat} {fa a : Addr}
  {fd : FuncData} {x : Str} {sp : Sp} {s₁ : Shared} {vs : List Value} {ns : List Int}
theorem law_at (KX : K.In s₁.heap) (hns : s₁.heap.Ns mainGlobals mg) (hb : s₁.heap.Ns builtinsNs mb)
    (hbb : ∀ x : Str, x ≠ "__name__" → mb x = bootBuiltins x) (hlim : s₁.heap.NoLimit) (hg : s₁.gens = #[])
    (ha : s₁.heap.get? a = some { cls := .type "list", data := .seq vs.toArray })
    (hl : ns.length ≤ sizeLine) (hr : Room k callerA) (rv : Vals (ns.map V.int) vs)
    (F : ∀ base : Heap, K.In base → base.Ns mainGlobals mg → GOk P w K mg base k fa fd [x] sp)
    (hbind : ∀ (s : Shared) (u : Value), BindsTo s fd ⟨[u], []⟩ [(x, u)])
    (H : Hp) (hS : SqL K H a (ns.map V.int)) (hok : HOk P w H s₁.heap) (hA : ∀ b, H b ≠ none → b = a)
    (hK : H a ≠ none → K.lookup a = none) (hz : ∀ b, H b = none ∨ ∃ o xs, H b = some (.frz o (.lst xs)))
    (hsp : sp [.ref a] H (fun v _ => v = .bl true) E0) :
    codeAny (model P w) callerA (.call (.ref fa) ⟨[.ref a], []⟩)
      (fun r s' => r = .ok (.ret (.bool true)) ∧ PySem.OldK s₁.heap s'.heap ∧ s'.os = s₁.os ∧ AllBare s'.gens) s₁ := by
  have free : ∀ {b : Addr} {o : Obj}, b ≠ a → s₁.heap.get? b = some o → (hidT s₁.heap H).get? b = some o := by
    intro b o hne hget
    refine hidT_get hget ?_
    by_cases q : H b = none
    · exact q
    · exact absurd (hA b q) hne
  have dicts : ∀ {b : Addr} {m : Str → Option Value}, s₁.heap.Ns b m → (hidT s₁.heap H).Ns b m := by
    rintro b m ⟨o, es, ep, hget, hd, hm⟩
    refine ⟨o, es, ep, free ?_ hget, hd, hm⟩
    rintro rfl
    rw [ha] at hget
    cases hget
    cases hd
  have kin : K.In (hidT s₁.heap H) := by
    intro b o hlk
    have hget := KX b o hlk
    by_cases q : H b = none
    · exact hidT_get hget q
    · have hba := hA b q
      subst hba
      rw [hK q] at hlk
      cases hlk
  have md : Mod K mg (hidT s₁.heap H) := by
    obtain ⟨mc, h1, h2⟩ := hlim
    exact ⟨kin, dicts hns, ⟨mb, dicts hb, hbb⟩, mc, dicts h1, h2⟩
  have e0 : Env0 P w K mg (hidT s₁.heap H) callerA [] s₁ H :=
    ⟨rfl, md, fun b o => of_hidT, Nat.le_of_eq (hidT_size _ _), trivial, nofun, hok, .of_eq hg⟩
  have gk := F _ kin (dicts hns)
  refine codeAny_mono (gk.run callerA [] s₁ H ⟨[.ref a], []⟩ [.ref a] [.ref a] _ E0 rfl hr e0 (hbind s₁ _) (.cons rfl .nil) hsp) ?_
  rintro (err | fl) s' h
  · exact (h : False).elim
  cases fl with
  | next => exact (h : False).elim
  | brk => exact (h : False).elim
  | cont => exact (h : False).elim
  | ret u =>
    obtain ⟨v, H', ho, hbare, un, hok', hu, hv⟩ := h
    have hv : v = .bl true := hv
    cases hv
    cases hu
    refine ⟨rfl, PySem.OldK.of_keep ?_, ho, hbare⟩
    intro b o hget
    rcases hz b with q | ⟨ob, xs, q⟩
    · exact un.keep b o hget q (fun z => nomatch z) (by simp)
    · obtain ⟨w1, _⟩ := hok b _ q
      obtain ⟨w2, _⟩ := hok' b _ (un.frzs b ob _ q)
      rw [hget] at w1
      cases w1
      exact w2
end
theorem walk_ofG {l : PySem.W.OpenLaw} {n k : Nat} {q : Program} {loose : List Str} {XP : (Str → Option Value) → Heap → Prop}
    {YP : World → Heap → Prop} {d : DefRec} {K : Params → PySem.W.Frag} {sp : World → Sp} {x : Str}
    (hn : l.most = some n) (hn2 : n ≤ sizeLine) (hdf : d.params.defaults = []) (hr : Room k callerA)
    (hY : ∀ (w : World) (h : Heap), YP w h → (K w.params).In h)
    (F : ∀ (w : World) (mg : Str → Option Value) (fa : Addr) (h : Heap), (K w.params).In h → h.Ns mainGlobals mg →
      mg d.name = some (.ref fa) → ∃ fd : FuncData, (∀ (s : Shared) (u : Value), BindsTo s fd ⟨[u], []⟩ [(x, u)]) ∧
        ∀ base : Heap, (K w.params).In base → base.Ns mainGlobals mg → GOk l.prog w (K w.params) mg base k fa fd [x] (sp w))
    (hsp : ∀ (w : World) (H : Hp) (a : Addr) (ns : List Int), ns.length ≤ n → SqL (K w.params) H a (ns.map V.int) →
      sp w [.ref a] H (fun v _ => v = .bl true) E0) :
    PySem.W.WalkO q loose XP YP l.row.toRowW d [] (fun f vs => PySem.call f vs) := by
  refine Att.attach_call hn hdf ?_
  intro w s₀ s₁ mg mb fa o pm cd doc a vs ns G Y ho hd hcd hmg hobj hints hlen hg
  have KX := hY w _ Y
  obtain ⟨fd, hb, hF⟩ := F w mg fa _ KX G.T.g hmg
  have rv := vals_ints hints
  have go := fun (H : Hp) hS hok hA hK hz => law_at (H := H) KX G.T.g G.T.b G.T.builtins G.T.nolimit hg hobj
    (Nat.le_trans hlen hn2) hr rv hF hb hS hok hA hK hz (hsp w H a ns hlen hS)
  have sz : vs.toArray.size ≤ sizeLine := by rw [List.size_toArray, hints.length]; exact Nat.le_trans hlen hn2
  cases hk : (K w.params).lookup a with
  | some ob =>
    have hob := KX a ob hk
    rw [hobj] at hob
    cases hob
    refine go (fun _ => none) (.inr ⟨_, vs.toArray, _, hk, rfl, rfl, rfl, sz, by simpa using rv⟩) (fun b u z => nomatch z) (fun b z => absurd rfl z) (fun z => absurd rfl z) (fun b => .inl rfl)
  | none =>
    refine go (fun b => if b = a then some (.frz { cls := .type "list", data := .seq vs.toArray } (.lst (ns.map V.int))) else none) (.inl (.inr ⟨_, if_pos rfl⟩)) ?_ ?_ (fun _ => hk) ?_
    · intro b u hbu
      by_cases e : b = a
      · subst e
        have hbu := (if_pos rfl).symm.trans hbu
        cases hbu
        exact ⟨hobj, by rw [List.length_map]; exact Nat.le_trans hlen hn2, vs, _, rv, hobj⟩
      · have hbu := (if_neg e).symm.trans hbu
        cases hbu
    · intro b hne
      by_cases e : b = a
      · exact e
      · exact absurd (if_neg e) hne
    · intro b
      by_cases e : b = a
      · exact .inr ⟨_, _, if_pos e⟩
      · exact .inl (if_neg e)
end My

set_option Elab.async false
set_option maxRecDepth 100000
namespace My
open PySem L2 PyProof.Rows
theorem len_app (x y : Str) : (x ++ y).length = x.length + y.length := by
  first | exact Str.length_append x y | simp
theorem piled_le {M : Nat} : ∀ ts : List Str, (∀ t ∈ ts, t.length ≤ M) → piled ts ≤ (M + 2) * ts.length
  | [], _ => by simp [piled]
  | t :: ts, h => by
    have h1 := piled_le ts fun x hx => h x (List.mem_cons_of_mem _ hx)
    have h2 := h t List.mem_cons_self
    rw [piled_cons, List.length_cons, Nat.mul_add, Nat.mul_one]
    omega
theorem tupleText_le {M : Nat} {ts : List Str} (h : ∀ t ∈ ts, t.length ≤ M) : (tupleText ts).length ≤ (M + 2) * ts.length + 10 := by
  unfold tupleText
  rw [len_app, len_app]
  have h0 : (Str.ofString "(").length = 1 := by decide +kernel
  have h3 : (Str.join (Str.ofString ", ") ts).length ≤ (M + 2) * ts.length := by
    cases ts with
    | nil => exact Nat.le_trans (Nat.le_of_eq (by decide +kernel : (Str.join (Str.ofString ", ") []).length = 0)) (Nat.zero_le _)
    | cons t ts =>
      have := join_length_add (t :: ts) (by simp)
      have := piled_le (t :: ts) h
      omega
  have h4 : ∀ c : Bool, (Str.ofString (if c = true then ",)" else ")")).length ≤ 2 := by
    intro c
    cases c <;> decide +kernel
  have := h4 (ts.length == 1)
  omega
theorem shownAll_ints (xs : List Int) : PyData.shownAll (xs.map PyData.int) = xs.map fun x => (Str.ofString (toString x)) := by
  induction xs with
  | nil => rfl
  | cons x xs ih =>
    show PyData.shown (.int x) :: PyData.shownAll (xs.map PyData.int) = _
    rw [ih]; rfl
theorem shown_ints {xs : List Int} (h : ∀ x ∈ xs, x.natAbs.log2 < 1920) (hl : xs.length ≤ 1000) : (PyData.tuple (xs.map PyData.int)).shown.length ≤ 2000000 := by
  show (tupleText (PyData.shownAll (xs.map PyData.int))).length ≤ _
  rw [shownAll_ints]
  have := tupleText_le (M := 1921) (ts := xs.map fun x => (Str.ofString (toString x))) (fun t ht => by
    obtain ⟨x, hx, rfl⟩ := List.mem_map.mp ht
    exact int_text_len_1921 (h x hx))
  rw [List.length_map] at this
  omega
theorem able_ints : ∀ {xs : List Int}, (∀ x ∈ xs, x.natAbs.log2 < 1920) → PyData.showableAll (xs.map PyData.int) = true
  | [], _ => rfl
  | x :: xs, h => by
    show (PyData.showable (.int x) && PyData.showableAll (xs.map PyData.int)) = true
    rw [able_ints fun y hy => h y (List.mem_cons_of_mem _ hy)]
    show (decide (x.natAbs.log2 < 1920) && true) = true
    rw [decide_eq_true (h x List.mem_cons_self)]; rfl
theorem nodict_ints : ∀ xs : List Int, PyData.hasDictAll (xs.map PyData.int) = false
  | [] => rfl
  | x :: xs => by
    show (PyData.hasDict (.int x) || PyData.hasDictAll (xs.map PyData.int)) = false
    rw [nodict_ints xs]; rfl
end My

set_option Elab.async false
set_option maxRecDepth 100000
namespace My
open PySem L2 PyProof.Rows
/-! ### a list's slice with a step -/
def tStep (K : PySem.W.Frag) (te : TE) (tl th ts : TO) : TE := fun σ H Q => te σ H fun x H1 => tl σ H1 fun l H2 => th σ H2 fun u H3 => ts σ H3 fun s H4 =>
  ∃ a xs, x = .ref a ∧ SqL K H4 a xs ∧ s ≠ some 0 ∧ ∀ p ys, H4 p = none → (∀ y ∈ ys, y ∈ xs) → ys.length ≤ xs.length → Q (.ref p) (upd H4 p (.lst ys))
theorem picked_vals {xs : List V} {its : List Value} (r : Vals xs its) : ∀ ks : List Nat, Vals (ks.filterMap (xs[·]?)) (ks.filterMap (its[·]?))
  | [] => .nil
  | k :: ks => by
    have ih := picked_vals r ks
    have hl := r.length
    by_cases h : k < xs.length
    · obtain ⟨u, hu, ru⟩ := r.get (List.getElem?_eq_getElem h)
      rw [List.filterMap_cons, List.filterMap_cons, List.getElem?_eq_getElem h, hu]
      exact .cons ru ih
    · have h2 : its[k]? = none := List.getElem?_eq_none (by omega)
      have h1 : xs[k]? = none := List.getElem?_eq_none (by omega)
      rw [List.filterMap_cons, List.filterMap_cons, h1, h2]
      exact ih
section
variable {X : Cx} {e : Expr} {te : TE} {lo hi : Option Expr} {st : Expr} {tl th ts : TO} {p2 pos : Pos}
theorem pe_sliceS (he : PE X e te) (hl : PO X lo tl) (hu : PO X hi th) (hs : PO X (some st) ts) :
    PE X (.Subscript e (.Slice lo hi (some st) p2) pos) (tStep X.K te tl th ts) := by
  constructor
  intro pins s σ H Q I h
  refine Subscript_ (thn (he.run pins s σ H _ I h) ?_)
  rintro v s1 ⟨x, H1, I1, r1, q1⟩
  refine wpAny_Slice (thn (hl.run pins s1 σ H1 _ I1 q1) ?_)
  rintro vl s2 ⟨l, H2, I2, pl, q2⟩
  refine thn (hu.run pins s2 σ H2 _ I2 q2) ?_
  rintro vu s3 ⟨u, H3, I3, pu, q3⟩
  refine thn (hs.run pins s3 σ H3 _ I3 q3) ?_
  rintro vs s4 ⟨so, H4, I4, ps, a, xs, rfl, hx, hne, k⟩
  cases r1
  have J : Inv X pins σ H4 { s4 with heap := s4.heap.push { cls := .type "slice", data := .fields #[vl, vu, vs] } } :=
    I4.kept (t' := s4.toks) fun b ob q => Heap.get?_push_of_some _ q
  obtain ⟨its, r, pL, hz⟩ := J.list hx
  have n1 := r.length
  show wpAny (model X.prog X.w) X.A (subscriptTail e (.Slice lo hi (some st) p2) (.ref a) (.ref s4.heap.objs.size)) (EP X pins σ Q) X.xe
    { s4 with heap := s4.heap.push { cls := .type "slice", data := .fields #[vl, vu, vs] } }
  refine tail_any (ops := [.ref a, .ref s4.heap.objs.size]) pL.isList.typeIs PySem.slot_list_getitem.lookup ?_ (by with_unfolding_all rfl)
  refine wpAny_getItem_list_slice pL.isList (Heap.IsSliceOf.new _ vl vu vs) pl pu ps hne ?_ (by rw [List.size_toArray]; omega)
  have hsz := slicePick_size_le its.toArray l u so
  generalize hpk : slicePick its.toArray l u so = pk at *
  have hszl : pk.toList.length ≤ its.length := by simpa using hsz
  have hform : pk.toList = ((sliceRange (sliceBounds l u so its.toArray.size).1 (sliceBounds l u so its.toArray.size).2.1 (sliceBounds l u so its.toArray.size).2.2).filterMap (its[·]?)) := by
    rw [← hpk]
    unfold slicePick
    simp
  have rv := picked_vals r (sliceRange (sliceBounds l u so its.toArray.size).1 (sliceBounds l u so its.toArray.size).2.1 (sliceBounds l u so its.toArray.size).2.2)
  rw [← hform] at rv
  generalize hys : (sliceRange (sliceBounds l u so its.toArray.size).1 (sliceBounds l u so its.toArray.size).2.1 (sliceBounds l u so its.toArray.size).2.2).filterMap (xs[·]?) = ys at rv
  have hsub : ∀ y ∈ ys, y ∈ xs := by
    intro y hy
    rw [← hys] at hy
    obtain ⟨j, _, hj⟩ := List.mem_filterMap.mp hy
    exact List.mem_of_getElem? hj
  have hlen : ys.length ≤ xs.length := by
    have h2 := rv.length
    omega
  refine ⟨.ref _, _, J.laid (t' := s4.toks) (o := .lst ys) (fun b ob q => Heap.get?_push_of_some _ q) (Nat.le_refl _) ?_, rfl, k _ ys (J.hok.fresh (Nat.le_refl _)) hsub hlen⟩
  exact ⟨by omega, pk.toList, 0, rv, Heap.get?_push_size _ rfl⟩
end
end My

set_option Elab.async false
set_option maxRecDepth 100000
namespace My
open PySem L2 PyProof.Rows
/-! ### list(range(a, b, c)) -/
def rgV3 (a c : Int) (n : Nat) : List V := (List.range n).map fun i => V.int (a + (i : Nat) * c)
theorem rgV3_length (a c : Int) (n : Nat) : (rgV3 a c n).length = n := by unfold rgV3; rw [List.length_map, List.length_range]
theorem vals_rg3 {a c : Int} {n : Nat} {acc : Array Value} (h : ItemsOf (fun i v => ∃ t, v = .int (a + i * c) t) acc n) : Vals (rgV3 a c n) acc.toList := by
  have e : acc.toList.length = n := by rw [Array.length_toList]; exact h.1
  unfold rgV3
  rw [← e]
  refine vals_of_get acc.toList _ fun j u hj => ?_
  obtain ⟨t, rfl⟩ := h.2 j u (by rw [← hj, Array.getElem?_toList])
  exact ⟨t, rfl⟩
theorem small_up {a b c : Int} (ha : -(2 ^ 31) ≤ a) (ha' : a < 2 ^ 31) (hb : -(2 ^ 31) ≤ b) (hb' : b < 2 ^ 31) (hc : 0 < c) (hc' : c < 2 ^ 29) : Builtin.Range.small a b c = true := by
  have h1 := rangeSize_toNat_le a b c
  have h2 := rangeSize_toNat a b c
  unfold Builtin.Range.small
  unfold Builtin.Range.rangeSize at *
  simp only [Builtin.Range.rangeFitsLong, Bool.and_eq_true, Bool.or_eq_true, decide_eq_true_eq, beq_iff_eq, if_pos (show c > 0 from hc)] at *
  split at h2
  · rename_i hab
    have h3 := Int.ediv_mul_le (b - a - 1) (show c ≠ 0 by omega)
    rw [if_pos hab] at *
    generalize (b - a - 1) / c = q at *
    have h5 : (q + 1) * c = q * c + c := by rw [Int.add_mul, Int.one_mul]
    generalize q * c = z at *
    omega
  · rename_i hab
    rw [if_neg hab] at *
    omega
section
variable {X : Cx} {a b c : Expr} {ta : TA}
def tLst3 (ta : TA) : TE := fun σ H Q => ta σ H fun vs H1 => ∃ (i j k : Int) (n : Nat), vs = [.int i, .int j, .int k] ∧ RgC i j k n ∧ n ≤ 2 ^ 24 ∧ ∀ q, H1 q = none → Q (.ref q) (upd H1 q (.lst (rgV3 i k n)))
theorem pe_listRg3 {p p2 pos pos2 : Pos} (hc : X.calm = true) (hg : Gl X "list") (hm : X.mg "list" = none) (hg2 : Gl X "range") (hm2 : X.mg "range" = none) (ha : PA X [a, b, c] ta)
    (hs : starEach [a, b, c] X.env = (false, eval a X.env) :: starEach [b, c] X.env := by rfl) (hpl : (backTo pos2 (starEach [b, c] X.env)).any (·.1) = false := by rfl)
    (na : starEach [(.Call (.Name "range" p2) [a, b, c] [] pos2)] X.env = (false, eval (.Call (.Name "range" p2) [a, b, c] [] pos2) X.env) :: starEach [] X.env := by rfl) :
    PE X (.Call (.Name "list" p) [.Call (.Name "range" p2) [a, b, c] [] pos2] [] pos) (tLst3 ta) := by
  refine ⟨fun pins s σ H Q I h => ?_⟩
  have hr : wpAny (model X.prog X.w) X.A (eval (.Call (.Name "range" p2) [a, b, c] [] pos2) X.env) (fun x s' => ∃ r i j k n t u v H', x = .ref r ∧ IsRange s'.heap r i j k t u v ∧ Inv X pins σ H' s' ∧ RgC i j k n ∧ n ≤ 2 ^ 24 ∧ ∀ q, H' q = none → Q (.ref q) (upd H' q (.lst (rgV3 i k n)))) X.xe s := by
    refine Call_ (ld_blt I hg2 hm2 boot_range (PyProof.Rows.callWith_type1 (thn (ha.run pos2 pins s σ H _ I h) fun us s1 ⟨vs, H1, I1, r1, q1⟩ => ?_) hs hpl))
    obtain ⟨i, j, k, n, e, hk, hn, q⟩ := q1
    subst e
    cases r1 with
    | cons r rr =>
      cases rr with
      | cons r' rr =>
        cases rr with
        | cons r'' rr =>
          cases rr
          obtain ⟨t, rfl⟩ := r
          obtain ⟨t', rfl⟩ := r'
          obtain ⟨t'', rfl⟩ := r''
          exact call_range_3 hk.1 ⟨_, i, j, k, n, _, _, _, H1, rfl, IsRange.new .., I1.kept (t' := s1.toks) fun b o e => Heap.get?_push_of_some _ e, hk, hn, q⟩ (.inl (PyProof.noPylong_small hk.2.1))
  refine Call_ (ld_blt I hg hm boot_list (PyProof.Rows.callWith_type1 (args_cons (thn hr fun x s1 ⟨r, i, j, k, n, t, u, v, H1, ex, hr, I1, ⟨c0, c1, c2, c3⟩, hn, q⟩ => args_nil ?_) na) na))
  subst ex
  refine call_list_range (n := n) (I1.ok.hd hc) hr c2 c3 hn fun h' tk acc c' hk e' hi => ?_
  refine ⟨.ref s1.heap.objs.size, upd H1 s1.heap.objs.size (.lst (rgV3 i k n)), I1.laid hk (Nat.le_refl _) (show ObjOk X.prog X.w _ _ _ (.lst (rgV3 i k n)) from ⟨?_, acc.toList, c', vals_rg3 hi, ?_⟩), rfl, q _ (I1.hok.fresh (Nat.le_refl _))⟩
  · rw [rgV3_length, sizeLine_eq]; omega
  · rw [Array.toArray_toList]; exact e'
end
/-- what stands in list(range(a, b, c)) -/
theorem rg3_mem {a b c : Int} (hc : 0 < c) {n : Nat} (hn : Builtin.Range.rangeSize a b c = n) {i : Nat} (hi : i < n) : a ≤ a + (i : Int) * c ∧ a + (i : Int) * c < b := by
  unfold Builtin.Range.rangeSize at hn
  rw [if_pos hc] at hn
  have h0 : 0 ≤ (i : Int) * c := Int.mul_nonneg (by omega) (by omega)
  split at hn
  · have h1 : (i : Int) ≤ (b - a - 1) / c := by omega
    have h2 := Int.mul_le_mul_of_nonneg_right h1 (show 0 ≤ c by omega)
    have h3 := Int.ediv_mul_le (b - a - 1) (show c ≠ 0 by omega)
    omega
  · omega
/-- a loop over zip of two tuples, the one that ends first ends it -/
theorem for_zipT2 {K : PySem.W.Frag} {a b : Addr} {xs ys : List V} {g : TG} {tb : TS} {D : Ends} {σ : L2.St} {H : Hp} (Pv : Nat → L2.St → Hp → Prop) (h0 : Pv 0 σ H) (hq : ∀ i σ H, Pv i σ H → SqT K H a xs ∧ SqT K H b ys)
    (hs : ∀ (i : Nat) (x y : V) (T : Addr) (σ : L2.St) (H : Hp), xs[i]? = some x → ys[i]? = some y → Pv i σ H → H T = none → g (.ref T) σ (upd H T (.tup [x, y])) fun σ2 H2 => tb { D with nx := Pv (i + 1), ct := Pv (i + 1), bk := D.nx } σ2 H2) (hd : ∀ i σ H, Pv i σ H → D.nx σ H) :
    ∃ W : Nat → Nat → L2.St → Hp → Prop, (∃ m, W 0 m σ H) ∧ ∀ i m σ H, W i m σ H →
      ((RZ.ItzT K a b).stop i H ∧ D.nx σ H) ∨ ((RZ.ItzT K a b).go i H ∧ ∃ N : L2.St → Hp → Prop, (∀ σ' H', N σ' H' → ∃ m', m' < m ∧ W (i + 1) m' σ' H') ∧ ∀ v H', (RZ.ItzT K a b).yld i H v H' → g v σ H' fun σ2 H2 => tb { D with nx := N, ct := N, bk := D.nx } σ2 H2) := by
  refine ⟨fun i m σ H => m = xs.length - i ∧ Pv i σ H, ⟨xs.length, rfl, h0⟩, ?_⟩
  rintro i m σ H ⟨rfl, p⟩
  obtain ⟨qx, qy⟩ := hq i σ H p
  by_cases hlt : i < xs.length ∧ i < ys.length
  · have hx : xs[i]? = some xs[i] := List.getElem?_eq_getElem hlt.1
    have hy : ys[i]? = some ys[i] := List.getElem?_eq_getElem hlt.2
    refine .inr ⟨⟨xs, ys, _, _, qx, qy, hx, hy⟩, Pv (i + 1), fun σ' H' p' => ⟨xs.length - (i + 1), by omega, rfl, p'⟩, fun v H' y => ?_⟩
    obtain ⟨T, x', y', rfl, hT, rfl, f1, f2⟩ := y
    exact hs i x' y' T σ H (f1 xs qx) (f2 ys qy) p hT
  · exact .inl ⟨⟨xs, ys, qx, qy, by omega⟩, hd i σ H p⟩
end My

set_option Elab.async false
set_option maxRecDepth 100000
namespace My
open PySem L2 PyProof.Rows
/-- a comprehension over zip of two lists: the one that ends first ends it -/
theorem lc_zipL {K : PySem.W.Frag} {a b : Addr} {xs ys : List V} {g : TG} {tt : TT} {te : TE} {vs : List Nat} {σ : L2.St} {H1 : Hp} {D : Addr} {Qd : Hp → Prop} (Pv : Nat → Hp → Prop) (h0 : Pv 0 (upd H1 D (.lst []))) (hl : ∀ i H, Pv i H → SqL K H a xs ∧ SqL K H b ys)
    (hs : ∀ (i : Nat) (x y : V) (T : Addr) (H : Hp), xs[i]? = some x → ys[i]? = some y → Pv i H → H T = none → g (.ref T) (wipe σ vs) (upd H T (.tup [x, y])) fun σ2 H2 => wipe σ2 vs = wipe σ vs ∧ tt σ2 H2 fun b H3 =>
      if b = true then te σ2 H3 fun y H4 => ∃ acc, H4 D = some (.lst acc) ∧ acc.length < sizeLine ∧ Pv (i + 1) (upd H4 D (.lst (acc ++ [y]))) else Pv (i + 1) H3) (hd : ∀ i H, (xs.length ≤ i ∨ ys.length ≤ i) → Pv i H → Qd H) :
    ∃ W : Nat → Nat → Hp → Prop, (∃ m, W 0 m (upd H1 D (.lst []))) ∧ ∀ i m H, W i m H →
      ((Itz K a b).stop i H ∧ Qd H) ∨ ((Itz K a b).go i H ∧ ∃ Nx : Hp → Prop, (∀ H', Nx H' → ∃ m', m' < m ∧ W (i + 1) m' H') ∧ ∀ x H', (Itz K a b).yld i H x H' → g x (wipe σ vs) H' fun σ2 H2 => wipe σ2 vs = wipe σ vs ∧ tt σ2 H2 fun b H3 =>
        if b = true then te σ2 H3 fun y H4 => ∃ acc, H4 D = some (.lst acc) ∧ acc.length < sizeLine ∧ Nx (upd H4 D (.lst (acc ++ [y]))) else Nx H3) := by
  refine ⟨fun i m H => m = xs.length - i ∧ Pv i H, ⟨xs.length, rfl, h0⟩, ?_⟩
  rintro i m H ⟨rfl, p⟩
  obtain ⟨qx, qy⟩ := hl i H p
  by_cases hlt : i < xs.length ∧ i < ys.length
  · have hx : xs[i]? = some xs[i] := List.getElem?_eq_getElem hlt.1
    have hy : ys[i]? = some ys[i] := List.getElem?_eq_getElem hlt.2
    refine .inr ⟨⟨xs, ys, _, _, qx, qy, hx, hy⟩, Pv (i + 1), fun H' p' => ⟨xs.length - (i + 1), by omega, rfl, p'⟩, fun v H' y => ?_⟩
    obtain ⟨T, x', y', rfl, hT, rfl, f1, f2⟩ := y
    exact hs i x' y' T H (f1 xs qx) (f2 ys qy) p hT
  · exact .inl ⟨⟨xs, ys, qx, qy, by omega⟩, hd i H (by omega) p⟩
end My

set_option Elab.async false
set_option maxRecDepth 100000
namespace My
open PySem L2 PyProof.Rows
/-- a loop over enumerate of a list -/
theorem for_enumL {K : PySem.W.Frag} {a : Addr} {xs : List V} {g : TG} {tb : TS} {D : Ends} {σ : L2.St} {H : Hp} (Pv : Nat → L2.St → Hp → Prop) (h0 : Pv 0 σ H) (hq : ∀ i σ H, Pv i σ H → SqL K H a xs)
    (hs : ∀ (i : Nat) (x : V) (T : Addr) (σ : L2.St) (H : Hp), xs[i]? = some x → Pv i σ H → H T = none → g (.ref T) σ (upd H T (.tup [.int (i : Nat), x])) fun σ2 H2 => tb { D with nx := Pv (i + 1), ct := Pv (i + 1), bk := D.nx } σ2 H2) (hd : ∀ σ H, Pv xs.length σ H → D.nx σ H) :
    ∃ W : Nat → Nat → L2.St → Hp → Prop, (∃ m, W 0 m σ H) ∧ ∀ i m σ H, W i m σ H →
      ((Ite K a).stop i H ∧ D.nx σ H) ∨ ((Ite K a).go i H ∧ ∃ N : L2.St → Hp → Prop, (∀ σ' H', N σ' H' → ∃ m', m' < m ∧ W (i + 1) m' σ' H') ∧ ∀ v H', (Ite K a).yld i H v H' → g v σ H' fun σ2 H2 => tb { D with nx := N, ct := N, bk := D.nx } σ2 H2) := by
  refine ⟨fun i m σ H => m = xs.length - i ∧ i ≤ xs.length ∧ Pv i σ H, ⟨xs.length, rfl, Nat.zero_le _, h0⟩, ?_⟩
  rintro i m σ H ⟨rfl, hi, p⟩
  have q := hq i σ H p
  by_cases hlt : i < xs.length
  · have hx : xs[i]? = some xs[i] := List.getElem?_eq_getElem hlt
    refine .inr ⟨⟨xs, _, q, hx⟩, Pv (i + 1), fun σ' H' p' => ⟨xs.length - (i + 1), by omega, rfl, hlt, p'⟩, fun v H' y => ?_⟩
    obtain ⟨T, x', rfl, hT, rfl, f⟩ := y
    exact hs i x' T σ H (f xs q) p hT
  · have e : i = xs.length := by omega
    subst e
    exact .inl ⟨⟨xs, q, Nat.le_refl _⟩, hd σ H p⟩
end My

set_option Elab.async false
set_option maxRecDepth 100000
namespace My
open PySem L2 PyProof.Rows
/-! ### a list's slice with a step, to the number; xs[:0:-1] -/
def pickV (xs : List V) (l u s : Option Int) : List V := (sliceRange (sliceBounds l u s xs.length).1 (sliceBounds l u s xs.length).2.1 (sliceBounds l u s xs.length).2.2).filterMap (xs[·]?)
def tPick (K : PySem.W.Frag) (te : TE) (tl th ts : TO) : TE := fun σ H Q => te σ H fun x H1 => tl σ H1 fun l H2 => th σ H2 fun u H3 => ts σ H3 fun s H4 =>
  ∃ a xs, x = .ref a ∧ SqL K H4 a xs ∧ s ≠ some 0 ∧ ∀ p, H4 p = none → Q (.ref p) (upd H4 p (.lst (pickV xs l u s)))
theorem pickV_len (xs : List V) (l u s : Option Int) (its : List Value) (h : its.length = xs.length) : (pickV xs l u s).length ≤ xs.length := by
  have h1 := slicePick_size_le its.toArray l u s
  have h2 : (slicePick its.toArray l u s).toList.length ≤ its.length := by simpa using h1
  have h3 : (slicePick its.toArray l u s).toList = (sliceRange (sliceBounds l u s xs.length).1 (sliceBounds l u s xs.length).2.1 (sliceBounds l u s xs.length).2.2).filterMap (its[·]?) := by
    unfold slicePick
    simp [h]
  have h4 : ∀ ks : List Nat, (ks.filterMap (xs[·]?)).length = (ks.filterMap (its[·]?)).length := by
    intro ks
    induction ks with
    | nil => rfl
    | cons k ks ih =>
      rw [List.filterMap_cons, List.filterMap_cons]
      by_cases hk : k < xs.length
      · rw [List.getElem?_eq_getElem hk, List.getElem?_eq_getElem (by omega : k < its.length)]
        simp [ih]
      · rw [List.getElem?_eq_none (by omega), List.getElem?_eq_none (by omega)]
        exact ih
  unfold pickV
  rw [h4, ← h3]
  omega
section
variable {X : Cx} {e : Expr} {te : TE} {lo hi : Option Expr} {st : Expr} {tl th ts : TO} {p2 pos : Pos}
theorem pe_pick (he : PE X e te) (hl : PO X lo tl) (hu : PO X hi th) (hs : PO X (some st) ts) :
    PE X (.Subscript e (.Slice lo hi (some st) p2) pos) (tPick X.K te tl th ts) := by
  constructor
  intro pins s σ H Q I h
  refine Subscript_ (thn (he.run pins s σ H _ I h) ?_)
  rintro v s1 ⟨x, H1, I1, r1, q1⟩
  refine wpAny_Slice (thn (hl.run pins s1 σ H1 _ I1 q1) ?_)
  rintro vl s2 ⟨l, H2, I2, pl, q2⟩
  refine thn (hu.run pins s2 σ H2 _ I2 q2) ?_
  rintro vu s3 ⟨u, H3, I3, pu, q3⟩
  refine thn (hs.run pins s3 σ H3 _ I3 q3) ?_
  rintro vs s4 ⟨so, H4, I4, ps, a, xs, rfl, hx, hne, k⟩
  cases r1
  have J : Inv X pins σ H4 { s4 with heap := s4.heap.push { cls := .type "slice", data := .fields #[vl, vu, vs] } } :=
    I4.kept (t' := s4.toks) fun b ob q => Heap.get?_push_of_some _ q
  obtain ⟨its, r, pL, hz⟩ := J.list hx
  have n1 := r.length
  show wpAny (model X.prog X.w) X.A (subscriptTail e (.Slice lo hi (some st) p2) (.ref a) (.ref s4.heap.objs.size)) (EP X pins σ Q) X.xe
    { s4 with heap := s4.heap.push { cls := .type "slice", data := .fields #[vl, vu, vs] } }
  refine tail_any (ops := [.ref a, .ref s4.heap.objs.size]) pL.isList.typeIs PySem.slot_list_getitem.lookup ?_ (by with_unfolding_all rfl)
  refine wpAny_getItem_list_slice pL.isList (Heap.IsSliceOf.new _ vl vu vs) pl pu ps hne ?_ (by rw [List.size_toArray]; omega)
  have hform : (slicePick its.toArray l u so).toList = ((sliceRange (sliceBounds l u so xs.length).1 (sliceBounds l u so xs.length).2.1 (sliceBounds l u so xs.length).2.2).filterMap (its[·]?)) := by
    unfold slicePick
    simp [n1]
  have rv := picked_vals r (sliceRange (sliceBounds l u so xs.length).1 (sliceBounds l u so xs.length).2.1 (sliceBounds l u so xs.length).2.2)
  rw [← hform] at rv
  have hlen := pickV_len xs l u so its n1.symm
  refine ⟨.ref _, _, J.laid (t' := s4.toks) (o := .lst (pickV xs l u so)) (fun b ob q => Heap.get?_push_of_some _ q) (Nat.le_refl _) ?_, rfl, k _ (J.hok.fresh (Nat.le_refl _))⟩
  exact ⟨by omega, (slicePick its.toArray l u so).toList, 0, rv, Heap.get?_push_size _ rfl⟩
end
theorem range_get : ∀ l : List V, (List.range l.length).filterMap (l[·]?) = l
  | [] => rfl
  | x :: l => by
    rw [List.length_cons, List.range_succ_eq_map, List.filterMap_cons, List.filterMap_map]
    show x :: (List.range l.length).filterMap (fun k => (x :: l)[k + 1]?) = _
    exact congrArg (x :: ·) (range_get l)
theorem pick_back (xs : List V) (h : 0 < xs.length) : pickV xs none (some 0) (some (-1)) = (xs.drop 1).reverse := by
  have hb : sliceBounds none (some 0) (some (-1)) xs.length = ((xs.length : Int) - 1, 0, -1) := by
    unfold sliceBounds
    simp
    omega
  have hr : sliceRange ((xs.length : Int) - 1) 0 (-1) = (List.range (xs.drop 1).reverse.length).map fun k => xs.length - 1 - k := by
    unfold sliceRange
    simp only [List.length_reverse, List.length_drop]
    rw [if_neg (by decide)]
    have hc : (if (xs.length : Int) - 1 > 0 then ((xs.length : Int) - 1 - 0 - -1 - 1) / - -1 else 0).toNat = xs.length - 1 := by
      have : - -(1 : Int) = 1 := by decide
      rw [this, Int.ediv_one]
      split <;> omega
    rw [hc]
    refine List.map_congr_left fun k _ => ?_
    omega
  have step : ∀ k, k < (xs.drop 1).reverse.length → xs[xs.length - 1 - k]? = (xs.drop 1).reverse[k]? := fun k hk => by
    rw [List.length_reverse, List.length_drop] at hk
    rw [List.getElem?_reverse (by rw [List.length_drop]; omega), List.getElem?_drop, List.length_drop]
    congr 1
    omega
  unfold pickV
  rw [hb, hr, List.filterMap_map]
  have e : ∀ n, n ≤ (xs.drop 1).reverse.length → (List.range n).filterMap (fun k => xs[xs.length - 1 - k]?) = (List.range n).filterMap ((xs.drop 1).reverse[·]?) := by
    intro n
    induction n with
    | zero => intro _; rfl
    | succ n ih =>
      intro hn
      rw [List.range_succ, List.filterMap_append, List.filterMap_append, ih (by omega)]
      congr 1
      rw [List.filterMap_cons, List.filterMap_cons, step n (by omega)]
      cases (xs.drop 1).reverse[n]? <;> rfl
  exact (e _ (Nat.le_refl _)).trans (range_get _)
end My

set_option Elab.async false
set_option maxRecDepth 100000
namespace My
open PySem PySem.Spec PyProof.Rows L2 TL
section
variable {X : Cx} {CX : CXT} {k : Nat} {f : Addr} {fd : FuncData} {ps ks : List Str} {sp : Sp} {E : XK} {x : Str} {p pos : Pos} {kws : List Keyword} {tk : TA} {g : List Value → List Value → List Value} {gV : List V → List V → List V}
/-- f(k = v, ..), nothing by position -/
theorem pe_callK0 (F : FnOk X.prog X.w X.K X.mg X.base CX k f fd ps sp) (hr : Room k X.A) (hg : Gl X x) (hm : X.mg x = some (.ref f)) (hk : PySem.W.keepIn X.K (.ref f) = true) (hb : KBinds X.K fd ps ks g gV) (hx : Passes CX X E)
    (hkw : PK X kws tk) (hall : (backToKw pos (keywordEach kws X.env)).all (·.1.isSome) = true := by rfl) (hks : (backToKw pos (keywordEach kws X.env)).filterMap (·.1) = ks := by rfl)
    (hdb : (x == ("__debug__" : Str)) = false := by decide)
    (hpl : ((backTo pos (starEach [] X.env)).any (·.1) || (backToKw pos (keywordEach kws X.env)).any (·.1.isNone)) = false := by rfl) :
    PE X (.Call (.Name x p) [] kws pos) (tCallK sp gV E tNil tk) := by
  refine ⟨fun pins s σ H Q I h => ?_⟩
  refine wpAny_Call_Name_kw (ld_glob I hg hm ?_ hdb)
  refine PySem.W.callWith_KW0 (h₀ := X.base) I.ok.mod.kin hk hall (thn (hkw.run pos pins s σ H _ I h) fun ws s2 ⟨zs, H2, I2, rz, q2⟩ => ⟨I2.kIn, ?_⟩) hpl
  rw [hks]
  exact run_fnk (us := []) (vs := []) F hr hb hx I2 .nil rz q2
end
section
variable {K : PySem.W.Frag} {x qual : Str} {st : Stmt} {f : Addr} {fd : FuncData} {ps ks : List Str}
def kw4 {α : Type} (q : α → α → α → α → List α) : List α → List α → List α
  | [], [a, b, c, d] => q a b c d
  | _, _ => []
def kw3 {α : Type} (q : α → α → α → List α) : List α → List α → List α
  | [], [a, b, c] => q a b c
  | _, _ => []
theorem kbind4 (F : Fun K x qual st f fd) (q : {α : Type} → α → α → α → α → List α) (hp : ps ≠ [])
    (hb : ∀ (kV doc pm : Value) (an : Option Addr) (cdv ct : Value) (a b c d : Value), bindArgs (PySem.W.fnOf x qual (defArgs st) (defBody st) (defScope st) .none kV doc pm an cdv ct) ⟨[], ks.zip [a, b, c, d]⟩ = pure (ps.zip (q a b c d)))
    (hr : ∀ {v1 v2 v3 v4 : V} {a b c d : Value}, RelV v1 a → RelV v2 b → RelV v3 c → RelV v4 d → Vals (q v1 v2 v3 v4) (q a b c d)) : KBinds K fd ps ks (kw4 q) (kw4 q) := by
  obtain ⟨oc, od, kV, doc, pm, an, cdv, ct, osl, rfl, lk, hcd⟩ := F.ex
  have emp : ∀ l : List Value, l = [] → l.length = ps.length → False := fun l h h2 => by
    rw [h] at h2
    exact hp (List.length_eq_zero_iff.mp h2.symm)
  refine ⟨fun s us ws _ hl => ?_, fun {vs us zs ws} r1 r2 => ?_⟩
  · match us, ws, hl with
    | [], [a, b, c, d], hl => exact .of_eq (hb kV doc pm an cdv ct a b c d)
    | _ :: _, _, hl => exact absurd hl (fun h => emp _ (by unfold kw4; rfl) h)
    | [], [], hl => exact absurd hl (fun h => emp _ rfl h)
    | [], [_], hl => exact absurd hl (fun h => emp _ rfl h)
    | [], [_, _], hl => exact absurd hl (fun h => emp _ rfl h)
    | [], [_, _, _], hl => exact absurd hl (fun h => emp _ rfl h)
    | [], _ :: _ :: _ :: _ :: _ :: _, hl => exact absurd hl (fun h => emp _ rfl h)
  · match vs, us, zs, ws, r1, r2 with
    | [], [], [_, _, _, _], [_, _, _, _], .nil, .cons a (.cons b (.cons c (.cons d .nil))) => exact hr a b c d
    | _ :: _, _ :: _, _, _, .cons _ _, _ => exact .nil
    | [], [], [], [], .nil, .nil => exact .nil
    | [], [], [_], [_], .nil, .cons _ .nil => exact .nil
    | [], [], [_, _], [_, _], .nil, .cons _ (.cons _ .nil) => exact .nil
    | [], [], [_, _, _], [_, _, _], .nil, .cons _ (.cons _ (.cons _ .nil)) => exact .nil
    | [], [], _ :: _ :: _ :: _ :: _ :: _, _ :: _ :: _ :: _ :: _ :: _, .nil, .cons _ (.cons _ (.cons _ (.cons _ (.cons _ _)))) => exact .nil
theorem kbind3 (F : Fun K x qual st f fd) (q : {α : Type} → α → α → α → List α) (hp : ps ≠ [])
    (hb : ∀ (kV doc pm : Value) (an : Option Addr) (cdv ct : Value) (a b c : Value), bindArgs (PySem.W.fnOf x qual (defArgs st) (defBody st) (defScope st) .none kV doc pm an cdv ct) ⟨[], ks.zip [a, b, c]⟩ = pure (ps.zip (q a b c)))
    (hr : ∀ {v1 v2 v3 : V} {a b c : Value}, RelV v1 a → RelV v2 b → RelV v3 c → Vals (q v1 v2 v3) (q a b c)) : KBinds K fd ps ks (kw3 q) (kw3 q) := by
  obtain ⟨oc, od, kV, doc, pm, an, cdv, ct, osl, rfl, lk, hcd⟩ := F.ex
  have emp : ∀ l : List Value, l = [] → l.length = ps.length → False := fun l h h2 => by
    rw [h] at h2
    exact hp (List.length_eq_zero_iff.mp h2.symm)
  refine ⟨fun s us ws _ hl => ?_, fun {vs us zs ws} r1 r2 => ?_⟩
  · match us, ws, hl with
    | [], [a, b, c], hl => exact .of_eq (hb kV doc pm an cdv ct a b c)
    | _ :: _, _, hl => exact absurd hl (fun h => emp _ (by unfold kw3; rfl) h)
    | [], [], hl => exact absurd hl (fun h => emp _ rfl h)
    | [], [_], hl => exact absurd hl (fun h => emp _ rfl h)
    | [], [_, _], hl => exact absurd hl (fun h => emp _ rfl h)
    | [], _ :: _ :: _ :: _ :: _, hl => exact absurd hl (fun h => emp _ rfl h)
  · match vs, us, zs, ws, r1, r2 with
    | [], [], [_, _, _], [_, _, _], .nil, .cons a (.cons b (.cons c .nil)) => exact hr a b c
    | _ :: _, _ :: _, _, _, .cons _ _, _ => exact .nil
    | [], [], [], [], .nil, .nil => exact .nil
    | [], [], [_], [_], .nil, .cons _ .nil => exact .nil
    | [], [], [_, _], [_, _], .nil, .cons _ (.cons _ .nil) => exact .nil
    | [], [], _ :: _ :: _ :: _ :: _, _ :: _ :: _ :: _ :: _, .nil, .cons _ (.cons _ (.cons _ (.cons _ _))) => exact .nil
end
/-! ### texts of ints differ -/
theorem tl_neg (n : Nat) : tl (Str.ofString (toString (Int.negSucc n))) = 45 :: numL (n + 1) := by
  have e : toString (Int.negSucc n) = "-" ++ toString (n + 1) := rfl
  rw [e, tl_ofString, String.toList_append, List.map_append]
  have h := tl_num (n + 1)
  rw [tl_ofString] at h
  have e2 : toString (((n + 1 : Nat) : Int)) = toString (n + 1) := rfl
  rw [e2] at h
  rw [h]
  rfl
theorem numL_head (n : Nat) (l : List Nat) : numL n ≠ 45 :: l := fun e => by
  exact numL_free (n := n) (s := 45) (.inl (by decide)) (by rw [e]; exact List.mem_cons_self)
theorem int_inj {i j : Int} (h : (Str.ofString (toString i) : Str) = Str.ofString (toString j)) : i = j := by
  have h : tl (Str.ofString (toString i)) = tl (Str.ofString (toString j)) := by rw [h]
  cases i with
  | ofNat m =>
    cases j with
    | ofNat n =>
      have h : numL m = numL n := (tl_num m).symm.trans (h.trans (tl_num n))
      rw [numL_inj h]
    | negSucc n =>
      have h : numL m = 45 :: numL (n + 1) := (tl_num m).symm.trans (h.trans (tl_neg n))
      exact absurd h (numL_head _ _)
  | negSucc m =>
    cases j with
    | ofNat n =>
      have h : numL n = 45 :: numL (m + 1) := (tl_num n).symm.trans (h.symm.trans (tl_neg m))
      exact absurd h (numL_head _ _)
    | negSucc n =>
      have h : 45 :: numL (m + 1) = 45 :: numL (n + 1) := (tl_neg m).symm.trans (h.trans (tl_neg n))
      have := numL_inj (List.cons.inj h).2
      rw [show m = n by omega]
theorem app_inj {x y z : Str} (h : x ++ y = x ++ z) : y = z := by
  have h : tl (x ++ y) = tl (x ++ z) := by rw [h]
  rw [tl_append, tl_append] at h
  exact ext_tl (List.append_cancel_left h)
theorem app_injR {x y z : Str} (h : y ++ x = z ++ x) : y = z := by
  have h : tl (y ++ x) = tl (z ++ x) := by rw [h]
  rw [tl_append, tl_append] at h
  exact ext_tl (List.append_cancel_right h)
theorem two_inj {s t u : Str} (h : tupleText [s, t] = tupleText [s, u]) : t = u := by
  have e : ∀ t : Str, tupleText [s, t] = ("(" : Str) ++ (s ++ (", " : Str) ++ t) ++ (")" : Str) := fun _ => rfl
  rw [e, e] at h
  exact app_inj (app_inj (app_injR h))
end My

set_option Elab.async false
set_option maxRecDepth 100000
namespace My
open PySem L2 Evl
def top (i : Nat) : Stmt := PySem.Challenge.pw_roundedsteps_k69_whole_far_laps_of_sums.main.body.getD i (.Pass ⟨0, 0, 0, 0⟩)
abbrev s_is_whole : Stmt := (top 11)
abbrev N_is_whole : List Str := ["value"]
theorem sc_is_whole : FnScope N_is_whole ["value"] (defScope s_is_whole) := ⟨rfl, rfl, rfl, by decide +kernel, rfl, by decide +kernel, by decide +kernel⟩
abbrev s_is_from_to : Stmt := (top 12)
abbrev N_is_from_to : List Str := ["value", "low", "high"]
theorem sc_is_from_to : FnScope N_is_from_to ["value", "low", "high"] (defScope s_is_from_to) := ⟨rfl, rfl, rfl, by decide +kernel, rfl, by decide +kernel, by decide +kernel⟩
abbrev s_power : Stmt := (top 13)
abbrev N_power : List Str := ["base", "exponent", "number", "_"]
theorem sc_power : FnScope N_power ["base", "exponent"] (defScope s_power) := ⟨rfl, rfl, rfl, by decide +kernel, rfl, by decide +kernel, by decide +kernel⟩
abbrev s_Grid_init : Stmt := (inClass (top 17) 0)
abbrev N_Grid_init : List Str := ["self", "base", "figures", "reach", "places", "told", "extra", "limit"]
theorem sc_Grid_init : FnScope N_Grid_init ["self", "base", "figures", "reach", "places"] (defScope s_Grid_init) := ⟨rfl, rfl, rfl, by decide +kernel, rfl, by decide +kernel, by decide +kernel⟩
abbrev s_Grid_contains : Stmt := (inClass (top 17) 2)
abbrev N_Grid_contains : List Str := ["self", "value"]
theorem sc_Grid_contains : FnScope N_Grid_contains ["self", "value"] (defScope s_Grid_contains) := ⟨rfl, rfl, rfl, by decide +kernel, rfl, by decide +kernel, by decide +kernel⟩
abbrev s_is_grid : Stmt := (top 18)
abbrev N_is_grid : List Str := ["told", "base", "figures", "reach", "places"]
theorem sc_is_grid : FnScope N_is_grid ["told"] (defScope s_is_grid) := ⟨rfl, rfl, rfl, by decide +kernel, rfl, by decide +kernel, by decide +kernel⟩
abbrev s_spacing_at : Stmt := (top 19)
abbrev N_spacing_at : List Str := ["grid", "size", "more", "spacing", "limit"]
theorem sc_spacing_at : FnScope N_spacing_at ["grid", "size", "more"] (defScope s_spacing_at) := ⟨rfl, rfl, rfl, by decide +kernel, rfl, by decide +kernel, by decide +kernel⟩
abbrev s_fitted : Stmt := (top 24)
abbrev N_fitted : List Str := ["grid", "top", "bottom", "way", "more", "spacing", "step", "below", "left", "number"]
theorem sc_fitted : FnScope N_fitted ["grid", "top", "bottom", "way", "more"] (defScope s_fitted) := ⟨rfl, rfl, rfl, by decide +kernel, rfl, by decide +kernel, by decide +kernel⟩
abbrev s_goes_up : Stmt := (top 25)
abbrev N_goes_up : List Str := ["below", "left", "step", "way"]
theorem sc_goes_up : FnScope N_goes_up ["below", "left", "step", "way"] (defScope s_goes_up) := ⟨rfl, rfl, rfl, by decide +kernel, rfl, by decide +kernel, by decide +kernel⟩
abbrev s_check_way : Stmt := (top 26)
abbrev N_check_way : List Str := ["way"]
theorem sc_check_way : FnScope N_check_way ["way"] (defScope s_check_way) := ⟨rfl, rfl, rfl, by decide +kernel, rfl, by decide +kernel, by decide +kernel⟩
abbrev s_drift : Stmt := (top 29)
abbrev N_drift : List Str := ["grid", "start", "part", "way", "laps"]
theorem sc_drift : FnScope N_drift ["grid", "start", "part", "way", "laps"] (defScope s_drift) := ⟨rfl, rfl, rfl, by decide +kernel, rfl, by decide +kernel, by decide +kernel⟩
abbrev s_stall : Stmt := (top 30)
abbrev N_stall : List Str := ["grid", "start", "part", "way", "told", "gone"]
theorem sc_stall : FnScope N_stall ["grid", "start", "part", "way"] (defScope s_stall) := ⟨rfl, rfl, rfl, by decide +kernel, rfl, by decide +kernel, by decide +kernel⟩
abbrev s_summed : Stmt := (top 31)
abbrev N_summed : List Str := ["grid", "start", "part", "way", "laps", "state", "gone", "number", "step", "many"]
theorem sc_summed : FnScope N_summed ["grid", "start", "part", "way", "laps"] (defScope s_summed) := ⟨rfl, rfl, rfl, by decide +kernel, rfl, by decide +kernel, by decide +kernel⟩
abbrev s_laps_ahead : Stmt := (top 32)
abbrev N_laps_ahead : List Str := ["grid", "state", "number", "part", "way", "low", "high", "further", "room"]
theorem sc_laps_ahead : FnScope N_laps_ahead ["grid", "state", "number", "part", "way"] (defScope s_laps_ahead) := ⟨rfl, rfl, rfl, by decide +kernel, rfl, by decide +kernel, by decide +kernel⟩
abbrev s_ground_of : Stmt := (top 33)
abbrev N_ground_of : List Str := ["grid", "worth", "spacing", "high", "low"]
theorem sc_ground_of : FnScope N_ground_of ["grid", "worth"] (defScope s_ground_of) := ⟨rfl, rfl, rfl, by decide +kernel, rfl, by decide +kernel, by decide +kernel⟩
abbrev s_check_laps : Stmt := (top 34)
abbrev N_check_laps : List Str := ["laps"]
theorem sc_check_laps : FnScope N_check_laps ["laps"] (defScope s_check_laps) := ⟨rfl, rfl, rfl, by decide +kernel, rfl, by decide +kernel, by decide +kernel⟩
abbrev s_check_summed : Stmt := (top 35)
abbrev N_check_summed : List Str := ["grid", "start", "part", "way", "number"]
theorem sc_check_summed : FnScope N_check_summed ["grid", "start", "part", "way"] (defScope s_check_summed) := ⟨rfl, rfl, rfl, by decide +kernel, rfl, by decide +kernel, by decide +kernel⟩
abbrev s_l_pot : Stmt := (top 37)
abbrev N_l_pot : List Str := ["script", "place", "cell", "own", "small"]
theorem sc_l_pot : FnScope N_l_pot ["script", "place"] (defScope s_l_pot) := ⟨rfl, rfl, rfl, by decide +kernel, rfl, by decide +kernel, by decide +kernel⟩
abbrev s_l_take : Stmt := (top 38)
abbrev N_l_take : List Str := ["pot", "upto", "prime", "blend", "digit"]
theorem sc_l_take : FnScope N_l_take ["pot", "upto"] (defScope s_l_take) := ⟨rfl, rfl, rfl, by decide +kernel, rfl, by decide +kernel, by decide +kernel⟩
abbrev s_l_of : Stmt := (top 39)
abbrev N_l_of : List Str := ["pot", "some"]
theorem sc_l_of : FnScope N_l_of ["pot", "some"] (defScope s_l_of) := ⟨rfl, rfl, rfl, by decide +kernel, rfl, by decide +kernel, by decide +kernel⟩
abbrev s_l_cells : Stmt := (top 40)
abbrev N_l_cells : List Str := ["script", "most"]
theorem sc_l_cells : FnScope N_l_cells ["script", "most"] (defScope s_l_cells) := ⟨rfl, rfl, rfl, by decide +kernel, rfl, by decide +kernel, by decide +kernel⟩
abbrev s_l_grid_power : Stmt := (top 41)
abbrev N_l_grid_power : List Str := ["base", "many", "found", "lap"]
theorem sc_l_grid_power : FnScope N_l_grid_power ["base", "many"] (defScope s_l_grid_power) := ⟨rfl, rfl, rfl, by decide +kernel, rfl, by decide +kernel, by decide +kernel⟩
abbrev s_l_grid_more : Stmt := (top 42)
abbrev N_l_grid_more : List Str := ["grid", "more"]
theorem sc_l_grid_more : FnScope N_l_grid_more ["grid", "more"] (defScope s_l_grid_more) := ⟨rfl, rfl, rfl, by decide +kernel, rfl, by decide +kernel, by decide +kernel⟩
abbrev s_l_grid_greatest : Stmt := (top 43)
abbrev N_l_grid_greatest : List Str := ["grid"]
theorem sc_l_grid_greatest : FnScope N_l_grid_greatest ["grid"] (defScope s_l_grid_greatest) := ⟨rfl, rfl, rfl, by decide +kernel, rfl, by decide +kernel, by decide +kernel⟩
abbrev s_l_grid_spacing : Stmt := (top 44)
abbrev N_l_grid_spacing : List Str := ["grid", "top", "bottom", "spacing", "bound"]
theorem sc_l_grid_spacing : FnScope N_l_grid_spacing ["grid", "top", "bottom"] (defScope s_l_grid_spacing) := ⟨rfl, rfl, rfl, by decide +kernel, rfl, by decide +kernel, by decide +kernel⟩
abbrev s_l_grid_rounded : Stmt := (top 45)
abbrev N_l_grid_rounded : List Str := ["grid", "top", "bottom", "way", "more", "fine", "spacing", "below", "left", "number", "twice", "step"]
theorem sc_l_grid_rounded : FnScope N_l_grid_rounded ["grid", "top", "bottom", "way", "more"] (defScope s_l_grid_rounded) := ⟨rfl, rfl, rfl, by decide +kernel, rfl, by decide +kernel, by decide +kernel⟩
abbrev s_l_grid_drawn : Stmt := (top 46)
abbrev N_l_grid_drawn : List Str := ["pot", "base", "figures"]
theorem sc_l_grid_drawn : FnScope N_l_grid_drawn ["pot"] (defScope s_l_grid_drawn) := ⟨rfl, rfl, rfl, by decide +kernel, rfl, by decide +kernel, by decide +kernel⟩
abbrev s_l_grid_a_number : Stmt := (top 47)
abbrev N_l_grid_a_number : List Str := ["pot", "grid", "way", "most", "number", "power_v", "less"]
theorem sc_l_grid_a_number : FnScope N_l_grid_a_number ["pot", "grid"] (defScope s_l_grid_a_number) := ⟨rfl, rfl, rfl, by decide +kernel, rfl, by decide +kernel, by decide +kernel⟩
abbrev s_l_own_laps : Stmt := (top 48)
abbrev N_l_own_laps : List Str := ["grid", "state", "part", "way", "laps", "done", "later"]
theorem sc_l_own_laps : FnScope N_l_own_laps ["grid", "state", "part", "way", "laps"] (defScope s_l_own_laps) := ⟨rfl, rfl, rfl, by decide +kernel, rfl, by decide +kernel, by decide +kernel⟩
abbrev s_l_small_right : Stmt := (top 49)
abbrev N_l_small_right : List Str := ["pot", "own", "grid", "lap", "start", "part", "way", "laps", "state", "done", "is_over", "due"]
theorem sc_l_small_right : FnScope N_l_small_right ["pot"] (defScope s_l_small_right) := ⟨rfl, rfl, rfl, by decide +kernel, rfl, by decide +kernel, by decide +kernel⟩
abbrev s_l_great_right : Stmt := (top 50)
abbrev N_l_great_right : List Str := ["pot", "own", "grid", "start", "part", "most", "way", "laps", "whole", "cut", "begin", "told", "stays", "later", "due", "step", "number", "more"]
theorem sc_l_great_right : FnScope N_l_great_right ["pot"] (defScope s_l_great_right) := ⟨rfl, rfl, rfl, by decide +kernel, rfl, by decide +kernel, by decide +kernel⟩
abbrev s_l_right : Stmt := (top 51)
abbrev N_l_right : List Str := ["pot"]
theorem sc_l_right : FnScope N_l_right ["pot"] (defScope s_l_right) := ⟨rfl, rfl, rfl, by decide +kernel, rfl, by decide +kernel, by decide +kernel⟩
abbrev s_law : Stmt := (top 52)
abbrev N_law : List Str := ["script", "place"]
theorem sc_law : FnScope N_law ["script"] (defScope s_law) := ⟨rfl, rfl, rfl, by decide +kernel, rfl, by decide +kernel, by decide +kernel⟩
structure Ad where
  is_whole : Addr
  is_whole_fd : FuncData
  is_from_to : Addr
  is_from_to_fd : FuncData
  power : Addr
  power_fd : FuncData
  Grid_init : Addr
  Grid_init_fd : FuncData
  Grid_contains : Addr
  Grid_contains_fd : FuncData
  is_grid : Addr
  is_grid_fd : FuncData
  spacing_at : Addr
  spacing_at_fd : FuncData
  fitted : Addr
  fitted_fd : FuncData
  goes_up : Addr
  goes_up_fd : FuncData
  check_way : Addr
  check_way_fd : FuncData
  drift : Addr
  drift_fd : FuncData
  stall : Addr
  stall_fd : FuncData
  summed : Addr
  summed_fd : FuncData
  laps_ahead : Addr
  laps_ahead_fd : FuncData
  ground_of : Addr
  ground_of_fd : FuncData
  check_laps : Addr
  check_laps_fd : FuncData
  check_summed : Addr
  check_summed_fd : FuncData
  l_pot : Addr
  l_pot_fd : FuncData
  l_take : Addr
  l_take_fd : FuncData
  l_of : Addr
  l_of_fd : FuncData
  l_cells : Addr
  l_cells_fd : FuncData
  l_grid_power : Addr
  l_grid_power_fd : FuncData
  l_grid_more : Addr
  l_grid_more_fd : FuncData
  l_grid_greatest : Addr
  l_grid_greatest_fd : FuncData
  l_grid_spacing : Addr
  l_grid_spacing_fd : FuncData
  l_grid_rounded : Addr
  l_grid_rounded_fd : FuncData
  l_grid_drawn : Addr
  l_grid_drawn_fd : FuncData
  l_grid_a_number : Addr
  l_grid_a_number_fd : FuncData
  l_own_laps : Addr
  l_own_laps_fd : FuncData
  l_small_right : Addr
  l_small_right_fd : FuncData
  l_great_right : Addr
  l_great_right_fd : FuncData
  l_right : Addr
  l_right_fd : FuncData
  law : Addr
  law_fd : FuncData
  Grid : Addr
  WAYS : Addr
structure Txt (K : PySem.W.Frag) (mg : Str → Option Value) (a : Ad) : Prop where
  F_is_whole : Fun K "is_whole" "is_whole" s_is_whole a.is_whole a.is_whole_fd
  B_is_whole : Binds K a.is_whole_fd ["value"] []
  g_is_whole : mg "is_whole" = some (.ref a.is_whole)
  k_is_whole : PySem.W.keepIn K (.ref a.is_whole) = true
  F_is_from_to : Fun K "is_from_to" "is_from_to" s_is_from_to a.is_from_to a.is_from_to_fd
  B_is_from_to : Binds K a.is_from_to_fd ["value", "low", "high"] []
  g_is_from_to : mg "is_from_to" = some (.ref a.is_from_to)
  k_is_from_to : PySem.W.keepIn K (.ref a.is_from_to) = true
  F_power : Fun K "power" "power" s_power a.power a.power_fd
  B_power : Binds K a.power_fd ["base", "exponent"] []
  g_power : mg "power" = some (.ref a.power)
  k_power : PySem.W.keepIn K (.ref a.power) = true
  F_Grid_init : Fun K "__init__" "Grid.__init__" s_Grid_init a.Grid_init a.Grid_init_fd
  B_Grid_init : Binds K a.Grid_init_fd ["self", "base", "figures", "reach", "places"] []
  F_Grid_contains : Fun K "__contains__" "Grid.__contains__" s_Grid_contains a.Grid_contains a.Grid_contains_fd
  B_Grid_contains : Binds K a.Grid_contains_fd ["self", "value"] []
  m_Grid_contains : PySem.W.findIn K (.ref a.Grid) "__contains__" = some (some (.ref a.Grid_contains)) ∧ PySem.W.isFn K (.ref a.Grid_contains) = true
  F_is_grid : Fun K "is_grid" "is_grid" s_is_grid a.is_grid a.is_grid_fd
  B_is_grid : Binds K a.is_grid_fd ["told"] []
  g_is_grid : mg "is_grid" = some (.ref a.is_grid)
  k_is_grid : PySem.W.keepIn K (.ref a.is_grid) = true
  F_spacing_at : Fun K "spacing_at" "spacing_at" s_spacing_at a.spacing_at a.spacing_at_fd
  B_spacing_at : Binds K a.spacing_at_fd ["grid", "size", "more"] []
  g_spacing_at : mg "spacing_at" = some (.ref a.spacing_at)
  k_spacing_at : PySem.W.keepIn K (.ref a.spacing_at) = true
  F_fitted : Fun K "fitted" "fitted" s_fitted a.fitted a.fitted_fd
  B_fitted : Binds K a.fitted_fd ["grid", "top", "bottom", "way", "more"] []
  g_fitted : mg "fitted" = some (.ref a.fitted)
  k_fitted : PySem.W.keepIn K (.ref a.fitted) = true
  F_goes_up : Fun K "goes_up" "goes_up" s_goes_up a.goes_up a.goes_up_fd
  B_goes_up : Binds K a.goes_up_fd ["below", "left", "step", "way"] []
  g_goes_up : mg "goes_up" = some (.ref a.goes_up)
  k_goes_up : PySem.W.keepIn K (.ref a.goes_up) = true
  F_check_way : Fun K "check_way" "check_way" s_check_way a.check_way a.check_way_fd
  B_check_way : Binds K a.check_way_fd ["way"] []
  g_check_way : mg "check_way" = some (.ref a.check_way)
  k_check_way : PySem.W.keepIn K (.ref a.check_way) = true
  F_drift : Fun K "drift" "drift" s_drift a.drift a.drift_fd
  B_drift : Binds K a.drift_fd ["grid", "start", "part", "way", "laps"] []
  g_drift : mg "drift" = some (.ref a.drift)
  k_drift : PySem.W.keepIn K (.ref a.drift) = true
  F_stall : Fun K "stall" "stall" s_stall a.stall a.stall_fd
  B_stall : Binds K a.stall_fd ["grid", "start", "part", "way"] []
  g_stall : mg "stall" = some (.ref a.stall)
  k_stall : PySem.W.keepIn K (.ref a.stall) = true
  F_summed : Fun K "summed" "summed" s_summed a.summed a.summed_fd
  B_summed : Binds K a.summed_fd ["grid", "start", "part", "way", "laps"] []
  g_summed : mg "summed" = some (.ref a.summed)
  k_summed : PySem.W.keepIn K (.ref a.summed) = true
  F_laps_ahead : Fun K "laps_ahead" "laps_ahead" s_laps_ahead a.laps_ahead a.laps_ahead_fd
  B_laps_ahead : Binds K a.laps_ahead_fd ["grid", "state", "number", "part", "way"] []
  g_laps_ahead : mg "laps_ahead" = some (.ref a.laps_ahead)
  k_laps_ahead : PySem.W.keepIn K (.ref a.laps_ahead) = true
  F_ground_of : Fun K "ground_of" "ground_of" s_ground_of a.ground_of a.ground_of_fd
  B_ground_of : Binds K a.ground_of_fd ["grid", "worth"] []
  g_ground_of : mg "ground_of" = some (.ref a.ground_of)
  k_ground_of : PySem.W.keepIn K (.ref a.ground_of) = true
  F_check_laps : Fun K "check_laps" "check_laps" s_check_laps a.check_laps a.check_laps_fd
  B_check_laps : Binds K a.check_laps_fd ["laps"] []
  g_check_laps : mg "check_laps" = some (.ref a.check_laps)
  k_check_laps : PySem.W.keepIn K (.ref a.check_laps) = true
  F_check_summed : Fun K "check_summed" "check_summed" s_check_summed a.check_summed a.check_summed_fd
  B_check_summed : Binds K a.check_summed_fd ["grid", "start", "part", "way"] []
  g_check_summed : mg "check_summed" = some (.ref a.check_summed)
  k_check_summed : PySem.W.keepIn K (.ref a.check_summed) = true
  F_l_pot : Fun K "_law_pot" "_law_pot" s_l_pot a.l_pot a.l_pot_fd
  B_l_pot : Binds K a.l_pot_fd ["script", "place"] []
  g_l_pot : mg "_law_pot" = some (.ref a.l_pot)
  k_l_pot : PySem.W.keepIn K (.ref a.l_pot) = true
  F_l_take : Fun K "_law_take" "_law_take" s_l_take a.l_take a.l_take_fd
  B_l_take : Binds K a.l_take_fd ["pot", "upto"] []
  g_l_take : mg "_law_take" = some (.ref a.l_take)
  k_l_take : PySem.W.keepIn K (.ref a.l_take) = true
  F_l_of : Fun K "_law_of" "_law_of" s_l_of a.l_of a.l_of_fd
  B_l_of : Binds K a.l_of_fd ["pot", "some"] []
  g_l_of : mg "_law_of" = some (.ref a.l_of)
  k_l_of : PySem.W.keepIn K (.ref a.l_of) = true
  F_l_cells : Fun K "_law_cells" "_law_cells" s_l_cells a.l_cells a.l_cells_fd
  B_l_cells : Binds K a.l_cells_fd ["script", "most"] []
  g_l_cells : mg "_law_cells" = some (.ref a.l_cells)
  k_l_cells : PySem.W.keepIn K (.ref a.l_cells) = true
  F_l_grid_power : Fun K "_law_grid_power" "_law_grid_power" s_l_grid_power a.l_grid_power a.l_grid_power_fd
  B_l_grid_power : Binds K a.l_grid_power_fd ["base", "many"] []
  g_l_grid_power : mg "_law_grid_power" = some (.ref a.l_grid_power)
  k_l_grid_power : PySem.W.keepIn K (.ref a.l_grid_power) = true
  F_l_grid_more : Fun K "_law_grid_more" "_law_grid_more" s_l_grid_more a.l_grid_more a.l_grid_more_fd
  B_l_grid_more : Binds K a.l_grid_more_fd ["grid", "more"] []
  g_l_grid_more : mg "_law_grid_more" = some (.ref a.l_grid_more)
  k_l_grid_more : PySem.W.keepIn K (.ref a.l_grid_more) = true
  F_l_grid_greatest : Fun K "_law_grid_greatest" "_law_grid_greatest" s_l_grid_greatest a.l_grid_greatest a.l_grid_greatest_fd
  B_l_grid_greatest : Binds K a.l_grid_greatest_fd ["grid"] []
  g_l_grid_greatest : mg "_law_grid_greatest" = some (.ref a.l_grid_greatest)
  k_l_grid_greatest : PySem.W.keepIn K (.ref a.l_grid_greatest) = true
  F_l_grid_spacing : Fun K "_law_grid_spacing" "_law_grid_spacing" s_l_grid_spacing a.l_grid_spacing a.l_grid_spacing_fd
  B_l_grid_spacing : Binds K a.l_grid_spacing_fd ["grid", "top", "bottom"] []
  g_l_grid_spacing : mg "_law_grid_spacing" = some (.ref a.l_grid_spacing)
  k_l_grid_spacing : PySem.W.keepIn K (.ref a.l_grid_spacing) = true
  F_l_grid_rounded : Fun K "_law_grid_rounded" "_law_grid_rounded" s_l_grid_rounded a.l_grid_rounded a.l_grid_rounded_fd
  B_l_grid_rounded : Binds K a.l_grid_rounded_fd ["grid", "top", "bottom", "way", "more"] []
  g_l_grid_rounded : mg "_law_grid_rounded" = some (.ref a.l_grid_rounded)
  k_l_grid_rounded : PySem.W.keepIn K (.ref a.l_grid_rounded) = true
  F_l_grid_drawn : Fun K "_law_grid_drawn" "_law_grid_drawn" s_l_grid_drawn a.l_grid_drawn a.l_grid_drawn_fd
  B_l_grid_drawn : Binds K a.l_grid_drawn_fd ["pot"] []
  g_l_grid_drawn : mg "_law_grid_drawn" = some (.ref a.l_grid_drawn)
  k_l_grid_drawn : PySem.W.keepIn K (.ref a.l_grid_drawn) = true
  F_l_grid_a_number : Fun K "_law_grid_a_number" "_law_grid_a_number" s_l_grid_a_number a.l_grid_a_number a.l_grid_a_number_fd
  B_l_grid_a_number : Binds K a.l_grid_a_number_fd ["pot", "grid"] []
  g_l_grid_a_number : mg "_law_grid_a_number" = some (.ref a.l_grid_a_number)
  k_l_grid_a_number : PySem.W.keepIn K (.ref a.l_grid_a_number) = true
  F_l_own_laps : Fun K "_law_own_laps" "_law_own_laps" s_l_own_laps a.l_own_laps a.l_own_laps_fd
  B_l_own_laps : Binds K a.l_own_laps_fd ["grid", "state", "part", "way", "laps"] []
  g_l_own_laps : mg "_law_own_laps" = some (.ref a.l_own_laps)
  k_l_own_laps : PySem.W.keepIn K (.ref a.l_own_laps) = true
  F_l_small_right : Fun K "_law_small_right" "_law_small_right" s_l_small_right a.l_small_right a.l_small_right_fd
  B_l_small_right : Binds K a.l_small_right_fd ["pot"] []
  g_l_small_right : mg "_law_small_right" = some (.ref a.l_small_right)
  k_l_small_right : PySem.W.keepIn K (.ref a.l_small_right) = true
  F_l_great_right : Fun K "_law_great_right" "_law_great_right" s_l_great_right a.l_great_right a.l_great_right_fd
  B_l_great_right : Binds K a.l_great_right_fd ["pot"] []
  g_l_great_right : mg "_law_great_right" = some (.ref a.l_great_right)
  k_l_great_right : PySem.W.keepIn K (.ref a.l_great_right) = true
  F_l_right : Fun K "_law_right" "_law_right" s_l_right a.l_right a.l_right_fd
  B_l_right : Binds K a.l_right_fd ["pot"] []
  g_l_right : mg "_law_right" = some (.ref a.l_right)
  k_l_right : PySem.W.keepIn K (.ref a.l_right) = true
  F_law : Fun K "law" "law" s_law a.law a.law_fd
  B_law : Binds K a.law_fd ["script"] []
  g_law : mg "law" = some (.ref a.law)
  k_law : PySem.W.keepIn K (.ref a.law) = true
  cl_Grid : Cls K a.Grid
  mk_Grid : Mk K a.Grid a.Grid_init
  g_Grid : mg "Grid" = some (.ref a.Grid)
  f_Grid_base : NoAttr K a.Grid "base"
  f_Grid_figures : NoAttr K a.Grid "figures"
  f_Grid_reach : NoAttr K a.Grid "reach"
  f_Grid_places : NoAttr K a.Grid "places"
  f_Grid_unit : NoAttr K a.Grid "unit"
  f_Grid_limits : NoAttr K a.Grid "limits"
  f_Grid_tops : NoAttr K a.Grid "tops"
  f_Grid_greatest : NoAttr K a.Grid "greatest"
  c_MOST_FIGURES : ∃ t, mg "MOST_FIGURES" = some (.int 30 t)
  c_MOST_MORE : ∃ t, mg "MOST_MORE" = some (.int 3 t)
  c_MOST_LAPS : ∃ t, mg "MOST_LAPS" = some (.int 1000000000000000000 t)
  g_WAYS : mg "WAYS" = some (.ref a.WAYS)
  t_WAYS : ∀ H, SqT K H a.WAYS [.str "near", .str "down", .str "up", .str "zero"]
  n_isinstance : mg "isinstance" = none
  n_int : mg "int" = none
  n_bool : mg "bool" = none
  n_range : mg "range" = none
  n_tuple : mg "tuple" = none
  n_list : mg "list" = none
  n_abs : mg "abs" = none
  n_sum : mg "sum" = none
  n_len : mg "len" = none
  n_all : mg "all" = none
  n_max : mg "max" = none
  n_min : mg "min" = none
  n_repr : mg "repr" = none
end My

namespace My
/-! ### the mathematics: spacings, rounding near and towards zero, renewed rows -/
def spx (b L n : Nat) : Nat := if h : 2 ≤ b ∧ 1 ≤ L ∧ L ≤ n then 1 + spx b (L * b) n else 0
termination_by n + 1 - L
decreasing_by
  have h2 : L * 2 ≤ L * b := Nat.mul_le_mul_left L h.1
  omega
theorem spx_lt {b L n : Nat} (h : n < L) : spx b L n = 0 := by
  unfold spx
  rw [dif_neg (by omega)]
theorem spx_ge {b L n : Nat} (hb : 2 ≤ b) (hL : 1 ≤ L) (h : L ≤ n) : spx b L n = 1 + spx b (L * b) n := by
  rw [spx, dif_pos ⟨hb, hL, h⟩]
theorem spx_bound {b n : Nat} (hb : 2 ≤ b) : ∀ (k L : Nat), n + 1 - L ≤ k → 1 ≤ L → n < L * b ^ spx b L n
  | 0, L, hk, hL => by
    rw [spx_lt (by omega), Nat.pow_zero]
    omega
  | k + 1, L, hk, hL => by
    by_cases h : n < L
    · rw [spx_lt h, Nat.pow_zero]; omega
    · have h2 : L * 2 ≤ L * b := Nat.mul_le_mul_left L hb
      rw [spx_ge hb hL (by omega), Nat.pow_add, Nat.pow_one, ← Nat.mul_assoc]
      exact spx_bound hb k (L * b) (by omega) (by omega)
theorem spx_up {b L n : Nat} (hb : 2 ≤ b) (hL : 1 ≤ L) : n < L * b ^ spx b L n := spx_bound hb _ L (Nat.le_refl _) hL
theorem spx_low {b n : Nat} (hb : 2 ≤ b) : ∀ (k L : Nat), 1 ≤ L → k < spx b L n → L * b ^ k ≤ n
  | 0, L, hL, h => by
    by_cases h' : n < L
    · rw [spx_lt h'] at h; omega
    · rw [Nat.pow_zero]; omega
  | k + 1, L, hL, h => by
    by_cases h' : n < L
    · rw [spx_lt h'] at h; omega
    · rw [spx_ge hb hL (by omega)] at h
      have h2 : L * 2 ≤ L * b := Nat.mul_le_mul_left L hb
      have := spx_low (n := n) hb k (L * b) (by omega) (by omega)
      rw [Nat.pow_succ, Nat.mul_comm (b ^ k) b, ← Nat.mul_assoc]
      exact this
theorem spx_le {b L n k : Nat} (hb : 2 ≤ b) (hL : 1 ≤ L) (h : n < L * b ^ k) : spx b L n ≤ k := by
  refine Nat.le_of_not_lt fun hk => ?_
  have := spx_low hb k L hL hk
  omega
theorem spx_step {b L n k : Nat} (hb : 2 ≤ b) (hL : 1 ≤ L) (h : L * b ^ k ≤ n) (e : spx b L n = k + spx b (L * b ^ k) n) : spx b L n = (k + 1) + spx b (L * b ^ (k + 1)) n := by
  have hp : 1 ≤ b ^ k := Nat.pow_pos (by omega)
  have : 1 ≤ L * b ^ k := Nat.mul_pos hL hp
  rw [e, spx_ge hb this h, Nat.pow_succ, ← Nat.mul_assoc]
  omega

/-- the spacing at a size -/
def spc (b L n : Nat) : Nat := b ^ spx b L n
theorem spc_pos {b L n : Nat} (hb : 2 ≤ b) : 0 < spc b L n := Nat.pow_pos (by omega)

/-- rounded near, rounded towards zero; without an end -/
def rn (b L : Nat) (t : Int) : Int :=
  if (spc b L t.natAbs : Int) < 2 * (t % (spc b L t.natAbs : Int)) ∨ (2 * (t % (spc b L t.natAbs : Int)) = (spc b L t.natAbs : Int) ∧ t / (spc b L t.natAbs : Int) % 2 = 1) then (t / (spc b L t.natAbs : Int) + 1) * (spc b L t.natAbs : Int)
  else t / (spc b L t.natAbs : Int) * (spc b L t.natAbs : Int)
def rz (b L : Nat) (t : Int) : Int :=
  if 0 < t % (spc b L t.natAbs : Int) ∧ t < 0 then (t / (spc b L t.natAbs : Int) + 1) * (spc b L t.natAbs : Int) else t / (spc b L t.natAbs : Int) * (spc b L t.natAbs : Int)

/-- a grid: base, first integer with too many figures, greatest number -/
structure Gr (b f r L G : Nat) : Prop where
  hb : 2 ≤ b
  hf : 1 ≤ f
  eL : L = b ^ f
  eG : G = (L - 1) * b ^ r
theorem Gr.L1 {b f r L G : Nat} (g : Gr b f r L G) : 2 ≤ L := by
  rw [g.eL]
  have h1 : b ^ 1 ≤ b ^ f := Nat.pow_le_pow_right (by have := g.hb; omega) g.hf
  have := g.hb
  rw [Nat.pow_one] at h1
  omega
theorem Gr.Gl {b f r L G : Nat} (g : Gr b f r L G) : G < L * b ^ r := by
  have hp : 1 ≤ b ^ r := Nat.pow_pos (by have := g.hb; omega)
  have h1 := g.L1
  rw [g.eG]
  have : (L - 1) * b ^ r < L * b ^ r := Nat.mul_lt_mul_of_pos_right (by omega) hp
  exact this
def OnG (b L G : Nat) (n : Int) : Prop := n.natAbs ≤ G ∧ n % (spc b L n.natAbs : Int) = 0

section
variable {b f r L G : Nat}
theorem spx_r (g : Gr b f r L G) {t : Int} (h : t.natAbs ≤ G) : spx b L t.natAbs ≤ r :=
  spx_le g.hb (by have := g.L1; omega) (Nat.lt_of_le_of_lt h g.Gl)
theorem spc_dvd {b L n k : Nat} (h : spx b L n ≤ k) : (spc b L n) ∣ b ^ k := Nat.pow_dvd_pow b h
theorem onG_of (g : Gr b f r L G) {n : Int} {k : Nat} (h : n.natAbs ≤ G) (h1 : n.natAbs < L * b ^ k) (h2 : ((b ^ k : Nat) : Int) ∣ n) : OnG b L G n := by
  refine ⟨h, ?_⟩
  have h3 : spx b L n.natAbs ≤ k := spx_le g.hb (by have := g.L1; omega) h1
  exact Int.emod_eq_zero_of_dvd (Int.dvd_trans (Int.natCast_dvd_natCast.mpr (spc_dvd h3)) h2)
theorem OnG.neg {n : Int} (h : OnG b L G n) : OnG b L G (-n) := by
  unfold OnG at *
  rw [Int.natAbs_neg]
  exact ⟨h.1, Int.emod_eq_zero_of_dvd (Int.dvd_neg.mpr (Int.dvd_of_emod_eq_zero h.2))⟩
/-- the parts of a rounding -/
theorem div_facts (t s : Int) (hs : 0 < s) : t = t / s * s + t % s ∧ 0 ≤ t % s ∧ t % s < s := by
  have h1 := Int.mul_ediv_add_emod t s
  rw [Int.mul_comm] at h1
  exact ⟨h1.symm, Int.emod_nonneg t (by omega), Int.emod_lt_of_pos t hs⟩
theorem spcI_pos (hb : 2 ≤ b) (n : Nat) : (0 : Int) < (spc b L n : Int) := by
  have := spc_pos (L := L) (n := n) hb
  omega
theorem rn_cases (hb : 2 ≤ b) (t : Int) : ∃ q : Int, rn b L t = q * (spc b L t.natAbs : Int) ∧ 2 * (t - rn b L t) ≤ (spc b L t.natAbs : Int) ∧ -(spc b L t.natAbs : Int) ≤ 2 * (t - rn b L t) := by
  have hs := spcI_pos (L := L) hb t.natAbs
  obtain ⟨h1, h2, h3⟩ := div_facts t _ hs
  unfold rn
  generalize (spc b L t.natAbs : Int) = s at *
  generalize t / s = q at *
  generalize t % s = m at *
  split
  · refine ⟨q + 1, rfl, ?_, ?_⟩ <;> rw [Int.add_mul] <;> omega
  · refine ⟨q, rfl, ?_, ?_⟩ <;> omega
theorem rz_cases (hb : 2 ≤ b) (t : Int) : ∃ q : Int, rz b L t = q * (spc b L t.natAbs : Int) ∧ (rz b L t).natAbs ≤ t.natAbs := by
  have hs := spcI_pos (L := L) hb t.natAbs
  obtain ⟨h1, h2, h3⟩ := div_facts t _ hs
  unfold rz
  generalize (spc b L t.natAbs : Int) = s at *
  generalize hq : t / s = q at *
  generalize t % s = m at *
  split
  · refine ⟨q + 1, rfl, ?_⟩
    rename_i hc
    rw [Int.add_mul, Int.one_mul]
    have hq1 : q + 1 ≤ 0 := by
      have : q < 0 := by
        rw [← hq]
        exact Int.ediv_neg_of_neg_of_pos hc.2 hs
      omega
    have : (q + 1) * s ≤ 0 * s := Int.mul_le_mul_of_nonneg_right hq1 (by omega)
    rw [Int.add_mul] at this
    omega
  · refine ⟨q, rfl, ?_⟩
    rename_i hc
    by_cases ht : t < 0
    · have : m = 0 := by omega
      subst this
      rw [h1]; omega
    · have hq0 : 0 ≤ q := by
        rw [← hq]
        exact Int.ediv_nonneg (by omega) (by omega)
      have : 0 * s ≤ q * s := Int.mul_le_mul_of_nonneg_right hq0 (by omega)
      omega
/-- a number of the grid stays -/
theorem rn_self {t : Int} (hb : 2 ≤ b) (h : t % (spc b L t.natAbs : Int) = 0) : rn b L t = t := by
  have hs := spcI_pos (L := L) hb t.natAbs
  obtain ⟨h1, _, _⟩ := div_facts t _ hs
  unfold rn
  rw [h]
  rw [h, Int.add_zero] at h1
  rw [if_neg (by omega)]
  exact h1.symm
/-- within the greatest number there is one to go to -/
theorem mul_within {q s M t : Int} (hs : 0 < s) (h : t ≤ M * s) (h2 : q * s ≤ t) : q * s ≤ M * s := by omega
theorem rn_le (g : Gr b f r L G) {t : Int} (h : t.natAbs ≤ G) : (rn b L t).natAbs ≤ G := by
  have hs := spcI_pos (L := L) g.hb t.natAbs
  have he := spx_r g h
  obtain ⟨h1, h2, h3⟩ := div_facts t _ hs
  have hd : ((spc b L t.natAbs : Nat) : Int) ∣ (G : Int) := by
    refine Int.natCast_dvd_natCast.mpr ?_
    rw [g.eG]
    exact Nat.dvd_trans (spc_dvd he) (Nat.dvd_mul_left _ _)
  obtain ⟨M, hM⟩ := hd
  unfold rn
  generalize (spc b L t.natAbs : Int) = s at *
  generalize t / s = q at *
  generalize t % s = m at *
  have hM' : (G : Int) = M * s := by rw [hM, Int.mul_comm]
  have e1 : q * s ≤ M * s := by omega
  have e2 : -(M * s) ≤ q * s + m := by omega
  have q2 : -M ≤ q := by
    have : (-M) * s < (q + 1) * s := by rw [Int.neg_mul, Int.add_mul]; omega
    have := Int.lt_of_mul_lt_mul_right this (by omega)
    omega
  have e3 : (-M) * s ≤ q * s := Int.mul_le_mul_of_nonneg_right q2 (by omega)
  rw [Int.neg_mul] at e3
  split
  · rename_i hc
    have q1 : q < M := by
      refine Int.lt_of_mul_lt_mul_right (a := s) ?_ (by omega)
      omega
    have e4 : (q + 1) * s ≤ M * s := Int.mul_le_mul_of_nonneg_right (by omega) (by omega)
    have e5 : (-M) * s ≤ (q + 1) * s := Int.mul_le_mul_of_nonneg_right (by omega) (by omega)
    rw [Int.neg_mul] at e5
    omega
  · omega
theorem rz_le (hb : 2 ≤ b) {t : Int} (h : t.natAbs ≤ G) : (rz b L t).natAbs ≤ G := by
  obtain ⟨_, _, h2⟩ := rz_cases (L := L) hb t
  omega
theorem natAbs_mulI (q : Int) (s : Nat) : (q * (s : Int)).natAbs = q.natAbs * s := by rw [Int.natAbs_mul]; rfl
theorem onG_mul (g : Gr b f r L G) {n q : Int} {k : Nat} (h : n.natAbs ≤ G) (h1 : n.natAbs ≤ L * b ^ k) (h2 : n = q * ((b ^ k : Nat) : Int)) : OnG b L G n := by
  by_cases h3 : n.natAbs < L * b ^ k
  · exact onG_of g h h3 ⟨q, by rw [h2, Int.mul_comm]⟩
  · have h4 : n.natAbs = b ^ (f + k) := by rw [Nat.pow_add, ← g.eL]; omega
    refine onG_of (k := k + 1) g h ?_ ?_
    · have h5 : L * b ^ k * 2 ≤ L * b ^ k * b := Nat.mul_le_mul_left _ g.hb
      rw [Nat.pow_succ, ← Nat.mul_assoc]
      have : 0 < L * b ^ k := Nat.mul_pos (by have := g.L1; omega) (Nat.pow_pos (by have := g.hb; omega))
      omega
    · refine Int.ofNat_dvd_left.mpr ?_
      rw [h4]
      exact Nat.pow_dvd_pow b (by have := g.hf; omega)
theorem rn_onG (g : Gr b f r L G) {t : Int} (h : t.natAbs ≤ G) : OnG b L G (rn b L t) := by
  obtain ⟨q, e, h1, h2⟩ := rn_cases (L := L) g.hb t
  have hs := spc_pos (L := L) (n := t.natAbs) g.hb
  have hu : t.natAbs < L * spc b L t.natAbs := spx_up g.hb (by have := g.L1; omega)
  refine onG_mul (k := spx b L t.natAbs) (q := q) g (rn_le g h) ?_ e
  show _ ≤ L * spc b L t.natAbs
  generalize hS : spc b L t.natAbs = S at *
  have e2 : (rn b L t).natAbs = q.natAbs * S := by rw [e, natAbs_mulI]
  have h4 : q.natAbs * S < (L + 1) * S := by
    rw [← e2, Nat.add_mul]
    omega
  have := Nat.lt_of_mul_lt_mul_right h4
  rw [e2]
  exact Nat.mul_le_mul_right S (by omega)
theorem rz_onG (g : Gr b f r L G) {t : Int} (h : t.natAbs ≤ G) : OnG b L G (rz b L t) := by
  obtain ⟨q, e, h1⟩ := rz_cases (L := L) g.hb t
  have hu : t.natAbs < L * spc b L t.natAbs := spx_up g.hb (by have := g.L1; omega)
  exact onG_mul (k := spx b L t.natAbs) (q := q) g (rz_le g.hb h) (by show _ ≤ L * spc b L t.natAbs; omega) e
/-- turned about -/
theorem rn_neg (hb : 2 ≤ b) (t : Int) : rn b L (-t) = -rn b L t := by
  unfold rn
  rw [Int.natAbs_neg]
  have hs := spcI_pos (L := L) hb t.natAbs
  generalize (spc b L t.natAbs : Int) = s at *
  obtain ⟨h1, h2, h3⟩ := div_facts t s hs
  have hd : t % s = 0 → (-t) / s = -(t / s) ∧ (-t) % s = 0 := fun h => by
    have e : -t = -(t / s) * s := by rw [Int.neg_mul]; omega
    exact ⟨by rw [e, Int.mul_ediv_cancel _ (by omega)], by rw [e]; exact Int.mul_emod_left _ _⟩
  have hn : t % s ≠ 0 → (-t) / s = -(t / s) - 1 ∧ (-t) % s = s - t % s := fun h => by
    have e : -t = (s - t % s) + s * (-(t / s) - 1) := by
      rw [Int.mul_sub, Int.mul_neg, Int.mul_comm s (t / s)]
      omega
    constructor
    · rw [e, Int.add_mul_ediv_left _ _ (by omega), Int.ediv_eq_zero_of_lt (by omega) (by omega)]
      omega
    · rw [e, Int.add_mul_emod_self_left]
      exact Int.emod_eq_of_lt (by omega) (by omega)
  by_cases h : t % s = 0
  · obtain ⟨e1, e2⟩ := hd h
    rw [e1, e2, h, if_neg (by omega), if_neg (by omega), Int.neg_mul]
  · obtain ⟨e1, e2⟩ := hn h
    rw [e1, e2]
    generalize t % s = m at *
    generalize t / s = q at *
    by_cases hc : s < 2 * m ∨ 2 * m = s ∧ q % 2 = 1
    · rw [if_pos hc, if_neg (by omega), Int.sub_mul, Int.add_mul, Int.neg_mul]
      omega
    · rw [if_neg hc, if_pos (by omega), Int.add_mul, Int.sub_mul, Int.neg_mul]
      omega
/-- what is left is at most half as great -/
theorem rn_half (g : Gr b f r L G) {t : Int} : 2 * (t - rn b L t).natAbs ≤ t.natAbs := by
  obtain ⟨q, e, h1, h2⟩ := rn_cases (L := L) g.hb t
  by_cases h : spx b L t.natAbs = 0
  · have hsp : spc b L t.natAbs = 1 := by unfold spc; rw [h]; rfl
    have : rn b L t = t := rn_self g.hb (by rw [hsp]; show t % 1 = 0; omega)
    rw [this]; omega
  · have h3 := spx_low (n := t.natAbs) g.hb (spx b L t.natAbs - 1) L (by have := g.L1; omega) (by omega)
    have h4 : spc b L t.natAbs ≤ L * b ^ (spx b L t.natAbs - 1) := by
      have e5 : spc b L t.natAbs = b * b ^ (spx b L t.natAbs - 1) := by
        unfold spc
        rw [Nat.mul_comm, ← Nat.pow_succ]
        congr 1
        omega
      rw [e5]
      refine Nat.mul_le_mul_right _ ?_
      rw [g.eL]
      have h1 : b ^ 1 ≤ b ^ f := Nat.pow_le_pow_right (by have := g.hb; omega) g.hf
      rwa [Nat.pow_one] at h1
    omega
/-- the renewed row -/
def pts (b L : Nat) : Nat → Int → List Int
  | 0, _ => []
  | k + 1, t => if t = 0 then [] else rn b L t :: pts b L k (t - rn b L t)
theorem pts_zero (k : Nat) : pts b L k 0 = [] := by cases k <;> rfl
theorem pts_fuel (g : Gr b f r L G) : ∀ (k j : Nat) (t : Int), t.natAbs ≤ k → t.natAbs ≤ j → pts b L k t = pts b L j t
  | 0, j, t, h1, h2 => by
    have : t = 0 := by omega
    subst this
    rw [pts_zero, pts_zero]
  | k + 1, 0, t, h1, h2 => by
    have : t = 0 := by omega
    subst this
    rw [pts_zero, pts_zero]
  | k + 1, j + 1, t, h1, h2 => by
    unfold pts
    by_cases h : t = 0
    · rw [if_pos h, if_pos h]
    · have := rn_half g (t := t)
      rw [if_neg h, if_neg h, pts_fuel g k j _ (by omega) (by omega)]
def row (b L : Nat) (t : Int) : List Int := pts b L t.natAbs t
theorem row_zero : row b L 0 = [] := rfl
theorem row_cons (g : Gr b f r L G) {t : Int} (h : t ≠ 0) : row b L t = rn b L t :: row b L (t - rn b L t) := by
  have h1 := rn_half g (t := t)
  unfold row
  obtain ⟨k, hk⟩ : ∃ k, t.natAbs = k + 1 := ⟨t.natAbs - 1, by omega⟩
  rw [hk]
  show (if t = 0 then [] else rn b L t :: pts b L k (t - rn b L t)) = _
  rw [if_neg h, pts_fuel g k _ _ (by omega) (Nat.le_refl _)]
theorem row_ind (g : Gr b f r L G) {P : Int → Prop} (h0 : P 0) (hs : ∀ t, t ≠ 0 → P (t - rn b L t) → P t) (t : Int) : P t := by
  have : ∀ (k : Nat) (t : Int), t.natAbs ≤ k → P t := by
    intro k
    induction k with
    | zero => intro t h; have : t = 0 := by omega
              subst this; exact h0
    | succ k ih =>
      intro t h
      by_cases h2 : t = 0
      · subst h2; exact h0
      · have := rn_half g (t := t)
        exact hs t h2 (ih _ (by omega))
  exact this _ t (Nat.le_refl _)
theorem row_sum (g : Gr b f r L G) (t : Int) : (row b L t).sum = t := by
  refine row_ind g (P := fun t => (row b L t).sum = t) rfl (fun t h ih => ?_) t
  rw [row_cons g h, List.sum_cons, ih]
  omega
theorem row_neg (g : Gr b f r L G) (t : Int) : row b L (-t) = (row b L t).map (fun x => -x) := by
  refine row_ind g (P := fun t => row b L (-t) = (row b L t).map (fun x => -x)) rfl (fun t h ih => ?_) t
  rw [row_cons g h, row_cons g (t := -t) (by omega), rn_neg g.hb, List.map_cons, ← ih]
  have : -t - -rn b L t = -(t - rn b L t) := by omega
  rw [this]
theorem row_onG (g : Gr b f r L G) (t : Int) (h : t.natAbs ≤ G) : ∀ x ∈ row b L t, OnG b L G x := by
  have := row_ind g (P := fun t => t.natAbs ≤ G → ∀ x ∈ row b L t, OnG b L G x) (fun _ x hx => by cases hx) (fun t h ih hG x hx => ?_) t
  · exact this h
  · rw [row_cons g h] at hx
    have := rn_half g (t := t)
    rcases List.mem_cons.mp hx with rfl | hx
    · exact rn_onG g hG
    · exact ih (by omega) x hx
theorem row_len (g : Gr b f r L G) (t : Int) (n : Nat) (h : t.natAbs < 2 ^ n) : (row b L t).length ≤ n := by
  have := row_ind g (P := fun t => ∀ n, t.natAbs < 2 ^ n → (row b L t).length ≤ n) (fun n _ => Nat.zero_le _) (fun t h ih n hn => ?_) t
  · exact this n h
  · rw [row_cons g h, List.length_cons]
    have h2 := rn_half g (t := t)
    obtain ⟨m, rfl⟩ : ∃ m, n = m + 1 := ⟨n - 1, by
      cases n with
      | zero => simp at hn; omega
      | succ n => rfl⟩
    have := ih m (by rw [Nat.pow_succ] at hn; omega)
    omega
/-- a product: what is left is a number of the grid -/
theorem prod_left (g : Gr b f r L G) {x y : Int} (hx : OnG b L G x) (hy : OnG b L G y) : ∃ k, ((x * y - rn b L (x * y)).natAbs < L * b ^ k) ∧ ((b ^ k : Nat) : Int) ∣ (x * y - rn b L (x * y)) := by
  have hL := g.L1
  obtain ⟨q, e, h1, h2⟩ := rn_cases (L := L) g.hb (x * y)
  have hd : ((b ^ (spx b L x.natAbs + spx b L y.natAbs) : Nat) : Int) ∣ x * y := by
    rw [Nat.pow_add, Int.natCast_mul]
    exact Int.mul_dvd_mul (Int.dvd_of_emod_eq_zero hx.2) (Int.dvd_of_emod_eq_zero hy.2)
  have ux := spx_up (n := x.natAbs) (L := L) g.hb (by omega)
  have uy := spx_up (n := y.natAbs) (L := L) g.hb (by omega)
  generalize hk : spx b L x.natAbs + spx b L y.natAbs = k at *
  have hw : (x * y).natAbs < L * L * b ^ k := by
    rw [Int.natAbs_mul, ← hk, Nat.pow_add, Nat.mul_mul_mul_comm]
    exact Nat.mul_lt_mul'' ux uy
  by_cases h : spx b L (x * y).natAbs ≤ k
  · refine ⟨0, ?_⟩
    have : rn b L (x * y) = x * y := rn_self g.hb (Int.emod_eq_zero_of_dvd (Int.dvd_trans (Int.natCast_dvd_natCast.mpr (spc_dvd h)) hd))
    rw [this, Int.sub_self]
    refine ⟨by show 0 < L * b ^ 0; rw [Nat.pow_zero]; omega, ⟨0, by simp⟩⟩
  · have h3 := spx_low (n := (x * y).natAbs) g.hb (spx b L (x * y).natAbs - 1) L (by omega) (by omega)
    generalize hE : spx b L (x * y).natAbs = E at *
    have h4 : b ^ (E - 1) < b ^ (f + k) := by
      rw [Nat.pow_add, ← g.eL]
      have : L * b ^ (E - 1) < L * (L * b ^ k) := by rw [← Nat.mul_assoc]; omega
      exact Nat.lt_of_mul_lt_mul_left this
    have h5 : E - 1 < f + k := (Nat.pow_lt_pow_iff_right (by have := g.hb; omega)).mp h4
    have h6 : spc b L (x * y).natAbs ≤ L * b ^ k := by
      unfold spc
      rw [hE, g.eL, ← Nat.pow_add]
      exact Nat.pow_le_pow_right (by have := g.hb; omega) (by omega)
    refine ⟨k, ?_, ?_⟩
    · have : 0 < L * b ^ k := Nat.mul_pos (by omega) (Nat.pow_pos (by have := g.hb; omega))
      omega
    · refine Int.dvd_sub hd ?_
      rw [e]
      refine Int.dvd_trans (Int.natCast_dvd_natCast.mpr ?_) (Int.dvd_mul_left _ _)
      unfold spc
      rw [hE]
      exact Nat.pow_dvd_pow b (by omega)
theorem prod_row (g : Gr b f r L G) {x y : Int} (hx : OnG b L G x) (hy : OnG b L G y) :
    row b L (x * y) = if x * y = 0 then [] else if rn b L (x * y) = x * y then [x * y] else [rn b L (x * y), x * y - rn b L (x * y)] := by
  by_cases h : x * y = 0
  · rw [if_pos h, h]; rfl
  · rw [if_neg h, row_cons g h]
    by_cases h2 : rn b L (x * y) = x * y
    · rw [if_pos h2, h2, Int.sub_self]; rfl
    · rw [if_neg h2]
      obtain ⟨k, h3, h4⟩ := prod_left g hx hy
      have h5 : spx b L (x * y - rn b L (x * y)).natAbs ≤ k := spx_le g.hb (by have := g.L1; omega) h3
      have h6 : rn b L (x * y - rn b L (x * y)) = x * y - rn b L (x * y) := rn_self g.hb (Int.emod_eq_zero_of_dvd (Int.dvd_trans (Int.natCast_dvd_natCast.mpr (spc_dvd h5)) h4))
      rw [row_cons g (by omega), h6, Int.sub_self]
      rfl
theorem onG_small (g : Gr b f r L G) {n : Nat} (h : n < L) : OnG b L G (n : Int) := by
  have hp : 1 ≤ b ^ r := Nat.pow_pos (by have := g.hb; omega)
  have : L - 1 ≤ G := by rw [g.eG]; exact Nat.le_mul_of_pos_right _ hp
  exact onG_of (k := 0) g (by omega) (by rw [Nat.pow_zero]; omega) ⟨n, by simp⟩
theorem onG_rung (g : Gr b f r L G) {n k : Nat} (h : n < L) (hk : k ≤ r) : OnG b L G ((b ^ k * n : Nat) : Int) := by
  have hp : b ^ k ≤ b ^ r := Nat.pow_le_pow_right (by have := g.hb; omega) hk
  refine onG_of (k := k) g ?_ ?_ ?_
  · rw [Int.natAbs_natCast, g.eG, Nat.mul_comm]
    exact Nat.mul_le_mul (by omega) hp
  · rw [Int.natAbs_natCast, Nat.mul_comm]
    exact Nat.mul_lt_mul_of_pos_right h (Nat.pow_pos (by have := g.hb; omega))
  · exact Int.natCast_dvd_natCast.mpr (Nat.dvd_mul_right _ _)
end
end My

namespace My
section
variable {b f r L G : Nat}
theorem rn_near_mul (hb : 2 ≤ b) {w y : Int} (h : ((spc b L w.natAbs : Nat) : Int) ∣ y) : (w - rn b L w).natAbs ≤ (w - y).natAbs := by
  have hs := spcI_pos (L := L) hb w.natAbs
  obtain ⟨q, e, h1, h2⟩ := rn_cases (L := L) hb w
  obtain ⟨m, hm⟩ := h
  generalize ((spc b L w.natAbs : Nat) : Int) = s at *
  rw [hm]
  rw [e] at h1 h2 ⊢
  have hc : s * m = m * s := Int.mul_comm _ _
  rw [hc]
  by_cases hqm : m = q
  · rw [hqm]; exact Nat.le_refl _
  · have hd : (m - q) * s = m * s - q * s := Int.sub_mul _ _ _
    rcases Int.lt_or_gt_of_ne hqm with h3 | h3
    · have : (m - q) * s ≤ (-1) * s := Int.mul_le_mul_of_nonneg_right (by omega) (by omega)
      omega
    · have : 1 * s ≤ (m - q) * s := Int.mul_le_mul_of_nonneg_right (by omega) (by omega)
      omega
theorem rn_near (g : Gr b f r L G) {w x : Int} (hx : OnG b L G x) : (w - rn b L w).natAbs ≤ (w - x).natAbs := by
  have hL := g.L1
  by_cases h : spx b L w.natAbs ≤ spx b L x.natAbs
  · exact rn_near_mul g.hb (Int.dvd_trans (Int.natCast_dvd_natCast.mpr (Nat.pow_dvd_pow b h)) (Int.dvd_of_emod_eq_zero hx.2))
  · have ux := spx_up (n := x.natAbs) (L := L) g.hb (by omega)
    have lw := spx_low (n := w.natAbs) g.hb (spx b L w.natAbs - 1) L (by omega) (by omega)
    have hxB : x.natAbs < L * b ^ (spx b L w.natAbs - 1) :=
      Nat.lt_of_lt_of_le ux (Nat.mul_le_mul_left _ (Nat.pow_le_pow_right (by have := g.hb; omega) (by omega)))
    have hdB : spc b L w.natAbs ∣ L * b ^ (spx b L w.natAbs - 1) := by
      rw [g.eL, ← Nat.pow_add]
      exact Nat.pow_dvd_pow b (by have := g.hf; omega)
    generalize L * b ^ (spx b L w.natAbs - 1) = B at *
    by_cases hw : 0 ≤ w
    · have := rn_near_mul (L := L) g.hb (w := w) (y := (B : Int)) (Int.natCast_dvd_natCast.mpr hdB)
      omega
    · have := rn_near_mul (L := L) g.hb (w := w) (y := -(B : Int)) (Int.dvd_neg.mpr (Int.natCast_dvd_natCast.mpr hdB))
      omega
theorem sum_left (g : Gr b f r L G) {x y : Int} (hx : OnG b L G x) (hy : OnG b L G y) :
    OnG b L G (x + y - rn b L (x + y)) ∧ (x + y - rn b L (x + y)).natAbs ≤ x.natAbs ∧ (x + y - rn b L (x + y)).natAbs ≤ y.natAbs := by
  have hL := g.L1
  have n1 := rn_near (w := x + y) g hx
  have n2 := rn_near (w := x + y) g hy
  have e1 : x + y - x = y := by omega
  have e2 : x + y - y = x := by omega
  rw [e1] at n1
  rw [e2] at n2
  refine ⟨?_, n2, n1⟩
  have ux := spx_up (n := x.natAbs) (L := L) g.hb (by omega)
  have uy := spx_up (n := y.natAbs) (L := L) g.hb (by omega)
  have dx := Int.dvd_of_emod_eq_zero hx.2
  have dy := Int.dvd_of_emod_eq_zero hy.2
  obtain ⟨q, e, h1, h2⟩ := rn_cases (L := L) g.hb (x + y)
  have key : ∀ k, ((b ^ k : Nat) : Int) ∣ x → ((b ^ k : Nat) : Int) ∣ y → (x + y - rn b L (x + y)).natAbs < L * b ^ k → OnG b L G (x + y - rn b L (x + y)) := by
    intro k kx ky hlt
    by_cases h : spx b L (x + y).natAbs ≤ k
    · have : rn b L (x + y) = x + y := rn_self g.hb (Int.emod_eq_zero_of_dvd (Int.dvd_trans (Int.natCast_dvd_natCast.mpr (spc_dvd h)) (Int.dvd_add kx ky)))
      rw [this, Int.sub_self]
      exact onG_small (n := 0) g (by omega)
    · refine onG_of (k := k) g (Nat.le_trans n1 hy.1) hlt (Int.dvd_sub (Int.dvd_add kx ky) ?_)
      rw [e]
      exact Int.dvd_trans (Int.natCast_dvd_natCast.mpr (Nat.pow_dvd_pow b (by omega))) (Int.dvd_mul_left _ _)
  by_cases h : spx b L x.natAbs ≤ spx b L y.natAbs
  · exact key _ dx (Int.dvd_trans (Int.natCast_dvd_natCast.mpr (Nat.pow_dvd_pow b h)) dy) (Nat.lt_of_le_of_lt n2 ux)
  · exact key _ (Int.dvd_trans (Int.natCast_dvd_natCast.mpr (Nat.pow_dvd_pow b (by omega))) dx) dy (Nat.lt_of_le_of_lt n1 uy)
/-- adding up, each addition rounded -/
def psum (b L G : Nat) : Int → List Int → List Int → Option (Int × List Int)
  | t, [], acc => some (t, acc)
  | t, x :: xs, acc => if (rn b L (t + x)).natAbs ≤ G then psum b L G (rn b L (t + x)) xs (acc ++ [t + x - rn b L (t + x)]) else none
theorem psum_facts (g : Gr b f r L G) : ∀ (xs : List Int) (t : Int) (acc : List Int) (p : Int × List Int), psum b L G t xs acc = some p → OnG b L G t → (∀ x ∈ xs, OnG b L G x) → (∀ x ∈ acc, OnG b L G x) →
    OnG b L G p.1 ∧ (∀ x ∈ p.2, OnG b L G x) ∧ p.1 + p.2.sum = t + xs.sum + acc.sum ∧ p.2.length = acc.length + xs.length
  | [], t, acc, p, h, ht, _, ha => by
    cases h
    exact ⟨ht, ha, by simp, by simp⟩
  | x :: xs, t, acc, p, h, ht, hx, ha => by
    unfold psum at h
    by_cases hc : (rn b L (t + x)).natAbs ≤ G
    · rw [if_pos hc] at h
      have hx0 := hx x List.mem_cons_self
      obtain ⟨s1, _, _⟩ := sum_left g ht hx0
      have hr : OnG b L G (rn b L (t + x)) := by
        obtain ⟨q, e, h1, h2⟩ := rn_cases (L := L) g.hb (t + x)
        have hu : (t + x).natAbs < L * spc b L (t + x).natAbs := spx_up g.hb (by have := g.L1; omega)
        have hs := spc_pos (L := L) (n := (t + x).natAbs) g.hb
        refine onG_mul (k := spx b L (t + x).natAbs) (q := q) g hc ?_ e
        show _ ≤ L * spc b L (t + x).natAbs
        generalize spc b L (t + x).natAbs = S at *
        have e2 : (rn b L (t + x)).natAbs = q.natAbs * S := by rw [e, natAbs_mulI]
        have h4 : q.natAbs * S < (L + 1) * S := by
          rw [← e2, Nat.add_mul]
          omega
        have := Nat.lt_of_mul_lt_mul_right h4
        rw [e2]
        exact Nat.mul_le_mul_right S (by omega)
      have ih := psum_facts g xs _ _ p h hr (fun y hy => hx y (List.mem_cons_of_mem _ hy)) (fun y hy => by
        rcases List.mem_append.mp hy with hy | hy
        · exact ha y hy
        · rw [List.mem_singleton.mp hy]; exact s1)
      obtain ⟨i1, i2, i3, i4⟩ := ih
      refine ⟨i1, i2, ?_, ?_⟩
      · rw [i3, List.sum_append, List.sum_cons, List.sum_cons, List.sum_nil]
        omega
      · rw [i4]
        simp
        omega
    · rw [if_neg hc] at h
      cases h
theorem onG_two (g : Gr b f r L G) {d : Int} (h0 : 0 ≤ d) (h2 : d < 3) (hG : d.natAbs ≤ G) : OnG b L G d := by
  by_cases h : d.natAbs < L
  · have := onG_small (n := d.natAbs) g h
    have e : ((d.natAbs : Nat) : Int) = d := by omega
    rwa [e] at this
  · have hL := g.L1
    have hd : d = 2 := by omega
    have hL2 : L = 2 := by omega
    subst hd
    have hb2 : b = 2 := by
      have h1 : b ^ 1 ≤ b ^ f := Nat.pow_le_pow_right (by have := g.hb; omega) g.hf
      rw [← g.eL, Nat.pow_one] at h1
      have := g.hb
      omega
    have hr : 1 ≤ r := by
      refine Nat.one_le_iff_ne_zero.mpr fun z => ?_
      have := g.eG
      rw [z, hL2, Nat.pow_zero] at this
      have h3 : (2 : Int).natAbs = 2 := rfl
      omega
    have := onG_rung (n := 1) (k := 1) g (by omega) hr
    rw [hb2] at this ⊢
    exact this
theorem onG_top (g : Gr b f r L G) : OnG b L G (G : Int) := by
  have := onG_rung (n := L - 1) (k := r) g (by have := g.L1; omega) (Nat.le_refl _)
  have e : b ^ r * (L - 1) = G := by rw [g.eG, Nat.mul_comm]
  rwa [e] at this
end
end My

namespace My
section
variable {b f r L G : Nat}
theorem rn_onG2 (g : Gr b f r L G) {t : Int} (h : (rn b L t).natAbs ≤ G) : OnG b L G (rn b L t) := by
  obtain ⟨q, e, h1, h2⟩ := rn_cases (L := L) g.hb t
  have hu : t.natAbs < L * spc b L t.natAbs := spx_up g.hb (by have := g.L1; omega)
  have hs := spc_pos (L := L) (n := t.natAbs) g.hb
  refine onG_mul (k := spx b L t.natAbs) (q := q) g h ?_ e
  show _ ≤ L * spc b L t.natAbs
  generalize spc b L t.natAbs = S at *
  have e2 : (rn b L t).natAbs = q.natAbs * S := by rw [e, natAbs_mulI]
  have h4 : q.natAbs * S < (L + 1) * S := by
    rw [← e2, Nat.add_mul]
    omega
  have := Nat.lt_of_mul_lt_mul_right h4
  rw [e2]
  exact Nat.mul_le_mul_right S (by omega)
theorem rn_mono (g : Gr b f r L G) {x y : Int} (hx : (rn b L x).natAbs ≤ G) (hy : (rn b L y).natAbs ≤ G) (h : x ≤ y) : rn b L x ≤ rn b L y := by
  by_cases e : x = y
  · subst e; exact Int.le_refl _
  · have n1 := rn_near (w := x) g (rn_onG2 g hy)
    have n2 := rn_near (w := y) g (rn_onG2 g hx)
    omega
/-- the sign -/
def sgn (t : Int) : Int := if t < 0 then -1 else if 0 < t then 1 else 0
theorem sgn_neg (t : Int) : sgn (-t) = -sgn t := by
  unfold sgn
  split <;> split <;> (try split) <;> omega
theorem sgn_cases (t : Int) : -1 ≤ sgn t ∧ sgn t ≤ 1 := by
  unfold sgn
  split <;> (try split) <;> omega
theorem sgn_cross (g : Gr b f r L G) {x y : Int} (hx : (rn b L x).natAbs ≤ G) (hy : (rn b L y).natAbs ≤ G) : sgn (rn b L x - rn b L y) = 0 ∨ sgn (rn b L x - rn b L y) = sgn (x - y) := by
  rcases Int.lt_trichotomy x y with h | h | h
  · have := rn_mono g hx hy (by omega)
    unfold sgn
    (repeat' split) <;> omega
  · subst h
    rw [Int.sub_self, Int.sub_self]
    exact .inr rfl
  · have := rn_mono g hy hx (by omega)
    unfold sgn
    (repeat' split) <;> omega
theorem rn_sgn (g : Gr b f r L G) (t : Int) : sgn (rn b L t) = sgn t := by
  have := rn_half g (t := t)
  unfold sgn
  (repeat' split) <;> omega
theorem rn_zero (hb : 2 ≤ b) : rn b L 0 = 0 := rn_self hb (by simp)
theorem rn_spx (g : Gr b f r L G) (t : Int) : spx b L t.natAbs ≤ spx b L (rn b L t).natAbs := by
  have hL := g.L1
  refine Nat.le_of_not_lt fun hlt => ?_
  have he : 0 < spx b L t.natAbs := by omega
  have lw := spx_low (n := t.natAbs) g.hb (spx b L t.natAbs - 1) L (by omega) (by omega)
  have up := spx_up (n := (rn b L t).natAbs) (L := L) g.hb (by omega)
  have hle : L * b ^ spx b L (rn b L t).natAbs ≤ L * b ^ (spx b L t.natAbs - 1) := Nat.mul_le_mul_left _ (Nat.pow_le_pow_right (by have := g.hb; omega) (by omega))
  have hd : spc b L t.natAbs ∣ L * b ^ (spx b L t.natAbs - 1) := by
    rw [g.eL, ← Nat.pow_add]
    exact Nat.pow_dvd_pow b (by have := g.hf; omega)
  generalize L * b ^ (spx b L t.natAbs - 1) = B at *
  have hh := rn_half g (t := t)
  by_cases ht : 0 ≤ t
  · have := rn_near_mul (L := L) g.hb (w := t) (y := (B : Int)) (Int.natCast_dvd_natCast.mpr hd)
    omega
  · have := rn_near_mul (L := L) g.hb (w := t) (y := -(B : Int)) (Int.dvd_neg.mpr (Int.natCast_dvd_natCast.mpr hd))
    omega
theorem rn_spc (g : Gr b f r L G) (t : Int) : spc b L t.natAbs ≤ spc b L (rn b L t).natAbs := Nat.pow_le_pow_right (by have := g.hb; omega) (rn_spx g t)
theorem pow_odd {b n : Nat} (h : b ^ n % 2 = 1) (hn : 0 < n) : b % 2 = 1 := by
  rcases Nat.mod_two_eq_zero_or_one b with h0 | h1
  · rw [Nat.pow_mod, h0, Nat.zero_pow hn] at h
    simp at h
  · exact h1
theorem odd_pow {b n : Nat} (h : b % 2 = 1) : b ^ n % 2 = 1 := by
  rw [Nat.pow_mod, h, Nat.one_pow]
theorem rn_fits (g : Gr b f r L G) {e : Nat} {t : Int} (h : 2 * t.natAbs ≤ b ^ e) : 2 * (rn b L t).natAbs ≤ b ^ e := by
  by_cases h0 : t = 0
  · rw [h0, rn_zero g.hb]; simp
  have hb := g.hb
  have hL := g.L1
  have he : 0 < e := by
    refine Nat.pos_of_ne_zero fun z => ?_
    rw [z, Nat.pow_zero] at h
    omega
  have hbL : b ≤ L := by
    have h1 : b ^ 1 ≤ b ^ f := Nat.pow_le_pow_right (by omega) g.hf
    rw [Nat.pow_one, ← g.eL] at h1
    exact h1
  have hk : spx b L t.natAbs ≤ e - 1 := by
    refine spx_le hb (by omega) ?_
    have h1 : b * b ^ (e - 1) ≤ L * b ^ (e - 1) := Nat.mul_le_mul_right _ hbL
    have h2 : b ^ e = b * b ^ (e - 1) := by
      rw [Nat.mul_comm, ← Nat.pow_succ]
      congr 1
      omega
    omega
  obtain ⟨q, eq, h1, h2⟩ := rn_cases (L := L) hb t
  have hs := spc_pos (L := L) (n := t.natAbs) hb
  have hc : b ^ e = b ^ (e - spx b L t.natAbs) * spc b L t.natAbs := by
    unfold spc
    rw [← Nat.pow_add]
    congr 1
    omega
  have e2 : (rn b L t).natAbs = q.natAbs * spc b L t.natAbs := by rw [eq, natAbs_mulI]
  refine Nat.le_of_not_lt fun hlt => ?_
  have hodd := @pow_odd b (e - spx b L t.natAbs)
  have hod2 := @odd_pow b e
  generalize spc b L t.natAbs = S at *
  generalize hcd : b ^ (e - spx b L t.natAbs) = c at *
  rw [e2, hc] at hlt
  have hlt' : c * S < 2 * q.natAbs * S := by rw [Nat.mul_assoc]; exact hlt
  have h3 := Nat.lt_of_mul_lt_mul_right hlt'
  have h4 : (c + 1) * S ≤ 2 * q.natAbs * S := Nat.mul_le_mul_right _ h3
  rw [Nat.add_mul, Nat.one_mul, Nat.mul_assoc, ← e2] at h4
  have h5 : 2 * (rn b L t).natAbs = (c + 1) * S := by
    rw [Nat.add_mul, Nat.one_mul]
    omega
  have h6 : 2 * t.natAbs = b ^ e := by
    rw [Nat.add_mul, Nat.one_mul] at h5
    omega
  have h7 : 2 * q.natAbs = c + 1 := by
    rw [e2, ← Nat.mul_assoc] at h5
    exact Nat.mul_right_cancel hs h5
  have h8 := hod2 (hodd (by omega) (by omega))
  omega
theorem rn_next (g : Gr b f r L G) (t : Int) : 2 * (rn b L (t - rn b L t)).natAbs ≤ spc b L (rn b L t).natAbs := by
  obtain ⟨q, e, h1, h2⟩ := rn_cases (L := L) g.hb t
  have h3 : 2 * (t - rn b L t).natAbs ≤ b ^ spx b L t.natAbs := by
    show _ ≤ spc b L t.natAbs
    omega
  exact Nat.le_trans (rn_fits g h3) (rn_spc g t)
theorem row_next (g : Gr b f r L G) (t : Int) : ∀ (i : Nat) (x y : Int), (row b L t)[i]? = some x → (row b L t)[i + 1]? = some y → y ≠ 0 ∧ 2 * y.natAbs ≤ spc b L x.natAbs := by
  refine row_ind g (P := fun t => ∀ (i : Nat) (x y : Int), (row b L t)[i]? = some x → (row b L t)[i + 1]? = some y → y ≠ 0 ∧ 2 * y.natAbs ≤ spc b L x.natAbs) (fun i x y h _ => by cases h) (fun t h ih i x y hx hy => ?_) t
  rw [row_cons g h] at hx hy
  cases i with
  | succ i => exact ih i x y hx hy
  | zero =>
    cases hx
    have hy : (row b L (t - rn b L t))[0]? = some y := hy
    by_cases h0 : t - rn b L t = 0
    · rw [h0] at hy
      cases hy
    · rw [row_cons g h0] at hy
      cases hy
      refine ⟨?_, rn_next g t⟩
      have := rn_half g (t := t - rn b L t)
      omega
theorem row_empty (g : Gr b f r L G) {t : Int} : row b L t = [] ↔ t = 0 := by
  constructor
  · intro h
    by_cases h0 : t = 0
    · exact h0
    · rw [row_cons g h0] at h
      cases h
  · intro h
    rw [h]; rfl
/-! ranks -/
def rk (b L n : Nat) : Nat := n / spc b L n + spx b L n * (L - L / b)
theorem div_b (g : Gr b f r L G) : 1 ≤ L / b ∧ L / b < L := by
  have hb := g.hb
  have h1 : b ^ 1 ≤ b ^ f := Nat.pow_le_pow_right (by omega) g.hf
  rw [Nat.pow_one, ← g.eL] at h1
  exact ⟨(Nat.one_le_div_iff (by omega)).mpr h1, Nat.div_lt_self (by omega) (by omega)⟩
theorem spx_top (g : Gr b f r L G) : spx b L G = r := by
  have hL := g.L1
  have h1 : spx b L G ≤ r := spx_le g.hb (by omega) g.Gl
  refine Nat.le_antisymm h1 (Nat.le_of_not_lt fun hlt => ?_)
  have up := spx_up (n := G) (L := L) g.hb (by omega)
  have hle : L * b ^ spx b L G ≤ L * b ^ (r - 1) := Nat.mul_le_mul_left _ (Nat.pow_le_pow_right (by have := g.hb; omega) (by omega))
  have h2 : b ^ r = b * b ^ (r - 1) := by
    rw [Nat.mul_comm, ← Nat.pow_succ]
    congr 1
    omega
  have h3 : L ≤ (L - 1) * b := by
    have : (L - 1) * 2 ≤ (L - 1) * b := Nat.mul_le_mul_left _ g.hb
    omega
  have h4 : L * b ^ (r - 1) ≤ (L - 1) * b * b ^ (r - 1) := Nat.mul_le_mul_right _ h3
  rw [Nat.mul_assoc, ← h2, ← g.eG] at h4
  omega
theorem rk_top (g : Gr b f r L G) : rk b L G = (L - 1) + r * (L - L / b) := by
  unfold rk spc
  rw [spx_top g]
  congr 1
  rw [g.eG]
  exact Nat.mul_div_cancel _ (Nat.pow_pos (by have := g.hb; omega))
theorem rk_lt (g : Gr b f r L G) {n : Nat} (h : n < G) : rk b L n < rk b L G := by
  have hL := g.L1
  have hp := spc_pos (L := L) (n := n) g.hb
  have hr : spx b L n ≤ r := spx_le g.hb (by omega) (Nat.lt_trans h g.Gl)
  obtain ⟨d1, d2⟩ := div_b g
  have hm : n / spc b L n < L := (Nat.div_lt_iff_lt_mul hp).mpr (spx_up g.hb (by omega))
  rw [rk_top g]
  unfold rk
  by_cases he : spx b L n = r
  · have : n / spc b L n < L - 1 := by
      refine (Nat.div_lt_iff_lt_mul hp).mpr ?_
      unfold spc
      rw [he, ← g.eG]
      exact h
    rw [he]
    omega
  · have : (spx b L n + 1) * (L - L / b) ≤ r * (L - L / b) := Nat.mul_le_mul_right _ (by omega)
    rw [Nat.add_mul] at this
    omega
theorem rk_le (g : Gr b f r L G) {n : Nat} (h : n ≤ G) : rk b L n ≤ rk b L G := by
  by_cases e : n = G
  · rw [e]; exact Nat.le_refl _
  · exact Nat.le_of_lt (rk_lt g (by omega))
theorem rk_pos (g : Gr b f r L G) : 1 ≤ rk b L G := by
  rw [rk_top g]
  have := g.L1
  omega
theorem rk_sz (g : Gr b f r L G) {n : Nat} (h : n ≤ G) : rk b L n ≤ L + r * L := by
  have h1 := rk_le g h
  rw [rk_top g] at h1
  have : r * (L - L / b) ≤ r * L := Nat.mul_le_mul_left _ (Nat.sub_le _ _)
  omega
def lev (b L k : Nat) : Nat := (k - L / b) / (L - L / b)
theorem lev_facts (g : Gr b f r L G) {k : Nat} (h : k ≤ rk b L G) : lev b L k ≤ r ∧ lev b L k * (L - L / b) ≤ k ∧ k - lev b L k * (L - L / b) < L := by
  obtain ⟨d1, d2⟩ := div_b g
  rw [rk_top g] at h
  unfold lev
  generalize L / b = q at *
  have hs : 0 < L - q := by omega
  have hm := Nat.div_add_mod (k - q) (L - q)
  have hl := Nat.mod_lt (k - q) hs
  rw [Nat.mul_comm] at hm
  refine ⟨?_, by omega, by omega⟩
  have : (k - q) / (L - q) * (L - q) < (r + 1) * (L - q) := by
    rw [Nat.add_mul]
    omega
  have := Nat.lt_of_mul_lt_mul_right this
  omega
theorem num_onG (g : Gr b f r L G) {k : Nat} (h : k ≤ rk b L G) : OnG b L G (((k - lev b L k * (L - L / b)) * b ^ lev b L k : Nat) : Int) := by
  obtain ⟨h1, h2, h3⟩ := lev_facts g h
  rw [Nat.mul_comm]
  exact onG_rung g h3 h1
end
end My

namespace My
/-! ### rounding of fractions, by four ways -/
inductive Wy
  | near | down | up | zero
def wup : Wy → Int → Int → Int → Bool
  | .near, q, m, s => decide (s < m * 2) || (decide (m * 2 = s) && decide (q % 2 = 1))
  | .down, _, _, _ => false
  | .up, _, _, _ => true
  | .zero, q, _, _ => decide (q < 0)
/-- the spacing at the fraction t / d -/
def sps (b L : Nat) (t : Int) (d : Nat) : Nat := spc b L (t.natAbs / d)
/-- rounded; without an end -/
def rg (y : Wy) (b L : Nat) (t : Int) (d : Nat) : Int :=
  if (t % ((d : Int) * (sps b L t d : Int)) != 0) = true ∧ wup y (t / ((d : Int) * (sps b L t d : Int))) (t % ((d : Int) * (sps b L t d : Int))) ((d : Int) * (sps b L t d : Int)) = true then (t / ((d : Int) * (sps b L t d : Int)) + 1) * (sps b L t d : Int)
  else t / ((d : Int) * (sps b L t d : Int)) * (sps b L t d : Int)
section
variable {b L : Nat}
theorem sps_pos (hb : 2 ≤ b) (t : Int) (d : Nat) : (0 : Int) < (sps b L t d : Int) := spcI_pos hb _
theorem rg_cases (y : Wy) (t : Int) (d : Nat) : ∃ q : Int, (q = t / ((d : Int) * (sps b L t d : Int)) ∨ (q = t / ((d : Int) * (sps b L t d : Int)) + 1 ∧ t % ((d : Int) * (sps b L t d : Int)) ≠ 0)) ∧ rg y b L t d = q * (sps b L t d : Int) := by
  unfold rg
  split
  · rename_i h
    exact ⟨_, .inr ⟨rfl, by simpa using h.1⟩, rfl⟩
  · exact ⟨_, .inl rfl, rfl⟩
/-- a multiple of the spacing stays -/
theorem rg_self (y : Wy) {n : Int} {d : Nat} (hb : 2 ≤ b) (hd : 0 < d) (h : n % (spc b L n.natAbs : Int) = 0) : rg y b L (n * (d : Int)) d = n := by
  have e : (n * (d : Int)).natAbs / d = n.natAbs := by
    rw [Int.natAbs_mul, Int.natAbs_natCast]
    exact Nat.mul_div_cancel _ hd
  have hs := spcI_pos (L := L) hb n.natAbs
  unfold rg sps
  rw [e]
  obtain ⟨c, hc⟩ := Int.dvd_of_emod_eq_zero h
  generalize (spc b L n.natAbs : Int) = s at *
  have hds : 0 < (d : Int) * s := Int.mul_pos (by omega) hs
  have e2 : n * (d : Int) = c * ((d : Int) * s) := by rw [hc, Int.mul_comm s c, Int.mul_assoc, Int.mul_comm s]
  rw [e2, Int.mul_emod_left, if_neg (by simp), Int.mul_ediv_cancel _ (by omega), hc, Int.mul_comm]
theorem rg_down_le (hb : 2 ≤ b) (t : Int) {d : Nat} (hd : 0 < d) : rg .down b L t d * (d : Int) ≤ t := by
  have hs := sps_pos (L := L) hb t d
  have hds : 0 < (d : Int) * (sps b L t d : Int) := Int.mul_pos (by omega) hs
  unfold rg
  rw [if_neg (by intro z; have h := z.2; cases h)]
  obtain ⟨h1, h2, h3⟩ := div_facts t _ hds
  generalize (sps b L t d : Int) = s at *
  have : t / ((d : Int) * s) * s * (d : Int) = t / ((d : Int) * s) * ((d : Int) * s) := by rw [Int.mul_assoc, Int.mul_comm s]
  omega
theorem rg_up_ge (hb : 2 ≤ b) (t : Int) {d : Nat} (hd : 0 < d) : t ≤ rg .up b L t d * (d : Int) := by
  have hs := sps_pos (L := L) hb t d
  have hds : 0 < (d : Int) * (sps b L t d : Int) := Int.mul_pos (by omega) hs
  obtain ⟨h1, h2, h3⟩ := div_facts t _ hds
  unfold rg
  generalize (sps b L t d : Int) = s at *
  split
  · have : (t / ((d : Int) * s) + 1) * s * (d : Int) = t / ((d : Int) * s) * ((d : Int) * s) + (d : Int) * s := by
      rw [Int.mul_assoc, Int.mul_comm s, Int.add_mul, Int.one_mul]
    omega
  · rename_i h
    have hm : t % ((d : Int) * s) = 0 := by
      by_cases z : t % ((d : Int) * s) = 0
      · exact z
      · exact absurd ⟨by simpa using z, rfl⟩ h
    have : t / ((d : Int) * s) * s * (d : Int) = t / ((d : Int) * s) * ((d : Int) * s) := by rw [Int.mul_assoc, Int.mul_comm s]
    omega
end
end My

namespace My
/-! ### rounding of fractions: it ascends, it is of the grid, twice and at once -/
section
variable {b f L : Nat}
theorem spx_mono (hb : 2 ≤ b) (hL : 1 ≤ L) {n n' : Nat} (h : n ≤ n') : spx b L n ≤ spx b L n' := spx_le hb hL (Nat.lt_of_le_of_lt h (spx_up hb hL))
theorem rg_form (y : Wy) (hb : 2 ≤ b) (t : Int) {d : Nat} (hd : 0 < d) :
    t = t / ((d : Int) * (sps b L t d : Int)) * ((d : Int) * (sps b L t d : Int)) + t % ((d : Int) * (sps b L t d : Int)) ∧ 0 ≤ t % ((d : Int) * (sps b L t d : Int)) ∧ t % ((d : Int) * (sps b L t d : Int)) < (d : Int) * (sps b L t d : Int) ∧
    ((rg y b L t d = t / ((d : Int) * (sps b L t d : Int)) * (sps b L t d : Int) ∧ (t % ((d : Int) * (sps b L t d : Int)) ≠ 0 → wup y (t / ((d : Int) * (sps b L t d : Int))) (t % ((d : Int) * (sps b L t d : Int))) ((d : Int) * (sps b L t d : Int)) = false)) ∨
    (rg y b L t d = (t / ((d : Int) * (sps b L t d : Int)) + 1) * (sps b L t d : Int) ∧ t % ((d : Int) * (sps b L t d : Int)) ≠ 0 ∧ wup y (t / ((d : Int) * (sps b L t d : Int))) (t % ((d : Int) * (sps b L t d : Int))) ((d : Int) * (sps b L t d : Int)) = true)) := by
  have hs := sps_pos (L := L) hb t d
  have hS : 0 < (d : Int) * (sps b L t d : Int) := Int.mul_pos (by omega) hs
  obtain ⟨h1, h2, h3⟩ := div_facts t _ hS
  refine ⟨h1, h2, h3, ?_⟩
  unfold rg
  split
  · rename_i h
    exact .inr ⟨rfl, by simpa using h.1, h.2⟩
  · rename_i h
    refine .inl ⟨rfl, fun hm => ?_⟩
    by_cases hw : wup y (t / ((d : Int) * (sps b L t d : Int))) (t % ((d : Int) * (sps b L t d : Int))) ((d : Int) * (sps b L t d : Int)) = true
    · exact absurd ⟨by simpa using hm, hw⟩ h
    · simpa using hw
theorem rg_le_of (y : Wy) (hb : 2 ≤ b) {t : Int} {d : Nat} (hd : 0 < d) {c : Int} (h : t ≤ c * ((d : Int) * (sps b L t d : Int))) : rg y b L t d ≤ c * (sps b L t d : Int) := by
  obtain ⟨h1, h2, h3, h4⟩ := rg_form (L := L) y hb t hd
  have hs := sps_pos (L := L) hb t d
  generalize t / ((d : Int) * (sps b L t d : Int)) = q at *
  generalize t % ((d : Int) * (sps b L t d : Int)) = m at *
  have hS : 0 < (d : Int) * (sps b L t d : Int) := Int.mul_pos (by omega) hs
  rcases h4 with ⟨e, _⟩ | ⟨e, hm, _⟩
  · rw [e]
    refine Int.mul_le_mul_of_nonneg_right ?_ (by omega)
    exact Int.le_of_mul_le_mul_right (by omega) hS
  · rw [e]
    refine Int.mul_le_mul_of_nonneg_right ?_ (by omega)
    have : q * ((d : Int) * (sps b L t d : Int)) < c * ((d : Int) * (sps b L t d : Int)) := by omega
    have := Int.lt_of_mul_lt_mul_right this (by omega)
    omega
theorem le_rg_of (y : Wy) (hb : 2 ≤ b) {t : Int} {d : Nat} (hd : 0 < d) {c : Int} (h : c * ((d : Int) * (sps b L t d : Int)) ≤ t) : c * (sps b L t d : Int) ≤ rg y b L t d := by
  obtain ⟨h1, h2, h3, h4⟩ := rg_form (L := L) y hb t hd
  have hs := sps_pos (L := L) hb t d
  generalize t / ((d : Int) * (sps b L t d : Int)) = q at *
  generalize t % ((d : Int) * (sps b L t d : Int)) = m at *
  have hS : 0 < (d : Int) * (sps b L t d : Int) := Int.mul_pos (by omega) hs
  have hq : c ≤ q := by
    have : c * ((d : Int) * (sps b L t d : Int)) < (q + 1) * ((d : Int) * (sps b L t d : Int)) := by
      rw [Int.add_mul, Int.one_mul]; omega
    have := Int.lt_of_mul_lt_mul_right this (by omega)
    omega
  rcases h4 with ⟨e, _⟩ | ⟨e, _, _⟩
  · rw [e]
    exact Int.mul_le_mul_of_nonneg_right hq (by omega)
  · rw [e]
    exact Int.mul_le_mul_of_nonneg_right (by omega) (by omega)
/-- the same of any number that the spacing divides -/
theorem rg_le_dvd (y : Wy) (hb : 2 ≤ b) {t : Int} {d : Nat} (hd : 0 < d) {B : Int} (hB : (sps b L t d : Int) ∣ B) (h : t ≤ B * (d : Int)) : rg y b L t d ≤ B := by
  obtain ⟨c, rfl⟩ := hB
  rw [Int.mul_comm]
  refine rg_le_of y hb hd ?_
  have : (sps b L t d : Int) * c * (d : Int) = c * ((d : Int) * (sps b L t d : Int)) := by
    rw [Int.mul_comm (sps b L t d : Int) c, Int.mul_assoc, Int.mul_comm (sps b L t d : Int)]
  omega
theorem dvd_le_rg (y : Wy) (hb : 2 ≤ b) {t : Int} {d : Nat} (hd : 0 < d) {B : Int} (hB : (sps b L t d : Int) ∣ B) (h : B * (d : Int) ≤ t) : B ≤ rg y b L t d := by
  obtain ⟨c, rfl⟩ := hB
  rw [Int.mul_comm (sps b L t d : Int) c]
  refine le_rg_of y hb hd ?_
  have : (sps b L t d : Int) * c * (d : Int) = c * ((d : Int) * (sps b L t d : Int)) := by
    rw [Int.mul_comm (sps b L t d : Int) c, Int.mul_assoc, Int.mul_comm (sps b L t d : Int)]
  omega
theorem wup_mono {y : Wy} {q m m' s : Int} (h : m ≤ m') (hu : wup y q m s = true) : wup y q m' s = true := by
  cases y with
  | near =>
    simp [wup] at *
    omega
  | down => exact hu
  | up => exact hu
  | zero => exact hu
theorem rg_mono_same (y : Wy) (hb : 2 ≤ b) {t t' : Int} {d : Nat} (hd : 0 < d) (h : t ≤ t') (hs : sps b L t d = sps b L t' d) : rg y b L t d ≤ rg y b L t' d := by
  have hs0 := sps_pos (L := L) hb t d
  have hS : 0 < (d : Int) * (sps b L t d : Int) := Int.mul_pos (by omega) hs0
  obtain ⟨a1, a2, a3, a4⟩ := rg_form (L := L) y hb t hd
  obtain ⟨c1, c2, c3, c4⟩ := rg_form (L := L) y hb t' hd
  have up1 : ∀ c, t ≤ c * ((d : Int) * (sps b L t d : Int)) → rg y b L t d ≤ c * (sps b L t d : Int) := fun c => rg_le_of y hb hd
  have lo2 : ∀ c, c * ((d : Int) * (sps b L t' d : Int)) ≤ t' → c * (sps b L t' d : Int) ≤ rg y b L t' d := fun c => le_rg_of y hb hd
  have hq : t / ((d : Int) * (sps b L t d : Int)) ≤ t' / ((d : Int) * (sps b L t d : Int)) := Int.ediv_le_ediv hS h
  rw [← hs] at *
  generalize (sps b L t d : Int) = s at *
  generalize t / ((d : Int) * s) = q at *
  generalize t % ((d : Int) * s) = m at *
  generalize t' / ((d : Int) * s) = q' at *
  generalize t' % ((d : Int) * s) = m' at *
  generalize (d : Int) * s = S at *
  by_cases hqq : q = q'
  · subst hqq
    have hm : m ≤ m' := by omega
    rcases a4 with ⟨e, _⟩ | ⟨e, hm0, hu⟩
    · rw [e]
      exact lo2 q (by omega)
    · have hu' := wup_mono hm hu
      rcases c4 with ⟨_, hf⟩ | ⟨e', _, _⟩
      · rw [hf (by omega)] at hu'
        cases hu'
      · rw [e, e']
        exact Int.le_refl _
  · have h1 := up1 (q + 1) (by rw [Int.add_mul, Int.one_mul]; omega)
    have h2 := lo2 q' (by omega)
    have h3 : (q + 1) * s ≤ q' * s := Int.mul_le_mul_of_nonneg_right (by omega) (by omega)
    omega
theorem band (hb : 2 ≤ b) (hf : 1 ≤ f) {n n' : Nat} (h : spx b (b ^ f) n < spx b (b ^ f) n') : ∃ B : Nat, n < B ∧ B ≤ n' ∧ spc b (b ^ f) n ∣ B ∧ spc b (b ^ f) n' ∣ B := by
  have hL : 1 ≤ b ^ f := Nat.pow_pos (by omega)
  refine ⟨b ^ f * b ^ (spx b (b ^ f) n' - 1), ?_, spx_low hb _ _ hL (by omega), ?_, ?_⟩
  · exact Nat.lt_of_lt_of_le (spx_up hb hL) (Nat.mul_le_mul_left _ (Nat.pow_le_pow_right (by omega) (by omega)))
  · rw [← Nat.pow_add]
    exact Nat.pow_dvd_pow b (by omega)
  · rw [← Nat.pow_add]
    exact Nat.pow_dvd_pow b (by omega)
theorem rg_mono (y : Wy) (hb : 2 ≤ b) (hf : 1 ≤ f) {t t' : Int} {d : Nat} (hd : 0 < d) (h : t ≤ t') : rg y b (b ^ f) t d ≤ rg y b (b ^ f) t' d := by
  have hL : 1 ≤ b ^ f := Nat.pow_pos (by omega)
  have mulc : ∀ B : Nat, ((B * d : Nat) : Int) = (B : Int) * (d : Int) := fun B => Int.natCast_mul B d
  by_cases h0 : 0 ≤ t
  · have hn : t.natAbs / d ≤ t'.natAbs / d := Nat.div_le_div_right (by omega)
    have he := spx_mono hb hL hn
    by_cases hee : spx b (b ^ f) (t.natAbs / d) = spx b (b ^ f) (t'.natAbs / d)
    · exact rg_mono_same y hb hd h (by unfold sps spc; rw [hee])
    · obtain ⟨B, b1, b2, b3, b4⟩ := band hb hf (Nat.lt_of_le_of_ne he hee)
      have c1 : t.natAbs < B * d := (Nat.div_lt_iff_lt_mul hd).mp b1
      have c2 : B * d ≤ t'.natAbs := (Nat.le_div_iff_mul_le hd).mp b2
      have r1 := rg_le_dvd (L := b ^ f) y hb hd (B := (B : Int)) (Int.natCast_dvd_natCast.mpr b3) (by rw [← mulc]; omega : t ≤ _)
      have r2 := dvd_le_rg (L := b ^ f) y hb hd (B := (B : Int)) (Int.natCast_dvd_natCast.mpr b4) (by rw [← mulc]; omega : _ ≤ t')
      omega
  · by_cases h1 : 0 ≤ t'
    · have r1 := rg_le_dvd (L := b ^ f) y hb hd (B := 0) (t := t) (Int.dvd_zero _) (by omega)
      have r2 := dvd_le_rg (L := b ^ f) y hb hd (B := 0) (t := t') (Int.dvd_zero _) (by omega)
      omega
    · have hn : t'.natAbs / d ≤ t.natAbs / d := Nat.div_le_div_right (by omega)
      have he := spx_mono hb hL hn
      by_cases hee : spx b (b ^ f) (t'.natAbs / d) = spx b (b ^ f) (t.natAbs / d)
      · exact rg_mono_same y hb hd h (by unfold sps spc; rw [hee])
      · obtain ⟨B, b1, b2, b3, b4⟩ := band hb hf (Nat.lt_of_le_of_ne he hee)
        have c1 : t'.natAbs < B * d := (Nat.div_lt_iff_lt_mul hd).mp b1
        have c2 : B * d ≤ t.natAbs := (Nat.le_div_iff_mul_le hd).mp b2
        have r1 := rg_le_dvd (L := b ^ f) y hb hd (B := -(B : Int)) (Int.dvd_neg.mpr (Int.natCast_dvd_natCast.mpr b4)) (by rw [Int.neg_mul, ← mulc]; omega : t ≤ _)
        have r2 := dvd_le_rg (L := b ^ f) y hb hd (B := -(B : Int)) (Int.dvd_neg.mpr (Int.natCast_dvd_natCast.mpr b3)) (by rw [Int.neg_mul, ← mulc]; omega : _ ≤ t')
        omega
end
end My

namespace My
section
variable {b f : Nat}
/-- a number up to the next power is a multiple of its own spacing -/
theorem mul_self (hb : 2 ≤ b) (hf : 1 ≤ f) {n : Int} {e : Nat} (h1 : n.natAbs ≤ b ^ f * b ^ e) (h2 : ((b ^ e : Nat) : Int) ∣ n) : n % (spc b (b ^ f) n.natAbs : Int) = 0 := by
  have hL : 1 ≤ b ^ f := Nat.pow_pos (by omega)
  refine Int.emod_eq_zero_of_dvd ?_
  by_cases h : n.natAbs < b ^ f * b ^ e
  · exact Int.dvd_trans (Int.natCast_dvd_natCast.mpr (Nat.pow_dvd_pow b (spx_le hb hL h))) h2
  · have h4 : n.natAbs = b ^ (f + e) := by rw [Nat.pow_add]; omega
    have h5 : spx b (b ^ f) n.natAbs ≤ e + 1 := by
      refine spx_le hb hL ?_
      rw [h4, Nat.pow_add]
      exact Nat.mul_lt_mul_of_pos_left (Nat.pow_lt_pow_right (by omega) (by omega)) hL
    have h6 : spc b (b ^ f) n.natAbs ∣ b ^ (f + e) := Nat.pow_dvd_pow b (by omega)
    rw [← h4] at h6
    exact Int.ofNat_dvd_left.mpr h6
theorem sps_up (hb : 2 ≤ b) (t : Int) {d : Nat} (hd : 0 < d) : t.natAbs < b ^ f * spc b (b ^ f) (t.natAbs / d) * d := by
  have hL : 1 ≤ b ^ f := Nat.pow_pos (by omega)
  exact (Nat.div_lt_iff_lt_mul hd).mp (spx_up hb hL)
theorem rg_bound (y : Wy) (hb : 2 ≤ b) (t : Int) {d : Nat} (hd : 0 < d) : (rg y b (b ^ f) t d).natAbs ≤ b ^ f * spc b (b ^ f) (t.natAbs / d) := by
  have h := sps_up (f := f) hb t hd
  have hdv : (sps b (b ^ f) t d : Int) ∣ ((b ^ f * spc b (b ^ f) (t.natAbs / d) : Nat) : Int) := Int.natCast_dvd_natCast.mpr (Nat.dvd_mul_left _ _)
  have mulc : ∀ B : Nat, ((B * d : Nat) : Int) = (B : Int) * (d : Int) := fun B => Int.natCast_mul B d
  have r1 := rg_le_dvd y hb hd hdv (by rw [← mulc]; omega : t ≤ _)
  have r2 := dvd_le_rg y hb hd (Int.dvd_neg.mpr hdv) (by rw [Int.neg_mul, ← mulc]; omega : _ ≤ t)
  omega
theorem rg_mul (y : Wy) (hb : 2 ≤ b) (t : Int) {d : Nat} (hd : 0 < d) : ((spc b (b ^ f) (t.natAbs / d) : Nat) : Int) ∣ rg y b (b ^ f) t d := by
  obtain ⟨_, _, _, h | h⟩ := rg_form (L := b ^ f) y hb t hd
  · rw [h.1]; exact Int.dvd_mul_left _ _
  · rw [h.1]; exact Int.dvd_mul_left _ _
/-- what is rounded is of the grid -/
theorem rg_grid (y : Wy) (hb : 2 ≤ b) (hf : 1 ≤ f) (t : Int) {d : Nat} (hd : 0 < d) : rg y b (b ^ f) t d % (spc b (b ^ f) (rg y b (b ^ f) t d).natAbs : Int) = 0 :=
  mul_self hb hf (rg_bound y hb t hd) (rg_mul y hb t hd)
theorem rg_of_grid (y : Wy) (hb : 2 ≤ b) {n : Int} (h : n % (spc b (b ^ f) n.natAbs : Int) = 0) : rg y b (b ^ f) n 1 = n := by
  have := rg_self y (d := 1) hb (by decide) h
  simpa using this
/-- near: half a spacing at most -/
theorem near_half (hb : 2 ≤ b) (t : Int) {d : Nat} (hd : 0 < d) {L : Nat} : 2 * (t - rg .near b L t d * (d : Int)) ≤ (d : Int) * (sps b L t d : Int) ∧ -((d : Int) * (sps b L t d : Int)) ≤ 2 * (t - rg .near b L t d * (d : Int)) := by
  obtain ⟨h1, h2, h3, h4⟩ := rg_form (L := L) .near hb t hd
  generalize t / ((d : Int) * (sps b L t d : Int)) = q at *
  generalize t % ((d : Int) * (sps b L t d : Int)) = m at *
  have e1 : q * (sps b L t d : Int) * (d : Int) = q * ((d : Int) * (sps b L t d : Int)) := by rw [Int.mul_assoc, Int.mul_comm (sps b L t d : Int)]
  have e2 : (q + 1) * (sps b L t d : Int) * (d : Int) = q * ((d : Int) * (sps b L t d : Int)) + (d : Int) * (sps b L t d : Int) := by rw [Int.mul_assoc, Int.mul_comm (sps b L t d : Int), Int.add_mul, Int.one_mul]
  rcases h4 with ⟨e, hu⟩ | ⟨e, hm, hu⟩
  · rw [e, e1]
    by_cases hm : m = 0
    · omega
    · have := hu hm
      simp [wup] at this
      omega
  · rw [e, e2]
    simp [wup] at hu
    omega
/-- ties of fractions -/
def tie (b L : Nat) (t : Int) (d : Nat) : Prop := t % ((d : Int) * (sps b L t d : Int)) * 2 = (d : Int) * (sps b L t d : Int)
/-- rounding twice is rounding at once, but behind ties -/
theorem twice_once (hb : 2 ≤ b) (hf : 1 ≤ f) (t : Int) {d : Nat} (hd : 0 < d) (h1 : ¬ (b % 2 = 1 ∧ tie b (b ^ f) t d)) (h2 : ¬ tie b (b ^ f) (rg .near b (b ^ (f + 2)) t d) 1) :
    rg .near b (b ^ f) (rg .near b (b ^ (f + 2)) t d) 1 = rg .near b (b ^ f) t d := by
  have hL : 1 ≤ b ^ f := Nat.pow_pos (by omega)
  have hL2 : 1 ≤ b ^ (f + 2) := Nat.pow_pos (by omega)
  have hLL : b ^ f ≤ b ^ (f + 2) := Nat.pow_le_pow_right (by omega) (by omega)
  -- both exponents
  have he : spx b (b ^ (f + 2)) (t.natAbs / d) ≤ spx b (b ^ f) (t.natAbs / d) := by
    refine spx_le hb hL2 ?_
    exact Nat.lt_of_lt_of_le (spx_up hb hL) (Nat.mul_le_mul_right _ hLL)
  by_cases hee : spx b (b ^ (f + 2)) (t.natAbs / d) = spx b (b ^ f) (t.natAbs / d)
  · -- one spacing: at once
    have hs : sps b (b ^ (f + 2)) t d = sps b (b ^ f) t d := by unfold sps spc; rw [hee]
    have hu : rg .near b (b ^ (f + 2)) t d = rg .near b (b ^ f) t d := by unfold rg; rw [hs]
    rw [hu]
    exact rg_of_grid .near hb (rg_grid .near hb hf t hd)
  have nh := near_half (L := b ^ (f + 2)) hb t hd
  obtain ⟨hd2, _⟩ : ((spc b (b ^ (f + 2)) (t.natAbs / d) : Nat) : Int) ∣ rg .near b (b ^ (f + 2)) t d ∧ True := ⟨rg_mul .near hb t hd, trivial⟩
  -- the worth between multiples of the greater spacing
  obtain ⟨a1, a2, a3, a4⟩ := rg_form (L := b ^ f) .near hb t hd
  have hs2 := sps_pos (L := b ^ (f + 2)) hb t d
  have hs0 := sps_pos (L := b ^ f) hb t d
  have hk : ∃ k, 1 ≤ k ∧ sps b (b ^ f) t d = b ^ k * sps b (b ^ (f + 2)) t d := by
    refine ⟨spx b (b ^ f) (t.natAbs / d) - spx b (b ^ (f + 2)) (t.natAbs / d), by omega, ?_⟩
    unfold sps spc
    rw [← Nat.pow_add]
    congr 1
    omega
  obtain ⟨k, hk1, hk⟩ := hk
  have hc2 : 2 ≤ b ^ k := by
    have : b ^ 1 ≤ b ^ k := Nat.pow_le_pow_right (by omega) hk1
    rw [Nat.pow_one] at this
    omega
  have hodd := @pow_odd b k
  -- u stays between them
  have hdv : ∀ c : Int, (sps b (b ^ (f + 2)) t d : Int) ∣ c * (sps b (b ^ f) t d : Int) := fun c => by
    rw [hk, Int.natCast_mul]
    exact Int.dvd_trans (Int.dvd_mul_left _ _) (Int.dvd_mul_left _ _)
  have hlo := dvd_le_rg .near hb hd (t := t) (hdv (t / ((d : Int) * (sps b (b ^ f) t d : Int)))) (by rw [Int.mul_assoc, Int.mul_comm (sps b (b ^ f) t d : Int)]; omega)
  have hhi := rg_le_dvd .near hb hd (t := t) (hdv (t / ((d : Int) * (sps b (b ^ f) t d : Int)) + 1)) (by rw [Int.mul_assoc, Int.mul_comm (sps b (b ^ f) t d : Int), Int.add_mul, Int.one_mul]; omega)
  -- the spacing at u
  have hB := sps_up (f := f) hb t hd
  have mulc : ∀ B : Nat, ((B * d : Nat) : Int) = (B : Int) * (d : Int) := fun B => Int.natCast_mul B d
  have dB : (sps b (b ^ (f + 2)) t d : Int) ∣ ((b ^ f * spc b (b ^ f) (t.natAbs / d) : Nat) : Int) := by
    refine Int.natCast_dvd_natCast.mpr (Nat.dvd_trans ?_ (Nat.dvd_mul_left _ _))
    exact Nat.pow_dvd_pow b he
  have ub1 := rg_le_dvd .near hb hd dB (by rw [← mulc]; omega : t ≤ _)
  have ub2 := dvd_le_rg .near hb hd (Int.dvd_neg.mpr dB) (by rw [Int.neg_mul, ← mulc]; omega : _ ≤ t)
  have lowe : spx b (b ^ f) (t.natAbs / d) ≤ spx b (b ^ f) (rg .near b (b ^ (f + 2)) t d).natAbs := by
    refine Nat.le_of_not_lt fun hlt => ?_
    have l1 := spx_low hb (spx b (b ^ f) (t.natAbs / d) - 1) (b ^ f) (n := t.natAbs / d) hL (by omega)
    have l2 := spx_up (n := (rg .near b (b ^ (f + 2)) t d).natAbs) hb hL
    have l3 : b ^ f * b ^ spx b (b ^ f) (rg .near b (b ^ (f + 2)) t d).natAbs ≤ b ^ f * b ^ (spx b (b ^ f) (t.natAbs / d) - 1) := Nat.mul_le_mul_left _ (Nat.pow_le_pow_right (by omega) (by omega))
    have l4 : (sps b (b ^ (f + 2)) t d : Int) ∣ ((b ^ f * b ^ (spx b (b ^ f) (t.natAbs / d) - 1) : Nat) : Int) := by
      refine Int.natCast_dvd_natCast.mpr ?_
      rw [← Nat.pow_add]
      exact Nat.pow_dvd_pow b (by omega)
    have l5 := (Nat.le_div_iff_mul_le hd).mp l1
    by_cases ht : 0 ≤ t
    · have := dvd_le_rg .near hb hd l4 (by rw [← mulc]; omega : _ ≤ t)
      omega
    · have := rg_le_dvd .near hb hd (Int.dvd_neg.mpr l4) (by rw [Int.neg_mul, ← mulc]; omega : t ≤ _)
      omega
  have hc : (sps b (b ^ f) t d : Int) = ((b ^ k : Nat) : Int) * (sps b (b ^ (f + 2)) t d : Int) := by rw [hk, Int.natCast_mul]
  have hS : (d : Int) * (sps b (b ^ f) t d : Int) = ((b ^ k : Nat) : Int) * ((d : Int) * (sps b (b ^ (f + 2)) t d : Int)) := by
    rw [hc, ← Int.mul_assoc, ← Int.mul_assoc, Int.mul_comm (d : Int)]
  have hz : 0 < (d : Int) * (sps b (b ^ (f + 2)) t d : Int) := Int.mul_pos (by omega) hs2
  have hz2 : 2 * ((d : Int) * (sps b (b ^ (f + 2)) t d : Int)) ≤ ((b ^ k : Nat) : Int) * ((d : Int) * (sps b (b ^ (f + 2)) t d : Int)) := Int.mul_le_mul_of_nonneg_right (by omega) (by omega)
  have hud : ∀ (x w : Int), rg .near b (b ^ (f + 2)) t d = x * (sps b (b ^ f) t d : Int) + w → rg .near b (b ^ (f + 2)) t d * (d : Int) = x * ((d : Int) * (sps b (b ^ f) t d : Int)) + w * (d : Int) := fun x w e => by
    rw [e, Int.add_mul, Int.mul_assoc, Int.mul_comm (sps b (b ^ f) t d : Int)]
  have self : ((sps b (b ^ f) t d : Nat) : Int) ∣ rg .near b (b ^ (f + 2)) t d → rg .near b (b ^ f) (rg .near b (b ^ (f + 2)) t d) 1 = rg .near b (b ^ (f + 2)) t d := fun hdv => by
    refine rg_of_grid .near hb (mul_self (e := spx b (b ^ f) (t.natAbs / d)) hb hf ?_ hdv)
    show _ ≤ b ^ f * spc b (b ^ f) (t.natAbs / d)
    omega
  -- up or not, at the worth
  have vup : (d : Int) * (sps b (b ^ f) t d : Int) < 2 * (t % ((d : Int) * (sps b (b ^ f) t d : Int))) → rg .near b (b ^ f) t d = (t / ((d : Int) * (sps b (b ^ f) t d : Int)) + 1) * (sps b (b ^ f) t d : Int) := fun h => by
    rcases a4 with ⟨e, hu⟩ | ⟨e, _⟩
    · have := hu (by omega)
      simp [wup] at this
      omega
    · exact e
  have vdn : 2 * (t % ((d : Int) * (sps b (b ^ f) t d : Int))) < (d : Int) * (sps b (b ^ f) t d : Int) → rg .near b (b ^ f) t d = t / ((d : Int) * (sps b (b ^ f) t d : Int)) * (sps b (b ^ f) t d : Int) := fun h => by
    rcases a4 with ⟨e, _⟩ | ⟨e, _, hu⟩
    · exact e
    · simp [wup] at hu
      omega
  clear a4
  unfold tie at h1
  generalize hq : t / ((d : Int) * (sps b (b ^ f) t d : Int)) = q at *
  generalize hm : t % ((d : Int) * (sps b (b ^ f) t d : Int)) = m at *
  obtain ⟨w, hw⟩ : ∃ w, rg .near b (b ^ (f + 2)) t d = q * (sps b (b ^ f) t d : Int) + w := ⟨rg .near b (b ^ (f + 2)) t d - q * (sps b (b ^ f) t d : Int), by omega⟩
  have hwd := hud q w hw
  rw [Int.add_mul, Int.one_mul] at hhi vup
  by_cases w0 : w = 0
  · subst w0
    rw [Int.zero_mul, Int.add_zero] at hwd
    rw [Int.add_zero] at hw
    rw [self (by rw [hw]; exact Int.dvd_mul_left _ _), hw, vdn (by omega)]
  by_cases ws : w = (sps b (b ^ f) t d : Int)
  · rw [ws, Int.mul_comm (sps b (b ^ f) t d : Int)] at hwd
    have hw' : rg .near b (b ^ (f + 2)) t d = (q + 1) * (sps b (b ^ f) t d : Int) := by rw [Int.add_mul, Int.one_mul, hw, ws]
    rw [self (by rw [hw']; exact Int.dvd_mul_left _ _), hw', vup (by omega), Int.add_mul, Int.one_mul]
  -- strictly between
  have hwin : 0 < w ∧ w < (sps b (b ^ f) t d : Int) := by omega
  have hu0 : spx b (b ^ f) (rg .near b (b ^ (f + 2)) t d).natAbs = spx b (b ^ f) (t.natAbs / d) := by
    refine Nat.le_antisymm (spx_le hb hL ?_) lowe
    refine Nat.lt_of_le_of_ne (by show _ ≤ b ^ f * spc b (b ^ f) (t.natAbs / d); omega) fun heq => ?_
    have hdvu : ((sps b (b ^ f) t d : Nat) : Int) ∣ rg .near b (b ^ (f + 2)) t d := by
      refine Int.ofNat_dvd_left.mpr ?_
      rw [heq]
      exact Nat.dvd_mul_left _ _
    have hdw : ((sps b (b ^ f) t d : Nat) : Int) ∣ w := by
      have : w = rg .near b (b ^ (f + 2)) t d - q * (sps b (b ^ f) t d : Int) := by omega
      rw [this]
      exact Int.dvd_sub hdvu (Int.dvd_mul_left _ _)
    have := Int.le_of_dvd hwin.1 hdw
    omega
  have hsu : sps b (b ^ f) (rg .near b (b ^ (f + 2)) t d) 1 = sps b (b ^ f) t d := by
    unfold sps spc
    rw [Nat.div_one, hu0]
  obtain ⟨i, hi⟩ : ∃ i, w = i * (sps b (b ^ (f + 2)) t d : Int) := by
    obtain ⟨j, hj⟩ := hd2
    refine ⟨j - q * ((b ^ k : Nat) : Int), ?_⟩
    rw [Int.sub_mul, Int.mul_assoc, ← hc]
    have : j * (sps b (b ^ (f + 2)) t d : Int) = (sps b (b ^ (f + 2)) t d : Int) * j := Int.mul_comm _ _
    have hj' : rg .near b (b ^ (f + 2)) t d = (sps b (b ^ (f + 2)) t d : Int) * j := hj
    omega
  have hwd2 : w * (d : Int) = i * ((d : Int) * (sps b (b ^ (f + 2)) t d : Int)) := by
    rw [hi, Int.mul_assoc, Int.mul_comm (sps b (b ^ (f + 2)) t d : Int)]
  have ltw : ∀ x y : Int, x * ((d : Int) * (sps b (b ^ (f + 2)) t d : Int)) ≤ y * ((d : Int) * (sps b (b ^ (f + 2)) t d : Int)) → x ≤ y := fun x y h => Int.le_of_mul_le_mul_right h hz
  have lts : ∀ x y : Int, x * (sps b (b ^ (f + 2)) t d : Int) ≤ y * (sps b (b ^ (f + 2)) t d : Int) → x ≤ y := fun x y h => Int.le_of_mul_le_mul_right h hs2
  obtain ⟨u1, u2, u3, u4⟩ := rg_form (L := b ^ f) .near hb (rg .near b (b ^ (f + 2)) t d) (d := 1) (by decide)
  unfold tie at h2
  rw [hsu] at u1 u2 u3 u4 h2
  have one : (((1 : Nat) : Int)) * (sps b (b ^ f) t d : Int) = (sps b (b ^ f) t d : Int) := by simp
  rw [one] at u1 u2 u3 u4 h2
  have hq2 : rg .near b (b ^ (f + 2)) t d / (sps b (b ^ f) t d : Int) = q ∧ rg .near b (b ^ (f + 2)) t d % (sps b (b ^ f) t d : Int) = w := by
    have e : rg .near b (b ^ (f + 2)) t d = w + (sps b (b ^ f) t d : Int) * q := by rw [hw, Int.mul_comm q]; omega
    constructor
    · rw [e, Int.add_mul_ediv_left _ _ (by omega), Int.ediv_eq_zero_of_lt (by omega) hwin.2, Int.zero_add]
    · rw [e, Int.add_mul_emod_self_left]
      exact Int.emod_eq_of_lt (by omega) hwin.2
  rw [hq2.1, hq2.2] at u4
  rw [hq2.2] at h2
  have h2i : 2 * i ≠ ((b ^ k : Nat) : Int) := fun z => h2 (by
    rw [hi, hc, ← z]
    rw [Int.mul_comm _ 2, ← Int.mul_assoc])
  -- no tie of the worth between the finer multiples
  have notie : m * 2 = (d : Int) * (sps b (b ^ f) t d : Int) → ((b ^ k : Nat) : Int) % 2 = 1 → False := fun z1 z2 => h1 ⟨hodd (by omega) (by omega), z1⟩
  have key : (2 * i > ((b ^ k : Nat) : Int) → (d : Int) * (sps b (b ^ f) t d : Int) < 2 * m) ∧ (2 * i < ((b ^ k : Nat) : Int) → 2 * m < (d : Int) * (sps b (b ^ f) t d : Int)) := by
    generalize ((b ^ k : Nat) : Int) = c at *
    generalize (d : Int) * (sps b (b ^ (f + 2)) t d : Int) = z at *
    have ei : (2 * i) * z = 2 * (i * z) := Int.mul_assoc _ _ _
    have ei1 : (2 * i - 1) * z = 2 * (i * z) - z := by rw [Int.sub_mul, Int.one_mul, ei]
    have ei2 : (2 * i + 1) * z = 2 * (i * z) + z := by rw [Int.add_mul, Int.one_mul, ei]
    constructor
    · intro h
      have g1 : c * z ≤ (2 * i - 1) * z := Int.mul_le_mul_of_nonneg_right (by omega) (by omega)
      by_cases hne : m * 2 = (d : Int) * (sps b (b ^ f) t d : Int)
      · exfalso
        have := ltw (2 * i - 1) c (by omega)
        exact notie hne (by omega)
      · omega
    · intro h
      have g1 : (2 * i + 1) * z ≤ c * z := Int.mul_le_mul_of_nonneg_right (by omega) (by omega)
      by_cases hne : m * 2 = (d : Int) * (sps b (b ^ f) t d : Int)
      · exfalso
        have := ltw c (2 * i + 1) (by omega)
        exact notie hne (by omega)
      · omega
  have w2 : w * 2 = (2 * i) * (sps b (b ^ (f + 2)) t d : Int) := by rw [hi, Int.mul_comm _ 2, ← Int.mul_assoc]
  rcases u4 with ⟨e, hu⟩ | ⟨e, _, hu⟩
  · have hnot := hu (by omega)
    have hlt : 2 * i < ((b ^ k : Nat) : Int) := by
      simp [wup] at hnot
      have : (2 * i) * (sps b (b ^ (f + 2)) t d : Int) ≤ ((b ^ k : Nat) : Int) * (sps b (b ^ (f + 2)) t d : Int) := by rw [← w2, ← hc]; omega
      have := lts _ _ this
      omega
    rw [e, vdn (key.2 hlt)]
  · have hgt : 2 * i > ((b ^ k : Nat) : Int) := by
      simp [wup] at hu
      have : ((b ^ k : Nat) : Int) * (sps b (b ^ (f + 2)) t d : Int) ≤ (2 * i) * (sps b (b ^ (f + 2)) t d : Int) := by rw [← w2, ← hc]; omega
      have := lts _ _ this
      omega
    rw [e, vup (key.1 hgt), Int.add_mul, Int.one_mul]
end
end My

namespace My
/-! ### the multiples around a fraction, and what is left -/
section
variable {b L : Nat}
theorem ceil_eq {t S : Int} (hS : 0 < S) : -(-t / S) = if t % S = 0 then t / S else t / S + 1 := by
  obtain ⟨h1, h2, h3⟩ := div_facts t S hS
  by_cases h : t % S = 0
  · have e : -t = -(t / S) * S := by rw [Int.neg_mul]; omega
    rw [if_pos h, e, Int.mul_ediv_cancel _ (by omega)]
    omega
  · have e : -t = (S - t % S) + S * (-(t / S) - 1) := by
      rw [Int.mul_sub, Int.mul_neg, Int.mul_comm S (t / S)]
      omega
    rw [if_neg h, e, Int.add_mul_ediv_left _ _ (by omega), Int.ediv_eq_zero_of_lt (by omega) (by omega)]
    omega
def blw (b L : Nat) (t : Int) (d : Nat) : Int := t / ((d : Int) * (sps b L t d : Int)) * (sps b L t d : Int)
def abv (b L : Nat) (t : Int) (d : Nat) : Int := -(-t / ((d : Int) * (sps b L t d : Int))) * (sps b L t d : Int)
theorem around_facts (hb : 2 ≤ b) (t : Int) {d : Nat} (hd : 0 < d) : blw b L t d * (d : Int) ≤ t ∧ t ≤ abv b L t d * (d : Int) ∧ blw b L t d ≤ abv b L t d ∧
    (∀ y, rg y b L t d = blw b L t d ∨ rg y b L t d = abv b L t d) ∧ rg .down b L t d = blw b L t d ∧ rg .up b L t d = abv b L t d ∧
    rg .zero b L t d = (if 0 < t then blw b L t d else abv b L t d) ∧
    2 * (t - rg .near b L t d * (d : Int)) ≤ (abv b L t d - blw b L t d) * (d : Int) ∧ -((abv b L t d - blw b L t d) * (d : Int)) ≤ 2 * (t - rg .near b L t d * (d : Int)) := by
  have hs := sps_pos (L := L) hb t d
  have hS : 0 < (d : Int) * (sps b L t d : Int) := Int.mul_pos (by omega) hs
  have nh := near_half (L := L) hb t hd
  have F := fun y => rg_form (L := L) y hb t hd
  obtain ⟨a1, a2, a3, _⟩ := F .near
  have hc := ceil_eq (t := t) hS
  unfold blw abv
  rw [hc]
  have mulq : ∀ x : Int, x * (sps b L t d : Int) * (d : Int) = x * ((d : Int) * (sps b L t d : Int)) := fun x => by rw [Int.mul_assoc, Int.mul_comm (sps b L t d : Int)]
  have hneg : t / ((d : Int) * (sps b L t d : Int)) < 0 ↔ t < 0 := by
    constructor
    · intro z
      by_cases w : t < 0
      · exact w
      · exact absurd (Int.ediv_nonneg (show 0 ≤ t by omega) (show 0 ≤ (d : Int) * (sps b L t d : Int) by omega)) (by omega)
    · intro z
      exact Int.ediv_neg_of_neg_of_pos z hS
  have Fn := F .near
  have Fd := F .down
  have Fu := F .up
  have Fz := F .zero
  by_cases hm : t % ((d : Int) * (sps b L t d : Int)) = 0
  · rw [if_pos hm, mulq]
    have all : ∀ y, rg y b L t d = t / ((d : Int) * (sps b L t d : Int)) * (sps b L t d : Int) := fun y => by
      rcases (F y).2.2.2 with ⟨e, _⟩ | ⟨_, h, _⟩
      · exact e
      · exact absurd hm h
    refine ⟨by omega, by omega, Int.le_refl _, fun y => .inl (all y), all _, all _, ?_, ?_, ?_⟩
    · rw [all]; split <;> rfl
    · rw [all, mulq, Int.sub_self, Int.zero_mul]; omega
    · rw [all, mulq, Int.sub_self, Int.zero_mul]; omega
  · rw [if_neg hm]
    have e1 : (t / ((d : Int) * (sps b L t d : Int)) + 1) * ((d : Int) * (sps b L t d : Int)) = t / ((d : Int) * (sps b L t d : Int)) * ((d : Int) * (sps b L t d : Int)) + (d : Int) * (sps b L t d : Int) := by rw [Int.add_mul, Int.one_mul]
    have e2 : (t / ((d : Int) * (sps b L t d : Int)) + 1) * (sps b L t d : Int) = t / ((d : Int) * (sps b L t d : Int)) * (sps b L t d : Int) + (sps b L t d : Int) := by rw [Int.add_mul, Int.one_mul]
    have gap : ((t / ((d : Int) * (sps b L t d : Int)) + 1) * (sps b L t d : Int) - t / ((d : Int) * (sps b L t d : Int)) * (sps b L t d : Int)) * (d : Int) = (d : Int) * (sps b L t d : Int) := by
      rw [e2]
      have : t / ((d : Int) * (sps b L t d : Int)) * (sps b L t d : Int) + (sps b L t d : Int) - t / ((d : Int) * (sps b L t d : Int)) * (sps b L t d : Int) = (sps b L t d : Int) := by
        generalize t / ((d : Int) * (sps b L t d : Int)) * (sps b L t d : Int) = z
        omega
      rw [this, Int.mul_comm]
    rw [gap]
    refine ⟨by rw [mulq]; omega, by rw [mulq, e1]; omega, by rw [e2]; omega, fun y => ?_, ?_, ?_, ?_, nh.1, nh.2⟩
    · rcases (F y).2.2.2 with ⟨e, _⟩ | ⟨e, _, _⟩
      · exact .inl e
      · exact .inr e
    · rcases Fd.2.2.2 with ⟨e, _⟩ | ⟨_, _, h⟩
      · exact e
      · cases h
    · rcases Fu.2.2.2 with ⟨_, h⟩ | ⟨e, _, _⟩
      · exact absurd (h hm) (by intro z; cases z)
      · exact e
    · have ht0 : t ≠ 0 := fun z => hm (by rw [z]; simp)
      rcases Fz.2.2.2 with ⟨e, h⟩ | ⟨e, _, h⟩
      · have := h hm
        simp [wup] at this
        rw [e, if_pos]
        have h2 : ¬ t < 0 := fun z => by have := hneg.mpr z; omega
        omega
      · simp [wup] at h
        rw [e, if_neg]
        have := hneg.mp h
        omega
/-- in least terms: the same fraction, the same sign -/
theorem red_facts (x : Int) {d : Nat} (hd : 0 < d) : x / ((Nat.gcd x.natAbs d : Nat) : Int) * (d : Int) = x * ((d / Nat.gcd x.natAbs d : Nat) : Int) ∧ (0 ≤ x → 0 ≤ x / ((Nat.gcd x.natAbs d : Nat) : Int)) ∧ (x ≤ 0 → x / ((Nat.gcd x.natAbs d : Nat) : Int) ≤ 0) := by
  have hg : 0 < Nat.gcd x.natAbs d := Nat.gcd_pos_of_pos_right _ hd
  obtain ⟨c, hc⟩ : ((Nat.gcd x.natAbs d : Nat) : Int) ∣ x := Int.ofNat_dvd_left.mpr (Nat.gcd_dvd_left _ _)
  obtain ⟨e, he⟩ := Nat.gcd_dvd_right x.natAbs d
  have h2 : d / Nat.gcd x.natAbs d = e := by
    rw [Nat.div_eq_iff_eq_mul_right hg (Nat.gcd_dvd_right _ _)]
    exact he
  have h1 : x / ((Nat.gcd x.natAbs d : Nat) : Int) = c := by
    have : x / ((Nat.gcd x.natAbs d : Nat) : Int) = (((Nat.gcd x.natAbs d : Nat) : Int) * c) / ((Nat.gcd x.natAbs d : Nat) : Int) := by rw [← hc]
    rw [this]
    exact Int.mul_ediv_cancel_left _ (by omega)
  rw [h1, h2]
  have he' : (d : Int) = ((Nat.gcd x.natAbs d : Nat) : Int) * (e : Int) := by
    rw [← Int.natCast_mul, ← he]
  generalize Nat.gcd x.natAbs d = g at *
  refine ⟨?_, fun h => ?_, fun h => ?_⟩
  · rw [he', hc, Int.mul_left_comm, Int.mul_assoc]
  · by_cases z : c < 0
    · have : (g : Int) * c < 0 := Int.mul_neg_of_pos_of_neg (by omega) z
      omega
    · omega
  · by_cases z : 0 < c
    · have : 0 < (g : Int) * c := Int.mul_pos (by omega) z
      omega
    · omega
end
end My

namespace My
/-! ### what is rounded ascends: nothing at both ends alone -/
def cutO (M : Nat) (x : Int) : Option Int := if x.natAbs ≤ M then some x else none
theorem cut_above {M : Nat} : ∀ {xs : List Int}, (∀ x ∈ xs, (M : Int) < x) → xs.map (cutO M) = List.replicate xs.length none
  | [], _ => rfl
  | x :: xs, h => by
    have h1 := h x List.mem_cons_self
    rw [List.map_cons, List.length_cons, List.replicate_succ, cut_above fun y hy => h y (List.mem_cons_of_mem _ hy)]
    unfold cutO
    rw [if_neg (by omega)]
theorem cut_from {M : Nat} : ∀ {xs : List Int}, xs.Pairwise (· ≤ ·) → (∀ x ∈ xs, -(M : Int) ≤ x) → ∃ (ys : List Int) (j : Nat), xs.map (cutO M) = ys.map some ++ List.replicate j none ∧ ys.Pairwise (· ≤ ·) ∧ ∀ y ∈ ys, y ∈ xs
  | [], _, _ => ⟨[], 0, rfl, .nil, fun y hy => by cases hy⟩
  | x :: xs, hp, h => by
    obtain ⟨p1, p2⟩ := List.pairwise_cons.mp hp
    have h1 := h x List.mem_cons_self
    by_cases hx : x.natAbs ≤ M
    · obtain ⟨ys, j, e, q1, q2⟩ := cut_from p2 fun y hy => h y (List.mem_cons_of_mem _ hy)
      refine ⟨x :: ys, j, ?_, List.pairwise_cons.mpr ⟨fun y hy => p1 y (q2 y hy), q1⟩, fun y hy => ?_⟩
      · rw [List.map_cons, e, List.map_cons]
        unfold cutO
        rw [if_pos hx]
        rfl
      · rcases List.mem_cons.mp hy with rfl | hy
        · exact List.mem_cons_self
        · exact List.mem_cons_of_mem _ (q2 y hy)
    · refine ⟨[], (x :: xs).length, ?_, .nil, fun y hy => by cases hy⟩
      rw [cut_above]
      · rfl
      · intro y hy
        rcases List.mem_cons.mp hy with rfl | hy
        · omega
        · have := p1 y hy
          omega
theorem cut_all {M : Nat} : ∀ {xs : List Int}, xs.Pairwise (· ≤ ·) → ∃ (i : Nat) (ys : List Int) (j : Nat), xs.map (cutO M) = List.replicate i none ++ ys.map some ++ List.replicate j none ∧ ys.Pairwise (· ≤ ·)
  | [], _ => ⟨0, [], 0, rfl, .nil⟩
  | x :: xs, hp => by
    obtain ⟨p1, p2⟩ := List.pairwise_cons.mp hp
    by_cases hx : -(M : Int) ≤ x
    · obtain ⟨ys, j, e, q1, _⟩ := cut_from (M := M) hp fun y hy => by
        rcases List.mem_cons.mp hy with rfl | hy
        · exact hx
        · have := p1 y hy
          omega
      exact ⟨0, ys, j, e, q1⟩
    · obtain ⟨i, ys, j, e, q1⟩ := cut_all (M := M) p2
      refine ⟨i + 1, ys, j, ?_, q1⟩
      rw [List.map_cons, e, List.replicate_succ]
      unfold cutO
      rw [if_neg (by omega)]
      rfl
theorem next_le {ys : List Int} (h : ys.Pairwise (· ≤ ·)) (k : Nat) (x y : Int) (hx : ys[k]? = some x) (hy : ys[k + 1]? = some y) : x ≤ y := by
  obtain ⟨h1, rfl⟩ := List.getElem?_eq_some_iff.mp hx
  obtain ⟨h2, rfl⟩ := List.getElem?_eq_some_iff.mp hy
  exact List.pairwise_iff_getElem.mp h k (k + 1) h1 h2 (by omega)
theorem rg_asc {b f : Nat} (y : Wy) (hb : 2 ≤ b) (hf : 1 ≤ f) {d : Nat} (hd : 0 < d) {ts : List Int} (h : ts.Pairwise (· < ·)) : (ts.map fun t => rg y b (b ^ f) t d).Pairwise (· ≤ ·) :=
  List.pairwise_map.mpr (h.imp fun {s t} hst => rg_mono y hb hf hd (by omega))
end My

namespace My
/-! ### all numbers of a grid in a row, and those around a fraction -/
section
variable {b f : Nat}
def lad (b L : Nat) : Nat → List Int
  | 0 => (List.range L).map fun i => ((i : Nat) : Int)
  | k + 1 => lad b L k ++ (List.range (L - L / b)).map fun j => ((b ^ (k + 1) * (L / b + j) : Nat) : Int)
theorem Ldiv (hb : 2 ≤ b) (hf : 1 ≤ f) : b ^ f / b * b = b ^ f := Nat.div_mul_cancel (Nat.dvd_trans (by rw [Nat.pow_one]; exact Nat.dvd_refl b) (Nat.pow_dvd_pow b hf))
theorem lad_bound (hb : 2 ≤ b) (hf : 1 ≤ f) : ∀ (k : Nat) (x : Int), x ∈ lad b (b ^ f) k → ∃ n : Nat, x = (n : Int) ∧ n < b ^ f * b ^ k
  | 0, x, h => by
    obtain ⟨i, hi, rfl⟩ := List.mem_map.mp h
    exact ⟨i, rfl, by rw [Nat.pow_zero, Nat.mul_one]; exact List.mem_range.mp hi⟩
  | k + 1, x, h => by
    have hL : 1 ≤ b ^ f := Nat.pow_pos (by omega)
    rcases List.mem_append.mp h with h | h
    · obtain ⟨n, rfl, hn⟩ := lad_bound hb hf k x h
      refine ⟨n, rfl, Nat.lt_of_lt_of_le hn (Nat.mul_le_mul_left _ (Nat.pow_le_pow_right (by omega) (by omega)))⟩
    · obtain ⟨j, hj, rfl⟩ := List.mem_map.mp h
      have hj := List.mem_range.mp hj
      refine ⟨_, rfl, ?_⟩
      rw [Nat.mul_comm]
      exact Nat.mul_lt_mul_of_pos_right (by omega) (Nat.pow_pos (by omega))
theorem lad_asc (hb : 2 ≤ b) (hf : 1 ≤ f) : ∀ k : Nat, (lad b (b ^ f) k).Pairwise (· < ·)
  | 0 => List.pairwise_map.mpr (List.pairwise_lt_range.imp fun {x y} h => by omega)
  | k + 1 => by
    refine List.pairwise_append.mpr ⟨lad_asc hb hf k, List.pairwise_map.mpr (List.pairwise_lt_range.imp fun {x y} h => ?_), fun x hx y hy => ?_⟩
    · have : b ^ (k + 1) * (b ^ f / b + x) < b ^ (k + 1) * (b ^ f / b + y) := Nat.mul_lt_mul_of_pos_left (by omega) (Nat.pow_pos (by omega))
      omega
    · obtain ⟨n, rfl, hn⟩ := lad_bound hb hf k x hx
      obtain ⟨j, _, rfl⟩ := List.mem_map.mp hy
      have h1 : b ^ f * b ^ k = b ^ (k + 1) * (b ^ f / b) := by
        rw [Nat.pow_succ, Nat.mul_assoc, Nat.mul_comm b (b ^ f / b), Ldiv hb hf, Nat.mul_comm]
      have h2 : b ^ (k + 1) * (b ^ f / b) ≤ b ^ (k + 1) * (b ^ f / b + j) := Nat.mul_le_mul_left _ (by omega)
      omega
theorem lad_mem (hb : 2 ≤ b) (hf : 1 ≤ f) : ∀ (k n : Nat), ((n : Int) ∈ lad b (b ^ f) k) ↔ n < b ^ f * b ^ k ∧ spc b (b ^ f) n ∣ n
  | 0, n => by
    have hL : 1 ≤ b ^ f := Nat.pow_pos (by omega)
    rw [Nat.pow_zero, Nat.mul_one]
    constructor
    · intro h
      obtain ⟨i, hi, e⟩ := List.mem_map.mp h
      have hi := List.mem_range.mp hi
      have e : i = n := by omega
      subst e
      refine ⟨hi, ?_⟩
      unfold spc
      rw [spx_lt hi, Nat.pow_zero]
      exact Nat.one_dvd _
    · rintro ⟨h, _⟩
      exact List.mem_map.mpr ⟨n, List.mem_range.mpr h, rfl⟩
  | k + 1, n => by
    have hL : 1 ≤ b ^ f := Nat.pow_pos (by omega)
    have hp : 0 < b ^ (k + 1) := Nat.pow_pos (by omega)
    have h1 : b ^ f * b ^ k = b ^ (k + 1) * (b ^ f / b) := by
      rw [Nat.pow_succ, Nat.mul_assoc, Nat.mul_comm b (b ^ f / b), Ldiv hb hf, Nat.mul_comm]
    have ih := lad_mem hb hf k n
    constructor
    · intro h
      rcases List.mem_append.mp h with h | h
      · obtain ⟨h2, h3⟩ := ih.mp h
        exact ⟨Nat.lt_of_lt_of_le h2 (Nat.mul_le_mul_left _ (Nat.pow_le_pow_right (by omega) (by omega))), h3⟩
      · obtain ⟨j, hj, e⟩ := List.mem_map.mp h
        have hj := List.mem_range.mp hj
        have e : b ^ (k + 1) * (b ^ f / b + j) = n := by omega
        have hlt : n < b ^ f * b ^ (k + 1) := by
          rw [← e, Nat.mul_comm]
          exact Nat.mul_lt_mul_of_pos_right (by omega) hp
        refine ⟨hlt, Nat.dvd_trans (Nat.pow_dvd_pow b (spx_le hb hL hlt)) ?_⟩
        rw [← e]
        exact Nat.dvd_mul_right _ _
    · rintro ⟨h2, h3⟩
      refine List.mem_append.mpr ?_
      by_cases h4 : n < b ^ f * b ^ k
      · exact .inl (ih.mpr ⟨h4, h3⟩)
      · refine .inr ?_
        have h5 : spx b (b ^ f) n = k + 1 := by
          refine Nat.le_antisymm (spx_le hb hL h2) (Nat.lt_of_not_le fun h => ?_)
          have h6 := spx_up (n := n) hb hL
          have h7 : b ^ f * b ^ spx b (b ^ f) n ≤ b ^ f * b ^ k := Nat.mul_le_mul_left _ (Nat.pow_le_pow_right (by omega) h)
          omega
        unfold spc at h3
        rw [h5] at h3
        obtain ⟨c, rfl⟩ := h3
        have c1 : c < b ^ f := by
          rw [Nat.mul_comm] at h2
          exact Nat.lt_of_mul_lt_mul_right h2
        have c2 : b ^ f / b ≤ c := by
          refine Nat.le_of_mul_le_mul_left ?_ hp
          omega
        refine List.mem_map.mpr ⟨c - b ^ f / b, List.mem_range.mpr (by omega), ?_⟩
        have : b ^ f / b + (c - b ^ f / b) = c := by omega
        rw [this]
/-- the ladder to both sides -/
def rgs (b L k : Nat) : List Int := ((lad b L k).drop 1).reverse.map (fun x => -x) ++ lad b L k
theorem lad_cons (hb : 2 ≤ b) (hf : 1 ≤ f) : ∀ k : Nat, ∃ xs, lad b (b ^ f) k = 0 :: xs
  | 0 => by
    obtain ⟨m, hm⟩ : ∃ m, b ^ f = m + 1 := ⟨b ^ f - 1, by have : 1 ≤ b ^ f := Nat.pow_pos (by omega); omega⟩
    refine ⟨(List.range m).map fun i => ((i + 1 : Nat) : Int), ?_⟩
    unfold lad
    rw [hm, List.range_succ_eq_map, List.map_cons, List.map_map]
    rfl
  | k + 1 => by
    obtain ⟨xs, h⟩ := lad_cons hb hf k
    refine ⟨xs ++ (List.range (b ^ f - b ^ f / b)).map fun j => ((b ^ (k + 1) * (b ^ f / b + j) : Nat) : Int), ?_⟩
    show lad b (b ^ f) k ++ _ = _
    rw [h, List.cons_append]
theorem lad_tail (hb : 2 ≤ b) (hf : 1 ≤ f) {k : Nat} {x : Int} (h : x ∈ (lad b (b ^ f) k).drop 1) : 0 < x ∧ x ∈ lad b (b ^ f) k := by
  obtain ⟨xs, e⟩ := lad_cons hb hf k
  have ha := lad_asc hb hf k
  rw [e] at ha h ⊢
  exact ⟨(List.pairwise_cons.mp ha).1 x h, List.mem_cons_of_mem _ h⟩
theorem rgs_asc (hb : 2 ≤ b) (hf : 1 ≤ f) (k : Nat) : (rgs b (b ^ f) k).Pairwise (· < ·) := by
  refine List.pairwise_append.mpr ⟨List.pairwise_map.mpr (List.pairwise_reverse.mpr (List.Pairwise.imp ?_ (List.Pairwise.sublist (List.drop_sublist 1 _) (lad_asc hb hf k)))), lad_asc hb hf k, fun x hx y hy => ?_⟩
  · intro x y h
    omega
  · obtain ⟨z, hz, rfl⟩ := List.mem_map.mp hx
    have h1 := (lad_tail hb hf (List.mem_reverse.mp hz)).1
    obtain ⟨n, rfl, _⟩ := lad_bound hb hf k y hy
    omega
theorem rgs_mem (hb : 2 ≤ b) (hf : 1 ≤ f) (k : Nat) (n : Int) : n ∈ rgs b (b ^ f) k ↔ n.natAbs < b ^ f * b ^ k ∧ n % (spc b (b ^ f) n.natAbs : Int) = 0 := by
  have key : ∀ n : Nat, ((n : Int) ∈ lad b (b ^ f) k) ↔ n < b ^ f * b ^ k ∧ spc b (b ^ f) n ∣ n := lad_mem hb hf k
  have dv : n % (spc b (b ^ f) n.natAbs : Int) = 0 ↔ spc b (b ^ f) n.natAbs ∣ n.natAbs := by
    rw [← Int.dvd_iff_emod_eq_zero]
    exact Int.ofNat_dvd_left
  rw [dv, ← key]
  constructor
  · intro h
    rcases List.mem_append.mp h with h | h
    · obtain ⟨z, hz, rfl⟩ := List.mem_map.mp h
      obtain ⟨z0, hz⟩ := lad_tail hb hf (List.mem_reverse.mp hz)
      have : ((-z).natAbs : Int) = z := by omega
      rw [this]
      exact hz
    · obtain ⟨m, rfl, _⟩ := lad_bound hb hf k n h
      exact h
  · intro h
    refine List.mem_append.mpr ?_
    by_cases h0 : 0 ≤ n
    · have : ((n.natAbs : Nat) : Int) = n := by omega
      rw [this] at h
      exact .inr h
    · refine .inl (List.mem_map.mpr ⟨(n.natAbs : Int), List.mem_reverse.mpr ?_, by omega⟩)
      obtain ⟨xs, e⟩ := lad_cons hb hf k
      rw [e] at h ⊢
      rcases List.mem_cons.mp h with h | h
      · omega
      · exact h
/-- the last of those below, the first of those above -/
theorem last_is {ys : List Int} {B : Int} (ha : ys.Pairwise (· < ·)) (hB : B ∈ ys) (hm : ∀ y ∈ ys, y ≤ B) : ∃ zs, ys = zs ++ [B] := by
  have hne : ys ≠ [] := List.ne_nil_of_mem hB
  refine ⟨ys.dropLast, ?_⟩
  have e := List.dropLast_concat_getLast hne
  have h1 := hm _ (List.getLast_mem hne)
  rw [← e] at ha hB
  rcases List.mem_append.mp hB with h | h
  · have := (List.pairwise_append.mp ha).2.2 B h _ (List.mem_singleton.mpr rfl)
    omega
  · have h := List.mem_singleton.mp h
    rw [h]
    exact e.symm
theorem first_is {ys : List Int} {A : Int} (ha : ys.Pairwise (· < ·)) (hA : A ∈ ys) (hm : ∀ y ∈ ys, A ≤ y) : ∃ zs, ys = A :: zs := by
  cases ys with
  | nil => cases hA
  | cons y ys =>
    refine ⟨ys, ?_⟩
    have h1 := hm y List.mem_cons_self
    rcases List.mem_cons.mp hA with h | h
    · rw [h]
    · have := (List.pairwise_cons.mp ha).1 A h
      omega
end
end My

namespace My
section
variable {b f r : Nat}
/-- the multiples around a fraction are numbers of the ladder -/
theorem rg_in (y : Wy) (hb : 2 ≤ b) (hf : 1 ≤ f) {t : Int} {d : Nat} (hd : 0 < d) (h : t.natAbs ≤ 3 * d * ((b ^ f - 1) * b ^ r)) : rg y b (b ^ f) t d ∈ rgs b (b ^ f) (r + 2) := by
  have hL : 1 ≤ b ^ f := Nat.pow_pos (by omega)
  have hL2 : 2 ≤ b ^ f := by
    have h1 : b ^ 1 ≤ b ^ f := Nat.pow_le_pow_right (by omega) hf
    rw [Nat.pow_one] at h1
    omega
  have hpr : 0 < b ^ r := Nat.pow_pos (by omega)
  have hp2 : 4 * b ^ r ≤ b ^ (r + 2) := by
    rw [Nat.pow_succ, Nat.pow_succ]
    have h1 : b ^ r * 2 ≤ b ^ r * b := Nat.mul_le_mul_left _ hb
    have h2 : b ^ r * b * 2 ≤ b ^ r * b * b := Nat.mul_le_mul_left _ hb
    omega
  have e1 : (b ^ f - 1) * (4 * b ^ r) ≤ (b ^ f - 1) * b ^ (r + 2) := Nat.mul_le_mul_left _ hp2
  have e1' : (b ^ f - 1) * (4 * b ^ r) = 4 * ((b ^ f - 1) * b ^ r) := Nat.mul_left_comm _ _ _
  have h3 : t.natAbs / d ≤ 3 * ((b ^ f - 1) * b ^ r) := by
    refine Nat.div_le_of_le_mul ?_
    rw [← Nat.mul_assoc, Nat.mul_comm d 3]
    exact h
  have hlt : (b ^ f - 1) * b ^ (r + 2) < b ^ f * b ^ (r + 2) := Nat.mul_lt_mul_of_pos_right (by omega) (Nat.pow_pos (by omega))
  have hx : spx b (b ^ f) (t.natAbs / d) ≤ r + 2 := spx_le hb hL (by omega)
  have hdv : (sps b (b ^ f) t d : Int) ∣ (((b ^ f - 1) * b ^ (r + 2) : Nat) : Int) := Int.natCast_dvd_natCast.mpr (Nat.dvd_trans (Nat.pow_dvd_pow b hx) (Nat.dvd_mul_left _ _))
  have mulc : ∀ B : Nat, ((B * d : Nat) : Int) = (B : Int) * (d : Int) := fun B => Int.natCast_mul B d
  have hM : t.natAbs ≤ (b ^ f - 1) * b ^ (r + 2) * d := by
    refine Nat.le_trans h ?_
    rw [Nat.mul_comm 3 d, Nat.mul_assoc, Nat.mul_comm _ d]
    exact Nat.mul_le_mul_left _ (by omega)
  have r1 := rg_le_dvd y hb hd hdv (by rw [← mulc]; omega : t ≤ _)
  have r2 := dvd_le_rg y hb hd (Int.dvd_neg.mpr hdv) (by rw [Int.neg_mul, ← mulc]; omega : _ ≤ t)
  exact (rgs_mem hb hf (r + 2) _).mpr ⟨by omega, rg_grid y hb hf t hd⟩
theorem le_blw (hb : 2 ≤ b) (hf : 1 ≤ f) {t n : Int} {d : Nat} (hd : 0 < d) (hn : n % (spc b (b ^ f) n.natAbs : Int) = 0) (h : n * (d : Int) ≤ t) : n ≤ blw b (b ^ f) t d := by
  obtain ⟨_, _, _, _, e, _⟩ := around_facts (L := b ^ f) hb t hd
  rw [← e, ← rg_self .down hb hd hn]
  exact rg_mono .down hb hf hd h
theorem abv_le (hb : 2 ≤ b) (hf : 1 ≤ f) {t n : Int} {d : Nat} (hd : 0 < d) (hn : n % (spc b (b ^ f) n.natAbs : Int) = 0) (h : t ≤ n * (d : Int)) : abv b (b ^ f) t d ≤ n := by
  obtain ⟨_, _, _, _, _, e, _⟩ := around_facts (L := b ^ f) hb t hd
  rw [← e, ← rg_self .up hb hd hn]
  exact rg_mono .up hb hf hd h
theorem below_is (hb : 2 ≤ b) (hf : 1 ≤ f) {t : Int} {d : Nat} (hd : 0 < d) (h : t.natAbs ≤ 3 * d * ((b ^ f - 1) * b ^ r)) :
    ∃ zs, (rgs b (b ^ f) (r + 2)).filter (fun n => decide (n * (d : Int) ≤ t)) = zs ++ [blw b (b ^ f) t d] := by
  obtain ⟨a1, _, _, _, e, _⟩ := around_facts (L := b ^ f) hb t hd
  refine last_is ((rgs_asc hb hf _).filter _) (List.mem_filter.mpr ⟨?_, decide_eq_true a1⟩) fun n hn => ?_
  · rw [← e]; exact rg_in .down hb hf hd h
  · obtain ⟨h1, h2⟩ := List.mem_filter.mp hn
    exact le_blw hb hf hd ((rgs_mem hb hf _ n).mp h1).2 (of_decide_eq_true h2)
theorem above_is (hb : 2 ≤ b) (hf : 1 ≤ f) {t : Int} {d : Nat} (hd : 0 < d) (h : t.natAbs ≤ 3 * d * ((b ^ f - 1) * b ^ r)) :
    ∃ zs, (rgs b (b ^ f) (r + 2)).filter (fun n => decide (t ≤ n * (d : Int))) = abv b (b ^ f) t d :: zs := by
  obtain ⟨_, a1, _, _, _, e, _⟩ := around_facts (L := b ^ f) hb t hd
  refine first_is ((rgs_asc hb hf _).filter _) (List.mem_filter.mpr ⟨?_, decide_eq_true a1⟩) fun n hn => ?_
  · rw [← e]; exact rg_in .up hb hf hd h
  · obtain ⟨h1, h2⟩ := List.mem_filter.mp hn
    exact abv_le hb hf hd ((rgs_mem hb hf _ n).mp h1).2 (of_decide_eq_true h2)
end
section
variable {b L : Nat}
/-- turned about -/
def trn : Wy → Wy
  | .near => .near
  | .down => .up
  | .up => .down
  | .zero => .zero
theorem sps_neg (t : Int) (d : Nat) : sps b L (-t) d = sps b L t d := by
  unfold sps
  rw [Int.natAbs_neg]
theorem rg_neg (y : Wy) (hb : 2 ≤ b) (t : Int) {d : Nat} (hd : 0 < d) : rg (trn y) b L (-t) d = -rg y b L t d := by
  have hs := sps_pos (L := L) hb t d
  have hS : 0 < (d : Int) * (sps b L t d : Int) := Int.mul_pos (by omega) hs
  unfold rg
  rw [sps_neg]
  generalize (sps b L t d : Int) = s at *
  generalize (d : Int) * s = S at *
  obtain ⟨h1, h2, h3⟩ := div_facts t S hS
  by_cases h : t % S = 0
  · have e : -t = -(t / S) * S := by rw [Int.neg_mul]; omega
    have e1 : (-t) / S = -(t / S) := by rw [e, Int.mul_ediv_cancel _ (by omega)]
    have e2 : (-t) % S = 0 := by rw [e]; exact Int.mul_emod_left _ _
    rw [e1, e2, h, if_neg (by simp), if_neg (by simp), Int.neg_mul]
  · have e : -t = (S - t % S) + S * (-(t / S) - 1) := by
      rw [Int.mul_sub, Int.mul_neg, Int.mul_comm S (t / S)]
      omega
    have e1 : (-t) / S = -(t / S) - 1 := by
      rw [e, Int.add_mul_ediv_left _ _ (by omega), Int.ediv_eq_zero_of_lt (by omega) (by omega)]
      omega
    have e2 : (-t) % S = S - t % S := by
      rw [e, Int.add_mul_emod_self_left]
      exact Int.emod_eq_of_lt (by omega) (by omega)
    rw [e1, e2]
    have hm0 : (t % S != 0) = true := by simpa using h
    have hm1 : (S - t % S != 0) = true := by simp; omega
    generalize t % S = m at *
    generalize t / S = q at *
    have key : wup (trn y) (-q - 1) (S - m) S = !wup y q m S := by
      cases y with
      | near =>
        rw [Bool.eq_iff_iff]
        simp [wup, trn]
        omega
      | down => rfl
      | up => rfl
      | zero =>
        rw [Bool.eq_iff_iff]
        simp [wup, trn]
        omega
    rw [hm0, hm1, key]
    cases hw : wup y q m S with
    | true =>
      rw [if_neg (by simp), if_pos (by simp), Int.sub_mul, Int.add_mul, Int.neg_mul]
      omega
    | false =>
      rw [if_pos (by simp), if_neg (by simp), Int.add_mul, Int.sub_mul, Int.neg_mul]
      omega
/-- the middle -/
theorem mid_tie (hb : 2 ≤ b) (t : Int) {d : Nat} (hd : 0 < d) : (blw b L t d < abv b L t d ∧ 2 * t = (blw b L t d + abv b L t d) * (d : Int)) ↔ tie b L t d := by
  have hs := sps_pos (L := L) hb t d
  have hS : 0 < (d : Int) * (sps b L t d : Int) := Int.mul_pos (by omega) hs
  have hc := ceil_eq (t := t) hS
  unfold blw abv tie
  rw [hc]
  obtain ⟨h1, h2, h3⟩ := div_facts t _ hS
  by_cases hm : t % ((d : Int) * (sps b L t d : Int)) = 0
  · rw [if_pos hm, hm]
    constructor
    · rintro ⟨h, _⟩
      omega
    · intro h
      omega
  · rw [if_neg hm]
    have e : (t / ((d : Int) * (sps b L t d : Int)) * (sps b L t d : Int) + (t / ((d : Int) * (sps b L t d : Int)) + 1) * (sps b L t d : Int)) * (d : Int) = 2 * (t / ((d : Int) * (sps b L t d : Int)) * ((d : Int) * (sps b L t d : Int))) + (d : Int) * (sps b L t d : Int) := by
      generalize t / ((d : Int) * (sps b L t d : Int)) = q
      generalize (sps b L t d : Int) = s
      have e1 : (q * s + (q + 1) * s) * (d : Int) = 2 * (q * s * (d : Int)) + s * (d : Int) := by
        rw [Int.add_mul, Int.add_mul q 1 s, Int.one_mul, Int.add_mul]
        omega
      rw [e1, Int.mul_assoc q, Int.mul_comm s]
    have e2 : (t / ((d : Int) * (sps b L t d : Int)) + 1) * (sps b L t d : Int) = t / ((d : Int) * (sps b L t d : Int)) * (sps b L t d : Int) + (sps b L t d : Int) := by rw [Int.add_mul, Int.one_mul]
    rw [e, e2]
    generalize t / ((d : Int) * (sps b L t d : Int)) * ((d : Int) * (sps b L t d : Int)) = z at *
    generalize t / ((d : Int) * (sps b L t d : Int)) * (sps b L t d : Int) = z2 at *
    constructor
    · rintro ⟨_, h⟩
      omega
    · intro h
      exact ⟨by omega, by omega⟩
/-- near, told by the distances -/
theorem near_due (hb : 2 ≤ b) (t : Int) {d : Nat} (hd : 0 < d) : rg .near b L t d =
    if t - blw b L t d * (d : Int) = abv b L t d * (d : Int) - t ∧ blw b L t d < abv b L t d then (if blw b L t d / (abv b L t d - blw b L t d) % 2 = 0 then blw b L t d else abv b L t d)
    else if t - blw b L t d * (d : Int) < abv b L t d * (d : Int) - t then blw b L t d else abv b L t d := by
  have hs := sps_pos (L := L) hb t d
  have hS : 0 < (d : Int) * (sps b L t d : Int) := Int.mul_pos (by omega) hs
  have hc := ceil_eq (t := t) hS
  obtain ⟨h1, h2, h3, h4⟩ := rg_form (L := L) .near hb t hd
  unfold blw abv
  rw [hc]
  have mulq : ∀ x : Int, x * (sps b L t d : Int) * (d : Int) = x * ((d : Int) * (sps b L t d : Int)) := fun x => by rw [Int.mul_assoc, Int.mul_comm (sps b L t d : Int)]
  by_cases hm : t % ((d : Int) * (sps b L t d : Int)) = 0
  · rw [if_pos hm, if_neg (by omega), mulq, if_neg (by omega)]
    rcases h4 with ⟨e, _⟩ | ⟨_, h, _⟩
    · exact e
    · exact absurd hm h
  · rw [if_neg hm]
    have e1 : (t / ((d : Int) * (sps b L t d : Int)) + 1) * ((d : Int) * (sps b L t d : Int)) = t / ((d : Int) * (sps b L t d : Int)) * ((d : Int) * (sps b L t d : Int)) + (d : Int) * (sps b L t d : Int) := by rw [Int.add_mul, Int.one_mul]
    have e2 : (t / ((d : Int) * (sps b L t d : Int)) + 1) * (sps b L t d : Int) - t / ((d : Int) * (sps b L t d : Int)) * (sps b L t d : Int) = (sps b L t d : Int) := by
      rw [Int.add_mul, Int.one_mul]
      generalize t / ((d : Int) * (sps b L t d : Int)) * (sps b L t d : Int) = z
      omega
    have e3 : t / ((d : Int) * (sps b L t d : Int)) * (sps b L t d : Int) / (sps b L t d : Int) = t / ((d : Int) * (sps b L t d : Int)) := Int.mul_ediv_cancel _ (by omega)
    rw [mulq, mulq, e1, e2, e3]
    have e4 : t / ((d : Int) * (sps b L t d : Int)) * (sps b L t d : Int) < (t / ((d : Int) * (sps b L t d : Int)) + 1) * (sps b L t d : Int) := by omega
    generalize t / ((d : Int) * (sps b L t d : Int)) * ((d : Int) * (sps b L t d : Int)) = z at *
    generalize (t / ((d : Int) * (sps b L t d : Int)) + 1) * (sps b L t d : Int) = up at *
    generalize t / ((d : Int) * (sps b L t d : Int)) * (sps b L t d : Int) = dn at *
    generalize t / ((d : Int) * (sps b L t d : Int)) = q at *
    generalize t % ((d : Int) * (sps b L t d : Int)) = m at *
    generalize (d : Int) * (sps b L t d : Int) = S at *
    rcases h4 with ⟨e, hu⟩ | ⟨e, _, hu⟩
    · have hu := hu hm
      simp [wup] at hu
      rw [e]
      by_cases c : t - z = z + S - t
      · rw [if_pos ⟨c, e4⟩, if_pos (by omega)]
      · rw [if_neg (fun h => c h.1), if_pos (by omega)]
    · simp [wup] at hu
      rw [e]
      by_cases c : t - z = z + S - t
      · rw [if_pos ⟨c, e4⟩, if_neg (by omega)]
      · rw [if_neg (fun h => c h.1), if_neg (by omega)]
/-- the greatest common part, by what is left -/
theorem gcd_step (x y : Nat) (hy : 0 < y) : Nat.gcd y (x % y) = Nat.gcd x y := by
  rw [Nat.gcd_comm x y, Nat.gcd_rec y x, Nat.gcd_comm]
/-- a number of the grid is one of each finer grid -/
theorem finer {b f m : Nat} (hb : 2 ≤ b) {n : Int} (h : n % (spc b (b ^ f) n.natAbs : Int) = 0) : n % (spc b (b ^ (f + m)) n.natAbs : Int) = 0 := by
  have hL : 1 ≤ b ^ f := Nat.pow_pos (by omega)
  have hL2 : 1 ≤ b ^ (f + m) := Nat.pow_pos (by omega)
  have hle : spx b (b ^ (f + m)) n.natAbs ≤ spx b (b ^ f) n.natAbs := by
    refine spx_le hb hL2 (Nat.lt_of_lt_of_le (spx_up (n := n.natAbs) hb hL) (Nat.mul_le_mul_right _ (Nat.pow_le_pow_right (by omega) (by omega))))
  exact Int.emod_eq_zero_of_dvd (Int.dvd_trans (Int.natCast_dvd_natCast.mpr (Nat.pow_dvd_pow b hle)) (Int.dvd_of_emod_eq_zero h))
end
end My

set_option linter.all false
namespace My
/-! ### laps of sums -/
def stp (y : Wy) (b f r : Nat) (p x : Int) : Option Int := if (rg y b (b ^ f) (x + p) 1).natAbs ≤ (b ^ f - 1) * b ^ r then some (rg y b (b ^ f) (x + p) 1) else none
def Run (s : Int → Option Int) : Nat → Int → Int → Prop
  | 0, x, z => x = z
  | n + 1, x, z => ∃ y, s x = some y ∧ y ≠ x ∧ Run s n y z
def lp (s : Int → Option Int) : Nat → Int → Nat → Nat ⊕ Int
  | 0, x, _ => .inr x
  | n + 1, x, k => match s x with
    | none => .inl k
    | some y => lp s n y (k + 1)
section
variable {s : Int → Option Int}
theorem run_app : ∀ {m n : Nat} {x y z : Int}, Run s m x y → Run s n y z → Run s (m + n) x z
  | 0, n, x, y, z, h, h' => by
    have h : x = y := h
    rw [Nat.zero_add, h]; exact h'
  | m + 1, n, x, y, z, h, h' => by
    obtain ⟨w, h1, h2, h3⟩ := h
    rw [Nat.add_right_comm]
    exact ⟨w, h1, h2, run_app h3 h'⟩
theorem run_one {x y : Int} (h : s x = some y) (h' : y ≠ x) : Run s 1 x y := ⟨y, h, h', rfl⟩
theorem lp_run : ∀ {m n : Nat} {x y : Int} {k : Nat}, Run s m x y → lp s (m + n) x k = lp s n y (k + m)
  | 0, n, x, y, k, h => by
    have h : x = y := h
    rw [Nat.zero_add, h]; rfl
  | m + 1, n, x, y, k, h => by
    obtain ⟨w, h1, h2, h3⟩ := h
    have e : m + 1 + n = (m + n) + 1 := by omega
    rw [e]
    show (match s x with | none => (Sum.inl k : Nat ⊕ Int) | some y => lp s (m + n) y (k + 1)) = _
    rw [h1]
    show lp s (m + n) w (k + 1) = _
    rw [lp_run h3]
    congr 1
    omega
theorem lp_stay {x : Int} (h : s x = some x) : ∀ (n k : Nat), lp s n x k = .inr x
  | 0, k => rfl
  | n + 1, k => by
    show (match s x with | none => (Sum.inl k : Nat ⊕ Int) | some y => lp s n y (k + 1)) = _
    rw [h]
    exact lp_stay h n (k + 1)
def onw (s : Int → Option Int) (n k : Nat) : Nat ⊕ Int → Nat ⊕ Int
  | .inl j => .inl j
  | .inr y => lp s n y k
theorem lp_cut : ∀ (m n : Nat) (x : Int) (k : Nat), lp s (m + n) x k = onw s n (k + m) (lp s m x k)
  | 0, n, x, k => by rw [Nat.zero_add]; rfl
  | m + 1, n, x, k => by
    have e : m + 1 + n = (m + n) + 1 := by omega
    rw [e]
    show (match s x with | none => .inl k | some y => lp s (m + n) y (k + 1)) = onw s n (k + (m + 1)) (match s x with | none => .inl k | some y => lp s m y (k + 1))
    cases hs : s x with
    | none => rfl
    | some y =>
      show lp s (m + n) y (k + 1) = onw s n (k + (m + 1)) (lp s m y (k + 1))
      rw [lp_cut m n y (k + 1)]
      have : k + 1 + m = k + (m + 1) := by omega
      rw [this]
def sft (c : Nat) : Nat ⊕ Int → Nat ⊕ Int
  | .inl j => .inl (j + c)
  | .inr y => .inr y
theorem lp_shift : ∀ (n : Nat) (x : Int) (k c : Nat), lp s n x (k + c) = sft c (lp s n x k)
  | 0, x, k, c => rfl
  | n + 1, x, k, c => by
    show (match s x with | none => .inl (k + c) | some y => lp s n y (k + c + 1)) = sft c (match s x with | none => .inl k | some y => lp s n y (k + 1))
    cases hs : s x with
    | none => rfl
    | some y =>
      show lp s n y (k + c + 1) = sft c (lp s n y (k + 1))
      rw [← lp_shift n y (k + 1) c]
      congr 1
      omega
theorem run_stop : ∀ {j j' : Nat} {x y y' : Int}, Run s j x y → Run s j' x y' → (s y = none ∨ s y = some y) → (s y' = none ∨ s y' = some y') → j = j' ∧ y = y'
  | 0, 0, x, y, y', h, h', _, _ => ⟨rfl, (show x = y from h).symm.trans h'⟩
  | 0, j' + 1, x, y, y', h, h', a, _ => by
    obtain ⟨w, h1, h2, _⟩ := h'
    have h : x = y := h
    subst h
    rcases a with a | a
    · rw [a] at h1; cases h1
    · rw [a] at h1; cases h1; exact absurd rfl h2
  | j + 1, 0, x, y, y', h, h', _, a => by
    obtain ⟨w, h1, h2, _⟩ := h
    have h' : x = y' := h'
    subst h'
    rcases a with a | a
    · rw [a] at h1; cases h1
    · rw [a] at h1; cases h1; exact absurd rfl h2
  | j + 1, j' + 1, x, y, y', h, h', a, a' => by
    obtain ⟨w, h1, _, h3⟩ := h
    obtain ⟨w', h1', _, h3'⟩ := h'
    rw [h1] at h1'; cases h1'
    obtain ⟨e1, e2⟩ := run_stop h3 h3' a a'
    exact ⟨by omega, e2⟩
theorem run_last : ∀ {j : Nat} {x y : Int}, Run s (j + 1) x y → ∃ z, Run s j x z ∧ s z = some y ∧ y ≠ z
  | 0, x, y, h => by
    obtain ⟨w, h1, h2, h3⟩ := h
    have h3 : w = y := h3
    subst h3
    exact ⟨x, rfl, h1, h2⟩
  | j + 1, x, y, h => by
    obtain ⟨w, h1, h2, h3⟩ := h
    obtain ⟨z, g1, g2, g3⟩ := run_last h3
    exact ⟨z, ⟨w, h1, h2, g1⟩, g2, g3⟩
end
section
variable {b f r : Nat}
/-! ### the ground of a number -/
def gS (b f : Nat) (x : Int) : Int := (spc b (b ^ f) x.natAbs : Nat)
def gHi (b f : Nat) (x : Int) : Int := gS b f x * ((b ^ f : Nat) : Int) - 1
def gLo (b f : Nat) (x : Int) : Int := gS b f x * ((b ^ f : Nat) : Int) / (b : Int)
def Gnd (b f : Nat) (x t : Int) : Prop := if gS b f x = 1 then -gHi b f x ≤ t ∧ t ≤ gHi b f x else if 0 < x then gLo b f x ≤ t ∧ t ≤ gHi b f x else -gHi b f x ≤ t ∧ t ≤ -gLo b f x
theorem gLo_eq (hb : 2 ≤ b) (hf : 1 ≤ f) {x : Int} {k : Nat} (hk : spx b (b ^ f) x.natAbs = k + 1) : gLo b f x = ((b ^ f * b ^ k : Nat) : Int) := by
  unfold gLo gS spc
  rw [hk]
  have h1 : b ^ (k + 1) * b ^ f = b ^ f * b ^ k * b := by
    rw [Nat.pow_succ]
    rw [Nat.mul_comm (b ^ k * b), Nat.mul_assoc]
  have h2 : ((b ^ (k + 1) : Nat) : Int) * ((b ^ f : Nat) : Int) = ((b ^ f * b ^ k : Nat) : Int) * (b : Int) := by
    rw [← Int.natCast_mul, ← Int.natCast_mul, h1]
  rw [h2]
  exact Int.mul_ediv_cancel _ (by omega)
theorem gnd_self (hb : 2 ≤ b) (hf : 1 ≤ f) (x : Int) : Gnd b f x x := by
  have hL : 1 ≤ b ^ f := Nat.pow_pos (by omega)
  have up := spx_up (n := x.natAbs) (L := b ^ f) hb hL
  have hi : (x.natAbs : Int) ≤ gHi b f x := by
    unfold gHi gS spc
    rw [← Int.natCast_mul, Nat.mul_comm]
    omega
  unfold Gnd
  by_cases h1 : gS b f x = 1
  · rw [if_pos h1]
    omega
  · rw [if_neg h1]
    obtain ⟨k, hk⟩ : ∃ k, spx b (b ^ f) x.natAbs = k + 1 := by
      cases e : spx b (b ^ f) x.natAbs with
      | zero =>
        refine absurd ?_ h1
        unfold gS spc
        rw [e]; rfl
      | succ k => exact ⟨k, rfl⟩
    have lo := gLo_eq hb hf hk
    have lw := spx_low (n := x.natAbs) hb k (b ^ f) hL (by omega)
    by_cases h2 : 0 < x
    · rw [if_pos h2]
      omega
    · rw [if_neg h2]
      omega
theorem gnd_spc (hb : 2 ≤ b) (hf : 1 ≤ f) {x t : Int} (h : Gnd b f x t) : spc b (b ^ f) t.natAbs = spc b (b ^ f) x.natAbs := by
  have hL : 1 ≤ b ^ f := Nat.pow_pos (by omega)
  unfold Gnd at h
  have hhi : gHi b f x = ((b ^ f * b ^ spx b (b ^ f) x.natAbs : Nat) : Int) - 1 := by
    unfold gHi gS spc
    rw [← Int.natCast_mul, Nat.mul_comm]
  by_cases h1 : gS b f x = 1
  · rw [if_pos h1] at h
    have h1' : spc b (b ^ f) x.natAbs = 1 := by unfold gS at h1; omega
    have e0 : b ^ spx b (b ^ f) x.natAbs = 1 := h1'
    rw [e0, Nat.mul_one] at hhi
    rw [h1']
    unfold spc
    rw [spx_lt (by omega), Nat.pow_zero]
  · rw [if_neg h1] at h
    obtain ⟨k, hk⟩ : ∃ k, spx b (b ^ f) x.natAbs = k + 1 := by
      cases e : spx b (b ^ f) x.natAbs with
      | zero =>
        refine absurd ?_ h1
        unfold gS spc
        rw [e]; rfl
      | succ k => exact ⟨k, rfl⟩
    have lo := gLo_eq hb hf hk
    have key : b ^ f * b ^ k ≤ t.natAbs ∧ t.natAbs < b ^ f * b ^ (k + 1) := by
      rw [hk] at hhi
      by_cases h2 : 0 < x
      · rw [if_pos h2] at h
        omega
      · rw [if_neg h2] at h
        omega
    unfold spc
    congr 1
    rw [hk]
    have u := spx_le (n := t.natAbs) hb hL key.2
    by_cases e : spx b (b ^ f) t.natAbs ≤ k
    · have u2 := spx_up (n := t.natAbs) (L := b ^ f) hb hL
      have : b ^ f * b ^ spx b (b ^ f) t.natAbs ≤ b ^ f * b ^ k := Nat.mul_le_mul_left _ (Nat.pow_le_pow_right (by omega) e)
      omega
    · omega
theorem gnd_sign (hb : 2 ≤ b) (hf : 1 ≤ f) {x t u : Int} (h1 : gS b f x ≠ 1) (ht : Gnd b f x t) (hu : Gnd b f x u) : (0 < t ∧ 0 < u) ∨ (t < 0 ∧ u < 0) := by
  have hL : 1 ≤ b ^ f := Nat.pow_pos (by omega)
  unfold Gnd at ht hu
  rw [if_neg h1] at ht hu
  obtain ⟨k, hk⟩ : ∃ k, spx b (b ^ f) x.natAbs = k + 1 := by
    cases e : spx b (b ^ f) x.natAbs with
    | zero =>
      refine absurd ?_ h1
      unfold gS spc
      rw [e]; rfl
    | succ k => exact ⟨k, rfl⟩
  have lo := gLo_eq hb hf hk
  have hp : 0 < b ^ f * b ^ k := Nat.mul_pos hL (Nat.pow_pos (by omega))
  by_cases h2 : 0 < x
  · rw [if_pos h2] at ht hu
    omega
  · rw [if_neg h2] at ht hu
    omega
theorem gnd_abs (hb : 2 ≤ b) (hf : 1 ≤ f) {x t : Int} (h : Gnd b f x t) : t.natAbs < b ^ f * spc b (b ^ f) x.natAbs := by
  have := spx_up (n := t.natAbs) (L := b ^ f) hb (Nat.pow_pos (by omega))
  have e : b ^ spx b (b ^ f) t.natAbs = spc b (b ^ f) x.natAbs := gnd_spc hb hf h
  rw [e] at this
  exact this
theorem gnd_mid {x t u v : Int} (ht : Gnd b f x t) (hv : Gnd b f x v) (h1 : t ≤ u) (h2 : u ≤ v) : Gnd b f x u := by
  unfold Gnd at *
  split at ht
  · rename_i c; rw [if_pos c] at hv ⊢; omega
  · rename_i c
    rw [if_neg c] at hv ⊢
    split at ht
    · rename_i c; rw [if_pos c] at hv ⊢; omega
    · rename_i c; rw [if_neg c] at hv ⊢; omega
/-- what rounding adds, in spacings -/
def ups (y : Wy) (k m S : Int) : Int := if (m != 0) = true ∧ wup y k m S = true then 1 else 0
theorem rg_row (y : Wy) (hb : 2 ≤ b) {k p : Int} {S : Nat} (h : spc b (b ^ f) (k * (S : Int) + p).natAbs = S) :
    rg y b (b ^ f) (k * (S : Int) + p) 1 = (k + p / (S : Int) + ups y (k + p / (S : Int)) (p % (S : Int)) (S : Int)) * (S : Int) := by
  have hS : (0 : Int) < (S : Int) := by
    have := spc_pos (b := b) (L := b ^ f) (n := (k * (S : Int) + p).natAbs) hb
    omega
  have one : (((1 : Nat) : Int)) * (S : Int) = (S : Int) := by simp
  unfold rg sps
  rw [Nat.div_one, h, one]
  have e1 : (k * (S : Int) + p) / (S : Int) = k + p / (S : Int) := by
    rw [Int.add_comm, Int.add_mul_ediv_right _ _ (by omega), Int.add_comm]
  have e2 : (k * (S : Int) + p) % (S : Int) = p % (S : Int) := by
    rw [Int.add_comm, Int.add_mul_emod_self_right]
  rw [e1, e2]
  unfold ups
  split
  · rfl
  · rw [Int.add_zero]
theorem leap (y : Wy) (hb : 2 ≤ b) (hf : 1 ≤ f) {x p n d : Int} (hx : x % (spc b (b ^ f) x.natAbs : Int) = 0) (hn : n = rg y b (b ^ f) (x + p) 1) (hxp : Gnd b f x (x + p)) (hnn : Gnd b f x n)
    (hq : Gnd b f x (n + p)) (hd : d = rg y b (b ^ f) (n + p) 1 - n) (i : Nat) (hi : Gnd b f x (n + (i : Int) * d + p)) : rg y b (b ^ f) (n + (i : Int) * d + p) 1 = n + ((i : Int) + 1) * d := by
  have gs := gnd_sign hb hf (x := x) (t := n + p) (u := n + (i : Int) * d + p)
  have s1 := gnd_spc hb hf hxp
  have s2 := gnd_spc hb hf hnn
  have s3 := gnd_spc hb hf hq
  have s4 := gnd_spc hb hf hi
  have g1 : n % (spc b (b ^ f) n.natAbs : Int) = 0 := by
    rw [hn]; exact rg_grid y hb hf _ (by decide)
  rw [s2] at g1
  have hS : (0 : Int) < ((spc b (b ^ f) x.natAbs : Nat) : Int) := spcI_pos hb _
  have hgS : gS b f x = ((spc b (b ^ f) x.natAbs : Nat) : Int) := rfl
  generalize spc b (b ^ f) x.natAbs = S at *
  obtain ⟨k0, hk0⟩ := Int.dvd_of_emod_eq_zero hx
  obtain ⟨a, ha⟩ := Int.dvd_of_emod_eq_zero g1
  rw [Int.mul_comm] at hk0 ha
  rw [hk0] at s1
  have r1 := rg_row y hb s1
  rw [ha] at s3
  have r2 := rg_row y hb s3
  have r2' : rg y b (b ^ f) (n + p) 1 = (a + p / (S : Int) + ups y (a + p / (S : Int)) (p % (S : Int)) (S : Int)) * (S : Int) := by rw [ha]; exact r2
  have hd2 : d = (p / (S : Int) + ups y (a + p / (S : Int)) (p % (S : Int)) (S : Int)) * (S : Int) := by
    rw [hd, r2', Int.add_assoc a, Int.add_mul a]
    omega
  have en : n = (k0 + p / (S : Int) + ups y (k0 + p / (S : Int)) (p % (S : Int)) (S : Int)) * (S : Int) := by
    rw [hn, hk0]; exact r1
  have ea : a = k0 + p / (S : Int) + ups y (k0 + p / (S : Int)) (p % (S : Int)) (S : Int) := by
    refine Int.eq_of_mul_eq_mul_right (show (S : Int) ≠ 0 by omega) ?_
    rw [← ha]; exact en
  generalize hu : ups y (a + p / (S : Int)) (p % (S : Int)) (S : Int) = u at *
  have et : n + (i : Int) * d + p = (a + (i : Int) * (p / (S : Int) + u)) * (S : Int) + p := by
    rw [Int.add_mul, ← ha, hd2, Int.mul_assoc]
  rw [et] at s4
  have r3 := rg_row y hb s4
  rw [et, r3]
  have m0 := Int.emod_nonneg p (show (S : Int) ≠ 0 by omega)
  have m1 := Int.emod_lt_of_pos p hS
  have key : ups y (a + (i : Int) * (p / (S : Int) + u) + p / (S : Int)) (p % (S : Int)) (S : Int) = u := by
    have q1 : (n + p) / (S : Int) = a + p / (S : Int) := by
      rw [ha, Int.add_comm, Int.add_mul_ediv_right _ _ (by omega), Int.add_comm]
    have q2 : (n + (i : Int) * d + p) / (S : Int) = a + (i : Int) * (p / (S : Int) + u) + p / (S : Int) := by
      rw [et, Int.add_comm, Int.add_mul_ediv_right _ _ (by omega), Int.add_comm]
    cases y with
    | down =>
      rw [← hu]
      unfold ups wup
      simp
    | up =>
      rw [← hu]
      unfold ups wup
      rfl
    | zero =>
      refine Eq.trans ?_ hu
      by_cases h1 : S = 1
      · have : p % (S : Int) = 0 := by omega
        unfold ups
        rw [this]
        simp
      · have hneg : ∀ t : Int, t / (S : Int) < 0 ↔ t < 0 := fun t => by
          constructor
          · intro z
            by_cases w : t < 0
            · exact w
            · exact absurd (Int.ediv_nonneg (show 0 ≤ t by omega) (show 0 ≤ (S : Int) by omega)) (by omega)
          · intro z
            exact Int.ediv_neg_of_neg_of_pos z hS
        have c1 := hneg (n + p)
        have c2 := hneg (n + (i : Int) * d + p)
        rw [q1] at c1
        rw [q2] at c2
        have gs := gs (by rw [hgS]; omega) hq hi
        have e : decide (a + (i : Int) * (p / (S : Int) + u) + p / (S : Int) < 0) = decide (a + p / (S : Int) < 0) := by
          rcases gs with g | g
          · rw [decide_eq_false (by omega), decide_eq_false (by omega)]
          · rw [decide_eq_true (by omega), decide_eq_true (by omega)]
        unfold ups
        have w : ∀ k m s : Int, wup .zero k m s = decide (k < 0) := fun _ _ _ => rfl
        rw [w, w, e]
    | near =>
      by_cases h2 : p % (S : Int) * 2 = (S : Int)
      · have hm : (p % (S : Int) != 0) = true := by
          have : p % (S : Int) ≠ 0 := by omega
          simpa using this
        have hw : ∀ k : Int, ups .near k (p % (S : Int)) (S : Int) = if k % 2 = 1 then 1 else 0 := fun k => by
          unfold ups
          have : wup .near k (p % (S : Int)) (S : Int) = decide (k % 2 = 1) := by
            show (decide ((S : Int) < p % (S : Int) * 2) || (decide (p % (S : Int) * 2 = (S : Int)) && decide (k % 2 = 1))) = _
            rw [decide_eq_false (show ¬ (S : Int) < p % (S : Int) * 2 by omega), decide_eq_true h2]
            simp
          rw [this, hm]
          simp
        rw [hw] at hu ea ⊢
        have ev : a % 2 = 0 := by
          split at ea <;> omega
        have eu : (p / (S : Int) + u) % 2 = 0 := by
          split at hu <;> omega
        have ei : (i : Int) * (p / (S : Int) + u) % 2 = 0 := by
          rw [Int.mul_emod, eu, Int.mul_zero]; rfl
        split <;> split at hu <;> omega
      · have hw : ∀ k : Int, wup .near k (p % (S : Int)) (S : Int) = decide ((S : Int) < p % (S : Int) * 2) := fun k => by
          show (decide ((S : Int) < p % (S : Int) * 2) || (decide (p % (S : Int) * 2 = (S : Int)) && decide (k % 2 = 1))) = _
          rw [decide_eq_false h2]
          simp
        rw [← hu]
        unfold ups
        rw [hw, hw]
  rw [key, ha, hd2, Int.add_mul ((i : Nat) : Int) 1, Int.one_mul]
  rw [← Int.mul_assoc, ← Int.add_mul, ← Int.add_mul]
  congr 1
  omega

def gA (b f : Nat) (x : Int) : Int := if gS b f x = 1 then -gHi b f x else if 0 < x then gLo b f x else -gHi b f x
def gB (b f : Nat) (x : Int) : Int := if gS b f x = 1 then gHi b f x else if 0 < x then gHi b f x else -gLo b f x
theorem gnd_iff {x t : Int} : Gnd b f x t ↔ gA b f x ≤ t ∧ t ≤ gB b f x := by
  unfold Gnd gA gB
  split
  · exact Iff.rfl
  · split
    · exact Iff.rfl
    · exact Iff.rfl
theorem stp_some {y : Wy} (hb : 2 ≤ b) (hf : 1 ≤ f) {p x z : Int} (h : stp y b f r p x = some z) : z = rg y b (b ^ f) (x + p) 1 ∧ z.natAbs ≤ (b ^ f - 1) * b ^ r ∧ z % (spc b (b ^ f) z.natAbs : Int) = 0 := by
  unfold stp at h
  split at h
  · rename_i c
    cases h
    exact ⟨rfl, c, rg_grid y hb hf _ (by decide)⟩
  · cases h
theorem stp_of {y : Wy} {p x z : Int} (h : z = rg y b (b ^ f) (x + p) 1) (h' : z.natAbs ≤ (b ^ f - 1) * b ^ r) : stp y b f r p x = some z := by
  unfold stp
  rw [← h, if_pos h']
theorem stp_up (y : Wy) (hb : 2 ≤ b) (hf : 1 ≤ f) {x p : Int} (hx : x % (spc b (b ^ f) x.natAbs : Int) = 0) : (0 ≤ p → x ≤ rg y b (b ^ f) (x + p) 1) ∧ (p ≤ 0 → rg y b (b ^ f) (x + p) 1 ≤ x) := by
  have e := rg_of_grid y hb hx
  refine ⟨fun h => ?_, fun h => ?_⟩
  · have := rg_mono y hb hf (t := x) (t' := x + p) (d := 1) (by decide) (by omega)
    omega
  · have := rg_mono y hb hf (t := x + p) (t' := x) (d := 1) (by decide) (by omega)
    omega
theorem gnd_G (hb : 2 ≤ b) (hf : 1 ≤ f) {x t : Int} (hG : x.natAbs ≤ (b ^ f - 1) * b ^ r) (h : Gnd b f x t) (ht : t % (spc b (b ^ f) t.natAbs : Int) = 0) : t.natAbs ≤ (b ^ f - 1) * b ^ r := by
  have gr : Gr b f r (b ^ f) ((b ^ f - 1) * b ^ r) := ⟨hb, hf, rfl, rfl⟩
  have hr := spx_r gr (t := x) hG
  have ha := gnd_abs hb hf h
  have e := gnd_spc hb hf h
  rw [e] at ht
  have hS : 0 < spc b (b ^ f) x.natAbs := spc_pos hb
  have hSr : spc b (b ^ f) x.natAbs ≤ b ^ r := Nat.pow_le_pow_right (by omega) hr
  generalize spc b (b ^ f) x.natAbs = S at *
  obtain ⟨q, hq⟩ := Int.dvd_of_emod_eq_zero ht
  have eq : t.natAbs = S * q.natAbs := by rw [hq, Int.natAbs_mul, Int.natAbs_natCast]
  rw [eq] at ha ⊢
  rw [Nat.mul_comm (b ^ f)] at ha
  have hql := Nat.lt_of_mul_lt_mul_left ha
  rw [Nat.mul_comm]
  exact Nat.mul_le_mul (by omega) hSr
theorem leap_run (y : Wy) (hb : 2 ≤ b) (hf : 1 ≤ f) {x p n z m : Int} (hx : x % (spc b (b ^ f) x.natAbs : Int) = 0) (hG : x.natAbs ≤ (b ^ f - 1) * b ^ r) (hn : stp y b f r p x = some n) (hne : n ≠ x)
    (h1 : gA b f x ≤ n + p) (h2 : n + p ≤ gB b f x) (hz : z = rg y b (b ^ f) (n + p) 1) (hzn : z ≠ n)
    (hm : m = ((if 0 < p then gB b f x - n else n - gA b f x) - (p.natAbs : Int)) / ((z - n).natAbs : Int)) :
    0 ≤ m ∧ ∀ j : Nat, (j : Int) ≤ m → Run (stp y b f r p) j n (n + (j : Int) * (z - n)) ∧ (n + (j : Int) * (z - n)).natAbs ≤ (b ^ f - 1) * b ^ r ∧ (n + (j : Int) * (z - n)) % (spc b (b ^ f) (n + (j : Int) * (z - n)).natAbs : Int) = 0 := by
  obtain ⟨en, nG, ng⟩ := stp_some hb hf hn
  obtain ⟨u1, u2⟩ := stp_up y hb hf (p := p) hx
  obtain ⟨v1, v2⟩ := stp_up y hb hf (p := p) ng
  rw [← en] at u1 u2
  rw [← hz] at v1 v2
  have hp : p ≠ 0 := fun e => by
    have := u1 (by omega)
    have := u2 (by omega)
    omega
  have gx := gnd_iff.mp (gnd_self hb hf x)
  have room0 : 0 ≤ (if 0 < p then gB b f x - n else n - gA b f x) - (p.natAbs : Int) := by
    split
    · omega
    · omega
  have hD : (0 : Int) < ((z - n).natAbs : Int) := by omega
  have hm0 : 0 ≤ m := by rw [hm]; exact Int.ediv_nonneg room0 (by omega)
  have hmD : m * ((z - n).natAbs : Int) ≤ (if 0 < p then gB b f x - n else n - gA b f x) - (p.natAbs : Int) := by
    rw [hm]; exact Int.ediv_mul_le _ (by omega)
  have inn : Gnd b f x n := gnd_iff.mpr (by
    by_cases c : 0 < p
    · have := u1 (by omega); omega
    · have := u2 (by omega); omega)
  have inxp : Gnd b f x (x + p) := gnd_iff.mpr (by
    by_cases c : 0 < p
    · have := u1 (by omega); omega
    · have := u2 (by omega); omega)
  have inq : Gnd b f x (n + p) := gnd_iff.mpr ⟨h1, h2⟩
  have all : ∀ j : Nat, (j : Int) ≤ m → Gnd b f x (n + (j : Int) * (z - n)) ∧ Gnd b f x (n + (j : Int) * (z - n) + p) := by
    intro j hj
    have hjD : (j : Int) * ((z - n).natAbs : Int) ≤ m * ((z - n).natAbs : Int) := Int.mul_le_mul_of_nonneg_right hj (by omega)
    have hj0 : 0 ≤ (j : Int) * ((z - n).natAbs : Int) := Int.mul_nonneg (by omega) (by omega)
    by_cases c : 0 < p
    · rw [if_pos c] at hmD
      have := v1 (by omega)
      have e : ((z - n).natAbs : Int) = z - n := by omega
      rw [e] at hjD hj0 hmD
      have gn := gnd_iff.mp inn
      rw [gnd_iff, gnd_iff]
      omega
    · rw [if_neg c] at hmD
      have := v2 (by omega)
      have e : ((z - n).natAbs : Int) = -(z - n) := by omega
      rw [e, Int.mul_neg] at hjD hj0
      rw [e, Int.mul_neg] at hmD
      rw [Int.mul_neg] at hjD
      have gn := gnd_iff.mp inn
      rw [gnd_iff, gnd_iff]
      omega
  have on : ∀ j : Nat, (j : Int) ≤ m → (n + (j : Int) * (z - n)).natAbs ≤ (b ^ f - 1) * b ^ r ∧ (n + (j : Int) * (z - n)) % (spc b (b ^ f) (n + (j : Int) * (z - n)).natAbs : Int) = 0 := by
    intro j
    induction j with
    | zero =>
      intro _
      have e : n + ((0 : Nat) : Int) * (z - n) = n := by simp
      rw [e]
      exact ⟨nG, ng⟩
    | succ j ih =>
      intro hj
      have hl := leap y hb hf hx en inxp inn inq (d := z - n) (by rw [hz]) j (all j (by omega)).2
      have e : ((j + 1 : Nat) : Int) = (j : Int) + 1 := by omega
      rw [e, ← hl]
      have hg := rg_grid y hb hf (n + (j : Int) * (z - n) + p) (d := 1) (by decide)
      refine ⟨gnd_G hb hf hG ?_ hg, hg⟩
      rw [hl, ← e]
      exact (all (j + 1) hj).1
  refine ⟨hm0, fun j => ?_⟩
  induction j with
  | zero =>
    intro hj
    have := on 0 hj
    have e : n + ((0 : Nat) : Int) * (z - n) = n := by simp
    rw [e] at this ⊢
    exact ⟨rfl, this⟩
  | succ j ih =>
    intro hj
    have hl := leap y hb hf hx en inxp inn inq (d := z - n) (by rw [hz]) j (all j (by omega)).2
    have e : ((j + 1 : Nat) : Int) = (j : Int) + 1 := by omega
    have o := on (j + 1) hj
    refine ⟨?_, o⟩
    rw [e] at o ⊢
    refine run_app (ih (by omega)).1 (run_one (stp_of hl.symm o.1) ?_)
    rw [Int.add_mul, Int.one_mul]
    omega
end
end My

set_option Elab.async false
set_option maxRecDepth 100000
set_option maxHeartbeats 1000000
namespace My
open PySem L2 Evl
/-! ### data -/
theorem pw400 {b i : Nat} (hb : b ≤ 10) (hi : i ≤ 100) : b ^ i < 2 ^ 400 := by
  have h1 : b ^ i ≤ 10 ^ i := Nat.pow_le_pow_left hb i
  have h2 : 10 ^ i ≤ 10 ^ 100 := Nat.pow_le_pow_right (by decide) hi
  have h3 : 10 ^ 100 < 2 ^ 400 := by decide +kernel
  omega
theorem wm {i j : Int} (ha : i.natAbs < 2 ^ 5000) (hb : j.natAbs < 2 ^ 5000) : CMulW i j := wide_mul ha hb (by decide) (by decide) (by decide)
theorem wd {i j : Int} (h : 0 < j) (hb : j.natAbs < 2 ^ 5000) : CDivW i j := wide_div h hb (by decide) (by decide)
theorem p5000 {n k : Nat} (h : n < 2 ^ k) (hk : k ≤ 5000 := by decide) : n < 2 ^ 5000 := Nat.lt_of_lt_of_le h (Nat.pow_le_pow_right (by decide) hk)
def gfl (b f r p u : Int) (lim tops : Addr) (G : Int) : List (Str × V) :=
  putF "greatest" (.int G) (putF "tops" (.ref tops) (putF "limits" (.ref lim) (putF "unit" (.int u) (putF "places" (.int p) (putF "reach" (.int r) (putF "figures" (.int f) (putF "base" (.int b) [])))))))
section
variable {b f r p u G : Int} {lim tops : Addr}
theorem gfl_base : (gfl b f r p u lim tops G).lookup ("base" : Str) = some (.int b) := by
  unfold gfl
  repeat (first | rw [lookup_putF, if_pos (by decide +kernel)] | rw [lookup_putF, if_neg (by decide +kernel)])
theorem gfl_limits : (gfl b f r p u lim tops G).lookup ("limits" : Str) = some (.ref lim) := by
  unfold gfl
  repeat (first | rw [lookup_putF, if_pos (by decide +kernel)] | rw [lookup_putF, if_neg (by decide +kernel)])
theorem gfl_tops : (gfl b f r p u lim tops G).lookup ("tops" : Str) = some (.ref tops) := by
  unfold gfl
  repeat (first | rw [lookup_putF, if_pos (by decide +kernel)] | rw [lookup_putF, if_neg (by decide +kernel)])
theorem gfl_greatest : (gfl b f r p u lim tops G).lookup ("greatest" : Str) = some (.int G) := by
  unfold gfl
  rw [lookup_putF, if_pos (by decide +kernel)]
end
/-- a Grid stands at g -/
structure GridAt (a : Ad) (H : Hp) (g : Addr) (b f r L G : Nat) : Prop where
  gr : Gr b f r L G
  ub : b ≤ 10
  uf : f ≤ 30
  ur : r ≤ 60
  ob : ∃ (dx lim tops : Addr) (p u : Int) (xs ys : List V), H g = some (.ins a.Grid dx (gfl b f r p u lim tops G)) ∧ H lim = some (.tup xs) ∧ H tops = some (.tup ys) ∧
    (∀ m : Nat, m ≤ 3 → xs[m]? = some (.int ((b ^ (f + m) : Nat) : Int))) ∧ (∀ m : Nat, m ≤ 3 → ys[m]? = some (.int (((b ^ (f + m) - 1) * b ^ r : Nat) : Int)))
theorem GridAt.mono {a : Ad} {H H' : Hp} {g : Addr} {b f r L G : Nat} (e : Ex H H') (h : GridAt a H g b f r L G) : GridAt a H' g b f r L G := by
  obtain ⟨h1, h2, h3, h4, dx, lim, tops, p, u, xs, ys, h5, h6, h7, h8⟩ := h
  exact ⟨h1, h2, h3, h4, dx, lim, tops, p, u, xs, ys, e _ _ h5, e _ _ h6, e _ _ h7, h8⟩
theorem GridAt.bG {a : Ad} {H : Hp} {g : Addr} {b f r L G : Nat} (h : GridAt a H g b f r L G) : G < 2 ^ 400 := by
  have h1 := h.gr.Gl
  rw [h.gr.eL, ← Nat.pow_add] at h1
  exact Nat.lt_trans h1 (pw400 h.ub (by have := h.uf; have := h.ur; omega))
theorem atN {xs : List V} {m : Nat} {v : V} (h : xs[m]? = some v) : atI xs ((m : Nat) : Int) = some v := at_of rfl h

/-! ### promises of the program's defs -/
def sp_is_whole : Sp := fun vs H Q _ => ∃ n : Int, vs = [.int n] ∧ ∀ H', Ex H H' → Q (.bl true) H'
def sp_is_from_to : Sp := fun vs H Q _ => ∃ v lo hi : Int, vs = [.int v, .int lo, .int hi] ∧ ∀ H', Ex H H' → Q (.bl (decide (lo ≤ v) && decide (v ≤ hi))) H'
def sp_power : Sp := fun vs H Q _ => ∃ b e : Nat, vs = [.int b, .int e] ∧ b ≤ 10 ∧ e ≤ 100 ∧ ∀ H', Ex H H' → Q (.int ((b ^ e : Nat) : Int)) H'
def sp_is_grid (K : PySem.W.Frag) : Sp := fun vs H Q _ => ∃ (t : Addr) (b f r p : Nat), vs = [.ref t] ∧ SqT K H t [.int b, .int f, .int r, .int p] ∧ (2 ≤ b ∧ b ≤ 10 ∧ 1 ≤ f ∧ f ≤ 30 ∧ r ≤ 60 ∧ p ≤ 30) ∧ ∀ H', Ex H H' → Q (.bl true) H'
def sp_spacing_at (a : Ad) : Sp := fun vs H Q _ => ∃ (g : Addr) (b f r L G n m : Nat), vs = [.ref g, .int n, .int m] ∧ GridAt a H g b f r L G ∧ m ≤ 3 ∧ n < 2 ^ 4000 ∧ ∀ H', Ex H H' → Q (.int (spc b (b ^ (f + m)) n : Nat)) H'
def Wy.str : Wy → Str
  | .near => "near"
  | .down => "down"
  | .up => "up"
  | .zero => "zero"
def sp_goes_up : Sp := fun vs H Q _ => ∃ (q m s : Int) (y : Wy), vs = [.int q, .int m, .int s, .str y.str] ∧ m.natAbs < 2 ^ 4500 ∧ ∀ H', Ex H H' → Q (.bl (wup y q m s)) H'
def rgO (y : Wy) (b f r m : Nat) (t : Int) (d : Nat) : V := if (rg y b (b ^ (f + m)) t d).natAbs ≤ (b ^ (f + m) - 1) * b ^ r then .int (rg y b (b ^ (f + m)) t d) else .non
def sp_fitted (a : Ad) : Sp := fun vs H Q _ => ∃ (g : Addr) (b f r L G : Nat) (t : Int) (d m : Nat) (y : Wy), vs = [.ref g, .int t, .int d, .str y.str, .int m] ∧ GridAt a H g b f r L G ∧ 1 ≤ d ∧ d < 2 ^ 70 ∧ m ≤ 3 ∧ t.natAbs < 2 ^ 4000 ∧ ∀ H', Ex H H' → Q (rgO y b f r m t d) H'
def sp_contains (a : Ad) : Sp := fun vs H Q _ => ∃ (g : Addr) (b f r L G : Nat) (n : Int), vs = [.ref g, .int n] ∧ GridAt a H g b f r L G ∧ OnG b L G n ∧ ∀ H', Ex H H' → Q (.bl true) H'

section
variable {P : Program} {w : World} {K : PySem.W.Frag} {mg : Str → Option Value} {base : Heap} {a : Ad}
theorem ok_is_whole (T : Txt K mg a) : FnOk P w K mg base CX0 1 a.is_whole a.is_whole_fd ["value"] sp_is_whole := by
  refine T.F_is_whole.ok sc_is_whole (fun vs H Q E h => ?_) (fun cdv A outer s H vs Q E hr h => ?_)
  · obtain ⟨n, rfl, _⟩ := h
    rfl
  · obtain ⟨n, rfl, k⟩ := h
    refine ⟨_, (pss_one (ps_ret (pe_and (pe_callB call_isi (by rfl) T.n_isinstance (by decide +kernel) (pa_cons (pv 0) (pa_cons (pe_bltn (v := .ty "int") (u := .type "int") rfl T.n_int (by decide +kernel) rfl) pa_nil))) (pe_one (pe_not (pe_callB call_isi (by rfl) T.n_isinstance (by decide +kernel) (pa_cons (pv 0) (pa_cons (pe_bltn (v := .ty "bool") (u := .type "bool") rfl T.n_bool (by decide +kernel) rfl) pa_nil)))))))), ?_⟩
    refine ⟨_, rfl, _, _, _, _, true, rfl, .ty _, .base (.int n), kit_ty (by decide +kernel), true, rfl, iteT ?_⟩
    refine ⟨_, rfl, _, _, _, _, false, rfl, .ty _, .base (.int n), kit_ty (by decide +kernel), false, rfl, ?_⟩
    exact k H (Ex.refl H)
theorem ok_is_from_to (T : Txt K mg a) : FnOk P w K mg base CX0 2 a.is_from_to a.is_from_to_fd ["value", "low", "high"] sp_is_from_to := by
  refine T.F_is_from_to.ok sc_is_from_to (fun vs H Q E h => ?_) (fun cdv A outer s H vs Q E hr h => ?_)
  · obtain ⟨v, lo, hi, rfl, _⟩ := h
    rfl
  · obtain ⟨v, lo, hi, rfl, k⟩ := h
    refine ⟨_, (pss_one (ps_ret (pe_and (pe_call (ok_is_whole T) (hr.mono (by decide)) rfl T.g_is_whole T.k_is_whole T.B_is_whole .nil pass0 (pa_cons (pv 0) pa_nil)) (pe_one (pe_chain op_le op_le (pv 1) (pv 0) (pv 2)))))), ?_⟩
    refine ⟨_, rfl, v, rfl, fun H' e => ⟨true, rfl, iteT ?_⟩⟩
    refine ⟨_, rfl, _, rfl, _, _, rfl, rfl, _, rfl, ?_⟩
    by_cases h : lo ≤ v
    · rw [if_pos (decide_eq_true h)]
      refine ⟨_, rfl, _, _, rfl, rfl, ?_⟩
      have := k H' e
      rw [decide_eq_true h, Bool.true_and] at this
      exact this
    · rw [if_neg (by simpa using h)]
      have := k H' e
      rw [decide_eq_false h, Bool.false_and] at this
      exact this
theorem ok_power (T : Txt K mg a) : FnOk P w K mg base CX0 1 a.power a.power_fd ["base", "exponent"] sp_power := by
  refine T.F_power.ok sc_power (fun vs H Q E h => ?_) (fun cdv A outer s H vs Q E hr h => ?_)
  · obtain ⟨b, e, rfl, _⟩ := h
    rfl
  · obtain ⟨b, n, rfl, hb, hn, k⟩ := h
    refine ⟨_, (pss_cons (ps_set (i := 2) sc_power.nd rfl (Or.inl rfl) pe_int)
      (pss_cons (ps_for PassesOwn.never rfl (pi_range1 rfl T.n_range (pa_cons (pv 1) pa_nil)) (pg_name (i := 3) sc_power.nd rfl (Or.inl rfl)) (pss_one (ps_set (i := 2) sc_power.nd rfl (Or.inl rfl) (pe_op op_mulW (pv 2) (pv 0)))))
      (pss_one (ps_ret (pv 2))))), ?_⟩
    refine ⟨_, rfl, _, rfl, by omega, by omega, for_range (lo := 0) (n := n) (fun i σ H' => H' = H ∧ ∃ v, σ = [some (.int b), some (.int n), some (.int ((b ^ i : Nat) : Int)), v]) ⟨rfl, none, rfl⟩ ?_ ?_⟩
    · rintro i σ H' hi ⟨rfl, v, rfl⟩
      refine ⟨_, rfl, _, rfl, _, _, rfl, rfl, wm (p5000 (pw400 hb (by omega))) (p5000 (k := 400) (by rw [Int.natAbs_natCast]; exact Nat.lt_of_le_of_lt hb (by decide +kernel))), rfl, some (.int (0 + (i : Int))), ?_⟩
      show [_, _, some (V.int (((b ^ i : Nat) : Int) * (b : Int))), _] = _
      rw [Nat.pow_succ, Int.natCast_mul]
    · rintro σ H' ⟨rfl, v, rfl⟩
      exact ⟨_, rfl, k _ (Ex.refl _)⟩
theorem ok_is_grid (T : Txt K mg a) : FnOk P w K mg base CX0 3 a.is_grid a.is_grid_fd ["told"] (sp_is_grid K) := by
  refine T.F_is_grid.ok sc_is_grid (fun vs H Q E h => ?_) (fun cdv A outer s H vs Q E hr h => ?_)
  · obtain ⟨t, b, f, r, p, rfl, _⟩ := h
    rfl
  · obtain ⟨t, b, f, r, p, rfl, ht, ⟨h1, h2, h3, h4, h5, h6⟩, k⟩ := h
    refine ⟨_, (pss_cons (ps_asg (pv 0) (pg_tup rfl (pgs_cons (pg_name (i := 1) sc_is_grid.nd rfl (Or.inl rfl)) (pgs_cons (pg_name (i := 2) sc_is_grid.nd rfl (Or.inl rfl)) (pgs_cons (pg_name (i := 3) sc_is_grid.nd rfl (Or.inl rfl)) (pgs_cons (pg_name (i := 4) sc_is_grid.nd rfl (Or.inl rfl)) pgs_nil))))))
      (pss_one (ps_ret (pe_and (pe_call (ok_is_from_to T) (hr.mono (by decide)) rfl T.g_is_from_to T.k_is_from_to T.B_is_from_to .nil pass0 (pa_cons (pv 1) (pa_cons pe_int (pa_cons pe_int pa_nil)))) (pe_and (pe_call (ok_is_from_to T) (hr.mono (by decide)) rfl T.g_is_from_to T.k_is_from_to T.B_is_from_to .nil pass0 (pa_cons (pv 2) (pa_cons pe_int (pa_cons (pe_glob (v := .int 30) rfl T.c_MOST_FIGURES.choose_spec ⟨_, rfl⟩) pa_nil)))) (pe_and (pe_call (ok_is_from_to T) (hr.mono (by decide)) rfl T.g_is_from_to T.k_is_from_to T.B_is_from_to .nil pass0 (pa_cons (pv 3) (pa_cons pe_int (pa_cons pe_int pa_nil)))) (pe_one (pe_call (ok_is_from_to T) (hr.mono (by decide)) rfl T.g_is_from_to T.k_is_from_to T.B_is_from_to .nil pass0 (pa_cons (pv 4) (pa_cons pe_int (pa_cons pe_int pa_nil))))))))))), ?_⟩
    refine ⟨_, rfl, t, _, rfl, ht, rfl, _, _, rfl, _, _, rfl, _, _, rfl, _, _, rfl, rfl, ?_⟩
    refine ⟨_, rfl, (b : Int), 2, 10, rfl, fun H1 e1 => ⟨true, ?_, iteT ?_⟩⟩
    · show V.bl (decide ((2 : Int) ≤ b) && decide ((b : Int) ≤ 10)) = _
      rw [decide_eq_true (by omega), decide_eq_true (by omega)]
      rfl
    refine ⟨_, rfl, (f : Int), 1, 30, rfl, fun H2 e2 => ⟨true, ?_, iteT ?_⟩⟩
    · show V.bl (decide ((1 : Int) ≤ f) && decide ((f : Int) ≤ 30)) = _
      rw [decide_eq_true (by omega), decide_eq_true (by omega)]
      rfl
    refine ⟨_, rfl, (r : Int), 0, 60, rfl, fun H3 e3 => ⟨true, ?_, iteT ?_⟩⟩
    · show V.bl (decide ((0 : Int) ≤ r) && decide ((r : Int) ≤ 60)) = _
      rw [decide_eq_true (by omega), decide_eq_true (by omega)]
      rfl
    refine ⟨_, rfl, (p : Int), 0, 30, rfl, fun H4 e4 => ?_⟩
    rw [decide_eq_true (by omega), decide_eq_true (by omega)]
    exact k H4 (((e1.trans e2).trans e3).trans e4)
theorem ok_spacing_at (T : Txt K mg a) : FnOk P w K mg base CX0 1 a.spacing_at a.spacing_at_fd ["grid", "size", "more"] (sp_spacing_at a) := by
  refine T.F_spacing_at.ok sc_spacing_at (fun vs H Q E h => ?_) (fun cdv A outer s H vs Q E hr h => ?_)
  · obtain ⟨g, b, f, r, L, G, n, m, rfl, _⟩ := h
    rfl
  · obtain ⟨g, b, f, r, L, G, n, m, rfl, hg, hm, hn, k⟩ := h
    refine ⟨_, (pss_cons (ps_set (i := 3) sc_spacing_at.nd rfl (Or.inl rfl) pe_int)
      (pss_cons (ps_set (i := 4) sc_spacing_at.nd rfl (Or.inl rfl) (pe_ix ix_tup (pe_fld (pv 0) rfl) (pv 2) (fun _ _ => rfl)))
      (pss_cons (ps_while PassesOwn.never (pt_cmpR op_ge (pv 1) (pv 4) (nomark _)) (pss_cons (ps_set (i := 4) sc_spacing_at.nd rfl (Or.inl rfl) (pe_op op_mulW (pv 4) (pe_fld (pv 0) rfl)))
      (pss_one (ps_set (i := 3) sc_spacing_at.nd rfl (Or.inl rfl) (pe_op op_mulW (pv 3) (pe_fld (pv 0) rfl))))))
      (pss_one (ps_ret (pv 3)))))), ?_⟩
    have hb := hg.gr.hb
    have ub := hg.ub
    have uf := hg.uf
    obtain ⟨dx, lim, tops, p, u, xs, ys, o1, o2, o3, o4, o5⟩ := hg.ob
    refine ⟨_, rfl, g, _, dx, _, _, rfl, o1, T.cl_Grid, T.f_Grid_limits, gfl_limits, _, rfl, lim, xs, _, _, rfl, rfl, SqT.of o2, atN (o4 m hm), ?_⟩
    have hM : 1 ≤ b ^ (f + m) := Nat.pow_pos (by omega)
    have hMl : b ^ (f + m) < 2 ^ 400 := pw400 ub (by omega)
    generalize hMe : b ^ (f + m) = M at *
    refine ⟨fun c σ H' => ∃ k : Nat, H' = H ∧ c = spx b (M * b ^ k) n ∧ spx b M n = k + spx b (M * b ^ k) n ∧ M * b ^ k < 2 ^ 4010 ∧ σ = [some (.ref g), some (.int n), some (.int m), some (.int ((b ^ k : Nat) : Int)), some (.int ((M * b ^ k : Nat) : Int))],
      ⟨_, 0, rfl, rfl, by rw [Nat.pow_zero, Nat.mul_one]; omega, by rw [Nat.pow_zero, Nat.mul_one]; exact Nat.lt_trans hMl (by decide +kernel), by rw [Nat.pow_zero, Nat.mul_one]; rfl⟩, ?_⟩
    rintro c σ H' ⟨k', rfl, rfl, h1, h2, rfl⟩
    have hbk : b ^ k' < 2 ^ 4010 := Nat.lt_of_le_of_lt (Nat.le_mul_of_pos_left _ hM) h2
    refine ⟨_, rfl, _, rfl, _, _, rfl, rfl, _, rfl, ?_⟩
    refine ite2 (fun hc => ?_) (fun hc => ?_)
    · have hc := Int.ofNat_le.mp (of_decide_eq_true hc)
      refine ⟨fun σ' H2 => H2 = H' ∧ σ' = [some (.ref g), some (.int n), some (.int m), some (.int ((b ^ (k' + 1) : Nat) : Int)), some (.int ((M * b ^ (k' + 1) : Nat) : Int))], ?_, ?_⟩
      · rintro σ' H2 ⟨rfl, rfl⟩
        have hpos : 1 ≤ M * b ^ k' := Nat.mul_pos hM (Nat.pow_pos (by omega))
        have hstep : spx b (M * b ^ k') n = 1 + spx b (M * b ^ (k' + 1)) n := by
          rw [Nat.pow_succ, ← Nat.mul_assoc]
          exact spx_ge hb hpos hc
        refine ⟨_, ?_, k' + 1, rfl, rfl, by omega, ?_, rfl⟩
        · omega
        · rw [Nat.pow_succ, ← Nat.mul_assoc]
          have : M * b ^ k' * b ≤ n * 10 := Nat.mul_le_mul hc ub
          have h10 : 2 ^ 4000 * 10 ≤ 2 ^ 4010 := by decide +kernel
          omega
      · refine ⟨_, rfl, _, rfl, g, _, dx, _, _, rfl, o1, T.cl_Grid, T.f_Grid_base, gfl_base, _, _, rfl, rfl, wm (p5000 h2) (p5000 (k := 400) (by rw [Int.natAbs_natCast]; exact Nat.lt_of_le_of_lt ub (by decide +kernel))), ?_⟩
        refine ⟨_, rfl, _, rfl, g, _, dx, _, _, rfl, o1, T.cl_Grid, T.f_Grid_base, gfl_base, _, _, rfl, rfl, wm (p5000 hbk) (p5000 (k := 400) (by rw [Int.natAbs_natCast]; exact Nat.lt_of_le_of_lt ub (by decide +kernel))), rfl, ?_⟩
        show [_, _, _, some (V.int (((b ^ k' : Nat) : Int) * (b : Int))), some (V.int (((M * b ^ k' : Nat) : Int) * (b : Int)))] = _
        rw [Nat.pow_succ, ← Nat.mul_assoc, Int.natCast_mul (M * b ^ k') b, Int.natCast_mul (b ^ k') b]
    · have hc : ¬ ((M * b ^ k' : Nat) : Int) ≤ (n : Int) := fun z => hc (decide_eq_true z)
      refine ⟨_, rfl, ?_⟩
      have h0 : spx b (M * b ^ k') n = 0 := spx_lt (by omega)
      have : spc b M n = b ^ k' := by
        unfold spc
        rw [h1, h0, Nat.add_zero]
      rw [← this]
      exact k _ (Ex.refl _)
theorem ok_goes_up (T : Txt K mg a) : FnOk P w K mg base CX0 1 a.goes_up a.goes_up_fd ["below", "left", "step", "way"] sp_goes_up := by
  refine T.F_goes_up.ok sc_goes_up (fun vs H Q E h => ?_) (fun cdv A outer s H vs Q E hr h => ?_)
  · obtain ⟨q, m, s, y, rfl, _⟩ := h
    rfl
  · obtain ⟨q, m, s, y, rfl, hm, k⟩ := h
    refine ⟨_, (pss_cons (ps_if (pt_cmpR op_eq (pv 3) pe_str (nomark _)) (pss_one (ps_ret (pe_cmpR op_lt (pv 0) pe_int (nomark _)))) pss_nil)
      (pss_cons (ps_if (pt_cmpR op_ne (pv 3) pe_str (nomark _)) (pss_one (ps_ret (pe_cmpR op_eq (pv 3) pe_str (nomark _)))) pss_nil)
      (pss_one (ps_ret (pe_or (pe_cmpR op_gt (pe_op op_mulW (pv 1) pe_int) (pv 2) (nomark _)) (pe_one (pe_and (pe_cmpR op_eq (pe_op op_mulW (pv 1) pe_int) (pv 2) (nomark _)) (pe_one (pe_cmpR op_eq (pe_op op_mod (pv 0) pe_int) pe_int (nomark _)))))))))), ?_⟩
    have kk := k H (Ex.refl H)
    cases y with
    | zero =>
      refine ⟨_, rfl, rfl, _, rfl, ?_⟩
      rw [show decide (V.str Wy.zero.str = V.str "zero") = true from by decide +kernel]
      refine iteT ⟨_, rfl, _, _, rfl, rfl, ?_⟩
      exact kk
    | down =>
      refine ⟨_, rfl, rfl, _, rfl, ?_⟩
      rw [show decide (V.str Wy.down.str = V.str "zero") = false from by decide +kernel]
      refine iteF ⟨_, rfl, rfl, _, rfl, ?_⟩
      rw [show (!decide (V.str Wy.down.str = V.str "near")) = true from by decide +kernel]
      refine iteT ⟨_, rfl, rfl, ?_⟩
      rw [show decide (V.str Wy.down.str = V.str "up") = false from by decide +kernel]
      exact kk
    | up =>
      refine ⟨_, rfl, rfl, _, rfl, ?_⟩
      rw [show decide (V.str Wy.up.str = V.str "zero") = false from by decide +kernel]
      refine iteF ⟨_, rfl, rfl, _, rfl, ?_⟩
      rw [show (!decide (V.str Wy.up.str = V.str "near")) = true from by decide +kernel]
      refine iteT ⟨_, rfl, rfl, ?_⟩
      rw [show decide (V.str Wy.up.str = V.str "up") = true from by decide +kernel]
      exact kk
    | near =>
    refine ⟨_, rfl, rfl, _, rfl, ?_⟩
    rw [show decide (V.str Wy.near.str = V.str "zero") = false from by decide +kernel]
    refine iteF ⟨_, rfl, rfl, _, rfl, ?_⟩
    rw [show (!decide (V.str Wy.near.str = V.str "near")) = false from by decide +kernel]
    refine iteF ⟨_, rfl, _, _, rfl, rfl, wm (p5000 hm) (by decide +kernel), _, rfl, _, _, rfl, rfl, _, rfl, ?_⟩
    dsimp only [wup] at kk
    by_cases h : s < m * 2
    · rw [if_pos (decide_eq_true h)]
      rw [decide_eq_true h, Bool.true_or] at kk
      exact kk
    · rw [if_neg (by simpa using h)]
      rw [decide_eq_false h, Bool.false_or] at kk
      refine ⟨_, rfl, _, _, rfl, rfl, wm (p5000 hm) (by decide +kernel), _, rfl, rfl, _, rfl, ?_⟩
      have e1 : decide (V.int (m * 2) = V.int s) = decide (m * 2 = s) := by simp
      rw [e1]
      by_cases h2 : m * 2 = s
      · rw [if_pos (decide_eq_true h2)]
        rw [decide_eq_true h2, Bool.true_and] at kk
        refine ⟨_, rfl, _, _, rfl, rfl, (by show (0 : Int) < 2; decide), rfl, ?_⟩
        have e2 : decide (V.int (q % 2) = V.int 1) = decide (q % 2 = 1) := by simp
        show Q (V.bl (decide (V.int (q % 2) = V.int 1))) H
        rw [e2]
        exact kk
      · rw [if_neg (by simpa using h2)]
        rw [decide_eq_false h2, Bool.false_and] at kk
        exact kk
end
end My


set_option Elab.async false
set_option maxRecDepth 100000
set_option maxHeartbeats 1000000
set_option exponentiation.threshold 6000
namespace My
open PySem L2 Evl
def iv (xs : List Int) : List V := xs.map V.int
def sp_rounded_parts (a : Ad) : Sp := fun vs H Q _ => ∃ (g : Addr) (b f r L G : Nat) (t : Int), vs = [.ref g, .int t] ∧ GridAt a H g b f r L G ∧ t.natAbs ≤ G ∧ ∀ p H', Ex H H' → H' p = some (.tup (iv (row b L t))) → Q (.ref p) H'
def sp_check_reached (a : Ad) : Sp := fun vs H Q _ => ∃ (g : Addr) (b f r L G : Nat) (t : Int), vs = [.ref g, .int t] ∧ GridAt a H g b f r L G ∧ t.natAbs ≤ G ∧ ∀ H', Ex H H' → Q .non H'
def sp_product_row (a : Ad) : Sp := fun vs H Q _ => ∃ (g : Addr) (b f r L G : Nat) (x y : Int), vs = [.ref g, .int x, .int y] ∧ GridAt a H g b f r L G ∧ OnG b L G x ∧ OnG b L G y ∧
  (G < (x * y).natAbs → ∀ H', Ex H H' → Q .non H') ∧ ((x * y).natAbs ≤ G → ∀ p H', Ex H H' → H' p = some (.tup (iv (row b L (x * y)))) → Q (.ref p) H')
def sp_is_numbers (a : Ad) : Sp := fun vs H Q _ => ∃ (g : Addr) (b f r L G : Nat) (t : Addr) (xs : List Int), vs = [.ref g, .ref t] ∧ GridAt a H g b f r L G ∧ H t = some (.tup (iv xs)) ∧ xs.length ≤ 1000 ∧ (∀ x ∈ xs, OnG b L G x) ∧ ∀ H', Ex H H' → Q (.bl true) H'
def sp_is_row (a : Ad) : Sp := fun vs H Q _ => ∃ (g : Addr) (b f r L G : Nat) (t : Addr) (xs : List Int), vs = [.ref g, .ref t] ∧ GridAt a H g b f r L G ∧ H t = some (.tup (iv xs)) ∧ xs.length ≤ 100 ∧ (∀ x ∈ xs, OnG b L G x) ∧ ∀ H', Ex H H' → Q (.bl true) H'
def sp_shows_shortest (a : Ad) : Sp := fun vs H Q _ => ∃ (g : Addr) (b f r L G : Nat) (t : Int) (p : Addr), vs = [.ref g, .int t, .ref p] ∧ GridAt a H g b f r L G ∧ t.natAbs ≤ G ∧ H p = some (.tup (iv (row b L t))) ∧ (row b L t).length ≤ 100 ∧ ∀ H', Ex H H' → Q (.bl true) H'
def sp_init (a : Ad) : Sp := fun vs H Q _ => ∃ (p dx : Addr) (b f r pl : Nat), vs = [.ref p, .int b, .int f, .int r, .int pl] ∧ H p = some (.ins a.Grid dx []) ∧ (2 ≤ b ∧ b ≤ 10 ∧ 1 ≤ f ∧ f ≤ 30 ∧ r ≤ 60 ∧ pl ≤ 30) ∧
  ∀ H', (∀ c o, H c = some o → c ≠ p → H' c = some o) → GridAt a H' p b f r (b ^ f) ((b ^ f - 1) * b ^ r) → Q .non H'
theorem G1 {b f r L G : Nat} (h : Gr b f r L G) : b ^ (f + 0) = L := by rw [Nat.add_zero, h.eL]
theorem absI (t : Int) : (if t < 0 then -t else t) = (t.natAbs : Int) := by split <;> omega
theorem spc_lt {b L n : Nat} (hb : 2 ≤ b) (hL : 1 ≤ L) : spc b L n ≤ n * b + 1 := by
  unfold spc
  by_cases h : spx b L n = 0
  · rw [h, Nat.pow_zero]; omega
  · have h1 := spx_low (n := n) hb (spx b L n - 1) L hL (by omega)
    have h2 : b ^ spx b L n = b ^ (spx b L n - 1) * b := by
      rw [← Nat.pow_succ]
      congr 1
      omega
    have h3 : b ^ (spx b L n - 1) ≤ n := Nat.le_trans (Nat.le_mul_of_pos_left _ hL) h1
    rw [h2]
    exact Nat.le_trans (Nat.mul_le_mul_right _ h3) (Nat.le_succ _)
theorem spc_sz {b L n : Nat} (hb : 2 ≤ b) (ub : b ≤ 10) (hL : 1 ≤ L) (hn : n < 2 ^ 4000) : spc b L n < 2 ^ 4010 := by
  have h1 := spc_lt (n := n) hb hL
  have h2 : n * b ≤ n * 10 := Nat.mul_le_mul_left n ub
  have h10 : 2 ^ 4000 * 10 + 1 < 2 ^ 4010 := by decide +kernel
  omega
theorem quo_sz {t s : Int} {k : Nat} (hs : 0 < s) (h : t.natAbs < 2 ^ k) : (t / s).natAbs < 2 ^ k + 1 := by
  have h1 := Int.natAbs_ediv_le_natAbs t s
  omega
theorem quo_sz' {t s : Int} (hs : 0 < s) (h : t.natAbs < 2 ^ 4000) : (t / s).natAbs < 2 ^ 4001 ∧ (t / s + 1).natAbs < 2 ^ 4001 := by
  have h1 := quo_sz hs h
  have h2 : 2 ^ 4000 + 2 < 2 ^ 4001 := by decide +kernel
  omega
theorem mod_sz {t s : Int} {k : Nat} (hs : 0 < s) (h : s.natAbs < 2 ^ k) : (t % s).natAbs < 2 ^ k := by
  have h1 := Int.emod_nonneg t (show s ≠ 0 by omega)
  have h2 := Int.emod_lt_of_pos t hs
  omega
section
variable {P : Program} {w : World} {K : PySem.W.Frag} {mg : Str → Option Value} {base : Heap} {a : Ad}
theorem ok_fitted (T : Txt K mg a) : FnOk P w K mg base CX0 2 a.fitted a.fitted_fd ["grid", "top", "bottom", "way", "more"] (sp_fitted a) := by
  refine T.F_fitted.ok sc_fitted (fun vs H Q E h => ?_) (fun cdv A outer s H vs Q E hr h => ?_)
  · obtain ⟨g, b, f, r, L, G, t, d, m, y, rfl, _⟩ := h
    rfl
  · obtain ⟨g, b, f, r, L, G, t, d, m, y, rfl, hg, hd, hd7, hm3, ht, k⟩ := h
    refine ⟨_, (pss_cons (ps_set (i := 5) sc_fitted.nd rfl (Or.inl rfl) (pe_call (ok_spacing_at T) (hr.mono (by decide)) rfl T.g_spacing_at T.k_spacing_at T.B_spacing_at .nil pass0 (pa_cons (pv 0) (pa_cons (pe_op op_fdivW (pe_callB call_abs (by rfl) T.n_abs (by decide +kernel) (pa_cons (pv 1) pa_nil)) (pv 2)) (pa_cons (pv 4) pa_nil)))))
      (pss_cons (ps_set (i := 6) sc_fitted.nd rfl (Or.inl rfl) (pe_op op_mulW (pv 2) (pv 5)))
      (pss_cons (ps_set (i := 7) sc_fitted.nd rfl (Or.inl rfl) (pe_op op_fdivW (pv 1) (pv 6)))
      (pss_cons (ps_set (i := 8) sc_fitted.nd rfl (Or.inl rfl) (pe_op op_sub (pv 1) (pe_op op_mulW (pv 7) (pv 6))))
      (pss_cut (ps_set (i := 9) sc_fitted.nd rfl (Or.inl rfl) (pe_ifExp (PW.pt (pw_and (pt_truth (pv 8) (by intro _; rfl)) (pw_and1 (pt_val (pe_call (ok_goes_up T) (hr.mono (by decide)) rfl T.g_goes_up T.k_goes_up T.B_goes_up .nil pass0 (pa_cons (pv 7) (pa_cons (pv 8) (pa_cons (pv 6) (pa_cons (pv 3) pa_nil))))))))) (pe_op op_mulW (pe_op op_add (pv 7) pe_int) (pv 5)) (pe_op op_mulW (pv 7) (pv 5))))
      (pss_one (ps_ret (pe_ifExp (pt_cmpR op_gt (pe_callB call_abs (by rfl) T.n_abs (by decide +kernel) (pa_cons (pv 9) pa_nil)) (pe_ix ix_tup (pe_fld (pv 0) rfl) (pv 4) (fun _ _ => rfl)) (nomark _)) pe_non (pv 9))))))))), ?_⟩
    have hb := hg.gr.hb
    have hL : 1 ≤ b ^ (f + m) := Nat.pow_pos (by omega)
    have htd : t.natAbs / d < 2 ^ 4000 := Nat.lt_of_le_of_lt (Nat.div_le_self _ _) ht
    have dsz : ((d : Nat) : Int).natAbs < 2 ^ 70 := by rw [Int.natAbs_natCast]; exact hd7
    refine ⟨_, rfl, _, rfl, _, rfl, _, rfl, _, _, rfl, rfl, wd (by omega) (p5000 dsz), _, rfl, g, b, f, r, L, G, t.natAbs / d, m, by dsimp only; rw [absI]; rfl, hg, hm3, htd, fun H1 e1 => ?_⟩
    have hs : (0 : Int) < ((spc b (b ^ (f + m)) (t.natAbs / d) : Nat) : Int) := sps_pos (L := b ^ (f + m)) hb t d
    have hsz := spc_sz hb hg.ub hL htd
    have hsz' : ((spc b (b ^ (f + m)) (t.natAbs / d) : Nat) : Int).natAbs < 2 ^ 4010 := by rw [Int.natAbs_natCast]; exact hsz
    have hrg : rg y b (b ^ (f + m)) t d = if (t % ((d : Int) * ((spc b (b ^ (f + m)) (t.natAbs / d) : Nat) : Int)) != 0) = true ∧ wup y (t / ((d : Int) * ((spc b (b ^ (f + m)) (t.natAbs / d) : Nat) : Int))) (t % ((d : Int) * ((spc b (b ^ (f + m)) (t.natAbs / d) : Nat) : Int))) ((d : Int) * ((spc b (b ^ (f + m)) (t.natAbs / d) : Nat) : Int)) = true then (t / ((d : Int) * ((spc b (b ^ (f + m)) (t.natAbs / d) : Nat) : Int)) + 1) * ((spc b (b ^ (f + m)) (t.natAbs / d) : Nat) : Int) else t / ((d : Int) * ((spc b (b ^ (f + m)) (t.natAbs / d) : Nat) : Int)) * ((spc b (b ^ (f + m)) (t.natAbs / d) : Nat) : Int) := rfl
    generalize ((spc b (b ^ (f + m)) (t.natAbs / d) : Nat) : Int) = s at *
    have hS : 0 < (d : Int) * s := Int.mul_pos (by omega) hs
    have hSz : ((d : Int) * s).natAbs < 2 ^ 4080 := wide_lt dsz hsz'
    refine ⟨_, rfl, _, rfl, _, _, rfl, rfl, wm (p5000 dsz) (p5000 hsz'), ?_⟩
    dsimp only
    generalize (d : Int) * s = S at *
    refine ⟨_, rfl, _, rfl, _, _, rfl, rfl, wd hS (p5000 hSz), ?_⟩
    obtain ⟨q1, q2⟩ := quo_sz' hS ht
    refine ⟨_, rfl, _, rfl, _, rfl, _, _, rfl, rfl, wm (p5000 q1) (p5000 hSz), _, _, rfl, rfl, ?_⟩
    have em : t - t / S * S = t % S := by
      have := (div_facts t S hS).1
      omega
    dsimp only
    rw [em]
    refine ⟨fun σ H2 => Ex H H2 ∧ ∃ z1 z2 z3, σ = [some (.ref g), some (.int t), some (.int d), some (.str y.str), some (.int m), z1, z2, z3, some (.int (t % S)), some (.int (rg y b (b ^ (f + m)) t d))], ?_, ?_⟩
    · refine ⟨_, rfl, _, rfl, ite2 (fun h1 => ?_) (fun h1 => ?_)⟩
      · refine ⟨_, rfl, _, rfl, _, rfl, _, rfl, t / S, t % S, S, y, rfl, Nat.lt_trans (mod_sz hS hSz) (by decide +kernel), fun H2 e2 => ⟨_, rfl, ite2 (fun h2 => ?_) (fun h2 => ?_)⟩⟩
        · refine ⟨_, rfl, _, _, rfl, rfl, _, rfl, _, _, rfl, rfl, wm (p5000 q2) (p5000 hsz'), e1.trans e2, some (.int s), some (.int S), some (.int (t / S)), ?_⟩
          rw [hrg, if_pos ⟨h1, h2⟩]
          rfl
        · refine ⟨_, rfl, _, rfl, _, _, rfl, rfl, wm (p5000 q1) (p5000 hsz'), e1.trans e2, some (.int s), some (.int S), some (.int (t / S)), ?_⟩
          rw [hrg, if_neg (fun z => h2 z.2)]
          rfl
      · refine ite2 (fun h2 => absurd h2 (by simp)) (fun h2 => ?_)
        refine ⟨_, rfl, _, rfl, _, _, rfl, rfl, wm (p5000 q1) (p5000 hsz'), e1, some (.int s), some (.int S), some (.int (t / S)), ?_⟩
        rw [hrg, if_neg (fun z => h1 z.1)]
        rfl
    · rintro σ H2 ⟨e2, z1, z2, z3, rfl⟩
      obtain ⟨dx, lim, tops, p, u, xs, ys, o1, o2, o3, o4, o5⟩ := (hg.mono e2).ob
      have o6 := o5 m hm3
      refine ⟨_, rfl, _, rfl, _, rfl, g, _, dx, _, _, rfl, o1, T.cl_Grid, T.f_Grid_tops, gfl_tops, _, rfl, tops, ys, _, _, rfl, rfl, SqT.of o3, atN o6, _, _, rfl, rfl, _, rfl, ?_⟩
      have kk := k H2 e2
      unfold rgO at kk
      rw [absI]
      refine ite2 (fun h => ?_) (fun h => ?_)
      · have h := of_decide_eq_true h
        rw [if_neg (by omega)] at kk
        exact kk
      · have h : ¬ (((b ^ (f + m) - 1) * b ^ r : Nat) : Int) < ((rg y b (b ^ (f + m)) t d).natAbs : Int) := fun z => h (decide_eq_true z)
        rw [if_pos (by omega)] at kk
        exact ⟨_, rfl, kk⟩
theorem ok_Grid_contains (T : Txt K mg a) : FnOk P w K mg base CX0 2 a.Grid_contains a.Grid_contains_fd ["self", "value"] (sp_contains a) := by
  refine T.F_Grid_contains.ok sc_Grid_contains (fun vs H Q E h => ?_) (fun cdv A outer s H vs Q E hr h => ?_)
  · obtain ⟨g, b, f, r, L, G, n, rfl, _⟩ := h
    rfl
  · obtain ⟨g, b, f, r, L, G, n, rfl, hg, ⟨hn, hm⟩, k⟩ := h
    refine ⟨_, (pss_cons (ps_if (PW.pt (pw_or (pt_not (pt_val (pe_call (ok_is_whole T) (hr.mono (by decide)) rfl T.g_is_whole T.k_is_whole T.B_is_whole .nil pass0 (pa_cons (pv 1) pa_nil)))) (pw_or1 (pt_cmpR op_gt (pe_callB call_abs (by rfl) T.n_abs (by decide +kernel) (pa_cons (pv 1) pa_nil)) (pe_fld (pv 0) rfl) (nomark _))))) (pss_one (ps_ret pe_bl)) pss_nil)
      (pss_one (ps_ret (pe_cmpR op_eq (pe_op op_mod (pv 1) (pe_call (ok_spacing_at T) (hr.mono (by decide)) rfl T.g_spacing_at T.k_spacing_at T.B_spacing_at .nil pass0 (pa_cons (pv 0) (pa_cons (pe_callB call_abs (by rfl) T.n_abs (by decide +kernel) (pa_cons (pv 1) pa_nil)) (pa_cons pe_int pa_nil))))) pe_int (nomark _))))), ?_⟩
    have hb := hg.gr.hb
    have hL := hg.gr.L1
    obtain ⟨dx, lim, tops, p, u, xs, ys, o1, o2, o3, o4, o5⟩ := hg.ob
    have hs := spcI_pos (L := L) hb n.natAbs
    refine ⟨_, rfl, n, rfl, fun H1 e1 => ⟨true, rfl, ?_⟩⟩
    refine ite2 (fun h => absurd h (by simp)) (fun _ => ?_)
    refine ⟨_, rfl, _, rfl, _, rfl, g, _, dx, _, _, rfl, e1 _ _ o1, T.cl_Grid, T.f_Grid_greatest, gfl_greatest, _, _, rfl, rfl, _, rfl, ?_⟩
    rw [absI]
    refine ite2 (fun h => absurd (of_decide_eq_true h) (by omega)) (fun _ => ?_)
    refine ⟨_, rfl, _, rfl, _, rfl, _, rfl, g, b, f, r, L, G, n.natAbs, 0, by rw [absI]; rfl, hg.mono e1, by decide, Nat.lt_of_le_of_lt hn (Nat.lt_trans hg.bG (by decide +kernel)), fun H2 e2 => ?_⟩
    rw [G1 hg.gr]
    refine ⟨_, _, rfl, rfl, hs, rfl, ?_⟩
    show Q (V.bl (decide (V.int (n % (spc b L n.natAbs : Int)) = V.int 0))) H2
    rw [hm]
    exact k H2 (e1.trans e2)
end
end My


set_option Elab.async false
set_option maxRecDepth 100000
set_option maxHeartbeats 1000000
set_option exponentiation.threshold 6000
namespace My
open PySem L2 Evl
def sp_check_worth : Sp := fun vs H Q _ => ∃ (t : Int) (d : Nat), vs = [.int t, .int d] ∧ 1 ≤ d ∧ ∀ H', Ex H H' → Q .non H'
def sp_check_way : Sp := fun vs H Q _ => ∃ y : Wy, vs = [.str y.str] ∧ ∀ H', Ex H H' → Q .non H'
def sp_check_more : Sp := fun vs H Q _ => ∃ m : Nat, vs = [.int m] ∧ m ≤ 3 ∧ ∀ H', Ex H H' → Q .non H'
def sp_is_tie (a : Ad) : Sp := fun vs H Q _ => ∃ (g : Addr) (b f r L G : Nat) (t : Int) (d m : Nat), vs = [.ref g, .int t, .int d, .int m] ∧ GridAt a H g b f r L G ∧ 1 ≤ d ∧ d < 2 ^ 70 ∧ m ≤ 3 ∧ t.natAbs < 2 ^ 4000 ∧
  ∀ H', Ex H H' → Q (.bl (decide (t % ((d : Int) * (sps b (b ^ (f + m)) t d : Int)) * 2 = (d : Int) * (sps b (b ^ (f + m)) t d : Int)))) H'
def sp_around (a : Ad) : Sp := fun vs H Q _ => ∃ (g : Addr) (b f r L G : Nat) (t : Int) (d m : Nat), vs = [.ref g, .int t, .int d, .int m] ∧ GridAt a H g b f r L G ∧ 1 ≤ d ∧ d < 2 ^ 70 ∧ m ≤ 3 ∧ t.natAbs < 2 ^ 4000 ∧
  ∀ q H', Ex H H' → H' q = some (.tup [.int (t / ((d : Int) * (sps b (b ^ (f + m)) t d : Int)) * (sps b (b ^ (f + m)) t d : Int)), .int (-(-t / ((d : Int) * (sps b (b ^ (f + m)) t d : Int))) * (sps b (b ^ (f + m)) t d : Int))]) → Q (.ref q) H'
def sp_reduced : Sp := fun vs H Q _ => ∃ (t : Int) (d : Nat), vs = [.int t, .int d] ∧ 1 ≤ d ∧ d < 2 ^ 70 ∧ t.natAbs < 2 ^ 4500 ∧
  ∀ q H', Ex H H' → H' q = some (.tup [.int (t / ((Nat.gcd t.natAbs d : Nat) : Int)), .int ((d / Nat.gcd t.natAbs d : Nat) : Int)]) → Q (.ref q) H'
def sp_rest (a : Ad) : Sp := fun vs H Q _ => ∃ (g : Addr) (b f r L G : Nat) (t : Int) (d m : Nat) (y : Wy), vs = [.ref g, .int t, .int d, .str y.str, .int m] ∧ GridAt a H g b f r L G ∧ 1 ≤ d ∧ d < 2 ^ 70 ∧ m ≤ 3 ∧ t.natAbs < 2 ^ 4000 ∧
  ((rg y b (b ^ (f + m)) t d).natAbs ≤ (b ^ (f + m) - 1) * b ^ r → ∀ q H', Ex H H' → H' q = some (.tup [.int ((t - rg y b (b ^ (f + m)) t d * d) / ((Nat.gcd (t - rg y b (b ^ (f + m)) t d * d).natAbs d : Nat) : Int)), .int ((d / Nat.gcd (t - rg y b (b ^ (f + m)) t d * d).natAbs d : Nat) : Int)]) → Q (.ref q) H') ∧
  (¬ (rg y b (b ^ (f + m)) t d).natAbs ≤ (b ^ (f + m) - 1) * b ^ r → ∀ H', Ex H H' → Q .non H')
section
variable {P : Program} {w : World} {K : PySem.W.Frag} {mg : Str → Option Value} {base : Heap} {a : Ad}
theorem ok_check_way (T : Txt K mg a) : FnOk P w K mg base CX0 4 a.check_way a.check_way_fd ["way"] sp_check_way := by
  refine T.F_check_way.ok sc_check_way (fun vs H Q E h => ?_) (fun cdv A outer s H vs Q E hr h => ?_)
  · obtain ⟨y, rfl, _⟩ := h
    rfl
  · obtain ⟨y, rfl, k⟩ := h
    refine ⟨_, (pss_one (ps_if (pt_cmpR op_notIn_seq (pv 0) (pe_glob (v := .ref a.WAYS) rfl T.g_WAYS rfl) (by rfl)) (pss_one ps_never) pss_nil)), ?_⟩
    refine ⟨_, rfl, a.WAYS, _, rfl, .inr (T.t_WAYS H), rfl, rfl, _, rfl, ?_⟩
    refine ite2 (fun h => ?_) (fun _ => ?_)
    · exfalso
      replace h : (!inV (.str y.str) [.str "near", .str "down", .str "up", .str "zero"]) = true := h
      cases y <;> exact absurd h (by decide +kernel)
    exact k H (Ex.refl H)
end
end My


set_option Elab.async false
set_option maxRecDepth 100000
set_option maxHeartbeats 1000000
set_option exponentiation.threshold 6000
namespace My
open PySem L2 Evl
theorem all_rep (n : Nat) : (List.replicate n true).all id = true := by
  induction n with
  | zero => rfl
  | succ n ih => rw [List.replicate_succ, List.all_cons, ih]; rfl
theorem rep_snoc {α : Type} (n : Nat) (v : α) : List.replicate n v ++ [v] = List.replicate (n + 1) v := by
  rw [List.replicate_succ']
theorem ln {f : Str} {v : V} {fs : List (Str × V)} {n : Nat} (h : fs.length ≤ n) : (putF f v fs).length ≤ n + 1 := Nat.le_trans (length_putF f v fs) (by omega)
theorem lt1000 {fs : List (Str × V)} {n : Nat} (h : fs.length ≤ n) (hn : n ≤ 20 := by decide) : fs.length < 1000 := by omega
/-- all but what stands at p -/
def Kp (p : Addr) (H H' : Hp) : Prop := ∀ c o, H c = some o → c ≠ p → H' c = some o
theorem Kp.ex {p : Addr} {H H1 H2 : Hp} (h : Kp p H H1) (e : Ex H1 H2) : Kp p H H2 := fun c o hc hn => e _ _ (h c o hc hn)
theorem Kp.set {p : Addr} {H H1 : Hp} {o : HO} (h : Kp p H H1) : Kp p H (upd H1 p o) := fun c u hc hn => by
  rw [upd_ne hn]
  exact h c u hc hn
theorem Kp.refl {p : Addr} {H : Hp} : Kp p H H := fun _ _ h _ => h
section
variable {P : Program} {w : World} {K : PySem.W.Frag} {mg : Str → Option Value} {base : Heap} {a : Ad}
theorem ok_Grid_init (T : Txt K mg a) : FnOk P w K mg base CX0 4 a.Grid_init a.Grid_init_fd ["self", "base", "figures", "reach", "places"] (sp_init a) := by
  refine T.F_Grid_init.ok sc_Grid_init (fun vs H Q E h => ?_) (fun cdv A outer s H vs Q E hr h => ?_)
  · obtain ⟨p, dx, b, f, r, pl, rfl, _⟩ := h
    rfl
  · obtain ⟨p, dx, b, f, r, pl, rfl, hp, hv, k⟩ := h
    refine ⟨_, (pss_cons (ps_set (i := 5) sc_Grid_init.nd rfl (Or.inl rfl) (pe_tup (pa_cons (pv 1) (pa_cons (pv 2) (pa_cons (pv 3) (pa_cons (pv 4) pa_nil))))))
      (pss_cons (ps_if (pt_not (pt_val (pe_call (ok_is_grid T) (hr.mono (by decide)) rfl T.g_is_grid T.k_is_grid T.B_is_grid .nil pass0 (pa_cons (pv 5) pa_nil)))) (pss_one ps_never) pss_nil)
      (pss_cons (ps_fld (pv 0) (pv 1) rfl)
      (pss_cons (ps_fld (pv 0) (pv 2) rfl)
      (pss_cons (ps_fld (pv 0) (pv 3) rfl)
      (pss_cons (ps_fld (pv 0) (pv 4) rfl)
      (pss_cons (ps_fld (pv 0) (pe_call (ok_power T) (hr.mono (by decide)) rfl T.g_power T.k_power T.B_power .nil pass0 (pa_cons (pv 1) (pa_cons (pv 4) pa_nil))) rfl)
      (pss_cons (ps_fld (pv 0) (pe_callTy call_tuple_of (by rfl) T.n_tuple (by decide +kernel) (pa_cons (pe_lc (own := [("extra", 6)]) (g := gName 6) (by rfl) sc_Grid_init.nd (pi_range1 rfl T.n_range (pa_cons (pe_op op_add (pe_glob (v := .int 3) rfl T.c_MOST_MORE.choose_spec ⟨_, rfl⟩) pe_int) pa_nil)) (blkOk_by (own := [("extra", 6)]) (N := N_Grid_init) (sc := defScope s_Grid_init) (by decide +kernel)) (fun _ _ _ _ _ => pg_name (i := 6) sc_Grid_init.nd rfl (Or.inl rfl)) (fun _ _ _ _ _ => pts_nil) (fun _ _ _ _ _ => (pe_call (ok_power T) (hr.mono (by decide)) rfl T.g_power T.k_power T.B_power .nil pass0 (pa_cons (pv 1) (pa_cons (pe_op op_add (pv 2) (pv 6)) pa_nil))))) pa_nil)) rfl)
      (pss_cons (ps_fld (pv 0) (pe_callTy call_tuple_of (by rfl) T.n_tuple (by decide +kernel) (pa_cons (pe_lc (own := [("limit", 7)]) (g := gName 7) (by rfl) sc_Grid_init.nd (pi_tup (pe_fld (pv 0) rfl)) (blkOk_by (own := [("limit", 7)]) (N := N_Grid_init) (sc := defScope s_Grid_init) (by decide +kernel)) (fun _ _ _ _ _ => pg_name (i := 7) sc_Grid_init.nd rfl (Or.inl rfl)) (fun _ _ _ _ _ => pts_nil) (fun _ _ _ _ _ => (pe_op op_mulW (pe_op op_sub (pv 7) pe_int) (pe_call (ok_power T) (hr.mono (by decide)) rfl T.g_power T.k_power T.B_power .nil pass0 (pa_cons (pv 1) (pa_cons (pv 3) pa_nil)))))) pa_nil)) rfl)
      (pss_one (ps_fld (pv 0) (pe_ix ix_tup (pe_fld (pv 0) rfl) pe_int (fun _ _ => rfl)) rfl))))))))))), ?_⟩
    obtain ⟨v1, v2, v3, v4, v5, v6⟩ := id hv
    refine ⟨_, rfl, _, rfl, _, rfl, _, rfl, by show 4 ≤ sizeLine; decide, fun t ht => ?_⟩
    refine ⟨_, rfl, t, b, f, r, pl, rfl, SqT.of upd_same, hv, fun H1 e1 => ⟨true, rfl, ite2 (fun h => absurd h (by simp)) (fun _ => ?_)⟩⟩
    have x1 : Ex H H1 := (Ex.new ht).trans e1
    have k1 : Kp p H H1 := Kp.refl.ex x1
    refine ⟨_, rfl, _, rfl, p, a.Grid, dx, [], rfl, x1 _ _ hp, T.cl_Grid, T.f_Grid_base, (by show 0 < 1000; decide), ?_⟩
    refine ⟨_, rfl, _, rfl, p, a.Grid, dx, _, rfl, upd_same, T.cl_Grid, T.f_Grid_figures, lt1000 (ln (Nat.le_refl 0)), ?_⟩
    refine ⟨_, rfl, _, rfl, p, a.Grid, dx, _, rfl, upd_same, T.cl_Grid, T.f_Grid_reach, lt1000 (ln (ln (Nat.le_refl 0))), ?_⟩
    refine ⟨_, rfl, _, rfl, p, a.Grid, dx, _, rfl, upd_same, T.cl_Grid, T.f_Grid_places, lt1000 (ln (ln (ln (Nat.le_refl 0)))), ?_⟩
    have k2 := (((k1.set (o := HO.ins a.Grid dx (putF "base" (V.int b) []))).set (o := HO.ins a.Grid dx (putF "figures" (V.int f) (putF "base" (V.int b) [])))).set (o := HO.ins a.Grid dx (putF "reach" (V.int r) (putF "figures" (V.int f) (putF "base" (V.int b) []))))).set (o := HO.ins a.Grid dx (putF "places" (V.int pl) (putF "reach" (V.int r) (putF "figures" (V.int f) (putF "base" (V.int b) [])))))
    refine ⟨_, rfl, _, rfl, b, pl, rfl, v2, by omega, fun H2 e2 => ?_⟩
    refine ⟨_, rfl, p, a.Grid, dx, _, rfl, e2 _ _ upd_same, T.cl_Grid, T.f_Grid_unit, lt1000 (ln (ln (ln (ln (Nat.le_refl 0))))), ?_⟩
    have k3 := (k2.ex e2).set (o := HO.ins a.Grid dx (putF "unit" (V.int ((b ^ pl : Nat) : Int)) (putF "places" (V.int pl) (putF "reach" (V.int r) (putF "figures" (V.int f) (putF "base" (V.int b) []))))))
    have p3 : (upd H2 p (HO.ins a.Grid dx (putF "unit" (V.int ((b ^ pl : Nat) : Int)) (putF "places" (V.int pl) (putF "reach" (V.int r) (putF "figures" (V.int f) (putF "base" (V.int b) []))))))) p = some (HO.ins a.Grid dx (putF "unit" (V.int ((b ^ pl : Nat) : Int)) (putF "places" (V.int pl) (putF "reach" (V.int r) (putF "figures" (V.int f) (putF "base" (V.int b) [])))))) := upd_same
    generalize hH3 : (upd H2 p (HO.ins a.Grid dx (putF "unit" (V.int ((b ^ pl : Nat) : Int)) (putF "places" (V.int pl) (putF "reach" (V.int r) (putF "figures" (V.int f) (putF "base" (V.int b) []))))))) = H3 at k3 p3
    have pd : ∀ {D : Addr}, H3 D = none → D ≠ p := fun {D} hD q => by
      rw [q, p3] at hD
      cases hD
    refine ⟨_, _, rfl, rfl, _, rfl, by decide, by decide, fun D hD => lc_range (lo := 0) (n := 4) (fun i H' => Ex H3 H' ∧ H' D = some (.lst ((List.range i).map fun m => V.int ((b ^ (f + m) : Nat) : Int)))) ⟨Ex.new hD, upd_same⟩ ?_ ?_⟩
    · rintro i H' hi ⟨e4, h4⟩
      refine ⟨rfl, ?_⟩
      dsimp only [tYes]
      refine iteT ?_
      refine ⟨_, rfl, _, rfl, _, rfl, _, _, rfl, rfl, b, f + i, ?_, v2, by omega, fun H5 e5 => ⟨_, e5 _ _ h4, small1000 (by rw [List.length_map, List.length_range]; omega), Ex.mut (e4.trans e5) hD, ?_⟩⟩
      · show [V.int b, V.int ((f : Int) + (0 + (i : Int)))] = _
        rw [Int.zero_add, Int.natCast_add]
      · rw [upd_same, List.range_succ, List.map_append]
        rfl
    rintro H4 ⟨e4, h4⟩
    refine ⟨D, _, rfl, .inl ⟨SqL.of h4, fun l hl => ?_⟩⟩
    have e5 : Ex H4 (upd H4 l (.tup ((List.range 4).map fun m => V.int ((b ^ (f + m) : Nat) : Int)))) := Ex.new hl
    have l5 : (upd H4 l (.tup ((List.range 4).map fun m => V.int ((b ^ (f + m) : Nat) : Int)))) l = some (.tup ((List.range 4).map fun m => V.int ((b ^ (f + m) : Nat) : Int))) := upd_same
    generalize (upd H4 l (.tup ((List.range 4).map fun m => V.int ((b ^ (f + m) : Nat) : Int)))) = H5 at *
    have k5 := k3.ex (e4.trans e5)
    have p5 := e5 _ _ (e4 _ _ p3)
    have nlp : l ≠ p := fun q => by
      rw [q] at l5
      rw [p5] at l5
      cases l5
    refine ⟨_, rfl, p, a.Grid, dx, _, rfl, p5, T.cl_Grid, T.f_Grid_limits, lt1000 (ln (ln (ln (ln (ln (Nat.le_refl 0)))))), ?_⟩
    have k6 := k5.set (o := HO.ins a.Grid dx (putF "limits" (V.ref l) (putF "unit" (V.int ((b ^ pl : Nat) : Int)) (putF "places" (V.int pl) (putF "reach" (V.int r) (putF "figures" (V.int f) (putF "base" (V.int b) [])))))))
    have p6 : (upd H5 p (HO.ins a.Grid dx (putF "limits" (V.ref l) (putF "unit" (V.int ((b ^ pl : Nat) : Int)) (putF "places" (V.int pl) (putF "reach" (V.int r) (putF "figures" (V.int f) (putF "base" (V.int b) [])))))))) p = _ := upd_same
    have l6 : (upd H5 p (HO.ins a.Grid dx (putF "limits" (V.ref l) (putF "unit" (V.int ((b ^ pl : Nat) : Int)) (putF "places" (V.int pl) (putF "reach" (V.int r) (putF "figures" (V.int f) (putF "base" (V.int b) [])))))))) l = _ := (upd_ne nlp).trans l5
    generalize (upd H5 p (HO.ins a.Grid dx (putF "limits" (V.ref l) (putF "unit" (V.int ((b ^ pl : Nat) : Int)) (putF "places" (V.int pl) (putF "reach" (V.int r) (putF "figures" (V.int f) (putF "base" (V.int b) [])))))))) = H6 at *
    refine ⟨_, rfl, p, a.Grid, dx, _, _, rfl, p6, T.cl_Grid, T.f_Grid_limits, by rw [lookup_putF, if_pos rfl], l, rfl, ⟨_, SqT.of l6⟩, fun D2 hD2 => lc_tup (K := K) (a := l) (xs := (List.range 4).map fun m => V.int ((b ^ (f + m) : Nat) : Int)) (fun i H' => Ex H6 H' ∧ H' D2 = some (.lst ((List.range i).map fun m => V.int (((b ^ (f + m) - 1) * b ^ r : Nat) : Int)))) ⟨Ex.new hD2, upd_same⟩ (fun i H' _ q => SqT.of (q.1 _ _ l6)) ?_ ?_⟩
    · rintro i x H' hi ⟨e7, h7⟩
      have hi4 : i < 4 := by
        have := (List.getElem?_eq_some_iff.mp hi).1
        simpa using this
      have hx : x = V.int ((b ^ (f + i) : Nat) : Int) := by
        rw [List.getElem?_map, List.getElem?_range hi4] at hi
        exact (Option.some.inj hi).symm
      subst hx
      refine ⟨rfl, ?_⟩
      dsimp only [tYes]
      refine iteT ?_
      have hpos : 1 ≤ b ^ (f + i) := Nat.pow_pos (by omega)
      have h4a : b ^ (f + i) < 2 ^ 400 := pw400 v2 (by omega)
      refine ⟨_, rfl, _, _, rfl, rfl, _, rfl, _, rfl, b, r, rfl, v2, by omega, fun H8 e8 => ?_⟩
      refine ⟨_, _, rfl, rfl, wm (p5000 (k := 400) (by omega)) (p5000 (pw400 v2 (by omega))), _, e8 _ _ h7, small1000 (by rw [List.length_map, List.length_range]; omega), Ex.mut (e7.trans e8) hD2, ?_⟩
      rw [upd_same, List.range_succ, List.map_append]
      show some (HO.lst (_ ++ [V.int ((((b ^ (f + i) : Nat) : Int) - 1) * ((b ^ r : Nat) : Int))])) = some (HO.lst (_ ++ [V.int (((b ^ (f + i) - 1) * b ^ r : Nat) : Int)]))
      rw [Int.natCast_mul, Int.natCast_sub hpos]
      rfl
    rintro H7 ⟨e7, h7⟩
    have h7 : H7 D2 = some (.lst ((List.range 4).map fun m => V.int (((b ^ (f + m) - 1) * b ^ r : Nat) : Int))) := h7
    refine ⟨D2, _, rfl, .inl ⟨SqL.of h7, fun l2 hl2 => ?_⟩⟩
    have e8 : Ex H7 (upd H7 l2 (.tup ((List.range 4).map fun m => V.int (((b ^ (f + m) - 1) * b ^ r : Nat) : Int)))) := Ex.new hl2
    have l8 : (upd H7 l2 (.tup ((List.range 4).map fun m => V.int (((b ^ (f + m) - 1) * b ^ r : Nat) : Int)))) l2 = some (.tup ((List.range 4).map fun m => V.int (((b ^ (f + m) - 1) * b ^ r : Nat) : Int))) := upd_same
    generalize (upd H7 l2 (.tup ((List.range 4).map fun m => V.int (((b ^ (f + m) - 1) * b ^ r : Nat) : Int)))) = H8 at *
    have k8 := k6.ex (e7.trans e8)
    have p8 := e8 _ _ (e7 _ _ p6)
    have l8' := e8 _ _ (e7 _ _ l6)
    have nl2 : l2 ≠ p := fun q => by
      rw [q] at l8
      rw [p8] at l8
      cases l8
    refine ⟨_, rfl, p, a.Grid, dx, _, rfl, p8, T.cl_Grid, T.f_Grid_tops, lt1000 (ln (ln (ln (ln (ln (ln (Nat.le_refl 0))))))), ?_⟩
    have o5 : ((List.range 4).map fun m => V.int (((b ^ (f + m) - 1) * b ^ r : Nat) : Int))[0]? = some (V.int (((b ^ f - 1) * b ^ r : Nat) : Int)) := rfl
    refine ⟨_, rfl, p, a.Grid, dx, _, _, rfl, upd_same, T.cl_Grid, T.f_Grid_tops, by rw [lookup_putF, if_pos rfl], l2, _, _, _, rfl, rfl, SqT.of ((upd_ne nl2).trans l8), atN (m := 0) o5, ?_⟩
    refine ⟨_, rfl, p, a.Grid, dx, _, rfl, upd_same, T.cl_Grid, T.f_Grid_greatest, lt1000 (ln (ln (ln (ln (ln (ln (ln (Nat.le_refl 0)))))))), ?_⟩
    refine k _ (k8.set.set) ⟨⟨v1, v3, rfl, rfl⟩, v2, v4, v5, dx, l, l2, pl, ((b ^ pl : Nat) : Int), _, _, upd_same, ((upd_ne nlp).trans (upd_ne nlp)).trans l8', ((upd_ne nl2).trans (upd_ne nl2)).trans l8, fun m hm => ?_, fun m hm => ?_⟩
    · rw [List.getElem?_map, List.getElem?_range (by omega)]
      rfl
    · rw [List.getElem?_map, List.getElem?_range (by omega)]
      rfl
end
end My


set_option Elab.async false
set_option maxRecDepth 100000
set_option maxHeartbeats 1000000
set_option exponentiation.threshold 6000
namespace My
open PySem L2 Evl
/-! ### the law's own defs -/
/-- a pot of draws stands at p; n draws at the most were reckoned -/
def PotAt (H : Hp) (p : Addr) (n : Nat) : Prop := ∃ x y c : Int, H p = some (.lst [.int x, .int y, .int c]) ∧ 0 ≤ x ∧ x.natAbs < 2 ^ 1000 ∧ 0 ≤ y ∧ y < 2 ^ 61 ∧ 0 ≤ c ∧ c ≤ (n : Int)
theorem PotAt.mono {H : Hp} {p : Addr} {n m : Nat} (h : PotAt H p n) (hm : n ≤ m) : PotAt H p m := by
  obtain ⟨x, y, c, h1, h2, h3, h4, h5, h6, h7⟩ := h
  exact ⟨x, y, c, h1, h2, h3, h4, h5, h6, by omega⟩
theorem PotAt.ex {H H' : Hp} {p : Addr} {n : Nat} (h : PotAt H p n) (e : Ex H H') : PotAt H' p n := by
  obtain ⟨x, y, c, h1, h2⟩ := h
  exact ⟨x, y, c, e _ _ h1, h2⟩
theorem PotAt.ne {H : Hp} {p q : Addr} {n : Nat} (h : PotAt H p n) (hq : H q = none) : q ≠ p := fun e => by
  obtain ⟨x, y, c, h1, h2⟩ := h
  rw [e, h1] at hq
  cases hq
theorem Ex.kp {p : Addr} {H H' : Hp} (e : Ex H H') : Kp p H H' := fun c o h _ => e c o h
theorem Kp.trans {p : Addr} {H H1 H2 : Hp} (h : Kp p H H1) (h' : Kp p H1 H2) : Kp p H H2 := fun c o hc hn => h' c o (h c o hc hn) hn
theorem Kp.back {p : Addr} {H H1 : Hp} {q : Addr} (h : Kp p H H1) (hq : H1 q = none) (hn : q ≠ p) : H q = none := by
  cases e : H q with
  | none => rfl
  | some o => rw [h q o e hn] at hq; cases hq
def TG (K : PySem.W.Frag) (H : Hp) (t : Addr) (b f r pl : Nat) : Prop := SqT K H t [.int b, .int f, .int r, .int pl]
theorem TG.ex {K : PySem.W.Frag} {H H' : Hp} {t : Addr} {b f r pl : Nat} (h : TG K H t b f r pl) (e : Ex H H') : TG K H' t b f r pl := ex_t e h
def sp_pot (K : PySem.W.Frag) : Sp := fun vs H Q _ => ∃ (s : Addr) (ns : List Int) (place : Nat), vs = [.ref s, .int place] ∧ SqL K H s (ns.map V.int) ∧ place ≤ 4 ∧ ∀ p H', Ex H H' → H p = none → PotAt H' p 0 → Q (.ref p) H'
def sp_take : Sp := fun vs H Q _ => ∃ (p : Addr) (u : Int) (n : Nat), vs = [.ref p, .int u] ∧ PotAt H p n ∧ n ≤ 100000 ∧ 0 < u ∧ u.natAbs < 2 ^ 4000 ∧ ∀ d H', Kp p H H' → PotAt H' p (n + 1) → 0 ≤ d → d < u → Q (.int d) H'
def sp_of : Sp := fun vs H Q _ => ∃ (p s : Addr) (n : Nat) (xs : List V), vs = [.ref p, .ref s] ∧ PotAt H p n ∧ n ≤ 100000 ∧ H s = some (.lst xs) ∧ s ≠ p ∧ 0 < xs.length ∧ xs.length ≤ 100000 ∧ ∀ (i : Nat) (v : V) H', xs[i]? = some v → Kp p H H' → PotAt H' p (n + 1) → Q v H'
def sp_greatest (K : PySem.W.Frag) : Sp := fun vs H Q _ => ∃ (t : Addr) (b f r pl : Nat), vs = [.ref t] ∧ TG K H t b f r pl ∧ (2 ≤ b ∧ b ≤ 10 ∧ f ≤ 33 ∧ r ≤ 60) ∧ ∀ H', Ex H H' → Q (.int (((b ^ f - 1) * b ^ r : Nat) : Int)) H'
def sp_lspacing (K : PySem.W.Frag) : Sp := fun vs H Q _ => ∃ (t : Addr) (b f r pl : Nat) (x : Int) (d : Nat), vs = [.ref t, .int x, .int d] ∧ TG K H t b f r pl ∧ (2 ≤ b ∧ b ≤ 10 ∧ f ≤ 33 ∧ r ≤ 60) ∧ 1 ≤ d ∧ d < 2 ^ 70 ∧ x.natAbs < 2 ^ 4000 ∧ ∀ H', Ex H H' → Q (.int (spc b (b ^ f) (x.natAbs / d) : Nat)) H'
def sp_has (K : PySem.W.Frag) : Sp := fun vs H Q _ => ∃ (t : Addr) (b f r pl : Nat) (x : Int), vs = [.ref t, .int x] ∧ TG K H t b f r pl ∧ (2 ≤ b ∧ b ≤ 10 ∧ f ≤ 33 ∧ r ≤ 60) ∧ x.natAbs < 2 ^ 4000 ∧ ∀ H', Ex H H' → Q (.bl (decide (x.natAbs ≤ (b ^ f - 1) * b ^ r) && decide (x % (spc b (b ^ f) x.natAbs : Nat) = 0))) H'
def sp_more (K : PySem.W.Frag) : Sp := fun vs H Q _ => ∃ (t : Addr) (b f r pl m : Nat), vs = [.ref t, .int m] ∧ TG K H t b f r pl ∧ ∀ q H', Ex H H' → H' q = some (.tup [.int b, .int ((f + m : Nat) : Int), .int r, .int pl]) → Q (.ref q) H'
def rzO (b L G : Nat) (t : Int) : V := if (rz b L t).natAbs ≤ G then .int (rz b L t) else .non
theorem t10 : (10 : Int) ^ (60 : Int).toNat = 10 ^ 60 := by decide +kernel
theorem t300 : ((10 : Int) ^ (60 : Int).toNat) ^ (5 : Int).toNat = 10 ^ 300 := by decide +kernel
section
variable {P : Program} {w : World} {K : PySem.W.Frag} {mg : Str → Option Value} {base : Heap} {a : Ad}
theorem ok_l_take (T : Txt K mg a) : FnOk P w K mg base CX0 1 a.l_take a.l_take_fd ["pot", "upto"] sp_take := by
  refine T.F_l_take.ok sc_l_take (fun vs H Q E h => ?_) (fun cdv A outer s H vs Q E hr h => ?_)
  · obtain ⟨p, u, n, rfl, _⟩ := h
    rfl
  · obtain ⟨p, u, n, rfl, hp, hn, hu, hus, k⟩ := h
    refine ⟨_, (pss_cons (ps_if (pt_cmpR op_gt (pe_ix ix_list (pv 0) pe_int (fun _ _ => rfl)) pe_int (nomark _)) (pss_cons (ps_set (i := 4) sc_l_take.nd rfl (Or.inl rfl) (pe_op op_mod (pe_callTy call_int1 (by rfl) T.n_int (by decide +kernel) (pa_cons (pe_ix ix_list (pv 0) pe_int (fun _ _ => rfl)) pa_nil)) (pv 1)))
      (pss_cons (ps_asg (pe_op op_fdivW (pe_ix ix_list (pv 0) pe_int (fun _ _ => rfl)) (pv 1)) (pg_sub (pv 0) pe_int set_list))
      (pss_one (ps_ret (pv 4))))) pss_nil)
      (pss_cons (ps_asg (pe_op op_add (pe_ix ix_list (pv 0) pe_int (fun _ _ => rfl)) pe_int) (pg_sub (pv 0) pe_int set_list))
      (pss_cons (ps_set (i := 2) sc_l_take.nd rfl (Or.inl rfl) (pe_ix ix_list (pe_lst (pa_cons pe_int (pa_cons pe_int (pa_cons pe_int (pa_cons pe_int (pa_cons pe_int pa_nil)))))) (pe_op op_mod (pe_callTy call_int1 (by rfl) T.n_int (by decide +kernel) (pa_cons (pe_ix ix_list (pv 0) pe_int (fun _ _ => rfl)) pa_nil)) pe_int) (fun _ _ => rfl)))
      (pss_cons (ps_set (i := 3) sc_l_take.nd rfl (Or.inl rfl) (pe_op op_mod (pe_callTy call_int1 (by rfl) T.n_int (by decide +kernel) (pa_cons (pe_op op_pow (pe_callTy call_int1 (by rfl) T.n_int (by decide +kernel) (pa_cons (pe_op op_add (pe_op op_add (pe_ix ix_list (pv 0) pe_int (fun _ _ => rfl)) (pe_op op_mulW (pe_op op_mulW pe_int (pe_ix ix_list (pv 0) pe_int (fun _ _ => rfl))) (pe_ix ix_list (pv 0) pe_int (fun _ _ => rfl)))) pe_int) pa_nil)) pe_int) pa_nil)) (pv 2)))
      (pss_cons (ps_set (i := 3) sc_l_take.nd rfl (Or.inl rfl) (pe_op op_mod (pe_callTy call_int1 (by rfl) T.n_int (by decide +kernel) (pa_cons (pe_op op_mulW (pv 3) (pe_op op_add (pe_op op_mod (pe_callTy call_int1 (by rfl) T.n_int (by decide +kernel) (pa_cons (pv 3) pa_nil)) pe_int) (pe_op op_mulW pe_int (pe_ix ix_list (pv 0) pe_int (fun _ _ => rfl))))) pa_nil)) pe_int))
      (pss_one (ps_ret (pe_op op_mod (pe_callTy call_int1 (by rfl) T.n_int (by decide +kernel) (pa_cons (pe_op op_fdivW (pv 3) pe_int) pa_nil)) (pv 1))))))))), ?_⟩
    obtain ⟨x, y, c, h1, h2, h3, h4, h5, h6, h7⟩ := hp
    have a0 : atI [V.int x, V.int y, V.int c] 0 = some (.int x) := atN (m := 0) rfl
    have a1 : atI [V.int x, V.int y, V.int c] 1 = some (.int y) := atN (m := 1) rfl
    have a2 : atI [V.int x, V.int y, V.int c] 2 = some (.int c) := atN (m := 2) rfl
    refine ⟨_, rfl, p, _, _, _, rfl, rfl, SqL.of h1, a0, _, _, rfl, rfl, _, rfl, ?_⟩
    refine ite2 (fun hc => ?_) (fun hc => ?_)
    · have hx := of_decide_eq_true hc
      refine ⟨_, rfl, p, _, _, _, rfl, rfl, SqL.of h1, a0, .inl ⟨_, rfl, _, rfl, _, _, rfl, rfl, hu, ?_⟩⟩
      refine ⟨_, rfl, p, _, _, _, rfl, rfl, SqL.of h1, a0, _, rfl, _, _, rfl, rfl, wd hu (p5000 hus), _, rfl, p, _, _, 0, rfl, rfl, h1, rfl, ?_⟩
      refine ⟨_, rfl, ?_⟩
      refine k _ _ (Kp.refl.set) ⟨x / u, y, c, upd_same, Int.ediv_nonneg h2 (by omega), ?_, h4, h5, h6, by omega⟩ (Int.emod_nonneg _ (by omega)) (Int.emod_lt_of_pos _ hu)
      have := Int.natAbs_ediv_le_natAbs x u
      omega
    · refine ⟨_, rfl, p, _, _, _, rfl, rfl, SqL.of h1, a2, _, _, rfl, rfl, _, rfl, p, _, _, 2, rfl, rfl, h1, rfl, ?_⟩
      have b1 : atI (List.set [V.int x, V.int y, V.int c] 2 (V.int (c + 1))) 1 = some (.int y) := atN (m := 1) rfl
      have b2 : atI (List.set [V.int x, V.int y, V.int c] 2 (V.int (c + 1))) 2 = some (.int (c + 1)) := atN (m := 2) rfl
      obtain ⟨pr, hpr, hpr0⟩ : ∃ pr : Int, atI [V.int 2147483647, V.int 2147483629, V.int 2147483587, V.int 2147483579, V.int 2147483563] ((c + 1) % 5) = some (.int pr) ∧ 0 < pr := by
        have h5 : (c + 1) % 5 = ((0 : Nat) : Int) ∨ (c + 1) % 5 = ((1 : Nat) : Int) ∨ (c + 1) % 5 = ((2 : Nat) : Int) ∨ (c + 1) % 5 = ((3 : Nat) : Int) ∨ (c + 1) % 5 = ((4 : Nat) : Int) := by omega
        rcases h5 with h | h | h | h | h
        · rw [h]; exact ⟨_, atN (m := 0) rfl, by decide⟩
        · rw [h]; exact ⟨_, atN (m := 1) rfl, by decide⟩
        · rw [h]; exact ⟨_, atN (m := 2) rfl, by decide⟩
        · rw [h]; exact ⟨_, atN (m := 3) rfl, by decide⟩
        · rw [h]; exact ⟨_, atN (m := 4) rfl, by decide⟩
      have kp : Kp p H (upd H p (.lst (List.set [V.int x, V.int y, V.int c] 2 (V.int (c + 1))))) := Kp.refl.set
      have hq : (upd H p (.lst (List.set [V.int x, V.int y, V.int c] 2 (V.int (c + 1))))) p = some (.lst (List.set [V.int x, V.int y, V.int c] 2 (V.int (c + 1)))) := upd_same
      generalize (upd H p (.lst (List.set [V.int x, V.int y, V.int c] 2 (V.int (c + 1))))) = H1 at *
      refine ⟨by decide, fun l hl => ?_⟩
      have lp : p ≠ l := ne_of_none hq hl
      have kp2 : Kp p H (upd H1 l (.lst [V.int 2147483647, V.int 2147483629, V.int 2147483587, V.int 2147483579, V.int 2147483563])) := kp.ex (Ex.new hl)
      have hq2 : (upd H1 l (.lst [V.int 2147483647, V.int 2147483629, V.int 2147483587, V.int 2147483579, V.int 2147483563])) p = some (.lst (List.set [V.int x, V.int y, V.int c] 2 (V.int (c + 1)))) := (upd_ne lp).trans hq
      have hl2 : (upd H1 l (.lst [V.int 2147483647, V.int 2147483629, V.int 2147483587, V.int 2147483579, V.int 2147483563])) l = some (.lst [V.int 2147483647, V.int 2147483629, V.int 2147483587, V.int 2147483579, V.int 2147483563]) := upd_same
      generalize (upd H1 l (.lst [V.int 2147483647, V.int 2147483629, V.int 2147483587, V.int 2147483579, V.int 2147483563])) = H2 at *
      refine ⟨_, rfl, p, _, _, _, rfl, rfl, SqL.of hq2, b2, .inl ⟨_, rfl, _, _, rfl, rfl, (by show (0 : Int) < 5; decide), l, _, _, _, rfl, rfl, SqL.of hl2, hpr, ?_⟩⟩
      have m1 : 0 ≤ c + 1 := by omega
      have m2 : c + 1 ≤ 100001 := by omega
      have m3 : 126884 * (c + 1) * (c + 1) ≤ 126884 * 100001 * 100001 := Int.mul_le_mul (by omega) m2 m1 (by decide)
      have m4 : 0 ≤ 126884 * (c + 1) * (c + 1) := Int.mul_nonneg (by omega) m1
      refine ⟨_, rfl, p, _, _, _, rfl, rfl, SqL.of hq2, b1, _, rfl, p, _, _, _, rfl, rfl, SqL.of hq2, b2, _, _, rfl, rfl, wm (p5000 (k := 64) (by decide)) (p5000 (k := 64) (by omega)), _, rfl, p, _, _, _, rfl, rfl, SqL.of hq2, b2, _, _, rfl, rfl, wm (p5000 (k := 64) (by omega)) (p5000 (k := 64) (by omega)), _, _, rfl, rfl, _, _, rfl, rfl, .inl ⟨_, rfl, _, _, rfl, rfl, ⟨by decide, by decide, ?_⟩, .inl ⟨_, rfl, _, rfl, _, _, rfl, rfl, hpr0, ?_⟩⟩⟩
      · omega
      generalize hbl : (y + 126884 * (c + 1) * (c + 1) + 3752) ^ (3 : Int).toNat % pr = bl
      have hprs : pr < 2 ^ 31 := by
        have h5 : (c + 1) % 5 = ((0 : Nat) : Int) ∨ (c + 1) % 5 = ((1 : Nat) : Int) ∨ (c + 1) % 5 = ((2 : Nat) : Int) ∨ (c + 1) % 5 = ((3 : Nat) : Int) ∨ (c + 1) % 5 = ((4 : Nat) : Int) := by omega
        rcases h5 with h | h | h | h | h <;> rw [h] at hpr <;> cases hpr <;> decide
      have hb1 : 0 ≤ bl := by rw [← hbl]; exact Int.emod_nonneg _ (by omega)
      have hb2 : bl < 2 ^ 31 := by rw [← hbl]; exact Int.lt_trans (Int.emod_lt_of_pos _ hpr0) hprs
      refine ⟨_, rfl, _, rfl, .inl ⟨_, rfl, _, _, rfl, rfl, (by show (0 : Int) < 16978; decide), _, rfl, p, _, _, _, rfl, rfl, SqL.of hq2, b2, _, _, rfl, rfl, wm (p5000 (k := 64) (by decide)) (p5000 (k := 64) (by omega)), _, _, rfl, rfl, _, _, rfl, rfl, wm (p5000 (k := 64) (by omega)) (p5000 (k := 64) (by omega)), .inl ⟨_, rfl, _, _, rfl, rfl, (by show (0 : Int) < 2305843009213693907; decide), ?_⟩⟩⟩
      refine ⟨_, rfl, _, _, rfl, rfl, wd (by decide) (by decide +kernel), .inl ⟨_, rfl, _, rfl, _, _, rfl, rfl, hu, ?_⟩⟩
      exact k _ _ kp2 ⟨x, y, c + 1, hq2, h2, h3, h4, h5, m1, by omega⟩ (Int.emod_nonneg _ (by omega)) (Int.emod_lt_of_pos _ hu)
theorem ok_l_of (T : Txt K mg a) : FnOk P w K mg base CX0 2 a.l_of a.l_of_fd ["pot", "some"] sp_of := by
  refine T.F_l_of.ok sc_l_of (fun vs H Q E h => ?_) (fun cdv A outer s H vs Q E hr h => ?_)
  · obtain ⟨p, s, n, xs, rfl, _⟩ := h
    rfl
  · obtain ⟨p, q, n, xs, rfl, hp, hn, hs, hne, hl0, hl, k⟩ := h
    refine ⟨_, (pss_one (ps_ret (pe_ix ix_list (pv 1) (pe_call (ok_l_take T) (hr.mono (by decide)) rfl T.g_l_take T.k_l_take T.B_l_take .nil pass0 (pa_cons (pv 0) (pa_cons (pe_callB call_len_seq (by rfl) T.n_len (by decide +kernel) (pa_cons (pv 1) pa_nil)) pa_nil))) (fun _ _ => rfl)))), ?_⟩
    refine ⟨_, rfl, _, rfl, _, rfl, q, _, rfl, .inl (SqL.of hs), p, _, n, rfl, hp, hn, by omega, ?_, fun d H1 kp hp1 h0 h1 => ?_⟩
    · rw [Int.natAbs_natCast]
      exact Nat.lt_of_le_of_lt hl (by decide +kernel)
    · have hd : d = ((d.toNat : Nat) : Int) := by omega
      have hlt : d.toNat < xs.length := by omega
      exact ⟨q, _, _, _, rfl, rfl, SqL.of (kp _ _ hs hne), at_of hd (List.getElem?_eq_getElem hlt), k _ _ _ (List.getElem?_eq_getElem hlt) kp hp1⟩
theorem ok_l_grid_power (T : Txt K mg a) : FnOk P w K mg base CX0 1 a.l_grid_power a.l_grid_power_fd ["base", "many"] sp_power := by
  refine T.F_l_grid_power.ok sc_l_grid_power (fun vs H Q E h => ?_) (fun cdv A outer s H vs Q E hr h => ?_)
  · obtain ⟨b, e, rfl, _⟩ := h
    rfl
  · obtain ⟨b, n, rfl, hb, hn, k⟩ := h
    refine ⟨_, (pss_cons (ps_set (i := 2) sc_l_grid_power.nd rfl (Or.inl rfl) pe_int)
      (pss_cons (ps_for PassesOwn.never rfl (pi_range1 rfl T.n_range (pa_cons (pv 1) pa_nil)) (pg_name (i := 3) sc_l_grid_power.nd rfl (Or.inl rfl)) (pss_one (ps_set (i := 2) sc_l_grid_power.nd rfl (Or.inl rfl) (pe_op op_mulW (pv 2) (pe_callTy call_int1 (by rfl) T.n_int (by decide +kernel) (pa_cons (pv 0) pa_nil))))))
      (pss_one (ps_ret (pv 2))))), ?_⟩
    refine ⟨_, rfl, _, rfl, by omega, by omega, for_range (lo := 0) (n := n) (fun i σ H' => H' = H ∧ ∃ v, σ = [some (.int b), some (.int n), some (.int ((b ^ i : Nat) : Int)), v]) ⟨rfl, none, rfl⟩ ?_ ?_⟩
    · rintro i σ H' hi ⟨rfl, v, rfl⟩
      refine ⟨_, rfl, _, rfl, .inl ⟨_, rfl, _, _, rfl, rfl, wm (p5000 (pw400 hb (by omega))) (p5000 (k := 400) (by rw [Int.natAbs_natCast]; exact Nat.lt_of_le_of_lt hb (by decide +kernel))), rfl, some (.int (0 + (i : Int))), ?_⟩⟩
      show [_, _, some (V.int (((b ^ i : Nat) : Int) * (b : Int))), _] = _
      rw [Nat.pow_succ, Int.natCast_mul]
    · rintro σ H' ⟨rfl, v, rfl⟩
      exact ⟨_, rfl, k _ (Ex.refl _)⟩
end
section
theorem g0 {b f r pl : Nat} : atI [V.int b, V.int f, V.int r, V.int pl] 0 = some (.int b) := atN (m := 0) rfl
theorem g1 {b f r pl : Nat} : atI [V.int b, V.int f, V.int r, V.int pl] 1 = some (.int f) := atN (m := 1) rfl
theorem g2 {b f r pl : Nat} : atI [V.int b, V.int f, V.int r, V.int pl] 2 = some (.int r) := atN (m := 2) rfl
theorem g3 {b f r pl : Nat} : atI [V.int b, V.int f, V.int r, V.int pl] 3 = some (.int pl) := atN (m := 3) rfl
variable {P : Program} {w : World} {K : PySem.W.Frag} {mg : Str → Option Value} {base : Heap} {a : Ad}
theorem ok_l_grid_greatest (T : Txt K mg a) : FnOk P w K mg base CX0 2 a.l_grid_greatest a.l_grid_greatest_fd ["grid"] (sp_greatest K) := by
  refine T.F_l_grid_greatest.ok sc_l_grid_greatest (fun vs H Q E h => ?_) (fun cdv A outer s H vs Q E hr h => ?_)
  · obtain ⟨t, b, f, r, pl, rfl, _⟩ := h
    rfl
  · obtain ⟨t, b, f, r, pl, rfl, ht, ⟨hb, ub, uf, ur⟩, k⟩ := h
    refine ⟨_, (pss_one (ps_ret (pe_op op_mulW (pe_op op_sub (pe_call (ok_l_grid_power T) (hr.mono (by decide)) rfl T.g_l_grid_power T.k_l_grid_power T.B_l_grid_power .nil pass0 (pa_cons (pe_ix ix_tup (pv 0) pe_int (fun _ _ => rfl)) (pa_cons (pe_ix ix_tup (pv 0) pe_int (fun _ _ => rfl)) pa_nil))) pe_int) (pe_call (ok_l_grid_power T) (hr.mono (by decide)) rfl T.g_l_grid_power T.k_l_grid_power T.B_l_grid_power .nil pass0 (pa_cons (pe_ix ix_tup (pv 0) pe_int (fun _ _ => rfl)) (pa_cons (pe_ix ix_tup (pv 0) pe_int (fun _ _ => rfl)) pa_nil)))))), ?_⟩
    refine ⟨_, rfl, t, _, _, _, rfl, rfl, ht, g0, _, rfl, t, _, _, _, rfl, rfl, ht, g1, b, f, rfl, ub, by omega, fun H1 e1 => ?_⟩
    refine ⟨_, _, rfl, rfl, _, rfl, t, _, _, _, rfl, rfl, ht.ex e1, g0, _, rfl, t, _, _, _, rfl, rfl, ht.ex e1, g2, b, r, rfl, ub, by omega, fun H2 e2 => ?_⟩
    have hpos : 1 ≤ b ^ f := Nat.pow_pos (by omega)
    have hs : b ^ f < 2 ^ 400 := pw400 ub (by omega)
    refine ⟨_, _, rfl, rfl, wm (p5000 (k := 400) (by omega)) (p5000 (pw400 ub (by omega))), ?_⟩
    have kk := k H2 (e1.trans e2)
    rw [Int.natCast_mul, Int.natCast_sub hpos] at kk
    exact kk
theorem ok_l_grid_spacing (T : Txt K mg a) : FnOk P w K mg base CX0 2 a.l_grid_spacing a.l_grid_spacing_fd ["grid", "top", "bottom"] (sp_lspacing K) := by
  refine T.F_l_grid_spacing.ok sc_l_grid_spacing (fun vs H Q E h => ?_) (fun cdv A outer s H vs Q E hr h => ?_)
  · obtain ⟨t, b, f, r, pl, x, d, rfl, _⟩ := h
    rfl
  · obtain ⟨t, b, f, r, pl, x, d, rfl, ht, ⟨hb, ub, uf, ur⟩, hd, hd7, hx0, k⟩ := h
    have hx : x.natAbs / d < 2 ^ 4000 := Nat.lt_of_le_of_lt (Nat.div_le_self _ _) hx0
    have dsz : ((d : Nat) : Int).natAbs < 2 ^ 70 := by rw [Int.natAbs_natCast]; exact hd7
    refine ⟨_, (pss_cons (ps_par (i := 3) (j := 4) (by rfl) sc_l_grid_spacing.nd rfl rfl (by decide) rfl rfl (pa_cons pe_int (pa_cons (pe_call (ok_l_grid_power T) (hr.mono (by decide)) rfl T.g_l_grid_power T.k_l_grid_power T.B_l_grid_power .nil pass0 (pa_cons (pe_ix ix_tup (pv 0) pe_int (fun _ _ => rfl)) (pa_cons (pe_ix ix_tup (pv 0) pe_int (fun _ _ => rfl)) pa_nil))) pa_nil)) (by rfl))
      (pss_cons (ps_while PassesOwn.never (pt_cmpR op_ge (pe_callB call_abs (by rfl) T.n_abs (by decide +kernel) (pa_cons (pv 1) pa_nil)) (pe_op op_mulW (pe_op op_mulW (pv 2) (pv 4)) (pv 3)) (nomark _)) (pss_one (ps_set (i := 3) sc_l_grid_spacing.nd rfl (Or.inl rfl) (pe_op op_mulW (pv 3) (pe_ix ix_tup (pv 0) pe_int (fun _ _ => rfl))))))
      (pss_one (ps_ret (pv 3))))), ?_⟩
    refine ⟨_, rfl, t, _, _, _, rfl, rfl, ht, g0, _, rfl, t, _, _, _, rfl, rfl, ht, g1, b, f, rfl, ub, by omega, fun H1 e1 => ⟨_, _, rfl, ?_⟩⟩
    have hM : 1 ≤ b ^ f := Nat.pow_pos (by omega)
    have hMl : b ^ f < 2 ^ 400 := pw400 ub (by omega)
    have ht1 := ht.ex e1
    generalize hMe : b ^ f = M at *
    refine ⟨fun c σ H' => ∃ k : Nat, H' = H1 ∧ c = spx b (M * b ^ k) (x.natAbs / d) ∧ spx b M (x.natAbs / d) = k + spx b (M * b ^ k) (x.natAbs / d) ∧ M * b ^ k < 2 ^ 4010 ∧ σ = [some (.ref t), some (.int x), some (.int d), some (.int ((b ^ k : Nat) : Int)), some (.int (M : Int))],
      ⟨_, 0, rfl, rfl, by rw [Nat.pow_zero, Nat.mul_one]; omega, by rw [Nat.pow_zero, Nat.mul_one]; exact Nat.lt_trans hMl (by decide +kernel), by rw [Nat.pow_zero]; rfl⟩, ?_⟩
    rintro c σ H' ⟨k', rfl, rfl, h1, h2, rfl⟩
    have hbk : b ^ k' < 2 ^ 4010 := Nat.lt_of_le_of_lt (Nat.le_mul_of_pos_left _ hM) h2
    refine ⟨_, rfl, _, rfl, _, rfl, _, rfl, _, _, rfl, rfl, wm (p5000 dsz) (p5000 (k := 400) hMl), _, rfl, _, _, rfl, rfl, wm (p5000 (wide_lt dsz (b := 400) (by rw [Int.natAbs_natCast]; exact hMl))) (p5000 hbk), _, _, rfl, rfl, _, rfl, ?_⟩
    rw [absI, ← Int.natCast_mul, ← Int.natCast_mul]
    refine ite2 (fun hc => ?_) (fun hc => ?_)
    · have hc : M * b ^ k' ≤ x.natAbs / d := by
        have := Int.ofNat_le.mp (of_decide_eq_true hc)
        refine (Nat.le_div_iff_mul_le hd).mpr ?_
        rw [Nat.mul_comm _ d, ← Nat.mul_assoc]
        exact this
      refine ⟨fun σ' H2 => H2 = H' ∧ σ' = [some (.ref t), some (.int x), some (.int d), some (.int ((b ^ (k' + 1) : Nat) : Int)), some (.int (M : Int))], ?_, ?_⟩
      · rintro σ' H2 ⟨rfl, rfl⟩
        have hpos : 1 ≤ M * b ^ k' := Nat.mul_pos hM (Nat.pow_pos (by omega))
        have hstep : spx b (M * b ^ k') (x.natAbs / d) = 1 + spx b (M * b ^ (k' + 1)) (x.natAbs / d) := by
          rw [Nat.pow_succ, ← Nat.mul_assoc]
          exact spx_ge hb hpos hc
        refine ⟨_, ?_, k' + 1, rfl, rfl, by omega, ?_, rfl⟩
        · omega
        · rw [Nat.pow_succ, ← Nat.mul_assoc]
          have : M * b ^ k' * b ≤ x.natAbs / d * 10 := Nat.mul_le_mul hc ub
          have h10 : 2 ^ 4000 * 10 ≤ 2 ^ 4010 := by decide +kernel
          omega
      · refine ⟨_, rfl, _, rfl, t, _, _, _, rfl, rfl, ht1, g0, _, _, rfl, rfl, wm (p5000 hbk) (p5000 (k := 400) (by rw [Int.natAbs_natCast]; exact Nat.lt_of_le_of_lt ub (by decide +kernel))), rfl, ?_⟩
        show [_, _, _, some (V.int (((b ^ k' : Nat) : Int) * (b : Int))), _] = _
        rw [Nat.pow_succ, Int.natCast_mul (b ^ k') b]
    · have hc : ¬ M * b ^ k' ≤ x.natAbs / d := fun z => hc (decide_eq_true (Int.ofNat_le.mpr (by
        have := (Nat.le_div_iff_mul_le hd).mp z
        rw [Nat.mul_comm _ d, ← Nat.mul_assoc] at this
        exact this)))
      refine ⟨_, rfl, ?_⟩
      have h0 : spx b (M * b ^ k') (x.natAbs / d) = 0 := spx_lt (by omega)
      have : spc b M (x.natAbs / d) = b ^ k' := by
        unfold spc
        rw [h1, h0, Nat.add_zero]
      rw [← this]
      exact k _ e1
theorem ok_l_grid_more (T : Txt K mg a) : FnOk P w K mg base CX0 1 a.l_grid_more a.l_grid_more_fd ["grid", "more"] (sp_more K) := by
  refine T.F_l_grid_more.ok sc_l_grid_more (fun vs H Q E h => ?_) (fun cdv A outer s H vs Q E hr h => ?_)
  · obtain ⟨t, b, f, r, pl, m, rfl, _⟩ := h
    rfl
  · obtain ⟨t, b, f, r, pl, m, rfl, ht, k⟩ := h
    refine ⟨_, (pss_one (ps_ret (pe_tup (pa_cons (pe_ix ix_tup (pv 0) pe_int (fun _ _ => rfl)) (pa_cons (pe_op op_add (pe_ix ix_tup (pv 0) pe_int (fun _ _ => rfl)) (pv 1)) (pa_cons (pe_ix ix_tup (pv 0) pe_int (fun _ _ => rfl)) (pa_cons (pe_ix ix_tup (pv 0) pe_int (fun _ _ => rfl)) pa_nil))))))), ?_⟩
    refine ⟨_, rfl, t, _, _, _, rfl, rfl, ht, g0, _, rfl, t, _, _, _, rfl, rfl, ht, g1, _, rfl, _, _, rfl, rfl, _, rfl, t, _, _, _, rfl, rfl, ht, g2, _, rfl, t, _, _, _, rfl, rfl, ht, g3, by show 4 ≤ sizeLine; decide, fun q hq => ?_⟩
    refine k q _ (Ex.new hq) ?_
    rw [upd_same, Int.natCast_add]
end
end My


set_option Elab.async false
set_option maxRecDepth 100000
set_option maxHeartbeats 1000000
set_option exponentiation.threshold 6000
namespace My
open PySem L2 Evl
def sp_rnd (K : PySem.W.Frag) : Sp := fun vs H Q _ => ∃ (t : Addr) (b f r pl : Nat) (x : Int) (d m : Nat) (y : Wy), vs = [.ref t, .int x, .int d, .str y.str, .int m] ∧ TG K H t b f r pl ∧ (2 ≤ b ∧ b ≤ 10 ∧ f + m ≤ 33 ∧ r ≤ 60) ∧ 1 ≤ d ∧ d < 2 ^ 70 ∧ x.natAbs < 2 ^ 4000 ∧
  ∀ H', Ex H H' → Q (rgO y b f r m x d) H'
section
variable {P : Program} {w : World} {K : PySem.W.Frag} {mg : Str → Option Value} {base : Heap} {a : Ad}
theorem ok_l_grid_rounded (T : Txt K mg a) : FnOk P w K mg base CX0 3 a.l_grid_rounded a.l_grid_rounded_fd ["grid", "top", "bottom", "way", "more"] (sp_rnd K) := by
  refine T.F_l_grid_rounded.ok sc_l_grid_rounded (fun vs H Q E h => ?_) (fun cdv A outer s H vs Q E hr h => ?_)
  · obtain ⟨t, b, f, r, pl, x, d, m, y, rfl, _⟩ := h
    rfl
  · obtain ⟨t, b, f, r, pl, x, d, m, y, rfl, ht, hv, hd, hd7, hx, k⟩ := h
    refine ⟨_, (pss_cons (ps_set (i := 5) sc_l_grid_rounded.nd rfl (Or.inl rfl) (pe_call (ok_l_grid_more T) (hr.mono (by decide)) rfl T.g_l_grid_more T.k_l_grid_more T.B_l_grid_more .nil pass0 (pa_cons (pv 0) (pa_cons (pv 4) pa_nil))))
      (pss_cons (ps_set (i := 6) sc_l_grid_rounded.nd rfl (Or.inl rfl) (pe_call (ok_l_grid_spacing T) (hr.mono (by decide)) rfl T.g_l_grid_spacing T.k_l_grid_spacing T.B_l_grid_spacing .nil pass0 (pa_cons (pv 5) (pa_cons (pv 1) (pa_cons (pv 2) pa_nil)))))
      (pss_cons (ps_par (i := 7) (j := 8) (by rfl) sc_l_grid_rounded.nd rfl rfl (by decide) rfl rfl (pa_cons (pe_op op_fdivW (pe_callTy call_int1 (by rfl) T.n_int (by decide +kernel) (pa_cons (pv 1) pa_nil)) (pe_op op_mulW (pv 2) (pv 6))) (pa_cons (pe_op op_mod (pe_callTy call_int1 (by rfl) T.n_int (by decide +kernel) (pa_cons (pv 1) pa_nil)) (pe_op op_mulW (pv 2) (pv 6))) pa_nil)) (by rfl))
      (pss_cut (ps_if (pt_cmpR op_eq (pv 3) pe_str (nomark _)) (pss_cons (ps_set (i := 10) sc_l_grid_rounded.nd rfl (Or.inl rfl) (pe_op op_sub (pe_op op_mulW pe_int (pv 8)) (pe_op op_mulW (pv 2) (pv 6))))
      (pss_one (ps_set (i := 11) sc_l_grid_rounded.nd rfl (Or.inl rfl) (pe_callTy call_int1 (by rfl) T.n_int (by decide +kernel) (pa_cons (pe_or (pe_cmpR op_gt (pv 10) pe_int (nomark _)) (pe_one (pe_and (pe_cmpR op_eq (pv 10) pe_int (nomark _)) (pe_one (pe_cmpR op_eq (pe_op op_mod (pe_callTy call_int1 (by rfl) T.n_int (by decide +kernel) (pa_cons (pv 7) pa_nil)) pe_int) pe_int (nomark _)))))) pa_nil))))) (pss_one (ps_set (i := 11) sc_l_grid_rounded.nd rfl (Or.inl rfl) (pe_callTy call_int1 (by rfl) T.n_int (by decide +kernel) (pa_cons (pe_and (pe_cmpR op_gt (pv 8) pe_int (nomark _)) (pe_one (pe_or (pe_cmpR op_eq (pv 3) pe_str (nomark _)) (pe_one (pe_and (pe_cmpR op_eq (pv 3) pe_str (nomark _)) (pe_one (pe_cmpR op_lt (pv 1) pe_int (nomark _)))))))) pa_nil)))))
      (pss_cons (ps_set (i := 9) sc_l_grid_rounded.nd rfl (Or.inl rfl) (pe_op op_mulW (pe_op op_add (pv 7) (pv 11)) (pv 6)))
      (pss_one (ps_ret (pe_ifExp (pt_cmpR op_le (pe_callB call_abs (by rfl) T.n_abs (by decide +kernel) (pa_cons (pv 9) pa_nil)) (pe_call (ok_l_grid_greatest T) (hr.mono (by decide)) rfl T.g_l_grid_greatest T.k_l_grid_greatest T.B_l_grid_greatest .nil pass0 (pa_cons (pv 5) pa_nil)) (nomark _)) (pv 9) pe_non)))))))), ?_⟩
    obtain ⟨hb, ub, uf, ur⟩ := id hv
    have dsz : ((d : Nat) : Int).natAbs < 2 ^ 70 := by rw [Int.natAbs_natCast]; exact hd7
    refine ⟨_, rfl, _, rfl, t, b, f, r, pl, m, rfl, ht, fun q H1 e1 hq => ?_⟩
    have hq : TG K H1 q b (f + m) r pl := SqT.of hq
    refine ⟨_, rfl, _, rfl, _, rfl, q, b, f + m, r, pl, x, d, rfl, hq, hv, hd, hd7, hx, fun H2 e2 => ?_⟩
    have hL : 1 ≤ b ^ (f + m) := Nat.pow_pos (by omega)
    have hs : (0 : Int) < ((spc b (b ^ (f + m)) (x.natAbs / d) : Nat) : Int) := sps_pos (L := b ^ (f + m)) hb x d
    have hsz := spc_sz hb ub hL (Nat.lt_of_le_of_lt (Nat.div_le_self _ _) hx : x.natAbs / d < 2 ^ 4000)
    have hsz' : ((spc b (b ^ (f + m)) (x.natAbs / d) : Nat) : Int).natAbs < 2 ^ 4010 := by rw [Int.natAbs_natCast]; exact hsz
    have ers : ∀ (up : Bool) (st : Int), ((x % ((d : Int) * ((spc b (b ^ (f + m)) (x.natAbs / d) : Nat) : Int)) != 0) = true ∧ wup y (x / ((d : Int) * ((spc b (b ^ (f + m)) (x.natAbs / d) : Nat) : Int))) (x % ((d : Int) * ((spc b (b ^ (f + m)) (x.natAbs / d) : Nat) : Int))) ((d : Int) * ((spc b (b ^ (f + m)) (x.natAbs / d) : Nat) : Int)) = true ↔ up = true) → st = (if up = true then 1 else 0) →
        (x / ((d : Int) * ((spc b (b ^ (f + m)) (x.natAbs / d) : Nat) : Int)) + st) * ((spc b (b ^ (f + m)) (x.natAbs / d) : Nat) : Int) = rg y b (b ^ (f + m)) x d := by
      intro up st h1 h2
      show _ = (if _ then _ else _)
      cases up with
      | true =>
        rw [h2, if_pos rfl]
        exact (if_pos (h1.mpr rfl)).symm
      | false =>
        rw [h2, if_neg (by decide), Int.add_zero]
        exact (if_neg (fun z => absurd (h1.mp z) (by decide))).symm
    generalize ((spc b (b ^ (f + m)) (x.natAbs / d) : Nat) : Int) = s at *
    have hS : 0 < (d : Int) * s := Int.mul_pos (by omega) hs
    have hSz : ((d : Int) * s).natAbs < 2 ^ 4080 := wide_lt dsz hsz'
    refine ⟨_, rfl, .inl ⟨_, rfl, _, rfl, _, rfl, _, _, rfl, rfl, wm (p5000 dsz) (p5000 hsz'), _, _, rfl, rfl, wd hS (p5000 hSz), _, rfl, .inl ⟨_, rfl, _, rfl, _, rfl, _, _, rfl, rfl, wm (p5000 dsz) (p5000 hsz'), _, _, rfl, rfl, hS, _, _, rfl, ?_⟩⟩⟩
    dsimp only
    generalize hSS : (d : Int) * s = S at *
    obtain ⟨q1, q2⟩ := quo_sz' hS hx
    have qm := mod_sz (t := x) hS hSz
    obtain ⟨f1, f2, f3⟩ := div_facts x S hS
    refine ⟨fun σ H3 => Ex H H3 ∧ TG K H3 q b (f + m) r pl ∧ ∃ z2 st, σ = [some (.ref t), some (.int x), some (.int d), some (.str y.str), some (.int m), some (.ref q), some (.int s), some (.int (x / S)), some (.int (x % S)), none, z2, some (.int st)] ∧ (st = 0 ∨ st = 1) ∧ (x / S + st) * s = rg y b (b ^ (f + m)) x d, ?_, ?_⟩
    · have hq2 := hq.ex e2
      have e12 := e1.trans e2
      cases y with
      | near =>
        refine ⟨_, rfl, rfl, _, rfl, ?_⟩
        refine ite2 (fun _ => ?_) (fun h => absurd (by decide +kernel) h)
        refine ⟨_, rfl, _, _, rfl, rfl, wm (by decide +kernel) (p5000 qm), _, rfl, _, rfl, _, _, rfl, rfl, wm (p5000 dsz) (p5000 hsz'), _, _, rfl, rfl, ?_⟩
        dsimp only
        rw [hSS]
        refine ⟨_, rfl, _, _, rfl, rfl, _, rfl, ?_⟩
        refine ite2 (fun h => ?_) (fun h => ?_)
        · have h := of_decide_eq_true h
          exact .inr ⟨_, rfl, e12, hq2, _, 1, rfl, .inr rfl, ers true 1 (by simp [wup]; omega) rfl⟩
        · have h : ¬ (0 < 2 * (x % S) - S) := fun z => h (decide_eq_true z)
          refine ⟨_, rfl, rfl, _, rfl, ?_⟩
          refine ite2 (fun h2 => ?_) (fun h2 => ?_)
          · have h2 : 2 * (x % S) - S = 0 := by simpa using h2
            refine ⟨_, rfl, .inl ⟨_, rfl, _, _, rfl, rfl, (by show (0 : Int) < 2; decide), rfl, ?_⟩⟩
            refine .inr ⟨_, rfl, e12, hq2, _, if decide (V.int (x / S % 2) = V.int 1) = true then 1 else 0, rfl, ?_, ers (decide (V.int (x / S % 2) = V.int 1)) _ ?_ rfl⟩
            · split
              · exact .inr rfl
              · exact .inl rfl
            · simp [wup]
              omega
          · have h2 : ¬ 2 * (x % S) - S = 0 := by simpa using h2
            exact .inr ⟨_, rfl, e12, hq2, _, 0, rfl, .inl rfl, ers false 0 (by simp [wup]; omega) rfl⟩
      | zero =>
        refine ⟨_, rfl, rfl, _, rfl, ?_⟩
        refine ite2 (fun h => absurd h (by decide +kernel)) (fun _ => ?_)
        refine ⟨_, rfl, _, _, rfl, rfl, _, rfl, ?_⟩
        refine ite2 (fun h => ?_) (fun h => ?_)
        · have h := of_decide_eq_true h
          refine ⟨_, rfl, rfl, _, rfl, ?_⟩
          refine ite2 (fun h => absurd h (by decide +kernel)) (fun _ => ?_)
          refine ⟨_, rfl, rfl, _, rfl, ?_⟩
          refine ite2 (fun _ => ?_) (fun h => absurd (by decide +kernel) h)
          refine ⟨_, rfl, _, _, rfl, rfl, ?_⟩
          have hneg : x / S < 0 ↔ x < 0 := by
            constructor
            · intro z
              by_cases w : x < 0
              · exact w
              · exact absurd (Int.ediv_nonneg (show 0 ≤ x by omega) (show 0 ≤ S by omega)) (by omega)
            · intro z
              exact Int.ediv_neg_of_neg_of_pos z hS
          refine .inr ⟨_, rfl, e12, hq2, _, if decide (x < 0) = true then 1 else 0, rfl, ?_, ers (decide (x < 0)) _ ?_ rfl⟩
          · split
            · exact .inr rfl
            · exact .inl rfl
          · simp [wup]
            rw [hneg]
            omega
        · have h : ¬ 0 < x % S := fun z => h (decide_eq_true z)
          exact .inr ⟨_, rfl, e12, hq2, _, 0, rfl, .inl rfl, ers false 0 (by simp [wup]; omega) rfl⟩
      | up =>
        refine ⟨_, rfl, rfl, _, rfl, ?_⟩
        refine ite2 (fun h => absurd h (by decide +kernel)) (fun _ => ?_)
        refine ⟨_, rfl, _, _, rfl, rfl, _, rfl, ?_⟩
        refine ite2 (fun h => ?_) (fun h => ?_)
        · have h := of_decide_eq_true h
          refine ⟨_, rfl, rfl, _, rfl, ?_⟩
          refine ite2 (fun _ => ?_) (fun h => absurd (by decide +kernel) h)
          exact .inr ⟨_, rfl, e12, hq2, _, 1, rfl, .inr rfl, ers true 1 (by simp [wup]; omega) rfl⟩
        · have h : ¬ 0 < x % S := fun z => h (decide_eq_true z)
          exact .inr ⟨_, rfl, e12, hq2, _, 0, rfl, .inl rfl, ers false 0 (by simp [wup]; omega) rfl⟩
      | down =>
        refine ⟨_, rfl, rfl, _, rfl, ?_⟩
        refine ite2 (fun h => absurd h (by decide +kernel)) (fun _ => ?_)
        refine ⟨_, rfl, _, _, rfl, rfl, _, rfl, ?_⟩
        refine ite2 (fun h => ?_) (fun h => ?_)
        · refine ⟨_, rfl, rfl, _, rfl, ?_⟩
          refine ite2 (fun h => absurd h (by decide +kernel)) (fun _ => ?_)
          refine ⟨_, rfl, rfl, _, rfl, ?_⟩
          refine ite2 (fun h => absurd h (by decide +kernel)) (fun _ => ?_)
          exact .inr ⟨_, rfl, e12, hq2, _, 0, rfl, .inl rfl, ers false 0 (by simp [wup]) rfl⟩
        · exact .inr ⟨_, rfl, e12, hq2, _, 0, rfl, .inl rfl, ers false 0 (by simp [wup]) rfl⟩
    · rintro σ H3 ⟨e3, hq3, z2, st, rfl, hst, hv2⟩
      have hsz2 : (x / S + st).natAbs < 2 ^ 4001 := by
        rcases hst with rfl | rfl
        · rw [Int.add_zero]; exact q1
        · exact q2
      refine ⟨_, rfl, _, rfl, _, _, rfl, rfl, _, rfl, _, _, rfl, rfl, wm (p5000 hsz2) (p5000 hsz'), ?_⟩
      dsimp only
      rw [hv2]
      refine ⟨_, rfl, _, rfl, _, rfl, q, b, f + m, r, pl, rfl, hq3, hv, fun H4 e4 => ⟨_, _, rfl, rfl, _, rfl, ?_⟩⟩
      rw [absI]
      have kq := k H4 (e3.trans e4)
      unfold rgO at kq
      refine ite2 (fun h => ?_) (fun h => ?_)
      · have h := Int.ofNat_le.mp (of_decide_eq_true h)
        rw [if_pos h] at kq
        exact ⟨_, rfl, kq⟩
      · have h : ¬ (rg y b (b ^ (f + m)) x d).natAbs ≤ (b ^ (f + m) - 1) * b ^ r := fun z => h (decide_eq_true (Int.ofNat_le.mpr z))
        rw [if_neg h] at kq
        exact kq
end
end My


set_option Elab.async false
set_option maxRecDepth 100000
set_option maxHeartbeats 1000000
set_option exponentiation.threshold 6000
namespace My
open PySem L2 Evl
theorem rg_rz {b L : Nat} (hb : 2 ≤ b) (t : Int) : rg .zero b L t 1 = rz b L t := by
  have hs := spcI_pos (L := L) hb t.natAbs
  have one : (((1 : Nat) : Int)) * (spc b L t.natAbs : Int) = (spc b L t.natAbs : Int) := by simp
  unfold rg rz sps
  rw [Nat.div_one, one]
  generalize (spc b L t.natAbs : Int) = s at *
  obtain ⟨h1, h2, h3⟩ := div_facts t s hs
  have hneg : t / s < 0 ↔ t < 0 := by
    constructor
    · intro z
      by_cases w : t < 0
      · exact w
      · exact absurd (Int.ediv_nonneg (show 0 ≤ t by omega) (show 0 ≤ s by omega)) (by omega)
    · intro z
      exact Int.ediv_neg_of_neg_of_pos z hs
  have e : ((t % s != 0) = true ∧ wup .zero (t / s) (t % s) s = true) ↔ (0 < t % s ∧ t < 0) := by
    simp [wup]
    rw [hneg]
    omega
  by_cases hc : 0 < t % s ∧ t < 0
  · rw [if_pos hc, if_pos (e.mpr hc)]
  · rw [if_neg hc, if_neg (fun z => hc (e.mp z))]
theorem rzO_rgO {b f r : Nat} (hb : 2 ≤ b) (t : Int) : rgO .zero b f r 0 t 1 = rzO b (b ^ f) ((b ^ f - 1) * b ^ r) t := by
  unfold rgO rzO
  rw [Nat.add_zero, rg_rz hb]
def okg (b f r : Nat) : Prop := 2 ≤ b ∧ b ≤ 10 ∧ 1 ≤ f ∧ f ≤ 30 ∧ r ≤ 60
def gG (b f r : Nat) : Nat := (b ^ f - 1) * b ^ r
theorem okg.gr {b f r : Nat} (h : okg b f r) : Gr b f r (b ^ f) (gG b f r) := ⟨h.1, h.2.2.1, rfl, rfl⟩
theorem okg.bG {b f r : Nat} (h : okg b f r) : gG b f r < 2 ^ 400 := by
  have h1 := h.gr.Gl
  rw [← Nat.pow_add] at h1
  exact Nat.lt_trans h1 (pw400 h.2.1 (by have := h.2.2.2.1; have := h.2.2.2.2; omega))
theorem okg.v {b f r : Nat} (h : okg b f r) : 2 ≤ b ∧ b ≤ 10 ∧ f ≤ 33 ∧ r ≤ 60 := ⟨h.1, h.2.1, by have := h.2.2.2.1; omega, h.2.2.2.2⟩
theorem TG.kp {K : PySem.W.Frag} {H H' : Hp} {t p : Addr} {b f r pl : Nat} (h : H t = some (.tup [.int b, .int f, .int r, .int pl])) (e : Kp p H H') (hn : t ≠ p) : TG K H' t b f r pl := SqT.of (e _ _ h hn)
theorem rz_onG2 {b f r L G : Nat} (g : Gr b f r L G) {t : Int} (h : (rz b L t).natAbs ≤ G) : OnG b L G (rz b L t) := by
  obtain ⟨q, e, h1⟩ := rz_cases (L := L) g.hb t
  have hu : t.natAbs < L * spc b L t.natAbs := spx_up g.hb (by have := g.L1; omega)
  exact onG_mul (k := spx b L t.natAbs) (q := q) g h (by show _ ≤ L * spc b L t.natAbs; omega) e
def sp_a_number (K : PySem.W.Frag) : Sp := fun vs H Q _ => ∃ (p t : Addr) (n b f r pl : Nat), vs = [.ref p, .ref t] ∧ PotAt H p n ∧ n + 10 ≤ 100000 ∧ H t = some (.tup [.int b, .int f, .int r, .int pl]) ∧ t ≠ p ∧ okg b f r ∧
  ∀ z H', Kp p H H' → PotAt H' p (n + 4) → OnG b (b ^ f) (gG b f r) z → Q (.int z) H'
def sp_cells (K : PySem.W.Frag) : Sp := fun vs H Q _ => ∃ (s : Addr) (ns : List Int) (m : Nat), vs = [.ref s, .int m] ∧ SqL K H s (ns.map V.int) ∧ 1 ≤ m ∧ m ≤ 5 ∧ ∀ (l : Addr) (k : Nat) H', Ex H H' → k ≤ m → H' l = some (.lst ((List.range k).map fun (i : Nat) => V.int (i : Int))) → Q (.ref l) H'
theorem ne_tup {H : Hp} {t p : Addr} {xs : List V} {n : Nat} (h : H t = some (.tup xs)) (hp : PotAt H p n) : t ≠ p := fun e => by
  obtain ⟨x, y, c, h1, _⟩ := hp
  rw [e, h1] at h
  cases h
section
variable {P : Program} {w : World} {K : PySem.W.Frag} {mg : Str → Option Value} {base : Heap} {a : Ad}
theorem ok_l_grid_a_number (T : Txt K mg a) : FnOk P w K mg base CX0 4 a.l_grid_a_number a.l_grid_a_number_fd ["pot", "grid"] (sp_a_number K) := by
  refine T.F_l_grid_a_number.ok sc_l_grid_a_number (fun vs H Q E h => ?_) (fun cdv A outer s H vs Q E hr h => ?_)
  · obtain ⟨p, t, n, b, f, r, pl, rfl, _⟩ := h
    rfl
  · obtain ⟨p, t, n, b, f, r, pl, rfl, hp, hn, ht, hne, hok, k⟩ := h
    refine ⟨_, (pss_cons (ps_par (i := 2) (j := 3) (by rfl) sc_l_grid_a_number.nd rfl rfl (by decide) rfl rfl (pa_cons (pe_call (ok_l_take T) (hr.mono (by decide)) rfl T.g_l_take T.k_l_take T.B_l_take .nil pass0 (pa_cons (pv 0) (pa_cons pe_int pa_nil))) (pa_cons (pe_call (ok_l_grid_greatest T) (hr.mono (by decide)) rfl T.g_l_grid_greatest T.k_l_grid_greatest T.B_l_grid_greatest .nil pass0 (pa_cons (pv 1) pa_nil)) pa_nil)) (by rfl))
      (pss_cut (ps_if (pt_cmpR op_eq (pv 2) pe_int (nomark _)) (pss_one (ps_set (i := 4) sc_l_grid_a_number.nd rfl (Or.inl rfl) (pe_callB (call_min2 rfl) (by rfl) T.n_min (by decide +kernel) (pa_cons (pv 3) (pa_cons (pe_call (ok_l_take T) (hr.mono (by decide)) rfl T.g_l_take T.k_l_take T.B_l_take .nil pass0 (pa_cons (pv 0) (pa_cons pe_int pa_nil))) pa_nil))))) (pss_one (ps_if (pt_cmpR op_lt (pv 2) pe_int (nomark _)) (pss_cons (ps_set (i := 5) sc_l_grid_a_number.nd rfl (Or.inl rfl) (pe_call (ok_l_grid_power T) (hr.mono (by decide)) rfl T.g_l_grid_power T.k_l_grid_power T.B_l_grid_power .nil pass0 (pa_cons (pe_ix ix_tup (pv 1) pe_int (fun _ _ => rfl)) (pa_cons (pe_op op_add (pe_ix ix_tup (pv 1) pe_int (fun _ _ => rfl)) (pe_call (ok_l_take T) (hr.mono (by decide)) rfl T.g_l_take T.k_l_take T.B_l_take .nil pass0 (pa_cons (pv 0) (pa_cons (pe_op op_add (pe_ix ix_tup (pv 1) pe_int (fun _ _ => rfl)) pe_int) pa_nil)))) pa_nil))))
      (pss_cons (ps_set (i := 4) sc_l_grid_a_number.nd rfl (Or.inl rfl) (pe_call (ok_l_grid_rounded T) (hr.mono (by decide)) rfl T.g_l_grid_rounded T.k_l_grid_rounded T.B_l_grid_rounded .nil pass0 (pa_cons (pv 1) (pa_cons (pe_op op_add (pv 5) (pe_call (ok_l_of T) (hr.mono (by decide)) rfl T.g_l_of T.k_l_of T.B_l_of .nil pass0 (pa_cons (pv 0) (pa_cons (pe_lst (pa_cons pe_int (pa_cons (pe_un un_neg pe_int) (pa_cons pe_int pa_nil)))) pa_nil)))) (pa_cons pe_int (pa_cons pe_str (pa_cons pe_int pa_nil)))))))
      (pss_one (ps_set (i := 4) sc_l_grid_a_number.nd rfl (Or.inl rfl) (pe_ifExp (pt_cmpR op_isN (pv 4) pe_non (nomark _)) (pv 3) (pv 4)))))) (pss_one (ps_if (pt_cmpR op_eq (pv 2) pe_int (nomark _)) (pss_cons (ps_set (i := 6) sc_l_grid_a_number.nd rfl (Or.inl rfl) (pe_op op_mulW (pe_call (ok_l_take T) (hr.mono (by decide)) rfl T.g_l_take T.k_l_take T.B_l_take .nil pass0 (pa_cons (pv 0) (pa_cons pe_int pa_nil))) (pe_call (ok_l_grid_power T) (hr.mono (by decide)) rfl T.g_l_grid_power T.k_l_grid_power T.B_l_grid_power .nil pass0 (pa_cons (pe_ix ix_tup (pv 1) pe_int (fun _ _ => rfl)) (pa_cons (pe_ix ix_tup (pv 1) pe_int (fun _ _ => rfl)) pa_nil)))))
      (pss_one (ps_set (i := 4) sc_l_grid_a_number.nd rfl (Or.inl rfl) (pe_call (ok_l_grid_rounded T) (hr.mono (by decide)) rfl T.g_l_grid_rounded T.k_l_grid_rounded T.B_l_grid_rounded .nil pass0 (pa_cons (pv 1) (pa_cons (pe_callB (call_max2 rfl) (by rfl) T.n_max (by decide +kernel) (pa_cons pe_int (pa_cons (pe_op op_sub (pv 3) (pv 6)) pa_nil))) (pa_cons pe_int (pa_cons pe_str (pa_cons pe_int pa_nil))))))))) (pss_one (ps_set (i := 4) sc_l_grid_a_number.nd rfl (Or.inl rfl) (pe_call (ok_l_grid_rounded T) (hr.mono (by decide)) rfl T.g_l_grid_rounded T.k_l_grid_rounded T.B_l_grid_rounded .nil pass0 (pa_cons (pv 1) (pa_cons (pe_call (ok_l_take T) (hr.mono (by decide)) rfl T.g_l_take T.k_l_take T.B_l_take .nil pass0 (pa_cons (pv 0) (pa_cons (pe_op op_add (pv 3) pe_int) pa_nil))) (pa_cons pe_int (pa_cons pe_str (pa_cons pe_int pa_nil)))))))))))))
      (pss_one (ps_ret (pe_ifExp (pt_cmpR op_eq (pe_call (ok_l_take T) (hr.mono (by decide)) rfl T.g_l_take T.k_l_take T.B_l_take .nil pass0 (pa_cons (pv 0) (pa_cons pe_int pa_nil))) pe_int (nomark _)) (pe_un un_neg (pv 4)) (pv 4)))))), ?_⟩
    obtain ⟨hb, ub, f1, uf, ur⟩ := id hok
    have hG := hok.bG
    have hG' : gG b f r = (b ^ f - 1) * b ^ r := rfl
    refine ⟨_, rfl, p, 6, n, rfl, hp, by omega, by decide, by decide +kernel, fun d H1 k1 p1 d0 d6 => ?_⟩
    refine ⟨_, rfl, t, b, f, r, pl, rfl, TG.kp ht k1 hne, hok.v, fun H2 e2 => ⟨_, _, rfl, ?_⟩⟩
    have k2 := k1.ex e2
    have p2 := p1.ex e2
    rw [← hG']
    have rzin : ∀ z : Int, z.natAbs ≤ gG b f r → rzO b (b ^ f) (gG b f r) z = .int (rz b (b ^ f) z) := fun z hz => if_pos (rz_le hok.gr.hb hz)
    have szG : ∀ z : Int, z.natAbs ≤ gG b f r → z.natAbs < 2 ^ 4000 := fun z hz => Nat.lt_of_le_of_lt hz (Nat.lt_trans hG (by decide +kernel))
    refine ⟨fun σ H3 => Kp p H H3 ∧ PotAt H3 p (n + 3) ∧ ∃ (z : Int) (z1 z2 : Option V), σ = [some (.ref p), some (.ref t), some (.int d), some (.int (gG b f r)), some (.int z), z1, z2] ∧ OnG b (b ^ f) (gG b f r) z, ?_, ?_⟩
    · refine ⟨_, rfl, rfl, _, rfl, ?_⟩
      refine ite2 (fun h => ?_) (fun h => ?_)
      · refine ⟨_, rfl, _, rfl, p, 3, n + 1, rfl, p2, by omega, by decide, by decide +kernel, fun d2 H3 k3 p3 e0 e3 => ?_⟩
        refine ⟨_, _, rfl, k2.trans k3, p3.mono (by omega), _, none, none, rfl, ?_⟩
        split
        · exact onG_two hok.gr e0 e3 (by omega)
        · exact onG_top hok.gr
      · refine ⟨_, rfl, _, _, rfl, rfl, _, rfl, ?_⟩
        refine ite2 (fun h => ?_) (fun h => ?_)
        · refine ⟨_, rfl, t, _, _, _, rfl, rfl, TG.kp ht k2 hne, g0, _, rfl, t, _, _, _, rfl, rfl, TG.kp ht k2 hne, g1, _, rfl, _, rfl, t, _, _, _, rfl, rfl, TG.kp ht k2 hne, g2, _, _, rfl, rfl, p, (r : Int) + 1, n + 1, rfl, p2, by omega, by omega, Nat.lt_of_le_of_lt (by omega : ((r : Int) + 1).natAbs ≤ 61) (by decide +kernel), fun d2 H3 k3 p3 e0 e3 => ?_⟩
          have k3' := k2.trans k3
          refine ⟨_, _, rfl, rfl, b, f + d2.toNat, ?_, ub, by omega, fun H4 e4 => ?_⟩
          · show [V.int b, V.int ((f : Int) + d2)] = [V.int b, V.int ((f + d2.toNat : Nat) : Int)]
            have : (f : Int) + d2 = ((f + d2.toNat : Nat) : Int) := by omega
            rw [this]
          have k4 := k3'.ex e4
          have p4 := p3.ex e4
          refine ⟨_, rfl, _, rfl, _, rfl, _, rfl, by decide, fun l hl => ?_⟩
          have k5 := k4.ex (Ex.new (o := .lst [V.int 0, V.int (-1), V.int 1]) hl)
          have p5 := p4.ex (Ex.new (o := .lst [V.int 0, V.int (-1), V.int 1]) hl)
          refine ⟨p, l, n + 2, [V.int 0, V.int (-1), V.int 1], rfl, p5, by omega, upd_same, p4.ne hl, by decide, by decide, fun i v H6 hv k6 p6 => ?_⟩
          obtain ⟨z, rfl, hz⟩ : ∃ z : Int, v = .int z ∧ -1 ≤ z ∧ z ≤ 1 := by
            match i, hv with
            | 0, hv => cases hv; exact ⟨0, rfl, by decide, by decide⟩
            | 1, hv => cases hv; exact ⟨-1, rfl, by decide, by decide⟩
            | 2, hv => cases hv; exact ⟨1, rfl, by decide, by decide⟩
          have k7 := k5.trans k6
          have hpw : b ^ (f + d2.toNat) < 2 ^ 400 := pw400 ub (by omega)
          have hsz : (((b ^ (f + d2.toNat) : Nat) : Int) + z).natAbs < 2 ^ 4000 := by
            have h10 : 2 ^ 400 + 2 < 2 ^ 4000 := by decide +kernel
            omega
          refine ⟨_, _, rfl, rfl, t, b, f, r, pl, _, 1, 0, .zero, rfl, TG.kp ht k7 hne, hok.v, by decide, by decide +kernel, hsz, fun H8 e8 => ?_⟩
          have k8 := k7.ex e8
          have p8 := p6.ex e8
          rw [rzO_rgO hb, ← hG']
          unfold rzO
          by_cases hle : (rz b (b ^ f) (((b ^ (f + d2.toNat) : Nat) : Int) + z)).natAbs ≤ gG b f r
          · rw [if_pos hle]
            refine ⟨_, rfl, rfl, _, rfl, ?_⟩
            refine ite2 (fun h => absurd h (by simp)) (fun _ => ?_)
            exact ⟨_, rfl, k8, p8.mono (by omega), _, _, none, rfl, rz_onG2 hok.gr hle⟩
          · rw [if_neg hle]
            refine ⟨_, rfl, rfl, _, rfl, ?_⟩
            refine ite2 (fun _ => ?_) (fun h => absurd (by simp) h)
            exact ⟨_, rfl, k8, p8.mono (by omega), _, _, none, rfl, onG_top hok.gr⟩
        · refine ⟨_, rfl, rfl, _, rfl, ?_⟩
          refine ite2 (fun h => ?_) (fun h => ?_)
          · refine ⟨_, rfl, p, 3, n + 1, rfl, p2, by omega, by decide, by decide +kernel, fun d2 H3 k3 p3 e0 e3 => ?_⟩
            have k3' := k2.trans k3
            refine ⟨_, rfl, t, _, _, _, rfl, rfl, TG.kp ht k3' hne, g0, _, rfl, t, _, _, _, rfl, rfl, TG.kp ht k3' hne, g2, b, r, rfl, ub, by omega, fun H4 e4 => ?_⟩
            have hpw : b ^ r < 2 ^ 400 := pw400 ub (by omega)
            refine ⟨_, _, rfl, rfl, wm (p5000 (k := 64) (by omega)) (p5000 hpw), ?_⟩
            have k4 := k3'.ex e4
            have p4 := p3.ex e4
            refine ⟨_, rfl, _, rfl, _, rfl, _, _, rfl, rfl, _, _, rfl, ?_⟩
            have hz : (if (gG b f r : Int) - d2 * ((b ^ r : Nat) : Int) > 0 then (gG b f r : Int) - d2 * ((b ^ r : Nat) : Int) else 0).natAbs ≤ gG b f r := by
              have : 0 ≤ d2 * ((b ^ r : Nat) : Int) := Int.mul_nonneg e0 (by omega)
              split <;> omega
            refine ⟨t, b, f, r, pl, _, 1, 0, .zero, rfl, TG.kp ht k4 hne, hok.v, by decide, by decide +kernel, szG _ hz, fun H5 e5 => ?_⟩
            rw [rzO_rgO hb, ← hG', rzin _ hz]
            exact ⟨k4.ex e5, (p4.ex e5).mono (by omega), _, none, _, rfl, rz_onG hok.gr hz⟩
          · refine ⟨_, rfl, _, rfl, _, rfl, _, _, rfl, rfl, p, _, n + 1, rfl, p2, by omega, by omega, Nat.lt_of_le_of_lt (by omega : ((gG b f r : Int) + 1).natAbs ≤ gG b f r + 1) (Nat.lt_of_lt_of_le (Nat.succ_lt_succ hG) (by decide +kernel)), fun d2 H3 k3 p3 e0 e3 => ?_⟩
            have k3' := k2.trans k3
            have hz : d2.natAbs ≤ gG b f r := by omega
            refine ⟨t, b, f, r, pl, d2, 1, 0, .zero, rfl, TG.kp ht k3' hne, hok.v, by decide, by decide +kernel, szG _ hz, fun H5 e5 => ?_⟩
            rw [rzO_rgO hb, ← hG', rzin _ hz]
            exact ⟨k3'.ex e5, (p3.ex e5).mono (by omega), _, none, none, rfl, rz_onG hok.gr hz⟩
    · rintro σ H3 ⟨k3, p3, z, z1, z2, rfl, hz⟩
      refine ⟨_, rfl, p, 3, n + 3, rfl, p3, by omega, by decide, by decide +kernel, fun d2 H4 k4 p4 e0 e3 => ⟨rfl, _, rfl, ?_⟩⟩
      refine ite2 (fun _ => ?_) (fun _ => ?_)
      · exact ⟨_, rfl, _, rfl, k _ H4 (k3.trans k4) p4 hz.neg⟩
      · exact ⟨_, rfl, k _ H4 (k3.trans k4) p4 hz⟩
theorem ok_l_cells (T : Txt K mg a) : FnOk P w K mg base CX0 1 a.l_cells a.l_cells_fd ["script", "most"] (sp_cells K) := by
  refine T.F_l_cells.ok sc_l_cells (fun vs H Q E h => ?_) (fun cdv A outer s H vs Q E hr h => ?_)
  · obtain ⟨q, ns, m, rfl, _⟩ := h
    rfl
  · obtain ⟨q, ns, m, rfl, hs, h1, h5, k⟩ := h
    refine ⟨_, (pss_one (ps_ret (pe_listRg rfl rfl T.n_list (prg_1 rfl T.n_range (pe_callB (call_max2 rfl) (by rfl) T.n_max (by decide +kernel) (pa_cons pe_int (pa_cons (pe_callB (call_min2 rfl) (by rfl) T.n_min (by decide +kernel) (pa_cons (pv 1) (pa_cons (pe_callB call_len_seq (by rfl) T.n_len (by decide +kernel) (pa_cons (pv 0) pa_nil)) pa_nil))) pa_nil))))))), ?_⟩
    refine ⟨_, rfl, _, rfl, q, _, rfl, .inl hs, _, _, rfl, _, _, rfl, _, rfl, ⟨by decide, by decide, ?_, ?_, ?_⟩, fun l hl => ?_⟩
    · split <;> split <;> omega
    · split <;> split <;> omega
    · split <;> split <;> omega
    · obtain ⟨j, hj, hjm⟩ : ∃ j : Nat, (if (if ((ns.map V.int).length : Int) < (m : Int) then ((ns.map V.int).length : Int) else (m : Int)) > 1 then (if ((ns.map V.int).length : Int) < (m : Int) then ((ns.map V.int).length : Int) else (m : Int)) else 1) = (j : Int) ∧ j ≤ m := by
        refine ⟨(if (if ((ns.map V.int).length : Int) < (m : Int) then ((ns.map V.int).length : Int) else (m : Int)) > 1 then (if ((ns.map V.int).length : Int) < (m : Int) then ((ns.map V.int).length : Int) else (m : Int)) else 1).toNat, ?_, ?_⟩ <;> split <;> split <;> omega
      rw [hj]
      refine k l j _ (Ex.new hl) hjm ?_
      rw [upd_same]
      unfold rgV
      have : ((j : Int) - 0).toNat = j := by omega
      rw [this]
      congr 2
      exact List.map_congr_left fun i _ => by rw [Int.zero_add]
end
end My


set_option Elab.async false
set_option maxRecDepth 100000
set_option maxHeartbeats 1000000
set_option exponentiation.threshold 6000
namespace My
open PySem L2 Evl
def Lst (xs : List Int) : Prop := ∃ ys m, xs = ys ++ [m] ∧ (1 : Int) ≤ m
theorem lst_app (xs : List Int) {ys : List Int} (h : ∀ y ∈ ys, (1 : Int) ≤ y) (h0 : ys ≠ []) : Lst (xs ++ ys) :=
  ⟨xs ++ ys.dropLast, ys.getLast h0, by rw [List.append_assoc, List.dropLast_concat_getLast], h _ (List.getLast_mem h0)⟩
def sp_ladder (K : PySem.W.Frag) : Sp := fun vs H Q _ => ∃ (t : Addr) (b f r pl : Nat), vs = [.ref t] ∧ TG K H t b f r pl ∧ okg b f r ∧ b ^ f ≤ 1000 ∧
  ∀ (l : Addr) H', H l = none → Ex H H' → H' l = some (.lst (iv (lad b (b ^ f) r))) → Q (.ref l) H'
theorem lad_len (b L : Nat) : ∀ k : Nat, (lad b L k).length ≤ L * (k + 1)
  | 0 => by
    unfold lad
    rw [List.length_map, List.length_range]
    omega
  | k + 1 => by
    unfold lad
    rw [List.length_append, List.length_map, List.length_range]
    have := lad_len b L k
    have e : L * (k + 1 + 1) = L * (k + 1) + L := Nat.mul_succ _ _
    rw [e]
    have h2 : L - L / b ≤ L := Nat.sub_le _ _
    exact Nat.add_le_add this h2
theorem lo_facts {M b : Nat} (hb : 2 ≤ b) : 0 ≤ ((M : Nat) : Int) / (b : Int) ∧ ((M : Nat) : Int) / (b : Int) ≤ (M : Int) := by
  refine ⟨Int.ediv_nonneg (by omega) (by omega), ?_⟩
  exact Int.ediv_le_self _ (by omega)
theorem b_sz (c : Bool) : (if c = true then (1 : Int) else 0).natAbs < 2 ^ 5000 := by cases c <;> decide +kernel
theorem own_sz (z : Int) (c : Bool) : 0 ≤ z % (((10 : Int) ^ (60 : Int).toNat) ^ (5 : Int).toNat) * (if c = true then 1 else 0) ∧ (z % (((10 : Int) ^ (60 : Int).toNat) ^ (5 : Int).toNat) * (if c = true then 1 else 0)).natAbs < 2 ^ 1000 := by
  rw [t300]
  have h0 : (0 : Int) < 10 ^ 300 := by decide +kernel
  have h1 := Int.emod_nonneg z (show (10 : Int) ^ 300 ≠ 0 by omega)
  have h2 := Int.emod_lt_of_pos z h0
  have h3 : (10 : Int) ^ 300 < 2 ^ 1000 := by decide +kernel
  cases c
  · rw [if_neg (by decide), Int.mul_zero]
    exact ⟨by omega, by decide +kernel⟩
  · rw [if_pos rfl, Int.mul_one]
    exact ⟨h1, by omega⟩
section
variable {P : Program} {w : World} {K : PySem.W.Frag} {mg : Str → Option Value} {base : Heap} {a : Ad}
theorem ok_l_pot (T : Txt K mg a) : FnOk P w K mg base CX0 1 a.l_pot a.l_pot_fd ["script", "place"] (sp_pot K) := by
  refine T.F_l_pot.ok sc_l_pot (fun vs H Q E h => ?_) (fun cdv A outer s H vs Q E hr h => ?_)
  · obtain ⟨s, ns, place, rfl, _⟩ := h
    rfl
  · obtain ⟨q, ns, place, rfl, hs, hp, k⟩ := h
    refine ⟨_, (pss_cut (ps_set (i := 2) sc_l_pot.nd rfl (Or.inl rfl) (pe_ifExp (pt_cmpR op_lt (pv 1) (pe_callB call_len_seq (by rfl) T.n_len (by decide +kernel) (pa_cons (pv 0) pa_nil)) (nomark _)) (pe_ix ix_list (pv 0) (pv 1) (fun _ _ => rfl)) (pe_op op_add (pe_op op_add (pe_op op_mod (pe_callB (cr_sum rfl) (by rfl) T.n_sum (by decide +kernel) (pa_cons (pe_slice sl_list (pv 0) po_none (po_some pe_int)) pa_nil)) pe_int) (pe_op op_mulW pe_int (pv 1))) pe_int)))
      (pss_cons (ps_set (i := 3) sc_l_pot.nd rfl (Or.inl rfl) (pe_op op_mulW (pe_op op_mod (pe_callTy call_int1 (by rfl) T.n_int (by decide +kernel) (pa_cons (pe_callB call_abs (by rfl) T.n_abs (by decide +kernel) (pa_cons (pv 2) pa_nil)) pa_nil)) (pe_op op_powK (pe_op op_pow pe_int pe_int) pe_int)) (pe_callTy call_int1 (by rfl) T.n_int (by decide +kernel) (pa_cons (pe_cmpR op_ge (pe_callB call_abs (by rfl) T.n_abs (by decide +kernel) (pa_cons (pv 2) pa_nil)) (pe_op op_pow pe_int pe_int) (nomark _)) pa_nil))))
      (pss_cons (ps_set (i := 4) sc_l_pot.nd rfl (Or.inl rfl) (pe_op op_mod (pe_callTy call_int1 (by rfl) T.n_int (by decide +kernel) (pa_cons (pv 2) pa_nil)) pe_int))
      (pss_one (ps_ret (pe_lst (pa_cons (pv 3) (pa_cons (pe_op op_mod (pe_callTy call_int1 (by rfl) T.n_int (by decide +kernel) (pa_cons (pe_op op_add (pe_op op_add (pe_op op_mulW (pv 4) pe_int) (pe_op op_mulW (pe_op op_mulW pe_int (pv 1)) (pv 1))) pe_int) pa_nil)) pe_int) (pa_cons pe_int pa_nil))))))))), ?_⟩
    refine ⟨fun σ H2 => Ex H H2 ∧ ∃ z : Int, σ = [some (.ref q), some (.int place), some (.int z), none, none], ?_, ?_⟩
    · refine ⟨_, rfl, _, rfl, q, _, rfl, .inl hs, _, _, rfl, rfl, _, rfl, ?_⟩
      refine ite2 (fun h => ?_) (fun h => ?_)
      · have h : place < ns.length := by
          have := Int.ofNat_lt.mp (of_decide_eq_true h)
          rwa [List.length_map] at this
        exact ⟨_, rfl, _, rfl, q, _, _, _, rfl, rfl, hs, atN (by rw [List.getElem?_map, List.getElem?_eq_getElem h]; rfl), Ex.refl H, _, rfl⟩
      · refine ⟨_, rfl, _, rfl, q, _, rfl, hs, fun p hpn => ?_⟩
        obtain ⟨ms, hms⟩ : ∃ ms : List Int, cutV (ns.map V.int) none (some 1) = ms.map V.int := by
          unfold cutV
          rw [← List.map_drop, ← List.map_take]
          exact ⟨_, rfl⟩
        rw [hms]
        refine ⟨p, ms, rfl, SqL.of upd_same, _, _, rfl, rfl, (by show (0 : Int) < 1000003; decide), _, rfl, _, _, rfl, rfl, wm (by decide +kernel) (p5000 (k := 64) (by omega)), _, _, rfl, rfl, _, _, rfl, rfl, Ex.new hpn, _, rfl⟩
    · rintro σ H2 ⟨e2, z, rfl⟩
      refine ⟨_, rfl, _, rfl, .inl ⟨_, rfl, _, _, rfl, rfl, ⟨by decide, by decide, by decide⟩, _, _, rfl, rfl, ⟨by decide, by rw [t10]; decide +kernel⟩, _, _, rfl, rfl, (by show (0 : Int) < ((10 : Int) ^ (60 : Int).toNat) ^ (5 : Int).toNat; rw [t300]; decide +kernel), _, rfl, _, rfl, _, _, rfl, rfl, ⟨by decide, by decide, by decide⟩, _, _, rfl, rfl, .inr ⟨_, rfl, _, _, rfl, rfl, ?_, ?_⟩⟩⟩
      · have := own_sz ((if z < 0 then -z else z)) true
        rw [if_pos rfl, Int.mul_one] at this
        exact wm (p5000 this.2) (b_sz _)
      obtain ⟨o1, o2⟩ := own_sz (if z < 0 then -z else z) (decide ((10 : Int) ^ (18 : Int).toNat ≤ if z < 0 then -z else z))
      refine ⟨_, rfl, .inl ⟨_, rfl, _, _, rfl, rfl, (by show (0 : Int) < 2305843009213693951; decide), ?_⟩⟩
      have s1 := Int.emod_nonneg z (show (2305843009213693951 : Int) ≠ 0 by decide)
      have s2 := Int.emod_lt_of_pos z (show (0 : Int) < 2305843009213693951 by decide)
      refine ⟨_, rfl, _, rfl, _, _, rfl, rfl, wm (p5000 (k := 64) (by omega)) (by decide +kernel), _, rfl, _, _, rfl, rfl, wm (by decide +kernel) (p5000 (k := 64) (by omega)), _, rfl, _, _, rfl, rfl, wm (p5000 (k := 64) (by omega)) (p5000 (k := 64) (by omega)), _, _, rfl, rfl, _, _, rfl, rfl, .inl ⟨_, rfl, _, _, rfl, rfl, (by show (0 : Int) < 2305843009213693921; decide), by show 3 ≤ sizeLine; decide, fun p hpn => ?_⟩⟩
      refine k p _ (e2.trans (Ex.new hpn)) (fresh_back e2 hpn) ⟨_, _, _, upd_same, o1, o2, Int.emod_nonneg _ (by decide), Int.lt_trans (Int.emod_lt_of_pos _ (by decide)) (by decide), by decide, by decide⟩
end
end My


set_option Elab.async false
set_option maxRecDepth 100000
set_option maxHeartbeats 2000000
set_option exponentiation.threshold 6000
namespace My
open PySem L2 Evl
def psRow (b L G : Nat) : List Int → Option (Int × List Int)
  | [] => some (0, [])
  | x :: xs => psum b L G x xs []
/-- what plain_sum tells -/
def Tells (H : Hp) (v : V) : Option (Int × List Int) → Prop
  | none => v = .non
  | some p => ∃ q1 q2, v = .ref q1 ∧ H q1 = some (.tup [.int p.1, .ref q2]) ∧ H q2 = some (.tup (iv p.2))
theorem Tells.ex {H H' : Hp} {v : V} {o : Option (Int × List Int)} (h : Tells H v o) (e : Ex H H') : Tells H' v o := by
  cases o with
  | none => exact h
  | some p =>
    obtain ⟨q1, q2, h1, h2, h3⟩ := h
    exact ⟨q1, q2, h1, e _ _ h2, e _ _ h3⟩
/-- what renewed_row tells -/
def Rens (H : Hp) (v : V) (b L G : Nat) (t : Int) : Prop := (t.natAbs ≤ G ∧ ∃ q, v = .ref q ∧ H q = some (.tup (iv (row b L t)))) ∨ (G < t.natAbs ∧ v = .non)
theorem Rens.ex {H H' : Hp} {v : V} {b L G : Nat} {t : Int} (h : Rens H v b L G t) (e : Ex H H') : Rens H' v b L G t := by
  rcases h with ⟨h1, q, h2, h3⟩ | h
  · exact .inl ⟨h1, q, h2, e _ _ h3⟩
  · exact .inr h
def sp_split (a : Ad) : Sp := fun vs H Q _ => ∃ (g : Addr) (b f r L G : Nat) (t : Int), vs = [.ref g, .int t] ∧ GridAt a H g b f r L G ∧ t.natAbs < 2 ^ 4000 ∧
  ((rn b L t).natAbs ≤ G → ∀ q H', Ex H H' → H' q = some (.tup [.int (rn b L t), .int (t - rn b L t)]) → Q (.ref q) H') ∧ (¬ (rn b L t).natAbs ≤ G → ∀ H', Ex H H' → Q .non H')
def sp_check_row (a : Ad) : Sp := fun vs H Q _ => ∃ (g : Addr) (b f r L G : Nat) (t : Addr) (xs : List Int), vs = [.ref g, .ref t] ∧ GridAt a H g b f r L G ∧ H t = some (.tup (iv xs)) ∧ xs.length ≤ 100 ∧ (∀ x ∈ xs, OnG b L G x) ∧ ∀ H', Ex H H' → Q .non H'
def sp_row_worth (a : Ad) : Sp := fun vs H Q _ => ∃ (g : Addr) (b f r L G : Nat) (t : Addr) (xs : List Int), vs = [.ref g, .ref t] ∧ GridAt a H g b f r L G ∧ H t = some (.tup (iv xs)) ∧ xs.length ≤ 100 ∧ (∀ x ∈ xs, OnG b L G x) ∧ ∀ H', Ex H H' → Q (.int xs.sum) H'
def sp_renewed_row (a : Ad) : Sp := fun vs H Q _ => ∃ (g : Addr) (b f r L G : Nat) (t : Addr) (xs : List Int), vs = [.ref g, .ref t] ∧ GridAt a H g b f r L G ∧ H t = some (.tup (iv xs)) ∧ xs.length ≤ 100 ∧ (∀ x ∈ xs, OnG b L G x) ∧ ∀ v H', Ex H H' → Rens H' v b L G xs.sum → Q v H'
def sp_plain_sum (a : Ad) : Sp := fun vs H Q _ => ∃ (g : Addr) (b f r L G : Nat) (t : Addr) (xs : List Int), vs = [.ref g, .ref t] ∧ GridAt a H g b f r L G ∧ H t = some (.tup (iv xs)) ∧ xs.length ≤ 100 ∧ (∀ x ∈ xs, OnG b L G x) ∧ ∀ v H', Ex H H' → Tells H' v (psRow b L G xs) → Q v H'
theorem iv_len (xs : List Int) : (iv xs).length = xs.length := by unfold iv; rw [List.length_map]
theorem iv_get {xs : List Int} {i : Nat} {v : V} (h : (iv xs)[i]? = some v) : ∃ z, xs[i]? = some z ∧ v = .int z := by
  unfold iv at h
  rw [List.getElem?_map] at h
  cases e : xs[i]? with
  | none => rw [e] at h; cases h
  | some n => rw [e] at h; exact ⟨n, rfl, (Option.some.inj h).symm⟩
theorem iv_app (xs ys : List Int) : iv (xs ++ ys) = iv xs ++ iv ys := by unfold iv; rw [List.map_append]
theorem cut1 (xs : List V) : cutV xs (some 1) none = xs.drop 1 := by
  unfold cutV
  have h1 : HT.sIx xs.length 0 (some ((1 : Nat) : Int)) = min 1 xs.length := HT.sIx_nat _ _ _
  have h2 : HT.sIx xs.length 0 (some (1 : Int)) = min 1 xs.length := h1
  have h3 : HT.sIx xs.length xs.length none = xs.length := HT.sIx_none _ _
  rw [h2, h3]
  cases xs with
  | nil => rfl
  | cons x xs =>
    have : min 1 (x :: xs).length = 1 := by rw [List.length_cons]; omega
    rw [this, List.length_cons]
    show (xs).take (xs.length + 1 - 1) = xs
    rw [Nat.add_sub_cancel, List.take_length]
theorem whole1 (xs : List V) : (HT.sIx xs.length 0 (some 1) = 0 ∧ HT.sIx xs.length xs.length none = xs.length) → xs = [] := by
  rintro ⟨h, _⟩
  have h1 : HT.sIx xs.length 0 (some ((1 : Nat) : Int)) = min 1 xs.length := HT.sIx_nat _ _ _
  have h2 : HT.sIx xs.length 0 (some (1 : Int)) = min 1 xs.length := h1
  rw [h2] at h
  cases xs with
  | nil => rfl
  | cons x xs => rw [List.length_cons] at h; omega
theorem addsz {x y : Int} (hx : x.natAbs < 2 ^ 400) (hy : y.natAbs < 2 ^ 400) : (x + y).natAbs < 2 ^ 4000 := by
  have : 2 ^ 400 + 2 ^ 400 < 2 ^ 4000 := by decide +kernel
  omega
section
variable {P : Program} {w : World} {K : PySem.W.Frag} {mg : Str → Option Value} {base : Heap} {a : Ad}
end
end My


set_option Elab.async false
set_option maxRecDepth 100000
set_option maxHeartbeats 2000000
set_option exponentiation.threshold 6000
namespace My
open PySem L2 Evl
def sp_drawn : Sp := fun vs H Q _ => ∃ (p : Addr) (n : Nat), vs = [.ref p] ∧ PotAt H p n ∧ n + 10 ≤ 100000 ∧
  ∀ (t : Addr) (b f r pl : Nat) H', Kp p H H' → PotAt H' p (n + 4) → H' t = some (.tup [.int b, .int f, .int r, .int pl]) → okg b f r → pl ≤ 30 → b ^ f ≤ 1000 → r ≤ 3 → (b = 2 ∨ b = 3 ∨ b = 5 ∨ b = 10) → f ≤ 4 → Q (.ref t) H'
def sp_a_row : Sp := fun vs H Q _ => ∃ (p t : Addr) (n b f r pl : Nat) (fl : Bool), vs = [.ref p, .ref t, .bl fl] ∧ PotAt H p n ∧ n + 60 ≤ 100000 ∧ H t = some (.tup [.int b, .int f, .int r, .int pl]) ∧ okg b f r ∧
  ∀ (q : Addr) (xs : List Int) H', Kp p H H' → PotAt H' p (n + 40) → H' q = some (.tup (iv xs)) → xs.length ≤ 100 → (∀ x ∈ xs, OnG b (b ^ f) (gG b f r) x) → Q (.ref q) H'
def sp_gone (K : PySem.W.Frag) : Sp := fun vs H Q _ => ∃ (t rw : Addr) (b f r pl : Nat) (xs : List Int), vs = [.ref t, .ref rw] ∧ TG K H t b f r pl ∧ okg b f r ∧ H rw = some (.tup (iv xs)) ∧ xs.length ≤ 100 ∧ (∀ x ∈ xs, OnG b (b ^ f) (gG b f r) x) ∧
  ∀ v H', Ex H H' → Tells H' v (psRow b (b ^ f) (gG b f r) xs) → Q v H'
def sp_own (K : PySem.W.Frag) : Sp := fun vs H Q _ => ∃ (t : Addr) (b f r pl : Nat) (w : Int), vs = [.ref t, .int w] ∧ TG K H t b f r pl ∧ okg b f r ∧ w.natAbs ≤ gG b f r ∧ ∀ q H', Ex H H' → H' q = some (.tup (iv (row b (b ^ f) w))) → Q (.ref q) H'
theorem Kp.new {p D : Addr} {H H1 : Hp} {o : HO} (h : Kp p H H1) (hD : H D = none) : Kp p H (upd H1 D o) := fun c u hc hn => by
  rw [upd_ne (ne_of_none hc hD)]
  exact h c u hc hn
theorem PotAt.upd {H : Hp} {p q : Addr} {n : Nat} {o : HO} (h : PotAt H p n) (hn : q ≠ p) : PotAt (L2.upd H q o) p n := by
  obtain ⟨x, y, c, h1, h2⟩ := h
  exact ⟨x, y, c, by rw [upd_ne hn.symm]; exact h1, h2⟩
theorem dp_ints {K : PySem.W.Frag} {H : Hp} : ∀ xs : List Int, DpAll K H (iv xs) (xs.map PyData.int)
  | [] => .nil
  | x :: xs => .cons (.int x) (dp_ints xs)
theorem lay_ints : ∀ xs : List Int, PyData.canLayAll0 (xs.map PyData.int) = true
  | [] => rfl
  | x :: xs => by
    show (PyData.canLay0 (.int x) && PyData.canLayAll0 (xs.map PyData.int)) = true
    rw [lay_ints xs]; rfl
theorem dep_ints : ∀ xs : List Int, PyData.depthAll (xs.map PyData.int) = 0
  | [] => rfl
  | x :: xs => by
    show max (PyData.depth (.int x)) (PyData.depthAll (xs.map PyData.int)) = 0
    rw [dep_ints xs]; rfl
theorem sh_ints (xs : List Int) : SeqAt.shaped (.tuple (xs.map PyData.int)) = true := by
  unfold SeqAt.shaped
  have h1 : (PyData.tuple (xs.map PyData.int)).canLay0 = true := lay_ints xs
  have h2 : (PyData.tuple (xs.map PyData.int)).depth = 1 := by
    show PyData.depthAll (xs.map PyData.int) + 1 = 1
    rw [dep_ints]
  rw [h1, h2]; rfl
theorem sh_intsL (xs : List Int) : SeqAt.shaped (.list (xs.map PyData.int)) = true := by
  unfold SeqAt.shaped
  have h1 : (PyData.list (xs.map PyData.int)).canLay0 = true := lay_ints xs
  have h2 : (PyData.list (xs.map PyData.int)).depth = 1 := by
    show PyData.depthAll (xs.map PyData.int) + 1 = 1
    rw [dep_ints]
  rw [h1, h2]; rfl
theorem eqv_nil (xs : List Int) : PyData.eqv (.tuple (xs.map PyData.int)) (.tuple []) = xs.isEmpty := by
  cases xs with
  | nil => rfl
  | cons x xs => rfl
theorem eqv_nilL (xs : List Int) : PyData.eqv (.list (xs.map PyData.int)) (.list []) = xs.isEmpty := by
  cases xs with
  | nil => rfl
  | cons x xs => rfl
theorem cut100 (xs : List Int) : ∃ ms : List Int, cutV (List.replicate (100 : Int).toNat (iv xs)).flatten none (some 100) = iv ms ∧ (∀ m ∈ ms, m ∈ xs) ∧ ms.length ≤ 100 := by
  have e : (List.replicate (100 : Int).toNat (iv xs)).flatten = iv (List.replicate (100 : Int).toNat xs).flatten := by
    unfold iv
    rw [List.map_flatten, List.map_replicate]
  rw [e]
  unfold cutV iv
  rw [← List.map_drop, ← List.map_take]
  refine ⟨_, rfl, fun m hm => ?_, ?_⟩
  · have := List.mem_of_mem_drop (List.mem_of_mem_take hm)
    obtain ⟨l, hl, hml⟩ := List.mem_flatten.mp this
    rw [(List.mem_replicate.mp hl).2] at hml
    exact hml
  · rw [List.length_take]
    generalize (List.replicate (100 : Int).toNat xs).flatten = ys
    have h1 : HT.sIx (ys.map V.int).length (ys.map V.int).length (some ((100 : Nat) : Int)) = min 100 (ys.map V.int).length := HT.sIx_nat _ _ _
    have h2 : HT.sIx (ys.map V.int).length (ys.map V.int).length (some (100 : Int)) = min 100 (ys.map V.int).length := h1
    rw [h2]
    omega
section
variable {P : Program} {w : World} {K : PySem.W.Frag} {mg : Str → Option Value} {base : Heap} {a : Ad}
theorem ok_l_grid_drawn (T : Txt K mg a) : FnOk P w K mg base CX0 3 a.l_grid_drawn a.l_grid_drawn_fd ["pot"] sp_drawn := by
  refine T.F_l_grid_drawn.ok sc_l_grid_drawn (fun vs H Q E h => ?_) (fun cdv A outer s H vs Q E hr h => ?_)
  · obtain ⟨p, n, rfl, _⟩ := h
    rfl
  · obtain ⟨p, n, rfl, hp, hn, k⟩ := h
    refine ⟨_, (pss_cut (ps_set (i := 1) sc_l_grid_drawn.nd rfl (Or.inl rfl) (pe_call (ok_l_of T) (hr.mono (by decide)) rfl T.g_l_of T.k_l_of T.B_l_of .nil pass0 (pa_cons (pv 0) (pa_cons (pe_lst (pa_cons pe_int (pa_cons pe_int (pa_cons pe_int (pa_cons pe_int (pa_cons pe_int (pa_cons pe_int pa_nil))))))) pa_nil))))
      (pss_cut (ps_set (i := 2) sc_l_grid_drawn.nd rfl (Or.inl rfl) (pe_call (ok_l_of T) (hr.mono (by decide)) rfl T.g_l_of T.k_l_of T.B_l_of .nil pass0 (pa_cons (pv 0) (pa_cons (pe_dget (hu_of hr) (pe_disp (pps_cons pe_int (pe_lst (pa_cons pe_int (pa_cons pe_int (pa_cons pe_int (pa_cons pe_int pa_nil))))) (pps_cons pe_int (pe_lst (pa_cons pe_int (pa_cons pe_int (pa_cons pe_int pa_nil)))) (pps_cons pe_int (pe_lst (pa_cons pe_int (pa_cons pe_int pa_nil))) (pps_cons pe_int (pe_lst (pa_cons pe_int (pa_cons pe_int pa_nil))) pps_nil)))) (by rfl) (by rfl) (fun z => by cases z) (by decide)) (pv 1) (fun _ _ => rfl)) pa_nil))))
      (pss_one (ps_ret (pe_tup (pa_cons (pv 1) (pa_cons (pv 2) (pa_cons (pe_call (ok_l_of T) (hr.mono (by decide)) rfl T.g_l_of T.k_l_of T.B_l_of .nil pass0 (pa_cons (pv 0) (pa_cons (pe_lst (pa_cons pe_int (pa_cons pe_int (pa_cons pe_int (pa_cons pe_int pa_nil))))) pa_nil))) (pa_cons (pe_call (ok_l_of T) (hr.mono (by decide)) rfl T.g_l_of T.k_l_of T.B_l_of .nil pass0 (pa_cons (pv 0) (pa_cons (pe_lst (pa_cons pe_int (pa_cons pe_int (pa_cons pe_int (pa_cons pe_int pa_nil))))) pa_nil))) pa_nil))))))))), ?_⟩
    refine ⟨fun σ H2 => ∃ b : Nat, (b = 2 ∨ b = 3 ∨ b = 5 ∨ b = 10) ∧ Kp p H H2 ∧ PotAt H2 p (n + 1) ∧ σ = [some (.ref p), some (.int b), none], ?_, ?_⟩
    · refine ⟨_, rfl, by show 6 ≤ sizeLine; decide, fun l hl => ?_⟩
      refine ⟨p, l, n, _, rfl, hp.ex (Ex.new hl), by omega, upd_same, hp.ne hl, by show 0 < 6; decide, by show 6 ≤ 100000; decide, fun i v H2 hv k2 p2 => ?_⟩
      have k2' := (Ex.kp (Ex.new (o := .lst [V.int 2, V.int 2, V.int 3, V.int 10, V.int 5, V.int 2]) hl)).trans k2
      match i, hv with
      | 0, hv => cases hv; exact ⟨2, .inl rfl, k2', p2, rfl⟩
      | 1, hv => cases hv; exact ⟨2, .inl rfl, k2', p2, rfl⟩
      | 2, hv => cases hv; exact ⟨3, .inr (.inl rfl), k2', p2, rfl⟩
      | 3, hv => cases hv; exact ⟨10, .inr (.inr (.inr rfl)), k2', p2, rfl⟩
      | 4, hv => cases hv; exact ⟨5, .inr (.inr (.inl rfl)), k2', p2, rfl⟩
      | 5, hv => cases hv; exact ⟨2, .inl rfl, k2', p2, rfl⟩
    rintro σ H2 ⟨b, hb, k2, p2, rfl⟩
    refine ⟨fun σ H3 => ∃ f : Nat, 1 ≤ f ∧ f ≤ 4 ∧ b ^ f ≤ 1000 ∧ Kp p H H3 ∧ PotAt H3 p (n + 2) ∧ σ = [some (.ref p), some (.int b), some (.int f)], ?_, ?_⟩
    · refine ⟨_, rfl, fun d hd => ?_⟩
      have dp := p2.ne hd
      have e3 := Ex.new (o := .dK []) hd
      have d3 : (upd H2 d (.dK [])) d = some (.dK []) := upd_same
      generalize (upd H2 d (.dK [])) = H3 at *
      refine ⟨by show 4 ≤ sizeLine; decide, fun l1 h1 => ?_⟩
      have e4 := Ex.new (o := .lst [V.int 3, V.int 2, V.int 4, V.int 1]) h1
      have c1 : (upd H3 l1 (.lst [V.int 3, V.int 2, V.int 4, V.int 1])) l1 = some (.lst [V.int 3, V.int 2, V.int 4, V.int 1]) := upd_same
      generalize (upd H3 l1 (.lst [V.int 3, V.int 2, V.int 4, V.int 1])) = H4 at *
      refine ⟨by show 3 ≤ sizeLine; decide, fun l2 h2 => ?_⟩
      have e5 := Ex.new (o := .lst [V.int 2, V.int 1, V.int 3]) h2
      have c2 : (upd H4 l2 (.lst [V.int 2, V.int 1, V.int 3])) l2 = some (.lst [V.int 2, V.int 1, V.int 3]) := upd_same
      generalize (upd H4 l2 (.lst [V.int 2, V.int 1, V.int 3])) = H5 at *
      refine ⟨by show 2 ≤ sizeLine; decide, fun l3 h3 => ?_⟩
      have e6 := Ex.new (o := .lst [V.int 1, V.int 2]) h3
      have c3 : (upd H5 l3 (.lst [V.int 1, V.int 2])) l3 = some (.lst [V.int 1, V.int 2]) := upd_same
      generalize (upd H5 l3 (.lst [V.int 1, V.int 2])) = H6 at *
      refine ⟨by show 2 ≤ sizeLine; decide, fun l4 h4 => ?_⟩
      have e7 := Ex.new (o := .lst [V.int 1, V.int 2]) h4
      have c4 : (upd H6 l4 (.lst [V.int 1, V.int 2])) l4 = some (.lst [V.int 1, V.int 2]) := upd_same
      generalize (upd H6 l4 (.lst [V.int 1, V.int 2])) = H7 at *
      have e37 : Ex H3 H7 := ((e4.trans e5).trans e6).trans e7
      have d7 := e37 _ _ d3
      have c17 := e7 _ _ (e6 _ _ (e5 _ _ c1))
      have c27 := e7 _ _ (e6 _ _ c2)
      have c37 := e7 _ _ c3
      refine ⟨d7, [(Sum.inl 2, V.ref l1), (Sum.inl 3, V.ref l2), (Sum.inl 5, V.ref l3), (Sum.inl 10, V.ref l4)], rfl, by show 4 ≤ 15; decide, ?_⟩
      have kU : Kp p H (upd H7 d (.dK (mergeK [] [(Sum.inl 2, V.ref l1), (Sum.inl 3, V.ref l2), (Sum.inl 5, V.ref l3), (Sum.inl 10, V.ref l4)]))) := (k2.ex (e3.trans e37)).new (k2.back hd dp)
      have pU : PotAt (upd H7 d (.dK (mergeK [] [(Sum.inl 2, V.ref l1), (Sum.inl 3, V.ref l2), (Sum.inl 5, V.ref l3), (Sum.inl 10, V.ref l4)]))) p (n + 1) := (p2.ex (e3.trans e37)).upd dp
      have dU : (upd H7 d (.dK (mergeK [] [(Sum.inl 2, V.ref l1), (Sum.inl 3, V.ref l2), (Sum.inl 5, V.ref l3), (Sum.inl 10, V.ref l4)]))) d = some (.dK (mergeK [] [(Sum.inl 2, V.ref l1), (Sum.inl 3, V.ref l2), (Sum.inl 5, V.ref l3), (Sum.inl 10, V.ref l4)])) := upd_same
      have cU : ∀ {l : Addr} {xs : List V}, H7 l = some (.lst xs) → (upd H7 d (.dK (mergeK [] [(Sum.inl 2, V.ref l1), (Sum.inl 3, V.ref l2), (Sum.inl 5, V.ref l3), (Sum.inl 10, V.ref l4)]))) l = some (.lst xs) := fun {l xs} hl => by
        rw [upd_ne (ne_of hl d7 (by intro z; cases z))]
        exact hl
      have u1 := cU c17
      have u2 := cU c27
      have u3 := cU c37
      have u4 := cU c4
      generalize (upd H7 d (.dK (mergeK [] [(Sum.inl 2, V.ref l1), (Sum.inl 3, V.ref l2), (Sum.inl 5, V.ref l3), (Sum.inl 10, V.ref l4)]))) = H8 at *
      have lp : ∀ {l : Addr} {xs : List V} {m : Nat}, H8 l = some (.lst xs) → xs.length = m → m ≠ 3 → l ≠ p := fun {l xs m} hl hm h3 e => by
        obtain ⟨y1, y2, y3, hpp, _⟩ := pU
        rw [e, hpp] at hl
        cases hl
        exact h3 hm.symm
      have nlp : ∀ {l : Addr} {Hx : Hp}, Ex H2 Hx → Hx l = none → l ≠ p := fun {l Hx} ex hl => (p2.ex ex).ne hl
      have n1 := nlp e3 h1
      have n2 := nlp (e3.trans e4) h2
      have n3 := nlp ((e3.trans e4).trans e5) h3
      have n4 := nlp (((e3.trans e4).trans e5).trans e6) h4
      rcases hb with rfl | rfl | rfl | rfl
      · refine ⟨_, rfl, d, V.ref l1, rfl, .inl ⟨_, Sum.inl 2, .inl dU, rfl, rfl⟩, p, l1, n + 1, _, rfl, pU, by omega, u1, n1, by show 0 < 4; decide, by show 4 ≤ 100000; decide, fun i v H9 hv k9 p9 => ?_⟩
        match i, hv with
        | 0, hv => cases hv; exact ⟨3, by decide, by decide, by decide, kU.trans k9, p9, rfl⟩
        | 1, hv => cases hv; exact ⟨2, by decide, by decide, by decide, kU.trans k9, p9, rfl⟩
        | 2, hv => cases hv; exact ⟨4, by decide, by decide, by decide, kU.trans k9, p9, rfl⟩
        | 3, hv => cases hv; exact ⟨1, by decide, by decide, by decide, kU.trans k9, p9, rfl⟩
      · refine ⟨_, rfl, d, V.ref l2, rfl, .inl ⟨_, Sum.inl 3, .inl dU, rfl, rfl⟩, p, l2, n + 1, _, rfl, pU, by omega, u2, n2, by show 0 < 3; decide, by show 3 ≤ 100000; decide, fun i v H9 hv k9 p9 => ?_⟩
        match i, hv with
        | 0, hv => cases hv; exact ⟨2, by decide, by decide, by decide, kU.trans k9, p9, rfl⟩
        | 1, hv => cases hv; exact ⟨1, by decide, by decide, by decide, kU.trans k9, p9, rfl⟩
        | 2, hv => cases hv; exact ⟨3, by decide, by decide, by decide, kU.trans k9, p9, rfl⟩
      · refine ⟨_, rfl, d, V.ref l3, rfl, .inl ⟨_, Sum.inl 5, .inl dU, rfl, rfl⟩, p, l3, n + 1, _, rfl, pU, by omega, u3, n3, by show 0 < 2; decide, by show 2 ≤ 100000; decide, fun i v H9 hv k9 p9 => ?_⟩
        match i, hv with
        | 0, hv => cases hv; exact ⟨1, by decide, by decide, by decide, kU.trans k9, p9, rfl⟩
        | 1, hv => cases hv; exact ⟨2, by decide, by decide, by decide, kU.trans k9, p9, rfl⟩
      · refine ⟨_, rfl, d, V.ref l4, rfl, .inl ⟨_, Sum.inl 10, .inl dU, rfl, rfl⟩, p, l4, n + 1, _, rfl, pU, by omega, u4, n4, by show 0 < 2; decide, by show 2 ≤ 100000; decide, fun i v H9 hv k9 p9 => ?_⟩
        match i, hv with
        | 0, hv => cases hv; exact ⟨1, by decide, by decide, by decide, kU.trans k9, p9, rfl⟩
        | 1, hv => cases hv; exact ⟨2, by decide, by decide, by decide, kU.trans k9, p9, rfl⟩
    rintro σ H3 ⟨f, f1, f4, hbf, k3, p3, rfl⟩
    refine ⟨_, rfl, _, rfl, _, rfl, by show 4 ≤ sizeLine; decide, fun l hl => ?_⟩
    refine ⟨p, l, n + 2, _, rfl, p3.ex (Ex.new hl), by omega, upd_same, p3.ne hl, by show 0 < 4; decide, by show 4 ≤ 100000; decide, fun i v H4 hv k4 p4 => ?_⟩
    have k4' := (k3.ex (Ex.new (o := .lst [V.int 2, V.int 1, V.int 3, V.int 0]) hl)).trans k4
    obtain ⟨r, rfl, hr3⟩ : ∃ r : Nat, v = .int r ∧ r ≤ 3 := by
      match i, hv with
      | 0, hv => cases hv; exact ⟨2, rfl, by decide⟩
      | 1, hv => cases hv; exact ⟨1, rfl, by decide⟩
      | 2, hv => cases hv; exact ⟨3, rfl, by decide⟩
      | 3, hv => cases hv; exact ⟨0, rfl, by decide⟩
    refine ⟨_, rfl, by show 4 ≤ sizeLine; decide, fun l2 hl2 => ?_⟩
    refine ⟨p, l2, n + 3, _, rfl, p4.ex (Ex.new hl2), by omega, upd_same, p4.ne hl2, by show 0 < 4; decide, by show 4 ≤ 100000; decide, fun i2 v2 H5 hv2 k5 p5 => ?_⟩
    have k5' := (k4'.ex (Ex.new (o := .lst [V.int 0, V.int 0, V.int 1, V.int 2]) hl2)).trans k5
    obtain ⟨pl, rfl, hpl⟩ : ∃ pl : Nat, v2 = .int pl ∧ pl ≤ 2 := by
      match i2, hv2 with
      | 0, hv => cases hv; exact ⟨0, rfl, by decide⟩
      | 1, hv => cases hv; exact ⟨0, rfl, by decide⟩
      | 2, hv => cases hv; exact ⟨1, rfl, by decide⟩
      | 3, hv => cases hv; exact ⟨2, rfl, by decide⟩
    refine ⟨by show 4 ≤ sizeLine; decide, fun t ht => ?_⟩
    exact k t b f r pl _ (k5'.ex (Ex.new ht)) (p5.ex (Ex.new ht)) upd_same ⟨by omega, by omega, f1, by omega, by omega⟩ (by omega) hbf hr3 hb f4
end
end My


set_option Elab.async false
set_option maxRecDepth 100000
set_option maxHeartbeats 2000000
set_option exponentiation.threshold 6000
namespace My
open PySem L2 Evl
def sp_check_laps : Sp := fun vs H Q _ => ∃ n : Nat, vs = [.int n] ∧ n ≤ 10 ^ 18 ∧ ∀ H', Ex H H' → Q .non H'
def sp_check_summed (a : Ad) : Sp := fun vs H Q _ => ∃ (g : Addr) (b f r L G : Nat) (x p : Int) (y : Wy), vs = [.ref g, .int x, .int p, .str y.str] ∧ GridAt a H g b f r L G ∧ OnG b L G x ∧ OnG b L G p ∧ ∀ H', Ex H H' → Q .non H'
def sp_ground_of (a : Ad) : Sp := fun vs H Q _ => ∃ (g : Addr) (b f r L G : Nat) (x : Int), vs = [.ref g, .int x] ∧ GridAt a H g b f r L G ∧ OnG b L G x ∧ ∀ q H', Ex H H' → H' q = some (.tup [.int (gA b f x), .int (gB b f x)]) → Q (.ref q) H'
def sp_laps_ahead (a : Ad) : Sp := fun vs H Q _ => ∃ (g : Addr) (b f r L G : Nat) (x n p : Int) (y : Wy), vs = [.ref g, .int x, .int n, .int p, .str y.str] ∧ GridAt a H g b f r L G ∧ OnG b L G x ∧ OnG b L G p ∧ stp y b f r p x = some n ∧ n ≠ x ∧
  ∀ q d m H', Ex H H' → 0 ≤ m → (∀ j : Nat, (j : Int) ≤ m → Run (stp y b f r p) j n (n + (j : Int) * d) ∧ OnG b L G (n + (j : Int) * d)) → m.natAbs < 2 ^ 4000 → d.natAbs < 2 ^ 4000 → H' q = some (.tup [.int d, .int m]) → Q (.ref q) H'
section
variable {P : Program} {w : World} {K : PySem.W.Frag} {mg : Str → Option Value} {base : Heap} {a : Ad}
theorem ok_check_laps (T : Txt K mg a) : FnOk P w K mg base CX0 3 a.check_laps a.check_laps_fd ["laps"] sp_check_laps := by
  refine T.F_check_laps.ok sc_check_laps (fun vs H Q E h => ?_) (fun cdv A outer s H vs Q E hr h => ?_)
  · obtain ⟨n, rfl, _⟩ := h
    rfl
  · obtain ⟨n, rfl, hn, k⟩ := h
    refine ⟨_, (pss_one (ps_if (pt_not (pt_val (pe_call (ok_is_from_to T) (hr.mono (by decide)) rfl T.g_is_from_to T.k_is_from_to T.B_is_from_to .nil pass0 (pa_cons (pv 0) (pa_cons pe_int (pa_cons (pe_glob (v := .int 1000000000000000000) rfl T.c_MOST_LAPS.choose_spec ⟨_, rfl⟩) pa_nil)))))) (pss_one ps_never) pss_nil)), ?_⟩
    refine ⟨_, rfl, (n : Int), 0, 1000000000000000000, rfl, fun H1 e1 => ⟨true, ?_, ?_⟩⟩
    · show V.bl (decide ((0 : Int) ≤ n) && decide ((n : Int) ≤ 1000000000000000000)) = _
      rw [decide_eq_true (by omega), decide_eq_true (by omega)]
      rfl
    refine ite2 (fun h => absurd h (by simp)) (fun _ => ?_)
    exact k H1 e1
theorem ok_check_summed (T : Txt K mg a) : FnOk P w K mg base CX0 5 a.check_summed a.check_summed_fd ["grid", "start", "part", "way"] (sp_check_summed a) := by
  refine T.F_check_summed.ok sc_check_summed (fun vs H Q E h => ?_) (fun cdv A outer s H vs Q E hr h => ?_)
  · obtain ⟨g, b, f, r, L, G, x, p, y, rfl, _⟩ := h
    rfl
  · obtain ⟨g, b, f, r, L, G, x, y, w, rfl, hg, hx, hy, k⟩ := h
    refine ⟨_, (pss_cons (ps_for PassesOwn.never rfl (pi_tup (pe_tup (pa_cons (pv 1) (pa_cons (pv 2) pa_nil)))) (pg_name (i := 4) sc_check_summed.nd rfl (Or.inl rfl)) (pss_one (ps_if (pt_cmpR (op_ninOwn (ok_Grid_contains T) (hr.mono (by decide)) T.cl_Grid T.m_Grid_contains T.B_Grid_contains pass0) (pv 4) (pv 0) (by rfl)) (pss_one ps_never) pss_nil)))
      (pss_one (ps_expr (pe_call (ok_check_way T) (hr.mono (by decide)) rfl T.g_check_way T.k_check_way T.B_check_way .nil pass0 (pa_cons (pv 3) pa_nil))))), ?_⟩
    refine ⟨_, rfl, _, rfl, by show 2 ≤ sizeLine; decide, fun t ht => ?_⟩
    refine ⟨t, rfl, ⟨_, SqT.of upd_same⟩, for_tup (K := K) (a := t) (xs := [.int x, .int y]) (fun i σ H2 => Ex H H2 ∧ H2 t = some (.tup [.int x, .int y]) ∧ ∃ z, σ = [some (.ref g), some (.int x), some (.int y), some (.str w.str), z]) ⟨Ex.new ht, upd_same, none, rfl⟩ (fun i σ H2 _ q => SqT.of q.2.1) ?_ ?_⟩
    · rintro i v σ H2 hi ⟨e2, h2, z, rfl⟩
      have hv : ∃ n, v = .int n ∧ OnG b L G n := by
        match i, hi with
        | 0, hi => cases hi; exact ⟨x, rfl, hx⟩
        | 1, hi => cases hi; exact ⟨y, rfl, hy⟩
      obtain ⟨n, rfl, hn⟩ := hv
      obtain ⟨dx, lim, tops, p, u, xs, ys, o1, o2, o3, o4, o5⟩ := (hg.mono e2).ob
      refine ⟨_, rfl, _, rfl, g, dx, _, rfl, o1, g, b, f, r, L, G, n, rfl, hg.mono e2, hn, fun H3 e3 => ⟨true, rfl, _, rfl, ?_⟩⟩
      refine ite2 (fun h => absurd h (by simp)) (fun _ => ?_)
      exact ⟨e2.trans e3, e3 _ _ h2, _, rfl⟩
    · rintro σ H2 ⟨e2, h2, z, rfl⟩
      exact ⟨_, rfl, w, rfl, fun H3 e3 => k H3 (e2.trans e3)⟩
theorem ok_ground_of (T : Txt K mg a) : FnOk P w K mg base CX0 2 a.ground_of a.ground_of_fd ["grid", "worth"] (sp_ground_of a) := by
  refine T.F_ground_of.ok sc_ground_of (fun vs H Q E h => ?_) (fun cdv A outer s H vs Q E hr h => ?_)
  · obtain ⟨g, b, f, r, L, G, x, rfl, _⟩ := h
    rfl
  · obtain ⟨g, b, f, r, L, G, x, rfl, hg, hx, k⟩ := h
    refine ⟨_, (pss_cons (ps_set (i := 2) sc_ground_of.nd rfl (Or.inl rfl) (pe_call (ok_spacing_at T) (hr.mono (by decide)) rfl T.g_spacing_at T.k_spacing_at T.B_spacing_at .nil pass0 (pa_cons (pv 0) (pa_cons (pe_callB call_abs (by rfl) T.n_abs (by decide +kernel) (pa_cons (pv 1) pa_nil)) (pa_cons pe_int pa_nil)))))
      (pss_cons (ps_set (i := 3) sc_ground_of.nd rfl (Or.inl rfl) (pe_op op_sub (pe_op op_mulW (pv 2) (pe_ix ix_tup (pe_fld (pv 0) rfl) pe_int (fun _ _ => rfl))) pe_int))
      (pss_cons (ps_if (pt_cmpR op_eq (pv 2) pe_int (nomark _)) (pss_one (ps_ret (pe_tup (pa_cons (pe_un un_neg (pv 3)) (pa_cons (pv 3) pa_nil))))) pss_nil)
      (pss_cons (ps_set (i := 4) sc_ground_of.nd rfl (Or.inl rfl) (pe_op op_fdivW (pe_op op_mulW (pv 2) (pe_ix ix_tup (pe_fld (pv 0) rfl) pe_int (fun _ _ => rfl))) (pe_fld (pv 0) rfl)))
      (pss_one (ps_ret (pe_ifExp (pt_cmpR op_gt (pv 1) pe_int (nomark _)) (pe_tup (pa_cons (pv 4) (pa_cons (pv 3) pa_nil))) (pe_tup (pa_cons (pe_un un_neg (pv 3)) (pa_cons (pe_un un_neg (pv 4)) pa_nil)))))))))), ?_⟩
    have hb := hg.gr.hb
    have ub := hg.ub
    have hG := hg.bG
    have hL := hg.gr.eL
    have hL4 : b ^ f < 2 ^ 400 := pw400 ub (by have := hg.uf; omega)
    have hs4 := spc_sz (n := x.natAbs) (L := b ^ f) hb ub (Nat.pow_pos (by omega)) (Nat.lt_of_le_of_lt hx.1 (Nat.lt_trans hG (by decide +kernel)))
    refine ⟨_, rfl, _, rfl, _, rfl, g, b, f, r, L, G, x.natAbs, 0, by rw [absI]; rfl, hg, by decide, Nat.lt_of_le_of_lt hx.1 (Nat.lt_trans hG (by decide +kernel)), fun H1 e1 => ?_⟩
    rw [Nat.add_zero]
    have eS : ((spc b (b ^ f) x.natAbs : Nat) : Int) = gS b f x := rfl
    rw [eS]
    have zS : (gS b f x).natAbs < 2 ^ 4010 := by rw [← eS, Int.natAbs_natCast]; exact hs4
    have zL : ((b ^ f : Nat) : Int).natAbs < 2 ^ 400 := by rw [Int.natAbs_natCast]; exact hL4
    obtain ⟨dx, lim, tops, p, u, xs, ys, o1, o2, o3, o4, o5⟩ := (hg.mono e1).ob
    have o40 := o4 0 (by decide)
    rw [Nat.add_zero] at o40
    refine ⟨_, rfl, _, rfl, g, _, dx, _, _, rfl, o1, T.cl_Grid, T.f_Grid_limits, gfl_limits, lim, xs, _, _, rfl, rfl, SqT.of o2, atN (m := 0) o40, _, _, rfl, rfl, wm (p5000 zS) (p5000 zL), _, _, rfl, rfl, ?_⟩
    refine ⟨_, rfl, rfl, _, rfl, ?_⟩
    refine ite2 (fun h => ?_) (fun h => ?_)
    · have h : gS b f x = 1 := by simpa using h
      refine ⟨_, rfl, _, rfl, _, rfl, by show 2 ≤ sizeLine; decide, fun q hq => k q _ (e1.trans (Ex.new hq)) ?_⟩
      rw [upd_same]
      unfold gA gB
      rw [if_pos h, if_pos h]
      rfl
    · have h : ¬ gS b f x = 1 := by simpa using h
      refine ⟨_, rfl, _, rfl, g, _, dx, _, _, rfl, o1, T.cl_Grid, T.f_Grid_limits, gfl_limits, lim, xs, _, _, rfl, rfl, SqT.of o2, atN (m := 0) o40, _, _, rfl, rfl, wm (p5000 zS) (p5000 zL), _, rfl, g, _, dx, _, _, rfl, o1, T.cl_Grid, T.f_Grid_base, gfl_base, _, _, rfl, rfl, wd (by omega) (p5000 (k := 400) (by rw [Int.natAbs_natCast]; exact Nat.lt_of_le_of_lt ub (by decide +kernel))), ?_⟩
      refine ⟨_, rfl, _, _, rfl, rfl, _, rfl, ?_⟩
      refine ite2 (fun h2 => ?_) (fun h2 => ?_)
      · have h2 : 0 < x := of_decide_eq_true h2
        refine ⟨_, rfl, _, rfl, by show 2 ≤ sizeLine; decide, fun q hq => k q _ (e1.trans (Ex.new hq)) ?_⟩
        rw [upd_same]
        unfold gA gB
        rw [if_neg h, if_neg h, if_pos h2, if_pos h2]
        rfl
      · have h2 : ¬ 0 < x := fun z => h2 (decide_eq_true z)
        refine ⟨_, rfl, _, rfl, _, rfl, _, rfl, by show 2 ≤ sizeLine; decide, fun q hq => k q _ (e1.trans (Ex.new hq)) ?_⟩
        rw [upd_same]
        unfold gA gB
        rw [if_neg h, if_neg h, if_neg h2, if_neg h2]
        rfl
end
end My


set_option Elab.async false
set_option maxRecDepth 100000
set_option maxHeartbeats 2000000
set_option exponentiation.threshold 6000
namespace My
open PySem L2 Evl
theorem rgO_some {y : Wy} {b f r : Nat} {x p n : Int} (h : stp y b f r p x = some n) : rgO y b f r 0 (x + p) 1 = .int n := by
  unfold stp at h
  unfold rgO
  rw [Nat.add_zero]
  split at h
  · rename_i c
    rw [if_pos c]
    cases h; rfl
  · cases h
theorem rgO_none {y : Wy} {b f r : Nat} {x p : Int} (h : stp y b f r p x = none) : rgO y b f r 0 (x + p) 1 = .non := by
  unfold stp at h
  unfold rgO
  rw [Nat.add_zero]
  split at h
  · cases h
  · rename_i c
    rw [if_neg c]
theorem gA_sz {b f r L G : Nat} (gr : Gr b f r L G) (ub : b ≤ 10) (hl : f + r + 2 ≤ 100) {x : Int} (hx : OnG b L G x) : (gA b f x).natAbs < 2 ^ 1000 ∧ (gB b f x).natAbs < 2 ^ 1000 := by
  obtain ⟨h1, h2⟩ := hx
  have hr := spx_r gr h1
  rw [gr.eL] at hr
  have hS : spc b (b ^ f) x.natAbs ≤ b ^ r := Nat.pow_le_pow_right (by have := gr.hb; omega) hr
  have hSL : spc b (b ^ f) x.natAbs * b ^ f ≤ b ^ (r + f) := by
    rw [Nat.pow_add]
    exact Nat.mul_le_mul_right _ hS
  have h4 := pw400 (b := b) (i := r + f) ub (by omega)
  have e : gS b f x * ((b ^ f : Nat) : Int) = ((spc b (b ^ f) x.natAbs * b ^ f : Nat) : Int) := by
    unfold gS; rw [Int.natCast_mul]
  have h400 : 2 ^ 400 + 2 < 2 ^ 1000 := by decide +kernel
  have hd := Int.ediv_nonneg (show 0 ≤ gS b f x * ((b ^ f : Nat) : Int) by rw [e]; omega) (show 0 ≤ (b : Int) by omega)
  have hd2 : gS b f x * ((b ^ f : Nat) : Int) / (b : Int) ≤ gS b f x * ((b ^ f : Nat) : Int) := Int.ediv_le_self _ (by rw [e]; omega)
  unfold gA gB gLo gHi
  rw [e] at *
  split
  · omega
  · split <;> omega
theorem on_rg {y : Wy} {b f r L G : Nat} (gr : Gr b f r L G) {x p n : Int} (h : stp y b f r p x = some n) : OnG b L G n := by
  obtain ⟨h1, h2, h3⟩ := stp_some gr.hb gr.hf h
  have e1 := gr.eL
  have e2 := gr.eG
  rw [e2, e1]
  exact ⟨h2, h3⟩
section
variable {P : Program} {w : World} {K : PySem.W.Frag} {mg : Str → Option Value} {base : Heap} {a : Ad}
theorem ok_laps_ahead (T : Txt K mg a) : FnOk P w K mg base CX0 3 a.laps_ahead a.laps_ahead_fd ["grid", "state", "number", "part", "way"] (sp_laps_ahead a) := by
  refine T.F_laps_ahead.ok sc_laps_ahead (fun vs H Q E h => ?_) (fun cdv A outer s H vs Q E hr h => ?_)
  · obtain ⟨g, b, f, r, L, G, x, n, p, y, rfl, _⟩ := h
    rfl
  · obtain ⟨g, b, f, r, L, G, x, n, p, y, rfl, hg, hx, hp, hn, hne, k⟩ := h
    refine ⟨_, (pss_cons (ps_asg (pe_call (ok_ground_of T) (hr.mono (by decide)) rfl T.g_ground_of T.k_ground_of T.B_ground_of .nil pass0 (pa_cons (pv 0) (pa_cons (pv 1) pa_nil))) (pg_tup rfl (pgs_cons (pg_name (i := 5) sc_laps_ahead.nd rfl (Or.inl rfl)) (pgs_cons (pg_name (i := 6) sc_laps_ahead.nd rfl (Or.inl rfl)) pgs_nil))))
      (pss_cons (ps_if (pt_not (pt_chain op_le op_le (pv 5) (pe_op op_add (pv 2) (pv 3)) (pv 6))) (pss_one (ps_ret (pe_tup (pa_cons pe_int (pa_cons pe_int pa_nil))))) pss_nil)
      (pss_cons (ps_set (i := 7) sc_laps_ahead.nd rfl (Or.inl rfl) (pe_call (ok_fitted T) (hr.mono (by decide)) rfl T.g_fitted T.k_fitted T.B_fitted .nil pass0 (pa_cons (pv 0) (pa_cons (pe_op op_add (pv 2) (pv 3)) (pa_cons pe_int (pa_cons (pv 4) (pa_cons pe_int pa_nil)))))))
      (pss_cons (ps_if (PW.pt (pw_or (pt_cmpR op_isN (pv 7) pe_non (nomark _)) (pw_or1 (pt_cmpR op_eq (pv 7) (pv 2) (nomark _))))) (pss_one (ps_ret (pe_tup (pa_cons pe_int (pa_cons pe_int pa_nil))))) pss_nil)
      (pss_cut (ps_set (i := 8) sc_laps_ahead.nd rfl (Or.inl rfl) (pe_ifExp (pt_cmpR op_gt (pv 3) pe_int (nomark _)) (pe_op op_sub (pv 6) (pv 2)) (pe_op op_sub (pv 2) (pv 5))))
      (pss_one (ps_ret (pe_tup (pa_cons (pe_op op_sub (pv 7) (pv 2)) (pa_cons (pe_op op_fdivW (pe_op op_sub (pv 8) (pe_callB call_abs (by rfl) T.n_abs (by decide +kernel) (pa_cons (pv 3) pa_nil))) (pe_callB call_abs (by rfl) T.n_abs (by decide +kernel) (pa_cons (pe_op op_sub (pv 7) (pv 2)) pa_nil))) pa_nil)))))))))), ?_⟩
    have hG := hg.bG
    have hb := hg.gr.hb
    have hf := hg.gr.hf
    have eL := hg.gr.eL
    have eG := hg.gr.eG
    have hnG := on_rg hg.gr hn
    have nsz : n.natAbs < 2 ^ 400 := Nat.lt_of_le_of_lt hnG.1 hG
    have psz : p.natAbs < 2 ^ 400 := Nat.lt_of_le_of_lt hp.1 hG
    obtain ⟨az, bz⟩ := gA_sz hg.gr hg.ub (by have := hg.uf; have := hg.ur; omega) hx
    have stay : ∀ q (H' : Hp), Ex H H' → H' q = some (.tup [.int 0, .int 0]) → Q (.ref q) H' := fun q H' e h => k q 0 0 H' e (by decide) (fun j hj => by
      have : j = 0 := by omega
      subst this
      have e : n + ((0 : Nat) : Int) * 0 = n := by simp
      rw [e]
      exact ⟨rfl, hnG⟩) (by decide +kernel) (by decide +kernel) h
    refine ⟨_, rfl, _, rfl, g, b, f, r, L, G, x, rfl, hg, hx, fun q H1 e1 h1 => ?_⟩
    refine ⟨q, _, rfl, SqT.of h1, rfl, _, _, rfl, _, _, rfl, rfl, ?_⟩
    refine ⟨_, rfl, _, rfl, _, rfl, _, _, rfl, rfl, _, _, rfl, rfl, _, rfl, ?_⟩
    have hret : ∀ t (ht : H1 t = none), Q (.ref t) (upd H1 t (.tup [.int 0, .int 0])) := fun t ht => stay t _ (e1.trans (Ex.new ht)) upd_same
    refine ite2 (fun ha => ?_) (fun ha => ?_)
    rotate_left
    · refine ⟨_, rfl, ?_⟩
      refine ite2 (fun h => ?_) (fun h => absurd (by simp) h)
      exact ⟨by show 2 ≤ sizeLine; decide, hret⟩
    refine ⟨_, rfl, _, _, rfl, rfl, _, rfl, ?_⟩
    refine ite2 (fun h => ?_) (fun h => ?_)
    · exact ⟨by show 2 ≤ sizeLine; decide, hret⟩
    have hin : gA b f x ≤ n + p ∧ n + p ≤ gB b f x := by
      have ha := of_decide_eq_true ha
      simp at h
      exact ⟨ha, h⟩
    refine ⟨_, rfl, _, rfl, _, rfl, _, _, rfl, rfl, _, rfl, g, b, f, r, L, G, n + p, 1, 0, y, rfl, hg.mono e1, by decide, by decide +kernel, by decide, addsz nsz psz, fun H2 e2 => ?_⟩
    cases hz : stp y b f r p n with
    | none =>
      rw [rgO_none hz]
      refine ⟨_, rfl, rfl, _, rfl, ?_⟩
      refine ite2 (fun h => ?_) (fun h => absurd (by simp) h)
      exact ⟨by show 2 ≤ sizeLine; decide, fun t ht => stay t _ ((e1.trans e2).trans (Ex.new ht)) upd_same⟩
    | some z =>
      rw [rgO_some hz]
      refine ⟨_, rfl, rfl, _, rfl, ?_⟩
      refine ite2 (fun h => absurd h (by simp)) (fun _ => ?_)
      refine ⟨_, rfl, _, rfl, rfl, _, rfl, ?_⟩
      refine ite2 (fun h => ?_) (fun h => ?_)
      · exact ⟨by show 2 ≤ sizeLine; decide, fun t ht => stay t _ ((e1.trans e2).trans (Ex.new ht)) upd_same⟩
      have hzn : z ≠ n := by simpa using h
      obtain ⟨z1, z2, z3⟩ := stp_some hb hf hz
      have zsz : z.natAbs < 2 ^ 400 := by
        have := (on_rg hg.gr hz).1
        omega
      obtain ⟨m0, mj⟩ := leap_run y hb hf (x := x) (p := p) (n := n) (z := z) (r := r) (by rw [← eL]; exact hx.2) (by rw [← eL, ← eG]; exact hx.1) hn hne hin.1 hin.2 z1 hzn rfl
      have hroom : (if 0 < p then gB b f x - n else n - gA b f x).natAbs < 2 ^ 1001 := by
        have : 2 ^ 400 + 2 ^ 1000 < 2 ^ 1001 := by decide +kernel
        split <;> omega
      refine ⟨fun σ H3 => H3 = H2 ∧ σ = [some (.ref g), some (.int x), some (.int n), some (.int p), some (.str y.str), some (.int (gA b f x)), some (.int (gB b f x)), some (.int z), some (.int (if 0 < p then gB b f x - n else n - gA b f x))], ?_, ?_⟩
      · refine ⟨_, rfl, _, _, rfl, rfl, _, rfl, ?_⟩
        refine ite2 (fun h => ?_) (fun h => ?_)
        · have h : 0 < p := of_decide_eq_true h
          refine ⟨_, rfl, _, rfl, _, _, rfl, rfl, rfl, ?_⟩
          rw [if_pos h]
          rfl
        · have h : ¬ 0 < p := fun z => h (decide_eq_true z)
          refine ⟨_, rfl, _, rfl, _, _, rfl, rfl, rfl, ?_⟩
          rw [if_neg h]
          rfl
      · rintro σ H3 ⟨rfl, rfl⟩
        generalize (if 0 < p then gB b f x - n else n - gA b f x) = rm at *
        have hd401 : (((z - n).natAbs : Nat) : Int).natAbs < 2 ^ 401 := by
          have : 2 ^ 400 + 2 ^ 400 ≤ 2 ^ 401 := by decide +kernel
          rw [Int.natAbs_natCast]
          omega
        have hd0 : (0 : Int) < ((z - n).natAbs : Int) := by omega
        have ab1 := absI p
        have ab2 := absI (z - n)
        refine ⟨_, rfl, _, rfl, _, _, rfl, rfl, _, rfl, _, rfl, _, rfl, _, _, rfl, rfl, _, rfl, _, rfl, _, _, rfl, rfl, _, rfl, _, _, rfl, rfl, ?_⟩
        dsimp only
        rw [ab1, ab2]
        refine ⟨wd hd0 (p5000 (k := 401) hd401), by show 2 ≤ sizeLine; decide, fun t ht => ?_⟩
        refine k t (z - n) _ _ ((e1.trans e2).trans (Ex.new ht)) m0 (fun j hj => ?_) ?_ ?_ upd_same
        · obtain ⟨j1, j2, j3⟩ := mj j hj
          refine ⟨j1, ?_⟩
          rw [eG, eL]
          exact ⟨j2, j3⟩
        · have := Int.natAbs_ediv_le_natAbs (rm - (p.natAbs : Int)) ((z - n).natAbs : Int)
          have h2 : 2 ^ 1001 + 2 ^ 400 < 2 ^ 4000 := by decide +kernel
          omega
        · have h2 : 2 ^ 400 + 2 ^ 400 < 2 ^ 4000 := by decide +kernel
          omega
end
end My


set_option Elab.async false
set_option maxRecDepth 100000
set_option maxHeartbeats 2000000
set_option exponentiation.threshold 6000
namespace My
open PySem L2 Evl
def lapV : Option Nat → V
  | none => .non
  | some n => .int (n : Int)
/-- what the laps come to: the state, or the lap that is over -/
def Told (H : Hp) (q : Addr) (s : Int → Option Int) (o : Option Nat) (x : Int) (j : Nat) : Prop := ∃ z, Run s j x z ∧ (∀ N, o = some N → j ≤ N) ∧
  ((s z = none ∧ (∀ N, o = some N → j < N) ∧ H q = some (.tup [.str "over", .int (j : Int)])) ∨ ((s z = some z ∨ o = some j) ∧ H q = some (.tup [.str "state", .int z])))
def sp_summed (a : Ad) : Sp := fun vs H Q _ => ∃ (g : Addr) (b f r L G : Nat) (x p : Int) (y : Wy) (o : Option Nat), vs = [.ref g, .int x, .int p, .str y.str, lapV o] ∧ GridAt a H g b f r L G ∧ OnG b L G x ∧ OnG b L G p ∧ (∀ N, o = some N → N ≤ 10 ^ 18) ∧
  ∀ q q1 j H', Ex H H' → Told H' q1 (stp y b f r p) o x j → H' q = some (.tup [.ref q1, .int (j : Int)]) → Q (.ref q) H'
theorem lap_step {y : Wy} {b f r L G : Nat} (gr : Gr b f r L G) {p z n : Int} (hz : OnG b L G z) (hn : stp y b f r p z = some n) (hne : n ≠ z) : (0 < p → z < n) ∧ (¬ 0 < p → n < z) := by
  obtain ⟨e, _, _⟩ := stp_some gr.hb gr.hf hn
  have := stp_up y gr.hb gr.hf (p := p) (x := z) (by rw [← gr.eL]; exact hz.2)
  rw [← e] at this
  refine ⟨fun h => ?_, fun h => ?_⟩
  · have := this.1 (by omega); omega
  · have := this.2 (by omega); omega
theorem run_dir {y : Wy} {b f r L G : Nat} (gr : Gr b f r L G) {p : Int} : ∀ {k : Nat} {z n : Int}, OnG b L G z → Run (stp y b f r p) k z n → (0 < p → z ≤ n) ∧ (¬ 0 < p → n ≤ z)
  | 0, z, n, hz, h => by
    have h : z = n := h
    subst h
    exact ⟨fun _ => Int.le_refl _, fun _ => Int.le_refl _⟩
  | k + 1, z, n, hz, h => by
    obtain ⟨w, h1, h2, h3⟩ := h
    have ih := run_dir gr (on_rg gr h1) h3
    have st := lap_step gr hz h1 h2
    refine ⟨fun hp => ?_, fun hp => ?_⟩
    · have := ih.1 hp; have := st.1 hp; omega
    · have := ih.2 hp; have := st.2 hp; omega
def meas (p : Int) (G : Nat) (z : Int) : Nat := if 0 < p then ((G : Int) - z).toNat else ((G : Int) + z).toNat
theorem meas_lt {y : Wy} {b f r L G : Nat} (gr : Gr b f r L G) {p z n w : Int} (hz : OnG b L G z) (hn : stp y b f r p z = some n) (hne : n ≠ z) {k : Nat} (hr : Run (stp y b f r p) k n w) (hw : OnG b L G w) : meas p G w < meas p G z := by
  have st := lap_step gr hz hn hne
  have di := run_dir gr (on_rg gr hn) hr
  have hw1 := hw.1
  unfold meas
  by_cases hp : 0 < p
  · rw [if_pos hp, if_pos hp]
    have := st.1 hp; have := di.1 hp; omega
  · rw [if_neg hp, if_neg hp]
    have := st.2 hp; have := di.2 hp; omega
section
variable {P : Program} {w : World} {K : PySem.W.Frag} {mg : Str → Option Value} {base : Heap} {a : Ad}
theorem ok_summed (T : Txt K mg a) : FnOk P w K mg base CX0 4 a.summed a.summed_fd ["grid", "start", "part", "way", "laps"] (sp_summed a) := by
  refine T.F_summed.ok sc_summed (fun vs H Q E h => ?_) (fun cdv A outer s H vs Q E hr h => ?_)
  · obtain ⟨g, b, f, r, L, G, x, p, y, o, rfl, _⟩ := h
    rfl
  · obtain ⟨g, b, f, r, L, G, x, p, y, o, rfl, hg, hx, hp, ho, k⟩ := h
    refine ⟨_, (pss_cons (ps_set (i := 5) sc_summed.nd rfl (Or.inl rfl) (pv 1))
      (pss_cons (ps_set (i := 6) sc_summed.nd rfl (Or.inl rfl) pe_int)
      (pss_cut (ps_while PassesOwn.never (PW.pt (pw_or (pt_cmpR op_isN (pv 4) pe_non (nomark _)) (pw_or1 (pt_cmpR op_lt (pv 6) (pv 4) (nomark _))))) (pss_cons (ps_set (i := 7) sc_summed.nd rfl (Or.inl rfl) (pe_call (ok_fitted T) (hr.mono (by decide)) rfl T.g_fitted T.k_fitted T.B_fitted .nil pass0 (pa_cons (pv 0) (pa_cons (pe_op op_add (pv 5) (pv 2)) (pa_cons pe_int (pa_cons (pv 3) (pa_cons pe_int pa_nil)))))))
      (pss_cons (ps_if (pt_cmpR op_isN (pv 7) pe_non (nomark _)) (pss_one (ps_ret (pe_tup (pa_cons (pe_tup (pa_cons pe_str (pa_cons (pv 6) pa_nil))) (pa_cons (pv 6) pa_nil))))) pss_nil)
      (pss_cons (ps_if (pt_cmpR op_eq (pv 7) (pv 5) (nomark _)) (pss_one ps_break) pss_nil)
      (pss_cons (ps_set (i := 6) sc_summed.nd rfl (Or.inl rfl) (pe_op op_add (pv 6) pe_int))
      (pss_cons (ps_asg (pe_call (ok_laps_ahead T) (hr.mono (by decide)) rfl T.g_laps_ahead T.k_laps_ahead T.B_laps_ahead .nil pass0 (pa_cons (pv 0) (pa_cons (pv 5) (pa_cons (pv 7) (pa_cons (pv 2) (pa_cons (pv 3) pa_nil)))))) (pg_tup rfl (pgs_cons (pg_name (i := 8) sc_summed.nd rfl (Or.inl rfl)) (pgs_cons (pg_name (i := 9) sc_summed.nd rfl (Or.inl rfl)) pgs_nil))))
      (pss_cut (ps_if (pt_cmpR op_notN (pv 4) pe_non (nomark _)) (pss_one (ps_set (i := 9) sc_summed.nd rfl (Or.inl rfl) (pe_callB (call_min2 rfl) (by rfl) T.n_min (by decide +kernel) (pa_cons (pv 9) (pa_cons (pe_op op_sub (pv 4) (pv 6)) pa_nil))))) pss_nil)
      (pss_cons (ps_set (i := 5) sc_summed.nd rfl (Or.inl rfl) (pe_op op_add (pv 7) (pe_op op_mulW (pv 9) (pv 8))))
      (pss_one (ps_set (i := 6) sc_summed.nd rfl (Or.inl rfl) (pe_op op_add (pv 6) (pv 9))))))))))))
      (pss_one (ps_ret (pe_tup (pa_cons (pe_tup (pa_cons pe_str (pa_cons (pv 5) pa_nil))) (pa_cons (pv 6) pa_nil)))))))), ?_⟩
    have hG := hg.bG
    have psz : p.natAbs < 2 ^ 400 := Nat.lt_of_le_of_lt hp.1 hG
    refine ⟨_, rfl, ?_⟩
    refine ⟨fun σ H2 => ∃ (j : Nat) (z : Int) (v1 v2 v3 : Option V), Ex H H2 ∧ Run (stp y b f r p) j x z ∧ (∀ N, o = some N → j ≤ N) ∧ (stp y b f r p z = some z ∨ o = some j) ∧ σ = [some (.ref g), some (.int x), some (.int p), some (.str y.str), some (lapV o), some (.int z), some (.int (j : Int)), v1, v2, v3], ?_, ?_⟩
    rotate_left
    · rintro σ H2 ⟨j, z, v1, v2, v3, e2, hrun, hj, hend, rfl⟩
      refine ⟨_, rfl, by show 2 ≤ sizeLine; decide, fun q1 hq1 => ?_⟩
      have h1 : (upd H2 q1 (.tup [.str "state", .int z])) q1 = some (.tup [.str "state", .int z]) := upd_same
      have e3 := e2.trans (Ex.new (o := .tup [.str "state", .int z]) hq1)
      generalize (upd H2 q1 (.tup [.str "state", .int z])) = H3 at *
      refine ⟨_, rfl, by show 2 ≤ sizeLine; decide, fun q hq => ?_⟩
      exact k q q1 j _ (e3.trans (Ex.new hq)) ⟨z, hrun, hj, .inr ⟨hend, (Ex.new hq) _ _ h1⟩⟩ upd_same
    refine ⟨fun c σ H2 => ∃ (j : Nat) (z : Int) (v1 v2 v3 : Option V), c = meas p G z ∧ Ex H H2 ∧ Run (stp y b f r p) j x z ∧ OnG b L G z ∧ (∀ N, o = some N → j ≤ N) ∧ σ = [some (.ref g), some (.int x), some (.int p), some (.str y.str), some (lapV o), some (.int z), some (.int (j : Int)), v1, v2, v3],
      ⟨_, 0, x, none, none, none, rfl, Ex.refl H, rfl, hx, fun N _ => Nat.zero_le N, rfl⟩, ?_⟩
    rintro c σ H2 ⟨j, z, v1, v2, v3, rfl, e2, hrun, hz, hj, rfl⟩
    have zsz : z.natAbs < 2 ^ 400 := Nat.lt_of_le_of_lt hz.1 hG
    refine (fun (body : (∀ N, o = some N → j < N) → ?BODY) => ?rest) ?prf
    case rest =>
      refine ⟨_, rfl, rfl, _, rfl, ?_⟩
      refine ite2 (fun h => ?_) (fun h => ?_)
      · have hn : o = none := by
          cases o with
          | none => rfl
          | some N => exact absurd h (by simp [lapV])
        refine iteT ?_
        exact body fun N' h' => by rw [hn] at h'; cases h'
      · obtain ⟨N, hN⟩ : ∃ N, o = some N := by
          cases o with
          | none => exact absurd (show decide (lapV none = V.non) = true by decide) h
          | some N => exact ⟨N, rfl⟩
        refine ⟨_, rfl, _, rfl, (j : Int), (N : Int), rfl, by rw [hN]; rfl, _, rfl, ?_⟩
        refine ite2 (fun h => ?_) (fun h => ?_)
        · have h : (j : Int) < (N : Int) := of_decide_eq_true h
          exact body fun N' h' => by rw [hN] at h'; cases h'; omega
        · have h : ¬ (j : Int) < (N : Int) := fun z => h (decide_eq_true z)
          have := hj N hN
          have e : j = N := by omega
          exact ⟨j, z, v1, v2, v3, e2, hrun, hj, .inr (by rw [hN, e]), rfl⟩
    intro hlt
    refine ⟨fun σ' H3 => ∃ (j' : Nat) (z' : Int) (v1 v2 v3 : Option V), meas p G z' < meas p G z ∧ Ex H H3 ∧ Run (stp y b f r p) j' x z' ∧ OnG b L G z' ∧ (∀ N, o = some N → j' ≤ N) ∧ σ' = [some (.ref g), some (.int x), some (.int p), some (.str y.str), some (lapV o), some (.int z'), some (.int (j' : Int)), v1, v2, v3],
      fun σ' H3 ⟨j', z', w1, w2, w3, q1, q2, q3, q4, q5, q6⟩ => ⟨_, q1, j', z', w1, w2, w3, rfl, q2, q3, q4, q5, q6⟩, ?_⟩
    refine ⟨_, rfl, _, rfl, _, rfl, _, _, rfl, rfl, _, rfl, g, b, f, r, L, G, z + p, 1, 0, y, rfl, hg.mono e2, by decide, by decide +kernel, by decide, addsz zsz psz, fun H3 e3 => ?_⟩
    have e3 := e2.trans e3
    cases hn : stp y b f r p z with
    | none =>
      rw [rgO_none hn]
      refine ⟨_, rfl, rfl, _, rfl, ?_⟩
      refine ite2 (fun h => ?_) (fun h => absurd (by simp) h)
      refine ⟨_, rfl, by show 2 ≤ sizeLine; decide, fun q1 hq1 => ?_⟩
      have h1 : (upd H3 q1 (.tup [.str "over", .int (j : Int)])) q1 = some (.tup [.str "over", .int (j : Int)]) := upd_same
      have e4 := e3.trans (Ex.new (o := .tup [.str "over", .int (j : Int)]) hq1)
      generalize (upd H3 q1 (.tup [.str "over", .int (j : Int)])) = H4 at *
      refine ⟨_, rfl, by show 2 ≤ sizeLine; decide, fun q hq => ?_⟩
      exact k q q1 j _ (e4.trans (Ex.new hq)) ⟨z, hrun, hj, .inl ⟨hn, hlt, (Ex.new hq) _ _ h1⟩⟩ upd_same
    | some n =>
      rw [rgO_some hn]
      refine ⟨_, rfl, rfl, _, rfl, ?_⟩
      refine ite2 (fun h => absurd h (by simp)) (fun _ => ?_)
      refine ⟨_, rfl, _, rfl, rfl, _, rfl, ?_⟩
      refine ite2 (fun h => ?_) (fun h => ?_)
      · have h : n = z := by simpa using h
        exact ⟨j, z, _, v2, v3, e3, hrun, hj, .inl (by rw [hn, h]), rfl⟩
      have hne : n ≠ z := by simpa using h
      have nG := on_rg hg.gr hn
      refine ⟨_, rfl, _, _, rfl, rfl, ?_⟩
      refine ⟨_, rfl, _, rfl, _, rfl, _, rfl, _, rfl, g, b, f, r, L, G, z, n, p, y, rfl, hg.mono e3, hz, hp, hn, hne, fun q d m H4 e4 m0 mj msz dsz h4 => ?_⟩
      have e4 := e3.trans e4
      refine ⟨q, _, rfl, SqT.of h4, rfl, _, _, rfl, _, _, rfl, rfl, ?_⟩
      refine ⟨fun σ H5 => ∃ m' : Nat, (m' : Int) ≤ m ∧ (∀ N, o = some N → j + 1 + m' ≤ N) ∧ H5 = H4 ∧ σ = [some (.ref g), some (.int x), some (.int p), some (.str y.str), some (lapV o), some (.int z), some (.int ((j : Int) + 1)), some (.int n), some (.int d), some (.int (m' : Int))], ?_, ?_⟩
      · refine ⟨_, rfl, rfl, _, rfl, ?_⟩
        refine ite2 (fun h => ?_) (fun h => ?_)
        · obtain ⟨N, hN⟩ : ∃ N, o = some N := by
            cases o with
            | none => exact absurd h (by decide)
            | some N => exact ⟨N, rfl⟩
          have hjN := hlt N hN
          refine ⟨_, rfl, _, rfl, _, rfl, (N : Int), _, by rw [hN]; rfl, rfl, _, _, rfl, ?_⟩
          refine ⟨(if (N : Int) - ((j : Int) + 1) < m then (N : Int) - ((j : Int) + 1) else m).toNat, ?_, ?_, rfl, ?_⟩
          · split <;> omega
          · intro N' h'
            rw [hN] at h'
            cases h'
            split <;> omega
          · have e : (((if (N : Int) - ((j : Int) + 1) < m then (N : Int) - ((j : Int) + 1) else m).toNat : Nat) : Int) = (if (N : Int) - ((j : Int) + 1) < m then (N : Int) - ((j : Int) + 1) else m) := by
              split <;> omega
            rw [e]
            rfl
        · have hn : o = none := by
            cases o with
            | none => rfl
            | some N => exact absurd (by simp [lapV]) h
          refine ⟨m.toNat, by omega, (fun N h' => by rw [hn] at h'; cases h'), rfl, ?_⟩
          have e : ((m.toNat : Nat) : Int) = m := by omega
          rw [e]
          rfl
      · rintro σ H5 ⟨m', hm', hN', rfl, rfl⟩
        obtain ⟨r1, r2⟩ := mj m' hm'
        refine ⟨_, rfl, _, rfl, _, rfl, _, _, rfl, rfl, wm (p5000 (k := 4000) (by omega)) (p5000 dsz), _, _, rfl, rfl, ?_⟩
        refine ⟨_, rfl, _, rfl, _, _, rfl, rfl, ?_⟩
        refine ⟨j + 1 + m', n + (m' : Int) * d, some (.int n), some (.int d), some (.int (m' : Int)), meas_lt hg.gr hz hn hne r1 r2, e4, run_app (run_app hrun (run_one hn hne)) r1, r2, hN', ?_⟩
        have e : ((j + 1 + m' : Nat) : Int) = (j : Int) + 1 + (m' : Int) := by omega
        rw [e]
        rfl
end
end My


set_option Elab.async false
set_option maxRecDepth 100000
set_option maxHeartbeats 2000000
set_option exponentiation.threshold 6000
namespace My
open PySem L2 Evl
/-- what drift tells -/
def Lands (H : Hp) (q : Addr) : Nat ⊕ Int → Prop
  | .inl j => H q = some (.tup [.str "over", .int (j : Int)])
  | .inr z => H q = some (.tup [.str "state", .int z])
theorem Lands.ex {H H' : Hp} {q : Addr} {u : Nat ⊕ Int} (h : Lands H q u) (e : Ex H H') : Lands H' q u := by
  cases u with
  | inl j => exact e _ _ h
  | inr z => exact e _ _ h
theorem told_lands {H : Hp} {q : Addr} {s : Int → Option Int} {N j : Nat} {x : Int} (h : Told H q s (some N) x j) : Lands H q (lp s N x 0) := by
  obtain ⟨z, h1, h2, h3⟩ := h
  have hj := h2 N rfl
  obtain ⟨n, rfl⟩ : ∃ n, N = j + n := ⟨N - j, by omega⟩
  rw [lp_run h1]
  rcases h3 with ⟨h4, h5, h6⟩ | ⟨h4, h6⟩
  · have := h5 _ rfl
    obtain ⟨m, rfl⟩ : ∃ m, n = m + 1 := ⟨n - 1, by omega⟩
    show Lands H q (match s z with | none => (Sum.inl (0 + j) : Nat ⊕ Int) | some y => lp s m y (0 + j + 1))
    rw [h4, Nat.zero_add]
    exact h6
  · rcases h4 with h4 | h4
    · rw [lp_stay h4]
      exact h6
    · have : n = 0 := by
        have := Option.some.inj h4
        omega
      subst this
      exact h6
/-- what stall tells -/
def Stalls (H : Hp) (q : Addr) (s : Int → Option Int) (x : Int) : Prop := ∃ (j : Nat) (z : Int), Run s j x z ∧ ((s z = none ∧ H q = some (.tup [.str "over", .int (j : Int)])) ∨ (s z = some z ∧ H q = some (.tup [.str "stalls", .int z, .int (j : Int)])))
theorem Stalls.ex {H H' : Hp} {q : Addr} {s : Int → Option Int} {x : Int} (h : Stalls H q s x) (e : Ex H H') : Stalls H' q s x := by
  obtain ⟨j, z, h1, h2⟩ := h
  refine ⟨j, z, h1, ?_⟩
  rcases h2 with ⟨h2, h3⟩ | ⟨h2, h3⟩
  · exact .inl ⟨h2, e _ _ h3⟩
  · exact .inr ⟨h2, e _ _ h3⟩
def sp_drift (a : Ad) : Sp := fun vs H Q _ => ∃ (g : Addr) (b f r L G : Nat) (x p : Int) (y : Wy) (N : Nat), vs = [.ref g, .int x, .int p, .str y.str, .int (N : Int)] ∧ GridAt a H g b f r L G ∧ OnG b L G x ∧ OnG b L G p ∧ N ≤ 10 ^ 18 ∧ ∀ q H', Ex H H' → Lands H' q (lp (stp y b f r p) N x 0) → Q (.ref q) H'
def sp_stall (a : Ad) : Sp := fun vs H Q _ => ∃ (g : Addr) (b f r L G : Nat) (x p : Int) (y : Wy), vs = [.ref g, .int x, .int p, .str y.str] ∧ GridAt a H g b f r L G ∧ OnG b L G x ∧ OnG b L G p ∧ ∀ q H', Ex H H' → Stalls H' q (stp y b f r p) x → Q (.ref q) H'
def sp_own_laps (K : PySem.W.Frag) : Sp := fun vs H Q _ => ∃ (t : Addr) (b f r pl : Nat) (x p : Int) (y : Wy) (N : Nat), vs = [.ref t, .int x, .int p, .str y.str, .int (N : Int)] ∧ TG K H t b f r pl ∧ okg b f r ∧ x.natAbs ≤ gG b f r ∧ p.natAbs ≤ gG b f r ∧
  ∀ q j z (o : Bool) H', Ex H H' → Run (stp y b f r p) j x z → j ≤ N → ((o = true ∧ stp y b f r p z = none ∧ j < N) ∨ (o = false ∧ (stp y b f r p z = some z ∧ j < N ∨ j = N))) → H' q = some (.tup [.int z, .int (j : Int), .bl o]) → Q (.ref q) H'
section
variable {P : Program} {w : World} {K : PySem.W.Frag} {mg : Str → Option Value} {base : Heap} {a : Ad}
theorem ok_drift (T : Txt K mg a) : FnOk P w K mg base CX0 6 a.drift a.drift_fd ["grid", "start", "part", "way", "laps"] (sp_drift a) := by
  refine T.F_drift.ok sc_drift (fun vs H Q E h => ?_) (fun cdv A outer s H vs Q E hr h => ?_)
  · obtain ⟨g, b, f, r, L, G, x, p, y, N, rfl, _⟩ := h
    rfl
  · obtain ⟨g, b, f, r, L, G, x, p, y, N, rfl, hg, hx, hp, hN, k⟩ := h
    refine ⟨_, (pss_cons (ps_expr (pe_call (ok_check_summed T) (hr.mono (by decide)) rfl T.g_check_summed T.k_check_summed T.B_check_summed .nil pass0 (pa_cons (pv 0) (pa_cons (pv 1) (pa_cons (pv 2) (pa_cons (pv 3) pa_nil))))))
      (pss_cons (ps_expr (pe_call (ok_check_laps T) (hr.mono (by decide)) rfl T.g_check_laps T.k_check_laps T.B_check_laps .nil pass0 (pa_cons (pv 4) pa_nil)))
      (pss_one (ps_ret (pe_ix ix_tup (pe_call (ok_summed T) (hr.mono (by decide)) rfl T.g_summed T.k_summed T.B_summed .nil pass0 (pa_cons (pv 0) (pa_cons (pv 1) (pa_cons (pv 2) (pa_cons (pv 3) (pa_cons (pv 4) pa_nil)))))) pe_int (fun _ _ => rfl)))))), ?_⟩
    refine ⟨_, rfl, _, rfl, _, rfl, _, rfl, g, b, f, r, L, G, x, p, y, rfl, hg, hx, hp, fun H1 e1 => ?_⟩
    refine ⟨_, rfl, N, rfl, hN, fun H2 e2 => ?_⟩
    refine ⟨_, rfl, _, rfl, _, rfl, _, rfl, _, rfl, g, b, f, r, L, G, x, p, y, some N, rfl, hg.mono (e1.trans e2), hx, hp, (fun N' h' => by cases h'; exact hN), fun q q1 j H3 e3 t3 h3 => ?_⟩
    exact ⟨q, _, _, _, rfl, rfl, SqT.of h3, atN (m := 0) rfl, k q1 H3 ((e1.trans e2).trans e3) (told_lands t3)⟩
theorem ok_stall (T : Txt K mg a) : FnOk P w K mg base CX0 6 a.stall a.stall_fd ["grid", "start", "part", "way"] (sp_stall a) := by
  refine T.F_stall.ok sc_stall (fun vs H Q E h => ?_) (fun cdv A outer s H vs Q E hr h => ?_)
  · obtain ⟨g, b, f, r, L, G, x, p, y, rfl, _⟩ := h
    rfl
  · obtain ⟨g, b, f, r, L, G, x, p, y, rfl, hg, hx, hp, k⟩ := h
    refine ⟨_, (pss_cons (ps_expr (pe_call (ok_check_summed T) (hr.mono (by decide)) rfl T.g_check_summed T.k_check_summed T.B_check_summed .nil pass0 (pa_cons (pv 0) (pa_cons (pv 1) (pa_cons (pv 2) (pa_cons (pv 3) pa_nil))))))
      (pss_cons (ps_asg (pe_call (ok_summed T) (hr.mono (by decide)) rfl T.g_summed T.k_summed T.B_summed .nil pass0 (pa_cons (pv 0) (pa_cons (pv 1) (pa_cons (pv 2) (pa_cons (pv 3) (pa_cons pe_non pa_nil)))))) (pg_tup rfl (pgs_cons (pg_name (i := 4) sc_stall.nd rfl (Or.inl rfl)) (pgs_cons (pg_name (i := 5) sc_stall.nd rfl (Or.inl rfl)) pgs_nil))))
      (pss_one (ps_ret (pe_ifExp (pt_cmpR op_eq (pe_ix ix_tup (pv 4) pe_int (fun _ _ => rfl)) pe_str (nomark _)) (pe_tup (pa_cons pe_str (pa_cons (pe_ix ix_tup (pv 4) pe_int (fun _ _ => rfl)) (pa_cons (pv 5) pa_nil)))) (pv 4)))))), ?_⟩
    refine ⟨_, rfl, _, rfl, _, rfl, _, rfl, g, b, f, r, L, G, x, p, y, rfl, hg, hx, hp, fun H1 e1 => ?_⟩
    refine ⟨_, rfl, _, rfl, _, rfl, _, rfl, g, b, f, r, L, G, x, p, y, none, rfl, hg.mono e1, hx, hp, (fun N' h' => by cases h'), fun q q1 j H3 e3 t3 h3 => ?_⟩
    refine ⟨q, _, rfl, SqT.of h3, rfl, _, _, rfl, _, _, rfl, rfl, ?_⟩
    have e13 := e1.trans e3
    obtain ⟨z, h1, h2, h4⟩ := t3
    rcases h4 with ⟨h4, _, h5⟩ | ⟨h4, h5⟩
    · refine ⟨_, rfl, q1, _, _, _, rfl, rfl, SqT.of h5, atN (m := 0) rfl, rfl, _, rfl, ?_⟩
      refine ite2 (fun h => absurd h (by decide +kernel)) (fun _ => ?_)
      exact ⟨_, rfl, k q1 H3 e13 ⟨j, z, h1, .inl ⟨h4, h5⟩⟩⟩
    · have h4 : stp y b f r p z = some z := by
        rcases h4 with h4 | h4
        · exact h4
        · cases h4
      refine ⟨_, rfl, q1, _, _, _, rfl, rfl, SqT.of h5, atN (m := 0) rfl, rfl, _, rfl, ?_⟩
      refine ite2 (fun _ => ?_) (fun h => absurd (by decide +kernel) h)
      refine ⟨_, rfl, q1, _, _, _, rfl, rfl, SqT.of h5, atN (m := 1) rfl, _, rfl, by show 3 ≤ sizeLine; decide, fun t ht => ?_⟩
      exact k t _ (e13.trans (Ex.new ht)) ⟨j, z, h1, .inr ⟨h4, upd_same⟩⟩
theorem kb_stall (T : Txt K mg a) : KBinds K a.stall_fd ["grid", "start", "part", "way"] ["part", "start", "way", "grid"] (kw4 fun p s w g => [g, s, p, w]) (kw4 fun p s w g => [g, s, p, w]) :=
  kbind4 T.F_stall (fun p s w g => [g, s, p, w]) (by decide) (fun _ _ _ _ _ _ _ _ _ _ => rfl) (fun a b c d => .cons d (.cons b (.cons a (.cons c .nil))))
theorem ok_l_own_laps (T : Txt K mg a) : FnOk P w K mg base CX0 4 a.l_own_laps a.l_own_laps_fd ["grid", "state", "part", "way", "laps"] (sp_own_laps K) := by
  refine T.F_l_own_laps.ok sc_l_own_laps (fun vs H Q E h => ?_) (fun cdv A outer s H vs Q E hr h => ?_)
  · obtain ⟨t, b, f, r, pl, x, p, y, N, rfl, _⟩ := h
    rfl
  · obtain ⟨t, b, f, r, pl, x, p, y, N, rfl, ht, hok, hx, hp, k⟩ := h
    refine ⟨_, (pss_cons (ps_set (i := 5) sc_l_own_laps.nd rfl (Or.inl rfl) pe_int)
      (pss_cons (ps_while PassesOwn.never (pt_cmpR op_lt (pv 5) (pv 4) (nomark _)) (pss_cons (ps_set (i := 6) sc_l_own_laps.nd rfl (Or.inl rfl) (pe_call (ok_l_grid_rounded T) (hr.mono (by decide)) rfl T.g_l_grid_rounded T.k_l_grid_rounded T.B_l_grid_rounded .nil pass0 (pa_cons (pv 0) (pa_cons (pe_op op_add (pv 1) (pv 2)) (pa_cons pe_int (pa_cons (pv 3) (pa_cons pe_int pa_nil)))))))
      (pss_cons (ps_if (PW.pt (pw_or (pt_cmpR op_isN (pv 6) pe_non (nomark _)) (pw_or1 (pt_cmpR op_eq (pv 6) (pv 1) (nomark _))))) (pss_one (ps_ret (pe_tup (pa_cons (pv 1) (pa_cons (pv 5) (pa_cons (pe_cmpR op_isN (pv 6) pe_non (nomark _)) pa_nil)))))) pss_nil)
      (pss_one (ps_par (i := 1) (j := 5) (by rfl) sc_l_own_laps.nd rfl rfl (by decide) rfl rfl (pa_cons (pv 6) (pa_cons (pe_op op_add (pv 5) pe_int) pa_nil)) (by rfl))))))
      (pss_one (ps_ret (pe_tup (pa_cons (pv 1) (pa_cons (pv 5) (pa_cons pe_bl pa_nil)))))))), ?_⟩
    have hG := hok.bG
    have hg : gG b f r = (b ^ f - 1) * b ^ r := rfl
    refine ⟨fun c σ H2 => ∃ (j : Nat) (z : Int) (v : Option V), c = N - j ∧ Ex H H2 ∧ Run (stp y b f r p) j x z ∧ z.natAbs ≤ gG b f r ∧ j ≤ N ∧ σ = [some (.ref t), some (.int z), some (.int p), some (.str y.str), some (.int (N : Int)), some (.int (j : Int)), v],
      ⟨_, 0, x, none, rfl, Ex.refl H, rfl, hx, Nat.zero_le _, rfl⟩, ?_⟩
    rintro c σ H2 ⟨j, z, v, rfl, e2, hrun, hz, hj, rfl⟩
    refine ⟨_, rfl, _, rfl, _, _, rfl, rfl, _, rfl, ?_⟩
    refine ite2 (fun h => ?_) (fun h => ?_)
    rotate_left
    · have h : ¬ (j : Int) < (N : Int) := fun z => h (decide_eq_true z)
      have e : j = N := by omega
      refine ⟨_, rfl, _, rfl, by show 3 ≤ sizeLine; decide, fun q hq => ?_⟩
      exact k q j z false _ (e2.trans (Ex.new hq)) hrun hj (.inr ⟨rfl, .inr e⟩) upd_same
    have h : (j : Int) < (N : Int) := of_decide_eq_true h
    refine ⟨fun σ' H3 => ∃ (j' : Nat) (z' : Int) (v : Option V), N - j' < N - j ∧ Ex H H3 ∧ Run (stp y b f r p) j' x z' ∧ z'.natAbs ≤ gG b f r ∧ j' ≤ N ∧ σ' = [some (.ref t), some (.int z'), some (.int p), some (.str y.str), some (.int (N : Int)), some (.int (j' : Int)), v],
      fun σ' H3 ⟨j', z', v, q1, q2, q3, q4, q5, q6⟩ => ⟨_, q1, j', z', v, rfl, q2, q3, q4, q5, q6⟩, ?_⟩
    refine ⟨_, rfl, _, rfl, _, rfl, _, _, rfl, rfl, _, rfl, t, b, f, r, pl, z + p, 1, 0, y, rfl, ht.ex e2, hok.v, by decide, by decide +kernel, addsz (Nat.lt_of_le_of_lt hz hG) (Nat.lt_of_le_of_lt hp hG), fun H3 e3 => ?_⟩
    have e3 := e2.trans e3
    cases hn : stp y b f r p z with
    | none =>
      rw [rgO_none hn]
      refine ⟨_, rfl, rfl, _, rfl, ?_⟩
      refine ite2 (fun h => ?_) (fun h => absurd (by simp) h)
      refine ⟨_, rfl, _, rfl, _, rfl, rfl, by show 3 ≤ sizeLine; decide, fun q hq => ?_⟩
      exact k q j z true _ (e3.trans (Ex.new hq)) hrun hj (.inl ⟨rfl, hn, by omega⟩) upd_same
    | some n =>
      rw [rgO_some hn]
      refine ⟨_, rfl, rfl, _, rfl, ?_⟩
      refine ite2 (fun h => absurd h (by simp)) (fun _ => ?_)
      refine ⟨_, rfl, _, rfl, rfl, _, rfl, ?_⟩
      refine ite2 (fun h => ?_) (fun h => ?_)
      · have h : n = z := by simpa using h
        refine ⟨_, rfl, _, rfl, _, rfl, rfl, by show 3 ≤ sizeLine; decide, fun q hq => ?_⟩
        exact k q j z false _ (e3.trans (Ex.new hq)) hrun hj (.inr ⟨rfl, .inl ⟨by rw [hn, h], by omega⟩⟩) upd_same
      have hne : n ≠ z := by simpa using h
      refine ⟨_, rfl, _, rfl, _, _, rfl, rfl, _, _, rfl, ?_⟩
      refine ⟨j + 1, n, some (.int n), by omega, e3, run_app hrun (run_one hn hne), ?_, by omega, ?_⟩
      · unfold stp at hn
        split at hn
        · cases hn; assumption
        · cases hn
      · rfl
end
end My


set_option Elab.async false
set_option maxRecDepth 100000
set_option maxHeartbeats 8000000
set_option exponentiation.threshold 6000
namespace My
open PySem L2 Evl
def Rp (d : PyData) : Prop := d.showable = true ∧ d.hasDict = false ∧ d.depth ≤ 60 ∧ (∀ z, d ≠ .str z) ∧ d.shown.length ≤ sizeLine
theorem lg {i : Int} {k : Nat} (h : i.natAbs < 2 ^ k) (h0 : 0 < k) (hk : k ≤ 1920) : i.natAbs.log2 < 1920 := Nat.lt_of_lt_of_le (PySem.Flt.log2_lt_of h0 h) hk
/-- what can stand in a told tuple -/
def Small (d : PyData) : Prop := d.showable = true ∧ d.hasDict = false ∧ d.depth = 0 ∧ d.shown.length ≤ 2000
theorem sm_int {i : Int} (h : i.natAbs.log2 < 1920) : Small (.int i) := ⟨decide_eq_true h, rfl, rfl, Nat.le_trans (PyProof.Rows.int_text_len_1921 h) (by decide)⟩
theorem sm_over : Small (.str "over") := ⟨rfl, rfl, rfl, by decide +kernel⟩
theorem sm_state : Small (.str "state") := ⟨rfl, rfl, rfl, by decide +kernel⟩
theorem sm_stalls : Small (.str "stalls") := ⟨rfl, rfl, rfl, by decide +kernel⟩
theorem rp_tup2 {x y : PyData} (hx : Small x) (hy : Small y) : Rp (.tuple [x, y]) := by
  refine ⟨?_, ?_, ?_, nofun, ?_⟩
  · show (PyData.showable x && (PyData.showable y && true)) = true
    rw [hx.1, hy.1]; rfl
  · show (PyData.hasDict x || (PyData.hasDict y || false)) = false
    rw [hx.2.1, hy.2.1]; rfl
  · show max (PyData.depth x) (max (PyData.depth y) 0) + 1 ≤ 60
    rw [hx.2.2.1, hy.2.2.1]
    decide
  · show (tupleText [PyData.shown x, PyData.shown y]).length ≤ sizeLine
    have h2 := tupleText_le (M := 2000) (ts := [PyData.shown x, PyData.shown y]) (fun t ht => by
      rcases List.mem_cons.mp ht with rfl | ht
      · exact hx.2.2.2
      · rw [List.mem_singleton.mp ht]; exact hy.2.2.2)
    exact Nat.le_trans h2 (by show (2000 + 2) * 2 + 10 ≤ sizeLine; decide)
theorem rp_tup3 {x y z : PyData} (hx : Small x) (hy : Small y) (hz : Small z) : Rp (.tuple [x, y, z]) := by
  refine ⟨?_, ?_, ?_, nofun, ?_⟩
  · show (PyData.showable x && (PyData.showable y && (PyData.showable z && true))) = true
    rw [hx.1, hy.1, hz.1]; rfl
  · show (PyData.hasDict x || (PyData.hasDict y || (PyData.hasDict z || false))) = false
    rw [hx.2.1, hy.2.1, hz.2.1]; rfl
  · show max (PyData.depth x) (max (PyData.depth y) (max (PyData.depth z) 0)) + 1 ≤ 60
    rw [hx.2.2.1, hy.2.2.1, hz.2.2.1]
    decide
  · show (tupleText [PyData.shown x, PyData.shown y, PyData.shown z]).length ≤ sizeLine
    have h2 := tupleText_le (M := 2000) (ts := [PyData.shown x, PyData.shown y, PyData.shown z]) (fun t ht => by
      rcases List.mem_cons.mp ht with rfl | ht
      · exact hx.2.2.2
      rcases List.mem_cons.mp ht with rfl | ht
      · exact hy.2.2.2
      · rw [List.mem_singleton.mp ht]; exact hz.2.2.2)
    exact Nat.le_trans h2 (by show (2000 + 2) * 3 + 10 ≤ sizeLine; decide)
/-- what drift tells, as data -/
def dlp : Nat ⊕ Int → PyData
  | .inl j => .tuple [.str "over", .int (j : Int)]
  | .inr z => .tuple [.str "state", .int z]
theorem lands_dp {K : PySem.W.Frag} {H : Hp} {q : Addr} {u : Nat ⊕ Int} (h : Lands H q u) : Dp K H (.ref q) (dlp u) := by
  cases u with
  | inl j => exact .tup (SqT.of h) (.cons (.str _) (.cons (.int _) .nil))
  | inr z => exact .tup (SqT.of h) (.cons (.str _) (.cons (.int _) .nil))
def lpsz : Nat ⊕ Int → Prop
  | .inl j => ((j : Nat) : Int).natAbs.log2 < 1920
  | .inr z => z.natAbs.log2 < 1920
theorem rp_lp {u : Nat ⊕ Int} (h : lpsz u) : Rp (dlp u) := by
  cases u with
  | inl j => exact rp_tup2 sm_over (sm_int h)
  | inr z => exact rp_tup2 sm_state (sm_int h)
theorem nat_lg {j : Nat} (h : j < 2 ^ 70) : ((j : Nat) : Int).natAbs.log2 < 1920 := lg (k := 70) (by rw [Int.natAbs_natCast]; exact h) (by decide) (by decide)
theorem lp_le {s : Int → Option Int} : ∀ {n k j : Nat} {x : Int}, lp s n x k = .inl j → k ≤ j ∧ j < k + n
  | 0, k, j, x, h => by cases h
  | n + 1, k, j, x, h => by
    have h : (match s x with | none => (Sum.inl k : Nat ⊕ Int) | some y => lp s n y (k + 1)) = .inl j := h
    cases hs : s x with
    | none =>
      rw [hs] at h
      cases h
      exact ⟨Nat.le_refl _, by omega⟩
    | some y =>
      rw [hs] at h
      have := lp_le h
      omega
theorem lp_on {y : Wy} {b f r L G : Nat} (gr : Gr b f r L G) {p : Int} : ∀ {n k : Nat} {x z : Int}, OnG b L G x → lp (stp y b f r p) n x k = .inr z → OnG b L G z
  | 0, k, x, z, hx, h => by cases h; exact hx
  | n + 1, k, x, z, hx, h => by
    have h : (match stp y b f r p x with | none => (Sum.inl k : Nat ⊕ Int) | some w => lp (stp y b f r p) n w (k + 1)) = .inr z := h
    cases hs : stp y b f r p x with
    | none => rw [hs] at h; cases h
    | some w =>
      rw [hs] at h
      exact lp_on gr (on_rg gr hs) h
theorem lpsz_of {y : Wy} {b f r : Nat} (hok : okg b f r) {p x : Int} {N : Nat} (hx : OnG b (b ^ f) (gG b f r) x) (hN : N ≤ 10 ^ 18 + 1) : lpsz (lp (stp y b f r p) N x 0) := by
  cases h : lp (stp y b f r p) N x 0 with
  | inl j =>
    have := lp_le h
    exact nat_lg (by omega)
  | inr z =>
    have := lp_on hok.gr hx h
    exact lg (Nat.lt_of_le_of_lt this.1 hok.bG) (by decide) (by decide)
theorem own_lands {s : Int → Option Int} {j N : Nat} {x z : Int} {o : Bool} (h1 : Run s j x z) (h2 : j ≤ N) (h3 : (o = true ∧ s z = none ∧ j < N) ∨ (o = false ∧ (s z = some z ∧ j < N ∨ j = N))) : lp s N x 0 = if o = true then .inl j else .inr z := by
  obtain ⟨n, rfl⟩ : ∃ n, N = j + n := ⟨N - j, by omega⟩
  rw [lp_run h1, Nat.zero_add]
  rcases h3 with ⟨rfl, h4, h5⟩ | ⟨rfl, h4 | h4⟩
  · obtain ⟨m, rfl⟩ : ∃ m, n = m + 1 := ⟨n - 1, by omega⟩
    show (match s z with | none => (Sum.inl j : Nat ⊕ Int) | some y => lp s m y (j + 1)) = _
    rw [h4]
    rfl
  · rw [lp_stay h4.1]
    rfl
  · have : n = 0 := by omega
    subst this
    rfl
theorem onG_b {b f r : Nat} (hok : okg b f r) {z : Int} (hz : z = (b : Int)) (h : z.natAbs ≤ gG b f r) : OnG b (b ^ f) (gG b f r) z := by
  subst hz
  refine onG_of (k := 1) hok.gr h ?_ ?_
  · rw [Int.natAbs_natCast, Nat.pow_one]
    have h1 : b ^ 1 ≤ b ^ f := Nat.pow_le_pow_right (by have := hok.1; omega) hok.2.2.1
    rw [Nat.pow_one] at h1
    have h2 : 2 ≤ b := hok.1
    have h3 : 2 * b ≤ b ^ f * b := Nat.mul_le_mul_right _ (by omega)
    omega
  · rw [Nat.pow_one]
    exact Int.dvd_refl _
def sp_small : Sp := fun vs H Q _ => ∃ (p : Addr) (n : Nat), vs = [.ref p] ∧ PotAt H p n ∧ n + 1000 ≤ 100000 ∧ ∀ H', Kp p H H' → PotAt H' p (n + 500) → Q (.bl true) H'
theorem ex_made {H H1 : Hp} {x dx C : Addr} (nx : H x = none) (nd : H dx = none) (k : Kp x (upd (upd H dx (.own x)) x (.ins C dx [])) H1) : Ex H H1 := Same.made nx nd k
theorem Kp.of {p : Addr} {H H' : Hp} (e : Ex H H') : Kp p H H' := fun c u hc _ => e c u hc
theorem GridAt.kp {a : Ad} {H H' : Hp} {g p : Addr} {b f r L G n : Nat} (h : GridAt a H g b f r L G) (hp : PotAt H p n) (kq : Kp p H H') : GridAt a H' g b f r L G := by
  obtain ⟨h1, h2, h3, h4, dx', lim, tops, p', u', xs', ys', h5, h6, h7, h8⟩ := h
  obtain ⟨y1, y2, y3, hpp, _⟩ := hp
  have q1 : g ≠ p := ne_of h5 hpp (by intro z; cases z)
  have q2 : lim ≠ p := ne_of h6 hpp (by intro z; cases z)
  have q3 : tops ≠ p := ne_of h7 hpp (by intro z; cases z)
  exact ⟨h1, h2, h3, h4, dx', lim, tops, p', u', xs', ys', kq _ _ h5 q1, kq _ _ h6 q2, kq _ _ h7 q3, h8⟩
theorem one_on {b f r : Nat} (hok : okg b f r) : OnG b (b ^ f) (gG b f r) 1 := onG_small (n := 1) hok.gr (by have := hok.gr.L1; omega)
section
variable {P : Program} {w : World} {K : PySem.W.Frag} {mg : Str → Option Value} {base : Heap} {a : Ad}
theorem ok_l_small_right (T : Txt K mg a) : GOk P w K mg base 7 a.l_small_right a.l_small_right_fd ["pot"] sp_small := by
  refine okG T.F_l_small_right sc_l_small_right (fun vs H Q E h => ?_) (fun cdv A outer s H vs Q E hG hr h => ?_)
  · obtain ⟨p, n, rfl, _⟩ := h
    rfl
  · obtain ⟨p, n, rfl, hp, hn, k⟩ := h
    refine ⟨_, (pss_cut (ps_set (i := 1) sc_l_small_right.nd rfl (Or.inl rfl) (pe_call (ok_l_grid_drawn T) (hr.mono (by decide)) rfl T.g_l_grid_drawn T.k_l_grid_drawn T.B_l_grid_drawn .nil pass0 (pa_cons (pv 0) pa_nil)))
      (pss_cut (ps_set (i := 2) sc_l_small_right.nd rfl (Or.inl rfl) (pe_make T.mk_Grid (ok_Grid_init T) (hr.mono (by decide)) rfl T.g_Grid T.B_Grid_init .nil pass0 (pa_cons (pe_ix ix_tup (pv 1) pe_int (fun _ _ => rfl)) (pa_cons (pe_ix ix_tup (pv 1) pe_int (fun _ _ => rfl)) (pa_cons (pe_ix ix_tup (pv 1) pe_int (fun _ _ => rfl)) (pa_cons (pe_ix ix_tup (pv 1) pe_int (fun _ _ => rfl)) pa_nil))))))
      (pss_cons (ps_for PassesOwn.never rfl (pi_range1 rfl T.n_range (pa_cons pe_int pa_nil)) (pg_name (i := 3) sc_l_small_right.nd rfl (Or.inl rfl)) (pss_cons (ps_par (i := 4) (j := 5) (by rfl) sc_l_small_right.nd rfl rfl (by decide) rfl rfl (pa_cons (pe_call (ok_l_grid_a_number T) (hr.mono (by decide)) rfl T.g_l_grid_a_number T.k_l_grid_a_number T.B_l_grid_a_number .nil pass0 (pa_cons (pv 0) (pa_cons (pv 1) pa_nil))) (pa_cons (pe_call (ok_l_grid_a_number T) (hr.mono (by decide)) rfl T.g_l_grid_a_number T.k_l_grid_a_number T.B_l_grid_a_number .nil pass0 (pa_cons (pv 0) (pa_cons (pv 1) pa_nil))) pa_nil)) (by rfl))
      (pss_cut (ps_set (i := 5) sc_l_small_right.nd rfl (Or.inl rfl) (pe_call (ok_l_of T) (hr.mono (by decide)) rfl T.g_l_of T.k_l_of T.B_l_of .nil pass0 (pa_cons (pv 0) (pa_cons (pe_lst (pa_cons (pv 5) (pa_cons pe_int (pa_cons (pe_un un_neg pe_int) (pa_cons (pe_callB (call_min2 rfl) (by rfl) T.n_min (by decide +kernel) (pa_cons (pe_call (ok_l_grid_greatest T) (hr.mono (by decide)) rfl T.g_l_grid_greatest T.k_l_grid_greatest T.B_l_grid_greatest .nil pass0 (pa_cons (pv 1) pa_nil)) (pa_cons (pe_ix ix_tup (pv 1) pe_int (fun _ _ => rfl)) pa_nil))) pa_nil))))) pa_nil))))
      (pss_cut (ps_par (i := 6) (j := 7) (by rfl) sc_l_small_right.nd rfl rfl (by decide) rfl rfl (pa_cons (pe_call (ok_l_of T) (hr.mono (by decide)) rfl T.g_l_of T.k_l_of T.B_l_of .nil pass0 (pa_cons (pv 0) (pa_cons (pe_lst (pa_cons pe_str (pa_cons pe_str (pa_cons pe_str (pa_cons pe_str (pa_cons pe_str pa_nil)))))) pa_nil))) (pa_cons (pe_call (ok_l_of T) (hr.mono (by decide)) rfl T.g_l_of T.k_l_of T.B_l_of .nil pass0 (pa_cons (pv 0) (pa_cons (pe_lst (pa_cons pe_int (pa_cons pe_int (pa_cons pe_int (pa_cons pe_int (pa_cons pe_int pa_nil)))))) pa_nil))) pa_nil)) (by rfl))
      (pss_cut (ps_asg (pe_call (ok_l_own_laps T) (hr.mono (by decide)) rfl T.g_l_own_laps T.k_l_own_laps T.B_l_own_laps .nil pass0 (pa_cons (pv 1) (pa_cons (pv 4) (pa_cons (pv 5) (pa_cons (pv 6) (pa_cons (pv 7) pa_nil)))))) (pg_tup rfl (pgs_cons (pg_name (i := 8) sc_l_small_right.nd rfl (Or.inl rfl)) (pgs_cons (pg_name (i := 9) sc_l_small_right.nd rfl (Or.inl rfl)) (pgs_cons (pg_name (i := 10) sc_l_small_right.nd rfl (Or.inl rfl)) pgs_nil)))))
      (pss_cut (ps_set (i := 11) sc_l_small_right.nd rfl (Or.inl rfl) (pe_ifExp (pt_val (pv 10)) (pe_tup (pa_cons pe_str (pa_cons (pv 9) pa_nil))) (pe_tup (pa_cons pe_str (pa_cons (pv 8) pa_nil)))))
      (pss_cut (ps_if (pt_cmpR op_ne (pe_callB (cr_repr hG hr.units) (by rfl) T.n_repr (by decide +kernel) (pa_cons (pe_call (ok_drift T) (hr.mono (by decide)) rfl T.g_drift T.k_drift T.B_drift .nil pass0 (pa_cons (pv 2) (pa_cons (pv 4) (pa_cons (pv 5) (pa_cons (pv 6) (pa_cons (pv 7) pa_nil)))))) pa_nil)) (pe_callB (cr_repr hG hr.units) (by rfl) T.n_repr (by decide +kernel) (pa_cons (pv 11) pa_nil)) (nomark _)) (pss_one (ps_ret pe_bl)) pss_nil)
      (pss_cut (ps_asg (pe_call (ok_l_own_laps T) (hr.mono (by decide)) rfl T.g_l_own_laps T.k_l_own_laps T.B_l_own_laps .nil pass0 (pa_cons (pv 1) (pa_cons (pv 4) (pa_cons (pv 5) (pa_cons (pv 6) (pa_cons pe_int pa_nil)))))) (pg_tup rfl (pgs_cons (pg_name (i := 8) sc_l_small_right.nd rfl (Or.inl rfl)) (pgs_cons (pg_name (i := 9) sc_l_small_right.nd rfl (Or.inl rfl)) (pgs_cons (pg_name (i := 10) sc_l_small_right.nd rfl (Or.inl rfl)) pgs_nil)))))
      (pss_one (ps_if (pt_cmpR op_lt (pv 9) pe_int (nomark _)) (pss_cut (ps_set (i := 11) sc_l_small_right.nd rfl (Or.inl rfl) (pe_ifExp (pt_val (pv 10)) (pe_tup (pa_cons pe_str (pa_cons (pv 9) pa_nil))) (pe_tup (pa_cons pe_str (pa_cons (pv 8) (pa_cons (pv 9) pa_nil))))))
      (pss_one (ps_if (pt_cmpR op_ne (pe_callB (cr_repr hG hr.units) (by rfl) T.n_repr (by decide +kernel) (pa_cons (pe_callK0 (ok_stall T) (hr.mono (by decide)) rfl T.g_stall T.k_stall (kb_stall T) pass0 (pk_cons (pv 5) (pk_cons (pv 4) (pk_cons (pv 6) (pk_cons (pv 2) pk_nil))))) pa_nil)) (pe_callB (cr_repr hG hr.units) (by rfl) T.n_repr (by decide +kernel) (pa_cons (pv 11) pa_nil)) (nomark _)) (pss_one (ps_ret pe_bl)) pss_nil))) pss_nil))))))))))
      (pss_one (ps_ret pe_bl))))), ?_⟩
    refine ⟨fun σ H' => Kp p H H' ∧ PotAt H' p (n + 4) ∧ ∃ (t : Addr) (b f r pl : Nat), H' t = some (.tup [.int b, .int f, .int r, .int pl]) ∧ okg b f r ∧ pl ≤ 30 ∧ σ = [some (.ref p), some (.ref t), none, none, none, none, none, none, none, none, none, none], ?_, ?_⟩
    · refine ⟨_, rfl, p, n, rfl, hp, by omega, fun t b f r pl H1 k1 p1 ht hok hpl _ hr3 hb f4 => ?_⟩
      exact ⟨k1, p1, t, b, f, r, pl, ht, hok, hpl, rfl⟩
    rintro σ H1 ⟨k1, p1, t, b, f, r, pl, ht, hok, hpl, rfl⟩
    have nt := ne_tup ht p1
    have tg : SqT K H1 t [V.int b, V.int f, V.int r, V.int pl] := SqT.of ht
    refine ⟨fun σ H' => ∃ (x : Addr), Ex H1 H' ∧ GridAt a H' x b f r (b ^ f) (gG b f r) ∧ σ = [some (.ref p), some (.ref t), some (.ref x), none, none, none, none, none, none, none, none, none], ?_, ?_⟩
    · refine ⟨_, rfl, t, _, _, _, rfl, rfl, tg, g0, _, rfl, t, _, _, _, rfl, rfl, tg, g1, _, rfl, t, _, _, _, rfl, rfl, tg, g2, _, rfl, t, _, _, _, rfl, rfl, tg, g3, fun x dx nx ndx nex => ?_⟩
      refine ⟨x, dx, b, f, r, pl, rfl, upd_same, ⟨hok.1, hok.2.1, hok.2.2.1, hok.2.2.2.1, hok.2.2.2.2, hpl⟩, fun H10 k10 ga => ⟨rfl, ?_⟩⟩
      have e10 : Ex H1 H10 := ex_made nx ndx k10
      exact ⟨x, e10, ga, rfl⟩
    rintro σ H4 ⟨x, e4, ga4, rfl⟩
    have k4 := k1.ex e4
    have p4 := p1.ex e4
    have ht4 := e4 _ _ ht
    have hbG := hok.bG
    have same : ∀ x : Str, (!decide (V.str x = V.str x)) = false := fun x => by rw [decide_eq_true rfl]; rfl
    refine ⟨_, rfl, by decide, by decide, for_range (lo := 0) (n := 4) (fun i σ H' => Kp p H4 H' ∧ PotAt H' p (n + 4 + 20 * i) ∧ ∃ z3 z4 z5 z6 z7 z8 z9 z10 z11 : Option V, σ = [some (.ref p), some (.ref t), some (.ref x), z3, z4, z5, z6, z7, z8, z9, z10, z11]) ⟨Kp.refl, p4, _, _, _, _, _, _, _, _, _, rfl⟩ ?_ ?_⟩
    rotate_left
    · rintro σ H5 ⟨k5, p5, z3, z4, z5, z6, z7, z8, z9, z10, z11, rfl⟩
      exact k H5 (k4.trans k5) (p5.mono (by omega))
    rintro i σ H5 hi ⟨k5, p5, z3, z4, z5, z6, z7, z8, z9, z10, z11, rfl⟩
    refine ⟨_, rfl, _, rfl, p, t, _, b, f, r, pl, rfl, p5, by omega, k5 _ _ ht4 nt, nt, hok, fun st H6 k6 p6 hst => ?_⟩
    have k56 := k5.trans k6
    refine ⟨_, rfl, _, rfl, p, t, _, b, f, r, pl, rfl, p6, by omega, k56 _ _ ht4 nt, nt, hok, fun pt H7 k7 p7 hpt => ?_⟩
    have k57 := k56.trans k7
    refine ⟨_, _, rfl, ?_⟩
    -- the part
    refine ⟨fun σ H' => ∃ pt : Int, OnG b (b ^ f) (gG b f r) pt ∧ Kp p H4 H' ∧ PotAt H' p (n + 4 + 20 * i + 10) ∧ σ = [some (.ref p), some (.ref t), some (.ref x), some (.int (0 + (i : Int))), some (.int st), some (.int pt), z6, z7, z8, z9, z10, z11], ?_, ?_⟩
    · refine ⟨_, rfl, _, rfl, _, rfl, _, rfl, t, b, f, r, pl, rfl, SqT.of (k57 _ _ ht4 nt), hok.v, fun H8 e8 => ?_⟩
      have k58 := k57.ex e8
      have p8 := p7.ex e8
      refine ⟨_, rfl, t, _, _, _, rfl, rfl, SqT.of (k58 _ _ ht4 nt), g0, _, _, rfl, ?_⟩
      refine ⟨by show 4 ≤ sizeLine; decide, fun l hl => ?_⟩
      refine ⟨p, l, _, _, rfl, p8.ex (Ex.new hl), by omega, upd_same, p8.ne hl, by show 0 < 4; decide, by show 4 ≤ 100000; decide, fun j v H9 hv k9 p9 => ?_⟩
      have k59 := (k58.ex (Ex.new hl)).trans k9
      have hgG : (((b ^ f - 1) * b ^ r : Nat) : Int) = (gG b f r : Int) := rfl
      have p9' : PotAt H9 p (n + 4 + 20 * i + 10) := p9.mono (by omega)
      match j, hv with
      | 0, hv => cases hv; exact ⟨pt, hpt, k59, p9', rfl⟩
      | 1, hv => cases hv; exact ⟨1, one_on hok, k59, p9', rfl⟩
      | 2, hv => cases hv; exact ⟨-1, (one_on hok).neg, k59, p9', rfl⟩
      | 3, hv =>
        cases hv
        refine ⟨_, ?_, k59, p9', rfl⟩
        split
        · rename_i c
          exact onG_b hok rfl (by omega)
        · exact onG_top hok.gr
    rintro σ H8 ⟨pt, hpt, k8, p8, rfl⟩
    -- the way, the laps
    refine ⟨fun σ H' => ∃ (y : Wy) (N : Nat), N ≤ 60 ∧ Kp p H4 H' ∧ PotAt H' p (n + 4 + 20 * i + 12) ∧ σ = [some (.ref p), some (.ref t), some (.ref x), some (.int (0 + (i : Int))), some (.int st), some (.int pt), some (.str y.str), some (.int (N : Int)), z8, z9, z10, z11], ?_, ?_⟩
    · refine ⟨_, rfl, by show 5 ≤ sizeLine; decide, fun l hl => ?_⟩
      refine ⟨p, l, _, _, rfl, p8.ex (Ex.new hl), by omega, upd_same, p8.ne hl, by show 0 < 5; decide, by show 5 ≤ 100000; decide, fun j v H9 hv k9 p9 => ?_⟩
      have k49 := (k8.ex (Ex.new hl)).trans k9
      obtain ⟨y, rfl⟩ : ∃ y : Wy, v = .str y.str := by
        match j, hv with
        | 0, hv => cases hv; exact ⟨.near, rfl⟩
        | 1, hv => cases hv; exact ⟨.near, rfl⟩
        | 2, hv => cases hv; exact ⟨.down, rfl⟩
        | 3, hv => cases hv; exact ⟨.up, rfl⟩
        | 4, hv => cases hv; exact ⟨.zero, rfl⟩
      refine ⟨_, rfl, by show 5 ≤ sizeLine; decide, fun l2 hl2 => ?_⟩
      refine ⟨p, l2, _, _, rfl, p9.ex (Ex.new hl2), by omega, upd_same, p9.ne hl2, by show 0 < 5; decide, by show 5 ≤ 100000; decide, fun j2 v2 H10 hv2 k10 p10 => ?_⟩
      have k410 := (k49.ex (Ex.new hl2)).trans k10
      obtain ⟨N, rfl, hN⟩ : ∃ N : Nat, v2 = .int (N : Int) ∧ N ≤ 60 := by
        match j2, hv2 with
        | 0, hv => cases hv; exact ⟨0, rfl, by decide⟩
        | 1, hv => cases hv; exact ⟨1, rfl, by decide⟩
        | 2, hv => cases hv; exact ⟨2, rfl, by decide⟩
        | 3, hv => cases hv; exact ⟨7, rfl, by decide⟩
        | 4, hv => cases hv; exact ⟨60, rfl, by decide⟩
      exact ⟨_, _, rfl, y, N, hN, k410, p10.mono (by omega), rfl⟩
    rintro σ H9 ⟨y, N, hN, k9, p9, rfl⟩
    have ga9 := ga4.kp p4 k9
    have ht9 := k9 _ _ ht4 nt
    -- own laps
    refine ⟨fun σ H' => ∃ (j : Nat) (z : Int) (o : Bool), Ex H9 H' ∧ lp (stp y b f r pt) N st 0 = (if o = true then .inl j else .inr z) ∧ σ = [some (.ref p), some (.ref t), some (.ref x), some (.int (0 + (i : Int))), some (.int st), some (.int pt), some (.str y.str), some (.int (N : Int)), some (.int z), some (.int (j : Int)), some (.bl o), z11], ?_, ?_⟩
    · refine ⟨_, rfl, _, rfl, _, rfl, _, rfl, _, rfl, t, b, f, r, pl, st, pt, y, N, rfl, SqT.of ht9, hok, hst.1, hpt.1, fun q j z o H10 e10 hrun hj ho hq => ?_⟩
      exact ⟨q, _, rfl, SqT.of hq, rfl, _, _, rfl, _, _, rfl, _, _, rfl, rfl, j, z, o, e10, own_lands hrun hj ho, rfl⟩
    rintro σ H10 ⟨j, z, o, e10, hown, rfl⟩
    refine ⟨fun σ H' => ∃ (q : Addr), Ex H9 H' ∧ Lands H' q (lp (stp y b f r pt) N st 0) ∧ σ = [some (.ref p), some (.ref t), some (.ref x), some (.int (0 + (i : Int))), some (.int st), some (.int pt), some (.str y.str), some (.int (N : Int)), some (.int z), some (.int (j : Int)), some (.bl o), some (.ref q)], ?_, ?_⟩
    · refine ⟨_, rfl, o, rfl, ?_⟩
      rw [hown]
      cases o with
      | true =>
        refine iteT ⟨_, rfl, by show 2 ≤ sizeLine; decide, fun q hq => ⟨q, e10.trans (Ex.new hq), upd_same, rfl⟩⟩
      | false =>
        refine iteF ⟨_, rfl, by show 2 ≤ sizeLine; decide, fun q hq => ⟨q, e10.trans (Ex.new hq), upd_same, rfl⟩⟩
    rintro σ H11 ⟨q, e11, hq, rfl⟩
    have sz := lpsz_of (y := y) hok (p := pt) hst (N := N) (by omega)
    have rp := rp_lp sz
    refine ⟨fun σ H' => Ex H9 H' ∧ σ = [some (.ref p), some (.ref t), some (.ref x), some (.int (0 + (i : Int))), some (.int st), some (.int pt), some (.str y.str), some (.int (N : Int)), some (.int z), some (.int (j : Int)), some (.bl o), some (.ref q)], ?_, ?_⟩
    · refine ⟨_, rfl, _, rfl, _, rfl, _, rfl, _, rfl, x, b, f, r, b ^ f, gG b f r, st, pt, y, N, rfl, ga9.mono e11, hst, hpt, by omega, fun q2 H12 e12 hq2 => ?_⟩
      refine ⟨_, _, rfl, lands_dp hq2, rp.1, rp.2.1, rp.2.2.1, rp.2.2.2.1, rp.2.2.2.2, ?_⟩
      refine ⟨_, rfl, _, _, rfl, lands_dp (hq.ex e12), rp.1, rp.2.1, rp.2.2.1, rp.2.2.2.1, rp.2.2.2.2, rfl, _, rfl, ?_⟩
      rw [same]
      refine ite2 (fun h => absurd h (by simp)) (fun _ => ?_)
      exact ⟨e11.trans e12, rfl⟩
    rintro σ H12 ⟨e12, rfl⟩
    -- a hundred and fifty laps
    have ht12 := e12 _ _ ht9
    have ga12 := ga9.mono e12
    refine ⟨fun σ H' => ∃ (j : Nat) (z : Int) (o : Bool), Ex H9 H' ∧ Run (stp y b f r pt) j st z ∧ (j < 150 → (o = true ∧ stp y b f r pt z = none) ∨ (o = false ∧ stp y b f r pt z = some z)) ∧ j ≤ 150 ∧ σ = [some (.ref p), some (.ref t), some (.ref x), some (.int (0 + (i : Int))), some (.int st), some (.int pt), some (.str y.str), some (.int (N : Int)), some (.int z), some (.int (j : Int)), some (.bl o), some (.ref q)], ?_, ?_⟩
    · refine ⟨_, rfl, _, rfl, _, rfl, _, rfl, t, b, f, r, pl, st, pt, y, 150, rfl, SqT.of ht12, hok, hst.1, hpt.1, fun q j z o H13 e13 hrun hj ho hq => ?_⟩
      refine ⟨q, _, rfl, SqT.of hq, rfl, _, _, rfl, _, _, rfl, _, _, rfl, rfl, j, z, o, e12.trans e13, hrun, fun hlt => ?_, hj, rfl⟩
      rcases ho with ⟨h1, h2, _⟩ | ⟨h1, h2 | h2⟩
      · exact .inl ⟨h1, h2⟩
      · exact .inr ⟨h1, h2.1⟩
      · omega
    clear hown
    rintro σ H13 ⟨j, z, o, e13, hrun, ho, hj, rfl⟩
    have kend : ∀ H', Ex H9 H' → Kp p H4 H' ∧ PotAt H' p (n + 4 + 20 * (i + 1)) := fun H' e => ⟨k9.ex e, (p9.ex e).mono (by omega)⟩
    refine ⟨_, rfl, _, _, rfl, rfl, _, rfl, ?_⟩
    refine ite2 (fun h => ?_) (fun h => ?_)
    rotate_left
    · obtain ⟨c1, c2⟩ := kend _ e13
      exact ⟨c1, c2, _, _, _, _, _, _, _, _, _, rfl⟩
    have hlt : (j : Int) < 150 := of_decide_eq_true h
    have hoo := ho (by omega)
    have zG : OnG b (b ^ f) (gG b f r) z := by
      have h1 : lp (stp y b f r pt) j st 0 = .inr z := by
        have := lp_run (n := 0) (k := 0) hrun
        rw [Nat.add_zero] at this
        rw [this]; rfl
      exact lp_on hok.gr hst h1
    have zlg : z.natAbs.log2 < 1920 := lg (Nat.lt_of_le_of_lt zG.1 hbG) (by decide) (by decide)
    have jlg : ((j : Nat) : Int).natAbs.log2 < 1920 := nat_lg (by omega)
    -- what is due of stall
    refine ⟨fun σ H' => ∃ (q : Addr), Ex H9 H' ∧ ((stp y b f r pt z = none ∧ H' q = some (.tup [.str "over", .int (j : Int)])) ∨ (stp y b f r pt z = some z ∧ H' q = some (.tup [.str "stalls", .int z, .int (j : Int)]))) ∧ σ = [some (.ref p), some (.ref t), some (.ref x), some (.int (0 + (i : Int))), some (.int st), some (.int pt), some (.str y.str), some (.int (N : Int)), some (.int z), some (.int (j : Int)), some (.bl o), some (.ref q)], ?_, ?_⟩
    · refine ⟨_, rfl, o, rfl, ?_⟩
      rcases hoo with ⟨rfl, hs⟩ | ⟨rfl, hs⟩
      · refine iteT ⟨_, rfl, by show 2 ≤ sizeLine; decide, fun q hq => ⟨q, e13.trans (Ex.new hq), .inl ⟨hs, upd_same⟩, rfl⟩⟩
      · refine iteF ⟨_, rfl, _, rfl, by show 3 ≤ sizeLine; decide, fun q hq => ⟨q, e13.trans (Ex.new hq), .inr ⟨hs, upd_same⟩, rfl⟩⟩
    clear hq q
    rintro σ H14 ⟨q, e14, hq, rfl⟩
    refine ⟨_, rfl, _, rfl, _, rfl, _, rfl, x, b, f, r, b ^ f, gG b f r, st, pt, y, rfl, ga9.mono e14, hst, hpt, fun q2 H15 e15 hq2 => ?_⟩
    obtain ⟨j2, z2, hrun2, hq2⟩ := hq2
    have st1 : stp y b f r pt z = none ∨ stp y b f r pt z = some z := hq.elim (fun h => .inl h.1) (fun h => .inr h.1)
    have st2 : stp y b f r pt z2 = none ∨ stp y b f r pt z2 = some z2 := hq2.elim (fun h => .inl h.1) (fun h => .inr h.1)
    obtain ⟨rfl, rfl⟩ := run_stop hrun hrun2 st1 st2
    obtain ⟨d, rd, dq2, dq⟩ : ∃ d : PyData, Rp d ∧ Dp K H15 (.ref q2) d ∧ Dp K H15 (.ref q) d := by
      rcases hq with ⟨h1, h2⟩ | ⟨h1, h2⟩
      · rcases hq2 with ⟨_, h3⟩ | ⟨h4, _⟩
        · exact ⟨.tuple [.str "over", .int (j : Int)], rp_tup2 sm_over (sm_int jlg), .tup (SqT.of h3) (.cons (.str _) (.cons (.int _) .nil)), .tup (SqT.of (e15 _ _ h2)) (.cons (.str _) (.cons (.int _) .nil))⟩
        · rw [h1] at h4; cases h4
      · rcases hq2 with ⟨h4, _⟩ | ⟨_, h3⟩
        · rw [h1] at h4; cases h4
        · exact ⟨.tuple [.str "stalls", .int z, .int (j : Int)], rp_tup3 sm_stalls (sm_int zlg) (sm_int jlg), .tup (SqT.of h3) (.cons (.str _) (.cons (.int _) (.cons (.int _) .nil))), .tup (SqT.of (e15 _ _ h2)) (.cons (.str _) (.cons (.int _) (.cons (.int _) .nil)))⟩
    refine ⟨_, _, rfl, dq2, rd.1, rd.2.1, rd.2.2.1, rd.2.2.2.1, rd.2.2.2.2, ?_⟩
    refine ⟨_, rfl, _, _, rfl, dq, rd.1, rd.2.1, rd.2.2.1, rd.2.2.2.1, rd.2.2.2.2, rfl, _, rfl, ?_⟩
    rw [same]
    refine ite2 (fun h => absurd h (by simp)) (fun _ => ?_)
    obtain ⟨c1, c2⟩ := kend _ (e14.trans e15)
    exact ⟨c1, c2, _, _, _, _, _, _, _, _, _, rfl⟩
end
end My


set_option Elab.async false
set_option maxRecDepth 100000
set_option maxHeartbeats 8000000
set_option exponentiation.threshold 6000
namespace My
open PySem L2 Evl
theorem Lands.kp {H H' : Hp} {q p : Addr} {u : Nat ⊕ Int} {n : Nat} (h : Lands H q u) (hp : PotAt H p n) (k : Kp p H H') : Lands H' q u := by
  cases u with
  | inl j => exact k _ _ h (ne_tup h hp)
  | inr z => exact k _ _ h (ne_tup h hp)
theorem t18 : (10 : Int) ^ (18 : Int).toNat = 10 ^ 18 := by decide +kernel
theorem rp_list3 {x y : PyData} (hx : Small x) (hy : Small y) : Rp (.list [.tuple [x, y], .tuple [x, y], .tuple [x, y]]) := by
  have h := rp_tup2 hx hy
  have h1 : PyData.showable (.tuple [x, y]) = true := h.1
  have h2 : PyData.hasDict (.tuple [x, y]) = false := h.2.1
  have hl : (PyData.shown (.tuple [x, y])).length ≤ 5000 := by
    show (tupleText [PyData.shown x, PyData.shown y]).length ≤ 5000
    have h2 := tupleText_le (M := 2000) (ts := [PyData.shown x, PyData.shown y]) (fun t ht => by
      rcases List.mem_cons.mp ht with rfl | ht
      · exact hx.2.2.2
      · rw [List.mem_singleton.mp ht]; exact hy.2.2.2)
    exact Nat.le_trans h2 (by show (2000 + 2) * 2 + 10 ≤ 5000; decide)
  have hd : PyData.depth (.tuple [x, y]) = 1 := by
    show max (PyData.depth x) (max (PyData.depth y) 0) + 1 = 1
    rw [hx.2.2.1, hy.2.2.1]
    rfl
  generalize PyData.tuple [x, y] = d at *
  refine ⟨?_, ?_, ?_, nofun, ?_⟩
  · show (PyData.showable d && (PyData.showable d && (PyData.showable d && true))) = true
    rw [h1]; rfl
  · show (PyData.hasDict d || (PyData.hasDict d || (PyData.hasDict d || false))) = false
    rw [h2]; rfl
  · show max (PyData.depth d) (max (PyData.depth d) (max (PyData.depth d) 0)) + 1 ≤ 60
    rw [hd]
    decide
  · show (listText [PyData.shown d, PyData.shown d, PyData.shown d]).length ≤ sizeLine
    have := listText_len_le [PyData.shown d, PyData.shown d, PyData.shown d]
    have e : ([PyData.shown d, PyData.shown d, PyData.shown d].map (·.length)).sum = d.shown.length + (d.shown.length + (d.shown.length + 0)) := rfl
    rw [e] at this
    have e2 : [PyData.shown d, PyData.shown d, PyData.shown d].length = 3 := rfl
    rw [e2] at this
    have : (listText [PyData.shown d, PyData.shown d, PyData.shown d]).length ≤ 20000 := by omega
    exact Nat.le_trans this (by decide)
theorem shown_ne {w : Str} {i j : Int} (h : i ≠ j) : (PyData.tuple [.str w, .int i]).shown ≠ (PyData.tuple [.str w, .int j]).shown := fun e => h (int_inj (two_inj (s := PyData.shown (.str w)) e))
theorem t17 : (10 : Int) ^ (17 : Int).toNat = 10 ^ 17 := by decide +kernel
theorem t9 : (10 : Int) ^ (9 : Int).toNat = ((10 ^ 9 : Nat) : Int) := by decide +kernel
def sp_great : Sp := fun vs H Q _ => ∃ (p : Addr) (n : Nat), vs = [.ref p] ∧ PotAt H p n ∧ n + 100 ≤ 100000 ∧ ∀ H', Kp p H H' → Q (.bl true) H'
section
variable {P : Program} {w : World} {K : PySem.W.Frag} {mg : Str → Option Value} {base : Heap} {a : Ad}
theorem ok_l_great_right (T : Txt K mg a) : GOk P w K mg base 7 a.l_great_right a.l_great_right_fd ["pot"] sp_great := by
  refine okG T.F_l_great_right sc_l_great_right (fun vs H Q E h => ?_) (fun cdv A outer s H vs Q E hG hr h => ?_)
  · obtain ⟨p, n, rfl, _⟩ := h
    rfl
  · obtain ⟨p, n, rfl, hp, hn, k⟩ := h
    refine ⟨_, (pss_cut (ps_set (i := 1) sc_l_great_right.nd rfl (Or.inr rfl) (pe_tup (pa_cons (pe_call (ok_l_of T) (hr.mono (by decide)) rfl T.g_l_of T.k_l_of T.B_l_of .nil pass0 (pa_cons (pv 0) (pa_cons (pe_lst (pa_cons pe_int (pa_cons pe_int (pa_cons pe_int (pa_cons pe_int pa_nil))))) pa_nil))) (pa_cons (pe_call (ok_l_of T) (hr.mono (by decide)) rfl T.g_l_of T.k_l_of T.B_l_of .nil pass0 (pa_cons (pv 0) (pa_cons (pe_lst (pa_cons pe_int (pa_cons pe_int (pa_cons pe_int (pa_cons pe_int pa_nil))))) pa_nil))) (pa_cons (pe_call (ok_l_of T) (hr.mono (by decide)) rfl T.g_l_of T.k_l_of T.B_l_of .nil pass0 (pa_cons (pv 0) (pa_cons (pe_lst (pa_cons pe_int (pa_cons pe_int (pa_cons pe_int pa_nil)))) pa_nil))) (pa_cons pe_int pa_nil))))))
      (pss_cut (ps_set (i := 2) sc_l_great_right.nd rfl (Or.inr rfl) (pe_make T.mk_Grid (ok_Grid_init T) (hr.mono (by decide)) rfl T.g_Grid T.B_Grid_init .nil pass0 (pa_cons (pe_ix ix_tup (pv 1) pe_int (fun _ _ => rfl)) (pa_cons (pe_ix ix_tup (pv 1) pe_int (fun _ _ => rfl)) (pa_cons (pe_ix ix_tup (pv 1) pe_int (fun _ _ => rfl)) (pa_cons (pe_ix ix_tup (pv 1) pe_int (fun _ _ => rfl)) pa_nil))))))
      (pss_cut (ps_asg (pe_tup (pa_cons (pe_op op_sub (pe_call (ok_l_take T) (hr.mono (by decide)) rfl T.g_l_take T.k_l_take T.B_l_take .nil pass0 (pa_cons (pv 0) (pa_cons pe_int pa_nil))) pe_int) (pa_cons (pe_call (ok_l_of T) (hr.mono (by decide)) rfl T.g_l_of T.k_l_of T.B_l_of .nil pass0 (pa_cons (pv 0) (pa_cons (pe_lst (pa_cons pe_int (pa_cons (pe_un un_neg pe_int) (pa_cons pe_int (pa_cons pe_int (pa_cons (pe_un un_neg pe_int) (pa_cons (pe_op op_add pe_int (pe_call (ok_l_take T) (hr.mono (by decide)) rfl T.g_l_take T.k_l_take T.B_l_take .nil pass0 (pa_cons (pv 0) (pa_cons pe_int pa_nil)))) pa_nil))))))) pa_nil))) pa_nil))) (pg_tup rfl (pgs_cons (pg_name (i := 3) sc_l_great_right.nd rfl (Or.inr rfl)) (pgs_cons (pg_name (i := 4) sc_l_great_right.nd rfl (Or.inr rfl)) pgs_nil))))
      (pss_cut (ps_set (i := 5) sc_l_great_right.nd rfl (Or.inr rfl) (pe_call (ok_l_grid_greatest T) (hr.mono (by decide)) rfl T.g_l_grid_greatest T.k_l_grid_greatest T.B_l_grid_greatest .nil pass0 (pa_cons (pv 1) pa_nil)))
      (pss_cut (ps_asg (pe_lc (own := [("number", 16)]) (g := gName 16) (by rfl) sc_l_great_right.nd (pi_tup (pe_tup (pa_cons (pv 3) (pa_cons (pv 4) pa_nil)))) (blkOk_by (own := [("number", 16)]) (N := N_l_great_right) (sc := defScope s_l_great_right) (by decide +kernel)) (fun _ _ _ _ _ => pg_name (i := 16) sc_l_great_right.nd rfl (Or.inl rfl)) (fun _ _ _ _ _ => pts_nil) (fun _ _ _ _ _ => (pe_callB (call_max2 rfl) (by rfl) T.n_max (by decide +kernel) (pa_cons (pe_un un_neg (pv 5)) (pa_cons (pe_callB (call_min2 rfl) (by rfl) T.n_min (by decide +kernel) (pa_cons (pv 5) (pa_cons (pv 16) pa_nil))) pa_nil))))) (pg_lst rfl (pgs_cons (pg_name (i := 3) sc_l_great_right.nd rfl (Or.inr rfl)) (pgs_cons (pg_name (i := 4) sc_l_great_right.nd rfl (Or.inr rfl)) pgs_nil))))
      (pss_cut (ps_asg (pe_lc (own := [("number", 16)]) (g := gName 16) (by rfl) sc_l_great_right.nd (pi_tup (pe_tup (pa_cons (pv 3) (pa_cons (pv 4) pa_nil)))) (blkOk_by (own := [("number", 16)]) (N := N_l_great_right) (sc := defScope s_l_great_right) (by decide +kernel)) (fun _ _ _ _ _ => pg_name (i := 16) sc_l_great_right.nd rfl (Or.inl rfl)) (fun _ _ _ _ _ => pts_nil) (fun _ _ _ _ _ => (pe_call (ok_l_grid_rounded T) (hr.mono (by decide)) rfl T.g_l_grid_rounded T.k_l_grid_rounded T.B_l_grid_rounded .nil pass0 (pa_cons (pv 1) (pa_cons (pv 16) (pa_cons pe_int (pa_cons pe_str (pa_cons pe_int pa_nil)))))))) (pg_lst rfl (pgs_cons (pg_name (i := 3) sc_l_great_right.nd rfl (Or.inr rfl)) (pgs_cons (pg_name (i := 4) sc_l_great_right.nd rfl (Or.inr rfl)) pgs_nil))))
      (pss_cut (ps_asg (pe_tup (pa_cons (pe_call (ok_l_of T) (hr.mono (by decide)) rfl T.g_l_of T.k_l_of T.B_l_of .nil pass0 (pa_cons (pv 0) (pa_cons (pe_lst (pa_cons pe_str (pa_cons pe_str (pa_cons pe_str (pa_cons pe_str (pa_cons pe_str pa_nil)))))) pa_nil))) (pa_cons (pe_call (ok_l_take T) (hr.mono (by decide)) rfl T.g_l_take T.k_l_take T.B_l_take .nil pass0 (pa_cons (pv 0) (pa_cons (pe_op op_pow pe_int pe_int) pa_nil))) pa_nil))) (pg_tup rfl (pgs_cons (pg_name (i := 6) sc_l_great_right.nd rfl (Or.inr rfl)) (pgs_cons (pg_name (i := 7) sc_l_great_right.nd rfl (Or.inl rfl)) pgs_nil))))
      (pss_cut (ps_par (i := 8) (j := 9) (by rfl) sc_l_great_right.nd rfl rfl (by decide) rfl rfl (pa_cons (pe_call (ok_drift T) (hr.mono (by decide)) rfl T.g_drift T.k_drift T.B_drift .nil pass0 (pa_cons (pv 2) (pa_cons (pv 3) (pa_cons (pv 4) (pa_cons (pv 6) (pa_cons (pv 7) pa_nil)))))) (pa_cons (pe_call (ok_l_take T) (hr.mono (by decide)) rfl T.g_l_take T.k_l_take T.B_l_take .nil pass0 (pa_cons (pv 0) (pa_cons (pe_op op_add (pv 7) pe_int) pa_nil))) pa_nil)) (by rfl))
      (pss_cut (ps_set (i := 10) sc_l_great_right.nd rfl (Or.inl rfl) (pe_call (ok_drift T) (hr.mono (by decide)) rfl T.g_drift T.k_drift T.B_drift .nil pass0 (pa_cons (pv 2) (pa_cons (pv 3) (pa_cons (pv 4) (pa_cons (pv 6) (pa_cons (pv 9) pa_nil)))))))
      (pss_cut (ps_if (pt_cmpR op_eq (pe_ix ix_tup (pv 10) pe_int (fun _ _ => rfl)) pe_str (nomark _)) (pss_cut (ps_set (i := 13) sc_l_great_right.nd rfl (Or.inl rfl) (pe_call (ok_drift T) (hr.mono (by decide)) rfl T.g_drift T.k_drift T.B_drift .nil pass0 (pa_cons (pv 2) (pa_cons (pe_ix ix_tup (pv 10) pe_int (fun _ _ => rfl)) (pa_cons (pv 4) (pa_cons (pv 6) (pa_cons (pe_op op_sub (pv 7) (pv 9)) pa_nil)))))))
      (pss_cut (ps_set (i := 14) sc_l_great_right.nd rfl (Or.inl rfl) (pe_ifExp (pt_cmpR op_eq (pe_ix ix_tup (pv 13) pe_int (fun _ _ => rfl)) pe_str (nomark _)) (pv 13) (pe_tup (pa_cons pe_str (pa_cons (pe_op op_add (pe_ix ix_tup (pv 13) pe_int (fun _ _ => rfl)) (pv 9)) pa_nil)))))
      (pss_cut (ps_if (pt_cmpR op_ne (pe_callB (cr_repr hG hr.units) (by rfl) T.n_repr (by decide +kernel) (pa_cons (pv 8) pa_nil)) (pe_callB (cr_repr hG hr.units) (by rfl) T.n_repr (by decide +kernel) (pa_cons (pv 14) pa_nil)) (nomark _)) (pss_one (ps_ret pe_bl)) pss_nil)
      (pss_cut (ps_set (i := 15) sc_l_great_right.nd rfl (Or.inl rfl) (pe_call (ok_l_grid_rounded T) (hr.mono (by decide)) rfl T.g_l_grid_rounded T.k_l_grid_rounded T.B_l_grid_rounded .nil pass0 (pa_cons (pv 1) (pa_cons (pe_op op_add (pe_ix ix_tup (pv 10) pe_int (fun _ _ => rfl)) (pv 4)) (pa_cons pe_int (pa_cons (pv 6) (pa_cons pe_int pa_nil)))))))
      (pss_cut (ps_set (i := 14) sc_l_great_right.nd rfl (Or.inl rfl) (pe_ifExp (pt_cmpR op_isN (pv 15) pe_non (nomark _)) (pe_tup (pa_cons pe_str (pa_cons (pv 9) pa_nil))) (pe_tup (pa_cons pe_str (pa_cons (pv 15) pa_nil)))))
      (pss_one (ps_if (pt_cmpR op_ne (pe_callB (cr_repr hG hr.units) (by rfl) T.n_repr (by decide +kernel) (pa_cons (pe_call (ok_drift T) (hr.mono (by decide)) rfl T.g_drift T.k_drift T.B_drift .nil pass0 (pa_cons (pv 2) (pa_cons (pv 3) (pa_cons (pv 4) (pa_cons (pv 6) (pa_cons (pe_op op_add (pv 9) pe_int) pa_nil)))))) pa_nil)) (pe_callB (cr_repr hG hr.units) (by rfl) T.n_repr (by decide +kernel) (pa_cons (pv 14) pa_nil)) (nomark _)) (pss_one (ps_ret pe_bl)) pss_nil))))))) (pss_one (ps_if (pt_cmpR op_ne (pe_callB (cr_repr hG hr.units) (by rfl) T.n_repr (by decide +kernel) (pa_cons (pv 10) pa_nil)) (pe_callB (cr_repr hG hr.units) (by rfl) T.n_repr (by decide +kernel) (pa_cons (pv 8) pa_nil)) (nomark _)) (pss_one (ps_ret pe_bl)) pss_nil)))
      (pss_cut (ps_set (i := 11) sc_l_great_right.nd rfl (Or.inr rfl) (pe_call (ok_stall T) (hr.mono (by decide)) rfl T.g_stall T.k_stall T.B_stall .nil pass0 (pa_cons (pv 2) (pa_cons (pv 3) (pa_cons (pv 4) (pa_cons (pv 6) pa_nil))))))
      (pss_cut (ps_if (pt_cmpR op_eq (pe_ix ix_tup (pv 11) pe_int (fun _ _ => rfl)) pe_str (nomark _)) (pss_one (ps_ret (pe_or (pe_cmpR op_gt (pe_ix ix_tup (pv 11) pe_int (fun _ _ => rfl)) (pe_op op_pow pe_int pe_int) (nomark _)) (pe_one (pe_cmpR op_eq (pe_callB (cr_repr hG hr.units) (by rfl) T.n_repr (by decide +kernel) (pa_cons (pe_call (ok_drift T) (hr.mono (by decide)) rfl T.g_drift T.k_drift T.B_drift .nil pass0 (pa_cons (pv 2) (pa_cons (pv 3) (pa_cons (pv 4) (pa_cons (pv 6) (pa_cons (pe_op op_add (pe_ix ix_tup (pv 11) pe_int (fun _ _ => rfl)) pe_int) pa_nil)))))) pa_nil)) (pe_callB (cr_repr hG hr.units) (by rfl) T.n_repr (by decide +kernel) (pa_cons (pv 11) pa_nil)) (nomark _)))))) pss_nil)
      (pss_cut (ps_if (pt_cmpR op_gt (pe_ix ix_tup (pv 11) pe_int (fun _ _ => rfl)) (pe_op op_pow pe_int pe_int) (nomark _)) (pss_one (ps_ret pe_bl)) pss_nil)
      (pss_cut (ps_setLc (i := 12) (own := [("more", 17)]) (g := gName 17) (by rfl) sc_l_great_right.nd rfl rfl (sw_true rfl rfl rfl (by decide +kernel)) (pi_tup (pe_tup (pa_cons pe_int (pa_cons pe_int (pa_cons (pe_op op_pow pe_int pe_int) pa_nil))))) (blkOk_by (own := [("more", 17)]) (N := N_l_great_right) (sc := defScope s_l_great_right) (by decide +kernel)) (fun _ _ _ _ _ => pg_name (i := 17) sc_l_great_right.nd rfl (Or.inl rfl)) (fun _ _ _ _ _ => pts_nil) (fun _ _ _ _ _ => (pe_call (ok_drift T) (hr.mono (by decide)) rfl T.g_drift T.k_drift T.B_drift .nil pass0 (pa_cons (pv 2) (pa_cons (pv 3) (pa_cons (pv 4) (pa_cons (pv 6) (pa_cons (pe_op op_add (pe_ix (r := rIxT K) ix_tup (pv 11) pe_int (fun _ _ => rfl)) (pv 17)) pa_nil))))))))
      (pss_cut (ps_if (pt_cmpR op_ne (pe_callB (cr_repr hG hr.units) (by rfl) T.n_repr (by decide +kernel) (pa_cons (pv 12) pa_nil)) (pe_callB (cr_repr hG hr.units) (by rfl) T.n_repr (by decide +kernel) (pa_cons (pe_op op_rep (pe_lst (pa_cons (pe_tup (pa_cons pe_str (pa_cons (pe_ix ix_tup (pv 11) pe_int (fun _ _ => rfl)) pa_nil))) pa_nil)) pe_int) pa_nil)) (nomark _)) (pss_one (ps_ret pe_bl)) pss_nil)
      (pss_one (ps_ret (pe_or (pe_cmpR op_eq (pe_ix ix_tup (pv 11) pe_int (fun _ _ => rfl)) pe_int (nomark _)) (pe_one (pe_cmpR op_ne (pe_callB (cr_repr hG hr.units) (by rfl) T.n_repr (by decide +kernel) (pa_cons (pe_call (ok_drift T) (hr.mono (by decide)) rfl T.g_drift T.k_drift T.B_drift .nil pass0 (pa_cons (pv 2) (pa_cons (pv 3) (pa_cons (pv 4) (pa_cons (pv 6) (pa_cons (pe_op op_sub (pe_ix ix_tup (pv 11) pe_int (fun _ _ => rfl)) pe_int) pa_nil)))))) pa_nil)) (pe_callB (cr_repr hG hr.units) (by rfl) T.n_repr (by decide +kernel) (pa_cons (pe_tup (pa_cons pe_str (pa_cons (pe_ix ix_tup (pv 11) pe_int (fun _ _ => rfl)) pa_nil))) pa_nil)) (nomark _))))))))))))))))))))), ?_⟩
    refine ⟨fun σ H6 => Kp p H H6 ∧ PotAt H6 p (n + 3) ∧ ∃ (t : Addr) (b f r : Nat), H6 t = some (.tup [.int b, .int f, .int r, .int (0 : Nat)]) ∧ okg b f r ∧ σ = [some (.ref p), some (.ref t), none, none, none, none, none, none, none, none, none, none, none, none, none, none, none, none], ?_, ?_⟩
    · refine ⟨_, rfl, by show 4 ≤ sizeLine; decide, fun l0 hl0 => ?_⟩
      have e5 := Ex.new (o := .lst [V.int 2, V.int 10, V.int 3, V.int 8]) hl0
      refine ⟨p, l0, n, _, rfl, hp.ex e5, by omega, upd_same, hp.ne hl0, by show 0 < 4; decide, by show 4 ≤ 100000; decide, fun i0 v0 H6 hv0 k6 p6 => ?_⟩
      obtain ⟨b, rfl, hb1, hb2⟩ : ∃ b : Nat, v0 = .int b ∧ 2 ≤ b ∧ b ≤ 10 := by
        match i0, hv0 with
        | 0, hv => cases hv; exact ⟨2, rfl, by decide, by decide⟩
        | 1, hv => cases hv; exact ⟨10, rfl, by decide, by decide⟩
        | 2, hv => cases hv; exact ⟨3, rfl, by decide, by decide⟩
        | 3, hv => cases hv; exact ⟨8, rfl, by decide, by decide⟩
      have k6 := (Kp.of (p := p) e5).trans k6
      refine ⟨_, rfl, by show 4 ≤ sizeLine; decide, fun l1 hl1 => ?_⟩
      have e7 := Ex.new (o := .lst [V.int 30, V.int 12, V.int 20, V.int 5]) hl1
      refine ⟨p, l1, n + 1, _, rfl, p6.ex e7, by omega, upd_same, p6.ne hl1, by show 0 < 4; decide, by show 4 ≤ 100000; decide, fun i1 v1 H8 hv1 k8 p8 => ?_⟩
      obtain ⟨f', rfl, hf1, hf2⟩ : ∃ f' : Nat, v1 = .int f' ∧ 1 ≤ f' ∧ f' ≤ 30 := by
        match i1, hv1 with
        | 0, hv => cases hv; exact ⟨30, rfl, by decide, by decide⟩
        | 1, hv => cases hv; exact ⟨12, rfl, by decide, by decide⟩
        | 2, hv => cases hv; exact ⟨20, rfl, by decide, by decide⟩
        | 3, hv => cases hv; exact ⟨5, rfl, by decide, by decide⟩
      refine ⟨_, rfl, by show 3 ≤ sizeLine; decide, fun l2 hl2 => ?_⟩
      have e9 := Ex.new (o := .lst [V.int 60, V.int 3, V.int 20]) hl2
      refine ⟨p, l2, n + 2, _, rfl, p8.ex e9, by omega, upd_same, p8.ne hl2, by show 0 < 3; decide, by show 3 ≤ 100000; decide, fun i2 v2 H10 hv2 k10 p10 => ?_⟩
      obtain ⟨r', rfl, hr2⟩ : ∃ r' : Nat, v2 = .int r' ∧ r' ≤ 60 := by
        match i2, hv2 with
        | 0, hv => cases hv; exact ⟨60, rfl, by decide⟩
        | 1, hv => cases hv; exact ⟨3, rfl, by decide⟩
        | 2, hv => cases hv; exact ⟨20, rfl, by decide⟩
      refine ⟨by show 4 ≤ sizeLine; decide, fun gt hgt => ?_⟩
      have e12 := Ex.new (o := .tup [V.int b, V.int f', V.int r', V.int 0]) hgt
      exact ⟨((((k6.ex e7).trans k8).ex e9).trans k10).ex e12, p10.ex e12, gt, b, f', r', upd_same, ⟨hb1, hb2, hf1, hf2, hr2⟩, rfl⟩
    rintro σ H1 ⟨k1, p1, t, b, f, r, ht, hok, rfl⟩
    have nt := ne_tup ht p1
    have tg : SqT K H1 t [V.int b, V.int f, V.int r, V.int (0 : Nat)] := SqT.of ht
    refine ⟨fun σ H' => ∃ (x : Addr), Ex H1 H' ∧ GridAt a H' x b f r (b ^ f) (gG b f r) ∧ σ = [some (.ref p), some (.ref t), some (.ref x), none, none, none, none, none, none, none, none, none, none, none, none, none, none, none], ?_, ?_⟩
    · refine ⟨_, rfl, t, _, _, _, rfl, rfl, tg, g0, _, rfl, t, _, _, _, rfl, rfl, tg, g1, _, rfl, t, _, _, _, rfl, rfl, tg, g2, _, rfl, t, _, _, _, rfl, rfl, tg, g3, fun x dx nx ndx nex => ?_⟩
      refine ⟨x, dx, b, f, r, 0, rfl, upd_same, ⟨hok.1, hok.2.1, hok.2.2.1, hok.2.2.2.1, hok.2.2.2.2, by omega⟩, fun H10 k10 ga => ⟨rfl, ?_⟩⟩
      have e10 : Ex H1 H10 := ex_made nx ndx k10
      exact ⟨x, e10, ga, rfl⟩
    rintro σ H4 ⟨x, e4, ga4, rfl⟩
    have k4 := k1.ex e4
    have p4 := p1.ex e4
    have ht4 := e4 _ _ ht
    have hbG := hok.bG
    have same : ∀ x : Str, (!decide (V.str x = V.str x)) = false := fun x => by rw [decide_eq_true rfl]; rfl
    refine ⟨fun σ H' => ∃ (s0 q0 : Int), s0.natAbs ≤ 600 ∧ q0.natAbs ≤ 600 ∧ Kp p H4 H' ∧ PotAt H' p (n + 6) ∧ σ = [some (.ref p), some (.ref t), some (.ref x), some (.int s0), some (.int q0), none, none, none, none, none, none, none, none, none, none, none, none, none], ?_, ?_⟩
    · refine ⟨_, rfl, p, 1000, n + 3, rfl, p4, by omega, by decide, by decide +kernel, fun d1 H5 k5 p5 c0 c1 => ⟨_, _, rfl, rfl, ?_⟩⟩
      refine ⟨_, rfl, _, rfl, _, rfl, _, rfl, p, 20, n + 4, rfl, p5, by omega, by decide, by decide +kernel, fun d2 H6 k6 p6 c2 c3 => ⟨_, _, rfl, rfl, ?_⟩⟩
      refine ⟨by show 6 ≤ sizeLine; decide, fun l hl => ?_⟩
      refine ⟨p, l, n + 5, _, rfl, p6.ex (Ex.new hl), by omega, upd_same, p6.ne hl, by show 0 < 6; decide, by show 6 ≤ 100000; decide, fun i v H7 hv k7 p7 => ?_⟩
      have k47 := ((k5.trans k6).ex (Ex.new hl)).trans k7
      obtain ⟨q0, rfl, hq0⟩ : ∃ q0 : Int, v = .int q0 ∧ q0.natAbs ≤ 600 := by
        match i, hv with
        | 0, hv => cases hv; exact ⟨_, rfl, by decide⟩
        | 1, hv => cases hv; exact ⟨_, rfl, by decide⟩
        | 2, hv => cases hv; exact ⟨_, rfl, by decide⟩
        | 3, hv => cases hv; exact ⟨_, rfl, by decide⟩
        | 4, hv => cases hv; exact ⟨_, rfl, by decide⟩
        | 5, hv => cases hv; exact ⟨_, rfl, by omega⟩
      refine ⟨by show 2 ≤ sizeLine; decide, fun T1 hT1 => ?_⟩
      refine ⟨T1, _, rfl, SqT.of upd_same, rfl, _, _, rfl, _, _, rfl, rfl, ?_⟩
      exact ⟨_, _, by omega, hq0, k47.ex (Ex.new hT1), p7.ex (Ex.new hT1), rfl⟩
    rintro σ H5 ⟨s0, q0, hs0, hq0, k5, p5, rfl⟩
    have ht5 := k5 _ _ ht4 nt
    refine ⟨fun σ H' => Ex H5 H' ∧ σ = [some (.ref p), some (.ref t), some (.ref x), some (.int s0), some (.int q0), some (.int (gG b f r : Int)), none, none, none, none, none, none, none, none, none, none, none, none], ?_, ?_⟩
    · refine ⟨_, rfl, t, b, f, r, 0, rfl, SqT.of ht5, hok.v, fun H6 e6 => ⟨e6, rfl⟩⟩
    rintro σ H6 ⟨e6, rfl⟩
    refine ⟨fun σ H' => ∃ (s1 q1 : Int), s1.natAbs ≤ gG b f r ∧ q1.natAbs ≤ gG b f r ∧ Ex H5 H' ∧ σ = [some (.ref p), some (.ref t), some (.ref x), some (.int s1), some (.int q1), some (.int (gG b f r : Int)), none, none, none, none, none, none, none, none, none, none, none, none], ?_, ?_⟩
    · refine ⟨_, rfl, _, rfl, by show 2 ≤ sizeLine; decide, fun T1 hT1 => ?_⟩
      have e7 := e6.trans (Ex.new (o := .tup [V.int s0, V.int q0]) hT1)
      have h7 : (upd H6 T1 (.tup [V.int s0, V.int q0])) T1 = some (.tup [V.int s0, V.int q0]) := upd_same
      generalize (upd H6 T1 (.tup [V.int s0, V.int q0])) = H7 at *
      refine ⟨T1, rfl, ⟨_, SqT.of h7⟩, fun D hD => ?_⟩
      refine lc_tup (K := K) (a := T1) (xs := [V.int s0, V.int q0]) (fun j H' => Ex H7 H' ∧ ∃ zs : List Int, zs.length = j ∧ H' D = some (.lst (zs.map V.int)) ∧ ∀ z ∈ zs, z.natAbs ≤ gG b f r) ⟨Ex.new hD, [], rfl, upd_same, fun z hz => by cases hz⟩ (fun j H' _ z => SqT.of (z.1 _ _ h7)) ?_ ?_
      · rintro j v H8 hv ⟨e8, zs, len, h8, hall⟩
        obtain ⟨z, rfl⟩ : ∃ z : Int, v = .int z := by
          match j, hv with
          | 0, hv => cases hv; exact ⟨_, rfl⟩
          | 1, hv => cases hv; exact ⟨_, rfl⟩
        refine ⟨rfl, ?_⟩
        dsimp only [tYes]
        refine iteT ?_
        refine ⟨_, rfl, _, rfl, _, rfl, _, rfl, _, _, rfl, _, _, rfl, ?_⟩
        have hj : j < 2 := by
          have := (List.getElem?_eq_some_iff.mp hv).1
          simpa using this
        refine ⟨_, h8, small1000 (by rw [List.length_map]; omega), Ex.mut e8 hD, zs ++ [_], by rw [List.length_append, len]; rfl, by rw [upd_same, List.map_append]; rfl, fun w hw => ?_⟩
        rcases List.mem_append.mp hw with hw | hw
        · exact hall w hw
        · rw [List.mem_singleton.mp hw]
          split <;> split <;> omega
      · rintro H8 ⟨e8, zs, len, h8, hall⟩
        match zs, len with
        | [s1, q1], _ =>
          refine ⟨D, _, rfl, SqL.of h8, rfl, _, _, rfl, _, _, rfl, rfl, ?_⟩
          exact ⟨s1, q1, hall _ (by simp), hall _ (by simp), e7.trans e8, rfl⟩
    rintro σ H7 ⟨s1, q1, hs1, hq1, e7, rfl⟩
    refine ⟨fun σ H' => ∃ (st pt : Int), OnG b (b ^ f) (gG b f r) st ∧ OnG b (b ^ f) (gG b f r) pt ∧ Ex H5 H' ∧ σ = [some (.ref p), some (.ref t), some (.ref x), some (.int st), some (.int pt), some (.int (gG b f r : Int)), none, none, none, none, none, none, none, none, none, none, none, none], ?_, ?_⟩
    · refine ⟨_, rfl, _, rfl, by show 2 ≤ sizeLine; decide, fun T1 hT1 => ?_⟩
      have e8 := e7.trans (Ex.new (o := .tup [V.int s1, V.int q1]) hT1)
      have h8 : (upd H7 T1 (.tup [V.int s1, V.int q1])) T1 = some (.tup [V.int s1, V.int q1]) := upd_same
      generalize (upd H7 T1 (.tup [V.int s1, V.int q1])) = H8 at *
      refine ⟨T1, rfl, ⟨_, SqT.of h8⟩, fun D hD => ?_⟩
      refine lc_tup (K := K) (a := T1) (xs := [V.int s1, V.int q1]) (fun j H' => Ex H8 H' ∧ ∃ zs : List Int, zs.length = j ∧ H' D = some (.lst (zs.map V.int)) ∧ ∀ z ∈ zs, OnG b (b ^ f) (gG b f r) z) ⟨Ex.new hD, [], rfl, upd_same, fun z hz => by cases hz⟩ (fun j H' _ z => SqT.of (z.1 _ _ h8)) ?_ ?_
      · rintro j v H9 hv ⟨e9, zs, len, h9, hall⟩
        obtain ⟨z, rfl, hz⟩ : ∃ z : Int, v = .int z ∧ z.natAbs ≤ gG b f r := by
          match j, hv with
          | 0, hv => cases hv; exact ⟨_, rfl, hs1⟩
          | 1, hv => cases hv; exact ⟨_, rfl, hq1⟩
        refine ⟨rfl, ?_⟩
        dsimp only [tYes]
        refine iteT ?_
        have hj : j < 2 := by
          have := (List.getElem?_eq_some_iff.mp hv).1
          simpa using this
        refine ⟨_, rfl, _, rfl, t, b, f, r, 0, z, 1, 0, .zero, rfl, SqT.of ((e8.trans e9) _ _ ht5), hok.v, by decide, by decide +kernel, Nat.lt_of_le_of_lt hz (Nat.lt_trans hbG (by decide +kernel)), fun H10 e10 => ?_⟩
        have ev : rgO .zero b f r 0 z 1 = .int (rz b (b ^ f) z) := by
          rw [rzO_rgO hok.1]
          exact if_pos (rz_le hok.1 hz)
        rw [ev]
        refine ⟨_, e10 _ _ h9, small1000 (by rw [List.length_map]; omega), Ex.mut (e9.trans e10) hD, zs ++ [rz b (b ^ f) z], by rw [List.length_append, len]; rfl, by rw [upd_same, List.map_append]; rfl, fun w hw => ?_⟩
        rcases List.mem_append.mp hw with hw | hw
        · exact hall w hw
        · rw [List.mem_singleton.mp hw]
          exact rz_onG hok.gr hz
      · rintro H9 ⟨e9, zs, len, h9, hall⟩
        match zs, len with
        | [s1, q1], _ =>
          refine ⟨D, _, rfl, SqL.of h9, rfl, _, _, rfl, _, _, rfl, rfl, ?_⟩
          exact ⟨s1, q1, hall _ (by simp), hall _ (by simp), e8.trans e9, rfl⟩
    clear hs1 hq1 hs0 hq0
    rintro σ H8 ⟨st, pt, hst, hpt, e8, rfl⟩
    have k8 := k5.ex e8
    have p8 := p5.ex e8
    refine ⟨fun σ H' => ∃ (y : Wy) (N : Nat), N < 10 ^ 18 ∧ Kp p H4 H' ∧ PotAt H' p (n + 8) ∧ σ = [some (.ref p), some (.ref t), some (.ref x), some (.int st), some (.int pt), some (.int (gG b f r : Int)), some (.str y.str), some (.int (N : Int)), none, none, none, none, none, none, none, none, none, none], ?_, ?_⟩
    · refine ⟨_, rfl, by show 5 ≤ sizeLine; decide, fun l hl => ?_⟩
      refine ⟨p, l, _, _, rfl, p8.ex (Ex.new hl), by omega, upd_same, p8.ne hl, by show 0 < 5; decide, by show 5 ≤ 100000; decide, fun j v H9 hv k9 p9 => ?_⟩
      have k49 := (k8.ex (Ex.new hl)).trans k9
      obtain ⟨y, rfl⟩ : ∃ y : Wy, v = .str y.str := by
        match j, hv with
        | 0, hv => cases hv; exact ⟨.near, rfl⟩
        | 1, hv => cases hv; exact ⟨.near, rfl⟩
        | 2, hv => cases hv; exact ⟨.down, rfl⟩
        | 3, hv => cases hv; exact ⟨.up, rfl⟩
        | 4, hv => cases hv; exact ⟨.zero, rfl⟩
      refine ⟨_, rfl, _, _, rfl, rfl, ⟨by decide, by decide, by decide⟩, p, _, n + 7, rfl, p9.mono (by omega), by omega, (by show (0 : Int) < (10 : Int) ^ (18 : Int).toNat; rw [t18]; decide), (by show ((10 : Int) ^ (18 : Int).toNat).natAbs < _; rw [t18]; decide +kernel), fun d H10 k10 p10 d0 d1 => ?_⟩
      have d1 : d < 10 ^ 18 := by rw [← t18]; exact d1
      refine ⟨by show 2 ≤ sizeLine; decide, fun T1 hT1 => ⟨T1, _, rfl, SqT.of upd_same, rfl, _, _, rfl, _, _, rfl, rfl, ?_⟩⟩
      refine ⟨y, d.toNat, by omega, (k49.trans k10).ex (Ex.new hT1), p10.ex (Ex.new hT1), ?_⟩
      have e : ((d.toNat : Nat) : Int) = d := by omega
      rw [e]
      rfl
    rintro σ H9 ⟨y, N, hN, k9, p9, rfl⟩
    have ga9 := ga4.kp p4 k9
    have ht9 := k9 _ _ ht4 nt
    generalize hs : stp y b f r pt = s
    have h18 : 10 ^ 18 + 1 < 2 ^ 4000 := by decide +kernel
    have hN4 : ((N : Int) + 1).natAbs < 2 ^ 4000 := by omega
    clear h18
    refine ⟨fun σ H' => ∃ (q : Addr) (c : Nat), c ≤ N ∧ Lands H' q (lp s N st 0) ∧ Kp p H9 H' ∧ PotAt H' p (n + 9) ∧ σ = [some (.ref p), some (.ref t), some (.ref x), some (.int st), some (.int pt), some (.int (gG b f r : Int)), some (.str y.str), some (.int (N : Int)), some (.ref q), some (.int (c : Int)), none, none, none, none, none, none, none, none], ?_, ?_⟩
    · refine ⟨_, rfl, _, rfl, _, rfl, _, rfl, _, rfl, x, b, f, r, b ^ f, gG b f r, st, pt, y, N, rfl, ga9, hst, hpt, by omega, fun q H10 e10 hq => ?_⟩
      have p10 := p9.ex e10
      refine ⟨_, rfl, _, rfl, _, _, rfl, rfl, p, _, n + 8, rfl, p10, by omega, (by show (0 : Int) < (N : Int) + 1; omega), hN4, fun c H11 k11 p11 c0 c1 => ?_⟩
      have c1 : c < (N : Int) + 1 := c1
      refine ⟨_, _, rfl, q, c.toNat, by omega, ?_, (Kp.of e10).trans k11, p11, ?_⟩
      · rw [← hs]; exact hq.kp p10 k11
      · have e : ((c.toNat : Nat) : Int) = c := by omega
        rw [e]
        rfl
    rintro σ H10 ⟨q, c, hc, hq, k10, p10, rfl⟩
    have ga10 := ga9.kp p9 k10
    have ht10 := k10 _ _ ht9 nt
    have kk : ∀ H', Ex H10 H' → Q (.bl true) H' := fun H' e => k H' ((k4.trans k9).trans (k10.ex e))
    clear k
    clear k1 p1 ht nt tg k4 p4 ht4 k5 p5 ht5 k8 p8 k9 p9 k10 hp
    have szN := lpsz_of (y := y) hok (p := pt) hst (N := N) (by omega)
    have szc := lpsz_of (y := y) hok (p := pt) hst (N := c) (by omega)
    have szc1 := lpsz_of (y := y) hok (p := pt) hst (N := c + 1) (by omega)
    rw [hs] at szN szc szc1
    have rpN := rp_lp szN
    have rpc := rp_lp szc
    have rpc1 := rp_lp szc1
    refine ⟨fun σ H' => ∃ (q2 : Addr), Lands H' q2 (lp s c st 0) ∧ Ex H10 H' ∧ σ = [some (.ref p), some (.ref t), some (.ref x), some (.int st), some (.int pt), some (.int (gG b f r : Int)), some (.str y.str), some (.int (N : Int)), some (.ref q), some (.int (c : Int)), some (.ref q2), none, none, none, none, none, none, none], ?_, ?_⟩
    · refine ⟨_, rfl, _, rfl, _, rfl, _, rfl, _, rfl, x, b, f, r, b ^ f, gG b f r, st, pt, y, c, rfl, ga10, hst, hpt, by omega, fun q2 H11 e11 hq2 => ?_⟩
      rw [hs] at hq2
      exact ⟨q2, hq2, e11, rfl⟩
    rintro σ H11 ⟨q2, hq2, e11, rfl⟩
    refine ⟨fun σ H' => ∃ (z13 z14 z15 : Option V), Ex H10 H' ∧ σ = [some (.ref p), some (.ref t), some (.ref x), some (.int st), some (.int pt), some (.int (gG b f r : Int)), some (.str y.str), some (.int (N : Int)), some (.ref q), some (.int (c : Int)), some (.ref q2), none, none, z13, z14, z15, none, none], ?_, ?_⟩
    · cases hlc : lp s c st 0 with
      | inl j =>
        rw [hlc] at hq2
        have hq2 : H11 q2 = some (.tup [.str "over", .int (j : Int)]) := hq2
        refine ⟨_, rfl, q2, _, _, _, rfl, rfl, SqT.of hq2, atN (m := 0) rfl, rfl, _, rfl, ?_⟩
        refine ite2 (fun h => absurd h (by decide +kernel)) (fun _ => ?_)
        have hN2 : lp s N st 0 = .inl j := by
          obtain ⟨m, rfl⟩ : ∃ m, N = c + m := ⟨N - c, by omega⟩
          rw [lp_cut, hlc]; rfl
        have rpj := rpc
        rw [hlc] at rpj
        refine ⟨_, rfl, _, _, rfl, lands_dp (u := .inl j) hq2, rpj.1, rpj.2.1, rpj.2.2.1, rpj.2.2.2.1, rpj.2.2.2.2, ?_⟩
        rw [hN2] at hq
        refine ⟨_, rfl, _, _, rfl, lands_dp (hq.ex e11), rpj.1, rpj.2.1, rpj.2.2.1, rpj.2.2.2.1, rpj.2.2.2.2, rfl, _, rfl, ?_⟩
        rw [same]
        refine ite2 (fun h => absurd h (by simp)) (fun _ => ?_)
        exact ⟨_, _, _, e11, rfl⟩
      | inr z =>
        rw [hlc] at hq2
        have hq2 : H11 q2 = some (.tup [.str "state", .int z]) := hq2
        refine ⟨_, rfl, q2, _, _, _, rfl, rfl, SqT.of hq2, atN (m := 0) rfl, rfl, _, rfl, ?_⟩
        refine ite2 (fun _ => ?_) (fun h => absurd (by decide +kernel) h)
        have hzG : OnG b (b ^ f) (gG b f r) z := by
          rw [← hs] at hlc
          exact lp_on hok.gr hst hlc
        obtain ⟨m, rfl⟩ : ∃ m, N = c + m := ⟨N - c, by omega⟩
        have hNm : lp s (c + m) st 0 = sft c (lp s m z 0) := by
          rw [lp_cut, hlc]
          show lp s m z (0 + c) = _
          exact lp_shift m z 0 c
        have em : ((c + m : Nat) : Int) - (c : Int) = ((m : Nat) : Int) := by omega
        refine ⟨fun σ H' => ∃ (q3 : Addr), Lands H' q3 (lp s m z 0) ∧ Ex H11 H' ∧ σ = [some (.ref p), some (.ref t), some (.ref x), some (.int st), some (.int pt), some (.int (gG b f r : Int)), some (.str y.str), some (.int ((c + m : Nat) : Int)), some (.ref q), some (.int (c : Int)), some (.ref q2), none, none, some (.ref q3), none, none, none, none], ?_, ?_⟩
        · refine ⟨_, rfl, _, rfl, q2, _, _, _, rfl, rfl, SqT.of hq2, atN (m := 1) rfl, _, rfl, _, rfl, _, rfl, _, rfl, _, _, rfl, rfl, ?_⟩
          refine ⟨x, b, f, r, b ^ f, gG b f r, z, pt, y, m, by dsimp only; rw [em]; rfl, ga10.mono e11, hzG, hpt, by omega, fun q3 H12 e12 hq3 => ?_⟩
          rw [hs] at hq3
          exact ⟨q3, hq3, e12, rfl⟩
        rintro σ H12 ⟨q3, hq3, e12, rfl⟩
        refine ⟨fun σ H' => ∃ (q4 : Addr), Lands H' q4 (lp s (c + m) st 0) ∧ Ex H11 H' ∧ σ = [some (.ref p), some (.ref t), some (.ref x), some (.int st), some (.int pt), some (.int (gG b f r : Int)), some (.str y.str), some (.int ((c + m : Nat) : Int)), some (.ref q), some (.int (c : Int)), some (.ref q2), none, none, some (.ref q3), some (.ref q4), none, none, none], ?_, ?_⟩
        · rw [hNm]
          cases hlm : lp s m z 0 with
          | inr w =>
            rw [hlm] at hq3
            have hq3 : H12 q3 = some (.tup [.str "state", .int w]) := hq3
            refine ⟨_, rfl, q3, _, _, _, rfl, rfl, SqT.of hq3, atN (m := 0) rfl, rfl, _, rfl, ?_⟩
            refine ite2 (fun _ => ?_) (fun h => absurd (by decide +kernel) h)
            exact ⟨_, rfl, q3, hq3, e12, rfl⟩
          | inl j =>
            rw [hlm] at hq3
            have hq3 : H12 q3 = some (.tup [.str "over", .int (j : Int)]) := hq3
            refine ⟨_, rfl, q3, _, _, _, rfl, rfl, SqT.of hq3, atN (m := 0) rfl, rfl, _, rfl, ?_⟩
            refine ite2 (fun h => absurd h (by decide +kernel)) (fun _ => ?_)
            refine ⟨_, rfl, q3, _, _, _, rfl, rfl, SqT.of hq3, atN (m := 1) rfl, _, rfl, _, _, rfl, rfl, by show 2 ≤ sizeLine; decide, fun q4 hq4 => ⟨q4, ?_, e12.trans (Ex.new hq4), rfl⟩⟩
            show (upd H12 q4 _) q4 = some (.tup [.str "over", .int ((j + c : Nat) : Int)])
            rw [upd_same, Int.natCast_add]
        rintro σ H13 ⟨q4, hq4, e13, rfl⟩
        refine ⟨fun σ H' => Ex H11 H' ∧ σ = [some (.ref p), some (.ref t), some (.ref x), some (.int st), some (.int pt), some (.int (gG b f r : Int)), some (.str y.str), some (.int ((c + m : Nat) : Int)), some (.ref q), some (.int (c : Int)), some (.ref q2), none, none, some (.ref q3), some (.ref q4), none, none, none], ?_, ?_⟩
        · refine ⟨_, rfl, _, _, rfl, lands_dp (hq.ex (e11.trans e13)), rpN.1, rpN.2.1, rpN.2.2.1, rpN.2.2.2.1, rpN.2.2.2.2, ?_⟩
          refine ⟨_, rfl, _, _, rfl, lands_dp hq4, rpN.1, rpN.2.1, rpN.2.2.1, rpN.2.2.2.1, rpN.2.2.2.2, rfl, _, rfl, ?_⟩
          rw [same]
          refine ite2 (fun h => absurd h (by simp)) (fun _ => ?_)
          exact ⟨e13, rfl⟩
        clear hq3 hq4 e12 e13 hNm em
        rintro σ H14 ⟨e14, rfl⟩
        have hc1 : lp s (c + 1) st 0 = match s z with | none => (Sum.inl c : Nat ⊕ Int) | some w => .inr w := by
          rw [lp_cut, hlc, Nat.zero_add]
          show (match s z with | none => (Sum.inl c : Nat ⊕ Int) | some w => lp s 0 w (c + 1)) = _
          cases s z <;> rfl
        refine ⟨fun σ H' => ∃ (v : V), ((s z = none ∧ v = .non) ∨ ∃ w, s z = some w ∧ v = .int w) ∧ Ex H11 H' ∧ σ = [some (.ref p), some (.ref t), some (.ref x), some (.int st), some (.int pt), some (.int (gG b f r : Int)), some (.str y.str), some (.int ((c + m : Nat) : Int)), some (.ref q), some (.int (c : Int)), some (.ref q2), none, none, some (.ref q3), some (.ref q4), some v, none, none], ?_, ?_⟩
        · refine ⟨_, rfl, _, rfl, q2, _, _, _, rfl, rfl, SqT.of (e14 _ _ hq2), atN (m := 1) rfl, _, rfl, _, _, rfl, rfl, _, rfl, t, b, f, r, 0, z + pt, 1, 0, y, rfl, SqT.of ((e11.trans e14) _ _ ht10), hok.v, by decide, by decide +kernel, addsz (Nat.lt_of_le_of_lt hzG.1 hbG) (Nat.lt_of_le_of_lt hpt.1 hbG), fun H15 e15 => ?_⟩
          cases hsz : stp y b f r pt z with
          | none =>
            rw [rgO_none hsz]
            exact ⟨_, .inl ⟨by rw [← hs]; exact hsz, rfl⟩, e14.trans e15, rfl⟩
          | some w =>
            rw [rgO_some hsz]
            exact ⟨_, .inr ⟨w, by rw [← hs]; exact hsz, rfl⟩, e14.trans e15, rfl⟩
        rintro σ H15 ⟨v, hv, e15, rfl⟩
        refine ⟨fun σ H' => ∃ (q5 : Addr), Lands H' q5 (lp s (c + 1) st 0) ∧ Ex H11 H' ∧ σ = [some (.ref p), some (.ref t), some (.ref x), some (.int st), some (.int pt), some (.int (gG b f r : Int)), some (.str y.str), some (.int ((c + m : Nat) : Int)), some (.ref q), some (.int (c : Int)), some (.ref q2), none, none, some (.ref q3), some (.ref q5), some v, none, none], ?_, ?_⟩
        · rw [hc1]
          rcases hv with ⟨hv, rfl⟩ | ⟨w, hv, rfl⟩
          · rw [hv]
            refine ⟨_, rfl, rfl, _, rfl, ?_⟩
            refine ite2 (fun _ => ?_) (fun h => absurd (by simp) h)
            exact ⟨_, rfl, by show 2 ≤ sizeLine; decide, fun q5 hq5 => ⟨q5, upd_same, e15.trans (Ex.new hq5), rfl⟩⟩
          · rw [hv]
            refine ⟨_, rfl, rfl, _, rfl, ?_⟩
            refine ite2 (fun h => absurd h (by simp)) (fun _ => ?_)
            exact ⟨_, rfl, by show 2 ≤ sizeLine; decide, fun q5 hq5 => ⟨q5, upd_same, e15.trans (Ex.new hq5), rfl⟩⟩
        rintro σ H16 ⟨q5, hq5, e16, rfl⟩
        refine ⟨_, rfl, _, rfl, _, rfl, _, rfl, _, rfl, _, _, rfl, rfl, x, b, f, r, b ^ f, gG b f r, st, pt, y, c + 1, by dsimp only; rw [Int.natCast_add]; rfl, ga10.mono (e11.trans e16), hst, hpt, by omega, fun q6 H17 e17 hq6 => ?_⟩
        rw [hs] at hq6
        refine ⟨_, _, rfl, lands_dp hq6, rpc1.1, rpc1.2.1, rpc1.2.2.1, rpc1.2.2.2.1, rpc1.2.2.2.2, ?_⟩
        refine ⟨_, rfl, _, _, rfl, lands_dp (hq5.ex e17), rpc1.1, rpc1.2.1, rpc1.2.2.1, rpc1.2.2.2.1, rpc1.2.2.2.2, rfl, _, rfl, ?_⟩
        rw [same]
        refine ite2 (fun h => absurd h (by simp)) (fun _ => ?_)
        exact ⟨_, _, _, e11.trans (e16.trans e17), rfl⟩
    clear hq2 e11
    rintro σ H12 ⟨z13, z14, z15, e12, rfl⟩
    refine ⟨fun σ H' => ∃ (q7 : Addr), Stalls H' q7 s st ∧ Ex H10 H' ∧ σ = [some (.ref p), some (.ref t), some (.ref x), some (.int st), some (.int pt), some (.int (gG b f r : Int)), some (.str y.str), some (.int (N : Int)), some (.ref q), some (.int (c : Int)), some (.ref q2), some (.ref q7), none, z13, z14, z15, none, none], ?_, ?_⟩
    · refine ⟨_, rfl, _, rfl, _, rfl, _, rfl, x, b, f, r, b ^ f, gG b f r, st, pt, y, rfl, ga10.mono e12, hst, hpt, fun q7 H13 e13 hq7 => ?_⟩
      rw [hs] at hq7
      exact ⟨q7, hq7, e12.trans e13, rfl⟩
    clear e12
    rintro σ H13 ⟨q7, hq7, e13, rfl⟩
    obtain ⟨j, z, hrun, hq7⟩ := hq7
    have ga13 := ga10.mono e13
    have hlz : ∀ m, lp s (j + m) st 0 = lp s m z j := fun m => by rw [lp_run hrun, Nat.zero_add]
    rcases hq7 with ⟨hsz, hq7⟩ | ⟨hsz, hq7⟩
    · -- over
      refine ⟨fun σ H' => False, ?_, fun σ H' h => h.elim⟩
      refine ⟨_, rfl, q7, _, _, _, rfl, rfl, SqT.of hq7, atN (m := 0) rfl, rfl, _, rfl, ?_⟩
      refine ite2 (fun _ => ?_) (fun h => absurd (by decide +kernel) h)
      refine ⟨_, rfl, q7, _, _, _, rfl, rfl, SqT.of hq7, atN (m := 1) rfl, _, _, rfl, rfl, ⟨by decide, by decide, by decide⟩, _, _, rfl, rfl, _, rfl, ?_⟩
      refine ite2 (fun h => ?_) (fun h => ?_)
      · exact kk _ e13
      have hj : (j : Int) ≤ 10 ^ 17 := by
        have h : ¬ (10 : Int) ^ (17 : Int).toNat < (j : Int) := fun z => h (decide_eq_true z)
        rw [t17] at h
        omega
      have h10 : (10 : Int) ^ 17 = 100000000000000000 := by decide
      have hl1 : lp s (j + 1) st 0 = .inl j := by
        rw [hlz]
        show (match s z with | none => (Sum.inl j : Nat ⊕ Int) | some w => lp s 0 w (j + 1)) = _
        rw [hsz]
      refine ⟨_, rfl, _, rfl, _, rfl, _, rfl, _, rfl, q7, _, _, _, rfl, rfl, SqT.of hq7, atN (m := 1) rfl, _, _, rfl, rfl, x, b, f, r, b ^ f, gG b f r, st, pt, y, j + 1, by dsimp only; rw [Int.natCast_add]; rfl, ga13, hst, hpt, by omega, fun q8 H14 e14 hq8 => ?_⟩
      rw [hs, hl1] at hq8
      have rpj := rp_lp (u := .inl j) (nat_lg (j := j) (by omega))
      refine ⟨_, _, rfl, lands_dp hq8, rpj.1, rpj.2.1, rpj.2.2.1, rpj.2.2.2.1, rpj.2.2.2.2, ?_⟩
      refine ⟨_, rfl, _, _, rfl, lands_dp (u := .inl j) (e14 _ _ hq7), rpj.1, rpj.2.1, rpj.2.2.1, rpj.2.2.2.1, rpj.2.2.2.2, rfl, ?_⟩
      rw [decide_eq_true rfl]
      exact kk _ (e13.trans e14)
    -- stalls
    have hzG : OnG b (b ^ f) (gG b f r) z := by
      have h1 := hlz 0
      rw [Nat.add_zero, ← hs] at h1
      exact lp_on hok.gr hst h1
    have zlg : z.natAbs.log2 < 1920 := lg (Nat.lt_of_le_of_lt hzG.1 hbG) (by decide) (by decide)
    refine ⟨fun σ H' => H' = H13 ∧ σ = [some (.ref p), some (.ref t), some (.ref x), some (.int st), some (.int pt), some (.int (gG b f r : Int)), some (.str y.str), some (.int (N : Int)), some (.ref q), some (.int (c : Int)), some (.ref q2), some (.ref q7), none, z13, z14, z15, none, none], ?_, ?_⟩
    · refine ⟨_, rfl, q7, _, _, _, rfl, rfl, SqT.of hq7, atN (m := 0) rfl, rfl, _, rfl, ?_⟩
      refine ite2 (fun h => absurd h (by decide +kernel)) (fun _ => ?_)
      exact ⟨rfl, rfl⟩
    rintro σ H13 ⟨rfl, rfl⟩
    refine ⟨fun σ H' => j ≤ 10 ^ 17 ∧ H' = H13 ∧ σ = [some (.ref p), some (.ref t), some (.ref x), some (.int st), some (.int pt), some (.int (gG b f r : Int)), some (.str y.str), some (.int (N : Int)), some (.ref q), some (.int (c : Int)), some (.ref q2), some (.ref q7), none, z13, z14, z15, none, none], ?_, ?_⟩
    · refine ⟨_, rfl, q7, _, _, _, rfl, rfl, SqT.of hq7, atN (m := 2) rfl, _, _, rfl, rfl, ⟨by decide, by decide, by decide⟩, _, _, rfl, rfl, _, rfl, ?_⟩
      refine ite2 (fun h => ?_) (fun h => ?_)
      · exact kk _ e13
      have h : ¬ (10 : Int) ^ (17 : Int).toNat < (j : Int) := fun z => h (decide_eq_true z)
      rw [t17] at h
      exact ⟨by omega, rfl, rfl⟩
    rintro σ H13 ⟨hj, rfl, rfl⟩
    have rp2 := rp_tup2 sm_state (sm_int zlg)
    have rp3 := rp_list3 sm_state (sm_int zlg)
    refine ⟨fun σ H' => ∃ (D : Addr) (a1 a2 a3 : Addr) (z16 z17 : Option V), Ex H13 H' ∧ H' D = some (.lst [.ref a1, .ref a2, .ref a3]) ∧ H' a1 = some (.tup [.str "state", .int z]) ∧ H' a2 = some (.tup [.str "state", .int z]) ∧ H' a3 = some (.tup [.str "state", .int z]) ∧ σ = [some (.ref p), some (.ref t), some (.ref x), some (.int st), some (.int pt), some (.int (gG b f r : Int)), some (.str y.str), some (.int (N : Int)), some (.ref q), some (.int (c : Int)), some (.ref q2), some (.ref q7), some (.ref D), z13, z14, z15, z16, z17], ?_, ?_⟩
    · refine ⟨_, _, rfl, rfl, ⟨by decide, by decide, by decide⟩, by show 3 ≤ sizeLine; decide, fun T1 hT1 => ?_⟩
      dsimp only
      rw [t9]
      have e14 := Ex.new (o := .tup [V.int 0, V.int 1, V.int ((10 ^ 9 : Nat) : Int)]) hT1
      have h14 : (upd H13 T1 (.tup [V.int 0, V.int 1, V.int ((10 ^ 9 : Nat) : Int)])) T1 = some (.tup [V.int 0, V.int 1, V.int ((10 ^ 9 : Nat) : Int)]) := upd_same
      generalize (upd H13 T1 (.tup [V.int 0, V.int 1, V.int ((10 ^ 9 : Nat) : Int)])) = H14 at *
      refine ⟨T1, rfl, ⟨_, SqT.of h14⟩, fun D hD => ?_⟩
      refine lc_tup (K := K) (a := T1) (xs := [V.int 0, V.int 1, V.int ((10 ^ 9 : Nat) : Int)]) (fun i H' => Ex H14 H' ∧ ∃ qs : List Addr, qs.length = i ∧ H' D = some (.lst (qs.map V.ref)) ∧ ∀ a ∈ qs, H' a = some (.tup [.str "state", .int z])) ⟨Ex.new hD, [], rfl, upd_same, fun z hz => by cases hz⟩ (fun j H' _ z => SqT.of (z.1 _ _ h14)) ?_ ?_
      · rintro i v H15 hv ⟨e15, qs, len, h15, hall⟩
        have hi : i < 3 := by
          have := (List.getElem?_eq_some_iff.mp hv).1
          simpa using this
        obtain ⟨m, rfl, hm⟩ : ∃ m : Nat, v = .int (m : Int) ∧ m ≤ 10 ^ 9 := by
          match i, hv with
          | 0, hv => cases hv; exact ⟨0, rfl, by decide⟩
          | 1, hv => cases hv; exact ⟨1, rfl, by decide⟩
          | 2, hv => cases hv; exact ⟨10 ^ 9, rfl, by decide⟩
        refine ⟨rfl, ?_⟩
        dsimp only [tYes]
        refine iteT ?_
        have e1315 := e14.trans e15
        have em : ((j + m : Nat) : Int) = (j : Int) + (m : Int) := by omega
        refine ⟨_, rfl, _, rfl, _, rfl, _, rfl, _, rfl, q7, _, _, _, rfl, rfl, SqT.of (e1315 _ _ hq7), atN (m := 2) rfl, _, rfl, _, _, rfl, rfl, x, b, f, r, b ^ f, gG b f r, st, pt, y, j + m, by rw [em]; rfl, ga13.mono e1315, hst, hpt, by omega, fun q8 H16 e16 hq8 => ?_⟩
        rw [hs, hlz, lp_stay hsz] at hq8
        have hq8 : H16 q8 = some (.tup [.str "state", .int z]) := hq8
        have h16 := e16 _ _ h15
        refine ⟨_, h16, small1000 (by rw [List.length_map]; omega), Ex.mut (e15.trans e16) hD, qs ++ [q8], by rw [List.length_append, len]; rfl, by rw [upd_same, List.map_append]; rfl, fun w hw => ?_⟩
        have hw2 : H16 w = some (.tup [.str "state", .int z]) := by
          rcases List.mem_append.mp hw with hw | hw
          · exact e16 _ _ (hall w hw)
          · rw [List.mem_singleton.mp hw]; exact hq8
        rw [upd_ne (ne_of hw2 h16 (by intro z; cases z))]
        exact hw2
      · rintro H15 ⟨e15, qs, len, h15, hall⟩
        match qs, len with
        | [a1, a2, a3], _ => exact ⟨D, a1, a2, a3, _, _, e14.trans e15, h15, hall _ (by simp), hall _ (by simp), hall _ (by simp), rfl⟩
    rintro σ H14 ⟨D, a1, a2, a3, z16, z17, e14, hD, ha1, ha2, ha3, rfl⟩
    have e1014 := e13.trans e14
    have dt : ∀ {H' : Hp} {w : Addr}, H' w = some (.tup [.str "state", .int z]) → Dp K H' (.ref w) (.tuple [.str "state", .int z]) := fun h => .tup (SqT.of h) (.cons (.str _) (.cons (.int _) .nil))
    refine ⟨fun σ H' => Ex H14 H' ∧ σ = [some (.ref p), some (.ref t), some (.ref x), some (.int st), some (.int pt), some (.int (gG b f r : Int)), some (.str y.str), some (.int (N : Int)), some (.ref q), some (.int (c : Int)), some (.ref q2), some (.ref q7), some (.ref D), z13, z14, z15, z16, z17], ?_, ?_⟩
    · refine ⟨_, rfl, _, _, rfl, .lst (SqL.of hD) (.cons (dt ha1) (.cons (dt ha2) (.cons (dt ha3) .nil))), rp3.1, rp3.2.1, rp3.2.2.1, rp3.2.2.2.1, rp3.2.2.2.2, ?_⟩
      refine ⟨_, rfl, q7, _, _, _, rfl, rfl, SqT.of (e14 _ _ hq7), atN (m := 1) rfl, by show 2 ≤ sizeLine; decide, fun w hw => ?_⟩
      have e15 := Ex.new (o := .tup [V.str "state", V.int z]) hw
      have h15 : (upd H14 w (.tup [V.str "state", V.int z])) w = some (.tup [V.str "state", V.int z]) := upd_same
      generalize (upd H14 w (.tup [V.str "state", V.int z])) = H15 at *
      refine ⟨by show 1 ≤ sizeLine; decide, fun l hl => ?_⟩
      refine ⟨l, 3, _, rfl, rfl, upd_same, by decide, by decide, by show 1 * 3 ≤ sizeLine; decide, fun l2 hl2 => ?_⟩
      have e16 := e15.trans ((Ex.new (o := .lst [V.ref w]) hl).trans (Ex.new (o := .lst (List.replicate (3 : Int).toNat [V.ref w]).flatten) hl2))
      have hw16 : (upd (upd H15 l (.lst [V.ref w])) l2 (.lst (List.replicate (3 : Int).toNat [V.ref w]).flatten)) w = some (.tup [V.str "state", V.int z]) := ((Ex.new (o := .lst [V.ref w]) hl).trans (Ex.new (o := .lst (List.replicate (3 : Int).toNat [V.ref w]).flatten) hl2)) _ _ h15
      have hl16 : (upd (upd H15 l (.lst [V.ref w])) l2 (.lst (List.replicate (3 : Int).toNat [V.ref w]).flatten)) l2 = some (.lst [V.ref w, V.ref w, V.ref w]) := upd_same
      generalize (upd (upd H15 l (.lst [V.ref w])) l2 (.lst (List.replicate (3 : Int).toNat [V.ref w]).flatten)) = H16 at *
      refine ⟨_, _, rfl, .lst (SqL.of hl16) (.cons (dt hw16) (.cons (dt hw16) (.cons (dt hw16) .nil))), rp3.1, rp3.2.1, rp3.2.2.1, rp3.2.2.2.1, rp3.2.2.2.2, rfl, _, rfl, ?_⟩
      rw [same]
      refine ite2 (fun h => absurd h (by simp)) (fun _ => ?_)
      exact ⟨e16, rfl⟩
    rintro σ H15 ⟨e15, rfl⟩
    have e1315 := e14.trans e15
    refine ⟨_, rfl, q7, _, _, _, rfl, rfl, SqT.of (e1315 _ _ hq7), atN (m := 2) rfl, rfl, _, rfl, ?_⟩
    refine ite2 (fun h => ?_) (fun h => ?_)
    · exact kk _ (e13.trans e1315)
    have hj0 : (j : Int) ≠ 0 := by simpa using h
    obtain ⟨i, rfl⟩ : ∃ i, j = i + 1 := ⟨j - 1, by omega⟩
    obtain ⟨u, hu1, hu2, hu3⟩ := run_last hrun
    have hli : lp s i st 0 = .inr u := by
      have := lp_run (n := 0) (k := 0) hu1
      rw [Nat.add_zero] at this
      rw [this]; rfl
    have huG : OnG b (b ^ f) (gG b f r) u := by
      rw [← hs] at hli
      exact lp_on hok.gr hst hli
    have ulg : u.natAbs.log2 < 1920 := lg (Nat.lt_of_le_of_lt huG.1 hbG) (by decide) (by decide)
    have rpu := rp_tup2 sm_state (sm_int ulg)
    have ei : ((i + 1 : Nat) : Int) - 1 = (i : Int) := by omega
    refine ⟨_, rfl, _, rfl, _, rfl, _, rfl, _, rfl, q7, _, _, _, rfl, rfl, SqT.of (e1315 _ _ hq7), atN (m := 2) rfl, _, _, rfl, rfl, x, b, f, r, b ^ f, gG b f r, st, pt, y, i, by dsimp only; rw [ei]; rfl, ga13.mono e1315, hst, hpt, by omega, fun q8 H16 e16 hq8 => ?_⟩
    rw [hs, hli] at hq8
    refine ⟨_, _, rfl, lands_dp hq8, rpu.1, rpu.2.1, rpu.2.2.1, rpu.2.2.2.1, rpu.2.2.2.2, ?_⟩
    refine ⟨_, rfl, q7, _, _, _, rfl, rfl, SqT.of ((e1315.trans e16) _ _ hq7), atN (m := 1) rfl, by show 2 ≤ sizeLine; decide, fun w hw => ?_⟩
    refine ⟨_, _, rfl, dt upd_same, rp2.1, rp2.2.1, rp2.2.2.1, rp2.2.2.2.1, rp2.2.2.2.2, rfl, ?_⟩
    have hne : (dlp (Sum.inr u)).shown ≠ (PyData.tuple [.str "state", .int z]).shown := shown_ne hu3.symm
    rw [decide_eq_false (fun h => hne (V.str.inj h))]
    exact kk _ (((e13.trans e1315).trans e16).trans (Ex.new hw))
def sp_right : Sp := fun vs H Q _ => ∃ (p : Addr) (n : Nat), vs = [.ref p] ∧ PotAt H p n ∧ n + 2000 ≤ 100000 ∧ ∀ H', Kp p H H' → Q (.bl true) H'
theorem ok_l_right (T : Txt K mg a) : GOk P w K mg base 8 a.l_right a.l_right_fd ["pot"] sp_right := by
  refine okG T.F_l_right sc_l_right (fun vs H Q E h => ?_) (fun cdv A outer s H vs Q E hG hr h => ?_)
  · obtain ⟨p, n, rfl, _⟩ := h
    rfl
  · obtain ⟨p, n, rfl, hp, hn, k⟩ := h
    refine ⟨_, (pss_one (ps_ret (pe_and (pe_callG (ok_l_small_right T) hG (hr.mono (by decide)) rfl T.g_l_small_right T.k_l_small_right T.B_l_small_right .nil (pa_cons (pv 0) pa_nil)) (pe_one (pe_callG (ok_l_great_right T) hG (hr.mono (by decide)) rfl T.g_l_great_right T.k_l_great_right T.B_l_great_right .nil (pa_cons (pv 0) pa_nil)))))), ?_⟩
    refine ⟨_, rfl, p, n, rfl, hp, by omega, fun H1 k1 p1 => ⟨true, rfl, iteT ?_⟩⟩
    exact ⟨_, rfl, p, n + 500, rfl, p1, by omega, fun H2 k2 => k H2 (k1.trans k2)⟩
theorem all_id : ∀ bs : List Bool, (∀ b ∈ bs, b = true) → bs.all id = true
  | [], _ => rfl
  | b :: bs, h => by
    rw [List.all_cons, all_id bs (fun c hc => h c (List.mem_cons_of_mem _ hc)), h b List.mem_cons_self]; rfl
def spLaw (K : PySem.W.Frag) : Sp := fun vs H Q _ => ∃ (a : Addr) (ns : List Int), vs = [.ref a] ∧ SqL K H a (ns.map V.int) ∧ ns.length ≤ 63 ∧ ∀ H', Q (.bl true) H'
theorem ok_law (T : Txt K mg a) : GOk P w K mg base 9 a.law a.law_fd ["script"] (spLaw K) := by
  refine okG T.F_law sc_law (fun vs H Q E h => ?_) (fun cdv A outer s H vs Q E hG hr h => ?_)
  · obtain ⟨q, ns, rfl, _⟩ := h
    rfl
  · obtain ⟨q, ns, rfl, hs, hl, k⟩ := h
    refine ⟨_, (pss_one (ps_ret (pe_callB (cr_all rfl) (by rfl) T.n_all (by decide +kernel) (pa_cons (pe_lc (own := [("place", 1)]) (g := gName 1) (by rfl) sc_law.nd (pi_list (pe_call (ok_l_cells T) (hr.mono (by decide)) rfl T.g_l_cells T.k_l_cells T.B_l_cells .nil pass0 (pa_cons (pv 0) (pa_cons pe_int pa_nil)))) (blkOk_by (own := [("place", 1)]) (N := N_law) (sc := defScope s_law) (by decide +kernel)) (fun _ _ _ _ _ => pg_name (i := 1) sc_law.nd rfl (Or.inl rfl)) (fun _ _ _ _ _ => pts_nil) (fun _ _ _ _ _ => (pe_callG (ok_l_right T) hG (hr.mono (by decide)) rfl T.g_l_right T.k_l_right T.B_l_right .nil (pa_cons (pe_call (ok_l_pot T) (hr.mono (by decide)) rfl T.g_l_pot T.k_l_pot T.B_l_pot .nil pass0 (pa_cons (pv 0) (pa_cons (pv 1) pa_nil))) pa_nil)))) pa_nil)))), ?_⟩
    refine ⟨_, rfl, q, ns, 2, rfl, hs, by decide, by decide, fun l c H1 e1 hc hl1 => ⟨l, rfl, ⟨_, SqL.of hl1⟩, fun D hD => lc_list (K := K) (a := l) (xs := (List.range c).map fun (i : Nat) => V.int (i : Int)) (fun j H2 => Ex H1 H2 ∧ ∃ bs : List Bool, H2 D = some (.lst (bs.map V.bl)) ∧ (∀ b ∈ bs, b = true) ∧ bs.length ≤ j)
      ⟨Ex.new hD, [], upd_same, fun b hb => (by cases hb), Nat.le_refl _⟩ (fun j H2 _ z => SqL.of (z.1 _ _ hl1)) ?_ ?_⟩⟩
    · rintro j v H2 hv ⟨e2, bs, hb1, hb2, hb3⟩
      obtain ⟨hjc, rfl⟩ : j < c ∧ v = V.int (j : Int) := by
        have h1 := (List.getElem?_eq_some_iff.mp hv).1
        rw [List.length_map, List.length_range] at h1
        rw [List.getElem?_map, List.getElem?_range h1] at hv
        exact ⟨h1, (Option.some.inj hv).symm⟩
      refine ⟨rfl, ?_⟩
      dsimp only [tYes]
      refine iteT ?_
      refine ⟨_, rfl, _, rfl, q, ns, j, rfl, ex_l (e1.trans e2) hs, by omega, fun p H3 e3 hp p3 => ⟨p, 0, rfl, p3, by decide, fun H4 k4 => ?_⟩⟩
      have e4 : Ex H2 H4 := fun b o hb => k4 b o (e3 b o hb) (ne_of_none hb hp)
      refine ⟨_, e4 _ _ hb1, small1000 (by rw [List.length_map]; omega), Ex.mut (e2.trans e4) hD, bs ++ [true], ?_, ?_, ?_⟩
      · rw [upd_same, List.map_append]; rfl
      · intro b hb
        rcases List.mem_append.mp hb with hb | hb
        · exact hb2 b hb
        · exact List.mem_singleton.mp hb
      · rw [List.length_append, List.length_singleton]; omega
    · rintro H2 ⟨e2, bs, hb1, hb2, hb3⟩
      refine ⟨D, bs, rfl, SqL.of hb1, ?_⟩
      rw [all_id bs hb2]
      exact k H2
end
end My


set_option Elab.async false
set_option maxRecDepth 100000
namespace My
open PySem L2 Evl
set_option maxHeartbeats 0 in
theorem all_mk {l : PySem.W.OpenLaw} {w : World} {K : PySem.W.Frag} {h : Heap} {mg : Str → Option Value} {fa f_is_whole f_is_from_to f_power f_Grid_init f_Grid_contains f_is_grid f_spacing_at f_fitted f_goes_up f_check_way f_drift f_stall f_summed f_laps_ahead f_ground_of f_check_laps f_check_summed f_l_pot f_l_take f_l_of f_l_cells f_l_grid_power f_l_grid_more f_l_grid_greatest f_l_grid_spacing f_l_grid_rounded f_l_grid_drawn f_l_grid_a_number f_l_own_laps f_l_small_right f_l_great_right f_l_right f_law C_Grid : Addr} (X : K.In h) (G : h.Ns mainGlobals mg) (hfa : mg "law" = some (.ref fa))
    {od_is_whole an_is_whole od_is_from_to an_is_from_to od_power an_power od_Grid_init an_Grid_init od_Grid_contains an_Grid_contains od_is_grid an_is_grid od_spacing_at an_spacing_at od_fitted an_fitted od_goes_up an_goes_up od_check_way an_check_way od_drift an_drift od_stall an_stall od_summed an_summed od_laps_ahead an_laps_ahead od_ground_of an_ground_of od_check_laps an_check_laps od_check_summed an_check_summed od_l_pot an_l_pot od_l_take an_l_take od_l_of an_l_of od_l_cells an_l_cells od_l_grid_power an_l_grid_power od_l_grid_more an_l_grid_more od_l_grid_greatest an_l_grid_greatest od_l_grid_spacing an_l_grid_spacing od_l_grid_rounded an_l_grid_rounded od_l_grid_drawn an_l_grid_drawn od_l_grid_a_number an_l_grid_a_number od_l_own_laps an_l_own_laps od_l_small_right an_l_small_right od_l_great_right an_l_great_right od_l_right an_l_right od_law an_law : Option Addr} {sl_is_whole sl_is_from_to sl_power sl_Grid_init sl_Grid_contains sl_is_grid sl_spacing_at sl_fitted sl_goes_up sl_check_way sl_drift sl_stall sl_summed sl_laps_ahead sl_ground_of sl_check_laps sl_check_summed sl_l_pot sl_l_take sl_l_of sl_l_cells sl_l_grid_power sl_l_grid_more sl_l_grid_greatest sl_l_grid_spacing sl_l_grid_rounded sl_l_grid_drawn sl_l_grid_a_number sl_l_own_laps sl_l_small_right sl_l_great_right sl_l_right sl_law : Array (Option Value)} {oc_is_whole kV_is_whole dc_is_whole pm_is_whole cd_is_whole ct_is_whole oc_is_from_to kV_is_from_to dc_is_from_to pm_is_from_to cd_is_from_to ct_is_from_to oc_power kV_power dc_power pm_power cd_power ct_power oc_Grid_init kV_Grid_init dc_Grid_init pm_Grid_init cd_Grid_init ct_Grid_init oc_Grid_contains kV_Grid_contains dc_Grid_contains pm_Grid_contains cd_Grid_contains ct_Grid_contains oc_is_grid kV_is_grid dc_is_grid pm_is_grid cd_is_grid ct_is_grid oc_spacing_at kV_spacing_at dc_spacing_at pm_spacing_at cd_spacing_at ct_spacing_at oc_fitted kV_fitted dc_fitted pm_fitted cd_fitted ct_fitted oc_goes_up kV_goes_up dc_goes_up pm_goes_up cd_goes_up ct_goes_up oc_check_way kV_check_way dc_check_way pm_check_way cd_check_way ct_check_way oc_drift kV_drift dc_drift pm_drift cd_drift ct_drift oc_stall kV_stall dc_stall pm_stall cd_stall ct_stall oc_summed kV_summed dc_summed pm_summed cd_summed ct_summed oc_laps_ahead kV_laps_ahead dc_laps_ahead pm_laps_ahead cd_laps_ahead ct_laps_ahead oc_ground_of kV_ground_of dc_ground_of pm_ground_of cd_ground_of ct_ground_of oc_check_laps kV_check_laps dc_check_laps pm_check_laps cd_check_laps ct_check_laps oc_check_summed kV_check_summed dc_check_summed pm_check_summed cd_check_summed ct_check_summed oc_l_pot kV_l_pot dc_l_pot pm_l_pot cd_l_pot ct_l_pot oc_l_take kV_l_take dc_l_take pm_l_take cd_l_take ct_l_take oc_l_of kV_l_of dc_l_of pm_l_of cd_l_of ct_l_of oc_l_cells kV_l_cells dc_l_cells pm_l_cells cd_l_cells ct_l_cells oc_l_grid_power kV_l_grid_power dc_l_grid_power pm_l_grid_power cd_l_grid_power ct_l_grid_power oc_l_grid_more kV_l_grid_more dc_l_grid_more pm_l_grid_more cd_l_grid_more ct_l_grid_more oc_l_grid_greatest kV_l_grid_greatest dc_l_grid_greatest pm_l_grid_greatest cd_l_grid_greatest ct_l_grid_greatest oc_l_grid_spacing kV_l_grid_spacing dc_l_grid_spacing pm_l_grid_spacing cd_l_grid_spacing ct_l_grid_spacing oc_l_grid_rounded kV_l_grid_rounded dc_l_grid_rounded pm_l_grid_rounded cd_l_grid_rounded ct_l_grid_rounded oc_l_grid_drawn kV_l_grid_drawn dc_l_grid_drawn pm_l_grid_drawn cd_l_grid_drawn ct_l_grid_drawn oc_l_grid_a_number kV_l_grid_a_number dc_l_grid_a_number pm_l_grid_a_number cd_l_grid_a_number ct_l_grid_a_number oc_l_own_laps kV_l_own_laps dc_l_own_laps pm_l_own_laps cd_l_own_laps ct_l_own_laps oc_l_small_right kV_l_small_right dc_l_small_right pm_l_small_right cd_l_small_right ct_l_small_right oc_l_great_right kV_l_great_right dc_l_great_right pm_l_great_right cd_l_great_right ct_l_great_right oc_l_right kV_l_right dc_l_right pm_l_right cd_l_right ct_l_right oc_law kV_law dc_law pm_law cd_law ct_law : Value} {t_MOST_FIGURES t_MOST_MORE t_MOST_LAPS : Tok} {A_WAYS : Addr} {od_WAYS : Option Addr} {sl_WAYS : Array (Option Value)} {en_WAYS : Nat} {tk0_WAYS tk1_WAYS tk2_WAYS tk3_WAYS : Tok}
    (aC_Grid : PySem.W.nsIn K mainGlobals "Grid" = some (some (.ref C_Grid)))
    (a_is_whole : PySem.W.nsIn K mainGlobals "is_whole" = some (some (.ref f_is_whole)))
    (l_is_whole : K.lookup f_is_whole = some ⟨oc_is_whole, od_is_whole, .func (PySem.W.fnOf "is_whole" "is_whole" (defArgs s_is_whole) (defBody s_is_whole) (defScope s_is_whole) .none kV_is_whole dc_is_whole pm_is_whole an_is_whole cd_is_whole ct_is_whole), sl_is_whole⟩)
    (c_is_whole : PySem.W.codeIn K cd_is_whole "is_whole" = true)
    (k_is_whole : PySem.W.keepIn K (.ref f_is_whole) = true)
    (a_is_from_to : PySem.W.nsIn K mainGlobals "is_from_to" = some (some (.ref f_is_from_to)))
    (l_is_from_to : K.lookup f_is_from_to = some ⟨oc_is_from_to, od_is_from_to, .func (PySem.W.fnOf "is_from_to" "is_from_to" (defArgs s_is_from_to) (defBody s_is_from_to) (defScope s_is_from_to) .none kV_is_from_to dc_is_from_to pm_is_from_to an_is_from_to cd_is_from_to ct_is_from_to), sl_is_from_to⟩)
    (c_is_from_to : PySem.W.codeIn K cd_is_from_to "is_from_to" = true)
    (k_is_from_to : PySem.W.keepIn K (.ref f_is_from_to) = true)
    (a_power : PySem.W.nsIn K mainGlobals "power" = some (some (.ref f_power)))
    (l_power : K.lookup f_power = some ⟨oc_power, od_power, .func (PySem.W.fnOf "power" "power" (defArgs s_power) (defBody s_power) (defScope s_power) .none kV_power dc_power pm_power an_power cd_power ct_power), sl_power⟩)
    (c_power : PySem.W.codeIn K cd_power "power" = true)
    (k_power : PySem.W.keepIn K (.ref f_power) = true)
    (a_Grid_init : PySem.W.findIn K (.ref C_Grid) "__init__" = some (some (.ref f_Grid_init)))
    (i_Grid_init : PySem.W.isFn K (.ref f_Grid_init) = true)
    (l_Grid_init : K.lookup f_Grid_init = some ⟨oc_Grid_init, od_Grid_init, .func (PySem.W.fnOf "__init__" "Grid.__init__" (defArgs s_Grid_init) (defBody s_Grid_init) (defScope s_Grid_init) .none kV_Grid_init dc_Grid_init pm_Grid_init an_Grid_init cd_Grid_init ct_Grid_init), sl_Grid_init⟩)
    (c_Grid_init : PySem.W.codeIn K cd_Grid_init "Grid.__init__" = true)
    (k_Grid_init : PySem.W.keepIn K (.ref f_Grid_init) = true)
    (a_Grid_contains : PySem.W.findIn K (.ref C_Grid) "__contains__" = some (some (.ref f_Grid_contains)))
    (i_Grid_contains : PySem.W.isFn K (.ref f_Grid_contains) = true)
    (l_Grid_contains : K.lookup f_Grid_contains = some ⟨oc_Grid_contains, od_Grid_contains, .func (PySem.W.fnOf "__contains__" "Grid.__contains__" (defArgs s_Grid_contains) (defBody s_Grid_contains) (defScope s_Grid_contains) .none kV_Grid_contains dc_Grid_contains pm_Grid_contains an_Grid_contains cd_Grid_contains ct_Grid_contains), sl_Grid_contains⟩)
    (c_Grid_contains : PySem.W.codeIn K cd_Grid_contains "Grid.__contains__" = true)
    (k_Grid_contains : PySem.W.keepIn K (.ref f_Grid_contains) = true)
    (a_is_grid : PySem.W.nsIn K mainGlobals "is_grid" = some (some (.ref f_is_grid)))
    (l_is_grid : K.lookup f_is_grid = some ⟨oc_is_grid, od_is_grid, .func (PySem.W.fnOf "is_grid" "is_grid" (defArgs s_is_grid) (defBody s_is_grid) (defScope s_is_grid) .none kV_is_grid dc_is_grid pm_is_grid an_is_grid cd_is_grid ct_is_grid), sl_is_grid⟩)
    (c_is_grid : PySem.W.codeIn K cd_is_grid "is_grid" = true)
    (k_is_grid : PySem.W.keepIn K (.ref f_is_grid) = true)
    (a_spacing_at : PySem.W.nsIn K mainGlobals "spacing_at" = some (some (.ref f_spacing_at)))
    (l_spacing_at : K.lookup f_spacing_at = some ⟨oc_spacing_at, od_spacing_at, .func (PySem.W.fnOf "spacing_at" "spacing_at" (defArgs s_spacing_at) (defBody s_spacing_at) (defScope s_spacing_at) .none kV_spacing_at dc_spacing_at pm_spacing_at an_spacing_at cd_spacing_at ct_spacing_at), sl_spacing_at⟩)
    (c_spacing_at : PySem.W.codeIn K cd_spacing_at "spacing_at" = true)
    (k_spacing_at : PySem.W.keepIn K (.ref f_spacing_at) = true)
    (a_fitted : PySem.W.nsIn K mainGlobals "fitted" = some (some (.ref f_fitted)))
    (l_fitted : K.lookup f_fitted = some ⟨oc_fitted, od_fitted, .func (PySem.W.fnOf "fitted" "fitted" (defArgs s_fitted) (defBody s_fitted) (defScope s_fitted) .none kV_fitted dc_fitted pm_fitted an_fitted cd_fitted ct_fitted), sl_fitted⟩)
    (c_fitted : PySem.W.codeIn K cd_fitted "fitted" = true)
    (k_fitted : PySem.W.keepIn K (.ref f_fitted) = true)
    (a_goes_up : PySem.W.nsIn K mainGlobals "goes_up" = some (some (.ref f_goes_up)))
    (l_goes_up : K.lookup f_goes_up = some ⟨oc_goes_up, od_goes_up, .func (PySem.W.fnOf "goes_up" "goes_up" (defArgs s_goes_up) (defBody s_goes_up) (defScope s_goes_up) .none kV_goes_up dc_goes_up pm_goes_up an_goes_up cd_goes_up ct_goes_up), sl_goes_up⟩)
    (c_goes_up : PySem.W.codeIn K cd_goes_up "goes_up" = true)
    (k_goes_up : PySem.W.keepIn K (.ref f_goes_up) = true)
    (a_check_way : PySem.W.nsIn K mainGlobals "check_way" = some (some (.ref f_check_way)))
    (l_check_way : K.lookup f_check_way = some ⟨oc_check_way, od_check_way, .func (PySem.W.fnOf "check_way" "check_way" (defArgs s_check_way) (defBody s_check_way) (defScope s_check_way) .none kV_check_way dc_check_way pm_check_way an_check_way cd_check_way ct_check_way), sl_check_way⟩)
    (c_check_way : PySem.W.codeIn K cd_check_way "check_way" = true)
    (k_check_way : PySem.W.keepIn K (.ref f_check_way) = true)
    (a_drift : PySem.W.nsIn K mainGlobals "drift" = some (some (.ref f_drift)))
    (l_drift : K.lookup f_drift = some ⟨oc_drift, od_drift, .func (PySem.W.fnOf "drift" "drift" (defArgs s_drift) (defBody s_drift) (defScope s_drift) .none kV_drift dc_drift pm_drift an_drift cd_drift ct_drift), sl_drift⟩)
    (c_drift : PySem.W.codeIn K cd_drift "drift" = true)
    (k_drift : PySem.W.keepIn K (.ref f_drift) = true)
    (a_stall : PySem.W.nsIn K mainGlobals "stall" = some (some (.ref f_stall)))
    (l_stall : K.lookup f_stall = some ⟨oc_stall, od_stall, .func (PySem.W.fnOf "stall" "stall" (defArgs s_stall) (defBody s_stall) (defScope s_stall) .none kV_stall dc_stall pm_stall an_stall cd_stall ct_stall), sl_stall⟩)
    (c_stall : PySem.W.codeIn K cd_stall "stall" = true)
    (k_stall : PySem.W.keepIn K (.ref f_stall) = true)
    (a_summed : PySem.W.nsIn K mainGlobals "summed" = some (some (.ref f_summed)))
    (l_summed : K.lookup f_summed = some ⟨oc_summed, od_summed, .func (PySem.W.fnOf "summed" "summed" (defArgs s_summed) (defBody s_summed) (defScope s_summed) .none kV_summed dc_summed pm_summed an_summed cd_summed ct_summed), sl_summed⟩)
    (c_summed : PySem.W.codeIn K cd_summed "summed" = true)
    (k_summed : PySem.W.keepIn K (.ref f_summed) = true)
    (a_laps_ahead : PySem.W.nsIn K mainGlobals "laps_ahead" = some (some (.ref f_laps_ahead)))
    (l_laps_ahead : K.lookup f_laps_ahead = some ⟨oc_laps_ahead, od_laps_ahead, .func (PySem.W.fnOf "laps_ahead" "laps_ahead" (defArgs s_laps_ahead) (defBody s_laps_ahead) (defScope s_laps_ahead) .none kV_laps_ahead dc_laps_ahead pm_laps_ahead an_laps_ahead cd_laps_ahead ct_laps_ahead), sl_laps_ahead⟩)
    (c_laps_ahead : PySem.W.codeIn K cd_laps_ahead "laps_ahead" = true)
    (k_laps_ahead : PySem.W.keepIn K (.ref f_laps_ahead) = true)
    (a_ground_of : PySem.W.nsIn K mainGlobals "ground_of" = some (some (.ref f_ground_of)))
    (l_ground_of : K.lookup f_ground_of = some ⟨oc_ground_of, od_ground_of, .func (PySem.W.fnOf "ground_of" "ground_of" (defArgs s_ground_of) (defBody s_ground_of) (defScope s_ground_of) .none kV_ground_of dc_ground_of pm_ground_of an_ground_of cd_ground_of ct_ground_of), sl_ground_of⟩)
    (c_ground_of : PySem.W.codeIn K cd_ground_of "ground_of" = true)
    (k_ground_of : PySem.W.keepIn K (.ref f_ground_of) = true)
    (a_check_laps : PySem.W.nsIn K mainGlobals "check_laps" = some (some (.ref f_check_laps)))
    (l_check_laps : K.lookup f_check_laps = some ⟨oc_check_laps, od_check_laps, .func (PySem.W.fnOf "check_laps" "check_laps" (defArgs s_check_laps) (defBody s_check_laps) (defScope s_check_laps) .none kV_check_laps dc_check_laps pm_check_laps an_check_laps cd_check_laps ct_check_laps), sl_check_laps⟩)
    (c_check_laps : PySem.W.codeIn K cd_check_laps "check_laps" = true)
    (k_check_laps : PySem.W.keepIn K (.ref f_check_laps) = true)
    (a_check_summed : PySem.W.nsIn K mainGlobals "check_summed" = some (some (.ref f_check_summed)))
    (l_check_summed : K.lookup f_check_summed = some ⟨oc_check_summed, od_check_summed, .func (PySem.W.fnOf "check_summed" "check_summed" (defArgs s_check_summed) (defBody s_check_summed) (defScope s_check_summed) .none kV_check_summed dc_check_summed pm_check_summed an_check_summed cd_check_summed ct_check_summed), sl_check_summed⟩)
    (c_check_summed : PySem.W.codeIn K cd_check_summed "check_summed" = true)
    (k_check_summed : PySem.W.keepIn K (.ref f_check_summed) = true)
    (a_l_pot : PySem.W.nsIn K mainGlobals "_law_pot" = some (some (.ref f_l_pot)))
    (l_l_pot : K.lookup f_l_pot = some ⟨oc_l_pot, od_l_pot, .func (PySem.W.fnOf "_law_pot" "_law_pot" (defArgs s_l_pot) (defBody s_l_pot) (defScope s_l_pot) .none kV_l_pot dc_l_pot pm_l_pot an_l_pot cd_l_pot ct_l_pot), sl_l_pot⟩)
    (c_l_pot : PySem.W.codeIn K cd_l_pot "_law_pot" = true)
    (k_l_pot : PySem.W.keepIn K (.ref f_l_pot) = true)
    (a_l_take : PySem.W.nsIn K mainGlobals "_law_take" = some (some (.ref f_l_take)))
    (l_l_take : K.lookup f_l_take = some ⟨oc_l_take, od_l_take, .func (PySem.W.fnOf "_law_take" "_law_take" (defArgs s_l_take) (defBody s_l_take) (defScope s_l_take) .none kV_l_take dc_l_take pm_l_take an_l_take cd_l_take ct_l_take), sl_l_take⟩)
    (c_l_take : PySem.W.codeIn K cd_l_take "_law_take" = true)
    (k_l_take : PySem.W.keepIn K (.ref f_l_take) = true)
    (a_l_of : PySem.W.nsIn K mainGlobals "_law_of" = some (some (.ref f_l_of)))
    (l_l_of : K.lookup f_l_of = some ⟨oc_l_of, od_l_of, .func (PySem.W.fnOf "_law_of" "_law_of" (defArgs s_l_of) (defBody s_l_of) (defScope s_l_of) .none kV_l_of dc_l_of pm_l_of an_l_of cd_l_of ct_l_of), sl_l_of⟩)
    (c_l_of : PySem.W.codeIn K cd_l_of "_law_of" = true)
    (k_l_of : PySem.W.keepIn K (.ref f_l_of) = true)
    (a_l_cells : PySem.W.nsIn K mainGlobals "_law_cells" = some (some (.ref f_l_cells)))
    (l_l_cells : K.lookup f_l_cells = some ⟨oc_l_cells, od_l_cells, .func (PySem.W.fnOf "_law_cells" "_law_cells" (defArgs s_l_cells) (defBody s_l_cells) (defScope s_l_cells) .none kV_l_cells dc_l_cells pm_l_cells an_l_cells cd_l_cells ct_l_cells), sl_l_cells⟩)
    (c_l_cells : PySem.W.codeIn K cd_l_cells "_law_cells" = true)
    (k_l_cells : PySem.W.keepIn K (.ref f_l_cells) = true)
    (a_l_grid_power : PySem.W.nsIn K mainGlobals "_law_grid_power" = some (some (.ref f_l_grid_power)))
    (l_l_grid_power : K.lookup f_l_grid_power = some ⟨oc_l_grid_power, od_l_grid_power, .func (PySem.W.fnOf "_law_grid_power" "_law_grid_power" (defArgs s_l_grid_power) (defBody s_l_grid_power) (defScope s_l_grid_power) .none kV_l_grid_power dc_l_grid_power pm_l_grid_power an_l_grid_power cd_l_grid_power ct_l_grid_power), sl_l_grid_power⟩)
    (c_l_grid_power : PySem.W.codeIn K cd_l_grid_power "_law_grid_power" = true)
    (k_l_grid_power : PySem.W.keepIn K (.ref f_l_grid_power) = true)
    (a_l_grid_more : PySem.W.nsIn K mainGlobals "_law_grid_more" = some (some (.ref f_l_grid_more)))
    (l_l_grid_more : K.lookup f_l_grid_more = some ⟨oc_l_grid_more, od_l_grid_more, .func (PySem.W.fnOf "_law_grid_more" "_law_grid_more" (defArgs s_l_grid_more) (defBody s_l_grid_more) (defScope s_l_grid_more) .none kV_l_grid_more dc_l_grid_more pm_l_grid_more an_l_grid_more cd_l_grid_more ct_l_grid_more), sl_l_grid_more⟩)
    (c_l_grid_more : PySem.W.codeIn K cd_l_grid_more "_law_grid_more" = true)
    (k_l_grid_more : PySem.W.keepIn K (.ref f_l_grid_more) = true)
    (a_l_grid_greatest : PySem.W.nsIn K mainGlobals "_law_grid_greatest" = some (some (.ref f_l_grid_greatest)))
    (l_l_grid_greatest : K.lookup f_l_grid_greatest = some ⟨oc_l_grid_greatest, od_l_grid_greatest, .func (PySem.W.fnOf "_law_grid_greatest" "_law_grid_greatest" (defArgs s_l_grid_greatest) (defBody s_l_grid_greatest) (defScope s_l_grid_greatest) .none kV_l_grid_greatest dc_l_grid_greatest pm_l_grid_greatest an_l_grid_greatest cd_l_grid_greatest ct_l_grid_greatest), sl_l_grid_greatest⟩)
    (c_l_grid_greatest : PySem.W.codeIn K cd_l_grid_greatest "_law_grid_greatest" = true)
    (k_l_grid_greatest : PySem.W.keepIn K (.ref f_l_grid_greatest) = true)
    (a_l_grid_spacing : PySem.W.nsIn K mainGlobals "_law_grid_spacing" = some (some (.ref f_l_grid_spacing)))
    (l_l_grid_spacing : K.lookup f_l_grid_spacing = some ⟨oc_l_grid_spacing, od_l_grid_spacing, .func (PySem.W.fnOf "_law_grid_spacing" "_law_grid_spacing" (defArgs s_l_grid_spacing) (defBody s_l_grid_spacing) (defScope s_l_grid_spacing) .none kV_l_grid_spacing dc_l_grid_spacing pm_l_grid_spacing an_l_grid_spacing cd_l_grid_spacing ct_l_grid_spacing), sl_l_grid_spacing⟩)
    (c_l_grid_spacing : PySem.W.codeIn K cd_l_grid_spacing "_law_grid_spacing" = true)
    (k_l_grid_spacing : PySem.W.keepIn K (.ref f_l_grid_spacing) = true)
    (a_l_grid_rounded : PySem.W.nsIn K mainGlobals "_law_grid_rounded" = some (some (.ref f_l_grid_rounded)))
    (l_l_grid_rounded : K.lookup f_l_grid_rounded = some ⟨oc_l_grid_rounded, od_l_grid_rounded, .func (PySem.W.fnOf "_law_grid_rounded" "_law_grid_rounded" (defArgs s_l_grid_rounded) (defBody s_l_grid_rounded) (defScope s_l_grid_rounded) .none kV_l_grid_rounded dc_l_grid_rounded pm_l_grid_rounded an_l_grid_rounded cd_l_grid_rounded ct_l_grid_rounded), sl_l_grid_rounded⟩)
    (c_l_grid_rounded : PySem.W.codeIn K cd_l_grid_rounded "_law_grid_rounded" = true)
    (k_l_grid_rounded : PySem.W.keepIn K (.ref f_l_grid_rounded) = true)
    (a_l_grid_drawn : PySem.W.nsIn K mainGlobals "_law_grid_drawn" = some (some (.ref f_l_grid_drawn)))
    (l_l_grid_drawn : K.lookup f_l_grid_drawn = some ⟨oc_l_grid_drawn, od_l_grid_drawn, .func (PySem.W.fnOf "_law_grid_drawn" "_law_grid_drawn" (defArgs s_l_grid_drawn) (defBody s_l_grid_drawn) (defScope s_l_grid_drawn) .none kV_l_grid_drawn dc_l_grid_drawn pm_l_grid_drawn an_l_grid_drawn cd_l_grid_drawn ct_l_grid_drawn), sl_l_grid_drawn⟩)
    (c_l_grid_drawn : PySem.W.codeIn K cd_l_grid_drawn "_law_grid_drawn" = true)
    (k_l_grid_drawn : PySem.W.keepIn K (.ref f_l_grid_drawn) = true)
    (a_l_grid_a_number : PySem.W.nsIn K mainGlobals "_law_grid_a_number" = some (some (.ref f_l_grid_a_number)))
    (l_l_grid_a_number : K.lookup f_l_grid_a_number = some ⟨oc_l_grid_a_number, od_l_grid_a_number, .func (PySem.W.fnOf "_law_grid_a_number" "_law_grid_a_number" (defArgs s_l_grid_a_number) (defBody s_l_grid_a_number) (defScope s_l_grid_a_number) .none kV_l_grid_a_number dc_l_grid_a_number pm_l_grid_a_number an_l_grid_a_number cd_l_grid_a_number ct_l_grid_a_number), sl_l_grid_a_number⟩)
    (c_l_grid_a_number : PySem.W.codeIn K cd_l_grid_a_number "_law_grid_a_number" = true)
    (k_l_grid_a_number : PySem.W.keepIn K (.ref f_l_grid_a_number) = true)
    (a_l_own_laps : PySem.W.nsIn K mainGlobals "_law_own_laps" = some (some (.ref f_l_own_laps)))
    (l_l_own_laps : K.lookup f_l_own_laps = some ⟨oc_l_own_laps, od_l_own_laps, .func (PySem.W.fnOf "_law_own_laps" "_law_own_laps" (defArgs s_l_own_laps) (defBody s_l_own_laps) (defScope s_l_own_laps) .none kV_l_own_laps dc_l_own_laps pm_l_own_laps an_l_own_laps cd_l_own_laps ct_l_own_laps), sl_l_own_laps⟩)
    (c_l_own_laps : PySem.W.codeIn K cd_l_own_laps "_law_own_laps" = true)
    (k_l_own_laps : PySem.W.keepIn K (.ref f_l_own_laps) = true)
    (a_l_small_right : PySem.W.nsIn K mainGlobals "_law_small_right" = some (some (.ref f_l_small_right)))
    (l_l_small_right : K.lookup f_l_small_right = some ⟨oc_l_small_right, od_l_small_right, .func (PySem.W.fnOf "_law_small_right" "_law_small_right" (defArgs s_l_small_right) (defBody s_l_small_right) (defScope s_l_small_right) .none kV_l_small_right dc_l_small_right pm_l_small_right an_l_small_right cd_l_small_right ct_l_small_right), sl_l_small_right⟩)
    (c_l_small_right : PySem.W.codeIn K cd_l_small_right "_law_small_right" = true)
    (k_l_small_right : PySem.W.keepIn K (.ref f_l_small_right) = true)
    (a_l_great_right : PySem.W.nsIn K mainGlobals "_law_great_right" = some (some (.ref f_l_great_right)))
    (l_l_great_right : K.lookup f_l_great_right = some ⟨oc_l_great_right, od_l_great_right, .func (PySem.W.fnOf "_law_great_right" "_law_great_right" (defArgs s_l_great_right) (defBody s_l_great_right) (defScope s_l_great_right) .none kV_l_great_right dc_l_great_right pm_l_great_right an_l_great_right cd_l_great_right ct_l_great_right), sl_l_great_right⟩)
    (c_l_great_right : PySem.W.codeIn K cd_l_great_right "_law_great_right" = true)
    (k_l_great_right : PySem.W.keepIn K (.ref f_l_great_right) = true)
    (a_l_right : PySem.W.nsIn K mainGlobals "_law_right" = some (some (.ref f_l_right)))
    (l_l_right : K.lookup f_l_right = some ⟨oc_l_right, od_l_right, .func (PySem.W.fnOf "_law_right" "_law_right" (defArgs s_l_right) (defBody s_l_right) (defScope s_l_right) .none kV_l_right dc_l_right pm_l_right an_l_right cd_l_right ct_l_right), sl_l_right⟩)
    (c_l_right : PySem.W.codeIn K cd_l_right "_law_right" = true)
    (k_l_right : PySem.W.keepIn K (.ref f_l_right) = true)
    (a_law : PySem.W.nsIn K mainGlobals "law" = some (some (.ref f_law)))
    (l_law : K.lookup f_law = some ⟨oc_law, od_law, .func (PySem.W.fnOf "law" "law" (defArgs s_law) (defBody s_law) (defScope s_law) .none kV_law dc_law pm_law an_law cd_law ct_law), sl_law⟩)
    (c_law : PySem.W.codeIn K cd_law "law" = true)
    (k_law : PySem.W.keepIn K (.ref f_law) = true)
    (pg_Grid : PySem.W.plainGet K C_Grid Str.empty = true)
    (hd_Grid : PySem.W.hasDictIn K C_Grid = true)
    (po_Grid : PySem.W.plainOver K C_Grid = true)
    (sa_Grid : PySem.W.findIn K (.ref C_Grid) "__setattr__" = some (some (.builtin "object.__setattr__")))
    (mk_Grid : PySem.W.makesIn K C_Grid = true)
    (kc_Grid : PySem.W.keepIn K (.ref C_Grid) = true)
    (nf_Grid_base : PySem.W.findIn K (.ref C_Grid) "base" = some none)
    (nf_Grid_figures : PySem.W.findIn K (.ref C_Grid) "figures" = some none)
    (nf_Grid_reach : PySem.W.findIn K (.ref C_Grid) "reach" = some none)
    (nf_Grid_places : PySem.W.findIn K (.ref C_Grid) "places" = some none)
    (nf_Grid_unit : PySem.W.findIn K (.ref C_Grid) "unit" = some none)
    (nf_Grid_limits : PySem.W.findIn K (.ref C_Grid) "limits" = some none)
    (nf_Grid_tops : PySem.W.findIn K (.ref C_Grid) "tops" = some none)
    (nf_Grid_greatest : PySem.W.findIn K (.ref C_Grid) "greatest" = some none)
    (v_MOST_FIGURES : PySem.W.nsIn K mainGlobals "MOST_FIGURES" = some (some (.int 30 t_MOST_FIGURES)))
    (v_MOST_MORE : PySem.W.nsIn K mainGlobals "MOST_MORE" = some (some (.int 3 t_MOST_MORE)))
    (v_MOST_LAPS : PySem.W.nsIn K mainGlobals "MOST_LAPS" = some (some (.int 1000000000000000000 t_MOST_LAPS)))
    (a_WAYS : PySem.W.nsIn K mainGlobals "WAYS" = some (some (.ref A_WAYS)))
    (l_WAYS : K.lookup A_WAYS = some ⟨.type "tuple", od_WAYS, .seq #[.str "near" tk0_WAYS, .str "down" tk1_WAYS, .str "up" tk2_WAYS, .str "zero" tk3_WAYS] en_WAYS, sl_WAYS⟩)
    (z_isinstance : PySem.W.nsIn K mainGlobals "isinstance" = some none)
    (z_int : PySem.W.nsIn K mainGlobals "int" = some none)
    (z_bool : PySem.W.nsIn K mainGlobals "bool" = some none)
    (z_range : PySem.W.nsIn K mainGlobals "range" = some none)
    (z_tuple : PySem.W.nsIn K mainGlobals "tuple" = some none)
    (z_list : PySem.W.nsIn K mainGlobals "list" = some none)
    (z_abs : PySem.W.nsIn K mainGlobals "abs" = some none)
    (z_sum : PySem.W.nsIn K mainGlobals "sum" = some none)
    (z_len : PySem.W.nsIn K mainGlobals "len" = some none)
    (z_all : PySem.W.nsIn K mainGlobals "all" = some none)
    (z_max : PySem.W.nsIn K mainGlobals "max" = some none)
    (z_min : PySem.W.nsIn K mainGlobals "min" = some none)
    (z_repr : PySem.W.nsIn K mainGlobals "repr" = some none) :
    ∃ fd : FuncData, (∀ (s : Shared) (v : Value), BindsTo s fd ⟨[v], []⟩ [("script", v)]) ∧ ∀ base : Heap, K.In base → base.Ns mainGlobals mg → GOk l.prog w K mg base 9 fa fd ["script"] (spLaw K) := by
  have e := hfa.symm.trans (PySem.W.mg_of X G a_law)
  obtain rfl : f_law = fa := by cases e; rfl
  have F_is_whole := fun_mk (st := s_is_whole) l_is_whole c_is_whole k_is_whole
  have B_is_whole := F_is_whole.binds (ps := ["value"]) fun _ _ _ _ _ _ us hl => match us, hl with | [_], _ => rfl
  have F_is_from_to := fun_mk (st := s_is_from_to) l_is_from_to c_is_from_to k_is_from_to
  have B_is_from_to := F_is_from_to.binds (ps := ["value", "low", "high"]) fun _ _ _ _ _ _ us hl => match us, hl with | [_, _, _], _ => rfl
  have F_power := fun_mk (st := s_power) l_power c_power k_power
  have B_power := F_power.binds (ps := ["base", "exponent"]) fun _ _ _ _ _ _ us hl => match us, hl with | [_, _], _ => rfl
  have F_Grid_init := fun_mk (st := s_Grid_init) l_Grid_init c_Grid_init k_Grid_init
  have B_Grid_init := F_Grid_init.binds (ps := ["self", "base", "figures", "reach", "places"]) fun _ _ _ _ _ _ us hl => match us, hl with | [_, _, _, _, _], _ => rfl
  have F_Grid_contains := fun_mk (st := s_Grid_contains) l_Grid_contains c_Grid_contains k_Grid_contains
  have B_Grid_contains := F_Grid_contains.binds (ps := ["self", "value"]) fun _ _ _ _ _ _ us hl => match us, hl with | [_, _], _ => rfl
  have F_is_grid := fun_mk (st := s_is_grid) l_is_grid c_is_grid k_is_grid
  have B_is_grid := F_is_grid.binds (ps := ["told"]) fun _ _ _ _ _ _ us hl => match us, hl with | [_], _ => rfl
  have F_spacing_at := fun_mk (st := s_spacing_at) l_spacing_at c_spacing_at k_spacing_at
  have B_spacing_at := F_spacing_at.binds (ps := ["grid", "size", "more"]) fun _ _ _ _ _ _ us hl => match us, hl with | [_, _, _], _ => rfl
  have F_fitted := fun_mk (st := s_fitted) l_fitted c_fitted k_fitted
  have B_fitted := F_fitted.binds (ps := ["grid", "top", "bottom", "way", "more"]) fun _ _ _ _ _ _ us hl => match us, hl with | [_, _, _, _, _], _ => rfl
  have F_goes_up := fun_mk (st := s_goes_up) l_goes_up c_goes_up k_goes_up
  have B_goes_up := F_goes_up.binds (ps := ["below", "left", "step", "way"]) fun _ _ _ _ _ _ us hl => match us, hl with | [_, _, _, _], _ => rfl
  have F_check_way := fun_mk (st := s_check_way) l_check_way c_check_way k_check_way
  have B_check_way := F_check_way.binds (ps := ["way"]) fun _ _ _ _ _ _ us hl => match us, hl with | [_], _ => rfl
  have F_drift := fun_mk (st := s_drift) l_drift c_drift k_drift
  have B_drift := F_drift.binds (ps := ["grid", "start", "part", "way", "laps"]) fun _ _ _ _ _ _ us hl => match us, hl with | [_, _, _, _, _], _ => rfl
  have F_stall := fun_mk (st := s_stall) l_stall c_stall k_stall
  have B_stall := F_stall.binds (ps := ["grid", "start", "part", "way"]) fun _ _ _ _ _ _ us hl => match us, hl with | [_, _, _, _], _ => rfl
  have F_summed := fun_mk (st := s_summed) l_summed c_summed k_summed
  have B_summed := F_summed.binds (ps := ["grid", "start", "part", "way", "laps"]) fun _ _ _ _ _ _ us hl => match us, hl with | [_, _, _, _, _], _ => rfl
  have F_laps_ahead := fun_mk (st := s_laps_ahead) l_laps_ahead c_laps_ahead k_laps_ahead
  have B_laps_ahead := F_laps_ahead.binds (ps := ["grid", "state", "number", "part", "way"]) fun _ _ _ _ _ _ us hl => match us, hl with | [_, _, _, _, _], _ => rfl
  have F_ground_of := fun_mk (st := s_ground_of) l_ground_of c_ground_of k_ground_of
  have B_ground_of := F_ground_of.binds (ps := ["grid", "worth"]) fun _ _ _ _ _ _ us hl => match us, hl with | [_, _], _ => rfl
  have F_check_laps := fun_mk (st := s_check_laps) l_check_laps c_check_laps k_check_laps
  have B_check_laps := F_check_laps.binds (ps := ["laps"]) fun _ _ _ _ _ _ us hl => match us, hl with | [_], _ => rfl
  have F_check_summed := fun_mk (st := s_check_summed) l_check_summed c_check_summed k_check_summed
  have B_check_summed := F_check_summed.binds (ps := ["grid", "start", "part", "way"]) fun _ _ _ _ _ _ us hl => match us, hl with | [_, _, _, _], _ => rfl
  have F_l_pot := fun_mk (st := s_l_pot) l_l_pot c_l_pot k_l_pot
  have B_l_pot := F_l_pot.binds (ps := ["script", "place"]) fun _ _ _ _ _ _ us hl => match us, hl with | [_, _], _ => rfl
  have F_l_take := fun_mk (st := s_l_take) l_l_take c_l_take k_l_take
  have B_l_take := F_l_take.binds (ps := ["pot", "upto"]) fun _ _ _ _ _ _ us hl => match us, hl with | [_, _], _ => rfl
  have F_l_of := fun_mk (st := s_l_of) l_l_of c_l_of k_l_of
  have B_l_of := F_l_of.binds (ps := ["pot", "some"]) fun _ _ _ _ _ _ us hl => match us, hl with | [_, _], _ => rfl
  have F_l_cells := fun_mk (st := s_l_cells) l_l_cells c_l_cells k_l_cells
  have B_l_cells := F_l_cells.binds (ps := ["script", "most"]) fun _ _ _ _ _ _ us hl => match us, hl with | [_, _], _ => rfl
  have F_l_grid_power := fun_mk (st := s_l_grid_power) l_l_grid_power c_l_grid_power k_l_grid_power
  have B_l_grid_power := F_l_grid_power.binds (ps := ["base", "many"]) fun _ _ _ _ _ _ us hl => match us, hl with | [_, _], _ => rfl
  have F_l_grid_more := fun_mk (st := s_l_grid_more) l_l_grid_more c_l_grid_more k_l_grid_more
  have B_l_grid_more := F_l_grid_more.binds (ps := ["grid", "more"]) fun _ _ _ _ _ _ us hl => match us, hl with | [_, _], _ => rfl
  have F_l_grid_greatest := fun_mk (st := s_l_grid_greatest) l_l_grid_greatest c_l_grid_greatest k_l_grid_greatest
  have B_l_grid_greatest := F_l_grid_greatest.binds (ps := ["grid"]) fun _ _ _ _ _ _ us hl => match us, hl with | [_], _ => rfl
  have F_l_grid_spacing := fun_mk (st := s_l_grid_spacing) l_l_grid_spacing c_l_grid_spacing k_l_grid_spacing
  have B_l_grid_spacing := F_l_grid_spacing.binds (ps := ["grid", "top", "bottom"]) fun _ _ _ _ _ _ us hl => match us, hl with | [_, _, _], _ => rfl
  have F_l_grid_rounded := fun_mk (st := s_l_grid_rounded) l_l_grid_rounded c_l_grid_rounded k_l_grid_rounded
  have B_l_grid_rounded := F_l_grid_rounded.binds (ps := ["grid", "top", "bottom", "way", "more"]) fun _ _ _ _ _ _ us hl => match us, hl with | [_, _, _, _, _], _ => rfl
  have F_l_grid_drawn := fun_mk (st := s_l_grid_drawn) l_l_grid_drawn c_l_grid_drawn k_l_grid_drawn
  have B_l_grid_drawn := F_l_grid_drawn.binds (ps := ["pot"]) fun _ _ _ _ _ _ us hl => match us, hl with | [_], _ => rfl
  have F_l_grid_a_number := fun_mk (st := s_l_grid_a_number) l_l_grid_a_number c_l_grid_a_number k_l_grid_a_number
  have B_l_grid_a_number := F_l_grid_a_number.binds (ps := ["pot", "grid"]) fun _ _ _ _ _ _ us hl => match us, hl with | [_, _], _ => rfl
  have F_l_own_laps := fun_mk (st := s_l_own_laps) l_l_own_laps c_l_own_laps k_l_own_laps
  have B_l_own_laps := F_l_own_laps.binds (ps := ["grid", "state", "part", "way", "laps"]) fun _ _ _ _ _ _ us hl => match us, hl with | [_, _, _, _, _], _ => rfl
  have F_l_small_right := fun_mk (st := s_l_small_right) l_l_small_right c_l_small_right k_l_small_right
  have B_l_small_right := F_l_small_right.binds (ps := ["pot"]) fun _ _ _ _ _ _ us hl => match us, hl with | [_], _ => rfl
  have F_l_great_right := fun_mk (st := s_l_great_right) l_l_great_right c_l_great_right k_l_great_right
  have B_l_great_right := F_l_great_right.binds (ps := ["pot"]) fun _ _ _ _ _ _ us hl => match us, hl with | [_], _ => rfl
  have F_l_right := fun_mk (st := s_l_right) l_l_right c_l_right k_l_right
  have B_l_right := F_l_right.binds (ps := ["pot"]) fun _ _ _ _ _ _ us hl => match us, hl with | [_], _ => rfl
  have F_law := fun_mk (st := s_law) l_law c_law k_law
  have B_law := F_law.binds (ps := ["script"]) fun _ _ _ _ _ _ us hl => match us, hl with | [_], _ => rfl
  have T : Txt K mg ⟨f_is_whole, _, f_is_from_to, _, f_power, _, f_Grid_init, _, f_Grid_contains, _, f_is_grid, _, f_spacing_at, _, f_fitted, _, f_goes_up, _, f_check_way, _, f_drift, _, f_stall, _, f_summed, _, f_laps_ahead, _, f_ground_of, _, f_check_laps, _, f_check_summed, _, f_l_pot, _, f_l_take, _, f_l_of, _, f_l_cells, _, f_l_grid_power, _, f_l_grid_more, _, f_l_grid_greatest, _, f_l_grid_spacing, _, f_l_grid_rounded, _, f_l_grid_drawn, _, f_l_grid_a_number, _, f_l_own_laps, _, f_l_small_right, _, f_l_great_right, _, f_l_right, _, f_law, _, C_Grid, A_WAYS⟩ := {
    F_is_whole := F_is_whole
    B_is_whole := B_is_whole
    g_is_whole := PySem.W.mg_of X G a_is_whole
    k_is_whole := k_is_whole
    F_is_from_to := F_is_from_to
    B_is_from_to := B_is_from_to
    g_is_from_to := PySem.W.mg_of X G a_is_from_to
    k_is_from_to := k_is_from_to
    F_power := F_power
    B_power := B_power
    g_power := PySem.W.mg_of X G a_power
    k_power := k_power
    F_Grid_init := F_Grid_init
    B_Grid_init := B_Grid_init
    F_Grid_contains := F_Grid_contains
    B_Grid_contains := B_Grid_contains
    m_Grid_contains := ⟨a_Grid_contains, i_Grid_contains⟩
    F_is_grid := F_is_grid
    B_is_grid := B_is_grid
    g_is_grid := PySem.W.mg_of X G a_is_grid
    k_is_grid := k_is_grid
    F_spacing_at := F_spacing_at
    B_spacing_at := B_spacing_at
    g_spacing_at := PySem.W.mg_of X G a_spacing_at
    k_spacing_at := k_spacing_at
    F_fitted := F_fitted
    B_fitted := B_fitted
    g_fitted := PySem.W.mg_of X G a_fitted
    k_fitted := k_fitted
    F_goes_up := F_goes_up
    B_goes_up := B_goes_up
    g_goes_up := PySem.W.mg_of X G a_goes_up
    k_goes_up := k_goes_up
    F_check_way := F_check_way
    B_check_way := B_check_way
    g_check_way := PySem.W.mg_of X G a_check_way
    k_check_way := k_check_way
    F_drift := F_drift
    B_drift := B_drift
    g_drift := PySem.W.mg_of X G a_drift
    k_drift := k_drift
    F_stall := F_stall
    B_stall := B_stall
    g_stall := PySem.W.mg_of X G a_stall
    k_stall := k_stall
    F_summed := F_summed
    B_summed := B_summed
    g_summed := PySem.W.mg_of X G a_summed
    k_summed := k_summed
    F_laps_ahead := F_laps_ahead
    B_laps_ahead := B_laps_ahead
    g_laps_ahead := PySem.W.mg_of X G a_laps_ahead
    k_laps_ahead := k_laps_ahead
    F_ground_of := F_ground_of
    B_ground_of := B_ground_of
    g_ground_of := PySem.W.mg_of X G a_ground_of
    k_ground_of := k_ground_of
    F_check_laps := F_check_laps
    B_check_laps := B_check_laps
    g_check_laps := PySem.W.mg_of X G a_check_laps
    k_check_laps := k_check_laps
    F_check_summed := F_check_summed
    B_check_summed := B_check_summed
    g_check_summed := PySem.W.mg_of X G a_check_summed
    k_check_summed := k_check_summed
    F_l_pot := F_l_pot
    B_l_pot := B_l_pot
    g_l_pot := PySem.W.mg_of X G a_l_pot
    k_l_pot := k_l_pot
    F_l_take := F_l_take
    B_l_take := B_l_take
    g_l_take := PySem.W.mg_of X G a_l_take
    k_l_take := k_l_take
    F_l_of := F_l_of
    B_l_of := B_l_of
    g_l_of := PySem.W.mg_of X G a_l_of
    k_l_of := k_l_of
    F_l_cells := F_l_cells
    B_l_cells := B_l_cells
    g_l_cells := PySem.W.mg_of X G a_l_cells
    k_l_cells := k_l_cells
    F_l_grid_power := F_l_grid_power
    B_l_grid_power := B_l_grid_power
    g_l_grid_power := PySem.W.mg_of X G a_l_grid_power
    k_l_grid_power := k_l_grid_power
    F_l_grid_more := F_l_grid_more
    B_l_grid_more := B_l_grid_more
    g_l_grid_more := PySem.W.mg_of X G a_l_grid_more
    k_l_grid_more := k_l_grid_more
    F_l_grid_greatest := F_l_grid_greatest
    B_l_grid_greatest := B_l_grid_greatest
    g_l_grid_greatest := PySem.W.mg_of X G a_l_grid_greatest
    k_l_grid_greatest := k_l_grid_greatest
    F_l_grid_spacing := F_l_grid_spacing
    B_l_grid_spacing := B_l_grid_spacing
    g_l_grid_spacing := PySem.W.mg_of X G a_l_grid_spacing
    k_l_grid_spacing := k_l_grid_spacing
    F_l_grid_rounded := F_l_grid_rounded
    B_l_grid_rounded := B_l_grid_rounded
    g_l_grid_rounded := PySem.W.mg_of X G a_l_grid_rounded
    k_l_grid_rounded := k_l_grid_rounded
    F_l_grid_drawn := F_l_grid_drawn
    B_l_grid_drawn := B_l_grid_drawn
    g_l_grid_drawn := PySem.W.mg_of X G a_l_grid_drawn
    k_l_grid_drawn := k_l_grid_drawn
    F_l_grid_a_number := F_l_grid_a_number
    B_l_grid_a_number := B_l_grid_a_number
    g_l_grid_a_number := PySem.W.mg_of X G a_l_grid_a_number
    k_l_grid_a_number := k_l_grid_a_number
    F_l_own_laps := F_l_own_laps
    B_l_own_laps := B_l_own_laps
    g_l_own_laps := PySem.W.mg_of X G a_l_own_laps
    k_l_own_laps := k_l_own_laps
    F_l_small_right := F_l_small_right
    B_l_small_right := B_l_small_right
    g_l_small_right := PySem.W.mg_of X G a_l_small_right
    k_l_small_right := k_l_small_right
    F_l_great_right := F_l_great_right
    B_l_great_right := B_l_great_right
    g_l_great_right := PySem.W.mg_of X G a_l_great_right
    k_l_great_right := k_l_great_right
    F_l_right := F_l_right
    B_l_right := B_l_right
    g_l_right := PySem.W.mg_of X G a_l_right
    k_l_right := k_l_right
    F_law := F_law
    B_law := B_law
    g_law := PySem.W.mg_of X G a_law
    k_law := k_law
    cl_Grid := ⟨pg_Grid, hd_Grid, po_Grid, sa_Grid⟩
    mk_Grid := ⟨mk_Grid, a_Grid_init, i_Grid_init, kc_Grid⟩
    g_Grid := PySem.W.mg_of X G aC_Grid
    f_Grid_base := nf_Grid_base
    f_Grid_figures := nf_Grid_figures
    f_Grid_reach := nf_Grid_reach
    f_Grid_places := nf_Grid_places
    f_Grid_unit := nf_Grid_unit
    f_Grid_limits := nf_Grid_limits
    f_Grid_tops := nf_Grid_tops
    f_Grid_greatest := nf_Grid_greatest
    c_MOST_FIGURES := ⟨_, PySem.W.mg_of X G v_MOST_FIGURES⟩
    c_MOST_MORE := ⟨_, PySem.W.mg_of X G v_MOST_MORE⟩
    c_MOST_LAPS := ⟨_, PySem.W.mg_of X G v_MOST_LAPS⟩
    g_WAYS := PySem.W.mg_of X G a_WAYS
    t_WAYS := fun _ => .inr ⟨_, _, _, l_WAYS, rfl, rfl, by show 4 ≤ sizeLine; decide, (.cons ⟨_, rfl⟩ (.cons ⟨_, rfl⟩ (.cons ⟨_, rfl⟩ (.cons ⟨_, rfl⟩ .nil))))⟩
    n_isinstance := PySem.W.mg_none_of X G z_isinstance
    n_int := PySem.W.mg_none_of X G z_int
    n_bool := PySem.W.mg_none_of X G z_bool
    n_range := PySem.W.mg_none_of X G z_range
    n_tuple := PySem.W.mg_none_of X G z_tuple
    n_list := PySem.W.mg_none_of X G z_list
    n_abs := PySem.W.mg_none_of X G z_abs
    n_sum := PySem.W.mg_none_of X G z_sum
    n_len := PySem.W.mg_none_of X G z_len
    n_all := PySem.W.mg_none_of X G z_all
    n_max := PySem.W.mg_none_of X G z_max
    n_min := PySem.W.mg_none_of X G z_min
    n_repr := PySem.W.mg_none_of X G z_repr }
  exact ⟨PySem.W.fnOf "law" "law" (defArgs s_law) (defBody s_law) (defScope s_law) .none kV_law dc_law pm_law an_law cd_law ct_law, fun s v => .of_eq rfl, fun base _ _ => ok_law T⟩
theorem walk {l : PySem.W.OpenLaw} {q : Program} {loose : List Str} {XP : (Str → Option Value) → Heap → Prop} {YP : World → Heap → Prop} {d : DefRec} {K : Params → PySem.W.Frag} (hn : l.most = some 63) (hdf : d.params.defaults = [])
    (hY : ∀ (w : World) (h : Heap), YP w h → (K w.params).In h)
    (F : ∀ (w : World) (mg : Str → Option Value) (fa : Addr) (h : Heap), (K w.params).In h → h.Ns mainGlobals mg → mg d.name = some (.ref fa) →
      ∃ fd : FuncData, (∀ (s : Shared) (u : Value), BindsTo s fd ⟨[u], []⟩ [("script", u)]) ∧ ∀ base : Heap, (K w.params).In base → base.Ns mainGlobals mg → GOk l.prog w (K w.params) mg base 9 fa fd ["script"] (spLaw (K w.params))) :
    PySem.W.WalkO q loose XP YP l.row.toRowW d [] (fun f vs => PySem.call f vs) :=
  My.walk_ofG (n := 63) (k := 9) (x := "script") (sp := fun w => spLaw (K w.params)) hn (by decide) hdf ⟨rfl, by decide, by decide⟩ hY F (fun _ _ a ns hl hS => ⟨a, ns, rfl, hS, hl, fun _ => rfl⟩)
end My
open PySem PySem.W PyProof.Rows
set_option maxRecDepth 100000 in
set_option maxHeartbeats 0 in
theorem PySem.Challenge.cw_roundedsteps_k69_whole_far_laps_of_sums_holds : PySem.Challenge.rw_roundedsteps_k69_whole_far_laps_of_sums.Holds := by
  w_on; o_law; k_head; (case hw => w_witness2)
  k_fill
  refine My.walk (l := PySem.Challenge.rw_roundedsteps_k69_whole_far_laps_of_sums) rfl rfl (fun w h Y => PySem.W.kIn_of Y) ?F
  case F =>
    intro w mg fa h KX G hmg
    refine' My.all_mk KX G hmg ?aC_Grid ?a_is_whole ?l_is_whole ?c_is_whole ?k_is_whole ?a_is_from_to ?l_is_from_to ?c_is_from_to ?k_is_from_to ?a_power ?l_power ?c_power ?k_power ?a_Grid_init ?i_Grid_init ?l_Grid_init ?c_Grid_init ?k_Grid_init ?a_Grid_contains ?i_Grid_contains ?l_Grid_contains ?c_Grid_contains ?k_Grid_contains ?a_is_grid ?l_is_grid ?c_is_grid ?k_is_grid ?a_spacing_at ?l_spacing_at ?c_spacing_at ?k_spacing_at ?a_fitted ?l_fitted ?c_fitted ?k_fitted ?a_goes_up ?l_goes_up ?c_goes_up ?k_goes_up ?a_check_way ?l_check_way ?c_check_way ?k_check_way ?a_drift ?l_drift ?c_drift ?k_drift ?a_stall ?l_stall ?c_stall ?k_stall ?a_summed ?l_summed ?c_summed ?k_summed ?a_laps_ahead ?l_laps_ahead ?c_laps_ahead ?k_laps_ahead ?a_ground_of ?l_ground_of ?c_ground_of ?k_ground_of ?a_check_laps ?l_check_laps ?c_check_laps ?k_check_laps ?a_check_summed ?l_check_summed ?c_check_summed ?k_check_summed ?a_l_pot ?l_l_pot ?c_l_pot ?k_l_pot ?a_l_take ?l_l_take ?c_l_take ?k_l_take ?a_l_of ?l_l_of ?c_l_of ?k_l_of ?a_l_cells ?l_l_cells ?c_l_cells ?k_l_cells ?a_l_grid_power ?l_l_grid_power ?c_l_grid_power ?k_l_grid_power ?a_l_grid_more ?l_l_grid_more ?c_l_grid_more ?k_l_grid_more ?a_l_grid_greatest ?l_l_grid_greatest ?c_l_grid_greatest ?k_l_grid_greatest ?a_l_grid_spacing ?l_l_grid_spacing ?c_l_grid_spacing ?k_l_grid_spacing ?a_l_grid_rounded ?l_l_grid_rounded ?c_l_grid_rounded ?k_l_grid_rounded ?a_l_grid_drawn ?l_l_grid_drawn ?c_l_grid_drawn ?k_l_grid_drawn ?a_l_grid_a_number ?l_l_grid_a_number ?c_l_grid_a_number ?k_l_grid_a_number ?a_l_own_laps ?l_l_own_laps ?c_l_own_laps ?k_l_own_laps ?a_l_small_right ?l_l_small_right ?c_l_small_right ?k_l_small_right ?a_l_great_right ?l_l_great_right ?c_l_great_right ?k_l_great_right ?a_l_right ?l_l_right ?c_l_right ?k_l_right ?a_law ?l_law ?c_law ?k_law ?pg_Grid ?hd_Grid ?po_Grid ?sa_Grid ?mk_Grid ?kc_Grid ?nf_Grid_base ?nf_Grid_figures ?nf_Grid_reach ?nf_Grid_places ?nf_Grid_unit ?nf_Grid_limits ?nf_Grid_tops ?nf_Grid_greatest ?v_MOST_FIGURES ?v_MOST_MORE ?v_MOST_LAPS ?a_WAYS ?l_WAYS ?z_isinstance ?z_int ?z_bool ?z_range ?z_tuple ?z_list ?z_abs ?z_sum ?z_len ?z_all ?z_max ?z_min ?z_repr
    (case aC_Grid => k_is)
    (case a_is_whole => k_is)
    (case l_is_whole => k_is)
    (case c_is_whole => k_is)
    (case k_is_whole => k_is)
    (case a_is_from_to => k_is)
    (case l_is_from_to => k_is)
    (case c_is_from_to => k_is)
    (case k_is_from_to => k_is)
    (case a_power => k_is)
    (case l_power => k_is)
    (case c_power => k_is)
    (case k_power => k_is)
    (case a_Grid_init => k_is)
    (case i_Grid_init => k_is)
    (case l_Grid_init => k_is)
    (case c_Grid_init => k_is)
    (case k_Grid_init => k_is)
    (case a_Grid_contains => k_is)
    (case i_Grid_contains => k_is)
    (case l_Grid_contains => k_is)
    (case c_Grid_contains => k_is)
    (case k_Grid_contains => k_is)
    (case a_is_grid => k_is)
    (case l_is_grid => k_is)
    (case c_is_grid => k_is)
    (case k_is_grid => k_is)
    (case a_spacing_at => k_is)
    (case l_spacing_at => k_is)
    (case c_spacing_at => k_is)
    (case k_spacing_at => k_is)
    (case a_fitted => k_is)
    (case l_fitted => k_is)
    (case c_fitted => k_is)
    (case k_fitted => k_is)
    (case a_goes_up => k_is)
    (case l_goes_up => k_is)
    (case c_goes_up => k_is)
    (case k_goes_up => k_is)
    (case a_check_way => k_is)
    (case l_check_way => k_is)
    (case c_check_way => k_is)
    (case k_check_way => k_is)
    (case a_drift => k_is)
    (case l_drift => k_is)
    (case c_drift => k_is)
    (case k_drift => k_is)
    (case a_stall => k_is)
    (case l_stall => k_is)
    (case c_stall => k_is)
    (case k_stall => k_is)
    (case a_summed => k_is)
    (case l_summed => k_is)
    (case c_summed => k_is)
    (case k_summed => k_is)
    (case a_laps_ahead => k_is)
    (case l_laps_ahead => k_is)
    (case c_laps_ahead => k_is)
    (case k_laps_ahead => k_is)
    (case a_ground_of => k_is)
    (case l_ground_of => k_is)
    (case c_ground_of => k_is)
    (case k_ground_of => k_is)
    (case a_check_laps => k_is)
    (case l_check_laps => k_is)
    (case c_check_laps => k_is)
    (case k_check_laps => k_is)
    (case a_check_summed => k_is)
    (case l_check_summed => k_is)
    (case c_check_summed => k_is)
    (case k_check_summed => k_is)
    (case a_l_pot => k_is)
    (case l_l_pot => k_is)
    (case c_l_pot => k_is)
    (case k_l_pot => k_is)
    (case a_l_take => k_is)
    (case l_l_take => k_is)
    (case c_l_take => k_is)
    (case k_l_take => k_is)
    (case a_l_of => k_is)
    (case l_l_of => k_is)
    (case c_l_of => k_is)
    (case k_l_of => k_is)
    (case a_l_cells => k_is)
    (case l_l_cells => k_is)
    (case c_l_cells => k_is)
    (case k_l_cells => k_is)
    (case a_l_grid_power => k_is)
    (case l_l_grid_power => k_is)
    (case c_l_grid_power => k_is)
    (case k_l_grid_power => k_is)
    (case a_l_grid_more => k_is)
    (case l_l_grid_more => k_is)
    (case c_l_grid_more => k_is)
    (case k_l_grid_more => k_is)
    (case a_l_grid_greatest => k_is)
    (case l_l_grid_greatest => k_is)
    (case c_l_grid_greatest => k_is)
    (case k_l_grid_greatest => k_is)
    (case a_l_grid_spacing => k_is)
    (case l_l_grid_spacing => k_is)
    (case c_l_grid_spacing => k_is)
    (case k_l_grid_spacing => k_is)
    (case a_l_grid_rounded => k_is)
    (case l_l_grid_rounded => k_is)
    (case c_l_grid_rounded => k_is)
    (case k_l_grid_rounded => k_is)
    (case a_l_grid_drawn => k_is)
    (case l_l_grid_drawn => k_is)
    (case c_l_grid_drawn => k_is)
    (case k_l_grid_drawn => k_is)
    (case a_l_grid_a_number => k_is)
    (case l_l_grid_a_number => k_is)
    (case c_l_grid_a_number => k_is)
    (case k_l_grid_a_number => k_is)
    (case a_l_own_laps => k_is)
    (case l_l_own_laps => k_is)
    (case c_l_own_laps => k_is)
    (case k_l_own_laps => k_is)
    (case a_l_small_right => k_is)
    (case l_l_small_right => k_is)
    (case c_l_small_right => k_is)
    (case k_l_small_right => k_is)
    (case a_l_great_right => k_is)
    (case l_l_great_right => k_is)
    (case c_l_great_right => k_is)
    (case k_l_great_right => k_is)
    (case a_l_right => k_is)
    (case l_l_right => k_is)
    (case c_l_right => k_is)
    (case k_l_right => k_is)
    (case a_law => k_is)
    (case l_law => k_is)
    (case c_law => k_is)
    (case k_law => k_is)
    (case pg_Grid => k_is)
    (case hd_Grid => k_is)
    (case po_Grid => k_is)
    (case sa_Grid => k_is)
    (case mk_Grid => k_is)
    (case kc_Grid => k_is)
    (case nf_Grid_base => k_is)
    (case nf_Grid_figures => k_is)
    (case nf_Grid_reach => k_is)
    (case nf_Grid_places => k_is)
    (case nf_Grid_unit => k_is)
    (case nf_Grid_limits => k_is)
    (case nf_Grid_tops => k_is)
    (case nf_Grid_greatest => k_is)
    (case v_MOST_FIGURES => k_is)
    (case v_MOST_MORE => k_is)
    (case v_MOST_LAPS => k_is)
    (case a_WAYS => k_is)
    (case l_WAYS => k_is)
    (case z_isinstance => k_is)
    (case z_int => k_is)
    (case z_bool => k_is)
    (case z_range => k_is)
    (case z_tuple => k_is)
    (case z_list => k_is)
    (case z_abs => k_is)
    (case z_sum => k_is)
    (case z_len => k_is)
    (case z_all => k_is)
    (case z_max => k_is)
    (case z_min => k_is)
    (case z_repr => k_is)
#print axioms PySem.Challenge.cw_roundedsteps_k69_whole_far_laps_of_sums_holds

