import PyProof.Rows.All
import Wide.All
import OpenK.AllK
import Wide.FinOn
import HandS.ForMost
import HandS.Wide
import HandS.Gcd
import HandS.Exc
import HandS.ExcInit
import HandS.ExcIs
import HandS.ExcField
import HandS.ClsMeth
import HandS.IsInst
import HandS.DeepEq
import HandS.FStr
import HandS.Style
import PySem.Challenge.RW_unwaited_k00_errors_and_fractions
import HandS.Codes
set_option Elab.async false
set_option linter.all false
set_option maxRecDepth 100000
/-! A def's promise that also knows that no repr is under way (so that repr may be called in it). -/
namespace Vg
open PySem PySem.Spec PyProof.Rows L2

/-- nothing guarded is under way -/
abbrev Un0 (A : Around) : Prop := A.guards = some []
theorem un0_deeper {A : Around} (h : Un0 A) (env : Env) : Un0 (A.deeper env) := h

structure GOk (P : Program) (w : World) (K : PySem.W.Frag) (mg : Str → Option Value) (base : Heap) (k : Nat) (f : Addr) (fd : FuncData) (ps : List Str) (sp : Sp) : Prop where
  len : ∀ vs H Q E, sp vs H Q E → vs.length = ps.length
  go : ∀ (A : Around), Un0 A → ∀ (outer : List Env) (s : Shared) (H : Hp) (args : Args) (us : List Value) (vs : List V) (Q : VK) (E : XK), Room k A → Env0 P w K mg base A outer s H →
    BindsTo s fd args (ps.zip us) → Vals vs us → sp vs H Q E → codeAny (model P w) A (.call (.ref f) args) (CR CX0 outer P w H s Q E) s

section
variable {P : Program} {w : World} {K : PySem.W.Frag} {mg : Str → Option Value} {base : Heap} {k : Nat} {f : Addr} {fd : FuncData} {ps : List Str} {sp : Sp}
theorem GOk.of (F : FnOk P w K mg base CX0 k f fd ps sp) : GOk P w K mg base k f fd ps sp := ⟨F.len, fun A _ => F.run A⟩
theorem GOk.mono {j : Nat} (F : GOk P w K mg base j f fd ps sp) (h : j ≤ k) : GOk P w K mg base k f fd ps sp :=
  ⟨F.len, fun A g outer s H args us vs Q E hr => F.go A g outer s H args us vs Q E (hr.mono h)⟩

/-- a def's body under the guard -/
theorem gok_fun {x qual : Str} {st : Stmt} {N : List Str} (F : Fun K x qual st f fd) (S : FnScope N ps (defScope st)) (len : ∀ vs H Q E, sp vs H Q E → vs.length = ps.length)
    (hb : ∀ (cdv : Value) (A : Around) (outer : List Env) (s : Shared) (H : Hp) (vs : List V) (Q : VK) (E : XK), Un0 (A.deeper (envOfC qual (defScope st) s.heap.objs.size f cdv)) →
      Room k (A.deeper (envOfC qual (defScope st) s.heap.objs.size f cdv)) → sp vs H Q E →
      ∃ t, PSs (cxOf CX0 P w K mg base N qual (defScope st) f cdv A outer s H E).nox (defBody st) t ∧ t { nx := fun _ H' => Q .non H', rt := Q } (start N vs) H) :
    GOk P w K mg base (k + 1) f fd ps sp := by
  obtain ⟨oc, od, kV, doc, pm, an, cdv, ct, osl, e, lk, hcd⟩ := F.ex
  subst e
  refine ⟨len, fun A hg outer s H args us vs Q E hr e0 hbd r hsp => ?_⟩
  have hl := len _ _ _ _ hsp
  have kin : K.In s.heap := e0.mod.kin.keeps fun b o z => (e0.bs b o z).1
  have nol : s.heap.NoLimit := e0.mod.nolimit.keeps fun b o z => (e0.bs b o z).1
  refine codeAny_call_function hr.depth (kin _ _ lk) rfl S.co S.gen rfl (PySem.W.codeRec_of kin hcd) (hbd _ _ _ _ ?_)
  refine wpAny_newFunctionEnv_cells S.kind (fun y hy => ?_) fun env he s1 x => ?_
  · obtain ⟨n, v⟩ := y
    cases S.par n (List.of_mem_zip hy).1 with
    | inl q => exact .inl q
    | inr q => exact .inr ⟨q, PySem.W.cellsFrom_some _ _ _ (.inl q)⟩
  subst he
  refine ⟨nol.keeps x.toInCall.keep, codeAny_func ?_⟩
  obtain ⟨t, ht, hq⟩ := hb cdv A outer s H vs Q E (un0_deeper hg _) (hr.deeper _) hsp
  have I := inv_start (CX := CX0) (E := E) S hr.hd e0 hl r x
  refine wpAny_mono (ht.nox.run [] s1 (start N vs) H _ I hq) (fun fl s' hs => ?_) fun e s' hs => hs
  have fin {σ' : L2.St} {H' : Hp} {v : V} {u : Value} (J : Inv (cxOf CX0 P w K mg base N qual (defScope st) f cdv A outer s H E) [] σ' H' s') (rv : RelV v u) (q : Q v H') : CE outer P w H s Q u s' :=
    ⟨v, H', J.os, J.bare, J.base, J.hok, rv, q⟩
  cases fl with
  | ret u => obtain ⟨v, σ', H', J, rv, q⟩ := hs; exact fin J rv q
  | next => obtain ⟨σ', H', J, q⟩ := hs; exact fin (v := .non) (u := .none) J rfl q
  | brk => obtain ⟨_, _, _, q⟩ := hs; exact q.elim
  | cont => obtain ⟨_, _, _, q⟩ := hs; exact q.elim
end

section
variable {X : Cx} {k : Nat} {f : Addr} {fd : FuncData} {ps : List Str} {sp : Sp} {dvs : List V} {ds : List Value} {x : Str} {p pos : Pos} {e : Expr} {es : List Expr} {t : TA}
theorem g_run {pins : List (Addr × Obj)} {σ : L2.St} {H : Hp} {s : Shared} {Q : VK} {us : List Value} {vs : List V} (F : GOk X.prog X.w X.K X.mg X.base k f fd ps sp) (g : Un0 X.A) (hr : Room k X.A) (hb : Binds X.K fd ps [])
    (I : Inv X pins σ H s) (r : Vals vs us) (h : sp vs H Q E0) : wpAny (model X.prog X.w) X.A (call (.ref f) us) (EP X pins σ Q) X.xe s := by
  have hl : (us ++ []).length = ps.length := by
    rw [List.append_nil, ← r.length]
    exact F.len _ _ _ _ h
  have r2 : Vals vs (us ++ []) := by
    rw [List.append_nil]
    exact r
  refine wpAny_call (codeAny_mono (F.go X.A g X.stack s H ⟨us, []⟩ (us ++ []) vs Q E0 hr I.env0 (hb s us I.kIn hl) r2 h) fun q s' hq => ?_)
  match q, hq with
  | .error _, hq => exact hq.elim
  | .ok (.ret u), hq => exact I.after hq
  | .ok .next, hq => exact hq.elim
  | .ok .brk, hq => exact hq.elim
  | .ok .cont, hq => exact hq.elim
/-- f(e, ..) of such a def -/
theorem pe_callG (F : GOk X.prog X.w X.K X.mg X.base k f fd ps sp) (g : Un0 X.A) (hr : Room k X.A) (hg : Gl X x) (hm : X.mg x = some (.ref f)) (hk : PySem.W.keepIn X.K (.ref f) = true) (hb : Binds X.K fd ps [])
    (ha : PA X (e :: es) t) (hdb : (x == ("__debug__" : Str)) = false := by decide) (he : starEach (e :: es) X.env = (false, eval e X.env) :: starEach es X.env := by rfl)
    (hpl : (backTo pos (starEach es X.env)).any (·.1) = false := by rfl) : PE X (.Call (.Name x p) (e :: es) [] pos) (fun σ H Q => t σ H fun vs H1 => sp vs H1 Q E0) := by
  constructor
  intro pins s σ H Q I h
  refine wpAny_Call_Name_kw (ld_glob I hg hm ?_ hdb)
  exact PySem.W.callWith_K (h₀ := X.base) I.ok.mod.kin hk (thn (ha.run pos pins s σ H _ I h) fun us s1 ⟨vs, H1, I1, r, q⟩ => ⟨I1.kIn, g_run F g hr hb I1 r q⟩) he hpl
end

/-! ### the end of a law's row: the caller has no repr under way -/
section
variable {P : Program} {w : World} {K : PySem.W.Frag} {mg mb : Str → Option Value} {k : Nat} {fa a : Addr} {fd : FuncData} {x : Str} {sp : Sp} {z : Shared} {vs : List Value} {ns : List Int}
theorem law_callG (kin : K.In z.heap) (hg : z.heap.Ns mainGlobals mg) (hb : z.heap.Ns builtinsNs mb) (hbb : ∀ y : Str, y ≠ "__name__" → mb y = bootBuiltins y) (nol : z.heap.NoLimit) (gen : z.gens = #[])
    (ha : z.heap.get? a = some { cls := .type "list", data := .seq vs.toArray }) (hi : IntsAre vs ns) (hl : ns.length ≤ sizeLine) (hr : Room k callerA)
    (F : ∀ base : Heap, K.In base → base.Ns mainGlobals mg → GOk P w K mg base k fa fd [x] sp) (bd : ∀ (s : Shared) (u : Value), BindsTo s fd ⟨[u], []⟩ [(x, u)])
    (hsp : ∀ H : Hp, Only H → SqL K H a (ns.map V.int) → sp [.ref a] H (fun v _ => v = .bl true) fun _ _ _ => False) :
    codeAny (model P w) callerA (.call (.ref fa) ⟨[.ref a], []⟩) (fun r s' => r = .ok (.ret (.bool true)) ∧ OldK z.heap s'.heap ∧ s'.os = z.os ∧ AllBare s'.gens) z := by
  have rv := vals_ints hi
  have lenV := hi.length
  -- H: nothing is tracked but, perhaps, the script at a
  have main (H : Hp) (hO : Only H) (hS : SqL K H a (ns.map V.int)) (ok : HOk P w H z.heap) (one : ∀ b u, H b = some u → b = a) (hk : ∀ u, H a = some u → K.lookup a = none) :
      codeAny (model P w) callerA (.call (.ref fa) ⟨[.ref a], []⟩) (fun r s' => r = .ok (.ret (.bool true)) ∧ OldK z.heap s'.heap ∧ s'.os = z.os ∧ AllBare s'.gens) z := by
    have nd {b : Addr} {o : Obj} {es : Array DictEntry} {ep : Nat} (e : z.heap.get? b = some o) (d : o.data = .dict es ep) : H b = none := by
      cases q : H b with
      | none => rfl
      | some u =>
        rw [one b u q, ha] at e
        cases e
        cases (show Data.seq vs.toArray _ = Data.dict es ep from d)
    have up {b : Addr} {m : Str → Option Value} : z.heap.Ns b m → (hidT z.heap H).Ns b m := fun ⟨o, es, ep, e, d, r⟩ => ⟨o, es, ep, hidT_get e (nd e d), d, r⟩
    have kb : K.In (hidT z.heap H) := fun b o e => hidT_get (kin b o e) (by
      cases q : H b with
      | none => rfl
      | some u =>
        have y := one b u q
        subst y
        rw [hk u q] at e
        cases e)
    have md : Mod K mg (hidT z.heap H) := ⟨kb, up hg, ⟨mb, up hb, hbb⟩, nol.elim fun mc q => ⟨mc, up q.1, q.2⟩⟩
    have en : Env0 P w K mg (hidT z.heap H) callerA [] z H :=
      { frames := rfl, mod := md, bs := fun b o e => of_hidT e, bsz := Nat.le_of_eq (hidT_size _ _), funs := trivial, frf := fun b q => absurd q (List.not_mem_nil), hok := ok, bare := .of_eq gen }
    refine codeAny_mono ((F _ kb (up hg)).go callerA rfl [] z H ⟨[.ref a], []⟩ [.ref a] [.ref a] _ _ hr en (bd z (.ref a)) (.cons rfl .nil) (hsp H hO hS)) fun r s' h => ?_
    match r, h with
    | .error _, h => exact h.elim
    | .ok .next, h => exact h.elim
    | .ok .brk, h => exact h.elim
    | .ok .cont, h => exact h.elim
    | .ok (.ret u), h =>
      obtain ⟨v, H', os, bare, un, ok', r', q⟩ := h
      have q : v = .bl true := q
      subst q
      have r' : u = Value.bool true := r'
      subst r'
      refine ⟨rfl, OldK.of_keep fun b o e => ?_, os, bare⟩
      cases q : H b with
      | none => exact un.keep b o e q (List.not_mem_nil) (List.not_mem_nil)
      | some y =>
        rcases hO b with n | ⟨ob, xs, n⟩
        · rw [q] at n
          cases n
        · have e1 := (ok b _ n).1
          have e2 := (ok' b _ (un.frzs b ob _ n)).1
          rw [e] at e1
          cases e1
          exact e2
  cases hk : K.lookup a with
  | some o =>
    have e := kin a o hk
    rw [ha] at e
    cases e
    exact main (fun _ => none) (fun _ => .inl rfl) (.inr ⟨_, vs.toArray, _, hk, rfl, rfl, rfl, by rw [List.size_toArray, lenV]; exact hl, by simpa using rv⟩) (fun _ _ y => nomatch y) (fun _ _ y => nomatch y) (fun _ y => nomatch y)
  | none =>
    let o0 : Obj := { cls := .type "list", data := .seq vs.toArray }
    refine main (fun b => if b = a then some (.frz o0 (.lst (ns.map V.int))) else none) (fun b => ?_) (.inl (.inr ⟨o0, if_pos rfl⟩)) (fun b u y => ?_) (fun b u y => ?_) (fun _ _ => hk)
    · by_cases hb : b = a
      · exact .inr ⟨_, _, if_pos hb⟩
      · exact .inl (if_neg hb)
    · dsimp only at y
      by_cases hb : b = a
      · rw [if_pos hb] at y
        cases y
        subst hb
        exact ⟨ha, by rw [List.length_map]; exact hl, vs, _, rv, ha⟩
      · rw [if_neg hb] at y
        cases y
    · by_cases hb : b = a
      · exact hb
      · rw [if_neg hb] at y
        cases y
end
theorem walk_ofG {l : PySem.W.OpenLaw} {n k : Nat} {q : Program} {loose : List Str} {XP : (Str → Option Value) → Heap → Prop} {YP : World → Heap → Prop} {d : DefRec} {K : Params → PySem.W.Frag} {sp : World → Sp} {x : Str}
    (hn : l.most = some n) (hn2 : n ≤ sizeLine) (hdf : d.params.defaults = []) (hr : Room k callerA) (hY : ∀ (w : World) (h : Heap), YP w h → (K w.params).In h)
    (F : ∀ (w : World) (mg : Str → Option Value) (fa : Addr) (h : Heap), (K w.params).In h → h.Ns mainGlobals mg → mg d.name = some (.ref fa) →
      ∃ fd : FuncData, (∀ (s : Shared) (u : Value), BindsTo s fd ⟨[u], []⟩ [(x, u)]) ∧ ∀ base : Heap, (K w.params).In base → base.Ns mainGlobals mg → GOk l.prog w (K w.params) mg base k fa fd [x] (sp w))
    (hsp : ∀ (w : World) (H : Hp) (a : Addr) (ns : List Int), ns.length ≤ n → Only H → SqL (K w.params) H a (ns.map V.int) → sp w [.ref a] H (fun v _ => v = .bl true) fun _ _ _ => False) :
    PySem.W.WalkO q loose XP YP l.row.toRowW d [] (fun f vs => PySem.call f vs) := by
  refine Att.attach_call hn hdf fun w s0 z mg mb fa o pm cd doc a vs ns G Y ho hd hcd hmg hobj hints hlen hg => ?_
  have kin := hY w _ Y
  obtain ⟨fd, hb, hF⟩ := F w mg fa _ kin G.T.g hmg
  exact law_callG kin G.T.g G.T.b G.T.builtins G.T.nolimit hg hobj hints (Nat.le_trans hlen hn2) hr hF hb fun H hO hS => hsp w H a ns hlen hO hS
end Vg

set_option Elab.async false
set_option linter.all false
set_option maxRecDepth 100000
set_option maxHeartbeats 4000000
/-! Own exceptions, with an own __init__, held as values: made, read, asked for their class. -/
namespace Vg
open PySem PySem.Spec PyProof.Rows L2

section
open PySem.W PySem.Calls
variable {prog : Program} {w : World} {A : Around} {E : Value → Shared → Prop} {s : Shared} {K : Frag} {x D : Addr} {ox : Obj} {od : Option Obj}
theorem find_cls (C : ExcC K D) : findObj K D od "__class__" = some (.bind (.builtin "getset_descriptor.__get__") (.builtin "object.__class__")) := by
  have hc : (clsIn K D).isSome = true := by
    obtain ⟨cd, q, _⟩ := any_some C.hd
    rw [q]; rfl
  cases od with
  | none => exact findObj_dataN hc C.ha C.hn C.ht
  | some o => exact findObj_data hc C.ha C.hn C.ht
theorem ask_class {Q : Option Value → Shared → Prop} (C : ExcC K D) (X : K.In s.heap) (I : InstAt s.heap x ox D od) (h : Q (some (.ref D)) { s with toks := s.toks + 1 }) :
    wpAny (model prog w) A (getAttr? (.ref x) "__class__") Q E s := by
  have hf : findObj K D od "__class__" = _ := find_cls C
  obtain ⟨hp, g, d, t, os⟩ := s
  have T0 := I.type (M := model prog w)
  have T1 := looks_findIn (M := model prog w) X C.hg
  have T2 := looks_findIn (M := model prog w) X C.hk
  have T3 := looks_find (M := model prog w) X I hf
  have sub : Looks (model prog w) hp (isInstance (.ref x) (.type "BaseException")) true := T0.andThen (looks_subIn X C.hs)
  have n0 : (false && onTheHeap (Value.builtin "BaseException.__getattribute__")) = false := rfl
  have n2 : (Value.builtin "BaseException.__getattribute__" == Value.builtin "object.__getattribute__") = false := by decide +kernel
  have n1 : (onTheHeap (Value.ref D) && Value.builtin "BaseException.__getattribute__" == Value.builtin "object.__getattribute__") = false := by
    rw [n2]
    rfl
  unfold getAttr? getAttrBy? getAttrBy
  refine wpAny_bind (wpAny_mkText (wpAny_bind (wpAny_attempt (wpAny_holding (wpAny_bind (T0.at (wpAny_bind (T1.at ?a))))))))
  case a =>
    show wpAny _ _ (if (onTheHeap (Value.ref D) && Value.builtin "BaseException.__getattribute__" == Value.builtin "object.__getattribute__") = true then _ else _) _ _ _
    rw [n1, if_neg Bool.false_ne_true]
    unfold getAttrByItsOwn hookBefore
    refine wpAny_bind ?b
    rw [if_pos (show onTheHeap (Value.ref D) = true from rfl)]
    refine T2.at (wpAny_bind (wpAny_attempt (wpAny_holding ?c)))
    unfold callGetattribute
    rw [n0, if_neg Bool.false_ne_true]
    unfold boundAndCalled
    rw [PySem.F.excAttr_ValueError.ga.bind (.ref x)]
    refine wpAny_bind (wpAny_pure (?d : wpAny _ _ (call (.builtin "BaseException.__getattribute__") [.ref x, .str "__class__" t]) _ _ _))
    refine wpAny_call (codeAny_call_builtin PySem.F.excAttr_ValueError.ga.plain PySem.F.entry_bexc_ga ?e)
    refine @check_slot (model prog w) _ _ ⟨hp, g, d, t + 1, os⟩ "BaseException.__getattribute__" "BaseException" "__getattribute__" (.ref x) [.str "__class__" t] [] _ (by decide +kernel) (by decide +kernel) sub (PySem.F.args_bexc_ga (.ref x) (.str "__class__" t)) ?f
    unfold Builtin.«object.__getattribute__»
    refine wpAny_bind (wpAny_of_eq (a := ((Value.ref x : Value), [Value.str "__class__" t])) (by first | rfl | (simp only [slotArgs]; rfl)) ?g)
    refine wpAny_bind (wpAny_pure (wpAny_bind (T0.at (wpAny_bind (T3.at (?h : wpAny _ _ (holding [Value.builtin "object.__class__"] (call (.builtin "getset_descriptor.__get__") [.builtin "object.__class__", .ref x, .ref D]) >>= ret) _ _ _))))))
    refine wpAny_bind (wpAny_holding (wpAny_call (class_get (s := ⟨hp, g, d, t + 1, os⟩) (ox := ox) (od := od) X I C.hm (wpAny_pure ?i))))
    show wpAny _ _ (handedOut (.ref D)) _ _ _
    rw [handedOut_of (v := .ref D) rfl]
    first
      | exact wpAny_pure (wpAny_pure h)
      | exact wpAny_pure h
      | exact wpAny_pure (wpAny_bind (wpAny_pure (wpAny_pure h)))
/-- what isinstance asks of such an exception -/
theorem kit_held (C : ExcC K D) : KitX K (.ref x) (.ref D) (fun h => InstAt h x ox D od) := by
  obtain ⟨cd, hcd, _⟩ := any_some C.hd
  have lk : ∃ o, K.lookup D = some o ∧ o.data = .cls cd := by
    unfold clsIn at hcd
    split at hcd
    · rename_i c d e sl ho
      cases hcd
      exact ⟨_, ho, rfl⟩
    · cases hcd
  obtain ⟨o, lk, hd⟩ := lk
  refine ⟨fun _ _ _ I => I.type, fun _ h X _ A' Q' E' s' k q => ?_, fun h tp dd its n sl X htp => ?_, fun X I k => ask_class C X I k⟩
  · unfold isType loadHead
    refine wpAny_bind (wpAny_loadPart (k _ _ (X _ _ lk)) (wpAny_pure ?_))
    rw [hd]
    exact q
  · refine Bool.eq_false_iff.mpr fun q => ?_
    have e : D = tp := Value.ref.inj (beq_iff_eq.mp q)
    subst e
    have z := (X _ _ lk).symm.trans htp
    cases z
    cases hd
end

/-- at a: an exception of the class C, with the fields fs -/
def ExAt (H : Hp) (a C : Addr) (fs : List (Str × V)) : Prop :=
  (fs = [] ∧ H a = some (exo a C none)) ∨ ∃ d, H a = some (exo a C (some d)) ∧ H d = some (exd d fs)
theorem exAt_inst {X : Cx} {pins : List (Addr × Obj)} {σ : L2.St} {H : Hp} {s : Shared} {a C : Addr} {fs : List (Str × V)} (I : Inv X pins σ H s) (h : ExAt H a C fs) :
    ∃ ox od, PySem.W.InstAt s.heap a ox C od ∧ (fs ≠ [] → ∃ d mA o, od = some o ∧ s.heap.Ns1 d mA ∧ s.heap.get? d = some o ∧ ∀ f, RelO (fs.lookup f) (mA f)) := by
  rcases h with ⟨rfl, h⟩ | ⟨d, h, hd⟩
  · obtain ⟨t1, ho⟩ := exo_at I.hok h
    exact ⟨_, none, ⟨ho, rfl, rfl, True.intro⟩, fun z => absurd rfl z⟩
  · obtain ⟨t1, ho⟩ := exo_at I.hok h
    obtain ⟨mA, hns, rel⟩ := exd_at I.hok hd
    obtain ⟨od, es, ep, e, r⟩ := id hns
    exact ⟨_, some od, ⟨ho, rfl, rfl, e⟩, fun _ => ⟨d, mA, od, rfl, hns, e, rel⟩⟩

/-- isinstance(e, c) of such an exception -/
def rIsX (K : PySem.W.Frag) : List V → Hp → VK → Prop := fun xs H Q => ∃ (a C : Addr) (fs : List (Str × V)) (c : V) (cv : Value) (b : Bool), xs = [.ref a, c] ∧ ExcC K C ∧ ExAt H a C fs ∧ ClsV c cv ∧ PySem.W.kitOne K (.ref C) cv = some b ∧ Q (.bl b) H
theorem call_isX {X : Cx} : CallR X (.builtin "isinstance") (rIsX X.K) := by
  intro pins s σ H xs us Q I r h
  obtain ⟨a, C, fs, c, cv, b, rfl, T, ha, hc, e, q⟩ := h
  obtain ⟨u1, u2, rfl, r1, r2⟩ := vals2 r
  cases (show u1 = Value.ref a from r1)
  have e2 := hc.eq r2
  subst e2
  obtain ⟨ox, od, J, _⟩ := exAt_inst I ha
  exact PySem.W.kia_one (kit_held T) I.kIn J e (fun z => nomatch z) fun tk => ⟨.bl b, H, I.tok tk, rfl, q⟩

/-- e.f of such an exception -/
def tExF (K : PySem.W.Frag) (f : Str) (te : TE) : TE := fun σ H Q => te σ H fun x H1 => ∃ (a C : Addr) (fs : List (Str × V)) (v : V), x = .ref a ∧ XfC K C ∧ PySem.W.findIn K (.ref C) f = some none ∧ ExAt H1 a C fs ∧ fs.lookup f = some v ∧ Q v H1
theorem pe_exf {X : Cx} {e : Expr} {te : TE} {pos : Pos} {n : Str} (he : PE X e te) (hb : attributeBase e n X.env (eval e X.env) = eval e X.env := by rfl) : PE X (.Attribute e n pos) (tExF X.K n te) := by
  constructor
  intro pins s σ H Q I h
  refine attr_of hb (thn (he.run pins s σ H _ I h) fun u s1 hh => ?_)
  obtain ⟨x, H1, I1, rx, a, C, fs, v, rfl, T, hno, ha, l, q⟩ := hh
  obtain rfl : u = Value.ref a := rx
  obtain ⟨ox, od, J, hd⟩ := exAt_inst I1 ha
  obtain ⟨d, mA, o, rfl, hns, ho, hr⟩ := hd (fun z => by
    subst z
    cases l)
  obtain ⟨od2, ho2, hl⟩ := lookIn_ns hns
  rw [ho] at ho2
  cases ho2
  obtain ⟨u, hu, ru⟩ := RelO.some_of (v := v) (o := mA n) (by rw [← l]; exact hr n)
  exact HandSPX.exc_get I1.kIn J T.ga T.gg T.exC (PySem.W.findObj_own T.hdC hno rfl (by rw [hl, hu])) (handed_of ru) ⟨v, H1, I1.tok _, ru, q⟩

/-- C(e, ..) as a value, C's own __init__ keeping sp -/
def tMkX (C : Addr) (sp : Sp) (ta : TA) : TE := fun σ H Q => ta σ H fun vs H1 => vs.length ≤ 1000 ∧ ∀ a, H1 a = none → sp (.ref a :: vs) (upd H1 a (exo a C none)) (fun v H2 => v = .non ∧ Q (.ref a) H2) E0
section
variable {X : Cx} {k : Nat} {x : Str} {C fI : Addr} {fd : FuncData} {ps : List Str} {sp : Sp} {e : Expr} {es : List Expr} {ta : TA} {p pos : Pos}
theorem mk_run {pins : List (Addr × Obj)} {σ : L2.St} {H : Hp} {s : Shared} {Q : VK} {us : List Value} {vs : List V} (T : OexC X.K C) (iC : PySem.W.findIn X.K (.ref C) "__init__" = some (some (.ref fI))) (tI : PySem.W.typeIn X.K (.ref fI) = some (.type "function"))
    (F1 : FnOk X.prog X.w X.K X.mg X.base CX0 k fI fd ps sp) (hr : Room (k + 1) X.A) (hb : Binds X.K fd ps []) (I : Inv X pins σ H s) (r1 : Vals vs us) (hz : vs.length ≤ 1000)
    (q1 : ∀ a, H a = none → sp (.ref a :: vs) (upd H a (exo a C none)) (fun v H2 => v = .non ∧ Q (.ref a) H2) E0) : wpAny (model X.prog X.w) X.A (call (.ref C) us) (EP X pins σ Q) X.xe s := by
  obtain ⟨nm, q, N, bs, bm, sn, sub, ab, col, dd, k0, k1, k2, k3, k5, hC, hbm⟩ := T.cls
  obtain ⟨hp, g, dr, tk, os⟩ := s
  have up : hp.objs.size ≤ hp.objs.size + 1 := Nat.le_succ _
  have nn : H (hp.objs.size + 1) = none := I.hok.fresh up
  have kk : ∀ b o, hp.get? b = some o → ((hp.push (PySem.W.kdv_tup us)).push (PySem.HandSPX.excO C hp.objs.size)).get? b = some o := fun b o z => Heap.get?_push_of_some _ (Heap.get?_push_of_some _ z)
  have at1 : ((hp.push (PySem.W.kdv_tup us)).push (PySem.HandSPX.excO C hp.objs.size)).get? (hp.objs.size + 1) = some (PySem.HandSPX.excO C hp.objs.size) := by heap_get
  have I2 : Inv X pins σ (upd H (hp.objs.size + 1) (exo (hp.objs.size + 1) C none)) ⟨(hp.push (PySem.W.kdv_tup us)).push (PySem.HandSPX.excO C hp.objs.size), g, dr, tk, os⟩ :=
    I.laid (t' := tk) (a := hp.objs.size + 1) kk up (exo_ok at1)
  have r2 : Vals (V.ref (hp.objs.size + 1) :: vs) (Value.ref (hp.objs.size + 1) :: us ++ []) := by
    rw [List.append_nil]
    exact .cons rfl r1
  have hq := q1 _ nn
  have hl : (Value.ref (hp.objs.size + 1) :: us ++ []).length = ps.length := by
    rw [← r2.length]
    exact F1.len _ _ _ _ hq
  have hus : us.length ≤ sizeLine := by
    rw [← r1.length, sizeLine_eq]
    omega
  refine wpAny_call (PySem.HandSPX.call_own F.excBase_ValueError (fun Y => PySem.HandSPX.refsVE_contains Y bm hbm) (I.kIn _ _ hC) (PySem.W.looks_findIn I.kIn iC) (fun self => PySem.W.bind_fn I.kIn self tI) hus
    (codeAny_mono (F1.run _ X.stack _ _ ⟨Value.ref (hp.objs.size + 1) :: us, []⟩ _ _ _ E0 (hr.make C us []) (I2.env0.make C us []) (hb _ (Value.ref (hp.objs.size + 1) :: us) I2.kIn hl) r2 hq) fun r s' hq' => ?_))
  match r, hq' with
  | .error _, z => exact z.elim
  | .ok .next, z => exact z.elim
  | .ok .brk, z => exact z.elim
  | .ok .cont, z => exact z.elim
  | .ok (.ret u), z =>
    obtain ⟨v, H', I3, rv, ev, q3⟩ := I2.after z
    subst ev
    exact ⟨rv, ⟨V.ref _, H', I3, rfl, q3⟩⟩
theorem pe_exM (T : OexC X.K C) (iC : PySem.W.findIn X.K (.ref C) "__init__" = some (some (.ref fI))) (tI : PySem.W.typeIn X.K (.ref fI) = some (.type "function")) (F1 : FnOk X.prog X.w X.K X.mg X.base CX0 k fI fd ps sp) (hr : Room (k + 1) X.A)
    (hb : Binds X.K fd ps []) (hg : Gl X x) (hm : X.mg x = some (.ref C)) (ha : PA X (e :: es) ta)
    (hdb : (x == ("__debug__" : Str)) = false := by decide) (he : starEach (e :: es) X.env = (false, eval e X.env) :: starEach es X.env := by rfl) (hpl : (backTo pos (starEach es X.env)).any (·.1) = false := by rfl) :
    PE X (.Call (.Name x p) (e :: es) [] pos) (tMkX C sp ta) := by
  constructor
  intro pins s σ H Q I h
  refine wpAny_Call_Name_kw (ld_glob I hg hm ?_ hdb)
  exact PySem.W.callWith_K (h₀ := X.base) I.ok.mod.kin T.kC (thn (ha.run pos pins s σ H _ I h) fun us s1 ⟨vs, H1, I1, r1, hz, q1⟩ => ⟨I1.kIn, mk_run T iC tI F1 hr hb I1 r1 hz q1⟩) he hpl
theorem pe_exM0 (T : OexC X.K C) (iC : PySem.W.findIn X.K (.ref C) "__init__" = some (some (.ref fI))) (tI : PySem.W.typeIn X.K (.ref fI) = some (.type "function")) (F1 : FnOk X.prog X.w X.K X.mg X.base CX0 k fI fd ps sp) (hr : Room (k + 1) X.A)
    (hb : Binds X.K fd ps []) (hg : Gl X x) (hm : X.mg x = some (.ref C)) (hdb : (x == ("__debug__" : Str)) = false := by decide) :
    PE X (.Call (.Name x p) [] [] pos) (tMkX C sp tNil) := by
  constructor
  intro pins s σ H Q I h
  refine wpAny_Call_Name_kw (ld_glob I hg hm ?_ hdb)
  exact PySem.W.callWith_K0 I.kIn T.kC (mk_run (us := []) T iC tI F1 hr hb I .nil h.1 h.2)
end

/-- B.__init__(self, ..) of an own class B over ValueError that has no __init__ of its own -/
structure BaseInit (K : PySem.W.Frag) (B : Addr) : Prop where
  rd : ClX.CRead K B (.type "type")
  at_ : PySem.W.findCls K (.ref B) (.type "type") "__init__" = some (.val (.builtin "ValueError.__init__"))
theorem pe_binit {X : Cx} {x : Str} {B : Addr} {e : Expr} {es : List Expr} {ta : TA} {p1 p2 pos : Pos} {pl : Sem Bool} (hg : Gl X x) (hm : X.mg x = some (.ref B)) (hB : BaseInit X.K B) (ha : PA X (e :: es) ta) (hdb : (x == ("__debug__" : Str)) = false := by decide)
    (hc : eval (.Call (.Attribute (.Name x p1) "__init__" p2) (e :: es) [] pos) X.env = (do
      let ov ← eval (.Name x p1) X.env
      standAt p2.atName
      let (f, first) ← holding [ov] (getMethod ov "__init__" pl)
      callWith pos f first (backTo pos (starEach (e :: es) X.env)) (backToKw pos (keywordEach [] X.env))) := by rfl)
    (he : starEach (e :: es) X.env = (false, eval e X.env) :: starEach es X.env := by rfl) (hpl : (backTo pos (starEach es X.env)).any (·.1) = false := by rfl) :
    PE X (.Call (.Attribute (.Name x p1) "__init__" p2) (e :: es) [] pos) (tVeI X.K ta) := by
  constructor
  intro pins s σ H Q I h
  refine PySem.W.methodCall_KW (ld_glob I hg hm ?_ hdb) hc
  refine PySem.W.method_cls I.kIn hB.rd.ga (PySem.W.cls_value I.kIn hB.rd.rd hB.at_ (by rfl) ?_)
  show wpAny _ _ (callWith pos (Value.builtin "ValueError.__init__") [] (backTo pos (starEach (e :: es) X.env)) []) _ _ _
  refine PyProof.Rows.callWith_method1 (thn (ha.run pos pins _ σ H _ (I.tok _) h) fun us s1 ⟨vs, H1, I1, r1, a, C, ws, ev, hl, T, ea, q⟩ => ?_) he hpl
  subst ev
  match us, r1 with
  | u0 :: ur, .cons ra rw' =>
    obtain rfl : u0 = Value.ref a := ra
    have hlen : ur.length ≤ sizeLine := by
      rw [← Paired.length rw', sizeLine_eq]
      omega
    exact oinit_ok T I1 ea hlen fun s' J => ⟨.non, H1, J, rfl, q⟩
end Vg

set_option Elab.async false
set_option linter.all false
set_option maxRecDepth 100000
set_option maxHeartbeats 4000000
/-! Values read as data, dicts among them; == of the same data; repr. -/
namespace Vg
open PySem PySem.Spec PyProof.Rows L2

def kD : Key → PyData
  | .inl i => .int i
  | .inr x => .str x
mutual
/-- what x is, as data; a list, a dict: not where sys.modules stands -/
inductive Dq (K : PySem.W.Frag) (H : Hp) : V → PyData → Prop
  | non : Dq K H .non .none
  | bl (b : Bool) : Dq K H (.bl b) (.bool b)
  | int (i : Int) : Dq K H (.int i) (.int i)
  | str (x : Str) : Dq K H (.str x) (.str x)
  | lst {a : Addr} {xs : List V} {ds : List PyData} : SqL K H a xs → (a == sysModules) = false → DqAll K H xs ds → Dq K H (.ref a) (.list ds)
  | tup {a : Addr} {xs : List V} {ds : List PyData} : SqT K H a xs → PyData.hasDictAll ds = false → DqAll K H xs ds → Dq K H (.ref a) (.tuple ds)
  | dct {a : Addr} {kvs : List (Key × V)} {ds : List PyData} : H a = some (.dK kvs) → (kvs.map (·.1)).Nodup → DqAll K H (kvs.map (·.2)) ds → Dq K H (.ref a) (.dict ((kvs.map fun p => kD p.1).zip ds))
inductive DqAll (K : PySem.W.Frag) (H : Hp) : List V → List PyData → Prop
  | nil : DqAll K H [] []
  | cons {v : V} {vs : List V} {d : PyData} {ds : List PyData} : Dq K H v d → DqAll K H vs ds → DqAll K H (v :: vs) (d :: ds)
end
section
variable {K : PySem.W.Frag} {H H' : Hp}
theorem DqAll.length : ∀ {xs : List V} {ds : List PyData}, DqAll K H xs ds → xs.length = ds.length
  | _, _, .nil => rfl
  | _, _, .cons _ t => by rw [List.length_cons, List.length_cons, DqAll.length t]
theorem sqT_same {a : Addr} {xs : List V} (e : Same H H') (h : SqT K H a xs) : SqT K H' a xs := by
  rcases h with (h | ⟨o, h⟩) | h
  · exact .inl (.inl (e _ _ h))
  · exact .inl (.inr ⟨o, e _ _ h⟩)
  · exact .inr h
mutual
theorem Dq.same (e : Same H H') : ∀ {x : V} {d : PyData}, Dq K H x d → Dq K H' x d
  | _, _, .non => .non
  | _, _, .bl b => .bl b
  | _, _, .int i => .int i
  | _, _, .str x => .str x
  | _, _, .lst h n t => .lst (e.seq h) n (DqAll.same e t)
  | _, _, .tup h n t => .tup (sqT_same e h) n (DqAll.same e t)
  | _, _, .dct h n t => .dct (e _ _ h) n (DqAll.same e t)
theorem DqAll.same (e : Same H H') : ∀ {xs : List V} {ds : List PyData}, DqAll K H xs ds → DqAll K H' xs ds
  | _, _, .nil => .nil
  | _, _, .cons h t => .cons (Dq.same e h) (DqAll.same e t)
end
end
theorem keys_kD : ∀ {κ : List (Key × V)} {ds : List PyData}, κ.length = ds.length → ((κ.map fun p => kD p.1).zip ds).map (·.1) = κ.map fun p => kD p.1
  | [], [], _ => rfl
  | [], _ :: _, h => by cases h
  | _ :: _, [], h => by cases h
  | p :: κ, d :: ds, h => by
    simp only [List.map_cons, List.zip_cons_cons]
    rw [keys_kD (by simpa using h)]
theorem vals_kD : ∀ {κ : List (Key × V)} {ds : List PyData}, κ.length = ds.length → ((κ.map fun p => kD p.1).zip ds).map (·.2) = ds
  | [], [], _ => rfl
  | [], _ :: _, h => by cases h
  | _ :: _, [], h => by cases h
  | p :: κ, d :: ds, h => by
    simp only [List.map_cons, List.zip_cons_cons]
    rw [vals_kD (by simpa using h)]

theorem read_key {k : Key} {v : Value} {h : Heap} (hi : keyIs k v = true) : Reads h v (kD k) [] := by
  rcases keyIs_shape hi with ⟨i, u, q1, q2⟩ | ⟨z, u, q1, q2⟩
  · subst q1
    rw [q2]
    exact Reads.int i u
  · subst q1
    rw [q2]
    exact Reads.str z u
theorem read_pairs {P : Program} {w : World} {h : Heap} {es : List DictEntry} {vs : List (Key × Value)} (p : Pairs (mixKind P w) es vs) : ∀ {kvs : List (Key × V)}, KV kvs vs →
    ReadsAll h (es.map (·.key)) (kvs.map fun p => kD p.1) [] ∧ Vals (kvs.map (·.2)) (es.map (·.val)) := by
  induction p with
  | nil =>
    intro kvs r
    cases r
    exact ⟨.nil, .nil⟩
  | @cons e kv es vs hk hv _ ih =>
    intro kvs r
    cases r with
    | @cons q _ _ _ r1 r2 =>
      obtain ⟨i1, i2⟩ := ih r2
      obtain ⟨e1, e2⟩ := r1
      refine ⟨?_, ?_⟩
      · have hk' : keyIs q.1 e.key = true := by
          rw [e1]
          exact hk
        exact ReadsAll.cons (as := []) (bs := []) (read_key hk') i1
      · refine .cons ?_ i2
        show RelV q.2 e.val
        rw [hv]
        exact e2
end Vg

set_option Elab.async false
set_option linter.all false
set_option maxRecDepth 100000
set_option maxHeartbeats 4000000
namespace Vg
open PySem PySem.Spec PyProof.Rows L2
section
variable {X : Cx} {pins : List (Addr × Obj)} {σ : L2.St} {H : Hp} {s : Shared}
mutual
theorem Dq.reads (I : Inv X pins σ H s) : ∀ {x : V} {d : PyData} {u : Value}, Dq X.K H x d → RelV x u → ∃ as, Reads s.heap u d as ∧ sysModules ∉ as
  | _, _, _, .non, r => by
    cases r
    exact ⟨[], Reads.none, List.not_mem_nil⟩
  | _, _, _, .bl b, r => by
    cases r
    exact ⟨[], Reads.bool b, List.not_mem_nil⟩
  | _, _, _, .int i, ⟨t, e⟩ => by
    subst e
    exact ⟨[], Reads.int i t, List.not_mem_nil⟩
  | _, _, _, .str x, ⟨t, e⟩ => by
    subst e
    exact ⟨[], Reads.str x t, List.not_mem_nil⟩
  | _, _, _, .lst (a := a) hs n t, r => by
    cases r
    obtain ⟨its, rv, ⟨o, m, ho, hc, _, hd⟩, _⟩ := I.list hs
    obtain ⟨as, hr, ns⟩ := DqAll.reads I t rv
    refine ⟨_, Reads.list ho hc hd hr, fun q => ?_⟩
    rcases List.mem_cons.mp q with q | q
    · rw [← q] at n
      simp at n
    · exact ns q
  | _, _, _, .tup hs _ t, r => by
    cases r
    obtain ⟨its, rv, ⟨o, ho, hc, m, hd⟩, _⟩ := I.tuple hs
    obtain ⟨as, hr, ns⟩ := DqAll.reads I t rv
    exact ⟨_, Reads.tuple ho hc hd hr, ns⟩
  | _, _, _, .dct (a := a) (kvs := kvs) (ds := ds) hs _ t, r => by
    cases r
    obtain ⟨_, hn, vs, rk, o, es, ep, ho, hx, hd, _, hp, _⟩ := (show ObjOk X.prog X.w H s.heap a (.dK kvs) from I.hok a _ hs)
    obtain ⟨k1, k2⟩ := read_pairs (h := s.heap) hp rk
    obtain ⟨as, hr, ns⟩ := DqAll.reads I t k2
    have hl : kvs.length = ds.length := by
      have := t.length
      rwa [List.length_map] at this
    refine ⟨_, Reads.dict ho hx.1 hd (by rw [keys_kD hl]; exact k1) (by rw [vals_kD hl]; exact hr), fun q => ?_⟩
    rcases List.mem_append.mp q with q | q
    · rcases List.mem_cons.mp q with q | q
      · rw [← q] at hn
        simp at hn
      · exact absurd q List.not_mem_nil
    · exact ns q
theorem DqAll.reads (I : Inv X pins σ H s) : ∀ {xs : List V} {ds : List PyData} {us : List Value}, DqAll X.K H xs ds → Vals xs us → ∃ as, ReadsAll s.heap us ds as ∧ sysModules ∉ as
  | _, _, _, .nil, .nil => ⟨[], ReadsAll.nil, List.not_mem_nil⟩
  | _, _, _, .cons h t, .cons r1 r2 => by
    obtain ⟨as, q1, n1⟩ := Dq.reads I h r1
    obtain ⟨bs, q2, n2⟩ := DqAll.reads I t r2
    refine ⟨_, ReadsAll.cons q1 q2, fun q => ?_⟩
    rcases List.mem_append.mp q with q | q
    · exact n1 q
    · exact n2 q
end

/-! ### == of the same data -/
theorem eqAt_str {A : Around} (x : Str) (t u : Tok) : SeqAt.EqAt A s (.str x t) (.str x u) true := eqAt_same (v := .str x) ⟨t, rfl⟩ ⟨u, rfl⟩ rfl
mutual
/-- without dicts -/
theorem eq_plain (I : Inv X pins σ H s) : ∀ {x y : V} {d : PyData} {u v : Value} {A : Around}, Dq X.K H x d → Dq X.K H y d → d.hasDict = false → A.units + d.depth < cLine → RelV x u → RelV y v → SeqAt.EqAt A s u v true
  | _, _, _, _, _, _, .non, .non, _, _, r, r' => eqAt_same (v := .non) r r' rfl
  | _, _, _, _, _, _, .bl b, .bl _, _, _, r, r' => eqAt_same (v := .bl b) r r' rfl
  | _, _, _, _, _, _, .int i, .int _, _, _, r, r' => eqAt_same (v := .int i) r r' rfl
  | _, _, _, _, _, _, .str x, .str _, _, _, r, r' => eqAt_same (v := .str x) r r' rfl
  | _, _, _, _, _, A, .lst (a := a) (ds := ds) hs _ t, .lst (a := b) hs' _ t', hd, hu, r, r' => by
    cases r
    cases r'
    obtain ⟨us, r1, p1, _⟩ := I.list hs
    obtain ⟨ws, r2, p2, _⟩ := I.list hs'
    have l1 := t.length
    have l2 := t'.length
    have l3 := r1.length
    have l4 := r2.length
    rw [PyData.depth] at hu
    by_cases e : a = b
    · subst e
      exact SeqAt.EqAt.same _
    · refine SeqAt.EqAt.of_refs e ?_
      have k := SeqAt.RcAt.lists (A := A) (e := fun _ => true) p1.isList p2.isList (by rw [List.size_toArray, List.size_toArray]; omega) (by omega) (fun j h1 h2 => ?_)
      · rw [show ((List.range us.toArray.size).all fun _ => true) = true from List.all_eq_true.mpr fun _ _ => rfl] at k
        exact k
      · have q := eq_plainAll (A := A.in1) I t t' (by rw [PyData.hasDict] at hd; exact hd) (by show A.units + 1 + _ < _; omega) r1 r2 j (by simpa using h1) (by simpa using h2)
        simpa using q
  | _, _, _, _, _, A, .tup (a := a) (ds := ds) hs _ t, .tup (a := b) hs' _ t', hd, hu, r, r' => by
    cases r
    cases r'
    obtain ⟨us, r1, ⟨o1, ho1, hc1, n1, hd1⟩, _⟩ := I.tuple hs
    obtain ⟨ws, r2, ⟨o2, ho2, hc2, n2, hd2⟩, _⟩ := I.tuple hs'
    have l1 := t.length
    have l2 := t'.length
    have l3 := r1.length
    have l4 := r2.length
    rw [PyData.depth] at hu
    have t1 : s.heap.IsTuple a us.toArray := ⟨o1, ho1, hc1, n1, hd1⟩
    have t2 : s.heap.IsTuple b ws.toArray := ⟨o2, ho2, hc2, n2, hd2⟩
    by_cases e : a = b
    · subst e
      exact SeqAt.EqAt.same _
    · refine SeqAt.EqAt.of_refs e ?_
      have k := SeqAt.RcAt.tuples (A := A) (e := fun _ => true) t1 t2 (by omega) (fun j h1 h2 => ?_)
      · rw [show (((List.range (min us.toArray.size ws.toArray.size)).all fun _ => true) && us.toArray.size == ws.toArray.size) = true by
          rw [show ((List.range (min us.toArray.size ws.toArray.size)).all fun _ => true) = true from List.all_eq_true.mpr fun _ _ => rfl, Bool.true_and, beq_iff_eq, List.size_toArray, List.size_toArray]
          omega] at k
        exact k
      · have q := eq_plainAll (A := A.in1) I t t' (by rw [PyData.hasDict] at hd; exact hd) (by show A.units + 1 + _ < _; omega) r1 r2 j (by simpa using h1) (by simpa using h2)
        simpa using q
  | _, _, _, _, _, _, .dct _ _ _, _, hd, _, _, _ => by
    rw [PyData.hasDict] at hd
    cases hd
theorem eq_plainAll (I : Inv X pins σ H s) : ∀ {xs ys : List V} {ds : List PyData} {us vs : List Value} {A : Around}, DqAll X.K H xs ds → DqAll X.K H ys ds → PyData.hasDictAll ds = false → A.units + PyData.depthAll ds < cLine → Vals xs us → Vals ys vs →
    ∀ j (h1 : j < us.length) (h2 : j < vs.length), SeqAt.EqAt A s us[j] vs[j] true
  | _, _, _, _, _, _, .nil, .nil, _, _, .nil, .nil, j, h1, _ => absurd h1 (Nat.not_lt_zero j)
  | _, _, _, _, _, A, .cons (d := d) (ds := ds) h t, .cons h' t', hd, hu, .cons r1 r2, .cons q1 q2, j, h1, h2 => by
    rw [PyData.hasDictAll, Bool.or_eq_false_iff] at hd
    rw [PyData.depthAll] at hu
    have m1 := Nat.le_max_left (PyData.depth d) (PyData.depthAll ds)
    have m2 := Nat.le_max_right (PyData.depth d) (PyData.depthAll ds)
    cases j with
    | zero => exact eq_plain I h h' hd.1 (by omega) r1 q1
    | succ j => exact eq_plainAll I t t' hd.2 (by omega) r2 q2 j (Nat.lt_of_succ_lt_succ h1) (Nat.lt_of_succ_lt_succ h2)
end
theorem rc_plain (I : Inv X pins σ H s) {x y : V} {d : PyData} {u v : Value} {A : Around} (hx : Dq X.K H x d) (hy : Dq X.K H y d) (hd : d.hasDict = false) (hu : A.units + d.depth < cLine) (r : RelV x u) (r' : RelV y v) : SeqAt.RcAt A s u v true := by
  cases hx with
  | non =>
    cases hy
    cases r
    cases r'
    exact SeqAt.RcAt.none_none
  | bl b =>
    cases hy
    cases r
    cases r'
    have k := SeqAt.RcAt.bool_bool (A := A) (s := s) b b
    rw [beq_self_eq_true] at k
    exact k
  | int i =>
    cases hy
    obtain ⟨t, rfl⟩ := r
    obtain ⟨t', rfl⟩ := r'
    have k := SeqAt.RcAt.int_int (A := A) (s := s) i t i t'
    rw [beq_self_eq_true] at k
    exact k
  | str z =>
    cases hy
    obtain ⟨t, rfl⟩ := r
    obtain ⟨t', rfl⟩ := r'
    have k := SeqAt.RcAt.str_str (A := A) (s := s) z t z t'
    rw [beq_self_eq_true] at k
    exact k
  | @lst a xs ds hs _ t =>
    cases hy with
    | @lst b ys _ hs' _ t' =>
      cases r
      cases r'
      obtain ⟨us, r1, p1, _⟩ := I.list hs
      obtain ⟨ws, r2, p2, _⟩ := I.list hs'
      have l1 := t.length
      have l2 := t'.length
      have l3 := r1.length
      have l4 := r2.length
      rw [PyData.depth] at hu
      have k := SeqAt.RcAt.lists (A := A) (e := fun _ => true) p1.isList p2.isList (by rw [List.size_toArray, List.size_toArray]; omega) (by omega) (fun j h1 h2 => by
        have q := eq_plainAll (A := A.in1) I t t' (by rw [PyData.hasDict] at hd; exact hd) (by show A.units + 1 + _ < _; omega) r1 r2 j (by simpa using h1) (by simpa using h2)
        simpa using q)
      rw [show ((List.range us.toArray.size).all fun _ => true) = true from List.all_eq_true.mpr fun _ _ => rfl] at k
      exact k
  | @tup a xs ds hs _ t =>
    cases hy with
    | @tup b ys _ hs' _ t' =>
      cases r
      cases r'
      obtain ⟨us, r1, ⟨o1, ho1, hc1, n1, hd1⟩, _⟩ := I.tuple hs
      obtain ⟨ws, r2, ⟨o2, ho2, hc2, n2, hd2⟩, _⟩ := I.tuple hs'
      have l1 := t.length
      have l2 := t'.length
      have l3 := r1.length
      have l4 := r2.length
      rw [PyData.depth] at hu
      have t1 : s.heap.IsTuple a us.toArray := ⟨o1, ho1, hc1, n1, hd1⟩
      have t2 : s.heap.IsTuple b ws.toArray := ⟨o2, ho2, hc2, n2, hd2⟩
      have k := SeqAt.RcAt.tuples (A := A) (e := fun _ => true) t1 t2 (by omega) (fun j h1 h2 => by
        have q := eq_plainAll (A := A.in1) I t t' (by rw [PyData.hasDict] at hd; exact hd) (by show A.units + 1 + _ < _; omega) r1 r2 j (by simpa using h1) (by simpa using h2)
        simpa using q)
      rw [show (((List.range (min us.toArray.size ws.toArray.size)).all fun _ => true) && us.toArray.size == ws.toArray.size) = true by
        rw [show ((List.range (min us.toArray.size ws.toArray.size)).all fun _ => true) = true from List.all_eq_true.mpr fun _ _ => rfl, Bool.true_and, beq_iff_eq, List.size_toArray, List.size_toArray]
        omega] at k
      exact k
  | dct _ _ _ =>
    rw [PyData.hasDict] at hd
    cases hd
/-- a value and itself -/
theorem eqV_self {K : PySem.W.Frag} {H : Hp} {x : V} {d : PyData} (h : Dq K H x d) : EqV K H 1 x x := by
  cases h with
  | non => exact .inl ⟨rfl, rfl⟩
  | bl b => exact .inl ⟨rfl, rfl⟩
  | int i => exact .inl ⟨rfl, rfl⟩
  | str z => exact .inl ⟨rfl, rfl⟩
  | lst _ _ _ => exact .inr (.inl ⟨_, rfl, rfl⟩)
  | tup _ _ _ => exact .inr (.inl ⟨_, rfl, rfl⟩)
  | dct _ _ _ => exact .inr (.inl ⟨_, rfl, rfl⟩)
theorem eqV_selfAll {K : PySem.W.Frag} {H : Hp} : ∀ {xs : List V} {ds : List PyData}, DqAll K H xs ds → Paired (EqV K H 1) xs xs
  | _, _, .nil => .nil
  | _, _, .cons h t => .cons (eqV_self h) (eqV_selfAll t)
theorem dqAll_mem {K : PySem.W.Frag} {H : Hp} : ∀ {xs : List V} {ds : List PyData}, DqAll K H xs ds → ∀ x ∈ xs, ∃ d, Dq K H x d
  | _, _, .nil, x, h => absurd h List.not_mem_nil
  | _, _, .cons h t, x, hx => by
    rcases List.mem_cons.mp hx with e | e
    · subst e
      exact ⟨_, h⟩
    · exact dqAll_mem t x e
theorem valV_nodup : ∀ {kvs : List (Key × V)}, (kvs.map (·.1)).Nodup → ∀ p ∈ kvs, valV kvs p.1 = some p.2
  | [], _, p, h => absurd h List.not_mem_nil
  | q :: kvs, nd, p, h => by
    rw [List.map_cons, List.nodup_cons] at nd
    unfold valV
    rcases List.mem_cons.mp h with e | e
    · subst e
      simp
    · have hne : q.1 ≠ p.1 := fun z => nd.1 (by rw [z]; exact List.mem_map_of_mem e)
      have ih := valV_nodup nd.2 p e
      unfold valV at ih
      rw [List.find?_cons_of_neg (by simpa using hne)]
      exact ih
/-- what == of the same data wants -/
def SameD (K : PySem.W.Frag) (H : Hp) (x y : V) (d : PyData) : Prop := Dq K H x d ∧ Dq K H y d ∧ (d.hasDict = false ∨ x = y)
theorem rc_same (I : Inv X pins σ H s) {x y : V} {d : PyData} {u v : Value} {A : Around} (h : SameD X.K H x y d) (hu : A.units + d.depth < cLine) (h2 : A.units + 2 < cLine) (r : RelV x u) (r' : RelV y v) {E Q : Value → Shared → Prop} (q : Q (.bool true) s) :
    wpAny (model X.prog X.w) A (compareOp .Eq u v) Q E s := by
  obtain ⟨hx, hy, hd⟩ := h
  by_cases e : d.hasDict = false
  · exact rc_plain I hx hy e hu r r' X.prog X.w E Q q
  · have e2 := hd.resolve_left e
    subst e2
    cases hx with
    | non => exact absurd (by rw [PyData.hasDict]) e
    | bl b => exact absurd (by rw [PyData.hasDict]) e
    | int i => exact absurd (by rw [PyData.hasDict]) e
    | str z => exact absurd (by rw [PyData.hasDict]) e
    | tup hs n t => exact absurd (by rw [PyData.hasDict]; exact n) e
    | lst hs n t => exact eqR_run I (A := A) (by omega) (eqV_run I 1 A.in1 (by show A.units + 1 + 1 < cLine; omega)) (.inl ⟨_, _, _, _, rfl, rfl, hs, hs, eqV_selfAll t⟩) r r' E Q q
    | dct hs n t =>
      refine eqR_run I (A := A) (by omega) (eqV_run I 1 A.in1 (by show A.units + 1 + 1 < cLine; omega)) (.inr ⟨_, _, _, _, rfl, rfl, hs, hs, rfl, fun p hp => ⟨p.2, valV_nodup n p hp, ?_⟩⟩) r r' E Q q
      obtain ⟨d', h'⟩ := dqAll_mem t p.2 (List.mem_map_of_mem hp)
      exact eqV_self h'
end

section
variable {X : Cx}
def rSame (K : PySem.W.Frag) : R2 := fun x y H Q => ∃ d, SameD K H x y d ∧ d.depth ≤ 60 ∧ Q (.bl true) H
theorem op_same (hu : X.A.units + 64 < cLine) : OpR X (compareOp .Eq) (rSame X.K) := by
  intro pins s σ H x y v u Q I rx ry h
  obtain ⟨d, h, hd, q⟩ := h
  exact rc_same I h (by omega) (by omega) rx ry ⟨.bl true, H, I, rfl, q⟩

/-- repr(x) -/
def rRepr (K : PySem.W.Frag) : List V → Hp → VK → Prop := fun xs H Q => ∃ x d, xs = [x] ∧ Dq K H x d ∧ d.showable = true ∧ d.shown.length ≤ sizeLine ∧ d.depth ≤ 60 ∧ Q (.str d.shown) H
theorem call_repr (g : Un0 X.A) (hu : X.A.units + 64 < cLine) : CallR X (.builtin "repr") (rRepr X.K) := by
  intro pins s σ H xs us Q I r h
  obtain ⟨x, d, rfl, hx, hs, hz, hd, q⟩ := h
  obtain ⟨u, rfl, ru⟩ := vals1 r
  have hsh : ∀ {a : Addr}, u = .ref a → wpAny (model X.prog X.w) X.A (call (.builtin "repr") [u]) (EP X pins σ Q) X.xe s := by
    intro a e
    subst e
    obtain ⟨as, rd, ns⟩ := Dq.reads I hx ru
    exact repr_of_reads' rd hs (fun _ => ns) g (by omega) (fun _ _ z => z) (fun h' t tk hk => ⟨.str d.shown, H, I.kept hk, ⟨t, rfl⟩, q⟩) hz
  cases hx with
  | non =>
    cases ru
    rw [PyData.shown] at q
    exact PySem.P.repr_of_none ⟨.str _, H, I.tok _, ⟨_, rfl⟩, q⟩
  | bl b =>
    cases ru
    rw [PyData.shown] at q
    exact PySem.P.repr_of_bool ⟨.str _, H, I.tok _, ⟨_, rfl⟩, q⟩
  | int i =>
    obtain ⟨t, rfl⟩ := ru
    rw [PyData.shown] at q
    exact PySem.P.repr_of_int (by rw [PyData.showable] at hs; exact of_decide_eq_true hs) ⟨.str _, H, I.tok _, ⟨_, rfl⟩, q⟩
  | str z =>
    obtain ⟨t, rfl⟩ := ru
    rw [PyData.shown] at q hz
    exact PySem.P.repr_of_str ⟨.str _, H, I.tok _, ⟨_, rfl⟩, q⟩ hz
  | lst _ _ _ => exact hsh ru
  | tup _ _ _ => exact hsh ru
  | dct _ _ _ => exact hsh ru

/-- a display of a list: not where sys.modules stands -/
def tLstS (t : TA) : TE := fun σ H Q => t σ H fun xs H1 => xs.length ≤ sizeLine ∧ ∀ p, H1 p = none → (p == sysModules) = false → Q (.ref p) (upd H1 p (.lst xs))
theorem pe_lstS {es : List Expr} {t : TA} {pos : Pos} (h : PA X es t) : PE X (.List es pos) (tLstS t) := by
  constructor
  intro pins s σ H Q I hq
  refine wpAny_List_spliced (thn (h.run pos pins s σ H _ I hq) fun us s1 ⟨xs, H1, I1, r, z, q⟩ => ⟨by rw [← r.length]; exact z, ?_⟩)
  have hb := I1.big
  have fr : H1 s1.heap.objs.size = none := I1.hok.fresh (Nat.le_refl _)
  exact ⟨.ref s1.heap.objs.size, _, I1.laid (t' := s1.toks) (a := s1.heap.objs.size) (o := .lst xs) (fun b u e => Heap.get?_push_of_some _ e) (Nat.le_refl _) ⟨z, us, 0, r, Heap.get?_push_size _ rfl⟩, rfl,
    q _ fr (beq_eq_false_iff_ne.mpr (Nat.ne_of_gt hb))⟩
end
end Vg

set_option Elab.async false
set_option linter.all false
set_option maxRecDepth 100000
namespace K00
open PySem PySem.Spec PyProof.Rows L2 Vg
/-! ### the text -/
def topS (i : Nat) : Stmt := PySem.Challenge.pw_unwaited_k00_errors_and_fractions.main.body.getD i (.Pass ⟨0, 0, 0, 0⟩)
/-- a def of the top: where it stands, how it is called -/
structure Dn (K : PySem.W.Frag) (mg : Str → Option Value) (x : Str) (f : Addr) (fd : FuncData) (ps : List Str) : Prop where
  m : mg x = some (.ref f)
  k : PySem.W.keepIn K (.ref f) = true
  b : Binds K fd ps []
theorem hu64 {A : Around} {k : Nat} (hr : Room k A) : A.units + 64 < cLine := hr.units
/-- // by a divisor that is not 0 -/
def CDz (_ j : Int) : Prop := j ≠ 0 ∧ j.natAbs.log2 < 9000
theorem op_fdivZ {X : Cx} : OpR X (binaryOp .FloorDiv) (rI CDz fun i j => .int (i.fdiv j)) := opI fun i j _ _ _ _ _ hc q => floordiv_int hc.1 q (.inl (PyProof.noPylong_of_log2 hc.2))
/-- l[k], k written from 0 on -/
def rIxN (K : PySem.W.Frag) : R2 := fun x y H Q => ∃ (p : Addr) (xs : List V) (j : Nat) (v : V), x = .ref p ∧ y = .int (j : Int) ∧ SqL K H p xs ∧ xs[j]? = some v ∧ Q v H
theorem get_list {X : Cx} : PGet X (rIxN X.K) := by
  intro pins s σ H x y v u Q I rx ry h
  obtain ⟨p, xs, j, z, rfl, rfl, hq, he, q⟩ := h
  cases rx
  obtain ⟨t, rfl⟩ := ry
  obtain ⟨its, r, pl, hz⟩ := I.list hq
  obtain ⟨w, ew, rw'⟩ := r.get he
  have hl := r.length
  have hn := line63
  have hj : j < xs.length := (List.getElem?_eq_some_iff.mp he).1
  exact wpAny_getItem_list pl.isList (Int.natCast_nonneg j) (by omega) (by rw [Int.toNat_natCast]; simpa using ew) ⟨z, H, I, rw', q⟩
theorem ite_of {b : Bool} {A B : Prop} (h : b = true) (x : A) : if b = true then A else B := by
  rw [if_pos h]
  exact x
/-- a new tuple -/
def NewT (H : Hp) (Q : VK) (xs : List V) : Prop := ∀ H' p, Same H H' → H p = none → H' p = some (.tup xs) → Q (.ref p) H'
theorem same_new {H : Hp} {p : Addr} {o : HO} (h : H p = none) : Same H (upd H p o) := fun b x e => by
  rw [upd_ne (ne_of_none e h)]
  exact e

/-! ### the mathematics -/
def redu (n d : Int) : Int × Int := if d < 0 then ((-n) / (Int.gcd n d : Int), (-d) / (Int.gcd n d : Int)) else (n / (Int.gcd n d : Int), d / (Int.gcd n d : Int))
theorem gcd_pos {n d : Int} (hd : d ≠ 0) : 0 < (Int.gcd n d : Int) := by
  have : Int.gcd n d ≠ 0 := fun z => hd (Int.gcd_eq_zero_iff.mp z).2
  omega
theorem gcd_small {n d : Int} {k : Nat} (hd : d ≠ 0) (h : d.natAbs < 2 ^ k) : Int.gcd n d < 2 ^ k := by
  refine Nat.lt_of_le_of_lt (Nat.le_of_dvd (by omega) ?_) h
  exact Nat.gcd_dvd_right n.natAbs d.natAbs
theorem fdiv_pos (n : Int) {g : Int} (h : 0 < g) : n.fdiv g = n / g := Int.fdiv_eq_ediv_of_nonneg n (by omega)
theorem fdiv_neg (n : Int) {g : Int} (h : 0 < g) : n.fdiv (-g) = (-n) / g := by
  rw [← fdiv_pos (-n) h, ← Int.neg_fdiv_neg n (-g), Int.neg_neg]
theorem log_of {j : Int} {k : Nat} (h : j.natAbs < 2 ^ k) (h0 : 0 < k) (h9 : k ≤ 9000) : j.natAbs.log2 < 9000 := Nat.lt_of_lt_of_le (PySem.Flt.log2_lt_of h0 h) h9
section
variable {P : Program} {w : World} {K : PySem.W.Frag} {mg : Str → Option Value} {base : Heap}
/-! ### reduced -/
abbrev sRed : Stmt := topS 2
theorem scRed : FnScope ["n", "d", "divisor"] ["n", "d"] (defScope sRed) := ⟨rfl, rfl, rfl, by decide +kernel, rfl, by decide +kernel, by decide +kernel⟩
def spRed : Sp := fun vs H Q _ => ∃ n d : Int, vs = [.int n, .int d] ∧ d ≠ 0 ∧ d.natAbs < 2 ^ 8000 ∧ NewT H Q [.int (redu n d).1, .int (redu n d).2]
theorem ok_red {f : Addr} {fd : FuncData} {k : Nat} (F : Fun K "reduced" "reduced" sRed f fd) (m_gcd : mg "gcd" = some (.builtin "math.gcd")) : FnOk P w K mg base CX0 (k + 1) f fd ["n", "d"] spRed := by
  have sc := scRed
  refine F.ok sc (fun vs H Q E h => ?_) (fun cdv A outer s H vs Q E hr h => ?_)
  · obtain ⟨n, d, rfl, _⟩ := h
    rfl
  · obtain ⟨n, d, rfl, hd, hz, q⟩ := h
    refine ⟨_, (pss_cons (ps_set (i := 2) sc.nd rfl (Or.inl rfl) (pe_callBfun cr_gcd (by rfl) m_gcd (pa_cons (pv 0) (pa_cons (pv 1) pa_nil))))
        (pss_cons (ps_if (pt_cmpR op_lt (pv 1) pe_int (nomark _)) (pss_one (ps_set (i := 2) sc.nd rfl (Or.inl rfl) (pe_un un_neg (pv 2)))) pss_nil)
        (pss_one (ps_ret (pe_tup (pa_cons (pe_op op_fdivZ (pv 0) (pv 2)) (pa_cons (pe_op op_fdivZ (pv 1) (pv 2)) pa_nil))))))), ?_⟩
    have hg := gcd_pos (n := n) hd
    have hs := gcd_small (n := n) hd hz
    have l1 : ((Int.gcd n d : Int)).natAbs.log2 < 9000 := log_of (k := 8000) (by rw [Int.natAbs_natCast]; exact hs) (by decide) (by decide)
    have l2 : (-(Int.gcd n d : Int)).natAbs.log2 < 9000 := by rw [Int.natAbs_neg]; exact l1
    refine ⟨_, rfl, _, rfl, n, d, rfl, ?_⟩
    refine ⟨_, rfl, _, _, rfl, rfl, _, rfl, ite2 (fun e => ?_) (fun e => ?_)⟩
    · have e := of_decide_eq_true e
      refine ⟨_, rfl, _, rfl, ?_⟩
      refine ⟨_, rfl, _, rfl, _, _, rfl, rfl, ⟨by show -(Int.gcd n d : Int) ≠ 0; omega, l2⟩, _, rfl, _, rfl, _, _, rfl, rfl, ⟨by show -(Int.gcd n d : Int) ≠ 0; omega, l2⟩, (by show 2 ≤ sizeLine; decide), fun p hp => ?_⟩
      have e1 : n.fdiv (-(Int.gcd n d : Int)) = (redu n d).1 := by
        rw [fdiv_neg n hg]
        unfold redu
        rw [if_pos e]
      have e2 : d.fdiv (-(Int.gcd n d : Int)) = (redu n d).2 := by
        rw [fdiv_neg d hg]
        unfold redu
        rw [if_pos e]
      refine q _ p (same_new hp) hp ?_
      rw [upd_same, ← e1, ← e2]
      rfl
    · have e' : ¬ d < 0 := fun z => e (decide_eq_true z)
      refine ⟨_, rfl, _, rfl, _, _, rfl, rfl, ⟨by show (Int.gcd n d : Int) ≠ 0; omega, l1⟩, _, rfl, _, rfl, _, _, rfl, rfl, ⟨by show (Int.gcd n d : Int) ≠ 0; omega, l1⟩, (by show 2 ≤ sizeLine; decide), fun p hp => ?_⟩
      have e1 : n.fdiv (Int.gcd n d : Int) = (redu n d).1 := by
        rw [fdiv_pos n hg]
        unfold redu
        rw [if_neg e']
      have e2 : d.fdiv (Int.gcd n d : Int) = (redu n d).2 := by
        rw [fdiv_pos d hg]
        unfold redu
        rw [if_neg e']
      refine q _ p (same_new hp) hp ?_
      rw [upd_same, ← e1, ← e2]
      rfl
/-! ### _law_common_of, _law_reduced -/
abbrev sCom : Stmt := topS 24
theorem scCom : FnScope ["one", "other"] ["one", "other"] (defScope sCom) := ⟨rfl, rfl, rfl, by decide +kernel, rfl, by decide +kernel, by decide +kernel⟩
def spCom : Sp := fun vs H Q _ => ∃ n d : Int, vs = [.int n, .int d] ∧ Q (.int (Int.gcd n d)) H
theorem abs_nat (i : Int) : (if i < 0 then -i else i) = (i.natAbs : Int) := by
  split <;> omega
theorem ok_com {f : Addr} {fd : FuncData} {k : Nat} (F : Fun K "_law_common_of" "_law_common_of" sCom f fd) (z_abs : mg "abs" = none) (z_int : mg "int" = none) : FnOk P w K mg base CX0 (k + 1) f fd ["one", "other"] spCom := by
  have sc := scCom
  refine F.ok sc (fun vs H Q E h => ?_) (fun cdv A outer s H vs Q E hr h => ?_)
  · obtain ⟨n, d, rfl, _⟩ := h
    rfl
  · obtain ⟨n, d, rfl, q⟩ := h
    refine ⟨_, (pss_cons (ps_par (i := 0) (j := 1) rfl sc.nd rfl rfl (by decide) rfl rfl (pa_cons (pe_callB call_abs (by rfl) z_abs (by decide +kernel) (pa_cons (pv 0) pa_nil)) (pa_cons (pe_callB call_abs (by rfl) z_abs (by decide +kernel) (pa_cons (pv 1) pa_nil)) pa_nil)) (by rfl))
        (pss_cons (ps_while PassesOwn.never (pt_cmpR op_ne (pv 1) pe_int (nomark _)) (pss_one (ps_par (i := 0) (j := 1) rfl sc.nd rfl rfl (by decide) rfl rfl (pa_cons (pv 1) (pa_cons (pe_op op_mod (pe_callTy call_int1 (by rfl) z_int (by decide +kernel) (pa_cons (pv 0) pa_nil)) (pv 1)) pa_nil)) (by rfl))))
        (pss_one (ps_ret (pv 0))))), ?_⟩
    refine ⟨_, rfl, n, rfl, _, rfl, d, rfl, _, _, rfl, ?_⟩
    refine while_by (fun σ H' => H' = H ∧ ∃ a b : Nat, σ = [some (.int a), some (.int b)] ∧ Nat.gcd a b = Int.gcd n d) (fun σ _ => match σ with | [_, some (.int b)] => b.toNat | _ => 0) ?_ ?_ ?_
    · refine ⟨rfl, n.natAbs, d.natAbs, ?_, rfl⟩
      rw [abs_nat, abs_nat]
      rfl
    · rintro σ H' ⟨rfl, a, b, rfl, hg⟩
      refine ⟨_, rfl, rfl, _, rfl, ?_⟩
      by_cases hb : b = 0
      · subst hb
        refine iteF ?_
        refine ⟨_, rfl, ?_⟩
        rw [Nat.gcd_zero_right] at hg
        rw [hg]
        exact q
      · have e : (!decide ((V.int (b : Int)) = .int 0)) = true := by
          rw [decide_eq_false (fun z => hb (by have := V.int.inj z; omega))]
          rfl
        refine ite_of e ?_
        refine ⟨_, rfl, _, rfl, .inl ⟨_, rfl, _, rfl, _, _, rfl, rfl, (by show (0 : Int) < b; omega), _, _, rfl, ⟨rfl, b, a % b, ?_, ?_⟩, ?_⟩⟩
        · show [some (V.int (b : Int)), some (V.int ((a : Int) % (b : Int)))] = _
          rw [Int.natCast_emod]
        · rw [← hg, Nat.gcd_comm b, ← Nat.gcd_rec, Nat.gcd_comm]
        · show ((a : Int) % (b : Int)).toNat < (b : Int).toNat
          have h1 := Int.emod_lt_of_pos (a : Int) (show (0 : Int) < b by omega)
          omega
    · intro σ H' Q1 Q2 hq h
      obtain ⟨v, e, h1, k, h2, h3⟩ := h
      exact ⟨v, e, h1, k, h2, hq _ _ h3⟩
end
end K00

set_option Elab.async false
set_option linter.all false
set_option maxRecDepth 100000
namespace K00
open PySem PySem.Spec PyProof.Rows L2 Vg
section
variable {P : Program} {w : World} {K : PySem.W.Frag} {mg : Str → Option Value} {base : Heap}
abbrev sLrd : Stmt := topS 25
theorem scLrd : FnScope ["n", "d", "common"] ["n", "d"] (defScope sLrd) := ⟨rfl, rfl, rfl, by decide +kernel, rfl, by decide +kernel, by decide +kernel⟩
theorem ok_lrd {f fC : Addr} {fd fdC : FuncData} {k : Nat} (F : Fun K "_law_reduced" "_law_reduced" sLrd f fd) (d_law_common_of : Dn K mg "_law_common_of" fC fdC ["one", "other"]) (G_law_common_of : FnOk P w K mg base CX0 k fC fdC ["one", "other"] spCom) :
    FnOk P w K mg base CX0 (k + 1) f fd ["n", "d"] spRed := by
  have sc := scLrd
  refine F.ok sc (fun vs H Q E h => ?_) (fun cdv A outer s H vs Q E hr h => ?_)
  · obtain ⟨n, d, rfl, _⟩ := h
    rfl
  · obtain ⟨n, d, rfl, hd, hz, q⟩ := h
    refine ⟨_, (pss_cons (ps_asg (pe_ifExp (pt_cmpR op_gt (pv 1) pe_int (nomark _)) (pe_tup (pa_cons (pv 0) (pa_cons (pv 1) pa_nil))) (pe_tup (pa_cons (pe_op op_sub pe_int (pv 0)) (pa_cons (pe_op op_sub pe_int (pv 1)) pa_nil)))) (pg_tup rfl (pgs_cons (pg_name (i := 0) sc.nd rfl (Or.inl rfl)) (pgs_cons (pg_name (i := 1) sc.nd rfl (Or.inl rfl)) pgs_nil))))
        (pss_cons (ps_set (i := 2) sc.nd rfl (Or.inl rfl) (pe_call G_law_common_of hr (by rfl) d_law_common_of.m d_law_common_of.k d_law_common_of.b .nil pass0 (pa_cons (pv 0) (pa_cons (pv 1) pa_nil))))
        (pss_one (ps_ret (pe_tup (pa_cons (pe_op op_fdivW (pv 0) (pv 2)) (pa_cons (pe_op op_fdivW (pv 1) (pv 2)) pa_nil))))))), ?_⟩
    have hg := gcd_pos (n := n) hd
    have hs := gcd_small (n := n) hd hz
    have l1 : ((Int.gcd n d : Int)).natAbs < 2 ^ 8000 := by
      rw [Int.natAbs_natCast]
      exact hs
    have w1 (i : Int) : CDivW i (Int.gcd n d : Int) := wide_div hg l1 (by decide) (by decide)
    refine ⟨_, rfl, _, _, rfl, rfl, _, rfl, ite2 (fun e => ?_) (fun e => ?_)⟩
    · have e : 0 < d := of_decide_eq_true e
      have e' : ¬ d < 0 := by omega
      refine ⟨_, rfl, _, rfl, (by show 2 ≤ sizeLine; decide), fun p hp => ?_⟩
      refine ⟨p, _, rfl, .inl (.inl upd_same), rfl, _, _, rfl, _, _, rfl, rfl, ?_⟩
      refine ⟨_, rfl, _, rfl, n, d, rfl, ?_⟩
      refine ⟨_, rfl, _, rfl, _, _, rfl, rfl, w1 n, _, rfl, _, rfl, _, _, rfl, rfl, w1 d, (by show 2 ≤ sizeLine; decide), fun p2 hp2 => ?_⟩
      refine q _ p2 ((same_new hp).trans (same_new hp2)) ((same_new hp).free hp2) ?_
      rw [upd_same]
      unfold redu
      rw [if_neg e']
    · have e' : d < 0 := by
        have : ¬ 0 < d := fun z => e (decide_eq_true z)
        omega
      refine ⟨_, rfl, _, _, rfl, rfl, _, rfl, _, _, rfl, rfl, (by show 2 ≤ sizeLine; decide), fun p hp => ?_⟩
      refine ⟨p, _, rfl, .inl (.inl upd_same), rfl, _, _, rfl, _, _, rfl, rfl, ?_⟩
      have eg : Int.gcd (0 - n) (0 - d) = Int.gcd n d := by
        rw [Int.zero_sub, Int.zero_sub, Int.gcd_neg, Int.neg_gcd]
      refine ⟨_, rfl, _, rfl, _, _, rfl, ?_⟩
      rw [eg]
      refine ⟨_, rfl, _, rfl, _, _, rfl, rfl, w1 _, _, rfl, _, rfl, _, _, rfl, rfl, w1 _, (by show 2 ≤ sizeLine; decide), fun p2 hp2 => ?_⟩
      refine q _ p2 ((same_new hp).trans (same_new hp2)) ((same_new hp).free hp2) ?_
      rw [upd_same]
      unfold redu
      rw [if_pos e', Int.zero_sub, Int.zero_sub]
/-! ### added, lessened, times, compared -/
/-- two fractions, by small numbers -/
structure Frs (H : Hp) (vs : List V) (n d m e : Int) : Prop where
  at_ : ∃ a b, vs = [.ref a, .ref b] ∧ H a = some (.tup [.int n, .int d]) ∧ H b = some (.tup [.int m, .int e])
  hn : n.natAbs < 2 ^ 300
  hd : d.natAbs < 2 ^ 300
  hm : m.natAbs < 2 ^ 300
  he : e.natAbs < 2 ^ 300
theorem mulw {i j : Int} (hi : i.natAbs < 2 ^ 300) (hj : j.natAbs < 2 ^ 300) : CMulW i j := wide_mul hi hj (by decide) (by decide) (by decide)
theorem mul8 {i j : Int} (hi : i.natAbs < 2 ^ 300) (hj : j.natAbs < 2 ^ 300) : (i * j).natAbs < 2 ^ 8000 := Nat.lt_of_lt_of_le (wide_lt hi hj) (Nat.pow_le_pow_right (by decide) (by decide))
abbrev sAdd : Stmt := topS 3
abbrev sLes : Stmt := topS 4
abbrev sTim : Stmt := topS 5
abbrev sCmp : Stmt := topS 6
theorem scAdd : FnScope ["one", "other"] ["one", "other"] (defScope sAdd) := ⟨rfl, rfl, rfl, by decide +kernel, rfl, by decide +kernel, by decide +kernel⟩
theorem scLes : FnScope ["one", "other"] ["one", "other"] (defScope sLes) := ⟨rfl, rfl, rfl, by decide +kernel, rfl, by decide +kernel, by decide +kernel⟩
theorem scTim : FnScope ["one", "other"] ["one", "other"] (defScope sTim) := ⟨rfl, rfl, rfl, by decide +kernel, rfl, by decide +kernel, by decide +kernel⟩
theorem scCmp : FnScope ["one", "other", "left", "right"] ["one", "other"] (defScope sCmp) := ⟨rfl, rfl, rfl, by decide +kernel, rfl, by decide +kernel, by decide +kernel⟩
def spFr (g : Int → Int → Int → Int → Int) : Sp := fun vs H Q _ => ∃ n d m e : Int, Frs H vs n d m e ∧ d ≠ 0 ∧ e ≠ 0 ∧ NewT H Q [.int (redu (g n d m e) (d * e)).1, .int (redu (g n d m e) (d * e)).2]
def cmp2 (x y : Int) : Int := if x < y then -1 else if y < x then 1 else 0
def spCmp : Sp := fun vs H Q _ => ∃ n d m e : Int, Frs H vs n d m e ∧ Q (.int (cmp2 (n * e) (m * d))) H
theorem mul_ne {d e : Int} (hd : d ≠ 0) (he : e ≠ 0) : d * e ≠ 0 := fun z => by
  rcases Int.mul_eq_zero.mp z with z | z
  · exact hd z
  · exact he z
variable {f fR : Addr} {fd fdR : FuncData} {k : Nat} (d_reduced : Dn K mg "reduced" fR fdR ["n", "d"]) (G_reduced : FnOk P w K mg base CX0 k fR fdR ["n", "d"] spRed)
include d_reduced G_reduced
theorem ok_add (F : Fun K "added" "added" sAdd f fd) : FnOk P w K mg base CX0 (k + 1) f fd ["one", "other"] (spFr fun n d m e => n * e + m * d) := by
  have sc := scAdd
  refine F.ok sc (fun vs H Q E h => ?_) (fun cdv A outer s H vs Q E hr h => ?_)
  · obtain ⟨n, d, m, e, ⟨⟨a, b, rfl, _⟩, _⟩, _⟩ := h
    rfl
  · obtain ⟨n, d, m, e, ⟨⟨a, b, rfl, hA, hB⟩, hn, hd, hm, he⟩, nd, ne, q⟩ := h
    refine ⟨_, (pss_one (ps_ret (pe_call G_reduced hr (by rfl) d_reduced.m d_reduced.k d_reduced.b .nil pass0 (pa_cons (pe_op op_add (pe_op op_mulW (pe_ix ix_tup (pv 0) pe_int (fun _ _ => rfl)) (pe_ix ix_tup (pv 1) pe_int (fun _ _ => rfl))) (pe_op op_mulW (pe_ix ix_tup (pv 1) pe_int (fun _ _ => rfl)) (pe_ix ix_tup (pv 0) pe_int (fun _ _ => rfl)))) (pa_cons (pe_op op_mulW (pe_ix ix_tup (pv 0) pe_int (fun _ _ => rfl)) (pe_ix ix_tup (pv 1) pe_int (fun _ _ => rfl))) pa_nil))))), ?_⟩
    have tA : SqT K H a [.int n, .int d] := .inl (.inl hA)
    have tB : SqT K H b [.int m, .int e] := .inl (.inl hB)
    exact ⟨_, rfl, a, _, 0, _, rfl, rfl, tA, rfl, _, rfl, b, _, 1, _, rfl, rfl, tB, rfl, n, e, rfl, rfl, mulw hn he, _, rfl, b, _, 0, _, rfl, rfl, tB, rfl, _, rfl, a, _, 1, _, rfl, rfl, tA, rfl, m, d, rfl, rfl, mulw hm hd, _, _, rfl, rfl,
      _, rfl, a, _, 1, _, rfl, rfl, tA, rfl, _, rfl, b, _, 1, _, rfl, rfl, tB, rfl, d, e, rfl, rfl, mulw hd he, _, _, rfl, mul_ne nd ne, mul8 hd he, q⟩
theorem ok_les (F : Fun K "lessened" "lessened" sLes f fd) : FnOk P w K mg base CX0 (k + 1) f fd ["one", "other"] (spFr fun n d m e => n * e - m * d) := by
  have sc := scLes
  refine F.ok sc (fun vs H Q E h => ?_) (fun cdv A outer s H vs Q E hr h => ?_)
  · obtain ⟨n, d, m, e, ⟨⟨a, b, rfl, _⟩, _⟩, _⟩ := h
    rfl
  · obtain ⟨n, d, m, e, ⟨⟨a, b, rfl, hA, hB⟩, hn, hd, hm, he⟩, nd, ne, q⟩ := h
    refine ⟨_, (pss_one (ps_ret (pe_call G_reduced hr (by rfl) d_reduced.m d_reduced.k d_reduced.b .nil pass0 (pa_cons (pe_op op_sub (pe_op op_mulW (pe_ix ix_tup (pv 0) pe_int (fun _ _ => rfl)) (pe_ix ix_tup (pv 1) pe_int (fun _ _ => rfl))) (pe_op op_mulW (pe_ix ix_tup (pv 1) pe_int (fun _ _ => rfl)) (pe_ix ix_tup (pv 0) pe_int (fun _ _ => rfl)))) (pa_cons (pe_op op_mulW (pe_ix ix_tup (pv 0) pe_int (fun _ _ => rfl)) (pe_ix ix_tup (pv 1) pe_int (fun _ _ => rfl))) pa_nil))))), ?_⟩
    have tA : SqT K H a [.int n, .int d] := .inl (.inl hA)
    have tB : SqT K H b [.int m, .int e] := .inl (.inl hB)
    exact ⟨_, rfl, a, _, 0, _, rfl, rfl, tA, rfl, _, rfl, b, _, 1, _, rfl, rfl, tB, rfl, n, e, rfl, rfl, mulw hn he, _, rfl, b, _, 0, _, rfl, rfl, tB, rfl, _, rfl, a, _, 1, _, rfl, rfl, tA, rfl, m, d, rfl, rfl, mulw hm hd, _, _, rfl, rfl,
      _, rfl, a, _, 1, _, rfl, rfl, tA, rfl, _, rfl, b, _, 1, _, rfl, rfl, tB, rfl, d, e, rfl, rfl, mulw hd he, _, _, rfl, mul_ne nd ne, mul8 hd he, q⟩
theorem ok_tim (F : Fun K "times" "times" sTim f fd) : FnOk P w K mg base CX0 (k + 1) f fd ["one", "other"] (spFr fun n _ m _ => n * m) := by
  have sc := scTim
  refine F.ok sc (fun vs H Q E h => ?_) (fun cdv A outer s H vs Q E hr h => ?_)
  · obtain ⟨n, d, m, e, ⟨⟨a, b, rfl, _⟩, _⟩, _⟩ := h
    rfl
  · obtain ⟨n, d, m, e, ⟨⟨a, b, rfl, hA, hB⟩, hn, hd, hm, he⟩, nd, ne, q⟩ := h
    refine ⟨_, (pss_one (ps_ret (pe_call G_reduced hr (by rfl) d_reduced.m d_reduced.k d_reduced.b .nil pass0 (pa_cons (pe_op op_mulW (pe_ix ix_tup (pv 0) pe_int (fun _ _ => rfl)) (pe_ix ix_tup (pv 1) pe_int (fun _ _ => rfl))) (pa_cons (pe_op op_mulW (pe_ix ix_tup (pv 0) pe_int (fun _ _ => rfl)) (pe_ix ix_tup (pv 1) pe_int (fun _ _ => rfl))) pa_nil))))), ?_⟩
    have tA : SqT K H a [.int n, .int d] := .inl (.inl hA)
    have tB : SqT K H b [.int m, .int e] := .inl (.inl hB)
    exact ⟨_, rfl, a, _, 0, _, rfl, rfl, tA, rfl, _, rfl, b, _, 0, _, rfl, rfl, tB, rfl, n, m, rfl, rfl, mulw hn hm,
      _, rfl, a, _, 1, _, rfl, rfl, tA, rfl, _, rfl, b, _, 1, _, rfl, rfl, tB, rfl, d, e, rfl, rfl, mulw hd he, _, _, rfl, mul_ne nd ne, mul8 hd he, q⟩
omit d_reduced G_reduced
theorem ok_cmp (F : Fun K "compared" "compared" sCmp f fd) : FnOk P w K mg base CX0 (k + 1) f fd ["one", "other"] spCmp := by
  have sc := scCmp
  refine F.ok sc (fun vs H Q E h => ?_) (fun cdv A outer s H vs Q E hr h => ?_)
  · obtain ⟨n, d, m, e, ⟨⟨a, b, rfl, _⟩, _⟩, _⟩ := h
    rfl
  · obtain ⟨n, d, m, e, ⟨⟨a, b, rfl, hA, hB⟩, hn, hd, hm, he⟩, q⟩ := h
    refine ⟨_, (pss_cons (ps_set (i := 2) sc.nd rfl (Or.inl rfl) (pe_op op_mulW (pe_ix ix_tup (pv 0) pe_int (fun _ _ => rfl)) (pe_ix ix_tup (pv 1) pe_int (fun _ _ => rfl))))
        (pss_cons (ps_set (i := 3) sc.nd rfl (Or.inl rfl) (pe_op op_mulW (pe_ix ix_tup (pv 1) pe_int (fun _ _ => rfl)) (pe_ix ix_tup (pv 0) pe_int (fun _ _ => rfl))))
        (pss_cons (ps_if (pt_cmpR op_lt (pv 2) (pv 3) (nomark _)) (pss_one (ps_ret (pe_un un_neg pe_int))) pss_nil)
        (pss_cons (ps_if (pt_cmpR op_gt (pv 2) (pv 3) (nomark _)) (pss_one (ps_ret pe_int)) pss_nil)
        (pss_one (ps_ret pe_int)))))), ?_⟩
    have tA : SqT K H a [.int n, .int d] := .inl (.inl hA)
    have tB : SqT K H b [.int m, .int e] := .inl (.inl hB)
    refine ⟨_, rfl, a, _, 0, _, rfl, rfl, tA, rfl, _, rfl, b, _, 1, _, rfl, rfl, tB, rfl, n, e, rfl, rfl, mulw hn he, ?_⟩
    refine ⟨_, rfl, b, _, 0, _, rfl, rfl, tB, rfl, _, rfl, a, _, 1, _, rfl, rfl, tA, rfl, m, d, rfl, rfl, mulw hm hd, ?_⟩
    refine ⟨_, rfl, _, rfl, _, _, rfl, rfl, _, rfl, ite2 (fun c => ?_) (fun c => ?_)⟩
    · have c := of_decide_eq_true c
      refine ⟨1, rfl, ?_⟩
      unfold cmp2 at q
      rw [if_pos c] at q
      exact q
    · have c : ¬ n * e < m * d := fun z => c (decide_eq_true z)
      refine ⟨_, rfl, _, rfl, _, _, rfl, rfl, _, rfl, ite2 (fun c2 => ?_) (fun c2 => ?_)⟩
      · have c2 := of_decide_eq_true c2
        unfold cmp2 at q
        rw [if_neg c, if_pos c2] at q
        exact q
      · have c2 : ¬ m * d < n * e := fun z => c2 (decide_eq_true z)
        unfold cmp2 at q
        rw [if_neg c, if_neg c2] at q
        exact q
end
end K00

set_option Elab.async false
set_option linter.all false
set_option maxRecDepth 100000
namespace K00
open PySem PySem.Spec PyProof.Rows L2 Vg
theorem str_assoc (a b c : Str) : (a ++ b) ++ c = a ++ (b ++ c) := by
  obtain ⟨a⟩ := a
  obtain ⟨b⟩ := b
  obtain ⟨c⟩ := c
  show Str.mk ((a ++ b) ++ c) = Str.mk (a ++ (b ++ c))
  rw [Array.append_assoc]
theorem str_nil (a : Str) : a ++ Str.empty = a := by
  obtain ⟨a⟩ := a
  show Str.mk (a ++ #[]) = Str.mk a
  rw [Array.append_empty]
theorem nil_str (a : Str) : Str.empty ++ a = a := by
  obtain ⟨a⟩ := a
  show Str.mk (#[] ++ a) = Str.mk a
  rw [Array.empty_append]
theorem str_len (a b : Str) : (a ++ b).length = a.length + b.length := by
  obtain ⟨a⟩ := a
  obtain ⟨b⟩ := b
  show (a ++ b).size = a.size + b.size
  rw [Array.size_append]
def numT (n : Int) : Str := Str.ofString (toString n)
def frText (n d : Int) : Str := numT n ++ (if d = 1 then Str.empty else ("/" : Str) ++ numT d)
theorem num_len {n : Int} (h : n.natAbs < 2 ^ 300) : (numT n).length ≤ 1921 := int_text_len_1921 (Nat.lt_of_lt_of_le (PySem.Flt.log2_lt_of (by decide) h) (by decide))
theorem log19 {n : Int} (h : n.natAbs < 2 ^ 300) : n.natAbs.log2 < 1920 := Nat.lt_of_lt_of_le (PySem.Flt.log2_lt_of (by decide) h) (by decide)
theorem big_line : 10000 ≤ sizeLine := by decide
section
variable {P : Program} {w : World} {K : PySem.W.Frag} {mg : Str → Option Value} {base : Heap}
abbrev sTxt : Stmt := topS 7
theorem scTxt : FnScope ["fraction", "n", "d"] ["fraction"] (defScope sTxt) := ⟨rfl, rfl, rfl, by decide +kernel, rfl, by decide +kernel, by decide +kernel⟩
def spTxt : Sp := fun vs H Q _ => ∃ (a : Addr) (n d : Int), vs = [.ref a] ∧ H a = some (.tup [.int n, .int d]) ∧ n.natAbs < 2 ^ 300 ∧ d.natAbs < 2 ^ 300 ∧ Q (.str (frText n d)) H
theorem ok_txt {f : Addr} {fd : FuncData} {k : Nat} (F : Fun K "fraction_text" "fraction_text" sTxt f fd) (z_str : mg "str" = none) : FnOk P w K mg base CX0 (k + 1) f fd ["fraction"] spTxt := by
  have sc := scTxt
  refine F.ok sc (fun vs H Q E h => ?_) (fun cdv A outer s H vs Q E hr h => ?_)
  · obtain ⟨a, n, d, rfl, _⟩ := h
    rfl
  · obtain ⟨a, n, d, rfl, hA, hn, hd, q⟩ := h
    refine ⟨_, (pss_cons (ps_asg (pv 0) (pg_tup rfl (pgs_cons (pg_name (i := 1) sc.nd rfl (Or.inl rfl)) (pgs_cons (pg_name (i := 2) sc.nd rfl (Or.inl rfl)) pgs_nil))))
        (pss_cons (ps_if (pt_cmpR op_eq (pv 2) pe_int (nomark _)) (pss_one (ps_ret (pe_callTy call_str_int (by rfl) z_str (by decide +kernel) (pa_cons (pv 1) pa_nil)))) pss_nil)
        (pss_one (ps_ret (pe_joined (.cons (pe_fmt (pv 1)) (.cons pe_str (.cons (pe_fmt (pv 2)) .nil)))))))), ?_⟩
    refine ⟨_, rfl, a, _, rfl, .inl (.inl hA), rfl, _, _, rfl, _, _, rfl, rfl, ?_⟩
    have ln := num_len hn
    have ld := num_len hd
    have hb := big_line
    refine ⟨_, rfl, rfl, _, rfl, ite2 (fun e => ?_) (fun e => ?_)⟩
    · have e : d = 1 := V.int.inj (of_decide_eq_true e)
      refine ⟨_, rfl, n, rfl, log19 hn, ?_⟩
      have e2 : frText n d = numT n := by
        unfold frText
        rw [if_pos e, str_nil]
      rw [e2] at q
      exact q
    · have e : ¬ d = 1 := fun z => e (decide_eq_true (by rw [z]))
      refine ⟨_, rfl, .inr ⟨n, rfl, log19 hn, _, rfl, ?_, ?_⟩⟩
      · rw [nil_str]
        show (numT n).length ≤ sizeLine
        omega
      · refine ⟨_, rfl, ?_, _, rfl, .inr ⟨d, rfl, log19 hd, _, rfl, ?_, ?_⟩⟩
        · rw [nil_str, str_len]
          show (numT n).length + 1 ≤ sizeLine
          omega
        · rw [nil_str, str_len, str_len]
          show (numT n).length + 1 + (numT d).length ≤ sizeLine
          omega
        · have e2 : frText n d = ((Str.empty ++ numT n) ++ ("/" : Str)) ++ numT d := by
            unfold frText
            rw [if_neg e, nil_str, str_assoc]
          rw [e2] at q
          exact q
/-! ### the bag -/
/-- at b: the bag, its numbers at l -/
def Bag (l : Addr) (H : Hp) (b : Addr) : Prop := ∃ (c st at_ : Int) (ns : List Int), H b = some (.lst [.int c, .int st, .int at_, .ref l]) ∧ l ≠ b ∧ H l = some (.lst (ns.map V.int)) ∧ 0 ≤ c ∧ 0 ≤ st ∧ 0 ≤ at_ ∧ ns.length ≤ 63 ∧ ∀ n ∈ ns, 0 ≤ n
/-- all but what stands at b is as it was -/
def Kept (b : Addr) (H H' : Hp) : Prop := ∀ x o, x ≠ b → H x = some o → H' x = some o
theorem Kept.refl {b : Addr} {H : Hp} : Kept b H H := fun _ _ _ h => h
theorem Kept.trans {b : Addr} {H H1 H2 : Hp} (a : Kept b H H1) (c : Kept b H1 H2) : Kept b H H2 := fun x o n h => c x o n (a x o n h)
theorem Kept.of {b : Addr} {H H1 : Hp} (a : Same H H1) : Kept b H H1 := fun x o _ h => a x o h
theorem kept_new {b p : Addr} {o : HO} {H H1 : Hp} (a : Kept b H H1) (h : H1 p = none) : Kept b H (upd H1 p o) := a.trans (Kept.of (same_new h))
theorem kept_at {b : Addr} {o : HO} {H H1 : Hp} (a : Kept b H H1) : Kept b H (upd H1 b o) := fun x u n h => by
  rw [upd_ne n]
  exact a x u n h
theorem Bag.same {H H' : Hp} {b l : Addr} (e : Same H H') (h : Bag l H b) : Bag l H' b := by
  obtain ⟨c, st, at_, ns, h1, h2, h3, h4⟩ := h
  exact ⟨c, st, at_, ns, e _ _ h1, h2, e _ _ h3, h4⟩
abbrev sBag : Stmt := topS 19
theorem scBag : FnScope ["script", "cell"] ["script"] (defScope sBag) := ⟨rfl, rfl, rfl, by decide +kernel, rfl, by decide +kernel, by decide +kernel⟩
def spBag (K : PySem.W.Frag) : Sp := fun vs H Q _ => ∃ (a : Addr) (ns : List Int), vs = [.ref a] ∧ SqL K H a (ns.map V.int) ∧ ns.length ≤ 63 ∧ ∀ H' b l, Same H H' → H b = none → H l = none → Bag l H' b → Q (.ref b) H'
def cutI (ns : List Int) (lo hi : Option Int) : List Int := (ns.drop (HT.sIx ns.length 0 lo)).take (HT.sIx ns.length ns.length hi - HT.sIx ns.length 0 lo)
theorem map_cut (ns : List Int) (a b : Option Int) : cutV (ns.map V.int) a b = (cutI ns a b).map V.int := by
  unfold cutV cutI
  simp [List.map_take, List.map_drop]
theorem cutI_len (ns : List Int) (a b : Option Int) : (cutI ns a b).length ≤ ns.length := by
  have := cutV_length (ns.map V.int) a b
  rw [map_cut, List.length_map, List.length_map] at this
  exact this
theorem cutI_mem {ns : List Int} {a b : Option Int} {n : Int} (h : n ∈ cutI ns a b) : n ∈ ns := List.mem_of_mem_drop (List.mem_of_mem_take h)
def absI (i : Int) : Int := if i < 0 then -i else i
theorem absI_nn (i : Int) : 0 ≤ absI i := by
  unfold absI
  split <;> omega
theorem take_snoc {α : Type} {xs : List α} {i : Nat} {x : α} (h : xs[i]? = some x) : xs.take (i + 1) = xs.take i ++ [x] := by
  rw [List.take_add_one, h]
  rfl
theorem ok_bag {f : Addr} {fd : FuncData} {k : Nat} (F : Fun K "_law_bag" "_law_bag" sBag f fd) (z_abs : mg "abs" = none) : FnOk P w K mg base CX0 (k + 1) f fd ["script"] (spBag K) := by
  have sc := scBag
  refine F.ok sc (fun vs H Q E h => ?_) (fun cdv A outer s H vs Q E hr h => ?_)
  · obtain ⟨a, ns, rfl, _⟩ := h
    rfl
  · obtain ⟨a, ns, rfl, hS, hl, q⟩ := h
    refine ⟨_, (pss_one (ps_ret (pe_lstS (pa_cons pe_int (pa_cons pe_int (pa_cons pe_int (pa_cons (pe_lc (own := [("cell", 1)]) (g := gName 1) (tt := tYes) (by rfl) sc.nd (pi_list (pe_slice sl_list (pv 0) po_none (po_some pe_int))) (blkOk_by (N := ["script", "cell"]) (sc := defScope sBag) (by decide +kernel)) (fun _ _ _ _ _ => pg_name (i := 1) sc.nd rfl (Or.inl rfl)) (fun _ _ _ _ _ => pts_nil) (fun _ _ _ _ _ => (pe_callB call_abs (by rfl) z_abs (by decide +kernel) (pa_cons (pv 1) pa_nil)))) pa_nil))))))), ?_⟩
    refine ⟨_, rfl, _, rfl, a, _, rfl, hS, fun p hp => ?_⟩
    let ms := cutI ns none (some 63)
    rw [map_cut]
    refine ⟨p, rfl, ⟨_, .inl (.inl upd_same)⟩, fun D hD => ?_⟩
    have hlen : ms.length ≤ 63 := Nat.le_trans (cutI_len _ _ _) hl
    have hDp : D ≠ p := fun z => by
      rw [z, upd_same] at hD
      cases hD
    let H1 : Hp := upd H p (.lst (ms.map V.int))
    have hb := big_line
    refine lc_list (K := K) (a := p) (xs := ms.map V.int) (fun i H' => H' = upd H1 D (.lst (((ms.map absI).take i).map V.int))) rfl ?_ ?_ ?_
    · rintro i H' _ rfl
      refine .inl (.inl ?_)
      rw [upd_ne hDp.symm]
      exact upd_same
    · rintro i x H' hx rfl
      rw [List.getElem?_map] at hx
      cases hm : ms[i]? with
      | none =>
        rw [hm] at hx
        cases hx
      | some m =>
        rw [hm] at hx
        cases hx
        have hi : i < ms.length := (List.getElem?_eq_some_iff.mp hm).1
        refine ⟨rfl, ?_⟩
        refine ⟨_, rfl, m, rfl, _, upd_same, ?_, ?_⟩
        · rw [List.length_map, List.length_take, List.length_map]
          omega
        · rw [upd_upd]
          have e : (ms.map absI)[i]? = some (absI m) := by
            rw [List.getElem?_map, hm]
            rfl
          rw [take_snoc e, List.map_append]
          rfl
    · rintro H' rfl
      have e : (ms.map absI).take (ms.map V.int).length = ms.map absI := List.take_of_length_le (by rw [List.length_map, List.length_map]; exact Nat.le_refl _)
      rw [e]
      refine ⟨(by show 4 ≤ sizeLine; decide), fun b hb1 hs => ?_⟩
      have s1 : Same H H1 := same_new hp
      have s2 : Same H1 (upd H1 D (.lst ((ms.map absI).map V.int))) := same_new hD
      refine q _ b D ((s1.trans s2).trans (same_new hb1)) ((s1.trans s2).free hb1) (s1.free hD) ?_
      have hDb : D ≠ b := fun z => by
        rw [← z, upd_same] at hb1
        cases hb1
      refine ⟨0, 1234567891, 0, ms.map absI, upd_same, hDb, ?_, by decide, by decide, by decide, by rw [List.length_map]; exact hlen, fun n hn => ?_⟩
      · rw [upd_ne hDb]
        exact upd_same
      · obtain ⟨m, _, rfl⟩ := List.mem_map.mp hn
        exact absI_nn m
end
end K00

set_option Elab.async false
set_option linter.all false
set_option maxRecDepth 100000
namespace K00
open PySem PySem.Spec PyProof.Rows L2 Vg
section
variable {P : Program} {w : World} {K : PySem.W.Frag} {mg : Str → Option Value} {base : Heap}
abbrev sTak : Stmt := topS 20
abbrev nTak : List Str := ["bag", "many", "cell", "stirred", "value", "begin", "second"]
theorem scTak : FnScope nTak ["bag", "many"] (defScope sTak) := ⟨rfl, rfl, rfl, by decide +kernel, rfl, by decide +kernel, by decide +kernel⟩
def spTak : Sp := fun vs H Q _ => ∃ (b l : Addr) (m : Int), vs = [.ref b, .int m] ∧ Bag l H b ∧ 0 < m ∧ m < 1073741824 ∧ ∀ v H', 0 ≤ v → v < m → Kept b H H' → Bag l H' b → Q (.int v) H'
/-- the bag behind a store to one of its first places -/
theorem bag_set {H : Hp} {b l : Addr} {c st at_ : Int} {ns : List Int} (hl : l ≠ b) (h : H l = some (.lst (ns.map V.int))) (h1 : 0 ≤ c) (h2 : 0 ≤ st) (h3 : 0 ≤ at_) (h4 : ns.length ≤ 63) (h5 : ∀ n ∈ ns, 0 ≤ n) :
    Bag l (upd H b (.lst [.int c, .int st, .int at_, .ref l])) b := ⟨c, st, at_, ns, upd_same, hl, by rw [upd_ne hl]; exact h, h1, h2, h3, h4, h5⟩
theorem ok_tak {f : Addr} {fd : FuncData} {k : Nat} (F : Fun K "_law_take" "_law_take" sTak f fd) (z_int : mg "int" = none) : FnOk P w K mg base CX0 (k + 1) f fd ["bag", "many"] spTak := by
  have sc := scTak
  refine F.ok sc (fun vs H Q E h => ?_) (fun cdv A outer s H vs Q E hr h => ?_)
  · obtain ⟨b, l, m, rfl, _⟩ := h
    rfl
  · obtain ⟨b, l, m, rfl, hB, hm, hm2, q⟩ := h
    refine ⟨_, (C8.pss_cut (ps_if (pt_cmpR op_eq (pe_ix ix_list (pv 0) pe_int (fun _ _ => rfl)) pe_int (nomark _)) (pss_cons (ps_set (i := 2) sc.nd rfl (Or.inl rfl) (pe_ix ix_list (pe_op op_cat (pe_slice sl_list (pe_ix ix_list (pv 0) pe_int (fun _ _ => rfl)) (po_some (pe_ix ix_list (pv 0) pe_int (fun _ _ => rfl))) po_none) (pe_lstS (pa_cons pe_int pa_nil))) pe_int (fun _ _ => rfl)))
        (pss_cons (ps_augS (pv 0) pe_int get_list pe_int ip_add set_list)
        (C8.pss_cut (ps_if (pt_cmpR op_ge (pv 2) (pe_op op_pow pe_int pe_int) (nomark _)) (pss_one (ps_asg (pv 2) (pg_sub (pv 0) pe_int set_list))) pss_nil)
        (pss_cons (ps_set (i := 3) sc.nd rfl (Or.inl rfl) (pe_op op_add (pe_op op_add (pe_op op_mul (pe_ix ix_list (pv 0) pe_int (fun _ _ => rfl)) pe_int) (pe_op op_mod (pe_callTy call_int1 (by rfl) z_int (by decide +kernel) (pa_cons (pv 2) pa_nil)) pe_int)) (pe_op op_mul pe_int (pe_ix ix_list (pv 0) pe_int (fun _ _ => rfl)))))
        (pss_one (ps_asg (pe_op op_mod (pe_callTy call_int1 (by rfl) z_int (by decide +kernel) (pa_cons (pv 3) pa_nil)) pe_int) (pg_sub (pv 0) pe_int set_list))))))) pss_nil)
        (pss_cons (ps_if (pt_cmpR op_gt (pe_ix ix_list (pv 0) pe_int (fun _ _ => rfl)) pe_int (nomark _)) (pss_cons (ps_set (i := 4) sc.nd rfl (Or.inl rfl) (pe_op op_mod (pe_callTy call_int1 (by rfl) z_int (by decide +kernel) (pa_cons (pe_ix ix_list (pv 0) pe_int (fun _ _ => rfl)) pa_nil)) (pv 1)))
        (pss_cons (ps_asg (pe_op op_fdiv (pe_callTy call_int1 (by rfl) z_int (by decide +kernel) (pa_cons (pe_ix ix_list (pv 0) pe_int (fun _ _ => rfl)) pa_nil)) (pv 1)) (pg_sub (pv 0) pe_int set_list))
        (pss_one (ps_ret (pv 4))))) pss_nil)
        (pss_cons (ps_set (i := 5) sc.nd rfl (Or.inl rfl) (pe_op op_mod (pe_callTy call_int1 (by rfl) z_int (by decide +kernel) (pa_cons (pe_op op_mul (pe_op op_add (pe_ix ix_list (pv 0) pe_int (fun _ _ => rfl)) pe_int) pe_int) pa_nil)) pe_int))
        (pss_cons (ps_set (i := 6) sc.nd rfl (Or.inl rfl) (pe_op op_mod (pe_callTy call_int1 (by rfl) z_int (by decide +kernel) (pa_cons (pe_op op_mul (pe_op op_mod (pe_callTy call_int1 (by rfl) z_int (by decide +kernel) (pa_cons (pe_op op_mul (pv 5) (pv 5)) pa_nil)) pe_int) pe_int) pa_nil)) pe_int))
        (pss_one (ps_ret (pe_op op_mod (pe_callTy call_int1 (by rfl) z_int (by decide +kernel) (pa_cons (pe_op op_fdiv (pv 6) pe_int) pa_nil)) (pv 1)))))))), ?_⟩
    refine ⟨fun σ' H' => ∃ y2 y3, σ' = [some (.ref b), some (.int m), y2, y3, none, none, none] ∧ Kept b H H' ∧ Bag l H' b, ?_, ?_⟩
    · obtain ⟨c, st, at_, ns, hb, hlb, hl, h0, h1, h2, h3, h4⟩ := id hB
      refine ⟨_, rfl, b, _, 0, .int c, rfl, rfl, .inl (.inl hb), rfl, rfl, _, rfl, ite2 (fun e => ?_) (fun e => ?_)⟩
      · -- cell = (bag[3][bag[2]:] + [0])[0]
        refine ⟨_, rfl, b, _, 3, .ref l, rfl, rfl, .inl (.inl hb), rfl, _, rfl, b, _, 2, .int at_, rfl, rfl, .inl (.inl hb), rfl, at_, rfl, l, _, rfl, .inl (.inl hl), fun p1 n1 => ?_⟩
        rw [map_cut]
        refine ⟨(by show 1 ≤ sizeLine; decide), fun p2 n2 _ => ?_⟩
        have n12 : p1 ≠ p2 := fun z => by
          rw [← z, upd_same] at n2
          cases n2
        refine ⟨p1, p2, (cutI ns (some at_) none).map V.int, _, rfl, rfl, by rw [upd_ne n12]; exact upd_same, upd_same, ?_, fun p3 n3 => ?_⟩
        · have := cutI_len ns (some at_) none
          have := big_line
          rw [List.length_map]
          show _ + 1 ≤ sizeLine
          omega
        obtain ⟨cell, hc1, hc2⟩ : ∃ cell : Int, (((cutI ns (some at_) none).map V.int) ++ [V.int 0])[0]? = some (.int cell) ∧ 0 ≤ cell := by
          cases hh : cutI ns (some at_) none with
          | nil => exact ⟨0, rfl, Int.le_refl _⟩
          | cons x r => exact ⟨x, rfl, h4 x (cutI_mem (by rw [hh]; exact List.mem_cons_self))⟩
        refine ⟨p3, _, 0, .int cell, rfl, rfl, .inl (.inl upd_same), atI_nat (j := 0) hc1, ?_⟩
        have k3 : Same H (upd (upd (upd H p1 (.lst ((cutI ns (some at_) none).map V.int))) p2 (.lst [.int 0])) p3 (.lst (((cutI ns (some at_) none).map V.int) ++ [.int 0]))) := ((same_new n1).trans (same_new n2)).trans (same_new n3)
        generalize (upd (upd (upd H p1 (.lst ((cutI ns (some at_) none).map V.int))) p2 (.lst [.int 0])) p3 (.lst (((cutI ns (some at_) none).map V.int) ++ [.int 0]))) = H3 at k3 ⊢
        have hb3 := k3 _ _ hb
        have hl3 := k3 _ _ hl
        -- bag[2] += 1
        refine ⟨_, rfl, b, _, 2, .int at_, rfl, rfl, .inl (.inl hb3), rfl, at_, 1, rfl, rfl, b, _, 2, 2, rfl, rfl, hb3, rfl, ?_⟩
        refine ⟨fun σ' H' => ∃ cell', σ' = [some (.ref b), some (.int m), some (.int cell'), none, none, none, none] ∧ 0 ≤ cell' ∧ Kept b H H' ∧ Bag l H' b, ?_, ?_⟩
        · refine ⟨_, rfl, 10, 18, rfl, rfl, ⟨by decide, by decide, by decide⟩, cell, _, rfl, rfl, _, rfl, ite2 (fun _ => ?_) (fun _ => ?_)⟩
          · refine ⟨_, rfl, _, rfl, b, _, 0, 0, rfl, rfl, upd_same, rfl, cell, rfl, hc2, ?_, ?_⟩
            · rw [upd_upd]
              exact kept_at (Kept.of k3)
            · rw [upd_upd]
              exact bag_set hlb hl3 hc2 h1 (show (0 : Int) ≤ at_ + 1 by omega) h3 h4
          · exact ⟨cell, rfl, hc2, kept_at (Kept.of k3), bag_set hlb hl3 h0 h1 (show (0 : Int) ≤ at_ + 1 by omega) h3 h4⟩
        · rintro σ' H' ⟨cell', rfl, hc', kp, hB'⟩
          obtain ⟨c', st', at', ns', hb', hlb', hl', h0', h1', h2', h3', h4'⟩ := hB'
          have sb : SqL K H' b [.int c', .int st', .int at', .ref l] := .inl (.inl hb')
          refine ⟨_, rfl, b, _, 1, .int st', rfl, rfl, sb, rfl, st', 48271, rfl, rfl, .inr ⟨by decide, by decide⟩, _, rfl, .inl ⟨cell', rfl, cell', 2147483647, rfl, rfl, (by show (0 : Int) < 2147483647; decide), _, _, rfl, rfl,
            _, rfl, b, _, 2, .int at', rfl, rfl, sb, rfl, 7919, at', rfl, rfl, .inl ⟨by decide, by decide⟩, _, _, rfl, rfl, ?_⟩⟩
          refine ⟨_, rfl, .inl ⟨_, rfl, _, 2147483647, rfl, rfl, (by show (0 : Int) < 2147483647; decide), _, rfl, b, _, 1, 1, rfl, rfl, hb', rfl, ?_⟩⟩
          exact ⟨_, _, rfl, kept_at kp, bag_set hlb' hl' h0' (Int.emod_nonneg _ (by decide)) h2' h3' h4'⟩
      · exact ⟨none, none, rfl, Kept.refl, hB⟩
    · rintro σ' H' ⟨y2, y3, rfl, kp, hB'⟩
      obtain ⟨c', st', at', ns', hb', hlb', hl', h0', h1', h2', h3', h4'⟩ := id hB'
      have sb : SqL K H' b [.int c', .int st', .int at', .ref l] := .inl (.inl hb')
      have hmd : CDiv c' m := ⟨hm, hm2⟩
      refine ⟨_, rfl, b, _, 0, .int c', rfl, rfl, sb, rfl, _, _, rfl, rfl, _, rfl, ite2 (fun e => ?_) (fun e => ?_)⟩
      · refine ⟨_, rfl, b, _, 0, .int c', rfl, rfl, sb, rfl, .inl ⟨c', rfl, _, rfl, c', m, rfl, rfl, hm, ?_⟩⟩
        refine ⟨_, rfl, b, _, 0, .int c', rfl, rfl, sb, rfl, .inl ⟨c', rfl, _, rfl, c', m, rfl, rfl, hmd, _, rfl, b, _, 0, 0, rfl, rfl, hb', rfl, ?_⟩⟩
        exact ⟨_, rfl, q _ _ (Int.emod_nonneg _ (by omega)) (Int.emod_lt_of_pos _ hm) (kept_at kp) (bag_set hlb' hl' (Int.ediv_nonneg h0' (by omega)) h1' h2' h3' h4')⟩
      · refine ⟨_, rfl, b, _, 1, .int st', rfl, rfl, sb, rfl, st', 1, rfl, rfl, _, 39373, rfl, rfl, .inr ⟨by decide, by decide⟩, .inl ⟨_, rfl, _, 1000000007, rfl, rfl, (by show (0 : Int) < 1000000007; decide), ?_⟩⟩
        have b1 := Int.emod_nonneg ((st' + 1) * 39373) (show (1000000007 : Int) ≠ 0 by decide)
        have b2 := Int.emod_lt_of_pos ((st' + 1) * 39373) (show (0 : Int) < 1000000007 by decide)
        refine ⟨_, rfl, _, rfl, _, _, rfl, rfl, .inl ⟨Int.lt_of_lt_of_le (by decide) b1, Int.lt_trans b2 (by decide)⟩, .inl ⟨_, rfl, _, 998244353, rfl, rfl, (by show (0 : Int) < 998244353; decide), _, 30011, rfl, rfl, .inr ⟨by decide, by decide⟩, .inl ⟨_, rfl, _, 998244353, rfl, rfl, (by show (0 : Int) < 998244353; decide), ?_⟩⟩⟩
        refine ⟨_, rfl, _, 7, rfl, rfl, ⟨by decide, by decide⟩, .inl ⟨_, rfl, _, rfl, _, m, rfl, rfl, hm, ?_⟩⟩
        exact q _ _ (Int.emod_nonneg _ (by omega)) (Int.emod_lt_of_pos _ hm) kp hB'
/-! ### _law_some -/
abbrev sSom : Stmt := topS 21
theorem scSom : FnScope ["bag", "things"] ["bag", "things"] (defScope sSom) := ⟨rfl, rfl, rfl, by decide +kernel, rfl, by decide +kernel, by decide +kernel⟩
def spSom : Sp := fun vs H Q _ => ∃ (b l t : Addr) (xs : List V), vs = [.ref b, .ref t] ∧ Bag l H b ∧ t ≠ b ∧ H t = some (.lst xs) ∧ 0 < xs.length ∧ xs.length ≤ 1000 ∧ ∀ v H', v ∈ xs → Kept b H H' → Bag l H' b → Q v H'
theorem ok_som {f fT : Addr} {fd fdT : FuncData} {k : Nat} (F : Fun K "_law_some" "_law_some" sSom f fd) (d_law_take : Dn K mg "_law_take" fT fdT ["bag", "many"]) (G_law_take : FnOk P w K mg base CX0 k fT fdT ["bag", "many"] spTak) (z_len : mg "len" = none) :
    FnOk P w K mg base CX0 (k + 1) f fd ["bag", "things"] spSom := by
  have sc := scSom
  refine F.ok sc (fun vs H Q E h => ?_) (fun cdv A outer s H vs Q E hr h => ?_)
  · obtain ⟨b, l, t, xs, rfl, _⟩ := h
    rfl
  · obtain ⟨b, l, t, xs, rfl, hB, tb, ht, h0, h1, q⟩ := h
    refine ⟨_, (pss_one (ps_ret (pe_ix ix_list (pv 1) (pe_call G_law_take hr (by rfl) d_law_take.m d_law_take.k d_law_take.b .nil pass0 (pa_cons (pv 0) (pa_cons (pe_callB call_len_seq (by rfl) z_len (by decide +kernel) (pa_cons (pv 1) pa_nil)) pa_nil))) (fun _ _ => rfl)))), ?_⟩
    refine ⟨_, rfl, _, rfl, _, rfl, t, xs, rfl, .inl (.inl (.inl ht)), b, l, _, rfl, hB, by omega, by omega, fun v H' v0 v1 kp hB' => ?_⟩
    have hv : v.toNat < xs.length := by omega
    have ev : v = ((v.toNat : Nat) : Int) := by omega
    refine ⟨t, xs, v, xs[v.toNat], rfl, rfl, .inl (.inl (kp _ _ tb ht)), ?_, q _ _ (List.getElem_mem hv) kp hB'⟩
    exact (congrArg (atI xs) ev).trans (atI_nat (List.getElem?_eq_getElem hv))
end
end K00

set_option Elab.async false
set_option linter.all false
set_option maxRecDepth 100000
namespace K00
open PySem PySem.Spec PyProof.Rows L2 Vg
/-! ### what is new -/
def newOf (H H' : Hp) : Hp := fun x => if H x = none then H' x else none
theorem newOf_at {H H' : Hp} {p : Addr} {o : HO} (n : H p = none) (h : H' p = some o) : newOf H H' p = some o := by
  unfold newOf
  rw [if_pos n]
  exact h
theorem newOf_up {H H1 H2 : Hp} (s : Same H1 H2) : Same (newOf H H1) (newOf H H2) := fun x o h => by
  unfold newOf at h ⊢
  by_cases n : H x = none
  · rw [if_pos n] at h ⊢
    exact s x o h
  · rw [if_neg n] at h
    cases h
theorem newOf_kept {H H1 H2 : Hp} {b : Addr} (hb : H b ≠ none) (s : Kept b H1 H2) : Same (newOf H H1) (newOf H H2) := fun x o h => by
  unfold newOf at h ⊢
  by_cases n : H x = none
  · rw [if_pos n] at h ⊢
    exact s x o (fun z => hb (z ▸ n)) h
  · rw [if_neg n] at h
    cases h
theorem newOf_of {H H' : Hp} {p : Addr} {o : HO} (h : newOf H H' p = some o) : H p = none ∧ H' p = some o := by
  unfold newOf at h
  by_cases n : H p = none
  · rw [if_pos n] at h
    exact ⟨n, h⟩
  · rw [if_neg n] at h
    cases h
theorem newOf_le {H H' : Hp} : Same (newOf H H') H' := fun _ _ h => (newOf_of h).2
theorem step_new {H0 H : Hp} {p : Addr} {o : HO} (s : Same H0 H) (n : H p = none) : ∃ H1, upd H p o = H1 ∧ Same H0 H1 ∧ Same (newOf H0 H) (newOf H0 H1) ∧ newOf H0 H1 p = some o :=
  ⟨_, rfl, s.trans (same_new n), newOf_up (same_new n), newOf_at (s.free n) upd_same⟩
theorem step_eq {H0 H H1 : Hp} {p : Addr} {o : HO} (e : upd H p o = H1) (s : Same H0 H) (n : H p = none) : Same H0 H1 ∧ Same (newOf H0 H) (newOf H0 H1) ∧ newOf H0 H1 p = some o := by
  subst e
  exact ⟨s.trans (same_new n), newOf_up (same_new n), newOf_at (s.free n) upd_same⟩
/-- small data -/
structure Sm (d : PyData) : Prop where
  sh : d.showable = true
  len : d.shown.length ≤ 100
  dep : d.depth ≤ 3
def isL : PyData → Bool
  | .list _ => true
  | _ => false
/-- what _law_odd hands back: F holds all of it -/
def Odd1 (K : PySem.W.Frag) (F : Hp) (v : V) : Prop := (∃ d, Dq K F v d ∧ Sm d ∧ isL d = false) ∨ ∃ a xs, v = .ref a ∧ F a = some (.lst xs) ∧ (a == sysModules) = false ∧ (xs = [] ∨ xs = [.str "round"])
theorem Odd1.same {K : PySem.W.Frag} {F F' : Hp} {v : V} (e : Same F F') (h : Odd1 K F v) : Odd1 K F' v := by
  rcases h with ⟨d, h, r⟩ | ⟨a, xs, e1, e2, r⟩
  · exact .inl ⟨d, h.same e, r⟩
  · exact .inr ⟨a, xs, e1, e _ _ e2, r⟩
theorem tq {K : PySem.W.Frag} {F : Hp} {p : Addr} {xs : List V} {ds : List PyData} (h : F p = some (.tup xs)) (n : PyData.hasDictAll ds = false) (t : DqAll K F xs ds) : Dq K F (.ref p) (.tuple ds) := .tup (.inl (.inl h)) n t
theorem oddI {K : PySem.W.Frag} {F : Hp} {v : V} (d : PyData) (h : Dq K F v d) (s : Sm d) (l : isL d = false) : Odd1 K F v := .inl ⟨d, h, s, l⟩
section
variable {P : Program} {w : World} {K : PySem.W.Frag} {mg : Str → Option Value} {base : Heap}
abbrev sOdd : Stmt := topS 23
theorem scOdd : FnScope ["bag", "some"] ["bag"] (defScope sOdd) := ⟨rfl, rfl, rfl, by decide +kernel, rfl, by decide +kernel, by decide +kernel⟩
def spOdd (K : PySem.W.Frag) : Sp := fun vs H Q _ => ∃ b l : Addr, vs = [.ref b] ∧ Bag l H b ∧ ∀ v H', Odd1 K (newOf H H') v → Kept b H H' → Bag l H' b → Q v H'
theorem ok_odd {f fS : Addr} {fd fdS : FuncData} {k : Nat} (F : Fun K "_law_odd" "_law_odd" sOdd f fd) (d_law_some : Dn K mg "_law_some" fS fdS ["bag", "things"]) (G_law_some : FnOk P w K mg base CX0 k fS fdS ["bag", "things"] spSom) :
    FnOk P w K mg base CX0 (k + 1) f fd ["bag"] (spOdd K) := by
  have sc := scOdd
  refine F.ok sc (fun vs H Q E h => ?_) (fun cdv A outer s H vs Q E hr h => ?_)
  · obtain ⟨b, l, rfl, _⟩ := h
    rfl
  · obtain ⟨b, l, rfl, hB, q⟩ := h
    refine ⟨_, (pss_cons (ps_set (i := 1) sc.nd rfl (Or.inl rfl) (pe_lstS (pa_cons pe_non (pa_cons pe_bl (pa_cons pe_bl (pa_cons pe_int (pa_cons pe_int (pa_cons (pe_un un_neg pe_int) (pa_cons pe_int (pa_cons (pe_op op_pow pe_int pe_int) (pa_cons pe_str (pa_cons pe_str (pa_cons pe_str (pa_cons (pe_tup pa_nil) (pa_cons (pe_lstS pa_nil) (pa_cons pe_dnewK (pa_cons (pe_tup (pa_cons pe_str pa_nil)) (pa_cons (pe_tup (pa_cons pe_str (pa_cons pe_str (pa_cons pe_int pa_nil)))) pa_nil))))))))))))))))))
        (pss_one (ps_ret (pe_call G_law_some hr (by rfl) d_law_some.m d_law_some.k d_law_some.b .nil pass0 (pa_cons (pv 0) (pa_cons (pe_op op_cat (pv 1) (pe_lstS (pa_cons (pe_tup (pa_cons pe_str (pa_cons pe_int pa_nil))) (pa_cons (pe_lstS (pa_cons pe_str pa_nil)) (pa_cons (pe_disp (pps_cons pe_str pe_int pps_nil) (by rfl) (by rfl) (fun z => by cases z) (by decide)) (pa_cons pe_str (pa_cons (pe_tup (pa_cons (pe_tup (pa_cons pe_str (pa_cons pe_int pa_nil))) pa_nil)) (pa_cons (pe_tup (pa_cons pe_str (pa_cons pe_str (pa_cons pe_int pa_nil)))) (pa_cons (pe_tup (pa_cons pe_int (pa_cons (pe_tup (pa_cons pe_non pa_nil)) pa_nil))) pa_nil))))))))) pa_nil)))))), ?_⟩
    have z16 : 16 ≤ sizeLine := by decide
    have hbn : H b ≠ none := by
      obtain ⟨c, st, at_, ns, hb, _⟩ := hB
      rw [hb]
      exact fun z => by cases z
    have s0 := Same.refl H
    refine ⟨1, rfl, 10, 39, rfl, rfl, ⟨by decide, by decide, by decide⟩, Nat.zero_le _, fun p1 n1 => ?_⟩
    generalize e1 : upd H p1 _ = H1
    obtain ⟨s1, t1, w1⟩ := step_eq e1 s0 n1
    refine ⟨Nat.zero_le _, fun p2 n2 y2 => ?_⟩
    generalize e2 : upd H1 p2 _ = H2
    obtain ⟨s2, t2, w2⟩ := step_eq e2 s1 n2
    refine fun p3 n3 => ?_
    generalize e3 : upd H2 p3 _ = H3
    obtain ⟨s3, t3, w3⟩ := step_eq e3 s2 n3
    refine ⟨(by show 1 ≤ sizeLine; decide), fun p4 n4 => ?_⟩
    generalize e4 : upd H3 p4 _ = H4
    obtain ⟨s4, t4, w4⟩ := step_eq e4 s3 n4
    refine ⟨(by show 3 ≤ sizeLine; decide), fun p5 n5 => ?_⟩
    generalize e5 : upd H4 p5 _ = H5
    obtain ⟨s5, t5, w5⟩ := step_eq e5 s4 n5
    refine ⟨(by show 16 ≤ sizeLine; decide), fun p6 n6 _ => ?_⟩
    generalize e6 : upd H5 p6 _ = H6
    obtain ⟨s6, t6, w6⟩ := step_eq e6 s5 n6
    refine ⟨_, rfl, _, rfl, ?_⟩
    refine ⟨(by show 2 ≤ sizeLine; decide), fun p7 n7 => ?_⟩
    generalize e7 : upd H6 p7 _ = H7
    obtain ⟨s7, t7, w7⟩ := step_eq e7 s6 n7
    refine ⟨(by show 1 ≤ sizeLine; decide), fun p8 n8 y8 => ?_⟩
    generalize e8 : upd H7 p8 _ = H8
    obtain ⟨s8, t8, w8⟩ := step_eq e8 s7 n8
    refine fun p9 n9 => ⟨upd_same, [(Sum.inr "a", .int 1)], rfl, (by show 1 ≤ 15; decide), ?_⟩
    rw [upd_upd]
    generalize e9 : upd H8 p9 _ = H9
    obtain ⟨s9, t9, w9⟩ := step_eq e9 s8 n9
    refine ⟨(by show 2 ≤ sizeLine; decide), fun p10 n10 => ?_⟩
    generalize e10 : upd H9 p10 _ = H10
    obtain ⟨s10, t10, w10⟩ := step_eq e10 s9 n10
    refine ⟨(by show 1 ≤ sizeLine; decide), fun p11 n11 => ?_⟩
    generalize e11 : upd H10 p11 _ = H11
    obtain ⟨s11, t11, w11⟩ := step_eq e11 s10 n11
    refine ⟨(by show 3 ≤ sizeLine; decide), fun p12 n12 => ?_⟩
    generalize e12 : upd H11 p12 _ = H12
    obtain ⟨s12, t12, w12⟩ := step_eq e12 s11 n12
    refine ⟨(by show 1 ≤ sizeLine; decide), fun p13 n13 => ?_⟩
    generalize e13 : upd H12 p13 _ = H13
    obtain ⟨s13, t13, w13⟩ := step_eq e13 s12 n13
    refine ⟨(by show 2 ≤ sizeLine; decide), fun p14 n14 => ?_⟩
    generalize e14 : upd H13 p14 _ = H14
    obtain ⟨s14, t14, w14⟩ := step_eq e14 s13 n14
    refine ⟨(by show 7 ≤ sizeLine; decide), fun p15 n15 _ => ?_⟩
    generalize e15 : upd H14 p15 _ = H15
    obtain ⟨s15, t15, w15⟩ := step_eq e15 s14 n15
    -- what each of these objects is, at the end
    have u14 := t15
    have u13 := t14.trans u14
    have u12 := t13.trans u13
    have u11 := t12.trans u12
    have u10 := t11.trans u11
    have u9 := t10.trans u10
    have u8 := t9.trans u9
    have u7 := t8.trans u8
    have u6 := t7.trans u7
    have u5 := t6.trans u6
    have u4 := t5.trans u5
    have u3 := t4.trans u4
    have u2 := t3.trans u3
    have u1 := t2.trans u2
    have x6 := (newOf_of (u6 _ _ w6)).2
    have x15 := (newOf_of w15).2
    refine ⟨p6, p15, _, _, rfl, rfl, x6, x15, (by show 16 + 7 ≤ sizeLine; decide), fun p16 n16 => ?_⟩
    have hB15 : Bag l H15 b := hB.same s15
    have nb : p16 ≠ b := fun z => by
      obtain ⟨c, st, at_, ns, hb, _⟩ := hB15
      rw [z, hb] at n16
      cases n16
    generalize e16 : upd H15 p16 _ = H16
    obtain ⟨s16, t16, w16⟩ := step_eq e16 s15 n16
    refine ⟨b, l, p16, _, rfl, hB15.same (by rw [← e16]; exact same_new n16), nb, (newOf_of w16).2, (by show 0 < 16 + 7; decide), (by show 16 + 7 ≤ 1000; decide), fun v H' hv kp hB' => q v H' ?_ ((Kept.of s16).trans kp) hB'⟩
    refine Odd1.same (newOf_kept hbn kp) (Odd1.same t16 ?_)
    have all : ∀ v ∈ ([.non, .bl true, .bl false, .int 0, .int 1, .int (-1), .int 10000, .int (10 ^ 39), .str "", .str "a", .str "if", .ref p1, .ref p2, .ref p3, .ref p4, .ref p5] : List V) ++ [.ref p7, .ref p8, .ref p9, .str "a\n", .ref p11, .ref p12, .ref p14], Odd1 K (newOf H H15) v := by
      intro v hv
      simp only [List.cons_append, List.nil_append, List.mem_cons, List.not_mem_nil, or_false] at hv
      rcases hv with rfl | rfl | rfl | rfl | rfl | rfl | rfl | rfl | rfl | rfl | rfl | rfl | rfl | rfl | rfl | rfl | rfl | rfl | rfl | rfl | rfl | rfl | rfl
      · exact oddI .none .non ⟨by decide +kernel, by decide +kernel, by decide +kernel⟩ rfl
      · exact oddI _ (.bl true) ⟨by decide +kernel, by decide +kernel, by decide +kernel⟩ rfl
      · exact oddI _ (.bl false) ⟨by decide +kernel, by decide +kernel, by decide +kernel⟩ rfl
      · exact oddI _ (.int 0) ⟨by decide +kernel, by decide +kernel, by decide +kernel⟩ rfl
      · exact oddI _ (.int 1) ⟨by decide +kernel, by decide +kernel, by decide +kernel⟩ rfl
      · exact oddI _ (.int (-1)) ⟨by decide +kernel, by decide +kernel, by decide +kernel⟩ rfl
      · exact oddI _ (.int 10000) ⟨by decide +kernel, by decide +kernel, by decide +kernel⟩ rfl
      · exact oddI _ (.int (10 ^ 39)) ⟨by decide +kernel, by decide +kernel, by decide +kernel⟩ rfl
      · exact oddI _ (.str "") ⟨by decide +kernel, by decide +kernel, by decide +kernel⟩ rfl
      · exact oddI _ (.str "a") ⟨by decide +kernel, by decide +kernel, by decide +kernel⟩ rfl
      · exact oddI _ (.str "if") ⟨by decide +kernel, by decide +kernel, by decide +kernel⟩ rfl
      · exact oddI _ (tq (u1 _ _ w1) rfl .nil) ⟨by decide +kernel, by decide +kernel, by decide +kernel⟩ rfl
      · exact .inr ⟨p2, [], rfl, u2 _ _ w2, y2, .inl rfl⟩
      · exact oddI _ (.dct (ds := []) (u3 _ _ w3) List.nodup_nil .nil) ⟨by decide +kernel, by decide +kernel, by decide +kernel⟩ rfl
      · exact oddI _ (tq (u4 _ _ w4) rfl (.cons (.str _) .nil)) ⟨by decide +kernel, by decide +kernel, by decide +kernel⟩ rfl
      · exact oddI _ (tq (u5 _ _ w5) rfl (.cons (.str _) (.cons (.str _) (.cons (.int _) .nil)))) ⟨by decide +kernel, by decide +kernel, by decide +kernel⟩ rfl
      · exact oddI _ (tq (u7 _ _ w7) rfl (.cons (.str _) (.cons (.int _) .nil))) ⟨by decide +kernel, by decide +kernel, by decide +kernel⟩ rfl
      · exact .inr ⟨p8, [.str "round"], rfl, u8 _ _ w8, y8, .inr rfl⟩
      · exact oddI _ (.dct (ds := [.int 1]) (u9 _ _ w9) (by decide) (.cons (.int _) .nil)) ⟨by decide +kernel, by decide +kernel, by decide +kernel⟩ rfl
      · exact oddI _ (.str "a\n") ⟨by decide +kernel, by decide +kernel, by decide +kernel⟩ rfl
      · exact oddI _ (tq (u11 _ _ w11) rfl (.cons (tq (u10 _ _ w10) rfl (.cons (.str _) (.cons (.int _) .nil))) .nil)) ⟨by decide +kernel, by decide +kernel, by decide +kernel⟩ rfl
      · exact oddI _ (tq (u12 _ _ w12) rfl (.cons (.str _) (.cons (.str _) (.cons (.int _) .nil)))) ⟨by decide +kernel, by decide +kernel, by decide +kernel⟩ rfl
      · exact oddI _ (tq (u14 _ _ w14) rfl (.cons (.int _) (.cons (tq (u13 _ _ w13) rfl (.cons .non .nil)) .nil))) ⟨by decide +kernel, by decide +kernel, by decide +kernel⟩ rfl
    exact all v hv
end
end K00

set_option Elab.async false
set_option linter.all false
set_option maxRecDepth 100000
namespace K00
open PySem PySem.Spec PyProof.Rows L2 Vg
section
variable {P : Program} {w : World} {K : PySem.W.Frag} {mg : Str → Option Value} {base : Heap}
abbrev sInt : Stmt := topS 26
theorem scInt : FnScope ["bag", "many"] ["bag"] (defScope sInt) := ⟨rfl, rfl, rfl, by decide +kernel, rfl, by decide +kernel, by decide +kernel⟩
def spInt : Sp := fun vs H Q _ => ∃ b l : Addr, vs = [.ref b] ∧ Bag l H b ∧ ∀ i H', -(10 ^ 39) ≤ i → i ≤ 10 ^ 39 → Kept b H H' → Bag l H' b → Q (.int i) H'
theorem bag_ne {H : Hp} {b l p : Addr} (h : Bag l H b) (n : H p = none) : p ≠ b := fun z => by
  obtain ⟨c, st, at_, ns, hb, _⟩ := h
  rw [z, hb] at n
  cases n
variable {fS fT : Addr} {fdS fdT : FuncData} {kS kT : Nat} (d_law_some : Dn K mg "_law_some" fS fdS ["bag", "things"]) (G_law_some : FnOk P w K mg base CX0 kS fS fdS ["bag", "things"] spSom)
  (d_law_take : Dn K mg "_law_take" fT fdT ["bag", "many"]) (G_law_take : FnOk P w K mg base CX0 kT fT fdT ["bag", "many"] spTak)
include d_law_some G_law_some d_law_take G_law_take
theorem ok_int {f : Addr} {fd : FuncData} {k : Nat} (F : Fun K "_law_integer" "_law_integer" sInt f fd) (lS : kS ≤ k) (lT : kT ≤ k) : FnOk P w K mg base CX0 (k + 1) f fd ["bag"] spInt := by
  have sc := scInt
  refine F.ok sc (fun vs H Q E h => ?_) (fun cdv A outer s H vs Q E hr h => ?_)
  · obtain ⟨b, l, rfl, _⟩ := h
    rfl
  · obtain ⟨b, l, rfl, hB, q⟩ := h
    refine ⟨_, (pss_cons (ps_set (i := 1) sc.nd rfl (Or.inl rfl) (pe_call G_law_some (hr.mono lS) (by rfl) d_law_some.m d_law_some.k d_law_some.b .nil pass0 (pa_cons (pv 0) (pa_cons (pe_lstS (pa_cons (pe_call G_law_take (hr.mono lT) (by rfl) d_law_take.m d_law_take.k d_law_take.b .nil pass0 (pa_cons (pv 0) (pa_cons pe_int pa_nil))) (pa_cons (pe_call G_law_take (hr.mono lT) (by rfl) d_law_take.m d_law_take.k d_law_take.b .nil pass0 (pa_cons (pv 0) (pa_cons pe_int pa_nil))) (pa_cons (pe_op op_sub (pe_op op_pow pe_int pe_int) (pe_call G_law_take (hr.mono lT) (by rfl) d_law_take.m d_law_take.k d_law_take.b .nil pass0 (pa_cons (pv 0) (pa_cons pe_int pa_nil)))) (pa_cons pe_int (pa_cons (pe_op op_pow pe_int pe_int) pa_nil)))))) pa_nil))))
        (pss_one (ps_ret (pe_ifExp (pt_cmpR op_gt (pe_call G_law_take (hr.mono lT) (by rfl) d_law_take.m d_law_take.k d_law_take.b .nil pass0 (pa_cons (pv 0) (pa_cons pe_int pa_nil))) pe_int (nomark _)) (pv 1) (pe_op op_sub pe_int (pv 1)))))), ?_⟩
    refine ⟨_, rfl, _, rfl, b, l, 13, rfl, hB, by decide, by decide, fun v1 H1 a1 b1 k1 B1 => ?_⟩
    refine ⟨_, rfl, b, l, 13, rfl, B1, by decide, by decide, fun v2 H2 a2 b2 k2 B2 => ?_⟩
    refine ⟨10, 12, rfl, rfl, ⟨by decide, by decide, by decide⟩, _, rfl, b, l, 999, rfl, B2, by decide, by decide, fun v3 H3 a3 b3 k3 B3 => ?_⟩
    refine ⟨_, v3, rfl, rfl, 10, 39, rfl, rfl, ⟨by decide, by decide, by decide⟩, (by show 5 ≤ sizeLine; decide), fun p n _ => ?_⟩
    have np := bag_ne B3 n
    have B4 : Bag l (upd H3 p _) b := B3.same (same_new (o := .lst [.int v1, .int v2, .int (10 ^ 12 - v3), .int 0, .int (10 ^ 39)]) n)
    refine ⟨b, l, p, [.int v1, .int v2, .int (10 ^ 12 - v3), .int 0, .int (10 ^ 39)], rfl, B4, np, upd_same, (by show 0 < 5; decide), (by show 5 ≤ 1000; decide), fun v H5 hv k5 B5 => ?_⟩
    have kk : Kept b H H5 := ((k1.trans k2).trans k3).trans ((Kept.of (same_new n)).trans k5)
    obtain ⟨i, rfl, i0, i1⟩ : ∃ i, v = .int i ∧ 0 ≤ i ∧ i ≤ 10 ^ 39 := by
      simp only [List.mem_cons, List.not_mem_nil, or_false] at hv
      rcases hv with rfl | rfl | rfl | rfl | rfl
      · exact ⟨_, rfl, a1, by omega⟩
      · exact ⟨_, rfl, a2, by omega⟩
      · exact ⟨_, rfl, by omega, by omega⟩
      · exact ⟨_, rfl, by omega, by omega⟩
      · exact ⟨_, rfl, by omega, by omega⟩
    refine ⟨_, rfl, b, l, 3, rfl, B5, by decide, by decide, fun v6 H6 a6 b6 k6 B6 => ?_⟩
    refine ⟨_, _, rfl, rfl, _, rfl, ite2 (fun e => ?_) (fun e => ?_)⟩
    · exact ⟨_, rfl, q i H6 (by omega) i1 (kk.trans k6) B6⟩
    · exact ⟨_, rfl, 0, i, rfl, rfl, q (0 - i) H6 (by omega) (by omega) (kk.trans k6) B6⟩
omit d_law_some G_law_some d_law_take G_law_take
/-! ### _law_fraction -/
abbrev sFra : Stmt := topS 27
theorem scFra : FnScope ["bag"] ["bag"] (defScope sFra) := ⟨rfl, rfl, rfl, by decide +kernel, rfl, by decide +kernel, by decide +kernel⟩
structure FrI (n d : Int) : Prop where
  n0 : -(10 ^ 39) ≤ n
  n1 : n ≤ 10 ^ 39
  d0 : 0 < d
  d1 : d ≤ 10 ^ 8
  g : Int.gcd n d = 1
def spFra : Sp := fun vs H Q _ => ∃ b l : Addr, vs = [.ref b] ∧ Bag l H b ∧ ∀ n d p H', FrI n d → Kept b H H' → Bag l H' b → H p = none → H' p = some (.tup [.int n, .int d]) → Q (.ref p) H'
theorem small200 {i : Int} (h0 : -(10 ^ 90) ≤ i) (h1 : i ≤ 10 ^ 90) : i.natAbs < 2 ^ 300 := by
  have h : i.natAbs ≤ 10 ^ 90 := by omega
  exact Nat.lt_of_le_of_lt h (by decide +kernel)
theorem redu_fr {i e : Int} (i0 : -(10 ^ 39) ≤ i) (i1 : i ≤ 10 ^ 39) (e0 : 0 < e) (e1 : e ≤ 10 ^ 8) : FrI (redu i e).1 (redu i e).2 := by
  have hne : ¬ e < 0 := by omega
  unfold redu
  rw [if_neg hne]
  have hg := gcd_pos (n := i) (show e ≠ 0 by omega)
  have h1 : i / (Int.gcd i e : Int) ≤ 10 ^ 39 := by
    by_cases z : 0 ≤ i
    · exact Int.le_trans (Int.ediv_le_self _ z) i1
    · have : i / (Int.gcd i e : Int) < 0 := Int.ediv_neg_of_neg_of_pos (by omega) hg
      omega
  have h2 : -(10 ^ 39) ≤ i / (Int.gcd i e : Int) := by
    rw [Int.le_ediv_iff_mul_le hg]
    have : (-(10 ^ 39) : Int) * (Int.gcd i e : Int) ≤ -(10 ^ 39) * 1 := Int.mul_le_mul_of_nonpos_left (by omega) (by omega)
    omega
  have hd : (Int.gcd i e : Int) ∣ e := Int.gcd_dvd_right ..
  have h3 : 0 < e / (Int.gcd i e : Int) := Int.ediv_pos_of_pos_of_dvd e0 (by omega) hd
  have h4 : e / (Int.gcd i e : Int) ≤ 10 ^ 8 := Int.le_trans (Int.ediv_le_self _ (by omega)) e1
  exact ⟨h2, h1, h3, h4, Int.gcd_ediv_gcd_ediv_gcd (by omega)⟩
theorem ok_fra {f fS fT fI fR : Addr} {fd fdS fdT fdI fdR : FuncData} {k kS kT kI kR : Nat} (F : Fun K "_law_fraction" "_law_fraction" sFra f fd)
    (d_law_some : Dn K mg "_law_some" fS fdS ["bag", "things"]) (G_law_some : FnOk P w K mg base CX0 kS fS fdS ["bag", "things"] spSom) (d_law_take : Dn K mg "_law_take" fT fdT ["bag", "many"]) (G_law_take : FnOk P w K mg base CX0 kT fT fdT ["bag", "many"] spTak)
    (d_law_integer : Dn K mg "_law_integer" fI fdI ["bag"]) (G_law_integer : FnOk P w K mg base CX0 kI fI fdI ["bag"] spInt) (d_law_reduced : Dn K mg "_law_reduced" fR fdR ["n", "d"]) (G_law_reduced : FnOk P w K mg base CX0 kR fR fdR ["n", "d"] spRed)
    (lS : kS ≤ k) (lT : kT ≤ k) (lI : kI ≤ k) (lR : kR ≤ k) : FnOk P w K mg base CX0 (k + 1) f fd ["bag"] spFra := by
  have sc := scFra
  refine F.ok sc (fun vs H Q E h => ?_) (fun cdv A outer s H vs Q E hr h => ?_)
  · obtain ⟨b, l, rfl, _⟩ := h
    rfl
  · obtain ⟨b, l, rfl, hB, q⟩ := h
    refine ⟨_, (pss_one (ps_ret (pe_call G_law_reduced (hr.mono lR) (by rfl) d_law_reduced.m d_law_reduced.k d_law_reduced.b .nil pass0 (pa_cons (pe_call G_law_integer (hr.mono lI) (by rfl) d_law_integer.m d_law_integer.k d_law_integer.b .nil pass0 (pa_cons (pv 0) pa_nil)) (pa_cons (pe_op op_add pe_int (pe_call G_law_some (hr.mono lS) (by rfl) d_law_some.m d_law_some.k d_law_some.b .nil pass0 (pa_cons (pv 0) (pa_cons (pe_lstS (pa_cons pe_int (pa_cons (pe_call G_law_take (hr.mono lT) (by rfl) d_law_take.m d_law_take.k d_law_take.b .nil pass0 (pa_cons (pv 0) (pa_cons pe_int pa_nil))) (pa_cons (pe_call G_law_take (hr.mono lT) (by rfl) d_law_take.m d_law_take.k d_law_take.b .nil pass0 (pa_cons (pv 0) (pa_cons (pe_op op_pow pe_int pe_int) pa_nil))) pa_nil)))) pa_nil)))) pa_nil))))), ?_⟩
    refine ⟨_, rfl, b, l, rfl, hB, fun i H1 i0 i1 k1 B1 => ?_⟩
    refine ⟨_, rfl, _, rfl, b, l, 12, rfl, B1, by decide, by decide, fun v2 H2 a2 b2 k2 B2 => ?_⟩
    refine ⟨_, rfl, 10, 8, rfl, rfl, ⟨by decide, by decide, by decide⟩, b, l, _, rfl, B2, by decide, by decide, fun v3 H3 a3 b3 k3 B3 => ?_⟩
    have b3 : v3 < 10 ^ 8 := b3
    refine ⟨(by show 3 ≤ sizeLine; decide), fun p n _ => ?_⟩
    have np := bag_ne B3 n
    have B4 : Bag l (upd H3 p _) b := B3.same (same_new (o := .lst [.int 0, .int v2, .int v3]) n)
    refine ⟨b, l, p, [.int 0, .int v2, .int v3], rfl, B4, np, upd_same, (by show 0 < 3; decide), (by show 3 ≤ 1000; decide), fun v H5 hv k5 B5 => ?_⟩
    have kk : Kept b H H5 := ((k1.trans k2).trans k3).trans ((Kept.of (same_new n)).trans k5)
    obtain ⟨e, rfl, e0, e1⟩ : ∃ e, v = .int e ∧ 0 ≤ e ∧ e < 10 ^ 8 := by
      simp only [List.mem_cons, List.not_mem_nil, or_false] at hv
      rcases hv with rfl | rfl | rfl
      · exact ⟨_, rfl, by omega, by omega⟩
      · exact ⟨_, rfl, a2, by omega⟩
      · exact ⟨_, rfl, a3, b3⟩
    refine ⟨1, e, rfl, rfl, i, 1 + e, rfl, by omega, ?_, fun H6 p6 s6 n6 h6 => ?_⟩
    · exact Nat.lt_of_lt_of_le (small200 (by omega) (by omega)) (Nat.pow_le_pow_right (by decide) (by decide))
    · refine q _ _ p6 H6 (redu_fr i0 i1 (by omega) (by omega)) (kk.trans (Kept.of s6)) (B5.same s6) ?_ h6
      cases z : H p6 with
      | none => rfl
      | some o =>
        by_cases pb : p6 = b
        · exact absurd pb (bag_ne B5 n6)
        · have := kk _ _ pb z
          rw [n6] at this
          cases this
end
end K00

set_option Elab.async false
set_option linter.all false
set_option maxRecDepth 100000
namespace K00
open PySem PySem.Spec PyProof.Rows L2 Vg
section
variable {P : Program} {w : World} {K : PySem.W.Frag} {mg : Str → Option Value} {base : Heap}
/-! ### _law_alike -/
abbrev sAli : Stmt := topS 22
theorem scAli : FnScope ["found", "due"] ["found", "due"] (defScope sAli) := ⟨rfl, rfl, rfl, by decide +kernel, rfl, by decide +kernel, by decide +kernel⟩
def Alike (K : PySem.W.Frag) (H : Hp) (x y : V) : Prop := ∃ d, SameD K H x y d ∧ d.depth ≤ 60 ∧ d.showable = true ∧ d.shown.length ≤ sizeLine
def spAli (K : PySem.W.Frag) : Sp := fun vs H Q _ => ∃ x y, vs = [x, y] ∧ Alike K H x y ∧ Q (.bl true) H
theorem ok_ali {f : Addr} {fd : FuncData} {k : Nat} (F : Fun K "_law_alike" "_law_alike" sAli f fd) (z_repr : mg "repr" = none) : GOk P w K mg base (k + 1) f fd ["found", "due"] (spAli K) := by
  have sc := scAli
  refine gok_fun F sc (fun vs H Q E h => ?_) (fun cdv A outer s H vs Q E g hr h => ?_)
  · obtain ⟨x, y, rfl, _⟩ := h
    rfl
  · obtain ⟨x, y, rfl, ⟨d, hs, hd, sh, hz⟩, q⟩ := h
    refine ⟨_, (pss_one (ps_ret (pe_and (pe_cmpR (op_same (hu64 hr)) (pv 0) (pv 1) (nomark _)) (pe_one (pe_cmpR op_eq (pe_callB (call_repr g (hu64 hr)) (by rfl) z_repr (by decide +kernel) (pa_cons (pv 0) pa_nil)) (pe_callB (call_repr g (hu64 hr)) (by rfl) z_repr (by decide +kernel) (pa_cons (pv 1) pa_nil)) (nomark _)))))), ?_⟩
    refine ⟨x, rfl, y, rfl, d, hs, hd, true, rfl, iteT ?_⟩
    refine ⟨x, rfl, x, d, rfl, hs.1, sh, hz, hd, y, rfl, y, d, rfl, hs.2.1, sh, hz, hd, rfl, ?_⟩
    rw [decide_eq_true rfl]
    exact q
/-! ### the errors' classes -/
/-- a class of the text with its __init__ -/
structure Er (K : PySem.W.Frag) (mg : Str → Option Value) (x : Str) (C fI : Addr) (fd : FuncData) (ps : List Str) : Prop where
  m : mg x = some (.ref C)
  o : OexC K C
  i : PySem.W.findIn K (.ref C) "__init__" = some (some (.ref fI))
  t : PySem.W.typeIn K (.ref fI) = some (.type "function")
  b : Binds K fd ps []
  e : ExcC K C
  f : XfC K C
/-- self.n = v -/
def spIn (K : PySem.W.Frag) (C : Addr) (n : Str) : Sp := fun vs H Q _ => ∃ (a : Addr) (v : V), vs = [.ref a, v] ∧ H a = some (exo a C none) ∧ ∀ dx, H dx = none → dx ≠ a → Q .non (upd (upd H dx (exd dx [(n, v)])) a (exo a C (some dx)))
theorem ok_ini (n : Str) {qual : Str} {C f : Addr} {fd : FuncData} {k : Nat} (st : Stmt) (F : Fun K "__init__" qual st f fd) (sc : FnScope ["self", n] ["self", n] (defScope st)) (T : OexC K C) (hn : PySem.W.findIn K (.ref C) n = some none)
    (hb : ∃ p1 p2 p3 p4, defBody st = [.Assign [.Attribute (.Name "self" p1) n p2] (.Name n p3) p4] ∧ (n == ("__debug__" : Str)) = false ∧ (n == ("__classdict__" : Str)) = false ∧ (defScope st).names.lookup n = some NameKind.local ∧ (defScope st).names.lookup ("self" : Str) = some NameKind.local) :
    FnOk P w K mg base CX0 (k + 1) f fd ["self", n] (spIn K C n) := by
  refine F.ok sc (fun vs H Q E h => ?_) (fun cdv A outer s H vs Q E hr h => ?_)
  · obtain ⟨a, v, rfl, _⟩ := h
    rfl
  · obtain ⟨a, v, rfl, ha, q⟩ := h
    obtain ⟨p1, p2, p3, p4, e, h1, h2, h3, h4⟩ := hb
    rw [e]
    refine ⟨_, (pss_one (ps_ost (pe_var (i := 0) rfl (Or.inl h4)) (pe_var (i := 1) rfl (Or.inl h3) h1 h2))), ?_⟩
    refine ⟨v, rfl, _, rfl, a, C, rfl, T, hn, .inl ⟨ha, fun dx nd ne => q dx nd ne⟩⟩
/-- __init__ of Nothing -/
def spNo (C : Addr) : Sp := fun vs H Q _ => ∃ a : Addr, vs = [.ref a] ∧ H a = some (exo a C none) ∧ Q .non H
abbrev sNot : Stmt := inClass (topS 14) 0
theorem scNot : FnScope ["self"] ["self"] (defScope sNot) := ⟨rfl, rfl, rfl, by decide +kernel, rfl, by decide +kernel, by decide +kernel⟩
theorem ok_not {qual : Str} {C B f : Addr} {fd : FuncData} {k : Nat} (F : Fun K "__init__" qual sNot f fd) (T : OexC K C) (m_B : mg "LoopError" = some (.ref B)) (hB : BaseInit K B) : FnOk P w K mg base CX0 (k + 1) f fd ["self"] (spNo C) := by
  have sc := scNot
  refine F.ok sc (fun vs H Q E h => ?_) (fun cdv A outer s H vs Q E hr h => ?_)
  · obtain ⟨a, rfl, _⟩ := h
    rfl
  · obtain ⟨a, rfl, ha, q⟩ := h
    refine ⟨_, (pss_one (ps_expr (pe_binit rfl m_B hB (pa_cons (pv 0) pa_nil)))), ?_⟩
    exact ⟨_, rfl, a, C, [], rfl, Nat.zero_le _, T, ha, q⟩
end
end K00

set_option Elab.async false
set_option linter.all false
set_option maxRecDepth 100000
namespace K00
open PySem PySem.Spec PyProof.Rows L2 Vg
/-! ### the lots of errors -/
/-- all but lists stay -/
def SameX (F F' : Hp) : Prop := ∀ x o, (∀ xs, o ≠ HO.lst xs) → F x = some o → F' x = some o
theorem SameX.of {F F' : Hp} (h : Same F F') : SameX F F' := fun x o _ e => h x o e
theorem SameX.trans {F G H : Hp} (a : SameX F G) (b : SameX G H) : SameX F H := fun x o n e => b x o n (a x o n e)
theorem exo_lst {e C : Addr} {d : Option Addr} {xs : List V} : exo e C d ≠ .lst xs := fun z => by
  have z' : HO.ext _ = HO.lst xs := z
  cases z'
theorem exd_lst {e : Addr} {fs : List (Str × V)} {xs : List V} : exd e fs ≠ .lst xs := fun z => by
  have z' : HO.ext _ = HO.lst xs := z
  cases z'
theorem exAt_sameX {F F' : Hp} {a C : Addr} {fs : List (Str × V)} (s : SameX F F') (h : ExAt F a C fs) : ExAt F' a C fs := by
  rcases h with ⟨e, h⟩ | ⟨d, h, hd⟩
  · exact .inl ⟨e, s _ _ (fun _ => exo_lst) h⟩
  · exact .inr ⟨d, s _ _ (fun _ => exo_lst) h, s _ _ (fun _ => exd_lst) hd⟩
theorem exAt_same {F F' : Hp} {a C : Addr} {fs : List (Str × V)} (s : Same F F') (h : ExAt F a C fs) : ExAt F' a C fs := exAt_sameX (.of s) h
theorem step_ex {H0 H H1 : Hp} {e d C : Addr} {n : Str} {v : V} (eq : upd (upd (upd H e (exo e C none)) d (exd d [(n, v)])) e (exo e C (some d)) = H1) (s : Same H0 H) (n1 : H e = none) (m1 : upd H e (exo e C none) d = none) (ne : d ≠ e) :
    Same H0 H1 ∧ SameX (newOf H0 H) (newOf H0 H1) ∧ ExAt (newOf H0 H1) e C [(n, v)] := by
  subst eq
  have m0 : H d = none := by
    rw [upd_ne ne] at m1
    exact m1
  have k : Same H (upd (upd (upd H e (exo e C none)) d (exd d [(n, v)])) e (exo e C (some d))) := fun x o h => by
    rw [upd_ne (ne_of_none h n1), upd_ne (ne_of_none h m0), upd_ne (ne_of_none h n1)]
    exact h
  refine ⟨s.trans k, .of (newOf_up k), .inr ⟨d, newOf_at (s.free n1) upd_same, newOf_at (s.free m0) ?_⟩⟩
  rw [upd_ne ne]
  exact upd_same
theorem step_ex0 {H0 H H1 : Hp} {e C : Addr} (eq : upd H e (exo e C none) = H1) (s : Same H0 H) (n1 : H e = none) : Same H0 H1 ∧ SameX (newOf H0 H) (newOf H0 H1) ∧ ExAt (newOf H0 H1) e C [] := by
  subst eq
  exact ⟨s.trans (same_new n1), .of (newOf_up (same_new n1)), .inl ⟨rfl, newOf_at (s.free n1) upd_same⟩⟩
theorem step_eqX {H0 H H1 : Hp} {p : Addr} {o : HO} (e : upd H p o = H1) (s : Same H0 H) (n : H p = none) : Same H0 H1 ∧ SameX (newOf H0 H) (newOf H0 H1) ∧ newOf H0 H1 p = some o := by
  obtain ⟨a, b, c⟩ := step_eq e s n
  exact ⟨a, .of b, c⟩
theorem same_eq {H H1 : Hp} {p : Addr} {o : HO} (e : upd H p o = H1) (n : H p = none) : Same H H1 := by
  subst e
  exact same_new n
/-- a list of ours is changed -/
theorem step_mutX {H0 H H1 : Hp} {l : Addr} {xs ys : List V} (e : upd H l (.lst ys) = H1) (s : Same H0 H) (n : H0 l = none) (h : H l = some (.lst xs)) : Same H0 H1 ∧ SameX (newOf H0 H) (newOf H0 H1) ∧ newOf H0 H1 l = some (.lst ys) := by
  subst e
  refine ⟨fun x o q => ?_, fun x o k q => ?_, newOf_at n upd_same⟩
  · rw [upd_ne (ne_of_none q n)]
    exact s x o q
  · obtain ⟨q1, q2⟩ := newOf_of q
    refine newOf_at q1 ?_
    have hx : x ≠ l := fun z => by
      rw [z, h] at q2
      exact k _ (Option.some.inj q2).symm
    rw [upd_ne hx]
    exact q2
def valsOf (x y : V) : List V := [x, y, x, y, x, y, x, .non]
/-- the place of an error in a lot: the error, what it told, the thing -/
def TupAt (F : Hp) (cls : List Addr) (i : Nat) (v : V) (t : Addr) : Prop := ∃ e C fs, F t = some (.tup [.ref e, v, v]) ∧ cls[i]? = some C ∧ ExAt F e C fs
def LotAt (F : Hp) (cls : List Addr) (t : Addr) (x y : V) : Prop := ∃ ts : List Addr, F t = some (.lst (ts.map V.ref)) ∧ ts.length = 8 ∧ ∀ (i : Nat) (ti : Addr), ts[i]? = some ti → ∃ v, (valsOf x y)[i]? = some v ∧ TupAt F cls i v ti
theorem TupAt.same {F F' : Hp} {cls : List Addr} {i : Nat} {v : V} {t : Addr} (s : SameX F F') (h : TupAt F cls i v t) : TupAt F' cls i v t := by
  obtain ⟨e, C, fs, h1, h2, h3⟩ := h
  exact ⟨e, C, fs, s _ _ (fun _ z => by cases z) h1, h2, exAt_sameX s h3⟩
theorem LotAt.same {F F' : Hp} {cls : List Addr} {t : Addr} {x y : V} (s : Same F F') (h : LotAt F cls t x y) : LotAt F' cls t x y := by
  obtain ⟨ts, h1, h2, h3⟩ := h
  exact ⟨ts, s _ _ h1, h2, fun i ti e => by
    obtain ⟨v, q1, q2⟩ := h3 i ti e
    exact ⟨v, q1, q2.same (.of s)⟩⟩
/-- the classes and what is known of them -/
structure Kit (K : PySem.W.Frag) (mg : Str → Option Value) (cW cT cD cM cK cL cU cN : Addr) : Prop where
  n1 : PySem.W.findIn K (.ref cW) "place" = some none
  n2 : PySem.W.findIn K (.ref cT) "place" = some none
  n3 : PySem.W.findIn K (.ref cD) "ring" = some none
  n4 : PySem.W.findIn K (.ref cM) "most" = some none
  n5 : PySem.W.findIn K (.ref cK) "name" = some none
  n6 : PySem.W.findIn K (.ref cL) "line" = some none
  n7 : PySem.W.findIn K (.ref cU) "step" = some none
section
variable {P : Program} {w : World} {K : PySem.W.Frag} {mg : Str → Option Value} {base : Heap}
variable {cW cT cD cM cK cL cU cN iW iT iD iM iK iL iU iN : Addr} {fW fT fD fM fK fL fU fN : FuncData}
abbrev sErs : Stmt := topS 28
abbrev nErs : List Str := ["one", "two", "wrong", "text", "dead", "many", "task", "line", "unlike", "found"]
theorem scErs : FnScope nErs ["one", "two"] (defScope sErs) := ⟨rfl, rfl, rfl, by decide +kernel, rfl, by decide +kernel, by decide +kernel⟩
def spErs (cls : List Addr) : Sp := fun vs H Q _ => ∃ x y, vs = [x, y] ∧ ∀ H' t, Same H H' → LotAt (newOf H H') cls t x y → Q (.ref t) H'
theorem ok_ers {f : Addr} {fd : FuncData} {k : Nat} (F : Fun K "_law_errors" "_law_errors" sErs f fd) (Z : Kit K mg cW cT cD cM cK cL cU cN)
    (c_Wrong : Er K mg "Wrong" cW iW fW ["self", "place"]) (c_NoText : Er K mg "NoText" cT iT fT ["self", "place"]) (c_Dead : Er K mg "Dead" cD iD fD ["self", "ring"]) (c_TooMany : Er K mg "TooMany" cM iM fM ["self", "most"])
    (c_NoTask : Er K mg "NoTask" cK iK fK ["self", "name"]) (c_NoCommand : Er K mg "NoCommand" cL iL fL ["self", "line"]) (c_Unlike : Er K mg "Unlike" cU iU fU ["self", "step"]) (c_Nothing : Er K mg "Nothing" cN iN fN ["self"])
    (I_Wrong : FnOk P w K mg base CX0 1 iW fW ["self", "place"] (spIn K cW "place")) (I_NoText : FnOk P w K mg base CX0 1 iT fT ["self", "place"] (spIn K cT "place")) (I_Dead : FnOk P w K mg base CX0 1 iD fD ["self", "ring"] (spIn K cD "ring")) (I_TooMany : FnOk P w K mg base CX0 1 iM fM ["self", "most"] (spIn K cM "most"))
    (I_NoTask : FnOk P w K mg base CX0 1 iK fK ["self", "name"] (spIn K cK "name")) (I_NoCommand : FnOk P w K mg base CX0 1 iL fL ["self", "line"] (spIn K cL "line")) (I_Unlike : FnOk P w K mg base CX0 1 iU fU ["self", "step"] (spIn K cU "step")) (I_Nothing : FnOk P w K mg base CX0 1 iN fN ["self"] (spNo cN)) (hk : 2 ≤ k) :
    FnOk P w K mg base CX0 (k + 1) f fd ["one", "two"] (spErs [cW, cT, cD, cM, cK, cL, cU, cN]) := by
  have sc := scErs
  refine F.ok sc (fun vs H Q E h => ?_) (fun cdv A outer s H vs Q E hr h => ?_)
  · obtain ⟨x, y, rfl, _⟩ := h
    rfl
  · obtain ⟨x, y, rfl, q⟩ := h
    have hr := hr.mono hk
    refine ⟨_, (pss_cons (ps_asg (pe_tup (pa_cons (pe_exM c_Wrong.o c_Wrong.i c_Wrong.t I_Wrong hr c_Wrong.b rfl c_Wrong.m (pa_cons (pv 0) pa_nil)) (pa_cons (pe_exM c_NoText.o c_NoText.i c_NoText.t I_NoText hr c_NoText.b rfl c_NoText.m (pa_cons (pv 1) pa_nil)) (pa_cons (pe_exM c_Dead.o c_Dead.i c_Dead.t I_Dead hr c_Dead.b rfl c_Dead.m (pa_cons (pv 0) pa_nil)) (pa_cons (pe_exM c_TooMany.o c_TooMany.i c_TooMany.t I_TooMany hr c_TooMany.b rfl c_TooMany.m (pa_cons (pv 1) pa_nil)) pa_nil))))) (pg_tup rfl (pgs_cons (pg_name (i := 2) sc.nd rfl (Or.inl rfl)) (pgs_cons (pg_name (i := 3) sc.nd rfl (Or.inl rfl)) (pgs_cons (pg_name (i := 4) sc.nd rfl (Or.inl rfl)) (pgs_cons (pg_name (i := 5) sc.nd rfl (Or.inl rfl)) pgs_nil))))))
        (pss_cons (ps_par3 (i := 6) (j := 7) (l := 8) rfl sc.nd rfl rfl rfl (by decide) (by decide) (by decide) rfl rfl rfl (pa_cons (pe_exM c_NoTask.o c_NoTask.i c_NoTask.t I_NoTask hr c_NoTask.b rfl c_NoTask.m (pa_cons (pv 0) pa_nil)) (pa_cons (pe_exM c_NoCommand.o c_NoCommand.i c_NoCommand.t I_NoCommand hr c_NoCommand.b rfl c_NoCommand.m (pa_cons (pv 1) pa_nil)) (pa_cons (pe_exM c_Unlike.o c_Unlike.i c_Unlike.t I_Unlike hr c_Unlike.b rfl c_Unlike.m (pa_cons (pv 0) pa_nil)) pa_nil))) (by rfl))
        (pss_cons (ps_set (i := 9) sc.nd rfl (Or.inl rfl) (pe_lstS (pa_cons (pe_tup (pa_cons (pv 2) (pa_cons (pe_exf (pv 2)) (pa_cons (pv 0) pa_nil)))) (pa_cons (pe_tup (pa_cons (pv 3) (pa_cons (pe_exf (pv 3)) (pa_cons (pv 1) pa_nil)))) (pa_cons (pe_tup (pa_cons (pv 4) (pa_cons (pe_exf (pv 4)) (pa_cons (pv 0) pa_nil)))) (pa_cons (pe_tup (pa_cons (pv 5) (pa_cons (pe_exf (pv 5)) (pa_cons (pv 1) pa_nil)))) pa_nil))))))
        (pss_cons (ps_expr (pe_bm PySem.F.plainAttrs_list PySem.F.slot_list_extend PySem.F.type_list_extend mt_extend (pv 9) (pa_cons (pe_lstS (pa_cons (pe_tup (pa_cons (pv 6) (pa_cons (pe_exf (pv 6)) (pa_cons (pv 0) pa_nil)))) (pa_cons (pe_tup (pa_cons (pv 7) (pa_cons (pe_exf (pv 7)) (pa_cons (pv 1) pa_nil)))) (pa_cons (pe_tup (pa_cons (pv 8) (pa_cons (pe_exf (pv 8)) (pa_cons (pv 0) pa_nil)))) pa_nil)))) pa_nil)))
        (pss_one (ps_ret (pe_op op_cat (pv 9) (pe_lstS (pa_cons (pe_tup (pa_cons (pe_exM0 c_Nothing.o c_Nothing.i c_Nothing.t I_Nothing hr c_Nothing.b rfl c_Nothing.m) (pa_cons pe_non (pa_cons pe_non pa_nil)))) pa_nil))))))))), ?_⟩
    have s0 := Same.refl H
    have l1 : 1 ≤ 1000 := by decide
    refine ⟨x, rfl, l1, fun e1 n1 => ⟨e1, x, rfl, upd_same, fun d1 m1 ne1 => ⟨rfl, ?_⟩⟩⟩
    generalize g1 : upd (upd (upd H e1 _) d1 _) e1 _ = H1
    obtain ⟨s1, t1, w1⟩ := step_ex g1 s0 n1 m1 ne1
    refine ⟨y, rfl, l1, fun e2 n2 => ⟨e2, y, rfl, upd_same, fun d2 m2 ne2 => ⟨rfl, ?_⟩⟩⟩
    generalize g2 : upd (upd (upd H1 e2 _) d2 _) e2 _ = H2
    obtain ⟨s2, t2, w2⟩ := step_ex g2 s1 n2 m2 ne2
    refine ⟨x, rfl, l1, fun e3 n3 => ⟨e3, x, rfl, upd_same, fun d3 m3 ne3 => ⟨rfl, ?_⟩⟩⟩
    generalize g3 : upd (upd (upd H2 e3 _) d3 _) e3 _ = H3
    obtain ⟨s3, t3, w3⟩ := step_ex g3 s2 n3 m3 ne3
    refine ⟨y, rfl, l1, fun e4 n4 => ⟨e4, y, rfl, upd_same, fun d4 m4 ne4 => ⟨rfl, ?_⟩⟩⟩
    generalize g4 : upd (upd (upd H3 e4 _) d4 _) e4 _ = H4
    obtain ⟨s4, t4, w4⟩ := step_ex g4 s3 n4 m4 ne4
    refine ⟨(by show 4 ≤ sizeLine; decide), fun p5 n5 => ?_⟩
    generalize g5 : upd H4 p5 _ = H5
    obtain ⟨s5, t5, w5⟩ := step_eqX g5 s4 n5
    refine ⟨p5, _, rfl, .inl (.inl (newOf_of w5).2), rfl, _, _, rfl, _, _, rfl, _, _, rfl, _, _, rfl, rfl, ?_⟩
    refine ⟨x, rfl, l1, fun e6 n6 => ⟨e6, x, rfl, upd_same, fun d6 m6 ne6 => ⟨rfl, ?_⟩⟩⟩
    generalize g6 : upd (upd (upd H5 e6 _) d6 _) e6 _ = H6
    obtain ⟨s6, t6, w6⟩ := step_ex g6 s5 n6 m6 ne6
    refine ⟨y, rfl, l1, fun e7 n7 => ⟨e7, y, rfl, upd_same, fun d7 m7 ne7 => ⟨rfl, ?_⟩⟩⟩
    generalize g7 : upd (upd (upd H6 e7 _) d7 _) e7 _ = H7
    obtain ⟨s7, t7, w7⟩ := step_ex g7 s6 n7 m7 ne7
    refine ⟨x, rfl, l1, fun e8 n8 => ⟨e8, x, rfl, upd_same, fun d8 m8 ne8 => ⟨rfl, ?_⟩⟩⟩
    generalize g8 : upd (upd (upd H7 e8 _) d8 _) e8 _ = H8
    obtain ⟨s8, t8, w8⟩ := step_ex g8 s7 n8 m8 ne8
    refine ⟨_, _, _, rfl, ?_⟩
    have u8 := t8
    have u7 := t7.trans u8
    have u6 := t6.trans u7
    have u5 := t5.trans u6
    have u4 := t4.trans u5
    have u3 := t3.trans u4
    have u2 := t2.trans u3
    have c1 := exAt_sameX u2 w1
    have c2 := exAt_sameX u3 w2
    have c3 := exAt_sameX u4 w3
    have c4 := exAt_sameX u5 w4
    have c6 := exAt_sameX u7 w6
    have c7 := exAt_sameX u8 w7
    have c8 := w8
    clear t1 t2 t3 t4 t5 t6 t7 t8 u2 u3 u4 u5 u6 u7 u8 w1 w2 w3 w4 w5 w6 w7 w8
    -- found
    refine ⟨_, rfl, _, rfl, e1, cW, _, x, rfl, c_Wrong.f, Z.n1, exAt_same newOf_le c1, rfl, _, rfl, (by show 3 ≤ sizeLine; decide), fun p1 k1 => ?_⟩
    generalize h1 : upd H8 p1 _ = G1
    obtain ⟨a1, b1, v1⟩ := step_eqX h1 s8 k1
    refine ⟨_, rfl, _, rfl, e2, cT, _, y, rfl, c_NoText.f, Z.n2, exAt_same newOf_le (exAt_sameX b1 c2), rfl, _, rfl, (by show 3 ≤ sizeLine; decide), fun p2 k2 => ?_⟩
    generalize h2 : upd G1 p2 _ = G2
    obtain ⟨a2, b2, v2⟩ := step_eqX h2 a1 k2
    have b12 := b1.trans b2
    refine ⟨_, rfl, _, rfl, e3, cD, _, x, rfl, c_Dead.f, Z.n3, exAt_same newOf_le (exAt_sameX b12 c3), rfl, _, rfl, (by show 3 ≤ sizeLine; decide), fun p3 k3 => ?_⟩
    generalize h3 : upd G2 p3 _ = G3
    obtain ⟨a3, b3, v3⟩ := step_eqX h3 a2 k3
    have b13 := b12.trans b3
    refine ⟨_, rfl, _, rfl, e4, cM, _, y, rfl, c_TooMany.f, Z.n4, exAt_same newOf_le (exAt_sameX b13 c4), rfl, _, rfl, (by show 3 ≤ sizeLine; decide), fun p4 k4 => ?_⟩
    generalize h4 : upd G3 p4 _ = G4
    obtain ⟨a4, b4, v4⟩ := step_eqX h4 a3 k4
    have b14 := b13.trans b4
    refine ⟨(by show 4 ≤ sizeLine; decide), fun l k5 _ => ?_⟩
    generalize h5 : upd G4 l _ = G5
    obtain ⟨a5, b5, v5⟩ := step_eqX h5 a4 k5
    have b15 := b14.trans b5
    -- found.extend
    refine ⟨.ref l, rfl, .inl ⟨rfl, _, .inl (.inl (newOf_of v5).2)⟩, ?_⟩
    refine ⟨_, rfl, _, rfl, e6, cK, _, x, rfl, c_NoTask.f, Z.n5, exAt_same newOf_le (exAt_sameX b15 c6), rfl, _, rfl, (by show 3 ≤ sizeLine; decide), fun p6 k6 => ?_⟩
    generalize h6 : upd G5 p6 _ = G6
    obtain ⟨a6, b6, v6⟩ := step_eqX h6 a5 k6
    have b16 := b15.trans b6
    refine ⟨_, rfl, _, rfl, e7, cL, _, y, rfl, c_NoCommand.f, Z.n6, exAt_same newOf_le (exAt_sameX b16 c7), rfl, _, rfl, (by show 3 ≤ sizeLine; decide), fun p7 k7 => ?_⟩
    generalize h7 : upd G6 p7 _ = G7
    obtain ⟨a7, b7, v7⟩ := step_eqX h7 a6 k7
    have b17 := b16.trans b7
    refine ⟨_, rfl, _, rfl, e8, cU, _, x, rfl, c_Unlike.f, Z.n7, exAt_same newOf_le (exAt_sameX b17 c8), rfl, _, rfl, (by show 3 ≤ sizeLine; decide), fun p8 k8 => ?_⟩
    generalize h8 : upd G7 p8 _ = G8
    obtain ⟨a8, b8, v8⟩ := step_eqX h8 a7 k8
    have b18 := b17.trans b8
    refine ⟨(by show 3 ≤ sizeLine; decide), fun l2 k9 _ => ?_⟩
    generalize h9 : upd G8 l2 _ = G9
    obtain ⟨a9, b9, v9⟩ := step_eqX h9 a8 k9
    have b19 := b18.trans b9
    have hl9 := ((((same_eq h6 k6).trans (same_eq h7 k7)).trans (same_eq h8 k8)).trans (same_eq h9 k9)) _ _ (newOf_of v5).2
    refine ⟨l, l2, _, _, rfl, rfl, hl9, (newOf_of v9).2, (by show 4 + 3 ≤ sizeLine; decide), ?_⟩
    have hl0 : H l = none := a4.free k5
    generalize h10 : upd G9 l _ = G10
    obtain ⟨a10, b10, v10⟩ := step_mutX h10 a9 hl0 hl9
    have b110 := b19.trans b10
    -- return found + [(Nothing(), None, None)]
    refine ⟨.ref l, rfl, Nat.zero_le _, fun e9 n9 => ⟨e9, rfl, upd_same, rfl, ?_⟩⟩
    generalize h11 : upd G10 e9 _ = G11
    obtain ⟨a11, b11, v11⟩ := step_ex0 h11 a10 n9
    refine ⟨(by show 3 ≤ sizeLine; decide), fun p9 k10 => ?_⟩
    generalize h12 : upd G11 p9 _ = G12
    obtain ⟨a12, b12', v12⟩ := step_eqX h12 a11 k10
    refine ⟨(by show 1 ≤ sizeLine; decide), fun l3 k11 _ => ?_⟩
    generalize h13 : upd G12 l3 _ = G13
    obtain ⟨a13, b13', v13⟩ := step_eqX h13 a12 k11
    have hl13 := (((same_eq h11 n9).trans (same_eq h12 k10)).trans (same_eq h13 k11)) _ _ (newOf_of v10).2
    refine ⟨l, l3, _, _, rfl, rfl, hl13, (newOf_of v13).2, (by show 4 + 3 + 1 ≤ sizeLine; decide), fun t kt => ?_⟩
    generalize h14 : upd G13 t _ = G14
    obtain ⟨a14, b14', v14⟩ := step_eqX h14 a13 kt
    refine q G14 t a14 ⟨[p1, p2, p3, p4, p6, p7, p8, p9], v14, rfl, ?_⟩
    -- what stands there at the end
    have f13 := b14'
    have f12 := b13'.trans f13
    have f11 := b12'.trans f12
    have f10 := b11.trans f11
    have f9 := b10.trans f10
    have f8 := b9.trans f9
    have f7 := b8.trans f8
    have f6 := b7.trans f7
    have f5 := b6.trans f6
    have f4 := b5.trans f5
    have f3 := b4.trans f4
    have f2 := b3.trans f3
    have f1 := b2.trans f2
    have f0 := b1.trans f1
    have nt : ∀ {xs ys : List V}, HO.tup xs ≠ HO.lst ys := fun z => by cases z
    intro i ti hi
    match i, hi with
    | 0, hi => cases hi; exact ⟨x, rfl, e1, cW, _, f1 _ _ (fun _ => nt) v1, rfl, exAt_sameX f0 c1⟩
    | 1, hi => cases hi; exact ⟨y, rfl, e2, cT, _, f2 _ _ (fun _ => nt) v2, rfl, exAt_sameX f0 c2⟩
    | 2, hi => cases hi; exact ⟨x, rfl, e3, cD, _, f3 _ _ (fun _ => nt) v3, rfl, exAt_sameX f0 c3⟩
    | 3, hi => cases hi; exact ⟨y, rfl, e4, cM, _, f4 _ _ (fun _ => nt) v4, rfl, exAt_sameX f0 c4⟩
    | 4, hi => cases hi; exact ⟨x, rfl, e6, cK, _, f6 _ _ (fun _ => nt) v6, rfl, exAt_sameX f0 c6⟩
    | 5, hi => cases hi; exact ⟨y, rfl, e7, cL, _, f7 _ _ (fun _ => nt) v7, rfl, exAt_sameX f0 c7⟩
    | 6, hi => cases hi; exact ⟨x, rfl, e8, cU, _, f8 _ _ (fun _ => nt) v8, rfl, exAt_sameX f0 c8⟩
    | 7, hi => cases hi; exact ⟨.non, rfl, e9, cN, _, f12 _ _ (fun _ => nt) v12, rfl, exAt_sameX f11 v11⟩
    | n + 8, hi => exact absurd hi (by simp)
end
end K00

set_option Elab.async false
set_option linter.all false
set_option maxRecDepth 100000
namespace K00
open PySem PySem.Spec PyProof.Rows L2 Vg
/-! ### lists of truths -/
theorem dp_bools {K : PySem.W.Frag} {H : Hp} : ∀ bs : List Bool, DpAll K H (bs.map V.bl) (bs.map PyData.bool)
  | [] => .nil
  | b :: bs => .cons (.bl b) (dp_bools bs)
theorem lay_bools : ∀ bs : List Bool, PyData.canLayAll0 (bs.map PyData.bool) = true
  | [] => by simp [PyData.canLayAll0]
  | b :: bs => by simp [PyData.canLayAll0, PyData.canLay0, lay_bools bs]
theorem dep_bools : ∀ bs : List Bool, PyData.depthAll (bs.map PyData.bool) = 0
  | [] => by simp [PyData.depthAll]
  | b :: bs => by simp [PyData.depthAll, PyData.depth, dep_bools bs]
theorem sh_bools (bs : List Bool) : SeqAt.shaped (.list (bs.map PyData.bool)) = true := by
  unfold SeqAt.shaped
  rw [PyData.canLay0, lay_bools, PyData.depth, dep_bools]
  rfl
theorem eqv_bools (bs : List Bool) : PyData.eqv (.list (bs.map PyData.bool)) (.list (bs.map PyData.bool)) = true := PySem.SeqAt.eqv_refl _ (SeqAt.canLay_of_shaped (sh_bools bs))
def kindsOf (i : Nat) : List Bool := (List.range 8).map fun j => decide (i = j)
/-- what isinstance tells of the errors -/
structure KitT (K : PySem.W.Frag) (cls : List Addr) (B : Addr) : Prop where
  e : ∀ (i : Nat) (C : Addr), cls[i]? = some C → ExcC K C
  kk : ∀ (i j : Nat) (C D : Addr), cls[i]? = some C → cls[j]? = some D → PySem.W.kitOne K (.ref C) (.ref D) = some (decide (i = j))
  kb : ∀ (i : Nat) (C : Addr), cls[i]? = some C → PySem.W.kitOne K (.ref C) (.ref B) = some true
  kv : ∀ (i : Nat) (C : Addr), cls[i]? = some C → PySem.W.kitOne K (.ref C) (.type "ValueError") = some true
section
variable {P : Program} {w : World} {K : PySem.W.Frag} {mg : Str → Option Value} {base : Heap}
variable {cW cT cD cM cK cL cU cN cB iW iT iD iM iK iL iU iN : Addr} {fW fT fD fM fK fL fU fN : FuncData}
abbrev sKin : Stmt := topS 29
theorem scKin : FnScope ["error", "found"] ["error"] (defScope sKin) := ⟨rfl, rfl, rfl, by decide +kernel, rfl, by decide +kernel, by decide +kernel⟩
def spKin (cls : List Addr) : Sp := fun vs H Q _ => ∃ (e C : Addr) (fs : List (Str × V)) (i : Nat), vs = [.ref e] ∧ cls[i]? = some C ∧ ExAt H e C fs ∧ ∀ H' t, Same H H' → H t = none → H' t = some (.lst ((kindsOf i).map V.bl)) → Q (.ref t) H'
theorem ok_kin {f : Addr} {fd : FuncData} {k : Nat} (F : Fun K "_law_kinds" "_law_kinds" sKin f fd) (T : KitT K [cW, cT, cD, cM, cK, cL, cU, cN] cB) (z_isinstance : mg "isinstance" = none)
    (m1 : mg "Wrong" = some (.ref cW)) (m2 : mg "NoText" = some (.ref cT)) (m3 : mg "Dead" = some (.ref cD)) (m4 : mg "TooMany" = some (.ref cM)) (m5 : mg "NoTask" = some (.ref cK)) (m6 : mg "NoCommand" = some (.ref cL)) (m7 : mg "Unlike" = some (.ref cU)) (m8 : mg "Nothing" = some (.ref cN)) :
    FnOk P w K mg base CX0 (k + 1) f fd ["error"] (spKin [cW, cT, cD, cM, cK, cL, cU, cN]) := by
  have sc := scKin
  refine F.ok sc (fun vs H Q E h => ?_) (fun cdv A outer s H vs Q E hr h => ?_)
  · obtain ⟨e, C, fs, i, rfl, _⟩ := h
    rfl
  · obtain ⟨e, C, fs, i, rfl, hc, hE, q⟩ := h
    refine ⟨_, (pss_cons (ps_set (i := 1) sc.nd rfl (Or.inl rfl) (pe_lstS (pa_cons (pe_callB call_isX (by rfl) z_isinstance (by decide +kernel) (pa_cons (pv 0) (pa_cons (pe_glob (v := .ref cW) rfl m1 rfl) pa_nil))) (pa_cons (pe_callB call_isX (by rfl) z_isinstance (by decide +kernel) (pa_cons (pv 0) (pa_cons (pe_glob (v := .ref cT) rfl m2 rfl) pa_nil))) (pa_cons (pe_callB call_isX (by rfl) z_isinstance (by decide +kernel) (pa_cons (pv 0) (pa_cons (pe_glob (v := .ref cD) rfl m3 rfl) pa_nil))) (pa_cons (pe_callB call_isX (by rfl) z_isinstance (by decide +kernel) (pa_cons (pv 0) (pa_cons (pe_glob (v := .ref cM) rfl m4 rfl) pa_nil))) pa_nil))))))
        (pss_cons (ps_expr (pe_bm PySem.F.plainAttrs_list PySem.F.slot_list_extend PySem.F.type_list_extend mt_extend (pv 1) (pa_cons (pe_lstS (pa_cons (pe_callB call_isX (by rfl) z_isinstance (by decide +kernel) (pa_cons (pv 0) (pa_cons (pe_glob (v := .ref cK) rfl m5 rfl) pa_nil))) (pa_cons (pe_callB call_isX (by rfl) z_isinstance (by decide +kernel) (pa_cons (pv 0) (pa_cons (pe_glob (v := .ref cL) rfl m6 rfl) pa_nil))) (pa_cons (pe_callB call_isX (by rfl) z_isinstance (by decide +kernel) (pa_cons (pv 0) (pa_cons (pe_glob (v := .ref cU) rfl m7 rfl) pa_nil))) pa_nil)))) pa_nil)))
        (pss_one (ps_ret (pe_op op_cat (pv 1) (pe_lstS (pa_cons (pe_callB call_isX (by rfl) z_isinstance (by decide +kernel) (pa_cons (pv 0) (pa_cons (pe_glob (v := .ref cN) rfl m8 rfl) pa_nil))) pa_nil))))))), ?_⟩
    have X := T.e i C hc
    have s0 := Same.refl H
    refine ⟨_, rfl, e, C, fs, _, _, _, rfl, X, hE, .own cW, T.kk i 0 C cW hc rfl, ?_⟩
    refine ⟨_, rfl, e, C, fs, _, _, _, rfl, X, hE, .own cT, T.kk i 1 C cT hc rfl, ?_⟩
    refine ⟨_, rfl, e, C, fs, _, _, _, rfl, X, hE, .own cD, T.kk i 2 C cD hc rfl, ?_⟩
    refine ⟨_, rfl, e, C, fs, _, _, _, rfl, X, hE, .own cM, T.kk i 3 C cM hc rfl, ?_⟩
    refine ⟨(by show 4 ≤ sizeLine; decide), fun l n1 _ => ?_⟩
    generalize g1 : upd H l _ = H1
    obtain ⟨s1, t1, w1⟩ := step_eq g1 s0 n1
    have E1 := exAt_same s1 hE
    refine ⟨_, rfl, .inl ⟨rfl, _, .inl (.inl (newOf_of w1).2)⟩, ?_⟩
    refine ⟨_, rfl, e, C, fs, _, _, _, rfl, X, E1, .own cK, T.kk i 4 C cK hc rfl, ?_⟩
    refine ⟨_, rfl, e, C, fs, _, _, _, rfl, X, E1, .own cL, T.kk i 5 C cL hc rfl, ?_⟩
    refine ⟨_, rfl, e, C, fs, _, _, _, rfl, X, E1, .own cU, T.kk i 6 C cU hc rfl, ?_⟩
    refine ⟨(by show 3 ≤ sizeLine; decide), fun l2 n2 _ => ?_⟩
    generalize g2 : upd H1 l2 _ = H2
    obtain ⟨s2, t2, w2⟩ := step_eq g2 s1 n2
    have hl := (same_eq g2 n2) _ _ (newOf_of w1).2
    refine ⟨l, l2, _, _, rfl, rfl, hl, (newOf_of w2).2, (by show 4 + 3 ≤ sizeLine; decide), ?_⟩
    generalize g3 : upd H2 l _ = H3
    obtain ⟨s3, t3, w3⟩ := step_mutX g3 s2 n1 hl
    have E3 := exAt_same s3 hE
    refine ⟨_, rfl, _, rfl, e, C, fs, _, _, _, rfl, X, E3, .own cN, T.kk i 7 C cN hc rfl, ?_⟩
    refine ⟨(by show 1 ≤ sizeLine; decide), fun l3 n4 _ => ?_⟩
    generalize g4 : upd H3 l3 _ = H4
    obtain ⟨s4, t4, w4⟩ := step_eq g4 s3 n4
    refine ⟨l, l3, _, _, rfl, rfl, (same_eq g4 n4) _ _ (newOf_of w3).2, (newOf_of w4).2, (by show 4 + 3 + 1 ≤ sizeLine; decide), fun t n5 => ?_⟩
    exact q _ t (s4.trans (same_new n5)) (s4.free n5) upd_same
/-! ### the things, and what may change -/
def hide (M : List Addr) (H : Hp) : Hp := fun x => if x ∈ M then none else H x
theorem hide_le {M : List Addr} {H : Hp} : Same (hide M H) H := fun x o h => by
  unfold hide at h
  split at h
  · cases h
  · exact h
theorem hide_at {M : List Addr} {H : Hp} {x : Addr} {o : HO} (n : x ∉ M) (h : H x = some o) : hide M H x = some o := by
  unfold hide
  rw [if_neg n]
  exact h
theorem hide_same {M : List Addr} {H H' : Hp} (s : Same H H') : Same (hide M H) (hide M H') := fun x o h => by
  unfold hide at h ⊢
  split at h
  · cases h
  · rename_i n
    rw [if_neg n]
    exact s _ _ h
theorem hide_kept {M : List Addr} {H H' : Hp} {b : Addr} (hb : b ∈ M) (s : Kept b H H') : Same (hide M H) (hide M H') := fun x o h => by
  unfold hide at h ⊢
  split at h
  · cases h
  · rename_i n
    rw [if_neg n]
    exact s _ _ (fun z => n (by rw [z]; exact hb)) h
theorem hide_upd {M : List Addr} {H : Hp} {a : Addr} {o : HO} (h : a ∈ M) : hide M (upd H a o) = hide M H := by
  funext x
  unfold hide
  by_cases m : x ∈ M
  · rw [if_pos m, if_pos m]
  · rw [if_neg m, if_neg m, upd_ne (fun z => m (by rw [z]; exact h))]
/-- a thing: data that stays, or a list of ours of such data -/
def Th (K : PySem.W.Frag) (M : List Addr) (H : Hp) (n : Nat) (v : V) : Prop := (∃ d, Dq K (hide M H) v d ∧ Sm d ∧ isL d = false) ∨
  ∃ a xs ds, v = .ref a ∧ a ∈ M ∧ H a = some (.lst xs) ∧ (a == sysModules) = false ∧ DqAll K (hide M H) xs ds ∧ (∀ d ∈ ds, Sm d) ∧ xs.length ≤ n
theorem Th.more {M : List Addr} {H : Hp} {n m : Nat} {v : V} (h : Th K M H n v) (l : n ≤ m) : Th K M H m v := by
  rcases h with h | ⟨a, xs, ds, h1, h2, h3, h4, h5, h6, h7⟩
  · exact .inl h
  · exact .inr ⟨a, xs, ds, h1, h2, h3, h4, h5, h6, Nat.le_trans h7 l⟩
/-- other objects come, none of the things changes -/
theorem Th.same {M : List Addr} {H H' : Hp} {n : Nat} {v : V} (h : Th K M H n v) (s : Same (hide M H) (hide M H')) (k : ∀ a ∈ M, V.ref a = v → H' a = H a) : Th K M H' n v := by
  rcases h with ⟨d, h, r⟩ | ⟨a, xs, ds, h1, h2, h3, h4, h5, h6, h7⟩
  · exact .inl ⟨d, h.same s, r⟩
  · exact .inr ⟨a, xs, ds, h1, h2, by rw [k a h2 h1.symm]; exact h3, h4, DqAll.same s h5, h6, h7⟩
theorem piled_le {ts : List Str} (h : ∀ t ∈ ts, t.length ≤ 100) : piled ts ≤ 102 * ts.length := by
  induction ts with
  | nil => simp [piled_nil]
  | cons t ts ih =>
    rw [piled_cons, List.length_cons]
    have h1 := h t List.mem_cons_self
    have h2 := ih fun u hu => h u (List.mem_cons_of_mem _ hu)
    omega
theorem from_le : ∀ (ts : List Str) (k : Nat) (acc : Str), (textFrom k acc ts).length ≤ acc.length + piled ts
  | [], k, acc => by
    show acc.length ≤ acc.length + piled []
    omega
  | t :: ts, k, acc => by
    have ih := from_le ts (k + 1) (acc ++ (if k > 0 then ", " else "" : String) ++ t)
    show (textFrom (k + 1) (acc ++ (if k > 0 then ", " else "" : String) ++ t) ts).length ≤ _
    have e : (acc ++ (if k > 0 then ", " else "" : String) ++ t).length ≤ acc.length + 2 + t.length := by
      rw [str_len, str_len]
      split
      · show acc.length + 2 + t.length ≤ _
        omega
      · show acc.length + 0 + t.length ≤ _
        omega
    rw [piled_cons]
    omega
theorem shownAll_len : ∀ ds : List PyData, (PyData.shownAll ds).length = ds.length
  | [] => by rw [PyData.shownAll]; rfl
  | d :: ds => by rw [PyData.shownAll, List.length_cons, List.length_cons, shownAll_len ds]
theorem shownAll_mem : ∀ {ds : List PyData} {t : Str}, t ∈ PyData.shownAll ds → ∃ d ∈ ds, t = d.shown
  | [], t, h => by
    rw [PyData.shownAll] at h
    exact absurd h List.not_mem_nil
  | d :: ds, t, h => by
    rw [PyData.shownAll] at h
    rcases List.mem_cons.mp h with e | e
    · exact ⟨d, List.mem_cons_self, e⟩
    · obtain ⟨d', h1, h2⟩ := shownAll_mem e
      exact ⟨d', List.mem_cons_of_mem _ h1, h2⟩
theorem depthAll_le {n : Nat} : ∀ {ds : List PyData}, (∀ d ∈ ds, d.depth ≤ n) → PyData.depthAll ds ≤ n
  | [], _ => by rw [PyData.depthAll]; exact Nat.zero_le _
  | d :: ds, h => by
    rw [PyData.depthAll]
    exact Nat.max_le.mpr ⟨h d List.mem_cons_self, depthAll_le fun e he => h e (List.mem_cons_of_mem _ he)⟩
theorem showAll_of : ∀ {ds : List PyData}, (∀ d ∈ ds, d.showable = true) → PyData.showableAll ds = true
  | [], _ => by rw [PyData.showableAll]
  | d :: ds, h => by
    rw [PyData.showableAll, Bool.and_eq_true]
    exact ⟨h d List.mem_cons_self, showAll_of fun e he => h e (List.mem_cons_of_mem _ he)⟩
/-- a thing and itself -/
theorem Th.alike {M : List Addr} {H : Hp} {n : Nat} {v : V} (h : Th K M H n v) (hn : n ≤ 1000) : Alike K H v v := by
  have hb : 1000000 ≤ sizeLine := by decide
  rcases h with ⟨d, h, s, l⟩ | ⟨a, xs, ds, rfl, h2, h3, h4, h5, h6, h7⟩
  · have := s.len
    have := s.dep
    exact ⟨d, ⟨h.same hide_le, h.same hide_le, .inr rfl⟩, by omega, s.sh, by omega⟩
  · have q : Dq K H (.ref a) (.list ds) := .lst (.inl (.inl h3)) h4 (DqAll.same hide_le h5)
    refine ⟨.list ds, ⟨q, q, .inr rfl⟩, ?_, ?_, ?_⟩
    · rw [PyData.depth]
      have := depthAll_le (n := 3) fun d hd => (h6 d hd).dep
      omega
    · rw [PyData.showable]
      exact showAll_of fun d hd => (h6 d hd).sh
    · rw [PyData.shown]
      have e := h5.length
      have p := piled_le (ts := PyData.shownAll ds) fun t ht => by
        obtain ⟨d, hd, rfl⟩ := shownAll_mem ht
        exact (h6 d hd).len
      rw [shownAll_len] at p
      have f := from_le (PyData.shownAll ds) 0 "["
      show (textFrom 0 "[" (PyData.shownAll ds) ++ ("]" : Str)).length ≤ sizeLine
      rw [str_len]
      show (textFrom 0 "[" (PyData.shownAll ds)).length + 1 ≤ sizeLine
      have f : (textFrom 0 "[" (PyData.shownAll ds)).length ≤ 1 + piled (PyData.shownAll ds) := f
      omega
/-- whether a thing is a list -/
theorem Th.list {M : List Addr} {H : Hp} {n : Nat} {v : V} (h : Th K M H n v) :
    (∃ t, TyX K H v t ∧ PySem.W.kitOne K t (.type "list") = some false) ∨ ∃ a xs ds, v = .ref a ∧ a ∈ M ∧ H a = some (.lst xs) ∧ (a == sysModules) = false ∧ DqAll K (hide M H) xs ds ∧ (∀ d ∈ ds, Sm d) ∧ xs.length ≤ n := by
  rcases h with ⟨d, h, s, l⟩ | h
  · refine .inl ?_
    have h := h.same hide_le
    cases h with
    | non => exact ⟨_, .base .non, kit_ty (by decide +kernel)⟩
    | bl b => exact ⟨_, .base (.bl b), kit_ty (by decide +kernel)⟩
    | int i => exact ⟨_, .base (.int i), kit_ty (by decide +kernel)⟩
    | str x => exact ⟨_, .base (.str x), kit_ty (by decide +kernel)⟩
    | lst _ _ _ => cases l
    | tup ht _ _ =>
      rcases ht with (ht | ⟨o, ht⟩) | ⟨o, its, m, hk, hc, _⟩
      · exact ⟨_, .base (.tup ht), kit_ty (by decide +kernel)⟩
      · exact ⟨_, .fTuple ht, kit_ty (by decide +kernel)⟩
      · exact ⟨_, .kTuple hk hc, kit_ty (by decide +kernel)⟩
    | dct hd _ _ => exact ⟨_, .base (.dK hd), kit_ty (by decide +kernel)⟩
  · exact .inr h
end
end K00

set_option Elab.async false
set_option linter.all false
set_option maxRecDepth 100000
namespace K00
open PySem PySem.Spec PyProof.Rows L2 Vg
section
variable {P : Program} {w : World} {K : PySem.W.Frag} {mg : Str → Option Value} {base : Heap}
variable {cW cT cD cM cK cL cU cN cB : Addr}
abbrev sIer : Stmt := topS 30
abbrev nIer : List Str := ["lot", "at", "error", "told", "thing", "place"]
theorem scIer : FnScope nIer ["lot", "at"] (defScope sIer) := ⟨rfl, rfl, rfl, by decide +kernel, rfl, by decide +kernel, by decide +kernel⟩
theorem same_in0 {H H' : Hp} {x : Addr} (s : Same H H') (h : H x ≠ none) : H' x ≠ none := by
  cases q : H x with
  | none => exact absurd q h
  | some o =>
    rw [s x o q]
    exact fun z => by cases z
def spIer (K : PySem.W.Frag) (cls : List Addr) : Sp := fun ws H Q _ => ∃ (t : Addr) (i n : Nat) (M : List Addr) (x y : V) (vs : List V), ws = [.ref t, .int (i : Int)] ∧ i < 8 ∧ n < 1000 ∧ LotAt (hide M H) cls t x y ∧ x ∈ vs ∧ y ∈ vs ∧ (∀ v ∈ vs, Th K M H n v) ∧
  ∀ H', Same (hide M H) (hide M H') → (∀ m, H m ≠ none → H' m ≠ none) → (∀ v ∈ vs, Th K M H' (n + 1) v) → Q (.bl true) H'
theorem th_append {M : List Addr} {H : Hp} {n : Nat} {a : Addr} {xs : List V} {ds : List PyData} {v : V} (ha : a ∈ M) (h3 : H a = some (.lst xs)) (h4 : (a == sysModules) = false) (h5 : DqAll K (hide M H) xs ds) (h6 : ∀ d ∈ ds, Sm d) (h7 : xs.length ≤ n) (h : Th K M H n v) :
    Th K M (upd H a (.lst (xs ++ [.int 0]))) (n + 1) v := by
  have app : ∀ {xs : List V} {ds : List PyData}, DqAll K (hide M H) xs ds → DqAll K (hide M H) (xs ++ [.int 0]) (ds ++ [.int 0]) := by
    intro xs ds q
    induction xs generalizing ds with
    | nil =>
      cases q
      exact .cons (.int 0) .nil
    | cons x xs ih =>
      cases q with
      | cons q1 q2 => exact .cons q1 (ih q2)
  rcases h with ⟨d, q, r⟩ | ⟨a', xs', ds', e1, e2, e3, e4, e5, e6, e7⟩
  · refine .inl ⟨d, ?_, r⟩
    rw [hide_upd ha]
    exact q
  · by_cases z : a' = a
    · subst z
      rw [h3] at e3
      cases e3
      refine .inr ⟨a', _, ds ++ [.int 0], e1, e2, upd_same, e4, ?_, fun d hd => ?_, ?_⟩
      · rw [hide_upd ha]
        exact app h5
      · rcases List.mem_append.mp hd with hd | hd
        · exact h6 d hd
        · rw [List.mem_singleton.mp hd]
          exact ⟨by decide +kernel, by decide +kernel, by decide +kernel⟩
      · rw [List.length_append]
        show xs.length + 1 ≤ n + 1
        omega
    · refine .inr ⟨a', xs', ds', e1, e2, ?_, e4, ?_, e6, Nat.le_succ_of_le e7⟩
      · rw [upd_ne z]
        exact e3
      · rw [hide_upd ha]
        exact e5
theorem Th.up {M : List Addr} {H H' : Hp} {n : Nat} {v : V} (h : Th K M H n v) (s : Same H H') : Th K M H' n v := by
  rcases h with ⟨d, h, r⟩ | ⟨a, xs, ds, h1, h2, h3, h4, h5, h6, h7⟩
  · exact .inl ⟨d, h.same (hide_same s), r⟩
  · exact .inr ⟨a, xs, ds, h1, h2, s _ _ h3, h4, DqAll.same (hide_same s) h5, h6, h7⟩
theorem vals_mem {x y v : V} {i : Nat} (h : (valsOf x y)[i]? = some v) : v = x ∨ v = y ∨ v = .non := by
  have := List.mem_of_getElem? h
  simp only [valsOf, List.mem_cons, List.not_mem_nil, or_false] at this
  rcases this with h | h | h | h | h | h | h | h <;> simp [h]
theorem sm_none : Sm .none := ⟨by decide +kernel, by decide +kernel, by decide +kernel⟩
theorem ok_ier {f fK fA : Addr} {fd fdK fdA : FuncData} {k kK kA : Nat} (F : Fun K "_law_is_error_right" "_law_is_error_right" sIer f fd) (T : KitT K [cW, cT, cD, cM, cK, cL, cU, cN] cB) (z_isinstance : mg "isinstance" = none) (z_range : mg "range" = none) (m_B : mg "LoopError" = some (.ref cB))
    (z_ve : mg "ValueError" = none) (z_list : mg "list" = none)
    (d_law_kinds : Dn K mg "_law_kinds" fK fdK ["error"]) (G_law_kinds : FnOk P w K mg base CX0 kK fK fdK ["error"] (spKin [cW, cT, cD, cM, cK, cL, cU, cN])) (d_law_alike : Dn K mg "_law_alike" fA fdA ["found", "due"]) (G_law_alike : GOk P w K mg base kA fA fdA ["found", "due"] (spAli K)) (lK : kK ≤ k) (lA : kA ≤ k) :
    GOk P w K mg base (k + 1) f fd ["lot", "at"] (spIer K [cW, cT, cD, cM, cK, cL, cU, cN]) := by
  have sc := scIer
  refine gok_fun F sc (fun vs H Q E h => ?_) (fun cdv A outer s H vs Q E g hr h => ?_)
  · obtain ⟨t, i, n, M, x, y, vs, rfl, _⟩ := h
    rfl
  · obtain ⟨t, i, n, M, x, y, vs, rfl, hi, hn, hL, hx, hy, hT, q⟩ := h
    refine ⟨_, (pss_cons (ps_asg (pe_ix ix_list (pv 0) (pv 1) (fun _ _ => rfl)) (pg_tup rfl (pgs_cons (pg_name (i := 2) sc.nd rfl (Or.inl rfl)) (pgs_cons (pg_name (i := 3) sc.nd rfl (Or.inl rfl)) (pgs_cons (pg_name (i := 4) sc.nd rfl (Or.inl rfl)) pgs_nil)))))
        (pss_cons (ps_if (PW.pt (pw_or (pt_not (pt_val (pe_callB call_isX (by rfl) z_isinstance (by decide +kernel) (pa_cons (pv 2) (pa_cons (pe_glob (v := .ref cB) rfl m_B rfl) pa_nil))))) (pw_or1 (pt_not (pt_val (pe_callB call_isX (by rfl) z_isinstance (by decide +kernel) (pa_cons (pv 2) (pa_cons (pe_bltn (v := .ty "ValueError") rfl z_ve (by decide +kernel) rfl) pa_nil)))))))) (pss_one (ps_ret pe_bl)) pss_nil)
        (pss_cons (ps_if (PW.pt (pw_or (pt_cmpR (op_neD (hu64 hr)) (pe_call G_law_kinds (hr.mono lK) (by rfl) d_law_kinds.m d_law_kinds.k d_law_kinds.b .nil pass0 (pa_cons (pv 2) pa_nil)) (pe_lc (own := [("place", 5)]) (g := gName 5) (tt := tYes) (by rfl) sc.nd (pi_range1 rfl z_range (pa_cons pe_int pa_nil)) (blkOk_by (N := nIer) (sc := defScope sIer) (by decide +kernel)) (fun _ _ _ _ _ => pg_name (i := 5) sc.nd rfl (Or.inl rfl)) (fun _ _ _ _ _ => pts_nil) (fun _ _ _ _ _ => (pe_cmpR op_eq (pv 5) (pv 1) (nomark _)))) (nomark _)) (pw_or1 (pt_not (pt_val (pe_callG G_law_alike g (hr.mono lA) (by rfl) d_law_alike.m d_law_alike.k d_law_alike.b (pa_cons (pv 3) (pa_cons (pv 4) pa_nil)))))))) (pss_one (ps_ret pe_bl)) pss_nil)
        (C8.pss_cut (ps_if (pt_val (pe_callB call_isi (by rfl) z_isinstance (by decide +kernel) (pa_cons (pv 4) (pa_cons (pe_bltn (v := .ty "list") rfl z_list (by decide +kernel) rfl) pa_nil)))) (pss_one (ps_expr (pe_bm PySem.F.plainAttrs_list PySem.F.slot_list_append PySem.F.type_list_append mt_append (pv 4) (pa_cons pe_int pa_nil)))) pss_nil)
        (pss_one (ps_ret (pe_callG G_law_alike g (hr.mono lA) (by rfl) d_law_alike.m d_law_alike.k d_law_alike.b (pa_cons (pv 3) (pa_cons (pv 4) pa_nil))))))))), ?_⟩
    obtain ⟨ts, ht, hl8, hts⟩ := hL
    have hti : ts[i]? = some ts[i] := List.getElem?_eq_getElem (by omega)
    obtain ⟨v, hv, e, C, fs, h1, h2, h3⟩ := hts i _ hti
    have ht := hide_le _ _ ht
    have h1' := hide_le _ _ h1
    have h3' := exAt_same hide_le h3
    have X := T.e i C h2
    have hTv : Th K M H n v := by
      rcases vals_mem hv with e | e | e
      · rw [e]
        exact hT x hx
      · rw [e]
        exact hT y hy
      · rw [e]
        exact .inl ⟨.none, .non, sm_none, rfl⟩
    have hlook : (ts.map V.ref)[i]? = some (.ref ts[i]) := by
      rw [List.getElem?_map, hti]
      rfl
    refine ⟨_, rfl, _, rfl, t, _, _, _, rfl, rfl, .inl (.inl ht), atI_nat hlook, _, _, rfl, .inl (.inl h1'), rfl, _, _, rfl, _, _, rfl, _, _, rfl, rfl, ?_⟩
    refine ⟨_, rfl, e, C, fs, _, _, _, rfl, X, h3', .own cB, T.kb i C h2, true, rfl, iteF ⟨_, rfl, e, C, fs, _, _, _, rfl, X, h3', .ty "ValueError", T.kv i C h2, true, rfl, iteF ?_⟩⟩
    refine ⟨_, rfl, e, C, fs, i, rfl, h2, h3', fun H1 l1 s1 n1 w1 => ?_⟩
    refine ⟨8, rfl, by decide, by decide, fun D hD => ?_⟩
    have hD0 := s1.free hD
    refine lc_range (lo := 0) (n := 8) (fun j H' => H' = upd H1 D (.lst (((List.range j).map fun j => decide (i = j)).map V.bl))) rfl ?_ ?_
    · rintro j H' hj rfl
      refine ⟨rfl, ?_⟩
      refine ⟨_, rfl, _, rfl, rfl, _, upd_same, ?_, ?_⟩
      · rw [List.length_map, List.length_map, List.length_range]
        have := big_line
        omega
      · rw [upd_upd, List.range_succ, List.map_append, List.map_append]
        have ej : decide (V.int (0 + (j : Int)) = V.int (i : Int)) = decide (i = j) := by
          rw [Bool.eq_iff_iff, decide_eq_true_iff, decide_eq_true_iff]
          constructor
          · intro z
            have := V.int.inj z
            omega
          · intro z
            rw [z, Int.zero_add]
        show upd H1 D (.lst (_ ++ [V.bl (decide (V.int (0 + (j : Int)) = V.int (i : Int)))])) = _
        rw [ej]
        rfl
    · rintro H' rfl
      have sD : Same H1 (upd H1 D (.lst (((List.range 8).map fun j => decide (i = j)).map V.bl))) := same_new hD
      have w1' := sD _ _ w1
      have q1 : Dp K (upd H1 D (.lst (((List.range 8).map fun j => decide (i = j)).map V.bl))) (.ref l1) (.list ((kindsOf i).map PyData.bool)) := .lst (.inl (.inl w1')) (dp_bools _)
      have q2 : Dp K (upd H1 D (.lst (((List.range 8).map fun j => decide (i = j)).map V.bl))) (.ref D) (.list ((kindsOf i).map PyData.bool)) := .lst (.inl (.inl upd_same)) (dp_bools _)
      refine ⟨_, _, q1, q2, sh_bools _, sh_bools _, ?_⟩
      rw [eqv_bools]
      have s2 : Same H (upd H1 D (.lst (((List.range 8).map fun j => decide (i = j)).map V.bl))) := s1.trans sD
      generalize upd H1 D (.lst (((List.range 8).map fun j => decide (i = j)).map V.bl)) = H2 at s2
      have hT2 : ∀ v ∈ vs, Th K M H2 n v := fun v hv => (hT v hv).up s2
      have hv2 := hTv.up s2
      have z1000 : 2000 ≤ sizeLine := by decide
      refine ⟨_, rfl, iteF ⟨_, rfl, _, rfl, v, v, rfl, hv2.alike (by omega), true, rfl, iteF ?_⟩⟩
      refine ⟨fun σ' H' => (∃ y5, σ' = [some (.ref t), some (.int (i : Int)), some (.ref e), some v, some v, y5]) ∧ (Same (hide M H) (hide M H') ∧ ∀ m, H m ≠ none → H' m ≠ none) ∧ (∀ v ∈ vs, Th K M H' (n + 1) v) ∧ Th K M H' (n + 1) v, ?_, ?_⟩
      · have grow : ∀ m, H m ≠ none → H2 m ≠ none := fun m h => same_in0 s2 h
        have keep : Same (hide M H) (hide M H2) ∧ ∀ m, H m ≠ none → H2 m ≠ none := ⟨hide_same s2, grow⟩
        rcases hv2.list with ⟨ty, hty, hkit⟩ | ⟨a, xs, ds, rfl, ha, h3, h4, h5, h6, h7⟩
        · exact ⟨_, rfl, v, _, ty, _, false, rfl, .ty "list", hty, hkit, false, rfl, iteF ⟨⟨_, rfl⟩, keep, fun u hu => (hT2 u hu).more (Nat.le_succ n), hv2.more (Nat.le_succ n)⟩⟩
        · refine ⟨_, rfl, .ref a, _, _, _, true, rfl, .ty "list", .base (.lst h3), kit_ty (by decide +kernel), true, rfl, iteT ?_⟩
          refine ⟨_, rfl, .inl ⟨rfl, _, .inl (.inl h3)⟩, a, xs, .int 0, rfl, rfl, h3, by omega, ⟨_, rfl⟩, ⟨?_, fun m h => ?_⟩, fun u hu => ?_, ?_⟩
          · rw [hide_upd ha]
            exact hide_same s2
          · by_cases z : m = a
            · rw [z, upd_same]
              exact fun y => by cases y
            · rw [upd_ne z]
              exact grow m h
          · exact th_append ha h3 h4 h5 h6 h7 (hT2 u hu)
          · exact th_append ha h3 h4 h5 h6 h7 hv2
      · rintro σ' H' ⟨⟨y5, rfl⟩, hC, hA, hV⟩
        exact ⟨_, rfl, _, rfl, v, v, rfl, hV.alike (by omega), q H' hC.1 hC.2 hA⟩
end
end K00

set_option Elab.async false
set_option linter.all false
set_option maxRecDepth 100000
namespace K00
open PySem PySem.Spec PyProof.Rows L2 Vg
/-! ### what came when -/
theorem piece {Hs He Hf : Hp} {b : Addr} {M : List Addr} (hm : ∀ m ∈ M, Hs m ≠ none ∨ He m = none) (k : Kept b He Hf) (hb : Hs b ≠ none) : Same (newOf Hs He) (hide M Hf) := fun x o h => by
  obtain ⟨h1, h2⟩ := newOf_of h
  have nb : x ≠ b := fun z => hb (z ▸ h1)
  refine hide_at (fun z => ?_) (k x o nb h2)
  rcases hm x z with q | q
  · exact q h1
  · rw [h2] at q
    cases q
theorem odd_th {K : PySem.W.Frag} {Hs He : Hp} {v : V} (o : Odd1 K (newOf Hs He) v) : ∃ M1 : List Addr, (∀ m ∈ M1, Hs m = none ∧ He m ≠ none) ∧
    ∀ (M : List Addr) (Hf : Hp) (b : Addr), (∀ m ∈ M1, m ∈ M) → (∀ m ∈ M, m ∈ M1 ∨ Hs m ≠ none ∨ He m = none) → Kept b He Hf → Hs b ≠ none → Th K M Hf 1 v := by
  rcases o with ⟨d, h, s, l⟩ | ⟨a, xs, e1, e2, e3, e4⟩
  · refine ⟨[], fun m h => absurd h List.not_mem_nil, fun M Hf b _ hm k hb => .inl ⟨d, h.same (piece (fun m q => ?_) k hb), s, l⟩⟩
    rcases hm m q with z | z
    · exact absurd z List.not_mem_nil
    · exact z
  · obtain ⟨n1, n2⟩ := newOf_of e2
    refine ⟨[a], fun m h => ?_, fun M Hf b hM _ k hb => ?_⟩
    · rw [List.mem_singleton.mp h]
      exact ⟨n1, by rw [n2]; exact fun z => by cases z⟩
    · have nb : a ≠ b := fun z => hb (z ▸ n1)
      have ha := k _ _ nb n2
      have hM := hM a (List.mem_singleton.mpr rfl)
      rcases e4 with rfl | rfl
      · exact .inr ⟨a, [], [], e1, hM, ha, e3, .nil, fun d h => absurd h List.not_mem_nil, Nat.zero_le _⟩
      · exact .inr ⟨a, _, [.str "round"], e1, hM, ha, e3, .cons (.str _) .nil, fun d h => by
          rw [List.mem_singleton.mp h]
          exact ⟨by decide +kernel, by decide +kernel, by decide +kernel⟩, Nat.le_refl _⟩
/-- a list of one odd thing -/
theorem one_th {K : PySem.W.Frag} {Hs He Hf : Hp} {v : V} {a b : Addr} {M : List Addr} (o : Odd1 K (newOf Hs He) v) (hm : ∀ m ∈ M, Hs m ≠ none ∨ He m = none) (k : Kept b He Hf) (hb : Hs b ≠ none) (ha : a ∈ M) (h : Hf a = some (.lst [v])) (hs : (a == sysModules) = false) :
    Th K M Hf 1 (.ref a) := by
  have pc := piece hm k hb
  rcases o with ⟨d, q, s, l⟩ | ⟨c, xs, e1, e2, e3, e4⟩
  · exact .inr ⟨a, [v], [d], rfl, ha, h, hs, .cons (q.same pc) .nil, fun d' h' => by rw [List.mem_singleton.mp h']; exact s, Nat.le_refl _⟩
  · have hc := pc _ _ e2
    rcases e4 with rfl | rfl
    · refine .inr ⟨a, [v], [.list []], rfl, ha, h, hs, .cons ?_ .nil, fun d' h' => ?_, Nat.le_refl _⟩
      · rw [e1]
        exact .lst (.inl (.inl hc)) e3 .nil
      · rw [List.mem_singleton.mp h']
        exact ⟨by decide +kernel, by decide +kernel, by decide +kernel⟩
    · refine .inr ⟨a, [v], [.list [.str "round"]], rfl, ha, h, hs, .cons ?_ .nil, fun d' h' => ?_, Nat.le_refl _⟩
      · rw [e1]
        exact .lst (.inl (.inl hc)) e3 (.cons (.str _) .nil)
      · rw [List.mem_singleton.mp h']
        exact ⟨by decide +kernel, by decide +kernel, by decide +kernel⟩
theorem kept_in {H H' : Hp} {b l x : Addr} (k : Kept b H H') (hB : Bag l H' b) (h : H x ≠ none) : H' x ≠ none := by
  by_cases e : x = b
  · obtain ⟨c, st, at_, ns, hb, _⟩ := hB
    rw [e, hb]
    exact fun z => by cases z
  · cases q : H x with
    | none => exact absurd q h
    | some o =>
      rw [k x o e q]
      exact fun z => by cases z
theorem same_in {H H' : Hp} {x : Addr} (s : Same H H') (h : H x ≠ none) : H' x ≠ none := by
  cases q : H x with
  | none => exact absurd q h
  | some o =>
    rw [s x o q]
    exact fun z => by cases z
theorem bag_in {H : Hp} {b l : Addr} (hB : Bag l H b) : H b ≠ none := by
  obtain ⟨c, st, at_, ns, hb, _⟩ := hB
  rw [hb]
  exact fun z => by cases z
theorem upd_in {H : Hp} {p : Addr} {o : HO} : upd H p o p ≠ none := by
  rw [upd_same]
  exact fun z => by cases z
/-- a bag that stands apart stays -/
theorem Bag.hid {H H' : Hp} {b l : Addr} {M : List Addr} (h : Bag l H b) (nb : b ∉ M) (nl : l ∉ M) (s : Same (hide M H) (hide M H')) : Bag l H' b := by
  obtain ⟨c, st, at_, ns, h1, h2, h3, h4⟩ := h
  exact ⟨c, st, at_, ns, hide_le _ _ (s _ _ (hide_at nb h1)), h2, hide_le _ _ (s _ _ (hide_at nl h3)), h4⟩
/-! ### numbers -/
theorem redu_scale {n d s : Int} (h : FrI n d) (hs : s ≠ 0) : redu (n * s) (d * s) = (n, d) := by
  have hd := h.d0
  have g : Int.gcd (n * s) (d * s) = s.natAbs := by
    rw [Int.gcd_mul_right, h.g, Nat.one_mul]
  unfold redu
  rw [g]
  by_cases p : 0 < s
  · have e : ((s.natAbs : Nat) : Int) = s := by omega
    have hn : ¬ d * s < 0 := by
      have := Int.mul_pos hd p
      omega
    rw [if_neg hn, e, Int.mul_ediv_cancel _ hs, Int.mul_ediv_cancel _ hs]
  · have e : ((s.natAbs : Nat) : Int) = -s := by omega
    have hn : d * s < 0 := Int.mul_neg_of_pos_of_neg hd (by omega)
    rw [if_pos hn, e, ← Int.mul_neg, ← Int.mul_neg, Int.mul_ediv_cancel _ (by omega), Int.mul_ediv_cancel _ (by omega)]
theorem FrI.fr {n d m e : Int} (h : FrI n d) (h' : FrI m e) {H : Hp} {p r : Addr} (hp : H p = some (.tup [.int n, .int d])) (hr : H r = some (.tup [.int m, .int e])) : Frs H [.ref p, .ref r] n d m e := by
  have := h.n0
  have := h.n1
  have := h.d0
  have := h.d1
  have := h'.n0
  have := h'.n1
  have := h'.d0
  have := h'.d1
  exact ⟨⟨p, r, rfl, hp, hr⟩, small200 (by omega) (by omega), small200 (by omega) (by omega), small200 (by omega) (by omega), small200 (by omega) (by omega)⟩
theorem cmp_eq (x y : Int) : cmp2 x y = (if decide (y < x) then 1 else 0) - (if decide (x < y) then 1 else 0) := by
  unfold cmp2
  by_cases h1 : x < y
  · have : ¬ y < x := by omega
    simp [h1, this]
  · by_cases h2 : y < x
    · simp [h1, h2]
    · simp [h1, h2]
theorem dq_pair {K : PySem.W.Frag} {H : Hp} {p : Addr} {n d : Int} (h : H p = some (.tup [.int n, .int d])) : Dq K H (.ref p) (.tuple [.int n, .int d]) := .tup (.inl (.inl h)) rfl (.cons (.int _) (.cons (.int _) .nil))
theorem ediv_small {N g B : Int} (hg : 0 < g) (hB : 0 ≤ B) (h0 : -B ≤ N) (h1 : N ≤ B) : -B ≤ N / g ∧ N / g ≤ B := by
  by_cases z : 0 ≤ N
  · have a := Int.ediv_le_self g z
    have b := Int.ediv_nonneg z (show 0 ≤ g by omega)
    omega
  · have a : N / g < 0 := Int.ediv_neg_of_neg_of_pos (by omega) hg
    have b : N ≤ N / g := by
      rw [Int.le_ediv_iff_mul_le hg]
      have : N * g ≤ N * 1 := Int.mul_le_mul_of_nonpos_left (by omega) (by omega)
      omega
    omega
theorem redu_small {N D : Int} (hD : D ≠ 0) (n0 : -(10 ^ 90) ≤ N) (n1 : N ≤ 10 ^ 90) (d0 : -(10 ^ 90) ≤ D) (d1 : D ≤ 10 ^ 90) : (redu N D).1.natAbs < 2 ^ 300 ∧ (redu N D).2.natAbs < 2 ^ 300 := by
  have hg := gcd_pos (n := N) hD
  unfold redu
  split
  · have a := ediv_small (N := -N) (B := 10 ^ 90) hg (by omega) (by omega) (by omega)
    have b := ediv_small (N := -D) (B := 10 ^ 90) hg (by omega) (by omega) (by omega)
    exact ⟨small200 a.1 a.2, small200 b.1 b.2⟩
  · have a := ediv_small (N := N) (B := 10 ^ 90) hg (by omega) n0 n1
    have b := ediv_small (N := D) (B := 10 ^ 90) hg (by omega) d0 d1
    exact ⟨small200 a.1 a.2, small200 b.1 b.2⟩
/-! ### how long their texts are -/
theorem piled_leB {B : Nat} {ts : List Str} (h : ∀ t ∈ ts, t.length ≤ B) : piled ts ≤ (B + 2) * ts.length := by
  induction ts with
  | nil => simp [piled_nil]
  | cons t ts ih =>
    rw [piled_cons, List.length_cons, Nat.mul_succ]
    have h1 := h t List.mem_cons_self
    have h2 := ih fun u hu => h u (List.mem_cons_of_mem _ hu)
    omega
theorem listText_le (ts : List Str) : (listText ts).length ≤ piled ts + 2 := by
  have f : (textFrom 0 "[" ts).length ≤ 1 + piled ts := from_le ts 0 "["
  show (textFrom 0 "[" ts ++ ("]" : Str)).length ≤ _
  rw [str_len]
  show (textFrom 0 "[" ts).length + 1 ≤ _
  omega
theorem pairText_le (a b : Str) : (tupleText [a, b]).length ≤ a.length + b.length + 10 := by
  have e := join_length_add [a, b] (by simp)
  rw [piled_cons, piled_cons, piled_nil] at e
  show ((("(" : Str) ++ Str.join ", " [a, b]) ++ (")" : Str)).length ≤ _
  rw [str_len, str_len]
  show 1 + (Str.join ", " [a, b]).length + 1 ≤ _
  omega
def pairD (z : Int × Int) : PyData := .tuple [.int z.1, .int z.2]
theorem pair_len {z : Int × Int} (h1 : z.1.natAbs < 2 ^ 300) (h2 : z.2.natAbs < 2 ^ 300) : (pairD z).shown.length ≤ 4000 := by
  have a := num_len h1
  have b := num_len h2
  have e : (pairD z).shown = tupleText [numT z.1, numT z.2] := by
    unfold pairD
    rw [PyData.shown, PyData.shownAll, PyData.shownAll, PyData.shownAll, PyData.shown, PyData.shown]
    rfl
  rw [e]
  have := pairText_le (numT z.1) (numT z.2)
  omega
theorem pair_show {z : Int × Int} (h1 : z.1.natAbs < 2 ^ 300) (h2 : z.2.natAbs < 2 ^ 300) : (pairD z).showable = true := by
  unfold pairD
  rw [PyData.showable, PyData.showableAll, PyData.showableAll, PyData.showableAll, PyData.showable, PyData.showable]
  simp [log19 h1, log19 h2]
theorem pair_dep (z : Int × Int) : (pairD z).depth ≤ 3 := by
  unfold pairD
  simp [PyData.depth, PyData.depthAll]
/-- two lists of the same short data -/
theorem alike_lists {K : PySem.W.Frag} {H : Hp} {p r : Addr} {ds : List PyData} (hp : Dq K H (.ref p) (.list ds)) (hr : Dq K H (.ref r) (.list ds)) (hn : PyData.hasDictAll ds = false) (hl : ds.length ≤ 100) (hs : ∀ d ∈ ds, d.showable = true ∧ d.shown.length ≤ 50000 ∧ d.depth ≤ 3) : Alike K H (.ref p) (.ref r) := by
  refine ⟨.list ds, ⟨hp, hr, .inl (by rw [PyData.hasDict]; exact hn)⟩, ?_, ?_, ?_⟩
  · rw [PyData.depth]
    have := depthAll_le (n := 3) fun d hd => (hs d hd).2.2
    omega
  · rw [PyData.showable]
    exact showAll_of fun d hd => (hs d hd).1
  · rw [PyData.shown]
    have p := piled_leB (B := 50000) (ts := PyData.shownAll ds) fun t ht => by
      obtain ⟨d, hd, rfl⟩ := shownAll_mem ht
      exact (hs d hd).2.1
    rw [shownAll_len] at p
    have := listText_le (PyData.shownAll ds)
    have hb : 6000000 ≤ sizeLine := by decide
    have : 50002 * ds.length ≤ 50002 * 100 := Nat.mul_le_mul_left _ hl
    omega
theorem sign_small (x : Str) (h : ∃ s : String, x = Str.ofString s) : ∀ c ∈ x.cps.toList, c < 16 ^ 8 := by
  obtain ⟨s, rfl⟩ := h
  intro c hc
  rw [signs_ofString] at hc
  obtain ⟨ch, _, e⟩ := List.mem_map.mp hc
  rw [← e]
  exact Nat.lt_of_lt_of_le ch.val.toNat_lt (by decide)
theorem app_small {a b : Str} (ha : ∀ c ∈ a.cps.toList, c < 16 ^ 8) (hb : ∀ c ∈ b.cps.toList, c < 16 ^ 8) : ∀ c ∈ (a ++ b).cps.toList, c < 16 ^ 8 := by
  intro c hc
  have e : (a ++ b).cps.toList = a.cps.toList ++ b.cps.toList := by
    obtain ⟨a⟩ := a
    obtain ⟨b⟩ := b
    exact Array.toList_append
  rw [e] at hc
  rcases List.mem_append.mp hc with h | h
  · exact ha c h
  · exact hb c h
theorem fr_len {n d : Int} (hn : n.natAbs < 2 ^ 300) (hd : d.natAbs < 2 ^ 300) : (frText n d).length ≤ 3900 ∧ ∀ c ∈ (frText n d).cps.toList, c < 16 ^ 8 := by
  have a := num_len hn
  have b := num_len hd
  unfold frText
  constructor
  · rw [str_len]
    split
    · show (numT n).length + 0 ≤ _
      omega
    · rw [str_len]
      show (numT n).length + (1 + (numT d).length) ≤ _
      omega
  · refine app_small (sign_small _ ⟨_, rfl⟩) ?_
    split
    · intro c hc
      exact absurd hc (by simp [Str.empty])
    · exact app_small (sign_small _ ⟨"/", rfl⟩) (sign_small _ ⟨_, rfl⟩)
theorem fr_shown {n d : Int} (hn : n.natAbs < 2 ^ 300) (hd : d.natAbs < 2 ^ 300) : (PyData.str (frText n d)).shown.length ≤ 50000 := by
  rw [PyData.shown]
  have := PySem.StrLaws.reprText_len (frText n d) (fr_len hn hd).2
  have := (fr_len hn hd).1
  omega
theorem mul_bd {x y X Y : Int} (hX : 0 ≤ X) (x0 : -X ≤ x) (x1 : x ≤ X) (y0 : -Y ≤ y) (y1 : y ≤ Y) : -(X * Y) ≤ x * y ∧ x * y ≤ X * Y := by
  have h1 : x.natAbs ≤ X.natAbs := by omega
  have h2 : y.natAbs ≤ Y.natAbs := by omega
  have h3 : (x * y).natAbs ≤ (X * Y).natAbs := by
    rw [Int.natAbs_mul, Int.natAbs_mul]
    exact Nat.mul_le_mul h1 h2
  have h4 : 0 ≤ X * Y := Int.mul_nonneg hX (by omega)
  omega
/-- the three results of two fractions -/
structure Res (n d m e : Int) : Prop where
  D : d * e ≠ 0
  D8 : (d * e).natAbs < 2 ^ 8000
  a : (redu (n * e + d * m) (d * e)).1.natAbs < 2 ^ 300 ∧ (redu (n * e + d * m) (d * e)).2.natAbs < 2 ^ 300
  b : (redu (n * e - d * m) (d * e)).1.natAbs < 2 ^ 300 ∧ (redu (n * e - d * m) (d * e)).2.natAbs < 2 ^ 300
  c : (redu (n * m) (d * e)).1.natAbs < 2 ^ 300 ∧ (redu (n * m) (d * e)).2.natAbs < 2 ^ 300
theorem res_of {n d m e : Int} (f : FrI n d) (g : FrI m e) : Res n d m e := by
  obtain ⟨n0, n1, d0, d1, _⟩ := f
  obtain ⟨m0, m1, e0, e1, _⟩ := g
  have h1 := mul_bd (X := 10 ^ 39) (Y := 10 ^ 8) (by decide) n0 n1 (show -(10 ^ 8) ≤ e by omega) e1
  have h2 := mul_bd (X := 10 ^ 8) (Y := 10 ^ 39) (by decide) (show -(10 ^ 8) ≤ d by omega) d1 m0 m1
  have h3 := mul_bd (X := 10 ^ 39) (Y := 10 ^ 39) (by decide) n0 n1 m0 m1
  have h4 := mul_bd (X := 10 ^ 8) (Y := 10 ^ 8) (by decide) (show -(10 ^ 8) ≤ d by omega) d1 (show -(10 ^ 8) ≤ e by omega) e1
  have hD : d * e ≠ 0 := mul_ne (by omega) (by omega)
  refine ⟨hD, Nat.lt_of_lt_of_le (small200 (by omega) (by omega)) (Nat.pow_le_pow_right (by decide) (by decide)), ?_, ?_, ?_⟩
  · exact redu_small hD (by omega) (by omega) (by omega) (by omega)
  · exact redu_small hD (by omega) (by omega) (by omega) (by omega)
  · exact redu_small hD (by omega) (by omega) (by omega) (by omega)
end K00

set_option Elab.async false
set_option linter.all false
set_option maxRecDepth 100000
namespace K00
open PySem PySem.Spec PyProof.Rows L2 Vg
abbrev sLaw : Stmt := topS 31
abbrev nLaw : List Str := ["script", "bag", "lots", "lot", "at", "great", "near", "far", "turn", "one", "other", "a", "b", "c", "d", "factor", "due", "found", "order", "text"]
theorem scLaw : FnScope nLaw ["script"] (defScope sLaw) := ⟨rfl, rfl, rfl, by decide +kernel, rfl, by decide +kernel, by decide +kernel⟩
section
variable {P : Program} {w : World} {K : PySem.W.Frag} {mg : Str → Option Value} {base : Heap}
variable {cls : List Addr}
def spLaw (K : PySem.W.Frag) : Sp := fun vs H Q _ => ∃ (a : Addr) (ns : List Int), vs = [.ref a] ∧ SqL K H a (ns.map V.int) ∧ ns.length ≤ 63 ∧ ∀ H', Q (.bl true) H'
/-- a list of pairs, as data -/
theorem dq_pairs {H : Hp} : ∀ {ps : List (Addr × (Int × Int))}, (∀ q ∈ ps, H q.1 = some (.tup [.int q.2.1, .int q.2.2])) → DqAll K H (ps.map fun q => .ref q.1) (ps.map fun q => pairD q.2)
  | [], _ => .nil
  | q :: ps, h => .cons (dq_pair (h q List.mem_cons_self)) (dq_pairs fun r hr => h r (List.mem_cons_of_mem _ hr))
theorem ok_law {f fBag fTak fSom fOdd fErs fIer fAli fFra fLrd fRed fAdd fLes fTim fCmp fTxt : Addr} {fd dBag dTak dSom dOdd dErs dIer dAli dFra dLrd dRed dAdd dLes dTim dCmp dTxt : FuncData} (F : Fun K "law" "law" sLaw f fd)
    (z_range : mg "range" = none) (z_int : mg "int" = none) (z_str : mg "str" = none)
    (d_law_bag : Dn K mg "_law_bag" fBag dBag ["script"]) (G_law_bag : FnOk P w K mg base CX0 1 fBag dBag ["script"] (spBag K))
    (d_law_take : Dn K mg "_law_take" fTak dTak ["bag", "many"]) (G_law_take : FnOk P w K mg base CX0 1 fTak dTak ["bag", "many"] spTak)
    (d_law_some : Dn K mg "_law_some" fSom dSom ["bag", "things"]) (G_law_some : FnOk P w K mg base CX0 2 fSom dSom ["bag", "things"] spSom)
    (d_law_odd : Dn K mg "_law_odd" fOdd dOdd ["bag"]) (G_law_odd : FnOk P w K mg base CX0 3 fOdd dOdd ["bag"] (spOdd K))
    (d_law_errors : Dn K mg "_law_errors" fErs dErs ["one", "two"]) (G_law_errors : FnOk P w K mg base CX0 3 fErs dErs ["one", "two"] (spErs cls))
    (d_law_is_error_right : Dn K mg "_law_is_error_right" fIer dIer ["lot", "at"]) (G_law_is_error_right : GOk P w K mg base 2 fIer dIer ["lot", "at"] (spIer K cls))
    (d_law_alike : Dn K mg "_law_alike" fAli dAli ["found", "due"]) (G_law_alike : GOk P w K mg base 1 fAli dAli ["found", "due"] (spAli K))
    (d_law_fraction : Dn K mg "_law_fraction" fFra dFra ["bag"]) (G_law_fraction : FnOk P w K mg base CX0 4 fFra dFra ["bag"] spFra)
    (d_law_reduced : Dn K mg "_law_reduced" fLrd dLrd ["n", "d"]) (G_law_reduced : FnOk P w K mg base CX0 2 fLrd dLrd ["n", "d"] spRed)
    (d_reduced : Dn K mg "reduced" fRed dRed ["n", "d"]) (G_reduced : FnOk P w K mg base CX0 1 fRed dRed ["n", "d"] spRed)
    (d_added : Dn K mg "added" fAdd dAdd ["one", "other"]) (G_added : FnOk P w K mg base CX0 2 fAdd dAdd ["one", "other"] (spFr fun n d m e => n * e + m * d))
    (d_lessened : Dn K mg "lessened" fLes dLes ["one", "other"]) (G_lessened : FnOk P w K mg base CX0 2 fLes dLes ["one", "other"] (spFr fun n d m e => n * e - m * d))
    (d_times : Dn K mg "times" fTim dTim ["one", "other"]) (G_times : FnOk P w K mg base CX0 2 fTim dTim ["one", "other"] (spFr fun n _ m _ => n * m))
    (d_compared : Dn K mg "compared" fCmp dCmp ["one", "other"]) (G_compared : FnOk P w K mg base CX0 1 fCmp dCmp ["one", "other"] spCmp)
    (d_fraction_text : Dn K mg "fraction_text" fTxt dTxt ["fraction"]) (G_fraction_text : FnOk P w K mg base CX0 1 fTxt dTxt ["fraction"] spTxt) :
    GOk P w K mg base 5 f fd ["script"] (spLaw K) := by
  have sc := scLaw
  refine gok_fun F sc (fun vs H Q E h => ?_) (fun cdv A outer s H vs Q E g hr h => ?_)
  · obtain ⟨a, ns, rfl, _⟩ := h
    rfl
  · obtain ⟨a, ns, rfl, hS, hl, q⟩ := h
    refine ⟨_, (pss_cons (ps_set (i := 1) sc.nd rfl (Or.inl rfl) (pe_call G_law_bag (hr.mono (by decide)) (by rfl) d_law_bag.m d_law_bag.k d_law_bag.b .nil pass0 (pa_cons (pv 0) pa_nil)))
        (pss_cons (ps_set (i := 2) sc.nd rfl (Or.inl rfl) (pe_lstS (pa_cons (pe_call G_law_errors (hr.mono (by decide)) (by rfl) d_law_errors.m d_law_errors.k d_law_errors.b .nil pass0 (pa_cons (pe_call G_law_odd (hr.mono (by decide)) (by rfl) d_law_odd.m d_law_odd.k d_law_odd.b .nil pass0 (pa_cons (pv 1) pa_nil)) (pa_cons (pe_lstS (pa_cons (pe_call G_law_odd (hr.mono (by decide)) (by rfl) d_law_odd.m d_law_odd.k d_law_odd.b .nil pass0 (pa_cons (pv 1) pa_nil)) pa_nil)) pa_nil))) (pa_cons (pe_call G_law_errors (hr.mono (by decide)) (by rfl) d_law_errors.m d_law_errors.k d_law_errors.b .nil pass0 (pa_cons (pe_lstS (pa_cons (pe_call G_law_odd (hr.mono (by decide)) (by rfl) d_law_odd.m d_law_odd.k d_law_odd.b .nil pass0 (pa_cons (pv 1) pa_nil)) pa_nil)) (pa_cons (pe_call G_law_odd (hr.mono (by decide)) (by rfl) d_law_odd.m d_law_odd.k d_law_odd.b .nil pass0 (pa_cons (pv 1) pa_nil)) pa_nil))) pa_nil))))
        (C8.pss_cut (ps_for PassesOwn.never rfl (pi_list (pv 2)) (pg_name (i := 3) sc.nd rfl (Or.inr rfl)) (pss_one (ps_if (pt_cmpR (op_neD (hu64 hr)) (pe_lc (own := [("at", 4)]) (g := gName 4) (by rfl) sc.nd (pi_range1 rfl z_range (pa_cons pe_int pa_nil)) (blkOk_by (N := nLaw) (sc := defScope sLaw) (by decide +kernel)) (fun _ _ _ _ _ => pg_name (i := 4) sc.nd rfl (Or.inl rfl)) (fun _ _ _ _ _ => (pts_one (pt_not (pt_val (pe_callG G_law_is_error_right g (hr.mono (by decide)) (by rfl) d_law_is_error_right.m d_law_is_error_right.k d_law_is_error_right.b (pa_cons (pv 3) (pa_cons (pv 4) pa_nil))))))) (fun _ _ _ _ _ => (pv 4))) (pe_lstS pa_nil) (nomark _)) (pss_one (ps_ret pe_bl)) pss_nil)))
        (C8.pss_cut (ps_set (i := 5) sc.nd rfl (Or.inl rfl) (pe_op op_add (pe_op op_pow pe_int pe_int) (pe_call G_law_take (hr.mono (by decide)) (by rfl) d_law_take.m d_law_take.k d_law_take.b .nil pass0 (pa_cons (pv 1) (pa_cons pe_int pa_nil)))))
        (pss_cons (ps_par (i := 6) (j := 7) rfl sc.nd rfl rfl (by decide) rfl rfl (pa_cons (pe_tup (pa_cons (pe_op op_add (pv 5) pe_int) (pa_cons (pv 5) pa_nil))) (pa_cons (pe_tup (pa_cons (pv 5) (pa_cons (pe_op op_sub (pv 5) pe_int) pa_nil))) pa_nil)) (by rfl))
        (pss_cons (ps_if (pt_not (pt_val (pe_callG G_law_alike g (hr.mono (by decide)) (by rfl) d_law_alike.m d_law_alike.k d_law_alike.b (pa_cons (pe_lstS (pa_cons (pe_call G_compared (hr.mono (by decide)) (by rfl) d_compared.m d_compared.k d_compared.b .nil pass0 (pa_cons (pv 6) (pa_cons (pv 7) pa_nil))) (pa_cons (pe_call G_compared (hr.mono (by decide)) (by rfl) d_compared.m d_compared.k d_compared.b .nil pass0 (pa_cons (pv 7) (pa_cons (pv 6) pa_nil))) (pa_cons (pe_call G_compared (hr.mono (by decide)) (by rfl) d_compared.m d_compared.k d_compared.b .nil pass0 (pa_cons (pv 6) (pa_cons (pv 6) pa_nil))) pa_nil)))) (pa_cons (pe_lstS (pa_cons (pe_un un_neg pe_int) (pa_cons pe_int (pa_cons pe_int pa_nil)))) pa_nil))))) (pss_one (ps_ret pe_bl)) pss_nil)
        (pss_cons (ps_for PassesOwn.never rfl (pi_range1 rfl z_range (pa_cons pe_int pa_nil)) (pg_name (i := 8) sc.nd rfl (Or.inl rfl)) (pss_cons (ps_par (i := 9) (j := 10) rfl sc.nd rfl rfl (by decide) rfl rfl (pa_cons (pe_call G_law_fraction (hr.mono (by decide)) (by rfl) d_law_fraction.m d_law_fraction.k d_law_fraction.b .nil pass0 (pa_cons (pv 1) pa_nil)) (pa_cons (pe_call G_law_fraction (hr.mono (by decide)) (by rfl) d_law_fraction.m d_law_fraction.k d_law_fraction.b .nil pass0 (pa_cons (pv 1) pa_nil)) pa_nil)) (by rfl))
        (pss_cons (ps_asg (pv 9) (pg_tup rfl (pgs_cons (pg_name (i := 11) sc.nd rfl (Or.inl rfl)) (pgs_cons (pg_name (i := 12) sc.nd rfl (Or.inl rfl)) pgs_nil))))
        (pss_cons (ps_asg (pv 10) (pg_tup rfl (pgs_cons (pg_name (i := 13) sc.nd rfl (Or.inl rfl)) (pgs_cons (pg_name (i := 14) sc.nd rfl (Or.inl rfl)) pgs_nil))))
        (C8.pss_cut (ps_set (i := 15) sc.nd rfl (Or.inl rfl) (pe_call G_law_some (hr.mono (by decide)) (by rfl) d_law_some.m d_law_some.k d_law_some.b .nil pass0 (pa_cons (pv 1) (pa_cons (pe_lstS (pa_cons pe_int (pa_cons (pe_un un_neg pe_int) (pa_cons pe_int (pa_cons (pe_un un_neg pe_int) pa_nil))))) pa_nil))))
        (C8.pss_cut (ps_set (i := 16) sc.nd rfl (Or.inl rfl) (pe_lstS (pa_cons (pv 9) (pa_cons (pe_call G_law_reduced (hr.mono (by decide)) (by rfl) d_law_reduced.m d_law_reduced.k d_law_reduced.b .nil pass0 (pa_cons (pe_op op_add (pe_op op_mulW (pv 11) (pv 14)) (pe_op op_mulW (pv 12) (pv 13))) (pa_cons (pe_op op_mulW (pv 12) (pv 14)) pa_nil))) (pa_cons (pe_call G_law_reduced (hr.mono (by decide)) (by rfl) d_law_reduced.m d_law_reduced.k d_law_reduced.b .nil pass0 (pa_cons (pe_op op_sub (pe_op op_mulW (pv 11) (pv 14)) (pe_op op_mulW (pv 12) (pv 13))) (pa_cons (pe_op op_mulW (pv 12) (pv 14)) pa_nil))) (pa_cons (pe_call G_law_reduced (hr.mono (by decide)) (by rfl) d_law_reduced.m d_law_reduced.k d_law_reduced.b .nil pass0 (pa_cons (pe_op op_mulW (pv 11) (pv 13)) (pa_cons (pe_op op_mulW (pv 12) (pv 14)) pa_nil))) pa_nil))))))
        (C8.pss_cut (ps_set (i := 17) sc.nd rfl (Or.inl rfl) (pe_lstS (pa_cons (pe_call G_reduced (hr.mono (by decide)) (by rfl) d_reduced.m d_reduced.k d_reduced.b .nil pass0 (pa_cons (pe_op op_mulW (pv 11) (pv 15)) (pa_cons (pe_op op_mulW (pv 12) (pv 15)) pa_nil))) (pa_cons (pe_call G_added (hr.mono (by decide)) (by rfl) d_added.m d_added.k d_added.b .nil pass0 (pa_cons (pv 9) (pa_cons (pv 10) pa_nil))) (pa_cons (pe_call G_lessened (hr.mono (by decide)) (by rfl) d_lessened.m d_lessened.k d_lessened.b .nil pass0 (pa_cons (pv 9) (pa_cons (pv 10) pa_nil))) (pa_cons (pe_call G_times (hr.mono (by decide)) (by rfl) d_times.m d_times.k d_times.b .nil pass0 (pa_cons (pv 9) (pa_cons (pv 10) pa_nil))) pa_nil))))))
        (pss_cons (ps_if (pt_not (pt_val (pe_callG G_law_alike g (hr.mono (by decide)) (by rfl) d_law_alike.m d_law_alike.k d_law_alike.b (pa_cons (pv 17) (pa_cons (pv 16) pa_nil))))) (pss_one (ps_ret pe_bl)) pss_nil)
        (C8.pss_cut (ps_set (i := 18) sc.nd rfl (Or.inl rfl) (pe_op op_sub (pe_callTy call_int1 (by rfl) z_int (by decide +kernel) (pa_cons (pe_cmpR op_gt (pe_op op_mulW (pv 11) (pv 14)) (pe_op op_mulW (pv 12) (pv 13)) (nomark _)) pa_nil)) (pe_callTy call_int1 (by rfl) z_int (by decide +kernel) (pa_cons (pe_cmpR op_lt (pe_op op_mulW (pv 11) (pv 14)) (pe_op op_mulW (pv 12) (pv 13)) (nomark _)) pa_nil))))
        (C8.pss_cut (ps_set (i := 19) sc.nd rfl (Or.inl rfl) (pe_op op_add_str (pe_callTy call_str_int (by rfl) z_str (by decide +kernel) (pa_cons (pv 11) pa_nil)) (pe_ifExp (pt_cmpR op_ne (pv 12) pe_int (nomark _)) (pe_op op_add_str pe_str (pe_callTy call_str_int (by rfl) z_str (by decide +kernel) (pa_cons (pv 12) pa_nil))) pe_str)))
        (pss_one (ps_if (pt_not (pt_val (pe_callG G_law_alike g (hr.mono (by decide)) (by rfl) d_law_alike.m d_law_alike.k d_law_alike.b (pa_cons (pe_lstS (pa_cons (pe_call G_compared (hr.mono (by decide)) (by rfl) d_compared.m d_compared.k d_compared.b .nil pass0 (pa_cons (pv 9) (pa_cons (pv 10) pa_nil))) (pa_cons (pe_call G_fraction_text (hr.mono (by decide)) (by rfl) d_fraction_text.m d_fraction_text.k d_fraction_text.b .nil pass0 (pa_cons (pv 9) pa_nil)) pa_nil))) (pa_cons (pe_lstS (pa_cons (pv 18) (pa_cons (pv 19) pa_nil))) pa_nil))))) (pss_one (ps_ret pe_bl)) pss_nil))))))))))))
        (pss_one (ps_ret pe_bl))))))))), ?_⟩
    -- bag
    refine ⟨_, rfl, a, ns, rfl, hS, hl, fun H1 b l s1 nb nl B1 => ?_⟩
    -- lots
    refine ⟨_, rfl, b, l, rfl, B1, fun v1 H2 o1 k2 B2 => ?_⟩
    refine ⟨_, rfl, b, l, rfl, B2, fun v2 H3 o2 k3 B3 => ?_⟩
    refine ⟨(by show 1 ≤ sizeLine; decide), fun a2 n2 y2 => ?_⟩
    generalize g4 : upd H3 a2 _ = H4
    refine ⟨v1, .ref a2, rfl, fun H5 t1 s5 L1 => ?_⟩
    have S4 := same_eq g4 n2
    have B4 := B3.same S4
    have B5 := B4.same s5
    refine ⟨_, rfl, b, l, rfl, B5, fun v3 H6 o3 k6 B6 => ?_⟩
    refine ⟨(by show 1 ≤ sizeLine; decide), fun a3 n3 y3 => ?_⟩
    generalize g7 : upd H6 a3 _ = H7
    have S7 := same_eq g7 n3
    have B7 := B6.same S7
    refine ⟨_, rfl, b, l, rfl, B7, fun v4 H8 o4 k8 B8 => ?_⟩
    refine ⟨.ref a3, v4, rfl, fun H9 t2 s9 L2 => ?_⟩
    refine ⟨(by show 2 ≤ sizeLine; decide), fun L nL _ => ?_⟩
    generalize g10 : upd H9 L _ = H10
    have S10 := same_eq g10 nL
    have B9 := B8.same s9
    have B10 := B9.same S10
    have hL : H10 L = some (.lst [.ref t1, .ref t2]) := by
      rw [← g10]
      exact upd_same
    have q4 : H4 a2 = some (.lst [v2]) := by
      rw [← g4]
      exact upd_same
    have q7 : H7 a3 = some (.lst [v3]) := by
      rw [← g7]
      exact upd_same
    -- who is there when
    have i12 : ∀ x, H1 x ≠ none → H2 x ≠ none := fun x h => kept_in k2 B2 h
    have i23 : ∀ x, H2 x ≠ none → H3 x ≠ none := fun x h => kept_in k3 B3 h
    have i34 : ∀ x, H3 x ≠ none → H4 x ≠ none := fun x h => same_in S4 h
    have i45 : ∀ x, H4 x ≠ none → H5 x ≠ none := fun x h => same_in s5 h
    have i56 : ∀ x, H5 x ≠ none → H6 x ≠ none := fun x h => kept_in k6 B6 h
    have i67 : ∀ x, H6 x ≠ none → H7 x ≠ none := fun x h => same_in S7 h
    have i78 : ∀ x, H7 x ≠ none → H8 x ≠ none := fun x h => kept_in k8 B8 h
    have i89 : ∀ x, H8 x ≠ none → H9 x ≠ none := fun x h => same_in s9 h
    have i9 : ∀ x, H9 x ≠ none → H10 x ≠ none := fun x h => same_in S10 h
    have p2 : H4 a2 ≠ none := by
      rw [q4]
      exact fun z => by cases z
    have p3 : H7 a3 ≠ none := by
      rw [q7]
      exact fun z => by cases z
    have bk9 : Kept b H9 H10 := Kept.of S10
    have bk8 : Kept b H8 H10 := (Kept.of s9).trans bk9
    have bk7 : Kept b H7 H10 := k8.trans bk8
    have bk6 : Kept b H6 H10 := (Kept.of S7).trans bk7
    have bk5 : Kept b H5 H10 := k6.trans bk6
    have bk4 : Kept b H4 H10 := (Kept.of s5).trans bk5
    have bk3 : Kept b H3 H10 := (Kept.of S4).trans bk4
    have bk2 : Kept b H2 H10 := k3.trans bk3
    obtain ⟨M1, m1, T1⟩ := odd_th o1
    obtain ⟨M4, m4, T4⟩ := odd_th o4
    let M : List Addr := a2 :: a3 :: (M1 ++ M4)
    -- of what age the things are
    have age : ∀ m ∈ M, m = a2 ∨ m = a3 ∨ m ∈ M1 ∨ m ∈ M4 := fun m h => by
      rcases List.mem_cons.mp h with h | h
      · exact .inl h
      · rcases List.mem_cons.mp h with h | h
        · exact .inr (.inl h)
        · rcases List.mem_append.mp h with h | h
          · exact .inr (.inr (.inl h))
          · exact .inr (.inr (.inr h))
    have no (A B : Hp) (x : Addr) (i : ∀ x, A x ≠ none → B x ≠ none) (h : B x = none) : A x = none := Classical.byContradiction fun z => i x z h
    have nb : b ∉ M := fun h => by
      have b1 := bag_in B1
      rcases age b h with e | e | e | e
      · exact bag_in B3 (e ▸ n2)
      · exact bag_in B6 (e ▸ n3)
      · exact b1 (m1 b e).1
      · exact bag_in B7 (m4 b e).1
    have lin : H1 l ≠ none := by
      obtain ⟨c, st, at_, ns, _, _, h3, _⟩ := B1
      rw [h3]
      exact fun z => by cases z
    have nl : l ∉ M := fun h => by
      rcases age l h with e | e | e | e
      · exact i23 _ (i12 _ lin) (e ▸ n2)
      · exact i56 _ (i45 _ (i34 _ (i23 _ (i12 _ lin)))) (e ▸ n3)
      · exact lin (m1 l e).1
      · exact i67 _ (i56 _ (i45 _ (i34 _ (i23 _ (i12 _ lin))))) (m4 l e).1
    have a2b : a2 ≠ b := bag_ne B3 n2
    have a3b : a3 ≠ b := bag_ne B6 n3
    have mem2 : a2 ∈ M := List.mem_cons_self
    have mem3 : a3 ∈ M := List.mem_cons_of_mem _ List.mem_cons_self
    have sub1 : ∀ m ∈ M1, m ∈ M := fun m h => List.mem_cons_of_mem _ (List.mem_cons_of_mem _ (List.mem_append_left _ h))
    have sub4 : ∀ m ∈ M4, m ∈ M := fun m h => List.mem_cons_of_mem _ (List.mem_cons_of_mem _ (List.mem_append_right _ h))
    -- a2: not in H3, in H4; a3: not in H6, in H7; M1: in H2; M4: not in H7, in H8
    have a2no2 : H2 a2 = none := no H2 H3 a2 i23 n2
    have a3no5 : H5 a3 = none := no H5 H6 a3 i56 n3
    have a3no4 : H4 a3 = none := no H4 H5 a3 i45 a3no5
    have a3no3 : H3 a3 = none := no H3 H4 a3 i34 a3no4
    have a3no2 : H2 a3 = none := no H2 H3 a3 i23 a3no3
    have m4no6 : ∀ m ∈ M4, H6 m = none := fun m h => no H6 H7 m i67 (m4 m h).1
    have m4no5 : ∀ m ∈ M4, H5 m = none := fun m h => no H5 H6 m i56 (m4no6 m h)
    have m4no4 : ∀ m ∈ M4, H4 m = none := fun m h => no H4 H5 m i45 (m4no5 m h)
    have m4no3 : ∀ m ∈ M4, H3 m = none := fun m h => no H3 H4 m i34 (m4no4 m h)
    have m4no2 : ∀ m ∈ M4, H2 m = none := fun m h => no H2 H3 m i23 (m4no3 m h)
    have m1in4 : ∀ m ∈ M1, H4 m ≠ none := fun m h => i34 _ (i23 _ (m1 m h).2)
    have m1in5 : ∀ m ∈ M1, H5 m ≠ none := fun m h => i45 _ (m1in4 m h)
    have m1in7 : ∀ m ∈ M1, H7 m ≠ none := fun m h => i67 _ (i56 _ (m1in5 m h))
    have a2in5 : H5 a2 ≠ none := i45 _ p2
    have a2in7 : H7 a2 ≠ none := i67 _ (i56 _ a2in5)
    have thv1 : Th K M H10 1 v1 := T1 M H10 b sub1 (fun m h => by
      rcases age m h with e | e | e | e
      · exact .inr (.inr (e ▸ a2no2))
      · exact .inr (.inr (e ▸ a3no2))
      · exact .inl e
      · exact .inr (.inr (m4no2 m e))) bk2 (bag_in B1)
    have tha2 : Th K M H10 1 (.ref a2) := one_th o2 (fun m h => by
      rcases age m h with e | e | e | e
      · exact .inr (e ▸ n2)
      · exact .inr (e ▸ a3no3)
      · exact .inl (m1 m e).2
      · exact .inr (m4no3 m e)) bk3 (bag_in B2) mem2 (bk4 _ _ a2b q4) y2
    have tha3 : Th K M H10 1 (.ref a3) := one_th o3 (fun m h => by
      rcases age m h with e | e | e | e
      · exact .inl (e ▸ a2in5)
      · exact .inr (e ▸ n3)
      · exact .inl (m1in5 m e)
      · exact .inr (m4no6 m e)) bk6 (bag_in B5) mem3 (bk7 _ _ a3b q7) y3
    have thv4 : Th K M H10 1 v4 := T4 M H10 b sub4 (fun m h => by
      rcases age m h with e | e | e | e
      · exact .inr (.inl (e ▸ a2in7))
      · exact .inr (.inl (e ▸ p3))
      · exact .inr (.inl (m1in7 m e))
      · exact .inl e) bk8 (bag_in B7)
    have lot1 : LotAt (hide M H10) cls t1 v1 (.ref a2) := L1.same (piece (fun m h => by
      rcases age m h with e | e | e | e
      · exact .inl (e ▸ p2)
      · exact .inr (e ▸ a3no5)
      · exact .inl (m1in4 m e)
      · exact .inr (m4no5 m e)) bk5 (bag_in B4))
    have in8 : ∀ m ∈ M, H8 m ≠ none := fun m h => by
      rcases age m h with e | e | e | e
      · exact e ▸ i78 _ a2in7
      · exact e ▸ i78 _ p3
      · exact i78 _ (m1in7 m e)
      · exact (m4 m e).2
    have lot2 : LotAt (hide M H10) cls t2 (.ref a3) v4 := L2.same (piece (fun m h => .inl (in8 m h)) bk9 (bag_in B8))
    have in10 : ∀ m ∈ M, H10 m ≠ none := fun m h => i9 _ (i89 _ (in8 m h))
    have nLM : L ∉ M := fun h => i89 _ (in8 L h) nL
    have hLh := hide_at nLM hL
    let vs : List V := [v1, .ref a2, .ref a3, v4]
    have hvs : ∀ v ∈ vs, Th K M H10 1 v := fun v h => by
      simp only [vs, List.mem_cons, List.not_mem_nil, or_false] at h
      rcases h with rfl | rfl | rfl | rfl
      · exact thv1
      · exact tha2
      · exact tha3
      · exact thv4
    have lots : ∀ (j : Nat) (x : V), ([V.ref t1, V.ref t2] : List V)[j]? = some x → j < 2 ∧ ∃ t xx yy, x = .ref t ∧ LotAt (hide M H10) cls t xx yy ∧ xx ∈ vs ∧ yy ∈ vs := fun j x h => by
      match j, h with
      | 0, h => cases h; exact ⟨by decide, t1, v1, .ref a2, rfl, lot1, by simp [vs], by simp [vs]⟩
      | 1, h => cases h; exact ⟨by decide, t2, .ref a3, v4, rfl, lot2, by simp [vs], by simp [vs]⟩
      | n + 2, h => exact absurd h (by simp)
    refine ⟨fun σ' H' => (∃ y3, σ' = [some (.ref a), some (.ref b), some (.ref L), y3, none, none, none, none, none, none, none, none, none, none, none, none, none, none, none, none]) ∧ Bag l H' b, ?_, ?_⟩
    · refine ⟨_, rfl, L, rfl, ⟨_, .inl (.inl hL)⟩, for_list (K := K) (a := L) (xs := [.ref t1, .ref t2]) (fun j σ' H' => (∃ y3, σ' = [some (.ref a), some (.ref b), some (.ref L), y3, none, none, none, none, none, none, none, none, none, none, none, none, none, none, none, none]) ∧ Same (hide M H10) (hide M H') ∧ (∀ m ∈ M, H' m ≠ none) ∧ ∀ v ∈ vs, Th K M H' (1 + 8 * j) v) ?_ ?_ ?_ ?_⟩
      · exact ⟨⟨_, rfl⟩, Same.refl _, in10, hvs⟩
      · rintro j σ' H' _ ⟨_, hs', _⟩
        exact .inl (.inl (hide_le _ _ (hs' _ _ hLh)))
      · rintro j x σ' H' hx ⟨⟨y3, rfl⟩, hs', hm', hT'⟩
        obtain ⟨hj, t, xx, yy, rfl, hlot, mx, my⟩ := lots j x hx
        refine ⟨8, rfl, by decide, by decide, fun D hD => ?_⟩
        have nD : D ∉ M := fun z => hm' D z hD
        refine lc_range (lo := 0) (n := 8) (fun i H'' => H'' D = some (.lst []) ∧ Same (hide M H') (hide M H'') ∧ (∀ m, H' m ≠ none → H'' m ≠ none) ∧ ∀ v ∈ vs, Th K M H'' (1 + 8 * j + i) v) ?_ ?_ ?_
        · exact ⟨upd_same, hide_same (same_new hD), fun m h => same_in (same_new hD) h, fun v hv => (hT' v hv).up (same_new hD)⟩
        · rintro i H'' hi ⟨hD', hs'', hg'', hT''⟩
          rw [show (0 : Int) + (i : Int) = i from Int.zero_add _]
          refine ⟨rfl, ?_⟩
          refine ⟨_, rfl, _, rfl, t, i, 1 + 8 * j + i, M, xx, yy, vs, rfl, hi, by omega, hlot.same (hs'.trans hs''), mx, my, hT'', fun H3' s3 g3 T3 => ⟨true, rfl, iteF ⟨hide_le _ _ (s3 _ _ (hide_at nD hD')), hs''.trans s3, fun m h => g3 m (hg'' m h), T3⟩⟩⟩
        · rintro H'' ⟨hD', hs'', hg'', hT''⟩
          refine ⟨Nat.zero_le _, fun p np _ => ?_⟩
          have sp : Same H'' (upd H'' p (.lst [])) := same_new np
          refine ⟨.list [], .list [], .lst (.inl (.inl (sp _ _ hD'))) .nil, .lst (.inl (.inl upd_same)) .nil, by decide +kernel, by decide +kernel, ?_⟩
          have e : (!PyData.eqv (.list []) (.list [])) = false := by decide +kernel
          rw [e]
          refine ⟨_, rfl, iteF ⟨⟨_, rfl⟩, (hs'.trans hs'').trans (hide_same sp), fun m h => same_in sp (hg'' m (hm' m h)), fun v hv => ?_⟩⟩
          exact ((hT'' v hv).up sp).more (by omega)
      · rintro σ' H' ⟨⟨y3, rfl⟩, hs', _, _⟩
        exact ⟨⟨_, rfl⟩, B10.hid nb nl hs'⟩
    · rintro σ' G0 ⟨⟨y3, rfl⟩, BG⟩
      clear T1 T4 lots hvs lot1 lot2 thv1 tha2 tha3 thv4 age sub1 sub4 L1 L2 o1 o2 o3 o4
      -- great
      refine ⟨fun σ' H' => (∃ gr : Int, σ' = [some (.ref a), some (.ref b), some (.ref L), y3, none, some (.int gr), none, none, none, none, none, none, none, none, none, none, none, none, none, none] ∧ 10 ^ 11 ≤ gr ∧ gr < 10 ^ 11 + 999) ∧ Bag l H' b, ?_, ?_⟩
      · exact ⟨10, 11, rfl, rfl, ⟨by decide, by decide, by decide⟩, _, rfl, b, l, 999, rfl, BG, by decide, by decide, fun v H' v0 v1 kp B' => ⟨_, v, rfl, rfl, ⟨_, rfl, show (10 : Int) ^ 11 ≤ 10 ^ 11 + v by omega, show (10 : Int) ^ 11 + v < 10 ^ 11 + 999 by omega⟩, B'⟩⟩
      rintro σ' G1 ⟨⟨gr, rfl, r0, r1⟩, B1'⟩
      -- near, far
      refine ⟨_, rfl, gr, 1, rfl, rfl, _, rfl, (by show 2 ≤ sizeLine; decide), fun pn nn => ?_⟩
      generalize e2 : upd G1 pn _ = G2
      have S2 := same_eq e2 nn
      have hn2 : G2 pn = some (.tup [.int (gr + 1), .int gr]) := by
        rw [← e2]
        exact upd_same
      refine ⟨_, rfl, _, rfl, gr, 1, rfl, rfl, (by show 2 ≤ sizeLine; decide), fun pf nf => ?_⟩
      generalize e3 : upd G2 pf _ = G3
      have S3 := same_eq e3 nf
      have hf3 : G3 pf = some (.tup [.int gr, .int (gr - 1)]) := by
        rw [← e3]
        exact upd_same
      have hn3 := S3 _ _ hn2
      have B3' := (B1'.same S2).same S3
      refine ⟨_, _, rfl, ?_⟩
      have w0 : gr.natAbs < 2 ^ 300 := small200 (by omega) (by omega)
      have w1 : (gr + 1).natAbs < 2 ^ 300 := small200 (by omega) (by omega)
      have w2 : (gr - 1).natAbs < 2 ^ 300 := small200 (by omega) (by omega)
      have sq : (gr + 1) * (gr - 1) = gr * gr - 1 := by
        rw [Int.add_mul, Int.mul_sub, Int.one_mul, Int.mul_one]
        omega
      have c1 : cmp2 ((gr + 1) * (gr - 1)) (gr * gr) = -1 := by
        unfold cmp2
        rw [if_pos (by omega)]
      have c2 : cmp2 (gr * gr) ((gr + 1) * (gr - 1)) = 1 := by
        unfold cmp2
        rw [if_neg (by omega), if_pos (by omega)]
      have c3 : cmp2 ((gr + 1) * gr) ((gr + 1) * gr) = 0 := by
        unfold cmp2
        rw [if_neg (Int.lt_irrefl _), if_neg (Int.lt_irrefl _)]
      refine ⟨_, rfl, _, rfl, gr + 1, gr, gr, gr - 1, ⟨⟨pn, pf, rfl, hn3, hf3⟩, w1, w0, w0, w2⟩, ?_⟩
      refine ⟨_, rfl, _, rfl, gr, gr - 1, gr + 1, gr, ⟨⟨pf, pn, rfl, hf3, hn3⟩, w0, w2, w1, w0⟩, ?_⟩
      refine ⟨_, rfl, _, rfl, gr + 1, gr, gr + 1, gr, ⟨⟨pn, pn, rfl, hn3, hn3⟩, w1, w0, w1, w0⟩, ?_⟩
      rw [c1, c2, c3]
      refine ⟨(by show 3 ≤ sizeLine; decide), fun pc nc yc => ?_⟩
      generalize e4 : upd G3 pc _ = G4
      have S4' := same_eq e4 nc
      have hc4 : G4 pc = some (.lst [.int (-1), .int 1, .int 0]) := by
        rw [← e4]
        exact upd_same
      refine ⟨1, rfl, (by show 3 ≤ sizeLine; decide), fun pd nd yd => ?_⟩
      generalize e5 : upd G4 pd _ = G5
      have S5' := same_eq e5 nd
      have hd5 : G5 pd = some (.lst [.int (-1), .int 1, .int 0]) := by
        rw [← e5]
        exact upd_same
      have three : DqAll K G5 [.int (-1), .int 1, .int 0] [.int (-1), .int 1, .int 0] := .cons (.int _) (.cons (.int _) (.cons (.int _) .nil))
      have al1 : Alike K G5 (.ref pc) (.ref pd) := alike_lists (.lst (.inl (.inl (S5' _ _ hc4))) yc three) (.lst (.inl (.inl hd5)) yd three) rfl (by decide) (fun d hd => by
        simp only [List.mem_cons, List.not_mem_nil, or_false] at hd
        rcases hd with rfl | rfl | rfl <;> exact ⟨by decide +kernel, by decide +kernel, by decide +kernel⟩)
      refine ⟨_, _, rfl, al1, true, rfl, iteF ?_⟩
      have B5' := (B3'.same S4').same S5'
      -- the turns
      refine ⟨8, rfl, by decide, by decide, for_range (lo := 0) (n := 8) (fun j σ' H' => (∃ y8 y9 y10 y11 y12 y13 y14 y15 y16 y17 y18 y19, σ' = [some (.ref a), some (.ref b), some (.ref L), y3, none, some (.int gr), some (.ref pn), some (.ref pf), y8, y9, y10, y11, y12, y13, y14, y15, y16, y17, y18, y19]) ∧ Bag l H' b) ?_ ?_ ?_⟩
      · exact ⟨⟨_, _, _, _, _, _, _, _, _, _, _, _, rfl⟩, B5'⟩
      · rintro j σ' H hj ⟨⟨y8, y9, y10, y11, y12, y13, y14, y15, y16, y17, y18, y19, rfl⟩, B⟩
        refine ⟨_, rfl, b, l, rfl, B, fun n d p1 H1 f1 k1 B1 np1 hp1 => ?_⟩
        refine ⟨_, rfl, b, l, rfl, B1, fun m e p2 H2 f2 k2 B2 np2 hp2 => ?_⟩
        have p1b := bag_ne B np1
        have hp1 := k2 _ _ p1b hp1
        refine ⟨_, _, rfl, ?_⟩
        refine ⟨_, rfl, p1, _, rfl, .inl (.inl hp1), rfl, _, _, rfl, _, _, rfl, rfl, ?_⟩
        refine ⟨_, rfl, p2, _, rfl, .inl (.inl hp2), rfl, _, _, rfl, _, _, rfl, rfl, ?_⟩
        have ff := f1.fr f2 hp1 hp2
        have dn := ff.hn
        have dd := ff.hd
        have dm := ff.hm
        have de := ff.he
        have d0 : d ≠ 0 := by
          have := f1.d0
          omega
        have e0 : e ≠ 0 := by
          have := f2.d0
          omega
        -- factor
        refine ⟨fun σ' H' => (∃ s : Int, σ' = [some (.ref a), some (.ref b), some (.ref L), y3, none, some (.int gr), some (.ref pn), some (.ref pf), some (.int (0 + (j : Int))), some (.ref p1), some (.ref p2), some (.int n), some (.int d), some (.int m), some (.int e), some (.int s), y16, y17, y18, y19] ∧ s ≠ 0 ∧ -35 ≤ s ∧ s ≤ 6) ∧ Bag l H' b ∧ H' p1 = some (.tup [.int n, .int d]) ∧ H' p2 = some (.tup [.int m, .int e]), ?_, ?_⟩
        · refine ⟨_, rfl, 1, rfl, 35, rfl, (by show 4 ≤ sizeLine; decide), fun pq nq _ => ?_⟩
          have sq := same_new (o := .lst [.int 1, .int (-1), .int 6, .int (-35)]) nq
          refine ⟨b, l, pq, [.int 1, .int (-1), .int 6, .int (-35)], rfl, B2.same sq, bag_ne B2 nq, upd_same, (by show 0 < 4; decide), (by show 4 ≤ 1000; decide), fun v H' hv kp B' => ?_⟩
          have p2b := bag_ne B1 np2
          refine ⟨?_, B', kp _ _ p1b (sq _ _ hp1), kp _ _ p2b (sq _ _ hp2)⟩
          simp only [List.mem_cons, List.not_mem_nil, or_false] at hv
          rcases hv with rfl | rfl | rfl | rfl
          · exact ⟨_, rfl, by decide, by decide, by decide⟩
          · exact ⟨_, rfl, by decide, by decide, by decide⟩
          · exact ⟨_, rfl, by decide, by decide, by decide⟩
          · exact ⟨_, rfl, by decide, by decide, by decide⟩
        rintro σ' H3 ⟨⟨s, rfl, s0, sa, sb⟩, B3, hp1, hp2⟩
        clear B1 B2 k1 k2 np1 np2 B
        have R := res_of f1 f2
        have hs2 : s.natAbs < 2 ^ 300 := small200 (by omega) (by omega)
        -- due
        refine ⟨fun σ' H' => (∃ pe r1 r2 r3 : Addr, σ' = [some (.ref a), some (.ref b), some (.ref L), y3, none, some (.int gr), some (.ref pn), some (.ref pf), some (.int (0 + (j : Int))), some (.ref p1), some (.ref p2), some (.int n), some (.int d), some (.int m), some (.int e), some (.int s), some (.ref pe), y17, y18, y19] ∧
          H' pe = some (.lst [.ref p1, .ref r1, .ref r2, .ref r3]) ∧ (pe == sysModules) = false ∧ H' r1 = some (.tup [.int (redu (n * e + d * m) (d * e)).1, .int (redu (n * e + d * m) (d * e)).2]) ∧ H' r2 = some (.tup [.int (redu (n * e - d * m) (d * e)).1, .int (redu (n * e - d * m) (d * e)).2]) ∧
          H' r3 = some (.tup [.int (redu (n * m) (d * e)).1, .int (redu (n * m) (d * e)).2])) ∧ Bag l H' b ∧ H' p1 = some (.tup [.int n, .int d]) ∧ H' p2 = some (.tup [.int m, .int e]), ?_, ?_⟩
        · refine ⟨_, rfl, _, rfl, _, rfl, n, e, rfl, rfl, mulw dn de, _, rfl, _, rfl, d, m, rfl, rfl, mulw dd dm, _, _, rfl, rfl, _, rfl, _, rfl, d, e, rfl, rfl, mulw dd de, n * e + d * m, d * e, rfl, R.D, R.D8, fun H4 r1 s4 _ h4 => ?_⟩
          refine ⟨_, rfl, _, rfl, n, e, rfl, rfl, mulw dn de, _, rfl, _, rfl, d, m, rfl, rfl, mulw dd dm, _, _, rfl, rfl, _, rfl, _, rfl, d, e, rfl, rfl, mulw dd de, n * e - d * m, d * e, rfl, R.D, R.D8, fun H5 r2 s5 _ h5 => ?_⟩
          refine ⟨_, rfl, _, rfl, n, m, rfl, rfl, mulw dn dm, _, rfl, _, rfl, d, e, rfl, rfl, mulw dd de, n * m, d * e, rfl, R.D, R.D8, fun H6 r3 s6 _ h6 => ?_⟩
          refine ⟨(by show 4 ≤ sizeLine; decide), fun pe ne ye => ?_⟩
          have s7 : Same H6 (upd H6 pe _) := same_new (o := .lst [.ref p1, .ref r1, .ref r2, .ref r3]) ne
          have s37 := ((s4.trans s5).trans s6).trans s7
          exact ⟨⟨pe, r1, r2, r3, rfl, upd_same, ye, ((s5.trans s6).trans s7) _ _ h4, (s6.trans s7) _ _ h5, s7 _ _ h6⟩, B3.same s37, s37 _ _ hp1, s37 _ _ hp2⟩
        rintro σ' H4 ⟨⟨pe, r1, r2, r3, rfl, hpe, ye, hr1, hr2, hr3⟩, B4, hp1, hp2⟩
        -- found
        refine ⟨fun σ' H' => (∃ pu u0 u1 u2 u3 : Addr, σ' = [some (.ref a), some (.ref b), some (.ref L), y3, none, some (.int gr), some (.ref pn), some (.ref pf), some (.int (0 + (j : Int))), some (.ref p1), some (.ref p2), some (.int n), some (.int d), some (.int m), some (.int e), some (.int s), some (.ref pe), some (.ref pu), y18, y19] ∧
          H' pu = some (.lst [.ref u0, .ref u1, .ref u2, .ref u3]) ∧ (pu == sysModules) = false ∧ H' u0 = some (.tup [.int n, .int d]) ∧ H' u1 = some (.tup [.int (redu (n * e + d * m) (d * e)).1, .int (redu (n * e + d * m) (d * e)).2]) ∧ H' u2 = some (.tup [.int (redu (n * e - d * m) (d * e)).1, .int (redu (n * e - d * m) (d * e)).2]) ∧
          H' u3 = some (.tup [.int (redu (n * m) (d * e)).1, .int (redu (n * m) (d * e)).2])) ∧ Same H4 H', ?_, ?_⟩
        · refine ⟨_, rfl, _, rfl, n, s, rfl, rfl, mulw dn hs2, _, rfl, _, rfl, d, s, rfl, rfl, mulw dd hs2, n * s, d * s, rfl, mul_ne d0 s0, mul8 dd hs2, fun H5 u0 s5 _ h5 => ?_⟩
          rw [redu_scale f1 s0] at h5
          have ff5 := f1.fr f2 (s5 _ _ hp1) (s5 _ _ hp2)
          refine ⟨_, rfl, _, rfl, n, d, m, e, ff5, d0, e0, fun H6 u1 s6 _ h6 => ?_⟩
          have s56 := s5.trans s6
          have ff6 := f1.fr f2 (s56 _ _ hp1) (s56 _ _ hp2)
          refine ⟨_, rfl, _, rfl, n, d, m, e, ff6, d0, e0, fun H7 u2 s7 _ h7 => ?_⟩
          have s57 := s56.trans s7
          have ff7 := f1.fr f2 (s57 _ _ hp1) (s57 _ _ hp2)
          refine ⟨_, rfl, _, rfl, n, d, m, e, ff7, d0, e0, fun H8 u3 s8 _ h8 => ?_⟩
          refine ⟨(by show 4 ≤ sizeLine; decide), fun pu nu yu => ?_⟩
          have s9 : Same H8 (upd H8 pu _) := same_new (o := .lst [.ref u0, .ref u1, .ref u2, .ref u3]) nu
          dsimp only at h6 h7 h8
          rw [Int.mul_comm m d] at h6 h7
          exact ⟨⟨pu, u0, u1, u2, u3, rfl, upd_same, yu, (((s6.trans s7).trans s8).trans s9) _ _ h5, ((s7.trans s8).trans s9) _ _ h6, (s8.trans s9) _ _ h7, s9 _ _ h8⟩, (s57.trans s8).trans s9⟩
        rintro σ' H5 ⟨⟨pu, u0, u1, u2, u3, rfl, hpu, yu, hu0, hu1, hu2, hu3⟩, S45⟩
        have al2 : Alike K H5 (.ref pu) (.ref pe) := by
          have a1 := dq_pairs (K := K) (H := H5) (ps := [(u0, (n, d)), (u1, redu (n * e + d * m) (d * e)), (u2, redu (n * e - d * m) (d * e)), (u3, redu (n * m) (d * e))]) (fun q hq => by
            simp only [List.mem_cons, List.not_mem_nil, or_false] at hq
            rcases hq with rfl | rfl | rfl | rfl
            · exact hu0
            · exact hu1
            · exact hu2
            · exact hu3)
          have a2 := dq_pairs (K := K) (H := H5) (ps := [(p1, (n, d)), (r1, redu (n * e + d * m) (d * e)), (r2, redu (n * e - d * m) (d * e)), (r3, redu (n * m) (d * e))]) (fun q hq => by
            simp only [List.mem_cons, List.not_mem_nil, or_false] at hq
            rcases hq with rfl | rfl | rfl | rfl
            · exact S45 _ _ hp1
            · exact S45 _ _ hr1
            · exact S45 _ _ hr2
            · exact S45 _ _ hr3)
          refine alike_lists (.lst (.inl (.inl hpu)) yu a1) (.lst (.inl (.inl (S45 _ _ hpe))) ye a2) rfl (by show 4 ≤ 100; decide) (fun x hx => ?_)
          simp only [List.map_cons, List.map_nil, List.mem_cons, List.not_mem_nil, or_false] at hx
          rcases hx with rfl | rfl | rfl | rfl
          · exact ⟨pair_show dn dd, Nat.le_trans (pair_len dn dd) (by decide), pair_dep _⟩
          · exact ⟨pair_show R.a.1 R.a.2, Nat.le_trans (pair_len R.a.1 R.a.2) (by decide), pair_dep _⟩
          · exact ⟨pair_show R.b.1 R.b.2, Nat.le_trans (pair_len R.b.1 R.b.2) (by decide), pair_dep _⟩
          · exact ⟨pair_show R.c.1 R.c.2, Nat.le_trans (pair_len R.c.1 R.c.2) (by decide), pair_dep _⟩
        refine ⟨_, rfl, _, rfl, _, _, rfl, al2, true, rfl, iteF ?_⟩
        have B5 := B4.same S45
        have hp1 := S45 _ _ hp1
        have hp2 := S45 _ _ hp2
        -- order
        refine ⟨fun σ' H' => H' = H5 ∧ σ' = [some (.ref a), some (.ref b), some (.ref L), y3, none, some (.int gr), some (.ref pn), some (.ref pf), some (.int (0 + (j : Int))), some (.ref p1), some (.ref p2), some (.int n), some (.int d), some (.int m), some (.int e), some (.int s), some (.ref pe), some (.ref pu), some (.int (cmp2 (n * e) (d * m))), y19], ?_, ?_⟩
        · refine ⟨_, rfl, _, rfl, n, e, rfl, rfl, mulw dn de, _, rfl, _, rfl, d, m, rfl, rfl, mulw dd dm, _, _, rfl, rfl, .inr ⟨_, rfl, _, rfl, _, rfl, n, e, rfl, rfl, mulw dn de, _, rfl, _, rfl, d, m, rfl, rfl, mulw dd dm, _, _, rfl, rfl, .inr ⟨_, rfl, _, _, rfl, rfl, rfl, ?_⟩⟩⟩
          rw [cmp_eq]
          rfl
        rintro σ' H' ⟨rfl, rfl⟩
        -- text
        refine ⟨fun σ' H'' => H'' = H' ∧ σ' = [some (.ref a), some (.ref b), some (.ref L), y3, none, some (.int gr), some (.ref pn), some (.ref pf), some (.int (0 + (j : Int))), some (.ref p1), some (.ref p2), some (.int n), some (.int d), some (.int m), some (.int e), some (.int s), some (.ref pe), some (.ref pu), some (.int (cmp2 (n * e) (d * m))), some (.str (frText n d))], ?_, ?_⟩
        · have ln := num_len dn
          have ld := num_len dd
          have hb := big_line
          refine ⟨_, rfl, n, rfl, log19 dn, _, rfl, rfl, _, rfl, ite2 (fun c => ?_) (fun c => ?_)⟩
          · have c : ¬ d = 1 := fun z => by
              rw [z] at c
              revert c
              decide
            refine ⟨_, rfl, d, rfl, log19 dd, _, _, rfl, rfl, ?_, _, _, rfl, rfl, ?_, rfl, ?_⟩
            · show 1 + (numT d).length ≤ sizeLine
              omega
            · rw [str_len]
              show (numT n).length + (1 + (numT d).length) ≤ sizeLine
              omega
            · unfold frText
              rw [if_neg c]
              rfl
          · have c : d = 1 := Classical.byContradiction fun z => c (by
              rw [decide_eq_false (fun y => z (V.int.inj y))]
              rfl)
            refine ⟨_, _, rfl, rfl, ?_, rfl, ?_⟩
            · show (numT n).length + 0 ≤ sizeLine
              omega
            · unfold frText
              rw [if_pos c]
              rfl
        rintro σ' H'' ⟨rfl, rfl⟩
        have ff := f1.fr f2 hp1 hp2
        refine ⟨_, rfl, _, rfl, n, d, m, e, ff, ?_⟩
        rw [Int.mul_comm m d]
        refine ⟨_, rfl, p1, n, d, rfl, hp1, dn, dd, ?_⟩
        refine ⟨(by show 2 ≤ sizeLine; decide), fun px nx yx => ?_⟩
        generalize ex : upd _ px _ = Hx
        have sx := same_eq ex nx
        have hx : Hx px = some (.lst [.int (cmp2 (n * e) (d * m)), .str (frText n d)]) := by
          rw [← ex]
          exact upd_same
        refine ⟨_, rfl, _, rfl, (by show 2 ≤ sizeLine; decide), fun pz nz yz => ?_⟩
        generalize ez : upd _ pz _ = Hz
        have sz := same_eq ez nz
        have hz : Hz pz = some (.lst [.int (cmp2 (n * e) (d * m)), .str (frText n d)]) := by
          rw [← ez]
          exact upd_same
        have cs : cmp2 (n * e) (d * m) = -1 ∨ cmp2 (n * e) (d * m) = 0 ∨ cmp2 (n * e) (d * m) = 1 := by
          unfold cmp2
          split
          · exact .inl rfl
          · split
            · exact .inr (.inr rfl)
            · exact .inr (.inl rfl)
        have al3 : Alike K Hz (.ref px) (.ref pz) := by
          refine alike_lists (ds := [.int (cmp2 (n * e) (d * m)), .str (frText n d)]) (.lst (.inl (.inl (sz _ _ hx))) yx (.cons (.int _) (.cons (.str _) .nil))) (.lst (.inl (.inl hz)) yz (.cons (.int _) (.cons (.str _) .nil))) rfl (by show 2 ≤ 100; decide) (fun x hx => ?_)
          simp only [List.mem_cons, List.not_mem_nil, or_false] at hx
          rcases hx with rfl | rfl
          · rcases cs with e | e | e <;> rw [e] <;> exact ⟨by decide +kernel, by decide +kernel, by decide +kernel⟩
          · exact ⟨by rw [PyData.showable], fr_shown dn dd, by rw [PyData.depth]; exact Nat.zero_le _⟩
        exact ⟨_, _, rfl, al3, true, rfl, iteF ⟨⟨_, _, _, _, _, _, _, _, _, _, _, _, rfl⟩, (B5.same sx).same sz⟩⟩
      · rintro σ' H' ⟨⟨y8, y9, y10, y11, y12, y13, y14, y15, y16, y17, y18, y19, rfl⟩, _⟩
        exact q _
end
end K00

set_option Elab.async false
set_option linter.all false
set_option maxRecDepth 100000
namespace K00
open PySem PySem.Spec PyProof.Rows L2 Vg
/-- what isinstance tells of the errors, as a look -/
def kitTab (K : PySem.W.Frag) (cls : List Addr) (B : Addr) : Bool := (List.range 8).all fun i => (PySem.W.kitOne K (.ref (cls.getD i 0)) (.ref B) == some true) && ((PySem.W.kitOne K (.ref (cls.getD i 0)) (.type "ValueError") == some true) &&
  (List.range 8).all fun j => PySem.W.kitOne K (.ref (cls.getD i 0)) (.ref (cls.getD j 0)) == some (decide (i = j)))
theorem kitT_of {K : PySem.W.Frag} {cls : List Addr} {B : Addr} (hl : cls.length = 8) (h : kitTab K cls B = true) (e : ∀ C ∈ cls, ExcC K C) : KitT K cls B := by
  unfold kitTab at h
  rw [List.all_eq_true] at h
  have at_ : ∀ (i : Nat) (C : Addr), cls[i]? = some C → i ∈ List.range 8 ∧ cls.getD i 0 = C := fun i C q => by
    have hi := (List.getElem?_eq_some_iff.mp q).1
    refine ⟨List.mem_range.mpr (by omega), ?_⟩
    rw [List.getD_eq_getElem?_getD, q]
    rfl
  refine ⟨fun i C q => e C (List.mem_of_getElem? q), fun i j C D q r => ?_, fun i C q => ?_, fun i C q => ?_⟩
  · obtain ⟨a1, a2⟩ := at_ i C q
    obtain ⟨b1, b2⟩ := at_ j D r
    have z := h i a1
    simp only [Bool.and_eq_true, List.all_eq_true] at z
    have y := z.2.2 j b1
    rw [a2, b2] at y
    exact beq_iff_eq.mp y
  · obtain ⟨a1, a2⟩ := at_ i C q
    have z := h i a1
    simp only [Bool.and_eq_true] at z
    have y := z.1
    rw [a2] at y
    exact beq_iff_eq.mp y
  · obtain ⟨a1, a2⟩ := at_ i C q
    have z := h i a1
    simp only [Bool.and_eq_true] at z
    have y := z.2.1
    rw [a2] at y
    exact beq_iff_eq.mp y
theorem tail_ok {B : Addr} : PySem.HandSPX.refsVE [.ref B, .type "ValueError", .type "Exception", .type "BaseException", .type "object"] = true := by
  show PySem.HandSPX.refsVE [.type "ValueError", .type "Exception", .type "BaseException", .type "object"] = true
  decide +kernel
/-- the facts of one class, as the top has written them -/
structure ClsF (K : PySem.W.Frag) (C B : Addr) : Prop where
  cl : ∃ nm q N bs sn sub ab col dd k0 k1 k2 k3 k5, K.lookup C = some (excClassObj nm q C N bs [.ref B, .type "ValueError", .type "Exception", .type "BaseException", .type "object"] true sn sub ab col dd k0 k1 k2 k3 k5 "ValueError.__new__")
  sa : PySem.W.findIn K (.ref C) "__setattr__" = some (some (.builtin "object.__setattr__"))
  ga : PySem.W.findIn K (.ref C) "__getattribute__" = some (some (.builtin "BaseException.__getattribute__"))
  gg : PySem.W.findIn K (.ref C) "__getattr__" = some none
  kC : PySem.W.keepIn K (.ref C) = true
  ex : PySem.W.subIn K (.ref C) (.type "BaseException") = some true
  ty : PySem.W.typeIn K (.ref C) = some (.type "type")
  hd : PySem.W.hasDictIn K C = true
  ha : PySem.W.findIn K (.ref C) "__class__" = some (some (.builtin "object.__class__"))
  hn : PySem.W.specialIn K (.builtin "object.__class__") "__get__" = some (some (.builtin "getset_descriptor.__get__"))
  ht : PySem.W.takesIn K (.builtin "object.__class__") = some true
  hm : PySem.W.mroIn K C (.type "object") = some true
theorem ClsF.o {K : PySem.W.Frag} {C B : Addr} (h : ClsF K C B) : OexC K C := by
  obtain ⟨nm, q, N, bs, sn, sub, ab, col, dd, k0, k1, k2, k3, k5, e⟩ := h.cl
  exact ⟨⟨nm, q, N, bs, _, sn, sub, ab, col, dd, k0, k1, k2, k3, k5, e, tail_ok⟩, h.sa, h.ex, h.ty, h.kC⟩
theorem ClsF.e {K : PySem.W.Frag} {C B : Addr} (h : ClsF K C B) : ExcC K C := ⟨h.ga, h.gg, h.ex, h.hd, h.ha, h.hn, h.ht, h.hm⟩
theorem ClsF.f {K : PySem.W.Frag} {C B : Addr} (h : ClsF K C B) : XfC K C := ⟨h.ga, h.gg, h.ex, h.hd⟩

abbrev stW : Stmt := inClass (topS 17) 0
theorem scW : FnScope ["self", "place"] ["self", "place"] (defScope stW) := ⟨rfl, rfl, rfl, by decide +kernel, rfl, by decide +kernel, by decide +kernel⟩
abbrev stT : Stmt := inClass (topS 13) 0
theorem scT : FnScope ["self", "place"] ["self", "place"] (defScope stT) := ⟨rfl, rfl, rfl, by decide +kernel, rfl, by decide +kernel, by decide +kernel⟩
abbrev stD : Stmt := inClass (topS 10) 0
theorem scD : FnScope ["self", "ring"] ["self", "ring"] (defScope stD) := ⟨rfl, rfl, rfl, by decide +kernel, rfl, by decide +kernel, by decide +kernel⟩
abbrev stM : Stmt := inClass (topS 15) 0
theorem scM : FnScope ["self", "most"] ["self", "most"] (defScope stM) := ⟨rfl, rfl, rfl, by decide +kernel, rfl, by decide +kernel, by decide +kernel⟩
abbrev stK : Stmt := inClass (topS 12) 0
theorem scK : FnScope ["self", "name"] ["self", "name"] (defScope stK) := ⟨rfl, rfl, rfl, by decide +kernel, rfl, by decide +kernel, by decide +kernel⟩
abbrev stL : Stmt := inClass (topS 11) 0
theorem scL : FnScope ["self", "line"] ["self", "line"] (defScope stL) := ⟨rfl, rfl, rfl, by decide +kernel, rfl, by decide +kernel, by decide +kernel⟩
abbrev stU : Stmt := inClass (topS 16) 0
theorem scU : FnScope ["self", "step"] ["self", "step"] (defScope stU) := ⟨rfl, rfl, rfl, by decide +kernel, rfl, by decide +kernel, by decide +kernel⟩
abbrev stN : Stmt := sNot
theorem all_mk {P : Program} {w : World} {K : PySem.W.Frag} {h : Heap} {mg : Str → Option Value} {fa : Addr} (X : K.In h) (G : h.Ns mainGlobals mg) (hfa : mg "law" = some (.ref fa))
    {f0 f1 f2 f3 f4 f5 f6 f7 f8 f9 f10 f11 f12 f13 f14 f15 f16 f17 f18 : Addr} {oc0 kV0 dc0 pm0 cd0 ct0 oc1 kV1 dc1 pm1 cd1 ct1 oc2 kV2 dc2 pm2 cd2 ct2 oc3 kV3 dc3 pm3 cd3 ct3 oc4 kV4 dc4 pm4 cd4 ct4 oc5 kV5 dc5 pm5 cd5 ct5 oc6 kV6 dc6 pm6 cd6 ct6 oc7 kV7 dc7 pm7 cd7 ct7 oc8 kV8 dc8 pm8 cd8 ct8 oc9 kV9 dc9 pm9 cd9 ct9 oc10 kV10 dc10 pm10 cd10 ct10 oc11 kV11 dc11 pm11 cd11 ct11 oc12 kV12 dc12 pm12 cd12 ct12 oc13 kV13 dc13 pm13 cd13 ct13 oc14 kV14 dc14 pm14 cd14 ct14 oc15 kV15 dc15 pm15 cd15 ct15 oc16 kV16 dc16 pm16 cd16 ct16 oc17 kV17 dc17 pm17 cd17 ct17 oc18 kV18 dc18 pm18 cd18 ct18 : Value} {od0 an0 od1 an1 od2 an2 od3 an3 od4 an4 od5 an5 od6 an6 od7 an7 od8 an8 od9 an9 od10 an10 od11 an11 od12 an12 od13 an13 od14 an14 od15 an15 od16 an16 od17 an17 od18 an18 : Option Addr} {sl0 sl1 sl2 sl3 sl4 sl5 sl6 sl7 sl8 sl9 sl10 sl11 sl12 sl13 sl14 sl15 sl16 sl17 sl18 : Array (Option Value)} {cB cW i_W cT i_T cD i_D cM i_M cK i_K cL i_L cU i_U cN i_N : Addr} {ocW kVW dcW pmW cdW ctW ocT kVT dcT pmT cdT ctT ocD kVD dcD pmD cdD ctD ocM kVM dcM pmM cdM ctM ocK kVK dcK pmK cdK ctK ocL kVL dcL pmL cdL ctL ocU kVU dcU pmU cdU ctU ocN kVN dcN pmN cdN ctN : Value} {odW anW ddW odT anT ddT odD anD ddD odM anM ddM odK anK ddK odL anL ddL odU anU ddU odN anN ddN : Option Addr} {slW slT slD slM slK slL slU slN : Array (Option Value)} {nmW qW nmT qT nmD qD nmM qM nmK qK nmL qL nmU qU nmN qN : Str} {NW NT ND NM NK NL NU NN : Addr} {bsW subW bsT subT bsD subD bsM subM bsK subK bsL subL bsU subU bsN subN : List Value} {snW snT snD snM snK snL snU snN : List Str} {abW abT abD abM abK abL abU abN : Bool} {colW colT colD colM colK colL colU colN : Option Bool} {e0W e1W e2W e3W e5W e0T e1T e2T e3T e5T e0D e1D e2D e3D e5D e0M e1M e2M e3M e5M e0K e1K e2K e3K e5K e0L e1L e2L e3L e5L e0U e1U e2U e3U e5U e0N e1N e2N e3N e5N : Option Value}
    (a0 : PySem.W.nsIn K mainGlobals "reduced" = some (some (.ref f0))) (l0 : K.lookup f0 = some ⟨oc0, od0, .func (PySem.W.fnOf "reduced" "reduced" (defArgs sRed) (defBody sRed) (defScope sRed) .none kV0 dc0 pm0 an0 cd0 ct0), sl0⟩) (c0 : PySem.W.codeIn K cd0 "reduced" = true) (k0 : PySem.W.keepIn K (.ref f0) = true)
    (a1 : PySem.W.nsIn K mainGlobals "added" = some (some (.ref f1))) (l1 : K.lookup f1 = some ⟨oc1, od1, .func (PySem.W.fnOf "added" "added" (defArgs sAdd) (defBody sAdd) (defScope sAdd) .none kV1 dc1 pm1 an1 cd1 ct1), sl1⟩) (c1 : PySem.W.codeIn K cd1 "added" = true) (k1 : PySem.W.keepIn K (.ref f1) = true)
    (a2 : PySem.W.nsIn K mainGlobals "lessened" = some (some (.ref f2))) (l2 : K.lookup f2 = some ⟨oc2, od2, .func (PySem.W.fnOf "lessened" "lessened" (defArgs sLes) (defBody sLes) (defScope sLes) .none kV2 dc2 pm2 an2 cd2 ct2), sl2⟩) (c2 : PySem.W.codeIn K cd2 "lessened" = true) (k2 : PySem.W.keepIn K (.ref f2) = true)
    (a3 : PySem.W.nsIn K mainGlobals "times" = some (some (.ref f3))) (l3 : K.lookup f3 = some ⟨oc3, od3, .func (PySem.W.fnOf "times" "times" (defArgs sTim) (defBody sTim) (defScope sTim) .none kV3 dc3 pm3 an3 cd3 ct3), sl3⟩) (c3 : PySem.W.codeIn K cd3 "times" = true) (k3 : PySem.W.keepIn K (.ref f3) = true)
    (a4 : PySem.W.nsIn K mainGlobals "compared" = some (some (.ref f4))) (l4 : K.lookup f4 = some ⟨oc4, od4, .func (PySem.W.fnOf "compared" "compared" (defArgs sCmp) (defBody sCmp) (defScope sCmp) .none kV4 dc4 pm4 an4 cd4 ct4), sl4⟩) (c4 : PySem.W.codeIn K cd4 "compared" = true) (k4 : PySem.W.keepIn K (.ref f4) = true)
    (a5 : PySem.W.nsIn K mainGlobals "fraction_text" = some (some (.ref f5))) (l5 : K.lookup f5 = some ⟨oc5, od5, .func (PySem.W.fnOf "fraction_text" "fraction_text" (defArgs sTxt) (defBody sTxt) (defScope sTxt) .none kV5 dc5 pm5 an5 cd5 ct5), sl5⟩) (c5 : PySem.W.codeIn K cd5 "fraction_text" = true) (k5 : PySem.W.keepIn K (.ref f5) = true)
    (a6 : PySem.W.nsIn K mainGlobals "_law_bag" = some (some (.ref f6))) (l6 : K.lookup f6 = some ⟨oc6, od6, .func (PySem.W.fnOf "_law_bag" "_law_bag" (defArgs sBag) (defBody sBag) (defScope sBag) .none kV6 dc6 pm6 an6 cd6 ct6), sl6⟩) (c6 : PySem.W.codeIn K cd6 "_law_bag" = true) (k6 : PySem.W.keepIn K (.ref f6) = true)
    (a7 : PySem.W.nsIn K mainGlobals "_law_take" = some (some (.ref f7))) (l7 : K.lookup f7 = some ⟨oc7, od7, .func (PySem.W.fnOf "_law_take" "_law_take" (defArgs sTak) (defBody sTak) (defScope sTak) .none kV7 dc7 pm7 an7 cd7 ct7), sl7⟩) (c7 : PySem.W.codeIn K cd7 "_law_take" = true) (k7 : PySem.W.keepIn K (.ref f7) = true)
    (a8 : PySem.W.nsIn K mainGlobals "_law_some" = some (some (.ref f8))) (l8 : K.lookup f8 = some ⟨oc8, od8, .func (PySem.W.fnOf "_law_some" "_law_some" (defArgs sSom) (defBody sSom) (defScope sSom) .none kV8 dc8 pm8 an8 cd8 ct8), sl8⟩) (c8 : PySem.W.codeIn K cd8 "_law_some" = true) (k8 : PySem.W.keepIn K (.ref f8) = true)
    (a9 : PySem.W.nsIn K mainGlobals "_law_alike" = some (some (.ref f9))) (l9 : K.lookup f9 = some ⟨oc9, od9, .func (PySem.W.fnOf "_law_alike" "_law_alike" (defArgs sAli) (defBody sAli) (defScope sAli) .none kV9 dc9 pm9 an9 cd9 ct9), sl9⟩) (c9 : PySem.W.codeIn K cd9 "_law_alike" = true) (k9 : PySem.W.keepIn K (.ref f9) = true)
    (a10 : PySem.W.nsIn K mainGlobals "_law_odd" = some (some (.ref f10))) (l10 : K.lookup f10 = some ⟨oc10, od10, .func (PySem.W.fnOf "_law_odd" "_law_odd" (defArgs sOdd) (defBody sOdd) (defScope sOdd) .none kV10 dc10 pm10 an10 cd10 ct10), sl10⟩) (c10 : PySem.W.codeIn K cd10 "_law_odd" = true) (k10 : PySem.W.keepIn K (.ref f10) = true)
    (a11 : PySem.W.nsIn K mainGlobals "_law_common_of" = some (some (.ref f11))) (l11 : K.lookup f11 = some ⟨oc11, od11, .func (PySem.W.fnOf "_law_common_of" "_law_common_of" (defArgs sCom) (defBody sCom) (defScope sCom) .none kV11 dc11 pm11 an11 cd11 ct11), sl11⟩) (c11 : PySem.W.codeIn K cd11 "_law_common_of" = true) (k11 : PySem.W.keepIn K (.ref f11) = true)
    (a12 : PySem.W.nsIn K mainGlobals "_law_reduced" = some (some (.ref f12))) (l12 : K.lookup f12 = some ⟨oc12, od12, .func (PySem.W.fnOf "_law_reduced" "_law_reduced" (defArgs sLrd) (defBody sLrd) (defScope sLrd) .none kV12 dc12 pm12 an12 cd12 ct12), sl12⟩) (c12 : PySem.W.codeIn K cd12 "_law_reduced" = true) (k12 : PySem.W.keepIn K (.ref f12) = true)
    (a13 : PySem.W.nsIn K mainGlobals "_law_integer" = some (some (.ref f13))) (l13 : K.lookup f13 = some ⟨oc13, od13, .func (PySem.W.fnOf "_law_integer" "_law_integer" (defArgs sInt) (defBody sInt) (defScope sInt) .none kV13 dc13 pm13 an13 cd13 ct13), sl13⟩) (c13 : PySem.W.codeIn K cd13 "_law_integer" = true) (k13 : PySem.W.keepIn K (.ref f13) = true)
    (a14 : PySem.W.nsIn K mainGlobals "_law_fraction" = some (some (.ref f14))) (l14 : K.lookup f14 = some ⟨oc14, od14, .func (PySem.W.fnOf "_law_fraction" "_law_fraction" (defArgs sFra) (defBody sFra) (defScope sFra) .none kV14 dc14 pm14 an14 cd14 ct14), sl14⟩) (c14 : PySem.W.codeIn K cd14 "_law_fraction" = true) (k14 : PySem.W.keepIn K (.ref f14) = true)
    (a15 : PySem.W.nsIn K mainGlobals "_law_errors" = some (some (.ref f15))) (l15 : K.lookup f15 = some ⟨oc15, od15, .func (PySem.W.fnOf "_law_errors" "_law_errors" (defArgs sErs) (defBody sErs) (defScope sErs) .none kV15 dc15 pm15 an15 cd15 ct15), sl15⟩) (c15 : PySem.W.codeIn K cd15 "_law_errors" = true) (k15 : PySem.W.keepIn K (.ref f15) = true)
    (a16 : PySem.W.nsIn K mainGlobals "_law_kinds" = some (some (.ref f16))) (l16 : K.lookup f16 = some ⟨oc16, od16, .func (PySem.W.fnOf "_law_kinds" "_law_kinds" (defArgs sKin) (defBody sKin) (defScope sKin) .none kV16 dc16 pm16 an16 cd16 ct16), sl16⟩) (c16 : PySem.W.codeIn K cd16 "_law_kinds" = true) (k16 : PySem.W.keepIn K (.ref f16) = true)
    (a17 : PySem.W.nsIn K mainGlobals "_law_is_error_right" = some (some (.ref f17))) (l17 : K.lookup f17 = some ⟨oc17, od17, .func (PySem.W.fnOf "_law_is_error_right" "_law_is_error_right" (defArgs sIer) (defBody sIer) (defScope sIer) .none kV17 dc17 pm17 an17 cd17 ct17), sl17⟩) (c17 : PySem.W.codeIn K cd17 "_law_is_error_right" = true) (k17 : PySem.W.keepIn K (.ref f17) = true)
    (a18 : PySem.W.nsIn K mainGlobals "law" = some (some (.ref f18))) (l18 : K.lookup f18 = some ⟨oc18, od18, .func (PySem.W.fnOf "law" "law" (defArgs sLaw) (defBody sLaw) (defScope sLaw) .none kV18 dc18 pm18 an18 cd18 ct18), sl18⟩) (c18 : PySem.W.codeIn K cd18 "law" = true) (k18 : PySem.W.keepIn K (.ref f18) = true)
    (z_len : PySem.W.nsIn K mainGlobals "len" = some none)
    (z_abs : PySem.W.nsIn K mainGlobals "abs" = some none)
    (z_int : PySem.W.nsIn K mainGlobals "int" = some none)
    (z_str : PySem.W.nsIn K mainGlobals "str" = some none)
    (z_repr : PySem.W.nsIn K mainGlobals "repr" = some none)
    (z_isinstance : PySem.W.nsIn K mainGlobals "isinstance" = some none)
    (z_range : PySem.W.nsIn K mainGlobals "range" = some none)
    (z_ValueError : PySem.W.nsIn K mainGlobals "ValueError" = some none)
    (z_list : PySem.W.nsIn K mainGlobals "list" = some none)
    (m_gcd : PySem.W.nsIn K mainGlobals "gcd" = some (some (.builtin "math.gcd")))
    (aB : PySem.W.nsIn K mainGlobals "LoopError" = some (some (.ref cB))) (rB : PySem.W.readsIn K cB (.type "type") = true) (gB : PySem.W.specialIn K (.ref cB) "__getattribute__" = some (some (.builtin "type.__getattribute__"))) (iB : PySem.W.findCls K (.ref cB) (.type "type") "__init__" = some (.val (.builtin "ValueError.__init__")))
    (hn : PySem.W.specialIn K (.builtin "object.__class__") "__get__" = some (some (.builtin "getset_descriptor.__get__"))) (ht : PySem.W.takesIn K (.builtin "object.__class__") = some true)
    (aW : PySem.W.nsIn K mainGlobals "Wrong" = some (some (.ref cW))) (xW : K.lookup cW = some (excClassObj nmW qW cW NW bsW [.ref cB, .type "ValueError", .type "Exception", .type "BaseException", .type "object"] true snW subW abW colW ddW e0W e1W e2W e3W e5W "ValueError.__new__")) (saW : PySem.W.findIn K (.ref cW) "__setattr__" = some (some (.builtin "object.__setattr__"))) (gaW : PySem.W.findIn K (.ref cW) "__getattribute__" = some (some (.builtin "BaseException.__getattribute__"))) (ggW : PySem.W.findIn K (.ref cW) "__getattr__" = some none) (kCW : PySem.W.keepIn K (.ref cW) = true) (exW : PySem.W.subIn K (.ref cW) (.type "BaseException") = some true) (tyW : PySem.W.typeIn K (.ref cW) = some (.type "type")) (hdW : PySem.W.hasDictIn K cW = true) (haW : PySem.W.findIn K (.ref cW) "__class__" = some (some (.builtin "object.__class__"))) (hmW : PySem.W.mroIn K cW (.type "object") = some true) (nfW : PySem.W.findIn K (.ref cW) "place" = some none) (iW : PySem.W.findIn K (.ref cW) "__init__" = some (some (.ref i_W))) (tW : PySem.W.typeIn K (.ref i_W) = some (.type "function")) (lW : K.lookup i_W = some ⟨ocW, odW, .func (PySem.W.fnOf "__init__" "Wrong.__init__" (defArgs stW) (defBody stW) (defScope stW) .none kVW dcW pmW anW cdW ctW), slW⟩) (ccW : PySem.W.codeIn K cdW "Wrong.__init__" = true) (kW : PySem.W.keepIn K (.ref i_W) = true)
    (aT : PySem.W.nsIn K mainGlobals "NoText" = some (some (.ref cT))) (xT : K.lookup cT = some (excClassObj nmT qT cT NT bsT [.ref cB, .type "ValueError", .type "Exception", .type "BaseException", .type "object"] true snT subT abT colT ddT e0T e1T e2T e3T e5T "ValueError.__new__")) (saT : PySem.W.findIn K (.ref cT) "__setattr__" = some (some (.builtin "object.__setattr__"))) (gaT : PySem.W.findIn K (.ref cT) "__getattribute__" = some (some (.builtin "BaseException.__getattribute__"))) (ggT : PySem.W.findIn K (.ref cT) "__getattr__" = some none) (kCT : PySem.W.keepIn K (.ref cT) = true) (exT : PySem.W.subIn K (.ref cT) (.type "BaseException") = some true) (tyT : PySem.W.typeIn K (.ref cT) = some (.type "type")) (hdT : PySem.W.hasDictIn K cT = true) (haT : PySem.W.findIn K (.ref cT) "__class__" = some (some (.builtin "object.__class__"))) (hmT : PySem.W.mroIn K cT (.type "object") = some true) (nfT : PySem.W.findIn K (.ref cT) "place" = some none) (iT : PySem.W.findIn K (.ref cT) "__init__" = some (some (.ref i_T))) (tT : PySem.W.typeIn K (.ref i_T) = some (.type "function")) (lT : K.lookup i_T = some ⟨ocT, odT, .func (PySem.W.fnOf "__init__" "NoText.__init__" (defArgs stT) (defBody stT) (defScope stT) .none kVT dcT pmT anT cdT ctT), slT⟩) (ccT : PySem.W.codeIn K cdT "NoText.__init__" = true) (kT : PySem.W.keepIn K (.ref i_T) = true)
    (aD : PySem.W.nsIn K mainGlobals "Dead" = some (some (.ref cD))) (xD : K.lookup cD = some (excClassObj nmD qD cD ND bsD [.ref cB, .type "ValueError", .type "Exception", .type "BaseException", .type "object"] true snD subD abD colD ddD e0D e1D e2D e3D e5D "ValueError.__new__")) (saD : PySem.W.findIn K (.ref cD) "__setattr__" = some (some (.builtin "object.__setattr__"))) (gaD : PySem.W.findIn K (.ref cD) "__getattribute__" = some (some (.builtin "BaseException.__getattribute__"))) (ggD : PySem.W.findIn K (.ref cD) "__getattr__" = some none) (kCD : PySem.W.keepIn K (.ref cD) = true) (exD : PySem.W.subIn K (.ref cD) (.type "BaseException") = some true) (tyD : PySem.W.typeIn K (.ref cD) = some (.type "type")) (hdD : PySem.W.hasDictIn K cD = true) (haD : PySem.W.findIn K (.ref cD) "__class__" = some (some (.builtin "object.__class__"))) (hmD : PySem.W.mroIn K cD (.type "object") = some true) (nfD : PySem.W.findIn K (.ref cD) "ring" = some none) (iD : PySem.W.findIn K (.ref cD) "__init__" = some (some (.ref i_D))) (tD : PySem.W.typeIn K (.ref i_D) = some (.type "function")) (lD : K.lookup i_D = some ⟨ocD, odD, .func (PySem.W.fnOf "__init__" "Dead.__init__" (defArgs stD) (defBody stD) (defScope stD) .none kVD dcD pmD anD cdD ctD), slD⟩) (ccD : PySem.W.codeIn K cdD "Dead.__init__" = true) (kD : PySem.W.keepIn K (.ref i_D) = true)
    (aM : PySem.W.nsIn K mainGlobals "TooMany" = some (some (.ref cM))) (xM : K.lookup cM = some (excClassObj nmM qM cM NM bsM [.ref cB, .type "ValueError", .type "Exception", .type "BaseException", .type "object"] true snM subM abM colM ddM e0M e1M e2M e3M e5M "ValueError.__new__")) (saM : PySem.W.findIn K (.ref cM) "__setattr__" = some (some (.builtin "object.__setattr__"))) (gaM : PySem.W.findIn K (.ref cM) "__getattribute__" = some (some (.builtin "BaseException.__getattribute__"))) (ggM : PySem.W.findIn K (.ref cM) "__getattr__" = some none) (kCM : PySem.W.keepIn K (.ref cM) = true) (exM : PySem.W.subIn K (.ref cM) (.type "BaseException") = some true) (tyM : PySem.W.typeIn K (.ref cM) = some (.type "type")) (hdM : PySem.W.hasDictIn K cM = true) (haM : PySem.W.findIn K (.ref cM) "__class__" = some (some (.builtin "object.__class__"))) (hmM : PySem.W.mroIn K cM (.type "object") = some true) (nfM : PySem.W.findIn K (.ref cM) "most" = some none) (iM : PySem.W.findIn K (.ref cM) "__init__" = some (some (.ref i_M))) (tM : PySem.W.typeIn K (.ref i_M) = some (.type "function")) (lM : K.lookup i_M = some ⟨ocM, odM, .func (PySem.W.fnOf "__init__" "TooMany.__init__" (defArgs stM) (defBody stM) (defScope stM) .none kVM dcM pmM anM cdM ctM), slM⟩) (ccM : PySem.W.codeIn K cdM "TooMany.__init__" = true) (kM : PySem.W.keepIn K (.ref i_M) = true)
    (aK : PySem.W.nsIn K mainGlobals "NoTask" = some (some (.ref cK))) (xK : K.lookup cK = some (excClassObj nmK qK cK NK bsK [.ref cB, .type "ValueError", .type "Exception", .type "BaseException", .type "object"] true snK subK abK colK ddK e0K e1K e2K e3K e5K "ValueError.__new__")) (saK : PySem.W.findIn K (.ref cK) "__setattr__" = some (some (.builtin "object.__setattr__"))) (gaK : PySem.W.findIn K (.ref cK) "__getattribute__" = some (some (.builtin "BaseException.__getattribute__"))) (ggK : PySem.W.findIn K (.ref cK) "__getattr__" = some none) (kCK : PySem.W.keepIn K (.ref cK) = true) (exK : PySem.W.subIn K (.ref cK) (.type "BaseException") = some true) (tyK : PySem.W.typeIn K (.ref cK) = some (.type "type")) (hdK : PySem.W.hasDictIn K cK = true) (haK : PySem.W.findIn K (.ref cK) "__class__" = some (some (.builtin "object.__class__"))) (hmK : PySem.W.mroIn K cK (.type "object") = some true) (nfK : PySem.W.findIn K (.ref cK) "name" = some none) (iK : PySem.W.findIn K (.ref cK) "__init__" = some (some (.ref i_K))) (tK : PySem.W.typeIn K (.ref i_K) = some (.type "function")) (lK : K.lookup i_K = some ⟨ocK, odK, .func (PySem.W.fnOf "__init__" "NoTask.__init__" (defArgs stK) (defBody stK) (defScope stK) .none kVK dcK pmK anK cdK ctK), slK⟩) (ccK : PySem.W.codeIn K cdK "NoTask.__init__" = true) (kK : PySem.W.keepIn K (.ref i_K) = true)
    (aL : PySem.W.nsIn K mainGlobals "NoCommand" = some (some (.ref cL))) (xL : K.lookup cL = some (excClassObj nmL qL cL NL bsL [.ref cB, .type "ValueError", .type "Exception", .type "BaseException", .type "object"] true snL subL abL colL ddL e0L e1L e2L e3L e5L "ValueError.__new__")) (saL : PySem.W.findIn K (.ref cL) "__setattr__" = some (some (.builtin "object.__setattr__"))) (gaL : PySem.W.findIn K (.ref cL) "__getattribute__" = some (some (.builtin "BaseException.__getattribute__"))) (ggL : PySem.W.findIn K (.ref cL) "__getattr__" = some none) (kCL : PySem.W.keepIn K (.ref cL) = true) (exL : PySem.W.subIn K (.ref cL) (.type "BaseException") = some true) (tyL : PySem.W.typeIn K (.ref cL) = some (.type "type")) (hdL : PySem.W.hasDictIn K cL = true) (haL : PySem.W.findIn K (.ref cL) "__class__" = some (some (.builtin "object.__class__"))) (hmL : PySem.W.mroIn K cL (.type "object") = some true) (nfL : PySem.W.findIn K (.ref cL) "line" = some none) (iL : PySem.W.findIn K (.ref cL) "__init__" = some (some (.ref i_L))) (tL : PySem.W.typeIn K (.ref i_L) = some (.type "function")) (lL : K.lookup i_L = some ⟨ocL, odL, .func (PySem.W.fnOf "__init__" "NoCommand.__init__" (defArgs stL) (defBody stL) (defScope stL) .none kVL dcL pmL anL cdL ctL), slL⟩) (ccL : PySem.W.codeIn K cdL "NoCommand.__init__" = true) (kL : PySem.W.keepIn K (.ref i_L) = true)
    (aU : PySem.W.nsIn K mainGlobals "Unlike" = some (some (.ref cU))) (xU : K.lookup cU = some (excClassObj nmU qU cU NU bsU [.ref cB, .type "ValueError", .type "Exception", .type "BaseException", .type "object"] true snU subU abU colU ddU e0U e1U e2U e3U e5U "ValueError.__new__")) (saU : PySem.W.findIn K (.ref cU) "__setattr__" = some (some (.builtin "object.__setattr__"))) (gaU : PySem.W.findIn K (.ref cU) "__getattribute__" = some (some (.builtin "BaseException.__getattribute__"))) (ggU : PySem.W.findIn K (.ref cU) "__getattr__" = some none) (kCU : PySem.W.keepIn K (.ref cU) = true) (exU : PySem.W.subIn K (.ref cU) (.type "BaseException") = some true) (tyU : PySem.W.typeIn K (.ref cU) = some (.type "type")) (hdU : PySem.W.hasDictIn K cU = true) (haU : PySem.W.findIn K (.ref cU) "__class__" = some (some (.builtin "object.__class__"))) (hmU : PySem.W.mroIn K cU (.type "object") = some true) (nfU : PySem.W.findIn K (.ref cU) "step" = some none) (iU : PySem.W.findIn K (.ref cU) "__init__" = some (some (.ref i_U))) (tU : PySem.W.typeIn K (.ref i_U) = some (.type "function")) (lU : K.lookup i_U = some ⟨ocU, odU, .func (PySem.W.fnOf "__init__" "Unlike.__init__" (defArgs stU) (defBody stU) (defScope stU) .none kVU dcU pmU anU cdU ctU), slU⟩) (ccU : PySem.W.codeIn K cdU "Unlike.__init__" = true) (kU : PySem.W.keepIn K (.ref i_U) = true)
    (aN : PySem.W.nsIn K mainGlobals "Nothing" = some (some (.ref cN))) (xN : K.lookup cN = some (excClassObj nmN qN cN NN bsN [.ref cB, .type "ValueError", .type "Exception", .type "BaseException", .type "object"] true snN subN abN colN ddN e0N e1N e2N e3N e5N "ValueError.__new__")) (saN : PySem.W.findIn K (.ref cN) "__setattr__" = some (some (.builtin "object.__setattr__"))) (gaN : PySem.W.findIn K (.ref cN) "__getattribute__" = some (some (.builtin "BaseException.__getattribute__"))) (ggN : PySem.W.findIn K (.ref cN) "__getattr__" = some none) (kCN : PySem.W.keepIn K (.ref cN) = true) (exN : PySem.W.subIn K (.ref cN) (.type "BaseException") = some true) (tyN : PySem.W.typeIn K (.ref cN) = some (.type "type")) (hdN : PySem.W.hasDictIn K cN = true) (haN : PySem.W.findIn K (.ref cN) "__class__" = some (some (.builtin "object.__class__"))) (hmN : PySem.W.mroIn K cN (.type "object") = some true) (iN : PySem.W.findIn K (.ref cN) "__init__" = some (some (.ref i_N))) (tN : PySem.W.typeIn K (.ref i_N) = some (.type "function")) (lN : K.lookup i_N = some ⟨ocN, odN, .func (PySem.W.fnOf "__init__" "Nothing.__init__" (defArgs stN) (defBody stN) (defScope stN) .none kVN dcN pmN anN cdN ctN), slN⟩) (ccN : PySem.W.codeIn K cdN "Nothing.__init__" = true) (kN : PySem.W.keepIn K (.ref i_N) = true)
    (kit : kitTab K [cW, cT, cD, cM, cK, cL, cU, cN] cB = true) :
    ∃ fd : FuncData, (∀ (s : Shared) (v : Value), BindsTo s fd ⟨[v], []⟩ [("script", v)]) ∧ ∀ base : Heap, K.In base → base.Ns mainGlobals mg → GOk P w K mg base 5 fa fd ["script"] (spLaw K) := by
  have e := hfa.symm.trans (PySem.W.mg_of X G a18)
  cases e
  have F0 := fun_mk (st := sRed) l0 c0 k0
  have d0 : Dn K mg "reduced" f0 _ ["n", "d"] := ⟨PySem.W.mg_of X G a0, k0, F0.binds fun _ _ _ _ _ _ us hl => match us, hl with | [_, _], _ => rfl⟩
  have F1 := fun_mk (st := sAdd) l1 c1 k1
  have d1 : Dn K mg "added" f1 _ ["one", "other"] := ⟨PySem.W.mg_of X G a1, k1, F1.binds fun _ _ _ _ _ _ us hl => match us, hl with | [_, _], _ => rfl⟩
  have F2 := fun_mk (st := sLes) l2 c2 k2
  have d2 : Dn K mg "lessened" f2 _ ["one", "other"] := ⟨PySem.W.mg_of X G a2, k2, F2.binds fun _ _ _ _ _ _ us hl => match us, hl with | [_, _], _ => rfl⟩
  have F3 := fun_mk (st := sTim) l3 c3 k3
  have d3 : Dn K mg "times" f3 _ ["one", "other"] := ⟨PySem.W.mg_of X G a3, k3, F3.binds fun _ _ _ _ _ _ us hl => match us, hl with | [_, _], _ => rfl⟩
  have F4 := fun_mk (st := sCmp) l4 c4 k4
  have d4 : Dn K mg "compared" f4 _ ["one", "other"] := ⟨PySem.W.mg_of X G a4, k4, F4.binds fun _ _ _ _ _ _ us hl => match us, hl with | [_, _], _ => rfl⟩
  have F5 := fun_mk (st := sTxt) l5 c5 k5
  have d5 : Dn K mg "fraction_text" f5 _ ["fraction"] := ⟨PySem.W.mg_of X G a5, k5, F5.binds fun _ _ _ _ _ _ us hl => match us, hl with | [_], _ => rfl⟩
  have F6 := fun_mk (st := sBag) l6 c6 k6
  have d6 : Dn K mg "_law_bag" f6 _ ["script"] := ⟨PySem.W.mg_of X G a6, k6, F6.binds fun _ _ _ _ _ _ us hl => match us, hl with | [_], _ => rfl⟩
  have F7 := fun_mk (st := sTak) l7 c7 k7
  have d7 : Dn K mg "_law_take" f7 _ ["bag", "many"] := ⟨PySem.W.mg_of X G a7, k7, F7.binds fun _ _ _ _ _ _ us hl => match us, hl with | [_, _], _ => rfl⟩
  have F8 := fun_mk (st := sSom) l8 c8 k8
  have d8 : Dn K mg "_law_some" f8 _ ["bag", "things"] := ⟨PySem.W.mg_of X G a8, k8, F8.binds fun _ _ _ _ _ _ us hl => match us, hl with | [_, _], _ => rfl⟩
  have F9 := fun_mk (st := sAli) l9 c9 k9
  have d9 : Dn K mg "_law_alike" f9 _ ["found", "due"] := ⟨PySem.W.mg_of X G a9, k9, F9.binds fun _ _ _ _ _ _ us hl => match us, hl with | [_, _], _ => rfl⟩
  have F10 := fun_mk (st := sOdd) l10 c10 k10
  have d10 : Dn K mg "_law_odd" f10 _ ["bag"] := ⟨PySem.W.mg_of X G a10, k10, F10.binds fun _ _ _ _ _ _ us hl => match us, hl with | [_], _ => rfl⟩
  have F11 := fun_mk (st := sCom) l11 c11 k11
  have d11 : Dn K mg "_law_common_of" f11 _ ["one", "other"] := ⟨PySem.W.mg_of X G a11, k11, F11.binds fun _ _ _ _ _ _ us hl => match us, hl with | [_, _], _ => rfl⟩
  have F12 := fun_mk (st := sLrd) l12 c12 k12
  have d12 : Dn K mg "_law_reduced" f12 _ ["n", "d"] := ⟨PySem.W.mg_of X G a12, k12, F12.binds fun _ _ _ _ _ _ us hl => match us, hl with | [_, _], _ => rfl⟩
  have F13 := fun_mk (st := sInt) l13 c13 k13
  have d13 : Dn K mg "_law_integer" f13 _ ["bag"] := ⟨PySem.W.mg_of X G a13, k13, F13.binds fun _ _ _ _ _ _ us hl => match us, hl with | [_], _ => rfl⟩
  have F14 := fun_mk (st := sFra) l14 c14 k14
  have d14 : Dn K mg "_law_fraction" f14 _ ["bag"] := ⟨PySem.W.mg_of X G a14, k14, F14.binds fun _ _ _ _ _ _ us hl => match us, hl with | [_], _ => rfl⟩
  have F15 := fun_mk (st := sErs) l15 c15 k15
  have d15 : Dn K mg "_law_errors" f15 _ ["one", "two"] := ⟨PySem.W.mg_of X G a15, k15, F15.binds fun _ _ _ _ _ _ us hl => match us, hl with | [_, _], _ => rfl⟩
  have F16 := fun_mk (st := sKin) l16 c16 k16
  have d16 : Dn K mg "_law_kinds" f16 _ ["error"] := ⟨PySem.W.mg_of X G a16, k16, F16.binds fun _ _ _ _ _ _ us hl => match us, hl with | [_], _ => rfl⟩
  have F17 := fun_mk (st := sIer) l17 c17 k17
  have d17 : Dn K mg "_law_is_error_right" f17 _ ["lot", "at"] := ⟨PySem.W.mg_of X G a17, k17, F17.binds fun _ _ _ _ _ _ us hl => match us, hl with | [_, _], _ => rfl⟩
  have F18 := fun_mk (st := sLaw) l18 c18 k18
  have y_len := PySem.W.mg_none_of X G z_len
  have y_abs := PySem.W.mg_none_of X G z_abs
  have y_int := PySem.W.mg_none_of X G z_int
  have y_str := PySem.W.mg_none_of X G z_str
  have y_repr := PySem.W.mg_none_of X G z_repr
  have y_isinstance := PySem.W.mg_none_of X G z_isinstance
  have y_range := PySem.W.mg_none_of X G z_range
  have y_ValueError := PySem.W.mg_none_of X G z_ValueError
  have y_list := PySem.W.mg_none_of X G z_list
  have y_gcd := PySem.W.mg_of X G m_gcd
  have yB := PySem.W.mg_of X G aB
  have hB : BaseInit K cB := ⟨⟨rB, gB⟩, iB⟩
  have CW : ClsF K cW cB := ⟨⟨_, _, _, _, _, _, _, _, _, _, _, _, _, _, xW⟩, saW, gaW, ggW, kCW, exW, tyW, hdW, haW, hn, ht, hmW⟩
  have FIW := fun_mk (st := stW) lW ccW kW
  have EW : Er K mg "Wrong" cW i_W _ ["self", "place"] := ⟨PySem.W.mg_of X G aW, CW.o, iW, tW, FIW.binds fun _ _ _ _ _ _ us hl => match us, hl with | [_, _], _ => rfl, CW.e, CW.f⟩
  have CT : ClsF K cT cB := ⟨⟨_, _, _, _, _, _, _, _, _, _, _, _, _, _, xT⟩, saT, gaT, ggT, kCT, exT, tyT, hdT, haT, hn, ht, hmT⟩
  have FIT := fun_mk (st := stT) lT ccT kT
  have ET : Er K mg "NoText" cT i_T _ ["self", "place"] := ⟨PySem.W.mg_of X G aT, CT.o, iT, tT, FIT.binds fun _ _ _ _ _ _ us hl => match us, hl with | [_, _], _ => rfl, CT.e, CT.f⟩
  have CD : ClsF K cD cB := ⟨⟨_, _, _, _, _, _, _, _, _, _, _, _, _, _, xD⟩, saD, gaD, ggD, kCD, exD, tyD, hdD, haD, hn, ht, hmD⟩
  have FID := fun_mk (st := stD) lD ccD kD
  have ED : Er K mg "Dead" cD i_D _ ["self", "ring"] := ⟨PySem.W.mg_of X G aD, CD.o, iD, tD, FID.binds fun _ _ _ _ _ _ us hl => match us, hl with | [_, _], _ => rfl, CD.e, CD.f⟩
  have CM : ClsF K cM cB := ⟨⟨_, _, _, _, _, _, _, _, _, _, _, _, _, _, xM⟩, saM, gaM, ggM, kCM, exM, tyM, hdM, haM, hn, ht, hmM⟩
  have FIM := fun_mk (st := stM) lM ccM kM
  have EM : Er K mg "TooMany" cM i_M _ ["self", "most"] := ⟨PySem.W.mg_of X G aM, CM.o, iM, tM, FIM.binds fun _ _ _ _ _ _ us hl => match us, hl with | [_, _], _ => rfl, CM.e, CM.f⟩
  have CK : ClsF K cK cB := ⟨⟨_, _, _, _, _, _, _, _, _, _, _, _, _, _, xK⟩, saK, gaK, ggK, kCK, exK, tyK, hdK, haK, hn, ht, hmK⟩
  have FIK := fun_mk (st := stK) lK ccK kK
  have EK : Er K mg "NoTask" cK i_K _ ["self", "name"] := ⟨PySem.W.mg_of X G aK, CK.o, iK, tK, FIK.binds fun _ _ _ _ _ _ us hl => match us, hl with | [_, _], _ => rfl, CK.e, CK.f⟩
  have CL : ClsF K cL cB := ⟨⟨_, _, _, _, _, _, _, _, _, _, _, _, _, _, xL⟩, saL, gaL, ggL, kCL, exL, tyL, hdL, haL, hn, ht, hmL⟩
  have FIL := fun_mk (st := stL) lL ccL kL
  have EL : Er K mg "NoCommand" cL i_L _ ["self", "line"] := ⟨PySem.W.mg_of X G aL, CL.o, iL, tL, FIL.binds fun _ _ _ _ _ _ us hl => match us, hl with | [_, _], _ => rfl, CL.e, CL.f⟩
  have CU : ClsF K cU cB := ⟨⟨_, _, _, _, _, _, _, _, _, _, _, _, _, _, xU⟩, saU, gaU, ggU, kCU, exU, tyU, hdU, haU, hn, ht, hmU⟩
  have FIU := fun_mk (st := stU) lU ccU kU
  have EU : Er K mg "Unlike" cU i_U _ ["self", "step"] := ⟨PySem.W.mg_of X G aU, CU.o, iU, tU, FIU.binds fun _ _ _ _ _ _ us hl => match us, hl with | [_, _], _ => rfl, CU.e, CU.f⟩
  have CN : ClsF K cN cB := ⟨⟨_, _, _, _, _, _, _, _, _, _, _, _, _, _, xN⟩, saN, gaN, ggN, kCN, exN, tyN, hdN, haN, hn, ht, hmN⟩
  have FIN := fun_mk (st := stN) lN ccN kN
  have EN : Er K mg "Nothing" cN i_N _ ["self"] := ⟨PySem.W.mg_of X G aN, CN.o, iN, tN, FIN.binds fun _ _ _ _ _ _ us hl => match us, hl with | [_], _ => rfl, CN.e, CN.f⟩
  have kt : KitT K [cW, cT, cD, cM, cK, cL, cU, cN] cB := kitT_of rfl kit fun C hC => by
    simp only [List.mem_cons, List.not_mem_nil, or_false] at hC
    rcases hC with rfl | rfl | rfl | rfl | rfl | rfl | rfl | rfl
    · exact CW.e
    · exact CT.e
    · exact CD.e
    · exact CM.e
    · exact CK.e
    · exact CL.e
    · exact CU.e
    · exact CN.e
  have kz : Kit K mg cW cT cD cM cK cL cU cN := ⟨nfW, nfT, nfD, nfM, nfK, nfL, nfU⟩
  refine ⟨PySem.W.fnOf "law" "law" (defArgs sLaw) (defBody sLaw) (defScope sLaw) .none kV18 dc18 pm18 an18 cd18 ct18, fun s v => .of_eq rfl, fun base _ _ => ?_⟩
  have IW : FnOk P w K mg base CX0 1 i_W _ ["self", "place"] (spIn K cW "place") := ok_ini "place" stW FIW scW CW.o nfW ⟨_, _, _, _, rfl, by decide, by decide, rfl, rfl⟩
  have IT : FnOk P w K mg base CX0 1 i_T _ ["self", "place"] (spIn K cT "place") := ok_ini "place" stT FIT scT CT.o nfT ⟨_, _, _, _, rfl, by decide, by decide, rfl, rfl⟩
  have ID : FnOk P w K mg base CX0 1 i_D _ ["self", "ring"] (spIn K cD "ring") := ok_ini "ring" stD FID scD CD.o nfD ⟨_, _, _, _, rfl, by decide, by decide, rfl, rfl⟩
  have IM : FnOk P w K mg base CX0 1 i_M _ ["self", "most"] (spIn K cM "most") := ok_ini "most" stM FIM scM CM.o nfM ⟨_, _, _, _, rfl, by decide, by decide, rfl, rfl⟩
  have IK : FnOk P w K mg base CX0 1 i_K _ ["self", "name"] (spIn K cK "name") := ok_ini "name" stK FIK scK CK.o nfK ⟨_, _, _, _, rfl, by decide, by decide, rfl, rfl⟩
  have IL : FnOk P w K mg base CX0 1 i_L _ ["self", "line"] (spIn K cL "line") := ok_ini "line" stL FIL scL CL.o nfL ⟨_, _, _, _, rfl, by decide, by decide, rfl, rfl⟩
  have IU : FnOk P w K mg base CX0 1 i_U _ ["self", "step"] (spIn K cU "step") := ok_ini "step" stU FIU scU CU.o nfU ⟨_, _, _, _, rfl, by decide, by decide, rfl, rfl⟩
  have IN : FnOk P w K mg base CX0 1 i_N _ ["self"] (spNo cN) := ok_not FIN CN.o yB hB
  have gRed : FnOk P w K mg base CX0 1 _ _ ["n", "d"] spRed := ok_red F0 y_gcd
  have gAdd := ok_add d0 gRed F1
  have gLes := ok_les d0 gRed F2
  have gTim := ok_tim d0 gRed F3
  have gCmp : FnOk P w K mg base CX0 1 _ _ ["one", "other"] spCmp := ok_cmp F4
  have gTxt : FnOk P w K mg base CX0 1 _ _ ["fraction"] spTxt := ok_txt F5 y_str
  have gBag : FnOk P w K mg base CX0 1 _ _ ["script"] (spBag K) := ok_bag F6 y_abs
  have gTak : FnOk P w K mg base CX0 1 _ _ ["bag", "many"] spTak := ok_tak F7 y_int
  have gSom := ok_som F8 d7 gTak y_len
  have gAli : GOk P w K mg base 1 _ _ ["found", "due"] (spAli K) := ok_ali F9 y_repr
  have gOdd := ok_odd F10 d8 gSom
  have gCom : FnOk P w K mg base CX0 1 _ _ ["one", "other"] spCom := ok_com F11 y_abs y_int
  have gLrd := ok_lrd F12 d11 gCom
  have gInt : FnOk P w K mg base CX0 3 _ _ ["bag"] spInt := ok_int d8 gSom d7 gTak F13 (by decide) (by decide)
  have gFra : FnOk P w K mg base CX0 4 _ _ ["bag"] spFra := ok_fra F14 d8 gSom d7 gTak d13 gInt d12 gLrd (by decide) (by decide) (by decide) (by decide)
  have gErs : FnOk P w K mg base CX0 3 _ _ ["one", "two"] (spErs [cW, cT, cD, cM, cK, cL, cU, cN]) := ok_ers F15 kz EW ET ED EM EK EL EU EN IW IT ID IM IK IL IU IN (by decide)
  have gKin : FnOk P w K mg base CX0 1 _ _ ["error"] (spKin [cW, cT, cD, cM, cK, cL, cU, cN]) := ok_kin F16 kt y_isinstance EW.m ET.m ED.m EM.m EK.m EL.m EU.m EN.m
  have gIer : GOk P w K mg base 2 _ _ ["lot", "at"] (spIer K [cW, cT, cD, cM, cK, cL, cU, cN]) := ok_ier F17 kt y_isinstance y_range yB y_ValueError y_list d16 gKin d9 gAli (by decide) (by decide)
  exact ok_law F18 y_range y_int y_str d6 gBag d7 gTak d8 gSom d10 gOdd d15 gErs d17 gIer d9 gAli d14 gFra d12 gLrd d0 gRed d1 gAdd d2 gLes d3 gTim d4 gCmp d5 gTxt
end K00

set_option Elab.async false
set_option linter.all false
open PySem PySem.W PyProof.Rows
set_option maxRecDepth 100000
set_option maxHeartbeats 0 in
theorem PySem.Challenge.cw_unwaited_k00_errors_and_fractions_holds : PySem.Challenge.rw_unwaited_k00_errors_and_fractions.Holds := by
  w_on; o_law; k_head; (case hw => w_witness2)
  k_fill
  refine Vg.walk_ofG (l := PySem.Challenge.rw_unwaited_k00_errors_and_fractions) (n := 63) (k := 5) (x := "script") (sp := fun w => K00.spLaw _) rfl (by decide) rfl ⟨rfl, by decide, by decide⟩ (fun w h Y => PySem.W.kIn_of Y) ?F (fun _ _ a ns hl _ hS => ⟨a, ns, rfl, hS, hl, fun _ => rfl⟩)
  case F =>
    intro w mg fa h KX G hmg
    refine' K00.all_mk KX G hmg ?a0 ?l0 ?c0 ?k0 ?a1 ?l1 ?c1 ?k1 ?a2 ?l2 ?c2 ?k2 ?a3 ?l3 ?c3 ?k3 ?a4 ?l4 ?c4 ?k4 ?a5 ?l5 ?c5 ?k5 ?a6 ?l6 ?c6 ?k6 ?a7 ?l7 ?c7 ?k7 ?a8 ?l8 ?c8 ?k8 ?a9 ?l9 ?c9 ?k9 ?a10 ?l10 ?c10 ?k10 ?a11 ?l11 ?c11 ?k11 ?a12 ?l12 ?c12 ?k12 ?a13 ?l13 ?c13 ?k13 ?a14 ?l14 ?c14 ?k14 ?a15 ?l15 ?c15 ?k15 ?a16 ?l16 ?c16 ?k16 ?a17 ?l17 ?c17 ?k17 ?a18 ?l18 ?c18 ?k18 ?z_len ?z_abs ?z_int ?z_str ?z_repr ?z_isinstance ?z_range ?z_ValueError ?z_list ?m_gcd ?aB ?rB ?gB ?iB ?hn ?ht ?aW ?xW ?saW ?gaW ?ggW ?kCW ?exW ?tyW ?hdW ?haW ?hmW ?nfW ?iW ?tW ?lW ?ccW ?kW ?aT ?xT ?saT ?gaT ?ggT ?kCT ?exT ?tyT ?hdT ?haT ?hmT ?nfT ?iT ?tT ?lT ?ccT ?kT ?aD ?xD ?saD ?gaD ?ggD ?kCD ?exD ?tyD ?hdD ?haD ?hmD ?nfD ?iD ?tD ?lD ?ccD ?kD ?aM ?xM ?saM ?gaM ?ggM ?kCM ?exM ?tyM ?hdM ?haM ?hmM ?nfM ?iM ?tM ?lM ?ccM ?kM ?aK ?xK ?saK ?gaK ?ggK ?kCK ?exK ?tyK ?hdK ?haK ?hmK ?nfK ?iK ?tK ?lK ?ccK ?kK ?aL ?xL ?saL ?gaL ?ggL ?kCL ?exL ?tyL ?hdL ?haL ?hmL ?nfL ?iL ?tL ?lL ?ccL ?kL ?aU ?xU ?saU ?gaU ?ggU ?kCU ?exU ?tyU ?hdU ?haU ?hmU ?nfU ?iU ?tU ?lU ?ccU ?kU ?aN ?xN ?saN ?gaN ?ggN ?kCN ?exN ?tyN ?hdN ?haN ?hmN ?iN ?tN ?lN ?ccN ?kN ?kit
    (case a0 => k_is); (case l0 => k_is); (case c0 => k_is); (case k0 => k_is); (case a1 => k_is); (case l1 => k_is); (case c1 => k_is); (case k1 => k_is)
    (case a2 => k_is); (case l2 => k_is); (case c2 => k_is); (case k2 => k_is); (case a3 => k_is); (case l3 => k_is); (case c3 => k_is); (case k3 => k_is)
    (case a4 => k_is); (case l4 => k_is); (case c4 => k_is); (case k4 => k_is); (case a5 => k_is); (case l5 => k_is); (case c5 => k_is); (case k5 => k_is)
    (case a6 => k_is); (case l6 => k_is); (case c6 => k_is); (case k6 => k_is); (case a7 => k_is); (case l7 => k_is); (case c7 => k_is); (case k7 => k_is)
    (case a8 => k_is); (case l8 => k_is); (case c8 => k_is); (case k8 => k_is); (case a9 => k_is); (case l9 => k_is); (case c9 => k_is); (case k9 => k_is)
    (case a10 => k_is); (case l10 => k_is); (case c10 => k_is); (case k10 => k_is); (case a11 => k_is); (case l11 => k_is); (case c11 => k_is); (case k11 => k_is)
    (case a12 => k_is); (case l12 => k_is); (case c12 => k_is); (case k12 => k_is); (case a13 => k_is); (case l13 => k_is); (case c13 => k_is); (case k13 => k_is)
    (case a14 => k_is); (case l14 => k_is); (case c14 => k_is); (case k14 => k_is); (case a15 => k_is); (case l15 => k_is); (case c15 => k_is); (case k15 => k_is)
    (case a16 => k_is); (case l16 => k_is); (case c16 => k_is); (case k16 => k_is); (case a17 => k_is); (case l17 => k_is); (case c17 => k_is); (case k17 => k_is)
    (case a18 => k_is); (case l18 => k_is); (case c18 => k_is); (case k18 => k_is); (case z_len => k_is); (case z_abs => k_is); (case z_int => k_is); (case z_str => k_is)
    (case z_repr => k_is); (case z_isinstance => k_is); (case z_range => k_is); (case z_ValueError => k_is); (case z_list => k_is); (case m_gcd => k_is); (case aB => k_is); (case rB => k_is)
    (case gB => k_is); (case iB => k_is); (case hn => k_is); (case ht => k_is); (case aW => k_is); (case xW => k_is); (case saW => k_is); (case gaW => k_is)
    (case ggW => k_is); (case kCW => k_is); (case exW => k_is); (case tyW => k_is); (case hdW => k_is); (case haW => k_is); (case hmW => k_is); (case nfW => k_is)
    (case iW => k_is); (case tW => k_is); (case lW => k_is); (case ccW => k_is); (case kW => k_is); (case aT => k_is); (case xT => k_is); (case saT => k_is)
    (case gaT => k_is); (case ggT => k_is); (case kCT => k_is); (case exT => k_is); (case tyT => k_is); (case hdT => k_is); (case haT => k_is); (case hmT => k_is)
    (case nfT => k_is); (case iT => k_is); (case tT => k_is); (case lT => k_is); (case ccT => k_is); (case kT => k_is); (case aD => k_is); (case xD => k_is)
    (case saD => k_is); (case gaD => k_is); (case ggD => k_is); (case kCD => k_is); (case exD => k_is); (case tyD => k_is); (case hdD => k_is); (case haD => k_is)
    (case hmD => k_is); (case nfD => k_is); (case iD => k_is); (case tD => k_is); (case lD => k_is); (case ccD => k_is); (case kD => k_is); (case aM => k_is)
    (case xM => k_is); (case saM => k_is); (case gaM => k_is); (case ggM => k_is); (case kCM => k_is); (case exM => k_is); (case tyM => k_is); (case hdM => k_is)
    (case haM => k_is); (case hmM => k_is); (case nfM => k_is); (case iM => k_is); (case tM => k_is); (case lM => k_is); (case ccM => k_is); (case kM => k_is)
    (case aK => k_is); (case xK => k_is); (case saK => k_is); (case gaK => k_is); (case ggK => k_is); (case kCK => k_is); (case exK => k_is); (case tyK => k_is)
    (case hdK => k_is); (case haK => k_is); (case hmK => k_is); (case nfK => k_is); (case iK => k_is); (case tK => k_is); (case lK => k_is); (case ccK => k_is)
    (case kK => k_is); (case aL => k_is); (case xL => k_is); (case saL => k_is); (case gaL => k_is); (case ggL => k_is); (case kCL => k_is); (case exL => k_is)
    (case tyL => k_is); (case hdL => k_is); (case haL => k_is); (case hmL => k_is); (case nfL => k_is); (case iL => k_is); (case tL => k_is); (case lL => k_is)
    (case ccL => k_is); (case kL => k_is); (case aU => k_is); (case xU => k_is); (case saU => k_is); (case gaU => k_is); (case ggU => k_is); (case kCU => k_is)
    (case exU => k_is); (case tyU => k_is); (case hdU => k_is); (case haU => k_is); (case hmU => k_is); (case nfU => k_is); (case iU => k_is); (case tU => k_is)
    (case lU => k_is); (case ccU => k_is); (case kU => k_is); (case aN => k_is); (case xN => k_is); (case saN => k_is); (case gaN => k_is); (case ggN => k_is)
    (case kCN => k_is); (case exN => k_is); (case tyN => k_is); (case hdN => k_is); (case haN => k_is); (case hmN => k_is); (case iN => k_is); (case tN => k_is)
    (case lN => k_is); (case ccN => k_is); (case kN => k_is)
    (case kit => kernel_rfl)

