import PyProof.Rows.All
import Wide.All
import OpenK.AllK
import Wide.FinOn
import KE.OsRunLaw
import KE.KNestM
import KE.KLam
import PySem.Challenge.RW_surepipes_k10_errors_made
import HandS.ForMost
import HandS.OwnEq
import HandS.SlotsOwn
import HandS.Property
import HandS.Gcd
import HandS.WideBits
import HandS.Style
import HandS.FStr
import HandS.IsInst
import HandS.RaiseMore
import HandS.Codes
import HandS.Defaults
import KE.RegKCallOwn
import PyProof.ReprRoads
import HandS.ClsMeth
import HandS.Star
import HandS.MakeKwOnly
import HandS.MakeKw
import HandS.StrMore
import KE.GoesMore
import KE.GoesEnum
import HandS.Walk
import HandS.Zip
import KE.KDictZip
import HandS.TryOnly
import HandS.ExcInit
import HandS.ExcField
import HandS.WordsExc
import HandS.TryMany
import HandS.ExcIs
import KE.KExcIs
import PyProof.ExcBaseAll.ArithmeticError
import KE.KExcInit
import PyProof.ExcBaseAll.LookupError
import PyProof.ExcBaseAll.RuntimeError
import PyProof.ExcBaseAll.ValueError
import HandS.Dict
import HandS.Lambda
import HandS.EndTab
import HandS.HotCalls
import KE.KNest
import PyProof.ReprNest
import KE.KFmtOwn
import HandS.DictTup
import PyProof.Rows.StrFirst
import PyProof.Rows.StrItems
import PyProof.StrLawsChain
import PyProof.StrLawsTight
import PyProof.StrLawsAffix
import KE.IntTextLaws
import HandS.Text
set_option Elab.async false
set_option maxRecDepth 100000
set_option maxHeartbeats 0
namespace HSp
theorem split3 {α β γ δ : Type _} {o : Option α} {f : α → β} {g : α → γ} {h : α → δ} {x : β} {y : γ} {z : δ} (h1 : o.map f = some x) (h2 : o.map g = some y) (h3 : o.map h = some z) : o.map (fun s => (f s, g s, h s)) = some (x, y, z) := by
  cases o with
  | none => cases h1
  | some a =>
    cases h1
    cases h2
    cases h3
    rfl
theorem all {α β1 β2 β3 β4 β5 β6 β7 β8 β9 : Type _} {o : Option α} (f : α → β1 × β2 × β3 × β4 × β5 × β6 × β7 × β8 × β9) (g : α → Bool) {y1 : β1} {y2 : β2} {y3 : β3} {y4 : β4} {y5 : β5} {y6 : β6} {y7 : β7} {y8 : β8} {y9 : β9}
    (h0 : o.map (fun x => (g x, (f x).2.1, (f x).2.2.2.2.1, (f x).2.2.2.2.2.2.1)) = some (true, y2, y5, y7)) (h1 : o.map (fun x => ((f x).1, (f x).2.2.2.2.2.2.2.2)) = some (y1, y9)) (h2 : o.map (fun x => (f x).2.2.1) = some y3)
    (h3 : o.map (fun x => ((f x).2.2.2.1, (f x).2.2.2.2.2.2.2.1)) = some (y4, y8)) (h4 : o.map (fun x => (f x).2.2.2.2.2.1) = some y6) : o.map g = some true ∧ o.map f = some (y1, y2, y3, y4, y5, y6, y7, y8, y9) := by
  cases o with
  | none => cases h0
  | some a =>
    generalize hv : f a = v at *
    generalize hu : g a = u at *
    obtain ⟨v1, v2, v3, v4, v5, v6, v7, v8, v9⟩ := v
    have e0 : (g a, (f a).2.1, (f a).2.2.2.2.1, (f a).2.2.2.2.2.2.1) = (true, y2, y5, y7) := Option.some.inj h0
    have e1 : ((f a).1, (f a).2.2.2.2.2.2.2.2) = (y1, y9) := Option.some.inj h1
    have e2 : (f a).2.2.1 = y3 := Option.some.inj h2
    have e3 : ((f a).2.2.2.1, (f a).2.2.2.2.2.2.2.1) = (y4, y8) := Option.some.inj h3
    have e4 : (f a).2.2.2.2.2.1 = y6 := Option.some.inj h4
    rw [hv] at e0 e1 e2 e3 e4
    rw [hu] at e0
    cases e0
    cases e1
    cases e2
    cases e3
    cases e4
    exact ⟨congrArg some hu, congrArg some hv⟩
theorem via {α : Type _} {a b c d : α} (h1 : a = b) (h2 : b = c) (h3 : c = d) : a = d := h1.trans (h2.trans h3)
theorem kernelFlag : True := trivial
end HSp
namespace HSp
open PySem PySem.W PySem.Calls PyProof.Rows HeadRun
/-- the head's run for a law that makes lambdas: its objects and its empty tables are read off the tree -/
theorem left_tabs {p q : Program} {loose : List PySem.Str} {Xt : Shared → Bool} {K : Params → Frag} {as : List Addr} {ek : ∀ P, as = (K P).map (·.1)} {ts : List Addr} {N : Nat}
    (h : ∀ w : World, (wholeF (fun p => stepQ (denQ tabQ) p w) fenceQ N p).map (fun x => (looksF p x.1.heap x.2.abs, seenQ q loose (importedModules p.main.body) Xt x.2.abs, (as.map (getT x.2), ts.map (getT x.2)))) = some (true, openGood q loose, ((K w.params).map (fun x => some x.2), ts.map fun _ => some (tabObj #[])))) :
    LeftO p q loose Xt (Hook.obs (kmHook K as ek ts)) (Hook.val (kmHook K as ek ts)) N true :=
  left_imp fun w => by
    have z := h w
    have ef : (fun x : Shared × SharedT => (looksF p x.1.heap x.2.abs, openSeen q loose (importedModules p.main.body) Xt true x.2.abs, Hook.obs (kmHook K as ek ts) x.2.abs)) =
        fun x => (looksF p x.1.heap x.2.abs, seenQ q loose (importedModules p.main.body) Xt x.2.abs, (as.map (getT x.2), ts.map (getT x.2))) := by
      funext x
      have g1 : as.map (getT x.2) = as.map x.2.abs.heap.get? := List.map_congr_left fun b _ => getT_eq x.2 b
      have g2 : ts.map (getT x.2) = ts.map x.2.abs.heap.get? := List.map_congr_left fun b _ => getT_eq x.2 b
      rw [seenQ_eq, g1, g2]
      rfl
    rw [ef, wholeQ_eq]
    exact z
end HSp
namespace HRn
open PySem PySem.W PyProof.Rows
abbrev prg : Program := PySem.Challenge.rw_surepipes_k10_errors_made.row.prog
abbrev vw : Program := view prg [0, 1, 3, 4, 5, 6, 7, 8, 9, 10, 11, 12, 13, 14, 15, 16, 17, 18, 19, 20, 21, 22, 23, 24, 25, 26, 27, 28, 29, 30, 31, 32, 33, 34, 35, 36, 37, 38, 40, 41, 42, 43, 44, 45, 46, 47, 48, 49, 50, 52, 53, 54, 55, 56, 57, 58, 59, 60, 61, 62, 63, 64, 65, 66, 67, 68]
abbrev lse : List Str := [Str.ofString "PART", Str.ofString "Amount"]
abbrev lvs : List (Str × WData) := [(Str.ofString "PART", WData.int 1000000000000000000000000000000000000000000000000000000000000)]
@[irreducible] noncomputable def whole (w : World) := HeadRun.wholeF (fun p => HeadRun.stepQ (HeadRun.denQ HeadRun.tabQ) p w) HeadRun.fenceQ 22358 prg
@[irreducible] noncomputable def sq (s : Shared) := HeadRun.seenQ vw lse (importedModules prg.main.body) (fun s => xlAt vw lvs s && recOk PySem.Challenge.rw_surepipes_k10_errors_made.row.records s) s
@[irreducible] noncomputable def lk (x : Shared × SharedT) : Bool := HeadRun.looksF prg x.1.heap x.2.abs
theorem run_4 (w : World) : (whole w).map (fun x => ((sq x.2.abs).2.2.2.2.2.1)) = some (plainGoodE vw (looseW vw lse)) := by kernel_rfl
theorem run_0 (w : World) : (whole w).map (fun x => (lk x, (sq x.2.abs).2.1, (sq x.2.abs).2.2.2.2.1, (sq x.2.abs).2.2.2.2.2.2.1)) = some (true, bltViewBooted, pinGoodD (drecsOf vw), plainGoodD vw lse) := by kernel_rfl
theorem run_1 (w : World) : (whole w).map (fun x => ((sq x.2.abs).1, (sq x.2.abs).2.2.2.2.2.2.2.2)) = some (expectedOf vw, clsGoodW vw lse) := by kernel_rfl
theorem run_2 (w : World) : (whole w).map (fun x => ((sq x.2.abs).2.2.1)) = some (true) := by kernel_rfl
theorem run_3 (w : World) : (whole w).map (fun x => ((sq x.2.abs).2.2.2.1, (sq x.2.abs).2.2.2.2.2.2.2.1)) = some (true, wideGood vw) := by kernel_rfl
theorem run12 (w : World) : (whole w).map (fun x => lk x) = some true ∧ (whole w).map (fun x => sq x.2.abs) = some (expectedOf vw, bltViewBooted, true, true, pinGoodD (drecsOf vw), plainGoodE vw (looseW vw lse), plainGoodD vw lse, wideGood vw, clsGoodW vw lse) :=
  by
  have h0 := run_0 w
  have h1 := run_1 w
  have h2 := run_2 w
  have h3 := run_3 w
  have h4 := run_4 w
  revert h0 h1 h2 h3 h4
  generalize whole w = o
  intro h0 h1 h2 h3 h4
  exact HSp.all (fun x => sq x.2.abs) (fun x => lk x) h0 h1 h2 h3 h4
end HRn
namespace HRt
open PySem PySem.W PyProof.Rows
open Lean in
local macro_rules | `(tactic| kernel_rfl) => do
  if (← Macro.resolveGlobalName `kernelFlag).isEmpty then `(tactic| first | (refine HSp.split3 ?_ ?_ ?_; (refine HSp.via ?_ (HRn.run12 (by assumption)).1 ?_ <;> (open HSp in kernel_rfl)); (refine HSp.via ?_ (HRn.run12 (by assumption)).2 ?_ <;> (open HSp in kernel_rfl)); (open HSp in kernel_rfl)) | (open HSp in kernel_rfl)) else Macro.throwUnsupported
local macro_rules | `(tactic| o_head $H) => `(tactic| o_headL $H)
open Lean in
local macro_rules | `(tactic| refine $e) => do
  if (e.raw.find? fun s => s.isIdent && s.getId.eraseMacroScopes == `HeadRun.left_impK).isSome then `(tactic| refine HSp.left_tabs ?_) else Macro.throwUnsupported
open_top hd for PySem.Challenge.rw_surepipes_k10_errors_made
end HRt

set_option Elab.async false
set_option linter.all false
set_option maxRecDepth 100000
set_option maxHeartbeats 4000000
namespace Lb
open PySem PySem.Spec PyProof.Rows L2
open SlX (cmpback)

/-! own operators of plain instances -/
section
variable {X : Cx} {CX : CXT} {pins : List (Addr × Obj)} {σ : L2.St} {H : Hp} {s : Shared} {a C dx p g : Addr} {f : Str} {n : Nat} {sp : Sp} {E : XK} {v : V} {u : Value}

/-- what a comparison sees as the type of a value -/
theorem looks_ty {x : V} {u t : Value} (I : Inv X pins σ H s) (rx : RelV x u) (ty : TyOf X.K H x t) : PySem.W.Looks (model X.prog X.w) s.heap (typeOf u) t := by
  obtain ⟨P, k, hp, _⟩ := kit_of I rx (.base ty)
  exact k.ty _ _ I.kIn hp

/-- the instance as the library takes it -/
theorem inst_at {fs : List (Str × V)} (I : Inv X pins σ H s) (e : H a = some (.ins C dx fs)) : ∃ od, PySem.W.InstAt s.heap a (PySem.W.instObj C dx) C (some od) := by
  obtain ⟨mA, O, _⟩ := ins_get I.hok e
  obtain ⟨od, J, _⟩ := O.look
  exact ⟨od, J⟩

/-- x OP y by the def of the class of x for OP -/
def rOwnOp (K : PySem.W.Frag) (C : Addr) (sp : Sp) (E : XK) : R2 := fun x y H Q =>
  ∃ a dx fs t, x = .ref a ∧ H a = some (.ins C dx fs) ∧ TyOf K H y t ∧ PySem.W.notFirst K C t = true ∧ sp [x, y] H Q E
theorem op_ownCmp {K : PySem.W.Frag} {op : CmpOp} (hK : X.K = K) (hop : ∀ a b, compareOp op a b = richCompare op a b)
    (hs : PySem.W.findIn K (.ref C) (cmpInfo op).2.1 = some (some (.ref g))) (hf : PySem.W.isFn K (.ref g) = true)
    (F : FnR X.prog X.w X.K X.mg X.base CX n g sp) (hr : Room n X.A) (hx : Passes CX X E) : OpR X (compareOp op) (rOwnOp K C sp E) := by
  subst hK
  intro pins s σ H x y v u Q I rx ry h
  obtain ⟨a, dx, fs, t, rfl, ha, ty, hn, q⟩ := h
  cases (show v = Value.ref a from rx)
  obtain ⟨od, J⟩ := inst_at I ha
  obtain ⟨m, hF⟩ := I.fr
  rw [hop]
  refine PySem.W.cmp_K (op := op) (tb := t) hr.units0 hF I.ok.mod.kin J (looks_ty I ry ty) hn hs hf ?_
  refine wpAny_mono (wpAny_call (SlX.run_at (us := [.ref a, u]) (ws := [.ref a, y]) F hr I.env0 hx I (.cons rfl (.cons ry .nil)) q)) (fun w s' z => ?_) fun _ _ x => x
  obtain ⟨z', H', I', rz, qz⟩ := z
  exact cmpback rz ⟨z', H', I', rz, qz⟩

/-- x != y where the class of x has __eq__ alone: its answer turned -/
theorem ne_try {K : PySem.W.Frag} {prog : Program} {w : World} {A : Around} {EE : Value → Shared → Prop} {s : Shared} {x C f : Addr} {ox : Obj} {od : Option Obj} {b : Value} {Q : Option Value → Shared → Prop}
    (hu : A.units + 1 < cLine) (KX : K.In s.heap) (J : PySem.W.InstAt s.heap x ox C od)
    (hne : PySem.W.findIn K (.ref C) "__ne__" = some (some (.builtin "object.__ne__"))) (hm : PySem.W.mroIn K C (.type "object") = some true)
    (he : PySem.W.findIn K (.ref C) "__eq__" = some (some (.ref f))) (hf : PySem.W.isFn K (.ref f) = true)
    (h : wpAny (model prog w) A.in1 (call (.ref f) [.ref x, b]) (fun v s' => ∃ k, v = .bool k ∧ Q (some (.bool (!k))) s') EE s) :
    wpAny (model prog w) A (tryCompare (.ref x) "__ne__" b) Q EE s := by
  have hb := PySem.F.cmp_object.ne.bind
  simp only [tryCompare, callSpecialIfBound?, bindSpecialIfBound?]
  refine wpAny_bind (wpAny_holding (wpAny_bind (wpAny_bind (wpAny_bind (J.type.here ((PySem.W.looks_findIn KX hne).here ?_))))))
  refine wpAny_bind (wpAny_askSetting (wpAny_ite ?_))
  have body : wpAny (model prog w) A (call (.builtin "object.__ne__") ([.ref x] ++ [b])) (fun v s' => ∃ k, v = .bool k ∧ Q (some (.bool k)) s') EE s := by
    refine wpAny_call (codeAny_call_builtin PySem.F.cmp_object.ne.plain PySem.F.cmpEntry_ne
      (PySem.W.check_slot PySem.F.cmpKind_ne PySem.F.cmpSplit_ne (J.type.andThen (PySem.W.looks_mroIn KX hm)) (PySem.F.cmpArgs_ne _ _) ?_))
    unfold Builtin.«object.__ne__»
    refine wpAny_bind (m := slotArgs "__ne__" 1 _) (wpAny_pure ?_)
    refine wpAny_bind (m := cRoomFor _ _) (wpAny_cRoomFor hu ?_)
    refine wpAny_bind (m := callSpecialIfBound? (.ref x) (Str.ofString "__eq__") [b]) (PySem.W.ifBound_K KX J he hf (wpAny_mono h (fun v s' z => ?_) fun _ _ e => e))
    obtain ⟨k, rfl, q⟩ := z
    refine wpAny_bind (wpAny_truthy_bool ?_)
    exact wpAny_pure ⟨!k, rfl, q⟩
  have fin : wpAny (model prog w) A (call (.builtin "object.__ne__") ([.ref x] ++ [b]) >>= fun v => pure (some v)) (fun r s' => ∃ k, r = some (.bool k) ∧ Q (some (.bool k)) s') EE s :=
    wpAny_bind (wpAny_mono body (fun v s' ⟨k, e, q⟩ => wpAny_pure ⟨k, by rw [e], q⟩) fun _ _ e => e)
  have fin2 : wpAny (model prog w) A (call (.builtin "object.__ne__") ([.ref x] ++ [b]) >>= fun v => pure (some v)) (fun r s' => wpAny (model prog w) A (match r with
      | some .notImplemented | none => pure none
      | some v => pure (some v)) Q EE s') EE s := wpAny_mono fin (fun r s' ⟨k, e, q⟩ => by subst e; exact wpAny_pure q) fun _ _ e => e
  split
  · exact wpAny_bind ((PySem.W.Looks.of_pure (hb _)).here (wpAny_pure (by exact fin2)))
  · exact wpAny_tryCatch (wpAny_bind ((PySem.W.Looks.of_pure (hb _)).here (wpAny_pure (by exact fin2))))

/-- how a promise at a bool is handed back -/
def rOwnNe (K : PySem.W.Frag) (C : Addr) (sp : Sp) (E : XK) : R2 := fun x y H Q =>
  ∃ a dx fs t, x = .ref a ∧ H a = some (.ins C dx fs) ∧ TyOf K H y t ∧ PySem.W.notFirst K C t = true ∧ sp [x, y] H (fun z H' => ∃ k, z = .bl k ∧ Q (.bl (!k)) H') E
theorem op_ownNe {K : PySem.W.Frag} (hK : X.K = K) (hne : PySem.W.findIn K (.ref C) "__ne__" = some (some (.builtin "object.__ne__"))) (hm : PySem.W.mroIn K C (.type "object") = some true)
    (hs : PySem.W.findIn K (.ref C) "__eq__" = some (some (.ref g))) (hf : PySem.W.isFn K (.ref g) = true)
    (F : FnR X.prog X.w X.K X.mg X.base CX n g sp) (hr : Room (n + 1) X.A) (hx : Passes CX X E) : OpR X (compareOp .NotEq) (rOwnNe K C sp E) := by
  subst hK
  intro pins s σ H x y v u Q I rx ry h
  obtain ⟨a, dx, fs, t, rfl, ha, ty, hn, q⟩ := h
  cases (show v = Value.ref a from rx)
  obtain ⟨od, J⟩ := inst_at I ha
  have KX := I.kIn
  have hb := looks_ty I ry ty
  have hu := hr.units
  have body : wpAny (model X.prog X.w) X.A.in1 (call (.ref g) [.ref a, u]) (fun v s' => ∃ k, v = .bool k ∧ EP X pins σ Q (.bool (!k)) s') X.xe s := by
    refine wpAny_mono (wpAny_call (SlX.run_at (us := [.ref a, u]) (ws := [.ref a, y]) F hr.in1 I.env0.in1 hx I (.cons rfl (.cons ry .nil)) q)) (fun w s' z => ?_) fun _ _ x => x
    obtain ⟨z', H', I', rz, k, ez, qz⟩ := z
    subst ez
    exact ⟨k, rz, .bl (!k), H', I', rfl, qz⟩
  have one : wpAny (model X.prog X.w) X.A (tryCompare (.ref a) "__ne__" u) (fun r s' => ∃ v, r = some v ∧ EP X pins σ Q v s') X.xe s :=
    ne_try (by omega) KX J hne hm hs hf (wpAny_mono body (fun v s' ⟨k, e, q⟩ => ⟨k, e, _, rfl, q⟩) fun _ _ e => e)
  show wpAny (model X.prog X.w) X.A (richCompare .NotEq (.ref a) u) (EP X pins σ Q) X.xe s
  unfold richCompare
  simp only [oneThing_ref]
  refine wpAny_holding (wpAny_bind (wpAny_cRoomFor hr.units0 ?_))
  refine wpAny_bind (J.type.here (wpAny_bind (hb.here ?_)))
  split
  · rename_i q'
    have e : PySem.W.subIn X.K t (.ref C) = some false := by
      rcases Bool.or_eq_true_iff.mp hn with e | e
      · rw [beq_iff_eq.mp e] at q'; simp at q'
      · exact beq_iff_eq.mp e
    refine wpAny_bind ((PySem.W.looks_subIn KX e).here ?_)
    simp only [Bool.false_eq_true, if_false]
    refine wpAny_bind (wpAny_mono one (fun r s' z => ?_) fun _ _ e => e)
    obtain ⟨v, rfl, hq⟩ := z
    exact wpAny_pure hq
  · refine wpAny_bind (wpAny_pure ?_)
    simp only [Bool.false_eq_true, if_false]
    refine wpAny_bind (wpAny_mono one (fun r s' z => ?_) fun _ _ e => e)
    obtain ⟨v, rfl, hq⟩ := z
    exact wpAny_pure hq

/-- str(x), x an instance whose class has __str__ -/
def rOwnTx (C : Addr) (sp : Sp) (E : XK) : List V → Hp → VK → Prop := fun xs H Q =>
  ∃ a dx fs, xs = [.ref a] ∧ H a = some (.ins C dx fs) ∧ sp xs H (fun z H' => ∃ y, z = .str y ∧ Q z H') E
theorem call_strOwn (hs : PySem.W.findIn X.K (.ref C) "__str__" = some (some (.ref g))) (hf : PySem.W.isFn X.K (.ref g) = true)
    (F : FnR X.prog X.w X.K X.mg X.base CX n g sp) (hr : Room (n + 2) X.A) (hx : Passes CX X E) : CallR X (.type "str") (rOwnTx C sp E) := by
  intro pins s σ H xs us Q I r h
  obtain ⟨a, dx, fs, rfl, ha, q⟩ := h
  obtain ⟨u, rfl, ru⟩ := vals1 r
  cases (show u = Value.ref a from ru)
  obtain ⟨od, J⟩ := inst_at I ha
  have hu := hr.units
  have hr2 : Room n X.A.in1.in1 := (show Room (n + 1) X.A.in1 from Room.in1 hr).in1
  refine PySem.W.kso_call (by show X.A.units + 1 + 1 < cLine; omega) I.kIn J hs hf ?_
  refine wpAny_mono (wpAny_call (SlX.run_at (us := [.ref a]) (ws := [.ref a]) F hr2 I.env0.in1.in1 hx I (.cons rfl .nil) q)) (fun w s' z => ?_) fun _ _ x => x
  obtain ⟨z', H', I', rz, y, ez, qz⟩ := z
  subst ez
  obtain ⟨t, rfl⟩ := (show ∃ t, w = Value.str y t from rz)
  exact ⟨.str y, H', I', ⟨t, rfl⟩, qz⟩
/-- repr(x), x an instance whose class has __repr__ -/
theorem call_reprOwn (hs : PySem.W.findIn X.K (.ref C) "__repr__" = some (some (.ref g))) (hf : PySem.W.isFn X.K (.ref g) = true)
    (F : FnR X.prog X.w X.K X.mg X.base CX n g sp) (hr : Room (n + 1) X.A) (hx : Passes CX X E) : CallR X (.builtin "repr") (rOwnTx C sp E) := by
  intro pins s σ H xs us Q I r h
  obtain ⟨a, dx, fs, rfl, ha, q⟩ := h
  obtain ⟨u, rfl, ru⟩ := vals1 r
  cases (show u = Value.ref a from ru)
  obtain ⟨od, J⟩ := inst_at I ha
  have hu := hr.units
  refine Calls.call_function_entry PySem.F.kind_repr PySem.F.plain_repr PySem.F.entry_repr (PySem.F.args_repr1 _) ?_
  unfold Builtin.«repr»
  refine wpAny_bind (m := oneArg "repr" _) (wpAny_pure ?_)
  refine wpAny_bind (m := cRoomFor _ _) (wpAny_cRoomFor (by show X.A.units + 1 < cLine; omega) ?_)
  refine wpAny_bind (wpAny_bind (J.type.here ((PySem.W.looks_findIn I.kIn hs).here ?_)))
  refine wpAny_bind (m := callSpecialIfBound? (.ref a) (Str.ofString "__repr__")) (PySem.W.ifBound_K I.kIn J hs hf ?_)
  refine wpAny_mono (wpAny_call (SlX.run_at (us := [.ref a]) (ws := [.ref a]) F hr.in1 I.env0.in1 hx I (.cons rfl .nil) q)) (fun w s' z => ?_) fun _ _ x => x
  obtain ⟨z', H', I', rz, y, ez, qz⟩ := z
  subst ez
  obtain ⟨t, rfl⟩ := (show ∃ t, w = Value.str y t from rz)
  refine wpAny_bind (wpAny_isInstance (T := "str") (b := true) rfl isSubtype_str_str ?_)
  exact wpAny_pure ⟨_, rfl, .str y, H', I', ⟨t, rfl⟩, qz⟩
end
end Lb

set_option Elab.async false
set_option linter.all false
set_option maxRecDepth 100000
set_option maxHeartbeats 4000000
namespace Lb
open PySem PySem.Spec PyProof.Rows L2
open SlX (cmpback)

/-! repr of data: wants that no repr is running -/
mutual
theorem dp_plain {K : PySem.W.Frag} {H : Hp} : ∀ (d : PyData) (v : V), Dp K H v d → d.hasDict = false
  | .none, _, _ => by simp only [PyData.hasDict]
  | .bool _, _, _ => by simp only [PyData.hasDict]
  | .int _, _, _ => by simp only [PyData.hasDict]
  | .str _, _, _ => by simp only [PyData.hasDict]
  | .list ds, _, h => by
    cases h with
    | lst _ q => simp only [PyData.hasDict]; exact dp_plains ds _ q
  | .tuple ds, _, h => by
    cases h with
    | tup _ q => simp only [PyData.hasDict]; exact dp_plains ds _ q
  | .dict _, _, h => by cases h
theorem dp_plains {K : PySem.W.Frag} {H : Hp} : ∀ (ds : List PyData) (vs : List V), DpAll K H vs ds → PyData.hasDictAll ds = false
  | [], _, _ => by simp only [PyData.hasDictAll]
  | d :: ds, _, h => by
    cases h with
    | cons h1 h2 => simp only [PyData.hasDictAll, dp_plain d _ h1, dp_plains ds _ h2, Bool.or_self]
end
section
variable {X : Cx}
def rRepr (K : PySem.W.Frag) : List V → Hp → VK → Prop := fun xs H Q =>
  ∃ x d, xs = [x] ∧ Dp K H x d ∧ d.showable = true ∧ d.shown.length ≤ sizeLine ∧ d.depth ≤ 60 ∧ Q (.str d.shown) H
theorem call_repr {K : PySem.W.Frag} (hK : X.K = K) (hg : X.A.guards = some []) (hu : X.A.units + 64 < cLine) : CallR X (.builtin "repr") (rRepr K) := by
  subst hK
  intro pins s σ H xs us Q I r h
  obtain ⟨x, d, rfl, hd, hs, hz, hdp, q⟩ := h
  obtain ⟨u, rfl, ru⟩ := vals1 r
  have hpl := dp_plain d x hd
  obtain ⟨as, rd⟩ := Dp.reads I d x u hd ru
  cases x with
  | non =>
    cases hd
    cases (show u = Value.none from ru)
    exact PySem.P.repr_of_none ⟨.str _, H, I.tok _, ⟨_, rfl⟩, q⟩
  | bl b =>
    cases hd
    cases (show u = Value.bool b from ru)
    exact PySem.P.repr_of_bool ⟨.str _, H, I.tok _, ⟨_, rfl⟩, q⟩
  | int i =>
    cases hd
    obtain ⟨t, rfl⟩ := (show ∃ t, u = Value.int i t from ru)
    have hi : i.natAbs.log2 < 1920 := of_decide_eq_true (by simpa only [PyData.showable] using hs)
    exact PySem.P.repr_of_int hi ⟨.str _, H, I.tok _, ⟨_, rfl⟩, q⟩
  | str y =>
    cases hd
    obtain ⟨t, rfl⟩ := (show ∃ t, u = Value.str y t from ru)
    exact PySem.P.repr_of_str ⟨.str _, H, I.tok _, ⟨_, rfl⟩, q⟩ hz
  | byt y => cases hd
  | flt y => cases hd
  | ty y => cases hd
  | ref a =>
    cases (show u = Value.ref a from ru)
    refine PySem.repr_of_reads' rd hs (PyData.noDict_hsm hpl) hg (by omega) (fun _ _ e => e) (fun h' w tk k => ?_) hz
    exact ⟨.str _, H, I.kept k, ⟨_, rfl⟩, q⟩

/-! the layer's rules with the written part told apart (within a comprehension the context is another) -/
variable {K : PySem.W.Frag}
theorem ix_listK (hK : X.K = K) : IxR X (rIxL K) := by subst hK; exact ix_list
theorem ix_tupK (hK : X.K = K) : IxR X (rIxT K) := by subst hK; exact ix_tup
theorem sl_listK (hK : X.K = K) : SlR X (rSlL K) := by subst hK; exact sl_list
theorem call_lenK (hK : X.K = K) : CallR X (.builtin "len") (fun xs H Q => ∃ p ys, xs = [.ref p] ∧ (SqL K H p ys ∨ SqT K H p ys) ∧ Q (.int ys.length) H) := by subst hK; exact call_len_seq
theorem call_isiK' (hK : X.K = K) : CallR X (.builtin "isinstance") (rIsi K) := by subst hK; exact call_isi
theorem cr_allK (hK : X.K = K) (hc : X.calm = true) : CallR X (.builtin "all") (rAll K) := by subst hK; exact cr_all hc
theorem cr_anyK (hK : X.K = K) (hc : X.calm = true) : CallR X (.builtin "any") (rAny K) := by subst hK; exact cr_any hc
theorem pe_fldK {e : Expr} {f : Str} {pos : Pos} {ta : TE} (hK : X.K = K) (he : PE X e ta) (hb : attributeBase e f X.env (eval e X.env) = eval e X.env) : PE X (.Attribute e f pos) (tFld K ta f) := by subst hK; exact pe_fld he hb
theorem ps_fldK {o value : Expr} {f : Str} {pos pos' : Pos} {ta tv : TE} (hK : X.K = K) (ha : PE X o ta) (hv : PE X value tv) (hs : swapsWith value (some (.Attribute o f pos')) pos.line X.env = pure false) :
    PS X (.Assign [.Attribute o f pos'] value pos) (sFld K ta tv f) := by subst hK; exact ps_fld ha hv hs
theorem pg_tupK {pos : Pos} {es : List Expr} {k : Nat} {t : TGs} {n : Nat} (hK : X.K = K) (hc : X.calm = true) (h : PGs X es t)
    (hn : (assignEach es X.env).length = n := by rfl) (hst : (assignEach es X.env).findIdx? (·.1) = none := by rfl) : PG X (.Tuple es k pos) (gTup K n t) := by subst hK; exact pg_tup hc h hn hst
theorem pi_listK {tg l : Expr} {tl : TE} (hK : X.K = K) (hl : PE X l tl) : PI X tg l (iList K tl) := by subst hK; exact pi_list hl
end
end Lb

set_option Elab.async false
set_option linter.all false
set_option maxRecDepth 100000
set_option maxHeartbeats 4000000
namespace Lb
open PySem PySem.Spec PyProof.Rows L2

/-! defs that may show data (repr): they are called where no repr runs -/
structure FnG (P : Program) (w : World) (K : PySem.W.Frag) (mg : Str → Option Value) (base : Heap) (CX : CXT)
    (k : Nat) (f : Addr) (fd : FuncData) (ps : List Str) (sp : Sp) : Prop where
  len : ∀ vs H Q E, sp vs H Q E → vs.length = ps.length
  run : ∀ (A : Around) (outer : List Env) (s : Shared) (H : Hp) (args : Args) (us : List Value) (vs : List V) (Q : VK) (E : XK),
    A.guards = some [] → Room k A → Env0 P w K mg base A outer s H → BindsTo s fd args (ps.zip us) → Vals vs us → sp vs H Q E →
    codeAny (model P w) A (.call (.ref f) args) (CR CX outer P w H s Q E) s

section
variable {P : Program} {w : World} {K : PySem.W.Frag} {mg : Str → Option Value} {base : Heap} {CX : CXT} {k j : Nat} {f : Addr} {fd : FuncData} {ps : List Str} {sp : Sp}
theorem FnG.of (F : FnOk P w K mg base CX k f fd ps sp) : FnG P w K mg base CX k f fd ps sp :=
  ⟨F.len, fun A outer s H args us vs Q E _ hr e0 hb r hs => F.run A outer s H args us vs Q E hr e0 hb r hs⟩
theorem FnG.mono (F : FnG P w K mg base CX j f fd ps sp) (h : j ≤ k) : FnG P w K mg base CX k f fd ps sp :=
  ⟨F.len, fun A outer s H args us vs Q E g hr => F.run A outer s H args us vs Q E g (hr.mono h)⟩
/-- the rule for the body of such a def -/
theorem okG {x qual : Str} {st : Stmt} {N : List Str} (F : Fun K x qual st f fd) (S : FnScope N ps (defScope st))
    (len : ∀ vs H Q E, sp vs H Q E → vs.length = ps.length)
    (hbody : ∀ (cdv : Value) (A : Around) (outer : List Env) (s : Shared) (H : Hp) (vs : List V) (Q : VK) (E : XK),
      (A.deeper (envOfC qual (defScope st) s.heap.objs.size f cdv)).guards = some [] →
      Room k (A.deeper (envOfC qual (defScope st) s.heap.objs.size f cdv)) → sp vs H Q E →
      ∃ t, PSs (cxOf CX P w K mg base N qual (defScope st) f cdv A outer s H E).nox (defBody st) t ∧
        t { nx := fun _ H' => Q .non H', rt := Q } (start N vs) H) :
    FnG P w K mg base CX (k + 1) f fd ps sp := by
  obtain ⟨oc, od, kV, doc, pm, an, cdv, ct, osl, rfl, lk, hcd⟩ := F.ex
  refine ⟨len, fun A outer s H args us vs Q E hgu hr e0 hb r hsp => ?_⟩
  have hl := len vs H Q E hsp
  have KX : K.In s.heap := e0.mod.kin.keeps fun b o e => (e0.bs b o e).1
  have lim : s.heap.NoLimit := e0.mod.nolimit.keeps fun b o e => (e0.bs b o e).1
  have hkind : ∀ y ∈ ps.zip us, (defScope st).names.lookup y.1 = some .local ∨
      ((defScope st).names.lookup y.1 = some .cell ∧ ((cellsFrom (s.heap.objs.size + 1) (defScope st).names []).lookup y.1).isSome = true) := by
    rintro ⟨n, v⟩ hy
    rcases S.par n (List.of_mem_zip hy).1 with q | q
    · exact .inl q
    · exact .inr ⟨q, PySem.W.cellsFrom_some _ _ _ (.inl q)⟩
  refine codeAny_call_function hr.depth (KX _ _ lk) rfl S.co S.gen rfl (PySem.W.codeRec_of KX hcd) (hb _ _ _ _ ?_)
  refine wpAny_newFunctionEnv_cells S.kind hkind fun env he s1 y => ?_
  subst he
  refine ⟨lim.keeps y.toInCall.keep, codeAny_func ?_⟩
  have hgd : (A.deeper (envOfC qual (defScope st) s.heap.objs.size f cdv)).guards = some [] := by
    first
      | exact hgu
      | simpa [Around.deeper] using hgu
  obtain ⟨t, ht, hq⟩ := hbody cdv A outer s H vs Q E hgd (hr.deeper _) hsp
  have I := inv_start (CX := CX) (E := E) S hr.hd e0 hl r y
  have fin : ∀ {σ' : L2.St} {H' : Hp} {s' : Shared} {v : V} {u : Value},
      Inv (cxOf CX P w K mg base N qual (defScope st) f cdv A outer s H E) [] σ' H' s' → RelV v u → Q v H' → CE outer P w H s Q u s' :=
    fun {σ' H' s' v u} J rv q => ⟨v, H', J.os, J.bare, J.base, J.hok, rv, q⟩
  refine wpAny_mono (ht.nox.run [] s1 (start N vs) H _ I hq) (fun fl s' hs => ?_) fun _ _ hs => hs
  cases fl with
  | ret u =>
    obtain ⟨v, σ', H', J, rv, q⟩ := hs
    exact fin J rv q
  | next =>
    obtain ⟨σ', H', J, q⟩ := hs
    exact fin (v := V.non) (u := Value.none) J rfl q
  | brk => exact hs.elim fun _ h => h.elim fun _ h => h.2.elim
  | cont => exact hs.elim fun _ h => h.elim fun _ h => h.2.elim
end

section
variable {X : Cx} {CX : CXT} {k : Nat} {f : Addr} {fd : FuncData} {ps : List Str} {sp : Sp} {dvs : List V} {ds : List Value} {E : XK} {x : Str} {p pos : Pos} {e : Expr} {es : List Expr} {t : TA}
theorem run_fnG {pins : List (Addr × Obj)} {σ : L2.St} {H : Hp} {s : Shared} {Q : VK} {us : List Value} {vs : List V} (F : FnG X.prog X.w X.K X.mg X.base CX k f fd ps sp) (gu : X.A.guards = some [])
    (hr : Room k X.A) (hb : Binds X.K fd ps ds) (hd : Vals dvs ds) (hx : Passes CX X E) (I : Inv X pins σ H s) (r : Vals vs us) (h : sp (vs ++ dvs) H Q E) :
    wpAny (model X.prog X.w) X.A (call (.ref f) us) (EP X pins σ Q) X.xe s := by
  have r2 := r.append hd
  have hl : (us ++ ds).length = ps.length := r2.length ▸ F.len _ H Q E h
  have code := F.run X.A X.stack s H ⟨us, []⟩ (us ++ ds) (vs ++ dvs) Q E gu hr I.env0 (hb s us I.kIn hl) r2 h
  refine wpAny_call (codeAny_mono code fun r s' hq => ?_)
  rcases r with er | fl
  · first | exact hx pins σ H s er s' I hq | (cases er <;> first | exact I.after hq | exact hq.elim)
  · first | (cases fl <;> first | exact I.after hq | exact hq.elim) | exact hx pins σ H s fl s' I hq
theorem pe_callG (F : FnG X.prog X.w X.K X.mg X.base CX k f fd ps sp) (gu : X.A.guards = some []) (hr : Room k X.A) (hg : Gl X x) (hm : X.mg x = some (.ref f))
    (hk : PySem.W.keepIn X.K (.ref f) = true) (hb : Binds X.K fd ps ds) (hd : Vals dvs ds) (hx : Passes CX X E) (ha : PA X (e :: es) t)
    (hdb : (x == ("__debug__" : Str)) = false := by decide) (he : starEach (e :: es) X.env = (false, eval e X.env) :: starEach es X.env := by rfl)
    (hpl : (backTo pos (starEach es X.env)).any (·.1) = false := by rfl) : PE X (.Call (.Name x p) (e :: es) [] pos) (tCall sp dvs E t) := by
  refine ⟨fun pins s σ H Q I h => wpAny_Call_Name_kw (ld_glob I hg hm ?_ hdb)⟩
  refine PySem.W.callWith_K (h₀ := X.base) I.ok.mod.kin hk (thn (ha.run pos pins s σ H _ I h) fun us s1 q => ?_) he hpl
  obtain ⟨vs, H1, I1, r, q⟩ := q
  exact ⟨I1.kIn, run_fnG F gu hr hb hd hx I1 r q⟩
theorem pe_call0G (F : FnG X.prog X.w X.K X.mg X.base CX k f fd ps sp) (gu : X.A.guards = some []) (hr : Room k X.A) (hg : Gl X x) (hm : X.mg x = some (.ref f))
    (hk : PySem.W.keepIn X.K (.ref f) = true) (hb : Binds X.K fd ps ds) (hd : Vals dvs ds) (hx : Passes CX X E)
    (hdb : (x == ("__debug__" : Str)) = false := by decide) : PE X (.Call (.Name x p) [] [] pos) (tCall sp dvs E tNil) :=
  ⟨fun pins s σ H Q I h => wpAny_Call_Name_kw (ld_glob I hg hm (PySem.W.callWith_K0 I.kIn hk (run_fnG (us := []) F gu hr hb hd hx I .nil h)) hdb)⟩
end

/-- the law's call: like the layer's own end, for such a def -/
theorem law_callG {P : Program} {w : World} {K : PySem.W.Frag} {mg mb : Str → Option Value} {CX : CXT} {k : Nat} {fa a : Addr} {fd : FuncData} {x : Str} {sp : Sp} {s1 : Shared} {vs : List Value} {ns : List Int}
    (KX : K.In s1.heap) (hns : s1.heap.Ns mainGlobals mg) (hb : s1.heap.Ns builtinsNs mb) (hbb : ∀ x : Str, x ≠ "__name__" → mb x = bootBuiltins x) (hlim : s1.heap.NoLimit) (hg : s1.gens = #[])
    (ha : s1.heap.get? a = some { cls := .type "list", data := .seq vs.toArray }) (hi : IntsAre vs ns) (hl : ns.length ≤ sizeLine) (hr : Room k callerA)
    (F : ∀ base : Heap, K.In base → base.Ns mainGlobals mg → FnG P w K mg base CX k fa fd [x] sp) (hbind : ∀ (s : Shared) (u : Value), BindsTo s fd ⟨[u], []⟩ [(x, u)])
    (hsp : ∀ H : Hp, Only H → SqL K H a (ns.map V.int) → sp [.ref a] H (fun v _ => v = .bl true) fun _ _ _ => False)
    (hCX : ∀ H e s', CX [] H s1 (fun _ _ _ => False) e s' → False) :
    codeAny (model P w) callerA (.call (.ref fa) ⟨[.ref a], []⟩) (fun r s' => r = .ok (.ret (.bool true)) ∧ OldK s1.heap s'.heap ∧ s'.os = s1.os ∧ AllBare s'.gens) s1 := by
  have rv := vals_ints hi
  have core : ∀ H : Hp, Only H → SqL K H a (ns.map V.int) → HOk P w H s1.heap → (∀ b u, H b = some u → b = a) → (∀ u, H a = some u → K.lookup a = none) →
      codeAny (model P w) callerA (.call (.ref fa) ⟨[.ref a], []⟩) (fun r s' => r = .ok (.ret (.bool true)) ∧ OldK s1.heap s'.heap ∧ s'.os = s1.os ∧ AllBare s'.gens) s1 := by
    intro H hO hS hok hA hK
    have free_of : ∀ {b : Addr} {o : Obj}, s1.heap.get? b = some o → (∀ z : Data, o.data = z → ∃ es ep, z = .dict es ep) → H b = none := by
      intro b o e d
      cases q : H b with
      | none => rfl
      | some u =>
        cases hA b u q
        rw [ha] at e
        cases e
        obtain ⟨es, ep, z⟩ := d _ rfl
        cases z
    have nsK : ∀ {b : Addr} {m : Str → Option Value}, s1.heap.Ns b m → (hidT s1.heap H).Ns b m := by
      rintro b m ⟨o, es, ep, e, d, r⟩
      exact ⟨o, es, ep, hidT_get e (free_of e fun z hz => ⟨es, ep, hz ▸ d⟩), d, r⟩
    have hKb : K.In (hidT s1.heap H) := by
      intro b o e
      refine hidT_get (KX b o e) ?_
      cases q : H b with
      | none => rfl
      | some u =>
        cases hA b u q
        rw [hK u q] at e
        cases e
    have hM : Mod K mg (hidT s1.heap H) := by
      obtain ⟨mc, c1, c2⟩ := hlim
      exact ⟨hKb, nsK hns, ⟨mb, nsK hb, hbb⟩, ⟨mc, nsK c1, c2⟩⟩
    have e0 : Env0 P w K mg (hidT s1.heap H) callerA [] s1 H :=
      ⟨rfl, hM, fun b o e => of_hidT e, Nat.le_of_eq (hidT_size _ _), trivial, fun b hb => (List.not_mem_nil hb).elim, hok, .of_eq hg⟩
    have code := (F _ hKb (nsK hns)).run callerA [] s1 H ⟨[.ref a], []⟩ [.ref a] [.ref a] _ _ rfl hr e0 (hbind s1 (.ref a)) (.cons rfl .nil) (hsp H hO hS)
    refine codeAny_mono code fun r s' h => ?_
    cases r with
    | error e => exact (hCX H e s' h).elim
    | ok fl =>
      cases fl with
      | ret u =>
        obtain ⟨v, H', os, bare, un, hok', r', q⟩ := h
        cases (show v = .bl true from q)
        cases (show u = Value.bool true from r')
        refine ⟨rfl, .of_keep fun b o e => ?_, os, bare⟩
        rcases hO b with z | ⟨ob, xs, z⟩
        · exact un.keep b o e z (fun z => List.not_mem_nil z) (fun z => List.not_mem_nil z)
        · obtain ⟨e1, _⟩ := hok b _ z
          obtain ⟨e2, _⟩ := hok' b _ (un.frzs b ob _ z)
          rw [e] at e1
          cases e1
          exact e2
      | next => exact h.elim
      | brk => exact h.elim
      | cont => exact h.elim
  cases hk : K.lookup a with
  | some o =>
    have e := KX a o hk
    rw [ha] at e
    cases e
    refine core (fun _ => none) (fun _ => .inl rfl) (.inr ⟨_, vs.toArray, _, hk, rfl, rfl, rfl, ?_, ?_⟩) (fun b u z => nomatch (show (none : Option HO) = some u from z)) (fun b u z => nomatch (show (none : Option HO) = some u from z)) (fun u z => nomatch (show (none : Option HO) = some u from z))
    · rw [List.size_toArray, hi.length]
      exact hl
    · simpa using rv
  | none =>
    have at_ : ∀ {b : Addr} {u : HO}, (if b = a then some (HO.frz { cls := .type "list", data := .seq vs.toArray } (.lst (ns.map V.int))) else none) = some u →
        b = a ∧ u = HO.frz { cls := .type "list", data := .seq vs.toArray } (.lst (ns.map V.int)) := by
      intro b u e
      by_cases hb : b = a
      · rw [if_pos hb] at e
        exact ⟨hb, (Option.some.inj e).symm⟩
      · rw [if_neg hb] at e
        cases e
    refine core (fun b => if b = a then some (.frz { cls := .type "list", data := .seq vs.toArray } (.lst (ns.map V.int))) else none) (fun b => ?_)
      (.inl (.inr ⟨{ cls := .type "list", data := .seq vs.toArray }, if_pos rfl⟩)) (fun b u e => ?_) (fun b u e => (at_ e).1) (fun _ _ => hk)
    · by_cases hb : b = a
      · exact .inr ⟨_, _, if_pos hb⟩
      · exact .inl (if_neg hb)
    · obtain ⟨rfl, rfl⟩ := at_ e
      exact ⟨ha, by rw [List.length_map]; exact hl, vs, _, rv, ha⟩

theorem walkG {l : PySem.W.OpenLaw} {n k : Nat} {q : Program} {loose : List Str} {XP : (Str → Option Value) → Heap → Prop} {YP : World → Heap → Prop} {d : DefRec} {K : Params → PySem.W.Frag} {sp : PySem.W.Frag → Sp} {x : Str}
    (hn : l.most = some n) (hn2 : n ≤ sizeLine) (hdf : d.params.defaults = []) (hr : Room k callerA)
    (hY : ∀ (w : World) (h : Heap), YP w h → (K w.params).In h)
    (F : ∀ (w : World) (mg : Str → Option Value) (fa : Addr) (h : Heap), (K w.params).In h → h.Ns mainGlobals mg → mg d.name = some (.ref fa) →
      ∃ fd : FuncData, (∀ (s : Shared) (u : Value), BindsTo s fd ⟨[u], []⟩ [(x, u)]) ∧
        ∀ base : Heap, (K w.params).In base → base.Ns mainGlobals mg → FnG l.prog w (K w.params) mg base CX0 k fa fd [x] (sp (K w.params)))
    (hsp : ∀ (K : PySem.W.Frag) (H : Hp) (a : Addr) (ns : List Int), ns.length ≤ n → Only H → SqL K H a (ns.map V.int) → sp K [.ref a] H (fun v _ => v = .bl true) fun _ _ _ => False) :
    PySem.W.WalkO q loose XP YP l.row.toRowW d [] (fun f vs => PySem.call f vs) := by
  refine Att.attach_call hn hdf fun w s0 s1 mg mb fa o pm cd doc a vs ns G Y ho hd hcd hmg hobj hints hlen hg => ?_
  obtain ⟨fd, hb, hF⟩ := F w mg fa _ (hY w _ Y) G.T.g hmg
  exact law_callG (hY w _ Y) G.T.g G.T.b G.T.builtins G.T.nolimit hg hobj hints (Nat.le_trans hlen hn2) hr hF hb (fun H hO hS => hsp _ H a ns hlen hO hS) fun _ _ _ z => z
end Lb

set_option Elab.async false
set_option linter.all false
set_option maxRecDepth 100000
set_option maxHeartbeats 4000000
namespace Lb
open PySem PySem.Spec PyProof.Rows L2

/-! sizes of ints -/
/-- fewer than n bits -/
def Bd (n : Nat) (x : Int) : Prop := x.natAbs < 2 ^ n
theorem Bd.mono {n m : Nat} {x : Int} (h : Bd n x) (k : n ≤ m) : Bd m x := Nat.lt_of_lt_of_le h (Nat.pow_le_pow_right (by decide) k)
theorem Bd.mul {n m : Nat} {x y : Int} (h : Bd n x) (k : Bd m y) : Bd (n + m) (x * y) := by
  unfold Bd at *
  rw [Int.natAbs_mul, Nat.pow_add]
  exact Nat.mul_lt_mul'' h k
theorem Bd.add {n : Nat} {x y : Int} (h : Bd n x) (k : Bd n y) : Bd (n + 1) (x + y) := by
  unfold Bd at *
  have := Int.natAbs_add_le x y
  rw [Nat.pow_succ]
  omega
theorem Bd.neg {n : Nat} {x : Int} (h : Bd n x) : Bd n (-x) := by
  unfold Bd at *
  rw [Int.natAbs_neg]
  exact h
theorem Bd.sub {n : Nat} {x y : Int} (h : Bd n x) (k : Bd n y) : Bd (n + 1) (x - y) := by
  rw [Int.sub_eq_add_neg]
  exact h.add k.neg
theorem Bd.le {n : Nat} {x y : Int} (h : Bd n x) (k : y.natAbs ≤ x.natAbs) : Bd n y := Nat.lt_of_le_of_lt k h
theorem Bd.of {n : Nat} {x : Int} (h : x.natAbs < 2 ^ n) : Bd n x := h
theorem Bd.cm {n m : Nat} {x y : Int} (h : Bd n x) (k : Bd m y) (l : n + m ≤ 134217728) : CMulX x y := mulx_ok h k l
theorem Bd.log {n : Nat} {x : Int} (h : Bd n x) (p : 0 < n) : x.natAbs.log2 < n := PySem.Flt.log2_lt_of p h
theorem Bd.cd {n : Nat} {x y : Int} (h : Bd n y) (p : 0 < y) (l : n ≤ 8999) : CDivW x y := wide_div p (h.mono (Nat.le_succ n)) (Nat.succ_pos n) (by omega)
/-- a divisor of few bits is divided by C itself -/
theorem divp_small {i j : Int} (p : 0 < j) (h : Bd 8000 j) : CDivP i j := by
  refine ⟨p, ?_⟩
  have hj : (j == 0) = false := by simpa using (show j ≠ 0 by omega)
  have hl := h.log (by decide)
  have h1 : (j.natAbs.log2) / 30 + 1 ≤ 300 := by omega
  show (decide ((if j == 0 then 0 else j.natAbs.log2 / 30 + 1) > 300) && _) = false
  rw [hj]
  simp only [Bool.false_eq_true, if_false]
  rw [decide_eq_false (by omega), Bool.false_and]

/-! the pot: two ints, turned by each draw -/
def PotAt (H : Hp) (p : Addr) : Prop := ∃ a b : Int, H p = some (.lst [.int a, .int b]) ∧ 0 ≤ a ∧ 0 ≤ b ∧ b ≤ 2147483629
/-- all but p is kept -/
structure Mov (p : Addr) (H H' : Hp) : Prop where
  keep : ∀ b o, b ≠ p → H b = some o → H' b = some o
  pot : PotAt H' p
theorem Mov.trans {p : Addr} {H H1 H2 : Hp} (a : Mov p H H1) (b : Mov p H1 H2) : Mov p H H2 := ⟨fun c o n e => b.keep c o n (a.keep c o n e), b.pot⟩
theorem Mov.same {p : Addr} {H H1 H2 : Hp} (a : Mov p H H1) (b : Same H1 H2) : Mov p H H2 :=
  ⟨fun c o n e => b _ _ (a.keep c o n e), let ⟨x, y, e, r⟩ := a.pot; ⟨x, y, b _ _ e, r⟩⟩
theorem Same.mov {p : Addr} {H H1 : Hp} (a : Same H H1) (q : PotAt H p) : Mov p H H1 :=
  ⟨fun c o _ e => a _ _ e, let ⟨x, y, e, r⟩ := q; ⟨x, y, a _ _ e, r⟩⟩
theorem Mov.refl {p : Addr} {H : Hp} (q : PotAt H p) : Mov p H H := ⟨fun _ _ _ e => e, q⟩
theorem Mov.tup {p b : Addr} {H H1 : Hp} {xs : List V} (a : Mov p H H1) (q : PotAt H p) (e : H b = some (.tup xs)) : H1 b = some (.tup xs) :=
  a.keep _ _ (let ⟨_, _, e', _⟩ := q; ne_of e e' (fun z => nomatch z)) e
theorem Mov.ins {p b C dx : Addr} {H H1 : Hp} {fs : List (Str × V)} (a : Mov p H H1) (q : PotAt H p) (e : H b = some (.ins C dx fs)) : H1 b = some (.ins C dx fs) :=
  a.keep _ _ (let ⟨_, _, e', _⟩ := q; ne_of e e' (fun z => nomatch z)) e
theorem Mov.free {p b : Addr} {H H1 : Hp} (a : Mov p H H1) (q : PotAt H p) (e : H1 b = none) : H b = none := by
  cases z : H b with
  | none => rfl
  | some o =>
    by_cases hb : b = p
    · subst hb
      obtain ⟨_, _, e', _⟩ := a.pot
      rw [e] at e'
      cases e'
    · rw [a.keep b o hb z] at e
      cases e
theorem Same.upd {H : Hp} {p : Addr} {o : HO} (h : H p = none) : Same H (upd H p o) := fun a u e => by
  rw [upd_ne (ne_of_none e h)]
  exact e
theorem SqL.mov {K : PySem.W.Frag} {p a : Addr} {H H1 : Hp} {xs : List V} (m : Mov p H H1) (n : a ≠ p) (h : SqL K H a xs) : SqL K H1 a xs := by
  rcases h with (h | ⟨o, h⟩) | h
  · exact .inl (.inl (m.keep _ _ n h))
  · exact .inl (.inr ⟨o, m.keep _ _ n h⟩)
  · exact .inr h
theorem SqT.same {K : PySem.W.Frag} {a : Addr} {H H1 : Hp} {xs : List V} (m : Same H H1) (h : SqT K H a xs) : SqT K H1 a xs := by
  rcases h with (h | ⟨o, h⟩) | h
  · exact .inl (.inl (m _ _ h))
  · exact .inl (.inr ⟨o, m _ _ h⟩)
  · exact .inr h
/-- a written list's size -/
theorem sz {n : Nat} (h : Nat.ble n 1000 = true := by rfl) : n ≤ sizeLine :=
  Nat.le_trans (Nat.le_of_ble_eq_true h) (by decide)
theorem szlt {n : Nat} (k : n ≤ 10000) : n < sizeLine := Nat.lt_of_le_of_lt k (by decide)
theorem szle {n : Nat} (k : n ≤ 10000) : n ≤ sizeLine := Nat.le_of_lt (szlt k)
end Lb

set_option Elab.async false
set_option linter.all false
set_option maxRecDepth 100000
set_option maxHeartbeats 4000000
namespace Lb
open PySem PySem.Spec PyProof.Rows L2

/-- // by any divisor but 0, of few bits -/
def CDivX (_ j : Int) : Prop := j ≠ 0 ∧ j.natAbs.log2 < 9000
theorem op_fdivX {X : Cx} : OpR X (binaryOp .FloorDiv) (rI CDivX fun i j => .int (i.fdiv j)) :=
  opI fun i j _ _ _ _ _ hc q => floordiv_int hc.1 q (.inl (PyProof.noPylong_of_log2 hc.2))
theorem Bd.cx {n : Nat} {x y : Int} (h : Bd n y) (p : y ≠ 0) (l : n ≤ 8999) : CDivX x y :=
  ⟨p, Nat.lt_of_lt_of_le ((h.mono (Nat.le_succ n)).log (Nat.succ_pos n)) (by omega)⟩

/-! two lists, item by item -/
theorem Paired.imp {α β : Type} {F G : α → β → Prop} : ∀ {xs : List α} {ys : List β}, Paired F xs ys → (∀ a b, F a b → G a b) → Paired G xs ys
  | _, _, .nil, _ => .nil
  | _, _, .cons r t, f => .cons (f _ _ r) (Paired.imp t f)
theorem Paired.snoc {α β : Type} {F : α → β → Prop} {a : α} {b : β} (h : F a b) : ∀ {xs : List α} {ys : List β}, Paired F xs ys → Paired F (xs ++ [a]) (ys ++ [b])
  | _, _, .nil => .cons h .nil
  | _, _, .cons r t => .cons r (Paired.snoc h t)
theorem Paired.at_ {α β : Type} {F : α → β → Prop} : ∀ {xs : List α} {ys : List β} {i : Nat} {a : α}, Paired F xs ys → xs[i]? = some a → ∃ b, ys[i]? = some b ∧ F a b
  | _, _, i, _, .nil, e => by simp at e
  | _, _, 0, a, .cons r t, e => by simp at e; subst e; exact ⟨_, rfl, r⟩
  | _, _, i + 1, a, .cons r t, e => by
    obtain ⟨b, h1, h2⟩ := Paired.at_ (i := i) (a := a) t (by simpa using e)
    exact ⟨b, by simpa using h1, h2⟩
theorem Paired.at_r {α β : Type} {F : α → β → Prop} : ∀ {xs : List α} {ys : List β} {i : Nat} {b : β}, Paired F xs ys → ys[i]? = some b → ∃ a, xs[i]? = some a ∧ F a b
  | _, _, i, _, .nil, e => by simp at e
  | _, _, 0, a, .cons r t, e => by simp at e; subst e; exact ⟨_, rfl, r⟩
  | _, _, i + 1, a, .cons r t, e => by
    obtain ⟨b, h1, h2⟩ := Paired.at_r (i := i) (b := a) t (by simpa using e)
    exact ⟨b, by simpa using h1, h2⟩
theorem Paired.len {α β : Type} {F : α → β → Prop} : ∀ {xs : List α} {ys : List β}, Paired F xs ys → xs.length = ys.length
  | _, _, .nil => rfl
  | _, _, .cons _ t => congrArg Nat.succ (Paired.len t)
/-- a tuple of two ints -/
def Fr (H : Hp) (q : Addr) (t b : Int) : Prop := H q = some (.tup [.int t, .int b])
abbrev Rows (H : Hp) (as : List Addr) (fr : List (Int × Int)) : Prop := Paired (fun a x => Fr H a x.1 x.2) as fr
theorem Rows.same {H H' : Hp} {as : List Addr} {fr : List (Int × Int)} (r : Rows H as fr) (s : Same H H') : Rows H' as fr := Paired.imp r fun _ _ h => s _ _ h
theorem Rows.mov {p : Addr} {H H' : Hp} {as : List Addr} {fr : List (Int × Int)} (r : Rows H as fr) (m : Mov p H H') (hp : PotAt H p) : Rows H' as fr := Paired.imp r fun _ _ h => m.tup hp h
/-- a test with a known answer -/
theorem iteP {c A B : Prop} [Decidable c] (hc : c) (h : A) : if c then A else B := by rw [if_pos hc]; exact h
theorem iteN {c A B : Prop} [Decidable c] (hc : ¬ c) (h : B) : if c then A else B := by rw [if_neg hc]; exact h
theorem al3 {H H2 : Hp} {p : Addr} {o : HO} (e : upd H p o = H2) (h : H p = none) : Same H H2 ∧ H2 p = some o := by
  subst e
  exact ⟨Lb.Same.upd h, upd_same⟩
theorem Rows.snoc {H : Hp} {as : List Addr} {fr : List (Int × Int)} {q : Addr} {t b : Int} (r : Rows H as fr) (f : H q = some (.tup [.int t, .int b])) : Rows H (as ++ [q]) (fr ++ [(t, b)]) := Paired.snoc (F := fun (a : Addr) (x : Int × Int) => Fr H a x.1 x.2) (b := (t, b)) f r
theorem Rows.nil {H : Hp} : Rows H [] [] := Paired.nil
theorem Mov.ne {p l : Addr} {H H1 : Hp} (m : Mov p H H1) (h : H1 l = none) : l ≠ p := by
  obtain ⟨_, _, e, _⟩ := m.pot
  exact (ne_of_none e h).symm
/-- a list of another length is not the pot -/
theorem PotAt.ne {p l : Addr} {H : Hp} {xs : List V} (m : PotAt H p) (h : H l = some (.lst xs)) (n : xs.length ≠ 2) : l ≠ p := by
  rintro rfl
  obtain ⟨_, _, e, _⟩ := m
  rw [h] at e
  injection e with e
  injection e with e
  rw [e] at n
  exact n rfl
/-- a new object is changed -/
theorem Same.updl {H H2 : Hp} {l : Addr} {o : HO} (s : L2.Same H H2) (hl : H l = none) : L2.Same H (L2.upd H2 l o) := fun b u e => by
  rw [upd_ne (ne_of_none e hl)]
  exact s _ _ e
/-- what isinstance and the comparisons ask of the class at C -/
structure Inst (K : PySem.W.Frag) (C : Addr) : Prop where
  ca : PySem.W.findIn K (.ref C) "__class__" = some (some (.builtin "object.__class__"))
  cn : PySem.W.specialIn K (.builtin "object.__class__") "__get__" = some (some (.builtin "getset_descriptor.__get__"))
  ct : PySem.W.takesIn K (.builtin "object.__class__") = some true
  cm : PySem.W.mroIn K C (.type "object") = some true
  kNone : PySem.W.kitOne K (.type "NoneType") (.ref C) = some false
  kBool : PySem.W.kitOne K (.type "bool") (.ref C) = some false
  kInt : PySem.W.kitOne K (.type "int") (.ref C) = some false
  kStr : PySem.W.kitOne K (.type "str") (.ref C) = some false
  kList : PySem.W.kitOne K (.type "list") (.ref C) = some false
  kTup : PySem.W.kitOne K (.type "tuple") (.ref C) = some false
  kDict : PySem.W.kitOne K (.type "dict") (.ref C) = some false
  nNone : PySem.W.notFirst K C (.type "NoneType") = true
  nBool : PySem.W.notFirst K C (.type "bool") = true
  nInt : PySem.W.notFirst K C (.type "int") = true
  nStr : PySem.W.notFirst K C (.type "str") = true
  nList : PySem.W.notFirst K C (.type "list") = true
  nTup : PySem.W.notFirst K C (.type "tuple") = true
  nDict : PySem.W.notFirst K C (.type "dict") = true
theorem Inst.kSelf {K : PySem.W.Frag} {C : Addr} : PySem.W.kitOne K (.ref C) (.ref C) = some true := by
  unfold PySem.W.kitOne
  rw [if_pos (beq_self_eq_true _)]
theorem Inst.nSelf {K : PySem.W.Frag} {C : Addr} : PySem.W.notFirst K C (.ref C) = true := by
  unfold PySem.W.notFirst
  rw [beq_self_eq_true, Bool.true_or]
theorem Inst.ty {K : PySem.W.Frag} {C x dx : Addr} {H : Hp} {fs : List (Str × V)} (I : Inst K C) (cl : Cls K C) (e : H x = some (.ins C dx fs)) : TyOf K H (.ref x) (.ref C) := .ins e cl I.ca I.cn I.ct I.cm
theorem kit_own {K : PySem.W.Frag} {C : Addr} {T : String} (h1 : PySem.W.isClsIn K C = true) (h2 : PySem.W.typeIn K (.ref C) = some (.type "type")) (h3 : PySem.W.subIn K (.type T) (.ref C) = some false) :
    PySem.W.kitOne K (.type T) (.ref C) = some false ∧ PySem.W.notFirst K C (.type T) = true := by
  have ne : (Value.type T == Value.ref C) = false := Bool.eq_false_iff.mpr fun q => nomatch beq_iff_eq.mp q
  constructor
  · unfold PySem.W.kitOne
    rw [ne, if_neg (by decide)]
    unfold PySem.W.kitCls
    have h1' : (PySem.W.clsIn K C).isSome = true := h1
    dsimp only
    rw [h1', h2]
    rw [if_pos (by simp)]
    exact h3
  · unfold PySem.W.notFirst
    rw [h3]
    simp
/-- a def of the class by its special name -/
structure OwnM (K : PySem.W.Frag) (C : Addr) (x : Str) (f : Addr) : Prop where
  at_ : PySem.W.findIn K (.ref C) x = some (some (.ref f))
  fn : PySem.W.isFn K (.ref f) = true
/-- a value that is plainly no instance of the class at C: how isinstance and the comparisons see it -/
def NotC (K : PySem.W.Frag) (C : Addr) (H : Hp) (y : V) : Prop := ∃ t, TyOf K H y t ∧ PySem.W.kitOne K t (.ref C) = some false ∧ PySem.W.notFirst K C t = true
end Lb

set_option Elab.async false
set_option linter.all false
set_option maxRecDepth 100000
set_option maxHeartbeats 4000000
namespace Lb
open PySem PySem.Spec PyProof.Rows L2

/-! lists of bools, shown -/
theorem dp_bools {K : PySem.W.Frag} {H : Hp} : ∀ bs : List Bool, DpAll K H (bs.map V.bl) (bs.map PyData.bool)
  | [] => .nil
  | b :: r => .cons (.bl b) (dp_bools r)
theorem show_bools : ∀ bs : List Bool, PyData.showableAll (bs.map PyData.bool) = true
  | [] => by simp only [List.map_nil, PyData.showableAll]
  | b :: r => by simp only [List.map_cons, PyData.showableAll, PyData.showable, show_bools r, Bool.and_self]
theorem depth_bools : ∀ bs : List Bool, PyData.depthAll (bs.map PyData.bool) ≤ 1
  | [] => by simp only [List.map_nil, PyData.depthAll]; omega
  | b :: r => by
    have := depth_bools r
    simp only [List.map_cons, PyData.depthAll, PyData.depth]
    omega
theorem len_bools : ∀ bs : List Bool, ((PyData.shownAll (bs.map PyData.bool)).map (·.length)).sum ≤ 5 * bs.length ∧ (PyData.shownAll (bs.map PyData.bool)).length = bs.length
  | [] => by simp only [List.map_nil, PyData.shownAll]; exact ⟨Nat.le_refl _, rfl⟩
  | b :: r => by
    obtain ⟨h1, h2⟩ := len_bools r
    simp only [List.map_cons, PyData.shownAll, List.sum_cons, List.length_cons, h2]
    refine ⟨?_, trivial⟩
    have : (PyData.shown (.bool b)).length ≤ 5 := by
      simp only [PyData.shown]
      cases b <;> decide +kernel
    omega
theorem bools_ok (bs : List Bool) (n : bs.length ≤ 1000) : (PyData.list (bs.map PyData.bool)).showable = true ∧ (PyData.list (bs.map PyData.bool)).shown.length ≤ sizeLine ∧ (PyData.list (bs.map PyData.bool)).depth ≤ 60 := by
  refine ⟨?_, ?_, ?_⟩
  · simp only [PyData.showable, show_bools]
  · have e := listText_len_le (PyData.shownAll (bs.map PyData.bool))
    obtain ⟨h1, h2⟩ := len_bools bs
    simp only [PyData.shown]
    have : sizeLine = 16777216 := by decide
    omega
  · have := depth_bools bs
    simp only [PyData.depth]
    omega
theorem TyOf.same {K : PySem.W.Frag} {H H' : Hp} {y : V} {t : Value} (s : L2.Same H H') (h : TyOf K H y t) : TyOf K H' y t := by
  cases h with
  | non => exact .non
  | bl x => exact .bl x
  | int i => exact .int i
  | str x => exact .str x
  | flt x => exact .flt x
  | lst e => exact .lst (s _ _ e)
  | frz e => exact .frz (s _ _ e)
  | tup e => exact .tup (s _ _ e)
  | dK e => exact .dK (s _ _ e)
  | dT e => exact .dT (s _ _ e)
  | ins e cl a b c d => exact .ins (s _ _ e) cl a b c d
theorem NotC.same {K : PySem.W.Frag} {C : Addr} {H H' : Hp} {y : V} (s : L2.Same H H') (h : NotC K C H y) : NotC K C H' y := by
  obtain ⟨t, a, b, c⟩ := h
  exact ⟨t, TyOf.same s a, b, c⟩
theorem map_replicate_bl (n : Nat) (b : Bool) : (List.replicate n b).map V.bl = List.replicate n (V.bl b) := by simp
theorem all_replicate_true (n : Nat) : (List.replicate n true).all id = true := by simp
end Lb

set_option Elab.async false
set_option linter.all false
set_option maxRecDepth 100000
set_option maxHeartbeats 4000000
namespace Lb
open PySem PySem.Spec PyProof.Rows L2

/-- for i, x in enumerate(xs) -/
theorem for_enum {K : PySem.W.Frag} {a : Addr} {xs : List V} {g : TG} {tb : TS} {D : Ends} {σ : L2.St} {H : Hp} (Pv : Nat → L2.St → Hp → Prop) (h0 : Pv 0 σ H) (hq : ∀ i σ H, Pv i σ H → SqL K H a xs)
    (hs : ∀ (i : Nat) (x : V) (T : Addr) (σ : L2.St) (H : Hp), xs[i]? = some x → Pv i σ H → H T = none → g (.ref T) σ (L2.upd H T (.tup [.int (i : Nat), x])) fun σ2 H2 => tb { D with nx := Pv (i + 1), ct := Pv (i + 1), bk := D.nx } σ2 H2)
    (hd : ∀ σ H, Pv xs.length σ H → D.nx σ H) :
    ∃ W : Nat → Nat → L2.St → Hp → Prop, (∃ m, W 0 m σ H) ∧ ∀ i m σ H, W i m σ H →
      ((Ite K a).stop i H ∧ D.nx σ H) ∨ ((Ite K a).go i H ∧ ∃ N : L2.St → Hp → Prop, (∀ σ' H', N σ' H' → ∃ m', m' < m ∧ W (i + 1) m' σ' H') ∧
        ∀ v H', (Ite K a).yld i H v H' → g v σ H' fun σ2 H2 => tb { D with nx := N, ct := N, bk := D.nx } σ2 H2) := by
  refine ⟨fun i m σ H => m = xs.length - i ∧ i ≤ xs.length ∧ Pv i σ H, ⟨xs.length, rfl, Nat.zero_le _, h0⟩, ?_⟩
  rintro i m σ H ⟨rfl, hi, p⟩
  have q := hq i σ H p
  rcases Nat.lt_or_ge i xs.length with h | h
  · have hx : xs[i]? = some xs[i] := List.getElem?_eq_getElem h
    refine .inr ⟨⟨xs, _, q, hx⟩, Pv (i + 1), fun σ' H' p' => ⟨xs.length - (i + 1), by omega, rfl, h, p'⟩, ?_⟩
    rintro v H' ⟨T, x, rfl, hT, rfl, f⟩
    exact hs i x T σ H (f xs q) p hT
  · have e : i = xs.length := by omega
    subst e
    exact .inl ⟨⟨xs, q, Nat.le_refl _⟩, hd σ H p⟩

/-! a list that is being made at D, above the heap H0 -/
structure Blt {α : Type} (R : Hp → Addr → α → Prop) (H0 : Hp) (D : Addr) (done : List α) (H : Hp) : Prop where
  same : L2.Same H0 H
  ex : ∃ bs : List Addr, H D = some (.lst (bs.map V.ref)) ∧ Paired (R H) bs done
theorem Blt.start {α : Type} {R : Hp → Addr → α → Prop} {H0 : Hp} {D : Addr} (h : H0 D = none) : Blt R H0 D [] (L2.upd H0 D (.lst [])) :=
  ⟨Lb.Same.upd h, [], upd_same, .nil⟩
/-- one more item, made on the way from H to H2 -/
theorem Blt.step {α : Type} {R : Hp → Addr → α → Prop} {H0 H H2 : Hp} {D r : Addr} {done : List α} {x : α} (b : Blt R H0 D done H) (hD : H0 D = none) (s : L2.Same H H2)
    (keep : ∀ H H' a x, R H a x → (∀ o, H a = some o → H' a = some o) → R H' a x) (nl : ∀ H a x l, R H a x → H a = some (.lst l) → False) (hr : R H2 r x) :
    ∃ acc, H2 D = some (.lst acc) ∧ acc.length = done.length ∧ Blt R H0 D (done ++ [x]) (L2.upd H2 D (.lst (acc ++ [V.ref r]))) := by
  obtain ⟨s0, bs, e, p⟩ := b
  have e2 := s _ _ e
  have ch : ∀ a y, R H2 a y → R (L2.upd H2 D (.lst (bs.map V.ref ++ [V.ref r]))) a y := by
    intro a y h
    refine keep _ _ a y h fun o ho => ?_
    have na : a ≠ D := by
      rintro rfl
      exact nl _ _ _ _ h e2
    rw [upd_ne na]
    exact ho
  refine ⟨_, e2, by rw [List.length_map, Paired.len p], Same.updl (s0.trans s) hD, bs ++ [r], by rw [upd_same, List.map_append]; rfl, ?_⟩
  exact Paired.snoc (ch _ _ hr) (Paired.imp p fun a y h => ch _ _ (keep _ _ a y h fun o ho => s _ _ ho))

/-! an element of a list of ints -/
theorem inV_ints (z : Int) : ∀ ns : List Int, inV (.int z) (ns.map V.int) = decide (z ∈ ns)
  | [] => by simp [inV]
  | n :: r => by
    have ih := inV_ints z r
    unfold inV at ih ⊢
    rw [List.map_cons, List.any_cons, ih]
    have : eqV (.int n) (.int z) = decide (z = n) := by
      by_cases h : z = n
      · subst h; simp [eqV]
      · have h' : ¬ n = z := fun e => h e.symm
        simp [eqV, h, h']
    rw [this]
    by_cases h : z = n <;> simp [h]
theorem flat_ints : ∀ ns : List Int, (ns.map V.int).all flatV = true
  | [] => rfl
  | n :: r => by rw [List.map_cons, List.all_cons, flat_ints r]; rfl
end Lb

set_option Elab.async false
set_option linter.all false
set_option maxRecDepth 100000
set_option maxHeartbeats 4000000
namespace Lb
open PySem PySem.Spec PyProof.Rows L2
open SlX (cmpback)

/-! own operators between an instance and an int, or two instances -/
/-- what the text holds of an operator of a class beside ints: its def at g, the turned one at r -/
structure OwnBin (K : PySem.W.Frag) (C : Addr) (op : Operator) (g r : Addr) : Prop where
  first : PySem.W.selfFirst K C = true
  at_ : PySem.W.findIn K (.ref C) (PySem.dunder op.info.2) = some (some (.ref g))
  fn : PySem.W.isFn K (.ref g) = true
  rat : PySem.W.findIn K (.ref C) (dunderR op.info.2) = some (some (.ref r))
  rfn : PySem.W.isFn K (.ref r) = true
  i1 : ∃ fo, PySem.W.findIn K (.type "int") (PySem.dunder op.info.2) = some fo
  i2 : ∃ ro, PySem.W.findIn K (.type "int") (dunderR op.info.2) = some ro
  ss1 : PySem.W.subIn K (.type "int") (.ref C) = some false
  ss2 : PySem.W.subIn K (.ref C) (.type "int") = some false
  tyC : ∀ T, Value.type T ≠ .ref C := by intro T z; cases z

section
variable {X : Cx} {pins : List (Addr × Obj)} {σ : L2.St} {H : Hp} {s : Shared} {a C dx p g r : Addr} {f : Str} {n : Nat} {sp : Sp} {E : XK} {v : V} {u : Value} {op : Operator}

/-- a def that raises nothing, run in an expression -/
theorem run_at0 {A : Around} {Q : VK} {us : List Value} {ws : List V} (F : FnR X.prog X.w X.K X.mg X.base CX0 n g sp) (hr : Room n A) (e0 : Env0 X.prog X.w X.K X.mg X.base A X.stack s H) (I : Inv X pins σ H s) (r : Vals ws us) (h : sp ws H Q E) :
    codeAny (model X.prog X.w) A (.call (.ref g) ⟨us, []⟩) (fun r s' => match r with | .ok (.ret v) => EP X pins σ Q v s' | _ => False) s := by
  refine codeAny_mono (F A X.stack s H us ws Q E hr e0 r h) fun r s' hq => ?_
  cases r with
  | error e => exact False.elim hq
  | ok fl =>
    cases fl with
    | ret u => exact I.after hq
    | next => exact False.elim hq
    | brk => exact False.elim hq
    | cont => exact False.elim hq
theorem call_at0 {A : Around} {Ex : Value → Shared → Prop} {Q : VK} {us : List Value} {ws : List V} (F : FnR X.prog X.w X.K X.mg X.base CX0 n g sp) (hr : Room n A) (e0 : Env0 X.prog X.w X.K X.mg X.base A X.stack s H) (I : Inv X pins σ H s) (r : Vals ws us) (h : sp ws H Q E) :
    wpAny (model X.prog X.w) A (call (.ref g) us) (EP X pins σ Q) Ex s := by
  refine wpAny_call (codeAny_mono (run_at0 F hr e0 I r h) fun r s' hq => ?_)
  cases r with
  | error e => exact False.elim hq
  | ok fl => cases fl <;> first | exact hq | exact False.elim hq
/-- an operator, wherever it is run -/
def OpRA (X : Cx) (A : Around) (f : Value → Value → Sem Value) (r : R2) : Prop :=
  ∀ (pins : List (Addr × Obj)) (s : Shared) (σ : L2.St) (H : Hp) (x y : V) (v u : Value) (Q : VK) (Ex : Value → Shared → Prop), Inv X pins σ H s → Env0 X.prog X.w X.K X.mg X.base A X.stack s H → RelV x v → RelV y u → r x y H Q →
    wpAny (model X.prog X.w) A (f v u) (EP X pins σ Q) Ex s
theorem OpRA.here {f : Value → Value → Sem Value} {r : R2} (h : OpRA X X.A f r) : OpR X f r := fun pins s σ H x y v u Q I rx ry q => h pins s σ H x y v u Q _ I I.env0 rx ry q
theorem OpRA.or {A : Around} {f : Value → Value → Sem Value} {r r' : R2} (h : OpRA X A f r) (h' : OpRA X A f r') : OpRA X A f (fun x y H Q => r x y H Q ∨ r' x y H Q) := fun pins s σ H x y v u Q Ex I e0 rx ry q =>
  q.elim (h pins s σ H x y v u Q Ex I e0 rx ry) (h' pins s σ H x y v u Q Ex I e0 rx ry)
/-- x OP y, x an instance, y an int or an instance of its class -/
def rBin (C : Addr) (sp : Sp) (E : XK) : R2 := fun x y H Q =>
  ∃ a dx fs, x = .ref a ∧ H a = some (.ins C dx fs) ∧ ((∃ m, y = .int m) ∨ ∃ b dy fy, y = .ref b ∧ H b = some (.ins C dy fy)) ∧ sp [x, y] H Q E
theorem ownBin_at {K : PySem.W.Frag} {A : Around} (hK : X.K = K) (B : OwnBin K C op g r) (F : FnR X.prog X.w X.K X.mg X.base CX0 n g sp) (hr : Room n A) : OpRA X A (binaryOp op) (rBin C sp E) := by
  subst hK
  intro pins s σ H x y v u Q Ex I e0 rx ry h
  obtain ⟨a, dx, fs, rfl, ha, hy, q⟩ := h
  cases (show v = Value.ref a from rx)
  obtain ⟨od, J⟩ := inst_at I ha
  obtain ⟨m, hF⟩ := I.fr
  have one : wpAny (model X.prog X.w) A (call (.ref g) [.ref a, u]) (PySem.W.CmpBack (EP X pins σ Q)) Ex s := by
    refine wpAny_mono (call_at0 (us := [.ref a, u]) (ws := [.ref a, y]) F hr e0 I (.cons rfl (.cons ry .nil)) q) (fun w s' z => ?_) fun _ _ x => x
    obtain ⟨z', H', I', rz, qz⟩ := z
    exact cmpback rz ⟨z', H', I', rz, qz⟩
  rcases hy with ⟨k, rfl⟩ | ⟨b, dy, fy, rfl, hb⟩
  · obtain ⟨t, rfl⟩ := ry
    obtain ⟨fo, h1⟩ := B.i1
    obtain ⟨ro, h2⟩ := B.i2
    exact PySem.W.ksp_binT (T := "int") hF I.ok.mod.kin J rfl B.first B.at_ B.fn B.rat (.inr ⟨_, rfl⟩) h1 h2 B.ss1 one
  · cases (show u = Value.ref b from ry)
    obtain ⟨od', J'⟩ := inst_at I hb
    exact PySem.W.binop_K hF I.ok.mod.kin J J'.type B.first B.at_ B.fn one
/-- n OP y, y an instance: its turned def, where the int's own says nothing -/
def rBinR (C : Addr) (sp : Sp) (E : XK) : R2 := fun x y H Q =>
  ∃ m b dy fy, x = .int m ∧ y = .ref b ∧ H b = some (.ins C dy fy) ∧ sp [y, x] H Q E
/-- what the library says of an int's own operator -/
structure IntBin (op : Operator) (id : String) (nm : String) (f : Int → Int → Sem Fin) : Prop where
  fills : fillsNumberSlot (.type "int") op.info.2 = pure true
  slot : Slot "int" (PySem.dunder op.info.2) id
  entry : entryFor table id = some (Builtin.Int.intBinary nm f)
  args : ∀ x y, argsOk id ⟨[x, y], []⟩
theorem int_no {M : Model} {A : Around} {Ex : Value → Shared → Prop} {Q : Fin → Shared → Prop} {k : Int} {t : Tok} {b : Addr} {nm : String} {fI : Int → Int → Sem Fin} (J : s.heap.get? b = some (PySem.W.instObj C dx))
    (h : Q (.done (.ret .notImplemented)) s) : wpAny M A (Builtin.Int.intBinary nm fI false ⟨[.int k t, .ref b], []⟩) Q Ex s := by
  unfold Builtin.Int.intBinary
  refine wpAny_bind (m := slotArgs _ _ _) (wpAny_pure ?_)
  refine wpAny_bind (m := Builtin.Int.intOfSelf _) (wpAny_pure ?_)
  refine wpAny_bind (m := asInt? _) (wpAny_bind (wpAny_load J (wpAny_pure ?_)))
  exact wpAny_bind (wpAny_rule (wpAny_pure h))
theorem int_add : IntBin .Add "int.__add__" "__add__" (fun x y => retInt (x + y)) := ⟨F.fills_int_add, F.slot_int_add, F.entry_int_add, F.args_int_add_2⟩
theorem int_sub : IntBin .Sub "int.__sub__" "__sub__" (fun x y => retInt (x - y)) := ⟨F.fills_int_sub, F.slot_int_sub, F.entry_int_sub, F.args_int_sub_2⟩
theorem int_mul : IntBin .Mult "int.__mul__" "__mul__" (fun x y => Builtin.intProduct "__mul__" x y) := ⟨F.fills_int_mul, F.slot_int_mul, F.entry_int_mul, F.args_int_mul_2⟩
theorem ownBinR_at {K : PySem.W.Frag} {A : Around} {id nm : String} {fI : Int → Int → Sem Fin} (hK : X.K = K) (L : IntBin op id nm fI) (B : OwnBin K C op g r) (F : FnR X.prog X.w X.K X.mg X.base CX0 n r sp) (hr : Room n A) : OpRA X A (binaryOp op) (rBinR C sp E) := by
  subst hK
  intro pins s σ H x y v u Q Ex I e0 rx ry h
  obtain ⟨k, b, dy, fy, rfl, rfl, hb, q⟩ := h
  obtain ⟨t, rfl⟩ := rx
  cases (show u = Value.ref b from ry)
  obtain ⟨od, J⟩ := inst_at I hb
  have KX := I.kIn
  obtain ⟨cd, rest, hcd, hm⟩ := PySem.W.ksp_first B.first
  have L4 : PySem.W.Looks (model X.prog X.w) s.heap (fillsNumberSlot (.ref C) op.info.2) true := PySem.W.fills_K KX hcd hm B.at_
  have L5 : PySem.W.Looks (model X.prog X.w) s.heap (isSubtype (.ref C) (.type "int")) false := PySem.W.looks_subIn KX B.ss2
  have two : wpAny (model X.prog X.w) A (call (.ref r) [.ref b, .int k t]) (PySem.W.CmpBack (EP X pins σ Q)) Ex s := by
    refine wpAny_mono (call_at0 (us := [.ref b, .int k t]) (ws := [.ref b, .int k]) F hr e0 I (.cons rfl (.cons ⟨t, rfl⟩ .nil)) q) (fun w s' z => ?_) fun _ _ x => x
    obtain ⟨z', H', I', rz, qz⟩ := z
    exact cmpback rz ⟨z', H', I', rz, qz⟩
  have rt := B.rat
  have fl := L.fills
  have sl := L.slot
  rcases hi : op.info with ⟨sym, nm'⟩
  rw [hi] at L4 rt fl sl
  dsimp only at L4 rt fl sl
  have hne : (Value.type "int" == Value.ref C) = false := Bool.eq_false_iff.mpr fun q => by cases beq_iff_eq.mp q
  simp only [binaryOp, hi]
  refine wpAny_holding (wpAny_bind ?_)
  unfold binaryOp1
  refine wpAny_bind (wpAny_of_eq (show typeOf (.int k t) = pure (.type "int") from rfl) (wpAny_bind (J.type.here (wpAny_bind (wpAny_of_eq fl ?_)))))
  simp only [hne, Bool.false_eq_true, if_false]
  refine wpAny_bind (L4.here ?_)
  simp only [Bool.and_self, if_true]
  refine wpAny_bind (L5.here ?_)
  have hpy : numberSlotInPython (.type "int") nm' = pure false := rfl
  simp only [Bool.false_eq_true, if_false, pure_bind, Bool.not_false, Bool.and_self, if_true, hpy]
  simp only [tryMethod]
  refine wpAny_bind (wpAny_bind (wpAny_callSpecial?_slot (typeIs_int _ _ _) sl (wpAny_call_entry sl (typeIs_int _ _ _) L.entry ?_ (L.args _ _))))
  refine int_no J.at_ ⟨_, rfl, ?_⟩
  refine wpAny_pure ?_
  refine wpAny_bind (wpAny_bind (PySem.W.special_fn KX J rt (beq_iff_eq.mp B.rfn) (wpAny_mono two (fun v s' hv => ?_) fun _ _ e => e)))
  cases v <;> first | exact hv.elim | exact wpAny_pure (wpAny_bind (wpAny_rule (wpAny_pure (wpAny_pure hv))))
theorem op_ownBin {K : PySem.W.Frag} (hK : X.K = K) (B : OwnBin K C op g r) (F : FnR X.prog X.w X.K X.mg X.base CX0 n g sp) (hr : Room n X.A) : OpR X (binaryOp op) (rBin C sp E) := (ownBin_at hK B F hr).here
theorem op_ownBinR {K : PySem.W.Frag} {id nm : String} {fI : Int → Int → Sem Fin} (hK : X.K = K) (L : IntBin op id nm fI) (B : OwnBin K C op g r) (F : FnR X.prog X.w X.K X.mg X.base CX0 n r sp) (hr : Room n X.A) : OpR X (binaryOp op) (rBinR C sp E) := (ownBinR_at hK L B F hr).here
/-! -x, abs(x), bool(x) of an instance -/
def rUnOwn (C : Addr) (sp : Sp) (E : XK) : V → Hp → VK → Prop := fun x H Q => ∃ a dx fs, x = .ref a ∧ H a = some (.ins C dx fs) ∧ sp [x] H Q E
theorem un_ownNeg {K : PySem.W.Frag} (hK : X.K = K) (hs : PySem.W.findIn K (.ref C) "__neg__" = some (some (.ref g))) (hf : PySem.W.isFn K (.ref g) = true) (F : FnR X.prog X.w X.K X.mg X.base CX0 n g sp) (hr : Room n X.A) :
    UnR X (unaryOp .USub) (rUnOwn C sp E) := by
  subst hK
  intro pins s σ H x v Q I rx h
  obtain ⟨a, dx, fs, rfl, ha, q⟩ := h
  cases (show v = Value.ref a from rx)
  obtain ⟨od, J⟩ := inst_at I ha
  obtain ⟨m, hF⟩ := I.fr
  exact PySem.W.ksp_neg hF I.ok.mod.kin J hs hf (call_at0 (us := [.ref a]) (ws := [.ref a]) F hr I.env0 I (.cons rfl .nil) q)
def rCallOwn (C : Addr) (sp : Sp) (E : XK) : List V → Hp → VK → Prop := fun xs H Q => ∃ a dx fs, xs = [.ref a] ∧ H a = some (.ins C dx fs) ∧ sp xs H Q E
theorem call_absOwn (hs : PySem.W.findIn X.K (.ref C) "__abs__" = some (some (.ref g))) (hf : PySem.W.isFn X.K (.ref g) = true) (F : FnR X.prog X.w X.K X.mg X.base CX0 n g sp) (hr : Room (n + 1) X.A) :
    CallR X (.builtin "abs") (rCallOwn C sp E) := by
  intro pins s σ H xs us Q I r h
  obtain ⟨a, dx, fs, rfl, ha, q⟩ := h
  obtain ⟨u, rfl, ru⟩ := vals1 r
  cases (show u = Value.ref a from ru)
  obtain ⟨od, J⟩ := inst_at I ha
  refine Calls.call_function_entry kind_abs plain_abs entry_abs (args_abs _) ?_
  unfold Builtin.«abs»
  refine wpAny_bind (m := oneArg "abs" _) (wpAny_pure ?_)
  refine wpAny_bind (PySem.W.special_fn I.kIn J hs (beq_iff_eq.mp hf) ?_)
  refine wpAny_mono (call_at0 (us := [.ref a]) (ws := [.ref a]) F hr.in1 I.env0.in1 I (.cons rfl .nil) q) (fun w s' z => ?_) fun _ _ x => x
  exact wpAny_pure ⟨_, rfl, z⟩
end
/-! sum of a list of instances -/
/-- how the sum goes: N i v H, the sum v of the first i -/
structure SumG (K : PySem.W.Frag) (add : R2) (l : Addr) (as : List Addr) (N : Nat → V → Hp → Prop) : Prop where
  zero : ∀ v H, N 0 v H → v = .int 0
  more : ∀ i v H, N (i + 1) v H → ∃ a, v = .ref a
  list : ∀ i v H, N i v H → SqL K H l (as.map V.ref)
  step : ∀ i v a H, as[i]? = some a → N i v H → add v (.ref a) H (N (i + 1))
theorem turn_fp {X : Cx} {pins : List (Addr × Obj)} {σ : L2.St} {H : Hp} {s : Shared} {it : Addr} {h' : Heap} {t' : Nat} (I : Inv X pins σ H s) (f : FpOk X pins H it) (k : ∀ b o, b ≠ it → s.heap.get? b = some o → h'.get? b = some o) : Inv X pins σ H { s with heap := h', toks := t' } := by
  obtain ⟨f0, f1, f2, f3, f4, f5⟩ := f
  exact I.turned k f0 f1 f3 f4 f5
section
variable {X : Cx} {pins : List (Addr × Obj)} {σ : L2.St} {add : R2} {l : Addr} {as : List Addr} {N : Nat → V → Hp → Prop} {Q : VK}
theorem sum_loop (hc : X.calm = true) (hadd : OpRA X X.A.in1 (binaryOp .Add) add) (G : SumG X.K add l as N) (hQ : ∀ v H, N as.length v H → Q v H) (it S : Addr) (hne : S ≠ it) :
    ∀ (k i : Nat) (s : Shared) (H : Hp) (v : V) (u : Value) (c : Nat) (st : Int), as.length - i = k → i ≤ as.length → Inv X pins σ H s → N i v H → RelV v u → ((st = 0 ∧ ∃ t, u = .int 0 t) ∨ (st = 2 ∧ ∃ a, u = .ref a)) →
      s.heap.IsListIter it l i → s.heap.get? S = some { cls := .type "list", dict := none, data := .seq #[u] c, slots := #[] } → FpOk X pins H it → FpOk X pins H S →
      codeAny (model X.prog X.w) X.A (.builtin "sum.loop" ⟨[.ref it, .ref S, rawInt st, rawInt 0], []⟩) (fun r s' => match r with | .ok (.ret v) => EP X pins σ Q v s' | _ => False) s := by
  intro k
  induction k with
  | zero =>
    intro i s H v u c st hk hi I n rv hu hit hS fi fS
    obtain ⟨its, rl, pl, hsz⟩ := I.list (G.list _ _ _ n)
    have hlen : its.length = as.length := by rw [← rl.length, List.length_map]
    have hin : i = as.length := by omega
    refine codeAny_builtin F.entry_sum_loop ?_
    rw [Around.under_plainId F.plain_sum_loop _]
    show wpAny _ X.A.in1 (seqItems? (.ref S) >>= _) _ _ s
    refine wpAny_bind (wpAny_seqItems hS rfl ?_)
    show wpAny _ X.A.in1 (tryCatch (pyNext (.ref it)) _ >>= _) _ _ s
    refine wpAny_bind (wpAny_tryCatch (wpAny_pyNext_list_end (I.ok.hd hc) hit pl.isList (by rw [List.getElem?_toArray, List.getElem?_eq_none (by omega)]) fun h' he => ?_))
    have I' := turn_fp (t' := s.toks) I fi he
    have q : Q v H := hQ _ _ (hin ▸ n)
    rcases hu with ⟨_, t, rfl⟩ | ⟨_, a, rfl⟩
    · exact wpAny_pure ⟨v, H, I', rv, q⟩
    · exact wpAny_pure ⟨v, H, I', rv, q⟩
  | succ k ih =>
    intro i s H v u c st hk hi I n rv hu hit hS fi fS
    obtain ⟨its, rl, pl, hsz⟩ := I.list (G.list _ _ _ n)
    have hlen : its.length = as.length := by rw [← rl.length, List.length_map]
    have hlt : i < as.length := by omega
    obtain ⟨u2, hu2, rx⟩ := rl.get (i := i) (x := .ref as[i]) (by rw [List.getElem?_map, List.getElem?_eq_getElem hlt]; rfl)
    cases (show u2 = Value.ref as[i] from rx)
    refine codeAny_builtin F.entry_sum_loop ?_
    rw [Around.under_plainId F.plain_sum_loop _]
    show wpAny _ X.A.in1 (seqItems? (.ref S) >>= _) _ _ s
    refine wpAny_bind (wpAny_seqItems hS rfl ?_)
    show wpAny _ X.A.in1 (tryCatch (pyNext (.ref it)) _ >>= _) _ _ s
    refine wpAny_bind (wpAny_tryCatch (wpAny_pyNext_list_item hit pl.isList (x := .ref as[i]) (by rw [List.getElem?_toArray]; exact hu2) fun h' hit' hs => ?_))
    have I' := turn_fp (t' := s.toks) I fi hs.extBut
    have hS' : h'.get? S = some { cls := .type "list", dict := none, data := .seq #[u] c, slots := #[] } := hs.extBut S _ hne hS
    -- both kept while the operator runs
    have fps : ∀ b ∈ [it, S], FpOk X pins H b := by
      intro b hb
      rcases List.mem_cons.mp hb with e | hb
      · exact e ▸ fi
      · exact (List.mem_singleton.mp hb) ▸ fS
    obtain ⟨oi, hoi, hci, hdi⟩ := id hit'
    have IP := I'.pinned (fp := [it, S]) fps (by
      intro b hb
      rcases List.mem_cons.mp hb with e | hb
      · exact ⟨oi, by rw [e]; exact hoi, fun v z => by rw [hdi] at z; cases z⟩
      · exact ⟨_, by rw [List.mem_singleton.mp hb]; exact hS', fun v z => by cases z⟩)
    have main : ∀ (Ex : Value → Shared → Prop), wpAny (model X.prog X.w) X.A.in1 (binaryOp .Add u (.ref as[i])) (fun r s' => ∃ a v' H', r = .ref a ∧ v' = .ref a ∧ Inv X pins σ H' s' ∧ N (i + 1) v' H' ∧ s'.heap.IsListIter it l (i + 1) ∧
        s'.heap.get? S = some { cls := .type "list", dict := none, data := .seq #[u] c, slots := #[] } ∧ FpOk X pins H' it ∧ FpOk X pins H' S) Ex { s with heap := h' } := fun Ex => by
      refine wpAny_mono (hadd _ _ σ H v (.ref as[i]) u (.ref as[i]) (N (i + 1)) Ex IP IP.env0.in1 rv rfl (G.step _ _ _ _ (List.getElem?_eq_getElem hlt) n)) (fun r s' z => ?_) fun _ _ e => e
      obtain ⟨v', H', I2, r2, n2⟩ := z
      obtain ⟨a, rfl⟩ := G.more _ _ _ n2
      have p1 := I2.pin (it, oi) (List.mem_append_right _ (List.mem_append_right _ (mem_pinsAt (by simp) hoi)))
      have p2 := I2.pin (S, _) (List.mem_append_right _ (List.mem_append_right _ (mem_pinsAt (by simp) hS')))
      exact ⟨a, _, H', r2, rfl, I2.unpinned, n2, ⟨oi, p1.1, hci, hdi⟩, p2.1, ⟨p1.2.1, fi.2⟩, ⟨p2.2.1, fS.2⟩⟩
    -- the sum is set
    have last : ∀ (s' : Shared) (H' : Hp) (a : Addr), Inv X pins σ H' s' → N (i + 1) (.ref a) H' → s'.heap.IsListIter it l (i + 1) → s'.heap.get? S = some { cls := .type "list", dict := none, data := .seq #[u] c, slots := #[] } → FpOk X pins H' it → FpOk X pins H' S →
        wpAny (model X.prog X.w) X.A.in1 (updateSeq S (fun _ => #[.ref a]) >>= fun _ => letGo [u, .ref as[i]] [] >>= fun _ => updateSeq S (fun _ => #[.ref a]) >>= fun _ => again (.builtin "sum.loop" ⟨[.ref it, .ref S, rawInt 2, rawInt 0], []⟩))
          (fun fin s' => match fin with | .done f => (match (Except.ok f : Result) with | .ok (.ret v) => EP X pins σ Q v s' | _ => False) | .again c' => c'.quiet = true ∧ codeAny (model X.prog X.w) X.A c' (fun r s' => match r with | .ok (.ret v) => EP X pins σ Q v s' | _ => False) s') (fun _ _ => False) s' := by
      intro s' H' a I2 n2 hit2 hS2 fi2 fS2
      refine wpAny_bind (wpAny_updateSeq hS2 rfl ?_)
      have hS3 := Heap.get?_update_self (Obj.mapSeq fun _ => #[Value.ref a]) hS2 rfl
      refine wpAny_bind (wpAny_letGo ?_)
      refine wpAny_bind (wpAny_updateSeq hS3 rfl ?_)
      have hS4 := Heap.get?_update_self (Obj.mapSeq fun _ => #[Value.ref a]) hS3 rfl
      have keep : ∀ b o, b ≠ S → s'.heap.get? b = some o → ((s'.heap.update S (Obj.mapSeq fun _ => #[Value.ref a])).update S (Obj.mapSeq fun _ => #[Value.ref a])).get? b = some o := fun b o nb e =>
        (Heap.get?_update_other _ _ (Ne.symm nb)).trans ((Heap.get?_update_other _ _ (Ne.symm nb)).trans e)
      have I3 := turn_fp (t' := s'.toks) I2 fS2 keep
      refine wpAny_pure ⟨plainId_quiet F.plain_sum_loop _, ih (i + 1) _ H' (.ref a) (.ref a) _ 2 (by omega) hlt I3 n2 rfl (.inr ⟨rfl, _, rfl⟩) ?_ hS4 fi2 fS2⟩
      obtain ⟨o, e, x, y⟩ := hit2
      exact ⟨o, keep _ _ (Ne.symm hne) e, x, y⟩
    rcases hu with ⟨rfl, t, rfl⟩ | ⟨rfl, a0, rfl⟩
    · refine wpAny_bind (wpAny_rule ?_)
      refine wpAny_bind (wpAny_attempt (wpAny_holding (wpAny_mono (main _) (fun r s' z => ?_) fun _ _ e => e)))
      obtain ⟨a, v', H', rfl, rfl, I2, n2, hit2, hS2, fi2, fS2⟩ := z
      exact last s' H' a I2 n2 hit2 hS2 fi2 fS2
    · refine wpAny_bind (wpAny_attempt (wpAny_holding (wpAny_mono (main _) (fun r s' z => ?_) fun _ _ e => e)))
      obtain ⟨a, v', H', rfl, rfl, I2, n2, hit2, hS2, fi2, fS2⟩ := z
      exact last s' H' a I2 n2 hit2 hS2 fi2 fS2
/-- sum(xs), xs a list of instances -/
def rSumOwn (K : PySem.W.Frag) (add : R2) : List V → Hp → VK → Prop := fun vs H Q => ∃ (l : Addr) (as : List Addr) (N : Nat → V → Hp → Prop), vs = [.ref l] ∧ SumG K add l as N ∧ N 0 (.int 0) H ∧ ∀ v H', N as.length v H' → Q v H'
theorem cr_sumOwn {K : PySem.W.Frag} (hK : X.K = K) (hc : X.calm = true) (hadd : OpRA X X.A.in1 (binaryOp .Add) add) : CallR X (.builtin "sum") (rSumOwn K add) := by
  subst hK
  intro pins s σ H xs us Q I r h
  obtain ⟨l, as, N, rfl, G, n0, q⟩ := h
  obtain ⟨u, rfl, ru⟩ := vals1 r
  cases (show u = Value.ref l from ru)
  obtain ⟨its, rl, pl, hsz⟩ := I.list (G.list _ _ _ n0)
  refine call_function_tree F.kind_sum F.plain_sum F.entry_sum (F.args_sum1 _) ?_
  unfold Builtin.«sum»
  simp only [List.length_cons, List.length_nil]
  rw [if_neg (by decide)]
  refine wpAny_bind (wpAny_of_eq (show Builtin.Builtins.bindParams "sum" ["start"] 0 { } = pure [none] from rfl) ?_)
  refine wpAny_bind (wpAny_pyIter_list pl.isList ?_)
  refine wpAny_bind (wpAny_mkInt ?_)
  refine wpAny_bind (wpAny_pure ?_)
  simp only [List.forIn_cons, List.forIn_nil]
  refine wpAny_bind (wpAny_bind (wpAny_bind (wpAny_isInstance (T := "int") (b := false) (typeIs_int _ _ _) PySem.sub_int_str ?_)))
  simp only [Bool.false_eq_true, if_false]
  refine wpAny_pure (wpAny_bind (wpAny_bind (wpAny_isInstance (T := "int") (b := false) (typeIs_int _ _ _) PySem.sub_int_bytes ?_)))
  simp only [Bool.false_eq_true, if_false]
  refine wpAny_pure (wpAny_bind (wpAny_bind (wpAny_isInstance (T := "int") (b := false) (typeIs_int _ _ _) PySem.sub_int_bytearray ?_)))
  simp only [Bool.false_eq_true, if_false]
  refine wpAny_pure (wpAny_pure ?_)
  refine wpAny_bind (wpAny_newObj_type ?_)
  have k1 : ∀ b o, s.heap.get? b = some o → ((s.heap.push ({ cls := .type "list_iterator", data := .fields #[.ref l, .int 0 0] } : Obj)).push ({ cls := .type "list", dict := none, data := .seq #[Value.int 0 s.toks] } : Obj)).get? b = some o := fun b o e => Heap.get?_push_of_some _ (Heap.get?_push_of_some _ e)
  have e1 : (s.heap.push ({ cls := .type "list_iterator", data := .fields #[.ref l, .int 0 0] } : Obj)).objs.size = s.heap.objs.size + 1 := Heap.size_push ..
  have I1 := I.kept (t' := s.toks + 1) k1
  have n1 : H (s.heap.push ({ cls := .type "list_iterator", data := .fields #[.ref l, .int 0 0] } : Obj)).objs.size = none := I.hok.fresh (by rw [e1]; exact Nat.le_succ _)
  have n2 : H s.heap.objs.size = none := I.hok.fresh (Nat.le_refl _)
  have f1 : FpOk X pins H s.heap.objs.size := I.fpOk (Nat.le_refl _) n2
  have f2 : FpOk X pins H (s.heap.push ({ cls := .type "list_iterator", data := .fields #[.ref l, .int 0 0] } : Obj)).objs.size := I.fpOk (by rw [e1]; exact Nat.le_succ _) n1
  refine wpAny_pure ⟨plainId_quiet F.plain_sum_loop _, codeAny_mono (sum_loop (N := N) (Q := Q) hc hadd G q s.heap.objs.size (s.heap.push ({ cls := .type "list_iterator", data := .fields #[.ref l, .int 0 0] } : Obj)).objs.size (by rw [e1]; exact Nat.succ_ne_self _) as.length 0 _ H (.int 0) (.int 0 s.toks) 0 0 (by omega) (Nat.zero_le _) I1 n0 ⟨_, rfl⟩ (.inl ⟨rfl, _, rfl⟩) ?_ ?_ f1 f2) ?_⟩
  · exact ⟨_, Heap.get?_push_of_some _ (Heap.get?_push_size _ rfl), rfl, rfl⟩
  · exact Heap.get?_push_size _ rfl
  · intro r s' z
    cases r with
    | error e => exact False.elim z
    | ok fl => cases fl <;> first | exact z | exact False.elim z
end
end Lb

set_option Elab.async false
set_option linter.all false
set_option maxRecDepth 100000
set_option maxHeartbeats 4000000
namespace Lb
open PySem PySem.Spec PyProof.Rows L2
section
variable {X : Cx} {CX : CXT} {k : Nat} {f C p g : Addr} {fd : FuncData} {ps ks : List Str} {sp : Sp} {E : XK} {x m : Str} {pos np apos : Pos} {o : Expr} {kws : List Keyword} {ta : TE} {tk : TA} {gf : List Value → List Value → List Value} {gV : List V → List V → List V}
theorem run_kbn {n : Nat} {pins : List (Addr × Obj)} {σ : L2.St} {H : Hp} {s : Shared} {Q : VK} {us ws : List Value} {vs zs : List V} (F : FnOk X.prog X.w X.K X.mg X.base CX k f fd ps sp) (hr : Room k X.A) (hb : KBn X.K fd ps n ks gf gV) (hx : Passes CX X E)
    (I : Inv X pins σ H s) (r : Vals vs us) (rz : Vals zs ws) (l1 : vs.length = n) (l2 : zs.length = ks.length) (h : sp (gV vs zs) H Q E) : wpAny (model X.prog X.w) X.A (call (.ref f) us (ks.zip ws)) (EP X pins σ Q) X.xe s := by
  refine wpAny_call (codeAny_mono (F.run X.A X.stack s H ⟨us, ks.zip ws⟩ (gf us ws) (gV vs zs) Q E hr I.env0 (hb.to s us ws I.kIn (r.length.symm.trans l1) (rz.length.symm.trans l2)) (hb.rel r rz) h) fun r s' hq => ?_)
  cases r with
  | error e => exact hx pins σ H s e s' I hq
  | ok fl =>
    cases fl with
    | ret u => exact I.after hq
    | next => exact False.elim hq
    | brk => exact False.elim hq
    | cont => exact False.elim hq
/-- f(k = v, ..) -/
def tCallK0 (m : Nat) (sp : Sp) (gV : List V → List V → List V) (E : XK) (tk : TA) : TE := fun σ H Q => tk σ H fun zs H2 => zs.length = m ∧ sp (gV [] zs) H2 Q E
theorem pe_callK0 (F : FnOk X.prog X.w X.K X.mg X.base CX k f fd ps sp) (hr : Room k X.A) (hg : Gl X x) (hm : X.mg x = some (.ref f)) (hk : PySem.W.keepIn X.K (.ref f) = true) (hb : KBn X.K fd ps 0 ks gf gV) (hx : Passes CX X E) (hkw : PK X kws tk)
    (hall : (backToKw pos (keywordEach kws X.env)).all (·.1.isSome) = true := by rfl) (hks : (backToKw pos (keywordEach kws X.env)).filterMap (·.1) = ks := by rfl) (hdb : (x == ("__debug__" : Str)) = false := by decide)
    (hpl : ((backTo pos (starEach [] X.env)).any (·.1) || (backToKw pos (keywordEach kws X.env)).any (·.1.isNone)) = false := by rfl) :
    PE X (.Call (.Name x np) [] kws pos) (tCallK0 ks.length sp gV E tk) := by
  refine ⟨fun pins s σ H Q I h => ?_⟩
  refine wpAny_Call_Name_kw (ld_glob I hg hm ?_ hdb)
  refine PySem.W.callWith_KW0 (h₀ := X.base) I.ok.mod.kin hk hall ?_ hpl
  refine thn (hkw.run pos pins s σ H _ I h) fun ws s2 ⟨zs, H2, I2, rz, l2, q2⟩ => ⟨I2.kIn, ?_⟩
  rw [hks]
  exact run_kbn (us := []) (vs := []) F hr hb hx I2 .nil rz rfl l2 q2
/-- o.m(k = v, ..) -/
def tMethK0 (C : Addr) (m : Str) (nk : Nat) (sp : Sp) (gV : List V → List V → List V) (E : XK) (ta : TE) (tk : TA) : TE := fun σ H Q => ta σ H fun x H1 => ∃ a dx fs, x = .ref a ∧ H1 a = some (.ins C dx fs) ∧ fs.lookup m = none ∧ tk σ H1 fun zs H2 => zs.length = nk ∧ sp (gV [.ref a] zs) H2 Q E
theorem pe_methK0 {pl : Sem Bool} (he : PE X o ta) (c : Cls X.K C) (hm : Meth X.K C m f) (F : FnOk X.prog X.w X.K X.mg X.base CX k f fd ps sp) (hr : Room k X.A) (hb : KBn X.K fd ps 1 ks gf gV) (hx : Passes CX X E) (hkw : PK X kws tk)
    (hall : (backToKw pos (keywordEach kws X.env)).all (·.1.isSome) = true := by rfl) (hks : (backToKw pos (keywordEach kws X.env)).filterMap (·.1) = ks := by rfl)
    (hpl : ((backTo pos (starEach [] X.env)).any (·.1) || (backToKw pos (keywordEach kws X.env)).any (·.1.isNone)) = false := by rfl)
    (ht : eval (.Call (.Attribute o m apos) [] kws pos) X.env = (do
      let ov ← eval o X.env
      standAt apos.atName
      let (f, first) ← holding [ov] (getMethod ov m pl)
      callWith pos f first (backTo pos (starEach [] X.env)) (backToKw pos (keywordEach kws X.env))) := by rfl) :
    PE X (.Call (.Attribute o m apos) [] kws pos) (tMethK0 C m ks.length sp gV E ta tk) := by
  refine ⟨fun pins s σ H Q I h => ?_⟩
  refine PySem.W.methodCall_KW (pl := pl) (thn (he.run pins s σ H _ I h) fun u s1 ⟨x, H1, I1, rx, a, dx, fs, ex, ea, l, q⟩ => ?_) ht
  subst ex
  obtain rfl : u = Value.ref a := rx
  refine getmeth_ok I1 ea c hm l ?_
  refine PySem.W.callWith_KW0 (first := [.ref a]) (h₀ := X.base) I.ok.mod.kin hm.kp hall ?_ hpl
  refine thn (hkw.run pos pins s1 σ H1 _ I1 q) fun ws s2 ⟨zs, H2, I2, rz, l2, q2⟩ => ⟨I2.kIn, ?_⟩
  rw [hks]
  exact run_kbn (us := [.ref a]) (vs := [.ref a]) F hr hb hx I2 (.cons rfl .nil) rz rfl l2 q2
/-- C.m(), m a classmethod -/
theorem pe_cmeth0 {mc : Value} {pl : Sem Bool} (he : PE X o ta) (r : ClX.CRead X.K C mc) (c : ClX.CMet X.K C mc m p g) (F : FnR X.prog X.w X.K X.mg X.base CX k g sp) (hr : Room k X.A) (hx : Passes CX X E)
    (ht : eval (.Call (.Attribute o m apos) [] [] pos) X.env = (do
      let ov ← eval o X.env
      standAt apos.atName
      let (f, first) ← holding [ov] (getMethod ov m pl)
      callWith pos f first (backTo pos (starEach [] X.env)) (backToKw pos (keywordEach [] X.env))) := by rfl) :
    PE X (.Call (.Attribute o m apos) [] [] pos) (ClX.tCMeth C sp E ta tNil) := by
  refine ⟨fun pins s σ H Q I h => ?_⟩
  refine PySem.W.methodCall_KW (pl := pl) (thn (he.run pins s σ H _ I h) fun u s1 ⟨x, H1, I1, rx, ex, q⟩ => ?_) ht
  subst ex
  obtain rfl : u = Value.ref C := rx
  refine ClX.getmethcm_ok I1 r c fun s2 I2 => ?_
  have hb := ClX.base_none I1 (Nat.le_refl _)
  refine PySem.W.callWith_M0 (K := X.K) (first := []) ⟨ClX.pin_at I2, I2.kIn⟩ c.fi ?_
  exact ClX.run_cm (us := []) (vs := []) F hr hx I2 .nil q
/-- x(e, ..), x a local that holds a class -/
def tMakeL (i : Nat) (C : Addr) (sp : Sp) (dvs : List V) (E : XK) (t : TA) : TE := fun σ H Q => σ[i]? = some (some (.ref C)) ∧ tMake C sp dvs E t σ H Q
theorem pe_makeL {i : Nat} {e : Expr} {es : List Expr} {t : TA} {ds : List Value} {dvs : List V} (M : Mk X.K C f) (F : FnOk X.prog X.w X.K X.mg X.base CX k f fd ps sp) (hr : Room (k + 1) X.A) (hN : X.N[i]? = some x) (hv : Vis X.env.scope x) (hb : Binds X.K fd ps ds) (hd : Vals dvs ds) (hx : Passes CX X E)
    (ha : PA X (e :: es) t) (hdb : (x == ("__debug__" : Str)) = false := by decide) (hcd : (x == ("__classdict__" : Str)) = false := by decide) (he : starEach (e :: es) X.env = (false, eval e X.env) :: starEach es X.env := by rfl) (hpl : (backTo pos (starEach es X.env)).any (·.1) = false := by rfl) :
    PE X (.Call (.Name x np) (e :: es) [] pos) (tMakeL i C sp dvs E t) := by
  refine ⟨fun pins s σ H Q I h => ?_⟩
  obtain ⟨hs, ht⟩ := h
  refine wpAny_Call_Name_kw (thn ((pe_var (pos := np) hN hv hdb hcd).run pins s σ H (fun v H1 => v = .ref C ∧ H1 = H) I ⟨.ref C, hs, rfl, rfl⟩) fun u s1 ⟨v, H1, I1, r1, q1⟩ => ?_)
  obtain ⟨rfl, rfl⟩ := q1
  cases r1
  refine PySem.W.callWith_K (h₀ := X.base) I.ok.mod.kin M.kp (thn (ha.run pos pins s1 σ _ _ I1 ht) fun us s2 ⟨vs, H2, I2, r, q⟩ => ⟨I2.kIn, ?_⟩) he hpl
  exact run_make M F hr hb hd hx I2 r q
/-! bool(x) -/
theorem call_boolOwn {n : Nat} (hs : PySem.W.findIn X.K (.ref C) "__bool__" = some (some (.ref g))) (hf : PySem.W.isFn X.K (.ref g) = true) (F : FnR X.prog X.w X.K X.mg X.base CX0 n g sp) (hr : Room (n + 2) X.A) :
    CallR X (.type "bool") (fun xs H Q => ∃ a dx fs, xs = [.ref a] ∧ H a = some (.ins C dx fs) ∧ sp xs H (fun z H' => ∃ b, z = .bl b ∧ Q z H') E) := by
  intro pins s σ H xs us Q I r h
  obtain ⟨a, dx, fs, rfl, ha, q⟩ := h
  obtain ⟨u, rfl, ru⟩ := vals1 r
  cases (show u = Value.ref a from ru)
  obtain ⟨od, J⟩ := inst_at I ha
  obtain ⟨m, hF⟩ := I.fr
  have hr2 : Room n X.A.in1.in1 := (show Room (n + 1) X.A.in1 from Room.in1 hr).in1
  have one : wpAny (model X.prog X.w) X.A.in1.in1 (truthy (.ref a)) (fun b s' => EP X pins σ Q (.bool b) s') X.xe s := by
    refine PySem.W.truthy_K hF I.ok.mod.kin J hs hf (wpAny_mono (call_at0 (us := [.ref a]) (ws := [.ref a]) F hr2 I.env0.in1.in1 I (.cons rfl .nil) q) (fun w s' z => ?_) fun _ _ x => x)
    obtain ⟨z', H', I', rz, b, ez, qz⟩ := z
    subst ez
    cases (show w = Value.bool b from rz)
    exact ⟨.bl b, H', I', rfl, qz⟩
  refine callType_codes (T := "bool") (Bi := Builtin.«object.__init__») (Q₁ := fun r s₁ => ∃ b, r = .bool b ∧ EP X pins σ Q r s₁) PySem.F.called_bool (PySem.F.typeCall_bool_1 _) PySem.F.entry_object_init ?_ ?_
  · refine codeAny_call_builtin (by decide +kernel) PySem.F.entry_bool_new (wpAny_of_eq (PySem.F.newCall_bool_1 _) ?_)
    unfold Builtin.«bool.__new__»
    refine wpAny_bind (wpAny_of_eq (show isType (.type "bool") = pure true from rfl) ?_)
    simp only [Bool.not_true, Bool.false_eq_true, if_false]
    refine wpAny_bind (wpAny_of_eq PySem.F.conv_sub_bool ?_)
    simp only [Bool.not_true, Bool.false_eq_true, if_false]
    refine wpAny_bind (m := someArgs _ _ _ _) (wpAny_pure ?_)
    refine wpAny_bind (wpAny_mono one (fun b s₁ z => ?_) fun _ _ e => e)
    exact wpAny_pure ⟨b, rfl, z⟩
  · rintro obj s₁ ⟨b, rfl, hq⟩
    exact ⟨PySem.typeIs_bool _ _, PySem.F.args_object_init_2 _ _, object_init_meets PySem.F.called_bool.init.lookup PySem.F.called_bool.made PySem.F.newNe_bool X.prog X.w X.A.in1 _ s₁ ⟨PySem.typeIs_bool _ _, rfl, hq⟩⟩
end
/-! how a def binds -/
theorem kbn_of {K : PySem.W.Frag} {x qual : Str} {st : Stmt} {f : Addr} {fd : FuncData} {ps ks : List Str} {n : Nat} (F : Fun K x qual st f fd)
    (h : ∀ (kV doc pm : Value) (an : Option Addr) (cdv ct : Value) (us ws : List Value), us.length = n → ws.length = ks.length → bindArgs (PySem.W.fnOf x qual (defArgs st) (defBody st) (defScope st) .none kV doc pm an cdv ct) ⟨us, ks.zip ws⟩ = pure (ps.zip (us ++ ws))) :
    KBn K fd ps n ks (fun us ws => us ++ ws) (fun vs zs => vs ++ zs) := by
  obtain ⟨oc, od, kV, doc, pm, an, cdv, ct, osl, rfl, lk, hcd⟩ := F.ex
  exact ⟨fun s us ws X l1 l2 => BindsTo.of_eq (h kV doc pm an cdv ct us ws l1 l2), fun r1 r2 => r1.append r2⟩
/-- def f(a, *v) that raises nothing -/
theorem star_ok {P : Program} {w : World} {K : PySem.W.Frag} {mg : Str → Option Value} {base : Heap} {x qual : Str} {st : Stmt} {f : Addr} {fd : FuncData} {N ps : List Str} {pv : Str} {k : Nat} {sp : Sp} (F : Fun K x qual st f fd) (S : FnScope N (ps ++ [pv]) (defScope st))
    (hb : ∀ (kV doc pm : Value) (an : Option Addr) (cdv ct : Value) (us rest : List Value), us.length = ps.length → bindArgs (PySem.W.fnOf x qual (defArgs st) (defBody st) (defScope st) .none kV doc pm an cdv ct) ⟨us ++ rest, []⟩ = (newTuple rest >>= fun t => pure (ps.zip us ++ [(pv, t)])))
    (hbody : ∀ (cdv : Value) (A : Around) (outer : List Env) (s : Shared) (H : Hp) (vs : List V) (Q : VK) (E : XK), Room k (A.deeper (envOfC qual (defScope st) s.heap.objs.size f cdv)) → sp vs H Q E →
      ∃ t, PSs (cxOf CX0 P w K mg base N qual (defScope st) f cdv A outer s H E).nox (defBody st) t ∧ t { nx := fun _ H' => Q .non H', rt := Q } (start N vs) H) :
    FnR P w K mg base CX0 (k + 1) f (fun vs H Q E => ∃ ws rest, vs = ws ++ rest ∧ ws.length = ps.length ∧ rest.length ≤ sizeLine ∧ ∀ p, H p = Option.none → sp (ws ++ [V.ref p]) (upd H p (.tup rest)) Q E) := by
  obtain ⟨oc, od, kV, doc, pm, an, cdv, ct, osl, rfl, lk, hcd⟩ := F.ex
  exact StX.fn_star lk hcd S StX.cxUp_none (fun us rest l => hb kV doc pm an cdv ct us rest l) (fun A outer s H vs Q E hr h => let ⟨t, h1, q⟩ := hbody cdv A outer s H vs Q E hr h; ⟨t, h1.nox, q⟩)
end Lb

set_option Elab.async false
set_option linter.all false
set_option maxRecDepth 100000
set_option maxHeartbeats 4000000
namespace Lb
open PySem

/-! the digits of a number, cut -/
def pad : Nat → Nat → List Char
  | 0, _ => []
  | k + 1, r => pad k (r / 10) ++ [Nat.digitChar (r % 10)]
theorem digits_cut {n : Nat} (hn : 0 < n) : ∀ (k r : Nat), r < 10 ^ k → Nat.toDigits 10 (n * 10 ^ k + r) = Nat.toDigits 10 n ++ pad k r
  | 0, r, h => by
    have : r = 0 := by simpa using h
    subst this
    simp [pad]
  | k + 1, r, h => by
    have h1 : r / 10 < 10 ^ k := by
      rw [Nat.pow_succ] at h
      omega
    have ih := digits_cut hn k (r / 10) h1
    have e : n * 10 ^ (k + 1) + r = 10 * (n * 10 ^ k + r / 10) + r % 10 := by
      rw [Nat.pow_succ]
      have := Nat.div_add_mod r 10
      rw [← Nat.mul_assoc]
      omega
    have p : 0 < n * 10 ^ k + r / 10 := Nat.add_pos_left (Nat.mul_pos hn (Nat.pow_pos (by decide))) _
    rw [e, ← Nat.toDigits_append_toDigits (by decide) p (Nat.mod_lt _ (by decide)), ih, Nat.toDigits_of_lt_base (Nat.mod_lt _ (by decide))]
    simp [pad]
theorem pad_zero : ∀ k, pad k 0 = List.replicate k '0'
  | 0 => rfl
  | k + 1 => by
    rw [pad, pad_zero k, List.replicate_succ']
    rfl
theorem pad_eq : ∀ (k r : Nat), 1 ≤ k → r < 10 ^ k → pad k r = List.replicate (k - (Nat.toDigits 10 r).length) '0' ++ Nat.toDigits 10 r
  | 1, r, _, h => by
    have h : r < 10 := by simpa using h
    rw [Nat.toDigits_of_lt_base h]
    simp [pad, Nat.mod_eq_of_lt h]
  | k + 2, r, _, h => by
    have h1 : r / 10 < 10 ^ (k + 1) := by
      rw [Nat.pow_succ] at h
      omega
    have ih := pad_eq (k + 1) (r / 10) (by omega) h1
    rw [pad]
    by_cases h0 : r < 10
    · have : r / 10 = 0 := by omega
      rw [this, pad_zero, Nat.toDigits_of_lt_base h0, Nat.mod_eq_of_lt h0]
      rfl
    · have e : Nat.toDigits 10 r = Nat.toDigits 10 (r / 10) ++ [Nat.digitChar (r % 10)] := by
        rw [← Nat.toDigits_of_lt_base (Nat.mod_lt r (by decide : 10 > 0)), Nat.toDigits_append_toDigits (by decide) (by omega) (Nat.mod_lt _ (by decide)), Nat.div_add_mod]
      rw [ih, e, List.length_append]
      rw [show k + 1 + 1 - ((Nat.toDigits 10 (r / 10)).length + [Nat.digitChar (r % 10)].length) = k + 1 - (Nat.toDigits 10 (r / 10)).length by simp only [List.length_cons, List.length_nil]; omega]
      simp
/-- the text of digits -/
def chS (l : List Char) : Str := ⟨(l.map Char.toNat).toArray⟩
theorem chS_append (a b : List Char) : chS (a ++ b) = chS a ++ chS b := by
  show Str.mk _ = Str.mk _
  congr 1
  simp [chS]
theorem toS (n : Nat) : ((toString (n : Int) : String) : Str) = chS (Nat.toDigits 10 n) := by
  rw [show ((toString (n : Int) : String) : Str) = Str.ofString (toString (n : Int)) from rfl, Str.ofString_eq_toList]
  unfold chS
  congr 3
  show (Int.repr (n : Int)).toList = _
  simp [Int.repr, Nat.repr]
theorem zf {k r : Nat} (hk : 1 ≤ k) (hr : r < 10 ^ k) : Txt.zfill (chS (Nat.toDigits 10 r)) (k : Nat) = chS (pad k r) := by
  have hlen : (chS (Nat.toDigits 10 r)).length = (Nat.toDigits 10 r).length := by
    show (chS (Nat.toDigits 10 r)).cps.size = _
    simp [chS]
  rw [pad_eq k r hk hr]
  unfold Txt.zfill
  rw [hlen]
  by_cases h : ((k : Nat) : Int) ≤ ((Nat.toDigits 10 r).length : Nat)
  · rw [if_pos h, show k - (Nat.toDigits 10 r).length = 0 by omega]
    simp
  · rw [if_neg h]
    have e0 : (chS (Nat.toDigits 10 r)).cps[0]? = ((Nat.toDigits 10 r)[0]?).map Char.toNat := by simp [chS]
    have key : (chS (Nat.toDigits 10 r)).cps[0]? ≠ some 43 ∧ (chS (Nat.toDigits 10 r)).cps[0]? ≠ some 45 := by
      rw [e0]
      cases hd : (Nat.toDigits 10 r)[0]? with
      | none => simp
      | some c =>
        have hc := Nat.isDigit_of_mem_toDigits (by decide) (by decide) (List.mem_of_getElem? hd)
        have : 48 ≤ c.toNat := by
          have := hc
          simp only [Char.isDigit, Bool.and_eq_true, decide_eq_true_eq] at this
          exact UInt32.le_iff_toNat_le.mp this.1
        simp only [Option.map_some, ne_eq, Option.some.injEq]
        omega
    have e : zfilled (chS (Nat.toDigits 10 r)) (Int.toNat k - (Nat.toDigits 10 r).length) = Builtin.Str.padded (chS (Nat.toDigits 10 r)) (Int.toNat k - (Nat.toDigits 10 r).length) 0 48 := by
      unfold zfilled
      split
      · rename_i q; exact absurd q key.1
      · rename_i q; exact absurd q key.2
      · rfl
    rw [e, chS_append]
    unfold Builtin.Str.padded
    show Str.mk _ = Str.mk _
    congr 1
    simp [chS]
def cat : List Str → Str
  | [] => Str.empty
  | x :: r => x ++ cat r
theorem empty_add (x : Str) : Str.empty ++ x = x := by
  show Str.mk _ = Str.mk _
  simp [Str.empty]
theorem add_empty (x : Str) : x ++ Str.empty = x := by
  show Str.mk _ = Str.mk _
  simp [Str.empty]
theorem cat_append (a b : List Str) : cat (a ++ b) = cat a ++ cat b := by
  induction a with
  | nil => exact (empty_add _).symm
  | cons x r ih => rw [List.cons_append, cat, cat, ih, Str.append_assoc]
theorem cat_foldl : ∀ (l : List Str) (x : Str), (⟨l.foldl (fun acc p => acc ++ Str.empty.cps ++ p.cps) x.cps⟩ : Str) = x ++ cat l
  | [], x => (add_empty x).symm
  | y :: r, x => by
    rw [List.foldl_cons]
    have e : x.cps ++ Str.empty.cps ++ y.cps = (x ++ y).cps := by
      show _ = x.cps ++ y.cps
      simp [Str.empty]
    rw [e, cat_foldl r (x ++ y), cat, Str.append_assoc]
theorem join_empty : ∀ l : List Str, Txt.join Str.empty l = cat l
  | [] => rfl
  | x :: r => cat_foldl r x
theorem cat_length : ∀ l : List Str, (cat l).length = (l.map (·.length)).sum
  | [] => rfl
  | x :: r => by rw [cat, Str.length_append, cat_length r, List.map_cons, List.sum_cons]
theorem chS_length (l : List Char) : (chS l).length = l.length := by
  show (chS l).cps.size = _
  simp [chS]
theorem pad_length : ∀ k r, (pad k r).length = k
  | 0, _ => rfl
  | k + 1, r => by rw [pad, List.length_append, pad_length k]; rfl
/-- one turn: the last sixty digits are cut off -/
theorem turn60 {n : Nat} (h : 10 ^ 60 ≤ n) : ((toString (n : Int) : String) : Str) = ((toString ((n / 10 ^ 60 : Nat) : Int) : String) : Str) ++ Txt.zfill ((toString ((n % 10 ^ 60 : Nat) : Int) : String) : Str) (60 : Nat) ∧
    (Txt.zfill ((toString ((n % 10 ^ 60 : Nat) : Int) : String) : Str) (60 : Nat)).length = 60 := by
  have q : 0 < n / 10 ^ 60 := Nat.div_pos h (Nat.pow_pos (by decide))
  have r : n % 10 ^ 60 < 10 ^ 60 := Nat.mod_lt _ (Nat.pow_pos (by decide))
  rw [toS, toS, toS, zf (by decide) r]
  refine ⟨?_, by rw [chS_length, pad_length]⟩
  conv => lhs; rw [← Nat.div_add_mod n (10 ^ 60), Nat.mul_comm]
  rw [digits_cut q 60 _ r, chS_append]
end Lb
namespace Lb
open PySem L2
theorem vals_rev : ∀ {vs : List V} {us : List Value}, Vals vs us → Vals vs.reverse us.reverse
  | [], _, .nil => .nil
  | _ :: _, _, .cons r t => by
    rw [List.reverse_cons, List.reverse_cons]
    exact (vals_rev t).append (.cons r .nil)
theorem kit_of_own {K : PySem.W.Frag} {C : Addr} {T : String} (hm : PySem.W.kitMeta T = true) (h : PySem.W.subIn K (.ref C) (.type T) = some false) : PySem.W.kitOne K (.ref C) (.type T) = some false := by
  have ne : (Value.ref C == Value.type T) = false := Bool.eq_false_iff.mpr fun q => nomatch beq_iff_eq.mp q
  unfold PySem.W.kitOne
  rw [ne, if_neg (by decide)]
  unfold PySem.W.kitCls
  dsimp only
  rw [if_pos hm]
  exact h
end Lb

set_option Elab.async false
set_option linter.all false
set_option maxRecDepth 100000
set_option maxHeartbeats 4000000
set_option exponentiation.threshold 10000
namespace Lb
open PySem L2

/-! fractions in lowest terms -/
abbrev Q2 := Int × Int
theorem bd_one {n : Nat} : Bd (n + 1) 1 := by
  show 1 < 2 ^ (n + 1)
  exact Nat.one_lt_two_pow (Nat.succ_ne_zero n)
def rdD (t b : Int) : Int := if b < 0 then -((Nat.gcd t.natAbs b.natAbs : Nat) : Int) else ((Nat.gcd t.natAbs b.natAbs : Nat) : Int)
def rdT (t b : Int) : Int := t.fdiv (rdD t b)
def rdB (t b : Int) : Int := b.fdiv (rdD t b)
theorem rdT_one (t : Int) : rdT t 1 = t := by
  unfold rdT rdD
  simp [Int.fdiv_one]
theorem rdB_one (t : Int) : rdB t 1 = 1 := by
  unfold rdB rdD
  simp [Int.fdiv_one]
/-- a fraction in lowest terms, its parts below a power of two -/
structure Low (n : Nat) (x : Q2) : Prop where
  t : Bd n x.1
  b : Bd n x.2
  pos : 0 < x.2
  g : x.1.gcd x.2 = 1
theorem Low.mono {n m : Nat} {x : Q2} (h : Low n x) (k : n ≤ m) : Low m x := ⟨h.t.mono k, h.b.mono k, h.pos, h.g⟩
def rd (t b : Int) : Q2 := (rdT t b, rdB t b)
theorem rd_spec {t b : Int} (hb : b ≠ 0) : 0 < rdB t b ∧ (rdT t b).gcd (rdB t b) = 1 ∧ t = (rdD t b) * rdT t b ∧ b = (rdD t b) * rdB t b := by
  have hg : 0 < t.gcd b := Int.gcd_pos_of_ne_zero_right t hb
  obtain ⟨t1, ht⟩ := Int.gcd_dvd_left t b
  obtain ⟨b1, hb1⟩ := Int.gcd_dvd_right t b
  have g1 : t1.gcd b1 = 1 := by
    have h := Int.gcd_mul_left (t.gcd b : Int) t1 b1
    rw [← ht, ← hb1] at h
    have h' : t.gcd b * 1 = t.gcd b * t1.gcd b1 := by simpa using h
    exact (Nat.eq_of_mul_eq_mul_left hg h').symm
  have key : ∀ D x y : Int, D ≠ 0 → t = D * x → b = D * y → t.fdiv D = x ∧ b.fdiv D = y := fun D x y hD h1 h2 => by
    rw [h1, h2]
    exact ⟨Int.mul_fdiv_cancel_left _ hD, Int.mul_fdiv_cancel_left _ hD⟩
  have eg : ((Nat.gcd t.natAbs b.natAbs : Nat) : Int) = (t.gcd b : Int) := rfl
  unfold rdT rdB
  by_cases h : b < 0
  · have eD : rdD t b = -(t.gcd b : Int) := by unfold rdD; rw [if_pos h, eg]
    obtain ⟨e1, e2⟩ := key (rdD t b) (-t1) (-b1) (by omega) (by rw [eD, Int.neg_mul_neg]; exact ht) (by rw [eD, Int.neg_mul_neg]; exact hb1)
    rw [e1, e2]
    have hb2 : b1 < 0 := by
      have : (t.gcd b : Int) * b1 < (t.gcd b : Int) * 0 := by omega
      exact Int.lt_of_mul_lt_mul_left this (by omega)
    refine ⟨by omega, ?_, by rw [eD, Int.neg_mul_neg]; exact ht, by rw [eD, Int.neg_mul_neg]; exact hb1⟩
    rw [Int.neg_gcd, Int.gcd_neg]
    exact g1
  · have eD : rdD t b = (t.gcd b : Int) := by unfold rdD; rw [if_neg h, eg]
    obtain ⟨e1, e2⟩ := key (rdD t b) t1 b1 (by omega) (by rw [eD]; exact ht) (by rw [eD]; exact hb1)
    rw [e1, e2]
    have hb2 : 0 < b1 := by
      have : (t.gcd b : Int) * 0 < (t.gcd b : Int) * b1 := by omega
      exact Int.lt_of_mul_lt_mul_left this (by omega)
    exact ⟨hb2, g1, by rw [eD]; exact ht, by rw [eD]; exact hb1⟩
theorem rd_low {n : Nat} {t b : Int} (hb : b ≠ 0) (h1 : Bd n t) (h2 : Bd n b) : Low n (rd t b) := by
  obtain ⟨p, g, e3, e4⟩ := rd_spec (t := t) (b := b) hb
  have hD : 1 ≤ (rdD t b).natAbs := by
    rcases Nat.eq_zero_or_pos (rdD t b).natAbs with e | e
    · have := Int.natAbs_eq_zero.mp e
      rw [this, Int.zero_mul] at e4
      exact absurd e4 hb
    · exact e
  have le : ∀ z : Int, z.natAbs ≤ (rdD t b * z).natAbs := fun z => by
    rw [Int.natAbs_mul]
    exact Nat.le_mul_of_pos_left _ hD
  exact ⟨h1.le (by conv => rhs; rw [e3]
                   exact le _), h2.le (by conv => rhs; rw [e4]
                                          exact le _), p, g⟩
theorem rd_self {t b : Int} (p : 0 < b) (g : t.gcd b = 1) : rdT t b = t ∧ rdB t b = b := by
  have e : rdD t b = 1 := by
    unfold rdD
    rw [if_neg (by omega)]
    show ((t.gcd b : Nat) : Int) = 1
    omega
  unfold rdT rdB
  rw [e, Int.fdiv_one, Int.fdiv_one]
  exact ⟨rfl, rfl⟩

theorem mul_pos_ne {x y : Int} (h : 0 < x) (k : 0 < y) : x * y ≠ 0 := by
  have := Int.mul_pos h k
  omega
/-- the number -/
def val (x : Q2) : Rat := (x.1 : Rat) / (x.2 : Rat)
theorem ne_cast {b : Int} (h : b ≠ 0) : (b : Rat) ≠ 0 := fun z => h (Rat.intCast_inj.mp (z.trans Rat.intCast_zero.symm))
theorem pos_cast {b : Int} (h : 0 < b) : (0 : Rat) < (b : Rat) := by
  have := Rat.intCast_lt_intCast.mpr h
  simpa using this
theorem val_rd {t b : Int} (hb : b ≠ 0) : val (rd t b) = (t : Rat) / (b : Rat) := by
  obtain ⟨p, g, e3, e4⟩ := rd_spec (t := t) (b := b) hb
  have hD : rdD t b ≠ 0 := fun z => by
    rw [z, Int.zero_mul] at e4
    exact hb e4
  have h1 : (t : Rat) = (rdD t b : Rat) * (rdT t b : Rat) := by
    rw [← Rat.intCast_mul, ← e3]
  have h2 : (b : Rat) = (rdD t b : Rat) * (rdB t b : Rat) := by
    rw [← Rat.intCast_mul, ← e4]
  have h3 := ne_cast hD
  have h4 := ne_cast (show rdB t b ≠ 0 by omega)
  show (rdT t b : Rat) / (rdB t b : Rat) = _
  rw [h1, h2]
  grind
theorem val_lt {x y : Q2} (hx : 0 < x.2) (hy : 0 < y.2) : (x.1 * y.2 < y.1 * x.2) ↔ val x < val y := by
  have px := pos_cast hx
  have py := pos_cast hy
  have e1 : val x * ((x.2 : Rat) * y.2) = (x.1 : Rat) * y.2 := by unfold val; grind
  have e2 : val y * ((x.2 : Rat) * y.2) = (y.1 : Rat) * x.2 := by unfold val; grind
  have pp : (0 : Rat) < (x.2 : Rat) * y.2 := Rat.mul_pos px py
  rw [← Rat.intCast_lt_intCast, Rat.intCast_mul, Rat.intCast_mul, ← e1, ← e2]
  constructor
  · intro h
    exact Rat.lt_of_mul_lt_mul_right h (Rat.le_of_lt pp)
  · intro h
    exact Rat.mul_lt_mul_of_pos_right h pp
theorem val_le {x y : Q2} (hx : 0 < x.2) (hy : 0 < y.2) : (x.1 * y.2 ≤ y.1 * x.2) ↔ val x ≤ val y := by
  rw [← Int.not_lt, val_lt hy hx, Rat.not_lt]
theorem low_eq {t b t' b' : Int} (hb : 0 < b) (hb' : 0 < b') (g : t.gcd b = 1) (g' : t'.gcd b' = 1) (h : t * b' = t' * b) : t = t' ∧ b = b' := by
  have d1 : b ∣ b' := by
    have : b ∣ (b.gcd t : Int) * b' := Int.dvd_gcd_mul_iff_dvd_mul.mpr ⟨t', by grind⟩
    rw [Int.gcd_comm, g] at this
    simpa using this
  have d2 : b' ∣ b := by
    have : b' ∣ (b'.gcd t' : Int) * b := Int.dvd_gcd_mul_iff_dvd_mul.mpr ⟨t, by grind⟩
    rw [Int.gcd_comm, g'] at this
    simpa using this
  have e : b = b' := by
    have h1 := Int.le_of_dvd hb' d1
    have h2 := Int.le_of_dvd hb d2
    omega
  subst e
  refine ⟨?_, rfl⟩
  have : (t - t') * b = 0 := by grind
  rcases Int.mul_eq_zero.mp this with e | e <;> omega
theorem val_inj {n m : Nat} {x y : Q2} (hx : Low n x) (hy : Low m y) (h : val x = val y) : x = y := by
  have px := ne_cast (show x.2 ≠ 0 from by have := hx.pos; omega)
  have py := ne_cast (show y.2 ≠ 0 from by have := hy.pos; omega)
  have e : (x.1 : Rat) * y.2 = (y.1 : Rat) * x.2 := by
    unfold val at h
    grind
  rw [← Rat.intCast_mul, ← Rat.intCast_mul, Rat.intCast_inj] at e
  obtain ⟨h1, h2⟩ := low_eq hx.pos hy.pos hx.g hy.g e
  exact Prod.ext h1 h2
theorem val_add {x y : Q2} (hx : 0 < x.2) (hy : 0 < y.2) : val (rd (x.1 * y.2 + y.1 * x.2) (x.2 * y.2)) = val x + val y := by
  have px := ne_cast (show x.2 ≠ 0 by omega)
  have py := ne_cast (show y.2 ≠ 0 by omega)
  rw [val_rd (mul_pos_ne hx hy), Rat.intCast_add, Rat.intCast_mul, Rat.intCast_mul, Rat.intCast_mul]
  unfold val
  grind
theorem val_sub {x y : Q2} (hx : 0 < x.2) (hy : 0 < y.2) : val (rd (x.1 * y.2 - y.1 * x.2) (x.2 * y.2)) = val x - val y := by
  have px := ne_cast (show x.2 ≠ 0 by omega)
  have py := ne_cast (show y.2 ≠ 0 by omega)
  rw [val_rd (mul_pos_ne hx hy), Rat.intCast_sub, Rat.intCast_mul, Rat.intCast_mul, Rat.intCast_mul]
  unfold val
  grind
theorem val_mul {x y : Q2} (hx : 0 < x.2) (hy : 0 < y.2) : val (rd (x.1 * y.1) (x.2 * y.2)) = val x * val y := by
  have px := ne_cast (show x.2 ≠ 0 by omega)
  have py := ne_cast (show y.2 ≠ 0 by omega)
  rw [val_rd (mul_pos_ne hx hy), Rat.intCast_mul, Rat.intCast_mul]
  unfold val
  grind
theorem val_div {x y : Q2} (hx : 0 < x.2) (hy : 0 < y.2) (h0 : y.1 ≠ 0) : val (rd (x.1 * y.2) (x.2 * y.1)) = val x / val y := by
  have px := ne_cast (show x.2 ≠ 0 by omega)
  have py := ne_cast (show y.2 ≠ 0 by omega)
  have p0 := ne_cast h0
  rw [val_rd (Int.mul_ne_zero (by omega) h0), Rat.intCast_mul, Rat.intCast_mul]
  unfold val
  grind
theorem val_neg (x : Q2) : val (-x.1, x.2) = - val x := by
  show ((-x.1 : Int) : Rat) / x.2 = - ((x.1 : Rat) / x.2)
  rw [Rat.intCast_neg]
  grind
theorem val_zero : val (0, 1) = 0 := by
  show ((0 : Int) : Rat) / ((1 : Int) : Rat) = 0
  rw [Rat.intCast_zero]
  grind
theorem val_eq0 {x : Q2} (hx : 0 < x.2) : x.1 = 0 ↔ val x = 0 := by
  have px := ne_cast (show x.2 ≠ 0 by omega)
  constructor
  · intro h
    unfold val
    rw [h, Rat.intCast_zero]
    grind
  · intro h
    refine Classical.byContradiction fun k => ?_
    have := ne_cast k
    unfold val at h
    grind
theorem val_pos {x : Q2} (hx : 0 < x.2) : 0 < x.1 ↔ 0 < val x := by
  have h := val_lt (x := (0, 1)) (y := x) (by decide) hx
  rw [val_zero] at h
  rw [← h]
  simp
theorem val_negl {x : Q2} (hx : 0 < x.2) : x.1 < 0 ↔ val x < 0 := by
  have h := val_lt (x := x) (y := (0, 1)) hx (by decide)
  rw [val_zero] at h
  rw [← h]
  simp
end Lb

set_option Elab.async false
set_option linter.all false
set_option maxRecDepth 100000
set_option maxHeartbeats 4000000
namespace Lb
open PySem PySem.Spec PyProof.Rows L2
section
variable {X : Cx} {CX : CXT} {k : Nat} {f C p g : Addr} {fd : FuncData} {ps ks : List Str} {sp : Sp} {E : XK} {x m : Str} {pos np apos : Pos} {o fe e : Expr} {es : List Expr} {kws : List Keyword} {ta tf : TE} {t tk : TA} {gf : List Value → List Value → List Value} {gV : List V → List V → List V}
/-! an instance is called -/
def tCallI (C : Addr) (sp : Sp) (E : XK) (tf : TE) (t : TA) : TE := fun σ H Q => tf σ H fun y H1 => ∃ a, y = V.ref a ∧ t σ H1 fun vs H2 => (∃ dx fs, H2 a = some (.ins C dx fs)) ∧ sp (V.ref a :: vs) H2 Q E
theorem pe_callI (hf : PE X fe tf) (c : StX.CallO X.K C g) (F : FnR X.prog X.w X.K X.mg X.base CX k g sp) (hr : Room k X.A) (hx : Passes CX X E) (ha : PA X (e :: es) t)
    (ht : eval (.Call fe (e :: es) [] pos) X.env = (do callWith pos (← eval fe X.env) [] (backTo pos (starEach (e :: es) X.env)) (backToKw pos (keywordEach [] X.env))) := by rfl)
    (he : starEach (e :: es) X.env = (false, eval e X.env) :: starEach es X.env := by rfl) (hpl : (backTo pos (starEach es X.env)).any (·.1) = false := by rfl) : PE X (.Call fe (e :: es) [] pos) (tCallI C sp E tf t) := by
  refine ⟨fun pins s σ H Q I h => ?_⟩
  refine Call_ (thn (hf.run pins s σ H _ I h) fun u s1 ⟨y, H1, I1, ry, a, ey, q⟩ => ?_) ht
  subst ey
  obtain rfl : u = Value.ref a := ry
  refine StX.callO_with (thn (ha.run pos pins s1 σ H1 _ I1 q) fun us s2 ⟨vs, H2, I2, r, ⟨dx, fs, hi⟩, q2⟩ => ?_) he hpl
  obtain ⟨ox, od, J, hd⟩ := StX.insC_at I2 (X := X) (.inr ⟨dx, fs, hi⟩)
  exact ⟨⟨C, ox, od, J, hd⟩, StX.run_callO c F hr hx I2 (.inr ⟨dx, fs, hi⟩) r q2⟩
/-! C.m(e, ..), m a staticmethod -/
structure SMet (K : PySem.W.Frag) (C : Addr) (m : Str) (p g : Addr) : Prop where
  ty : PySem.W.typeIn K (.ref C) = some (.type "type")
  rd : PySem.W.readsIn K C (.type "type") = true
  ga : PySem.W.specialIn K (.ref C) "__getattribute__" = some (some (.builtin "type.__getattribute__"))
  at_ : PySem.W.findCls K (.ref C) (.type "type") m = some (.get (.builtin "staticmethod.__get__") (.ref p) .none (.ref C))
  rc : ∃ rest, PySem.W.recIn K p "staticmethod" = some (.ref g :: rest)
  kp : PySem.W.keepIn K (.ref g) = true
def tSMeth (C : Addr) (sp : Sp) (E : XK) (ta : TE) (t : TA) : TE := fun σ H Q => ta σ H fun x H1 => x = .ref C ∧ t σ H1 fun vs H2 => sp vs H2 Q E
theorem getsm_ok {pins : List (Addr × Obj)} {σ : L2.St} {H : Hp} {s : Shared} {A : Around} {Ex : Value → Shared → Prop} {pl : Sem Bool} {Q : Value × List Value → Shared → Prop} (I : Inv X pins σ H s) (c : SMet X.K C m p g)
    (h : ∀ s', Inv X pins σ H s' → Q (.ref g, []) s') : wpAny (model X.prog X.w) A (getMethod (.ref C) m pl) Q Ex s := by
  obtain ⟨rest, hp⟩ := c.rc
  obtain ⟨mm, F⟩ := I.fr
  exact PySem.W.method_cls I.kIn c.ga (PySem.W.cls_sm F I.ok.mod.kin c.ty c.rd c.at_ hp rfl (h _ (I.tok _)))
theorem pe_smeth {pl : Sem Bool} {ds : List Value} {dvs : List V} (he : PE X o ta) (c : SMet X.K C m p g) (F : FnOk X.prog X.w X.K X.mg X.base CX k g fd ps sp) (hr : Room k X.A) (hb : Binds X.K fd ps ds) (hd : Vals dvs ds) (hx : Passes CX X E) (ha : PA X (e :: es) t)
    (hst : starEach (e :: es) X.env = (false, eval e X.env) :: starEach es X.env := by rfl) (hpl : (backTo pos (starEach es X.env)).any (·.1) = false := by rfl)
    (ht : eval (.Call (.Attribute o m apos) (e :: es) [] pos) X.env = (do
      let ov ← eval o X.env
      standAt apos.atName
      let (f, first) ← holding [ov] (getMethod ov m pl)
      callWith pos f first (backTo pos (starEach (e :: es) X.env)) (backToKw pos (keywordEach [] X.env))) := by rfl) :
    PE X (.Call (.Attribute o m apos) (e :: es) [] pos) (tSMeth C (fun vs H Q E => sp (vs ++ dvs) H Q E) E ta t) := by
  refine ⟨fun pins s σ H Q I h => ?_⟩
  refine PySem.W.methodCall_KW (pl := pl) (thn (he.run pins s σ H _ I h) fun u s1 ⟨x, H1, I1, rx, ex, q⟩ => ?_) ht
  subst ex
  obtain rfl : u = Value.ref C := rx
  refine getsm_ok I1 c fun s2 I2 => ?_
  refine PySem.W.callWith_K (first := []) (h₀ := X.base) I.ok.mod.kin c.kp (thn (ha.run pos pins s2 σ H1 _ I2 q) fun us s3 ⟨vs, H2, I3, rv, q2⟩ => ⟨I3.kIn, ?_⟩) hst hpl
  exact run_fn F hr hb hd hx I3 rv q2
/-! an instance is called with keywords alone -/
abbrev KeptBy (s : Shared) (o : Addr) : Prop := ∃ D y z, PySem.W.InstAt s.heap o y D z ∧ y.data = .plain
theorem inst_kw {M : Model} {A : Around} {Bad : Value → Shared → Prop} {Fin : Value → Shared → Prop} {t : Shared} {o : Addr} {pos : Pos} {us : List (Bool × Sem Value)} {ns : List (Option Str × Sem Value)} (no : (us.any (·.1) || ns.any (·.1.isNone)) = false)
    (run : wpAny M A (evalArgs (.ref o) true us ns) (fun got t' => KeptBy t' o ∧ wpAny M A (call (.ref o) got.pos got.kw) Fin Bad t') Bad t) :
    wpAny M A (callWith pos (.ref o) [] us ns) Fin Bad t := by
  have last : ∀ {go : Sem Value} {t' : Shared}, wpAny M A go Fin Bad t' → wpAny M A (go >>= fun v => holding [v] point >>= fun _ => pure v) Fin Bad t' := by
    intro go t' g
    apply wpAny_bind
    refine wpAny_mono g ?_ fun _ _ b => b
    intro v t2 fin
    exact wpAny_bind (wpAny_holding (wpAny_point (wpAny_pure fin)))
  unfold callWith
  apply wpAny_bind
  apply wpAny_holding
  refine wpAny_mono run ?_ fun _ _ b => b
  rintro got t' ⟨⟨D, y, z, inst, dat⟩, go⟩
  apply wpAny_bind
  apply wpAny_standAt
  have keeper := PySem.W.kco_keeper (M := M) inst dat
  simp only [no]
  apply wpAny_bind
  apply keeper.here
  exact last (wpAny_operateT go)
def tCallIK (nk : Nat) (C : Addr) (sp : Sp) (gV : List V → List V → List V) (E : XK) (tf : TE) (tk : TA) : TE := fun σ H Q => tf σ H fun y H1 => ∃ a, y = V.ref a ∧ tk σ H1 fun zs H2 => (∃ dx fs, H2 a = some (.ins C dx fs)) ∧ zs.length = nk ∧ sp (gV [.ref a] zs) H2 Q E
theorem pe_callIK (hf : PE X fe tf) (c : StX.CallO X.K C g) (F : FnOk X.prog X.w X.K X.mg X.base CX k g fd ps sp) (hr : Room k X.A) (hb : KBn X.K fd ps 1 ks gf gV) (hx : Passes CX X E) (hkw : PK X kws tk)
    (hall : (backToKw pos (keywordEach kws X.env)).all (·.1.isSome) = true := by rfl) (hks : (backToKw pos (keywordEach kws X.env)).filterMap (·.1) = ks := by rfl)
    (hpl : ((backTo pos (starEach [] X.env)).any (·.1) || (backToKw pos (keywordEach kws X.env)).any (·.1.isNone)) = false := by rfl)
    (ht : eval (.Call fe [] kws pos) X.env = (do callWith pos (← eval fe X.env) [] (backTo pos (starEach [] X.env)) (backToKw pos (keywordEach kws X.env))) := by rfl) : PE X (.Call fe [] kws pos) (tCallIK ks.length C sp gV E tf tk) := by
  refine ⟨fun pins s σ H Q I h => ?_⟩
  rw [ht]
  refine wpAny_bind (thn (hf.run pins s σ H _ I h) fun u s1 ⟨y, H1, I1, ry, a, ey, q⟩ => ?_)
  subst ey
  obtain rfl : u = Value.ref a := ry
  refine inst_kw hpl (evalArgs_kw2_nil hall ?_)
  refine thn (hkw.run pos pins s1 σ H1 _ I1 q) fun ws s2 ⟨zs, H2, I2, rz, ⟨dx, fs, hi⟩, l2, q2⟩ => ?_
  obtain ⟨ox, od, J, hd⟩ := StX.insC_at I2 (X := X) (.inr ⟨dx, fs, hi⟩)
  refine ⟨⟨C, ox, od, J, hd⟩, ?_⟩
  rw [hks]
  refine wpAny_call (PySem.W.kco_code I2.kIn J hd c.at_ c.fn c.fi ?_)
  refine codeAny_mono (F.run X.A X.stack s2 H2 ⟨[.ref a], ks.zip ws⟩ (gf [.ref a] ws) (gV [.ref a] zs) Q E hr I2.env0 (hb.to s2 [.ref a] ws I2.kIn rfl (rz.length.symm.trans l2)) (hb.rel (.cons rfl .nil) rz) q2) fun r s' hq => ?_
  cases r with
  | error e => exact hx pins σ H2 s2 e s' I2 hq
  | ok fl =>
    cases fl with
    | ret u => exact I2.after hq
    | next => exact False.elim hq
    | brk => exact False.elim hq
    | cont => exact False.elim hq
end
end Lb

set_option Elab.async false
set_option linter.all false
set_option maxRecDepth 100000
set_option maxHeartbeats 4000000
namespace Lb
open PySem PySem.Spec PyProof.Rows L2
/-! enumerate of whatever iter() turns into a new object, with one argument -/
abbrev EnO (k : Nat) : Obj := { cls := .type "enumerate", data := .fields #[.none, .bool false, .ref k, rawInt 0, .none, .none] }
theorem made_enum {v : Value} {o : Obj} {Z : Heap → Prop} (B : Begins v o Z) :
    Meets (Builtin.«enumerate.__new__» ⟨[.type "enumerate", v], []⟩) (fun _ R s => Z s.heap ∧ R (.ok (.ret (.ref (s.heap.push o).objs.size))) { s with heap := (s.heap.push o).push (EnO s.heap.objs.size) }) := by
  refine .of_wp fun P w A R s ⟨z, fin⟩ => ?_
  obtain ⟨hp, gl, od, tk, out⟩ := s
  have sb := sub_enumerate
  have it : ∀ {A' : Around} {Bad Q : Value → Shared → Prop}, Q (.ref hp.objs.size) ⟨hp.push o, gl, od, tk, out⟩ → wpAny (model P w) A' (pyIter v) Q Bad ⟨hp, gl, od, tk, out⟩ := fun q => B.iter P w _ _ ⟨hp, gl, od, tk, out⟩ _ z q
  wp_walk using it
  refine wpAny_stack_any fun _ => wpAny_pure ?_
  split
  · rename_i cc _ _ _ _ _
    cases (cc == Value.type "enumerate") <;> (wp_walk using it; exact ⟨_, rfl, fin⟩)
  · wp_walk using it
    exact ⟨_, rfl, fin⟩
theorem enum_called {P : Program} {w : World} {A : Around} {Bad : Value → Shared → Prop} {s : Shared} {v : Value} {o : Obj} {Z : Heap → Prop} {Q : Value → Shared → Prop} (B : Begins v o Z) (z : Z s.heap)
    (fin : ∀ h2, IsEnum h2 (s.heap.objs.size + 1) s.heap.objs.size 0 .none → h2.get? s.heap.objs.size = some o → (∀ b ob, s.heap.get? b = some ob → h2.get? b = some ob) → Q (.ref (s.heap.objs.size + 1)) { s with heap := h2 }) :
    wpAny (model P w) A (call (.type "enumerate") [v]) Q Bad s := by
  refine callType_new F.called_enumerate (by decide) (F.typeCall_enumerate_1 _) (F.newCall_enumerate_1 _) (fun ob => F.args_object_init_2 ob _) F.entry_enumerate_new (made_enum B) ⟨z, ?_⟩
  have n1 : (s.heap.push o).objs.size = s.heap.objs.size + 1 := Heap.size_push ..
  have top : ((s.heap.push o).push (EnO s.heap.objs.size)).get? (s.heap.push o).objs.size = some (EnO s.heap.objs.size) := Heap.get?_push_size _ rfl
  rw [n1] at top
  show _ ∧ _
  rw [n1]
  exact ⟨⟨_, top, rfl⟩, fin _ top (Heap.get?_push_of_some _ (Heap.get?_push_size _ B.free)) fun b ob q => Heap.get?_push_of_some _ (Heap.get?_push_of_some _ q)⟩
/-- the tuple at a, each item in a new pair with its place -/
def IteT (K : PySem.W.Frag) (a : Addr) : It where
  go i H := ∃ (xs : List V) (x : V), SqT K H a xs ∧ xs[i]? = some x
  yld i H v H' := ∃ T x, v = .ref T ∧ H T = none ∧ H' = L2.upd H T (.tup [.int (i : Nat), x]) ∧ ∀ xs, SqT K H a xs → xs[i]? = some x
  stop i H := ∃ xs : List V, SqT K H a xs ∧ xs.length ≤ i
theorem enum_turn {P : Program} {w : World} {K : PySem.W.Frag} {elts : List Expr} {kk : Nat} {tpos : Pos} (a e it : Addr) :
    Turn P w K (.Tuple elts kk tpos) (IteT K a) [e, it] e (fun i h => (∃ old, IsEnum h e it ((i : Nat) : Int) old) ∧ h.IsTupleIter it a i ∧ e ≠ it) where
  mem := List.mem_cons_self
  self := fun A i s Q E st h => by
    obtain ⟨⟨_, he⟩, _⟩ := st
    exact wpAny_pyIter_enum he h
  obj := by
    rintro i h ⟨⟨old, he⟩, ⟨o, ho, hc, hd⟩, _⟩ b hb
    rw [List.mem_cons, List.mem_singleton] at hb
    rcases hb with rfl | rfl
    · exact ⟨_, he, fun v q => nomatch q⟩
    · exact ⟨o, ho, fun v q => by rw [hd] at q; cases q⟩
  keep := by
    rintro i h h' ⟨⟨old, he⟩, hi, ne⟩ k
    exact ⟨⟨old, k e (by simp) _ he⟩, hi.at fun o q => k it (by simp) o q, ne⟩
  item := by
    rintro X rfl rfl rfl hc i pins s σ H E I hf ⟨⟨old, he⟩, hi, ne⟩ ⟨xs, x, hq, hx⟩
    obtain ⟨its, rv, ⟨ot, hot, cot, rt⟩, hz⟩ := I.tuple hq
    obtain ⟨u, hu, ru⟩ := rv.get hx
    have ai : a ≠ it := by
      rintro rfl
      obtain ⟨o, ho, hc', _⟩ := id hi
      have := hot.symm.trans ho
      injection this with this
      rw [← this, cot] at hc'
      exact absurd hc' (by decide)
    have ae : e ≠ a := by
      rintro rfl
      have := hot.symm.trans he
      injection this with this
      rw [this] at cot
      injection cot with cot
      exact absurd cot (by decide)
    have D := Draws.tuple (prog := X.prog) (w := X.w) (A := X.A.in1) (I.ok.hd hc) it a ai its.toArray
    have li := rv.length
    have lt : i < its.toArray.size := by
      have := (List.getElem?_eq_some_iff.mp hu).1
      simpa using this
    have be : e < s.heap.objs.size := Heap.lt_size he
    have bi : it < s.heap.objs.size := by obtain ⟨_, q, _⟩ := id hi; exact Heap.lt_size q
    refine wpAny_pyNext_enum_itemD D he ⟨hi, ⟨ot, hot, cot, rt⟩⟩ lt ne (by simp [ne, ae]) fun y h' tk py ho st' hT _ hk => ?_
    obtain rfl : y = u := by
      have : its.toArray[i]? = some u := by simpa using hu
      exact Option.some.inj (py.symm.trans this)
    refine ⟨_, rfl, wpAny_letOwnedTupleGo_enum (s := { s with heap := h', toks := tk + 1 }) ho fun h2 he2 sb => ?_⟩
    have new : ObjOk X.prog X.w (L2.upd H s.heap.objs.size (.tup [.int (i : Nat), x])) h2 s.heap.objs.size (.tup [.int (i : Nat), x]) :=
      ⟨by show 2 ≤ sizeLine; decide, [.int i tk, y], .cons ⟨_, rfl⟩ (.cons ru .nil), ⟨_, (sb.2 _ (Nat.ne_of_gt be)).trans hT, rfl, _, rfl⟩⟩
    have I1 : Inv X pins σ (L2.upd H s.heap.objs.size (.tup [.int (i : Nat), x])) { s with heap := h2, toks := tk + 1 } := by
      refine I.turnedNew (ch := [e, it]) (fun b ob hb q => ?_) hf (Nat.le_refl _) new
      simp only [List.mem_cons, List.not_mem_nil, or_false, not_or] at hb
      exact (sb.2 b hb.1).trans (hk b ob hb.1 hb.2 q)
    refine ⟨.ref s.heap.objs.size, _, I1, rfl, ⟨_, x, rfl, I.hok.fresh (Nat.le_refl _), rfl, fun ys hy => by rw [I.tuple_inj hy hq]; exact hx⟩, ⟨⟨y, ?_⟩, st'.1.at fun o q => (sb.2 it (Ne.symm ne)).trans q, ne⟩, fun b hb => ?_⟩
    · rw [show ((i + 1 : Nat) : Int) = (i : Int) + 1 by omega]
      exact he2
    · have : b < s.heap.objs.size := by
        rw [List.mem_cons, List.mem_singleton] at hb
        rcases hb with rfl | rfl
        · exact be
        · exact bi
      rw [upd_ne (Nat.ne_of_lt this)]
      exact (hf b hb).1
  done := by
    rintro X rfl rfl rfl hc i pins s σ H E I hf ⟨⟨old, he⟩, hi, ne⟩ ⟨xs, hq, hx⟩
    obtain ⟨its, rv, ⟨ot, hot, cot, rt⟩, hz⟩ := I.tuple hq
    have ll := rv.length
    have out : its.toArray[i]? = none := by
      rw [Array.getElem?_eq_none_iff]
      show its.length ≤ i
      omega
    have D : Draws X.prog X.w X.A.in1 it [it, a] 0 (fun _ _ => True) (fun _ h => h.IsTupleIter it a i ∧ h.IsTuple a its.toArray) :=
      { live := fun _ _ st => by
          obtain ⟨⟨o, ho, _⟩, _⟩ := st
          exact ⟨o, ho⟩
        frame := fun _ _ _ st k => ⟨st.1.at fun o q => k it (by simp) o q, st.2.at fun o q => k a (by simp) o q⟩
        item := fun j _ _ _ lt => absurd lt (Nat.not_lt_zero _)
        done := fun t Q E' st q => wpAny_nextOf_tuple_end (I.ok.hd hc) st.1 st.2 out q }
    obtain ⟨f0, f1, f2, f3, f4, f5⟩ := hf it (by simp)
    exact wpAny_pyNext_enum_endD D he ⟨hi, ⟨ot, hot, cot, rt⟩⟩ fun h2 eb => ⟨rfl, I.turned (t' := s.toks) (fun b o nb q => eb b o nb q) f0 f1 f3 f4 f5⟩
def iEnumT (K : PySem.W.Frag) (ta : TA) : TI := fun σ H R => ta σ H fun vs H1 => ∃ a xs, vs = [.ref a] ∧ SqT K H1 a xs ∧ R (IteT K a) H1
theorem pi_enumT {X : Cx} {e : Expr} {ta : TA} {p pos tpos : Pos} {elts : List Expr} {kk : Nat} (hg : Gl X "enumerate") (hm : X.mg "enumerate" = none) (ha : PA X [e] ta) (hs : starEach [e] X.env = [(false, eval e X.env)] := by rfl) :
    PI X (.Tuple elts kk tpos) (.Call (.Name "enumerate" p) [e] [] pos) (iEnumT X.K ta) := by
  constructor
  intro pins s σ H R I h
  refine Call_ (ld_blt I hg hm boot_enumerate (PyProof.Rows.callWith_type1 (thn (ha.run pos pins s σ H _ I h) ?_) hs rfl))
  rintro us s1 ⟨vs, H1, I1, r1, a, xs, rfl, hq, q⟩
  obtain ⟨u, rfl⟩ : ∃ u, us = [u] := by
    cases r1 with
    | cons r rr => cases rr; exact ⟨_, rfl⟩
  obtain rfl : u = Value.ref a := by
    cases r1 with
    | cons r rr => exact r
  obtain ⟨its, rv, tt, hz⟩ := I1.tuple hq
  refine enum_called (begins_tuple a its.toArray) tt fun h2 he hi hk => wpAny_pyIter_enum he ?_
  have I2 : Inv X pins σ H1 { s1 with heap := h2 } := I1.kept (t' := s1.toks) hk
  refine ⟨_, [s1.heap.objs.size + 1, s1.heap.objs.size], _, _, H1, rfl, I2, enum_turn a _ s1.heap.objs.size, ⟨⟨.none, he⟩, ⟨_, hi, rfl, rfl⟩, Nat.succ_ne_self _⟩, fun b hb => ?_, q⟩
  have nb : s1.heap.objs.size ≤ b := by
    rw [List.mem_cons, List.mem_singleton] at hb
    rcases hb with z | z
    · rw [z]
      exact Nat.le_succ _
    · rw [z]
      exact Nat.le_refl _
  exact I1.fpOk nb (I1.hok.fresh nb)
/-- for i, x in enumerate(a tuple) -/
theorem for_enumT {K : PySem.W.Frag} {a : Addr} {xs : List V} {g : TG} {tb : TS} {D : Ends} {σ : L2.St} {H : Hp} (Pv : Nat → L2.St → Hp → Prop) (h0 : Pv 0 σ H) (hq : ∀ i σ H, Pv i σ H → SqT K H a xs)
    (hs : ∀ (i : Nat) (x : V) (T : Addr) (σ : L2.St) (H : Hp), xs[i]? = some x → Pv i σ H → H T = none → g (.ref T) σ (L2.upd H T (.tup [.int (i : Nat), x])) fun σ2 H2 => tb { D with nx := Pv (i + 1), ct := Pv (i + 1), bk := D.nx } σ2 H2)
    (hd : ∀ σ H, Pv xs.length σ H → D.nx σ H) :
    ∃ W : Nat → Nat → L2.St → Hp → Prop, (∃ m, W 0 m σ H) ∧ ∀ i m σ H, W i m σ H →
      ((IteT K a).stop i H ∧ D.nx σ H) ∨ ((IteT K a).go i H ∧ ∃ N : L2.St → Hp → Prop, (∀ σ' H', N σ' H' → ∃ m', m' < m ∧ W (i + 1) m' σ' H') ∧
        ∀ v H', (IteT K a).yld i H v H' → g v σ H' fun σ2 H2 => tb { D with nx := N, ct := N, bk := D.nx } σ2 H2) := by
  refine ⟨fun i m σ H => m = xs.length - i ∧ i ≤ xs.length ∧ Pv i σ H, ⟨xs.length, rfl, Nat.zero_le _, h0⟩, ?_⟩
  rintro i m σ H ⟨rfl, hi, p⟩
  have q := hq i σ H p
  by_cases h : i < xs.length
  · refine .inr ⟨⟨xs, xs[i], q, List.getElem?_eq_getElem h⟩, Pv (i + 1), fun σ' H' p' => ⟨xs.length - (i + 1), by omega, rfl, h, p'⟩, ?_⟩
    rintro v H' ⟨T, x, rfl, hT, rfl, f⟩
    exact hs i x T σ H (f xs q) p hT
  · obtain rfl : i = xs.length := by omega
    exact .inl ⟨⟨xs, q, Nat.le_refl _⟩, hd σ H p⟩
theorem pi_tupK {X : Cx} {K : PySem.W.Frag} {tg l : Expr} {tl : TE} (hK : X.K = K) (hl : PE X l tl) : PI X tg l (iTup K tl) := by subst hK; exact pi_tup hl
end Lb

set_option Elab.async false
set_option linter.all false
set_option maxRecDepth 100000
set_option maxHeartbeats 4000000
namespace Lb
open PySem L2
/-- all but lists is kept -/
def NL (H H' : Hp) : Prop := ∀ b o, (∀ l, o ≠ HO.lst l) → H b = some o → H' b = some o
theorem NL.trans {H H1 H2 : Hp} (h : NL H H1) (k : NL H1 H2) : NL H H2 := fun b o n e => k b o n (h b o n e)
theorem NL.of {H H1 : Hp} (h : L2.Same H H1) : NL H H1 := fun b o _ e => h b o e
theorem NL.refl {H : Hp} : NL H H := fun _ _ _ e => e
theorem NL.mov {p : Addr} {H H1 : Hp} (m : Mov p H H1) (hp : PotAt H p) : NL H H1 := fun b o n e => m.keep b o (fun z => by
  obtain ⟨x, y, q, _⟩ := hp
  rw [z, q] at e
  exact n _ (Option.some.inj e).symm) e
theorem NL.upd {H : Hp} {l : Addr} {ys : List V} {o : HO} (h : H l = some (.lst ys)) : NL H (L2.upd H l o) := fun b u n e => by
  have : b ≠ l := fun z => by
    rw [z, h] at e
    exact n _ (Option.some.inj e).symm
  rw [upd_ne this]
  exact e
theorem Mov.updl {p l : Addr} {H H' : Hp} {o : HO} (m : Mov p H H') (h : H l = none) (n : l ≠ p) : Mov p H (L2.upd H' l o) := by
  refine ⟨fun b u nb e => ?_, ?_⟩
  · rw [upd_ne (ne_of_none e h)]
    exact m.keep b u nb e
  · obtain ⟨x, y, q, z⟩ := m.pot
    exact ⟨x, y, by rw [upd_ne (Ne.symm n)]; exact q, z⟩
theorem Same.free {H H' : Hp} {b : Addr} (s : L2.Same H H') (h : H' b = none) : H b = none := by
  cases z : H b with
  | none => rfl
  | some o =>
    rw [s b o z] at h
    cases h
theorem Fr.nl {p : Addr} {H H' : Hp} {t b : Int} (h : Fr H p t b) (s : NL H H') : Fr H' p t b := s _ _ (fun _ z => nomatch z) h
theorem eqv2 (x y : Int) : PyData.eqv (.list [.int x, .int y]) (.list [.int 0, .int 0]) = (decide (x = 0) && decide (y = 0)) := by
  simp only [PyData.eqv, PyData.eqvAll, Bool.and_true]
  rfl
end Lb

set_option Elab.async false
set_option linter.all false
set_option maxRecDepth 100000
set_option maxHeartbeats 4000000
/-! == of lists and tuples whose items have an own ==: either answer -/
namespace LbE
open PySem PySem.SeqAt
open AutoSeq1 (wpAny_loadPart')
open MeetsSeq MeetsSeq2 MeetsSeq3 SeqRoads2
open GQ (FinOf call_here)
section
variable {prog : Program} {w : World} {A : Around} {R : Result → Shared → Prop}
/-- at each moment the two lists are read anew: N items each; how the i-th two compare -/
def ListB (prog : Program) (w : World) (A : Around) (E : Value → Shared → Prop) (l b : Addr) (N : Nat) (e : Nat → Bool) (I : Shared → Prop) : Prop :=
  ∀ s, I s → ∃ (items items2 : Array Value) (n n2 : Nat), s.heap.get? l = some { cls := .type "list", data := .seq items n } ∧ s.heap.get? b = some { cls := .type "list", data := .seq items2 n2 } ∧ items.size = N ∧ items2.size = N ∧
    ∀ (i : Nat) (h1 : i < items.size) (h2 : i < items2.size), wpAny (model prog w) A.in1 (eqBool items[i] items2[i]) (fun r s' => r = e i ∧ I s') E s
theorem eq_loopB (l b : Addr) (N : Nat) (e : Nat → Bool) (I : Shared → Prop) (hl : ListB prog w A (fun e s' => R (.error e) s') l b N e I) (k : Nat) :
    ∀ i : Nat, N - i = k → i ≤ N → (∀ s, I s → R (.ok (.ret (.bool (((List.range N).drop i).all e)))) s) → ∀ s, I s →
      wpAny (model prog w) A.in1 (Builtin.«list.__eq__.loop» ⟨[.ref l, .ref b, rawInt i, rawInt 2], []⟩) (FinOf prog w A R) (fun e s' => R (.error e) s') s := by
  induction k with
  | zero =>
    intro i hk hi fin s h
    obtain ⟨items, items2, n, n2, hl1, hb1, hs1, hs2, _⟩ := hl _ h
    have hi' : i = N := by omega
    have hd : (List.range N).drop i = [] := by simp; omega
    have hR := fin s h
    rw [hd] at hR
    obtain ⟨hp, g, d, tk, os⟩ := s
    wp_walk using wpAny_loadPart' hl1, wpAny_loadPart' hb1
    have hi1 : items[((i : Nat) : Int).toNat]? = none := by simp; omega
    have hi2 : items2[((i : Nat) : Int).toNat]? = none := by simp; omega
    rw [hi1, hi2]
    wp_walk using wpAny_loadPart' hl1, wpAny_loadPart' hb1
    show R (.ok (.ret (.bool (items.size == items2.size)))) _
    rw [hs1, hs2]
    simpa using hR
  | succ k ih =>
    intro i hk hi fin s h
    obtain ⟨items, items2, n, n2, hl1, hb1, hs1, hs2, turn⟩ := hl _ h
    have hlt : i < items.size := by omega
    have hlt2 : i < items2.size := by omega
    have ht := turn i hlt hlt2
    have hd : (List.range N).drop i = i :: (List.range N).drop (i + 1) := by
      rw [List.drop_eq_getElem_cons (by rw [List.length_range]; omega)]
      simp
    rw [hd] at fin
    obtain ⟨hp, g, d, tk, os⟩ := s
    wp_walk using wpAny_loadPart' hl1, wpAny_loadPart' hb1
    have hi1 : items[((i : Nat) : Int).toNat]? = some items[i] := by simp [hlt]
    have hi2 : items2[((i : Nat) : Int).toNat]? = some items2[i] := by simp [hlt2]
    have hc : ((i : Int) + 1) = ((i + 1 : Nat) : Int) := by omega
    rw [hi1, hi2]
    refine wpAny_bind (wpAny_mono ht (fun r s2 h2 => ?_) fun _ _ x => x)
    obtain ⟨hr, h2⟩ := h2
    subst hr
    cases hb' : e i with
    | true =>
      have hrec := ih (i + 1) (by omega) (by omega) (fun s hs => by
        have := fin s hs
        rw [List.all_cons, hb'] at this
        simpa using this) s2 h2
      obtain ⟨hp2, g2, d2, tk2, os2⟩ := s2
      wp_walk
      rw [hc]
      exact ⟨plainId_quiet plain_eq_loop _, codeAny_builtin entry_eq_loop (by
        rw [Around.under_plainId plain_eq_loop _]
        exact hrec)⟩
    | false =>
      have hR := fin s2 h2
      rw [List.all_cons, hb'] at hR
      obtain ⟨items3, items4, n3, n4, hl3, hb3, hs3, hs4, _⟩ := hl _ h2
      obtain ⟨hp2, g2, d2, tk2, os2⟩ := s2
      wp_walk using wpAny_loadPart' hl3, wpAny_loadPart' hb3
      have hi3 : items3[((i : Nat) : Int).toNat]? = some (items3[i]'(by omega)) := by simp [show i < items3.size by omega]
      have hi4 : items4[((i : Nat) : Int).toNat]? = some (items4[i]'(by omega)) := by simp [show i < items4.size by omega]
      rw [hi3, hi4]
      wp_walk
      simpa using hR
theorem list_eqB (l b : Addr) (N : Nat) (e : Nat → Bool) (I : Shared → Prop) (hl : ListB prog w A (fun e s' => R (.error e) s') l b N e I)
    (fin : ∀ s, I s → R (.ok (.ret (.bool ((List.range N).all e)))) s) {s : Shared} (h : I s) :
    wpAny (model prog w) A.in1 (Builtin.«list.__eq__» ⟨[.ref l, .ref b], []⟩) (FinOf prog w A R) (fun e s' => R (.error e) s') s := by
  obtain ⟨items, items2, n, n2, hl1, hb1, hs1, hs2, _⟩ := hl _ h
  have hrec := eq_loopB (A := A) (R := R) l b N e I hl _ 0 rfl (Nat.zero_le _) (by simpa using fin) s h
  obtain ⟨hp, g, d, tk, os⟩ := s
  have f3 := AutoSeq1.sub_list_list
  have hne : ¬ (items.size != items2.size) = true := by simp [hs1, hs2]
  wp_walk using wpAny_loadPart' hl1, wpAny_loadPart' hb1
  exact ⟨plainId_quiet plain_eq_loop _, codeAny_builtin entry_eq_loop (by
    rw [Around.under_plainId plain_eq_loop _]
    exact hrec)⟩
theorem list_neB (l b : Addr) {items items2 : Array Value} {n n2 : Nat} {s : Shared} (hl1 : s.heap.get? l = some { cls := .type "list", data := .seq items n }) (hb1 : s.heap.get? b = some { cls := .type "list", data := .seq items2 n2 }) (hs : items.size ≠ items2.size)
    (fin : R (.ok (.ret (.bool false))) s) :
    wpAny (model prog w) A.in1 (Builtin.«list.__eq__» ⟨[.ref l, .ref b], []⟩) (FinOf prog w A R) (fun e s' => R (.error e) s') s := by
  obtain ⟨hp, g, d, tk, os⟩ := s
  have f3 := AutoSeq1.sub_list_list
  have hne : (items.size != items2.size) = true := by simp [hs]
  wp_walk using wpAny_loadPart' hl1, wpAny_loadPart' hb1
  exact fin
theorem tuple_eqB (l b : Addr) (items items2 : Array Value) (n n2 : Nat) (dd dd2 : Option Addr) (sl sl2 : Array (Option Value)) (hsz : items.size = items2.size) (e : Nat → Bool) (I : Shared → Prop)
    (turn : ∀ i (h1 : i < items.size) (h2 : i < items2.size) s, I s → wpAny (model prog w) A.in1 (eqBool items[i] items2[i]) (fun r s' => r = e i ∧ I s') (fun e s' => R (.error e) s') s)
    (fin : ∀ s, I s → R (.ok (.ret (.bool ((List.range items.size).all e)))) s) {s : Shared} (hl1 : s.heap.get? l = some { cls := .type "tuple", dict := dd, data := .seq items n, slots := sl }) (hb1 : s.heap.get? b = some { cls := .type "tuple", dict := dd2, data := .seq items2 n2, slots := sl2 }) (h : I s) :
    wpAny (model prog w) A.in1 (Builtin.«tuple.__eq__» ⟨[.ref l, .ref b], []⟩) (FinOf prog w A R) (fun e s' => R (.error e) s') s := by
  have f2 := AutoSeq1.sub_tuple_tuple
  have hZ : (items.toList.zip items2.toList).length = items.size := by simp [hsz]
  have h0 := h
  obtain ⟨hp, g, d, tk, os⟩ := s
  wp_walk using wpAny_loadPart' hl1, wpAny_loadPart' hb1, wpAny_forIn_list _ (fun rest b s' => I s' ∧ ∃ i, i ≤ items.size ∧ ((b.1 = none ∧ rest = (items.toList.zip items2.toList).drop i ∧ ((List.range items.size).take i).all e = true))) _
  case turn =>
    rintro ⟨y, x⟩ rest b s' ⟨hI, i, hi, hb', hz, hall⟩
    have hlt : i < (items.toList.zip items2.toList).length := by
      rcases Nat.lt_or_ge i (items.toList.zip items2.toList).length with h' | h'
      · exact h'
      · rw [List.drop_of_length_le h'] at hz; cases hz
    have h1 : i < items.size := hZ ▸ hlt
    have h2 : i < items2.size := hsz ▸ h1
    rw [List.drop_eq_getElem_cons hlt] at hz
    injection hz with hyx hrest
    have hy : y = items[i] := by have := congrArg Prod.fst hyx; simpa using this
    have hx : x = items2[i] := by have := congrArg Prod.snd hyx; simpa using this
    subst hy hx
    refine wpAny_bind (wpAny_mono (turn i h1 h2 s' hI) (fun r s2 q2 => ?_) fun _ _ x => x)
    obtain ⟨hr, q2⟩ := q2
    subst hr
    cases he : e i with
    | true =>
      wp_walk
      refine ⟨q2, i + 1, h1, rfl, hrest, ?_⟩
      rw [List.take_succ, List.all_append, hall, List.getElem?_range h1]
      simp [he]
    | false =>
      have hR : R (.ok (.ret (.bool false))) s2 := by
        have := fin s2 q2
        have e1 : (List.range items.size).all e = false := List.all_eq_false.mpr ⟨i, List.mem_range.mpr h1, by simp [he]⟩
        rw [e1] at this
        exact this
      wp_walk
      exact hR
  case fin =>
    rintro ⟨b1, b2⟩ s' ⟨hI, i, hi, hb', hz, hall⟩
    simp only at hb'
    subst hb'
    have hge : items.size ≤ i := by
      rcases Nat.lt_or_ge i (items.toList.zip items2.toList).length with h' | h'
      · rw [List.drop_eq_getElem_cons h'] at hz; cases hz
      · exact hZ ▸ h'
    have hi' : i = items.size := by omega
    have e1 : (List.range items.size).all e = true := by
      rw [hi', List.take_of_length_le (by simp)] at hall
      exact hall
    have hR : R (.ok (.ret (.bool true))) s' := by
      have := fin s' hI
      rw [e1] at this
      exact this
    wp_walk
    simpa [Builtin.Tuple.tupleCompareSizes, hsz] using hR
  case h =>
    exact ⟨h0, 0, Nat.zero_le _, rfl, rfl, rfl⟩
end
section
variable {prog : Program} {w : World} {A : Around} {E : Value → Shared → Prop} {s : Shared}
theorem rc_listB {l b : Addr} {N : Nat} {e : Nat → Bool} {Q : Value → Shared → Prop} (hu : A.units < cLine) (I : Shared → Prop) (hl : ListB prog w A E l b N e I)
    (fin : ∀ s, I s → Q (.bool ((List.range N).all e)) s) (h : I s) : wpAny (model prog w) A (richCompare .Eq (.ref l) (.ref b)) Q E s := by
  obtain ⟨items, items2, n, n2, hl1, hb1, _, _, _⟩ := hl _ h
  refine wpAny_richCompare_same_room (op := .Eq) ⟨_, hl1, rfl⟩ ⟨_, hb1, rfl⟩ F.slot_list_eq (call_here F.slot_list_eq ⟨_, hl1, rfl⟩ F.entry_list_eq (F.args_list_eq_2 _ _) ?_) hu
  exact list_eqB (R := wants (fun v s' => v ≠ .notImplemented ∧ Q v s') E) l b N e I hl (fun s' q => ⟨(fun x => nomatch x), fin s' q⟩) h
theorem rc_listN {l b : Addr} {items items2 : Array Value} {n n2 : Nat} {Q : Value → Shared → Prop} (hu : A.units < cLine) (hl1 : s.heap.get? l = some { cls := .type "list", data := .seq items n }) (hb1 : s.heap.get? b = some { cls := .type "list", data := .seq items2 n2 }) (hs : items.size ≠ items2.size)
    (fin : Q (.bool false) s) : wpAny (model prog w) A (richCompare .Eq (.ref l) (.ref b)) Q E s := by
  refine wpAny_richCompare_same_room (op := .Eq) ⟨_, hl1, rfl⟩ ⟨_, hb1, rfl⟩ F.slot_list_eq (call_here F.slot_list_eq ⟨_, hl1, rfl⟩ F.entry_list_eq (F.args_list_eq_2 _ _) ?_) hu
  exact list_neB (R := wants (fun v s' => v ≠ .notImplemented ∧ Q v s') E) l b hl1 hb1 hs ⟨(fun x => nomatch x), fin⟩
theorem rc_tupB {l b : Addr} {items items2 : Array Value} {Q : Value → Shared → Prop} {e : Nat → Bool} (hsz : items.size = items2.size) (hu : A.units < cLine) (I : Shared → Prop)
    (hl : s.heap.IsTuple l items) (hb : s.heap.IsTuple b items2)
    (turn : ∀ i (h1 : i < items.size) (h2 : i < items2.size) s, I s → wpAny (model prog w) A.in1 (eqBool items[i] items2[i]) (fun r s' => r = e i ∧ I s') E s)
    (fin : ∀ s, I s → Q (.bool ((List.range items.size).all e)) s) (h : I s) : wpAny (model prog w) A (richCompare .Eq (.ref l) (.ref b)) Q E s := by
  obtain ⟨⟨cls, dd, data, sl⟩, ho, hc, n, hd⟩ := id hl
  obtain ⟨⟨cls2, dd2, data2, sl2⟩, ho2, hc2, n2, hd2⟩ := id hb
  simp only at hc hd hc2 hd2
  subst hc hd hc2 hd2
  refine wpAny_richCompare_same_room (op := .Eq) ⟨_, ho, rfl⟩ ⟨_, ho2, rfl⟩ F.slot_tuple_eq (call_here F.slot_tuple_eq ⟨_, ho, rfl⟩ F.entry_tuple_eq (F.args_tuple_eq_2 _ _) ?_) hu
  exact tuple_eqB (R := wants (fun v s' => v ≠ .notImplemented ∧ Q v s') E) l b items items2 n n2 dd dd2 sl sl2 hsz e I turn (fun s' q => ⟨(fun x => nomatch x), fin s' q⟩) ho ho2 h
end
end LbE
namespace Lb
open PySem PySem.Spec PyProof.Rows L2
/-- how two values compare, by the abstract heap -/
abbrev EqvB := V → V → Hp → Bool → Prop
def MonB (D : EqvB) : Prop := ∀ x y H H' c, Ext H H' → D x y H c → D x y H' c
def EqGB (X : Cx) (n : Nat) (D : EqvB) : Prop :=
  ∀ (A : Around) (pins : List (Addr × Obj)) (s : Shared) (σ : L2.St) (H : Hp) (x y : V) (u v : Value) (c : Bool), L2.Sub X n A → Inv X pins σ H s → RelV x u → RelV y v → D x y H c →
    wpAny (model X.prog X.w) A (eqBool u v) (fun r s' => r = c ∧ ∃ H', Inv X pins σ H' s' ∧ Ext H H') X.xe s
def RcGB (X : Cx) (n : Nat) (D : EqvB) : Prop :=
  ∀ (A : Around) (pins : List (Addr × Obj)) (s : Shared) (σ : L2.St) (H : Hp) (x y : V) (u v : Value) (c : Bool), L2.Sub X n A → Inv X pins σ H s → RelV x u → RelV y v → D x y H c →
    wpAny (model X.prog X.w) A (richCompare .Eq u v) (fun r s' => r = .bool c ∧ ∃ H', Inv X pins σ H' s' ∧ Ext H H') X.xe s
section
variable {X : Cx} {n m : Nat} {D D' : EqvB}
theorem EqGB.mono (h : EqGB X n D) (hn : n ≤ m) : EqGB X m D := fun A pins s σ H x y u v c sb => h A pins s σ H x y u v c (sb.mono hn)
theorem EqGB.or (h : EqGB X n D) (h' : EqGB X n D') : EqGB X n (fun x y H c => D x y H c ∨ D' x y H c) := fun A pins s σ H x y u v c sb I rx ry d => by
  rcases d with d | d
  · exact h A pins s σ H x y u v c sb I rx ry d
  · exact h' A pins s σ H x y u v c sb I rx ry d
theorem MonB.or (h : MonB D) (h' : MonB D') : MonB (fun x y H c => D x y H c ∨ D' x y H c) := fun x y H H' c e d => d.elim (fun d => .inl (h x y H H' c e d)) fun d => .inr (h' x y H H' c e d)
/-- item by item -/
structure PrsB (D : EqvB) (xs ys : List V) (H : Hp) (e : Nat → Bool) : Prop where
  len : xs.length = ys.length
  at_ : ∀ (i : Nat) x y, xs[i]? = some x → ys[i]? = some y → D x y H (e i)
theorem PrsB.mon (hD : MonB D) {xs ys : List V} {H H' : Hp} {c : Nat → Bool} (e : Ext H H') (p : PrsB D xs ys H c) : PrsB D xs ys H' c := ⟨p.len, fun i x y h1 h2 => hD x y H H' _ e (p.at_ i x y h1 h2)⟩
theorem turnB (hD : MonB D) (h : EqGB X n D) {A : Around} (sb : L2.Sub X (n + 1) A) {pins : List (Addr × Obj)} {σ : L2.St} {H : Hp} {xs ys : List V} {its its2 : List Value} {e : Nat → Bool} (p : PrsB D xs ys H e) (r : Vals xs its) (r2 : Vals ys its2)
    (i : Nat) (h1 : i < its.toArray.size) (h2 : i < its2.toArray.size) (s' : Shared) (l : LoopI X pins σ H s') :
    wpAny (model X.prog X.w) A.in1 (eqBool its.toArray[i] its2.toArray[i]) (fun r s2 => r = e i ∧ LoopI X pins σ H s2) X.xe s' := by
  obtain ⟨H1, I1, e1⟩ := l
  have g1 : its[i]? = some its.toArray[i] := by
    have h1' : i < its.length := by simpa using h1
    rw [List.getElem?_eq_getElem h1'] <;> simp
  have g2 : its2[i]? = some its2.toArray[i] := by
    have h2' : i < its2.length := by simpa using h2
    rw [List.getElem?_eq_getElem h2'] <;> simp
  have k1 : i < xs.length := by rw [r.length]; simpa using h1
  have k2 : i < ys.length := by rw [r2.length]; simpa using h2
  obtain ⟨u, hu, ru⟩ := r.get (List.getElem?_eq_getElem k1)
  obtain ⟨v, hv, rv⟩ := r2.get (List.getElem?_eq_getElem k2)
  rw [g1] at hu
  rw [g2] at hv
  rw [Option.some.inj hu, Option.some.inj hv]
  refine wpAny_mono (h A.in1 pins s' σ H1 _ _ u v _ sb.in1 I1 ru rv (hD _ _ _ _ _ e1 (p.at_ i _ _ (List.getElem?_eq_getElem k1) (List.getElem?_eq_getElem k2)))) (fun r s2 q => ?_) fun _ _ x => x
  obtain ⟨hr, H2, I2, e2⟩ := q
  exact ⟨hr, H2, I2, e1.trans e2⟩
def DListB (D : EqvB) : EqvB := fun x y H c => ∃ a b xs ys, x = .ref a ∧ y = .ref b ∧ H a = some (.lst xs) ∧ H b = some (.lst ys) ∧ ((xs.length ≠ ys.length ∧ c = false) ∨ ∃ e, PrsB D xs ys H e ∧ c = (List.range xs.length).all e)
def DTupB (K : PySem.W.Frag) (D : EqvB) : EqvB := fun x y H c => ∃ a b xs ys e, x = .ref a ∧ y = .ref b ∧ SqT K H a xs ∧ SqT K H b ys ∧ PrsB D xs ys H e ∧ c = (List.range xs.length).all e
theorem mon_listB (hD : MonB D) : MonB (DListB D) := fun x y H H' c e d => by
  obtain ⟨a, b, xs, ys, hx, hy, h1, h2, p⟩ := d
  exact ⟨a, b, xs, ys, hx, hy, e _ _ h1, e _ _ h2, p.imp id fun ⟨f, p, q⟩ => ⟨f, p.mon hD e, q⟩⟩
theorem mon_tupB {K : PySem.W.Frag} (hD : MonB D) : MonB (DTupB K D) := fun x y H H' c e d => by
  obtain ⟨a, b, xs, ys, f, hx, hy, h1, h2, p, q⟩ := d
  exact ⟨a, b, xs, ys, f, hx, hy, L2.SqT.ext h1 e, L2.SqT.ext h2 e, p.mon hD e, q⟩
theorem rcGB_list (hD : MonB D) (h : EqGB X n D) : RcGB X (n + 1) (DListB D) := by
  intro A pins s σ H x y u v c sb I rx ry d
  obtain ⟨a, b, xs, ys, rfl, rfl, ha, hb, p⟩ := d
  cases rx
  cases ry
  rcases p with ⟨hne, rfl⟩ | ⟨f, p, rfl⟩
  · obtain ⟨z, its, k, r, e⟩ := I.hok a _ ha
    obtain ⟨z2, its2, k2, r2, e2⟩ := I.hok b _ hb
    refine LbE.rc_listN sb.room.units0 e e2 ?_ ⟨rfl, H, I, Ext.rfl'⟩
    rw [List.size_toArray, List.size_toArray, ← r.length, ← r2.length]
    exact hne
  · refine LbE.rc_listB (N := xs.length) (e := f) sb.room.units0 (fun s' => LoopI X pins σ H s') (fun s' q => ?_) (fun s' q => ⟨rfl, q⟩) ⟨H, I, Ext.rfl'⟩
    obtain ⟨H1, I1, e1⟩ := id q
    obtain ⟨z, its, k, r, e⟩ := I1.hok a _ (e1 _ _ ha)
    obtain ⟨z2, its2, k2, r2, e2⟩ := I1.hok b _ (e1 _ _ hb)
    refine ⟨its.toArray, its2.toArray, k, k2, e, e2, by rw [List.size_toArray, ← r.length], by rw [List.size_toArray, ← r2.length, ← p.len], fun i h1 h2 => ?_⟩
    exact turnB hD h sb p r r2 i h1 h2 s' q
theorem rcGB_tup (hD : MonB D) (h : EqGB X n D) : RcGB X (n + 1) (DTupB X.K D) := by
  intro A pins s σ H x y u v c sb I rx ry d
  obtain ⟨a, b, xs, ys, f, rfl, rfl, ha, hb, p, rfl⟩ := d
  cases rx
  cases ry
  obtain ⟨its, r, e, z⟩ := I.tuple ha
  obtain ⟨its2, r2, e2, z2⟩ := I.tuple hb
  have hsz : its.toArray.size = its2.toArray.size := by rw [List.size_toArray, List.size_toArray, ← r.length, ← r2.length]; exact p.len
  refine LbE.rc_tupB (e := f) hsz sb.room.units0 (fun s' => LoopI X pins σ H s') e e2 (fun i h1 h2 s' q => turnB hD h sb p r r2 i h1 h2 s' q) (fun s' q => ?_) ⟨H, I, Ext.rfl'⟩
  rw [List.size_toArray, ← r.length]
  exact ⟨rfl, q⟩
/-- from a rich comparison of references to == inside a list or tuple: the same object is equal to itself -/
theorem RcGB.eqG (h : RcGB X n D) (hr : ∀ x y H c, D x y H c → ∃ a b, x = .ref a ∧ y = .ref b ∧ (a = b → c = true)) : EqGB X n D := by
  intro A pins s σ H x y u v c sb I rx ry d
  obtain ⟨a, b, rfl, rfl, hs⟩ := hr _ _ _ _ d
  cases rx
  cases ry
  by_cases hab : a = b
  · obtain rfl := hs hab
    subst hab
    exact SeqAt.EqAt.same (A := A) (s := s) (.ref a) X.prog X.w X.xe _ ⟨rfl, H, I, Ext.rfl'⟩
  · refine GQ.eqBool_refG hab (wpAny_mono (h A pins s σ H (.ref a) (.ref b) _ _ c sb I rfl rfl d) (fun r s' q => ?_) fun _ _ x => x)
    obtain ⟨hr', q⟩ := q
    exact ⟨c, hr', rfl, q⟩
/-- instances of the class at C with the text's own == -/
def DInsB (C : Addr) (R : Addr → Addr → Hp → Bool → Prop) : EqvB := fun x y H c => ∃ a b dx dy fs gs, x = .ref a ∧ y = .ref b ∧ H a = some (.ins C dx fs) ∧ H b = some (.ins C dy gs) ∧ R a b H c
theorem mon_insB {C : Addr} {R : Addr → Addr → Hp → Bool → Prop} (hR : ∀ a b H H' c, Ext H H' → R a b H c → R a b H' c) : MonB (DInsB C R) := fun x y H H' c e d => by
  obtain ⟨a, b, dx, dy, fs, gs, hx, hy, h1, h2, r⟩ := d
  exact ⟨a, b, dx, dy, fs, gs, hx, hy, e _ _ h1, e _ _ h2, hR a b H H' c e r⟩
theorem rcGB_ins {CX : CXT} {C f : Addr} {fd : FuncData} {ps : List Str} {sp : Sp} {R : Addr → Addr → Hp → Bool → Prop} {E : XK} (F : FnOk X.prog X.w X.K X.mg X.base CX n f fd ps sp)
    (hR : ∀ a b H c, R a b H c → ∀ Q : VK, (∀ H', Ext H H' → Q (.bl c) H') → sp [.ref a, .ref b] H Q E)
    (hs : PySem.W.findIn X.K (.ref C) "__eq__" = some (some (.ref f))) (hf : PySem.W.isFn X.K (.ref f) = true) (hb : Binds X.K fd ps []) (hx : Passes CX X E) : RcGB X n (DInsB C R) := by
  intro A pins s σ H x y u v c sb I rx ry d
  obtain ⟨a, b, dx, dy, fs, gs, rfl, rfl, ha, hb', hr⟩ := d
  cases rx
  cases ry
  obtain ⟨mA, J, _⟩ := ins_get I.hok ha
  obtain ⟨mB, J', _⟩ := ins_get I.hok hb'
  obtain ⟨od, J, _⟩ := J.look
  obtain ⟨od', J', _⟩ := J'.look
  obtain ⟨m, hF⟩ := I.fr
  refine PySem.W.cmp_K (op := .Eq) (tb := .ref C) sb.room.units0 hF I.ok.mod.kin J J'.type (by simp [PySem.W.notFirst]) hs hf ?_
  have hsp := hR a b H c hr (fun v H' => v = .bl c ∧ Ext H H') fun H' e => ⟨rfl, e⟩
  have e0 : Env0 X.prog X.w X.K X.mg X.base A X.stack s H := by
    have e := I.env0
    exact ⟨by rw [sb.fr]; exact e.frames, e.mod, e.bs, e.bsz, e.funs, e.frf, e.hok, e.bare⟩
  have hl := F.len _ _ _ _ hsp
  have r2 : Vals [V.ref a, V.ref b] [Value.ref a, Value.ref b] := .cons rfl (.cons rfl .nil)
  refine wpAny_call (codeAny_mono (F.run A X.stack s H ⟨[.ref a, .ref b], []⟩ [.ref a, .ref b] [.ref a, .ref b] _ E sb.room e0 (by
    have := hb s [.ref a, .ref b] I.kIn (by simpa using hl)
    simpa using this) r2 hsp) fun r s' hq => ?_)
  cases r with
  | error e => exact hx pins σ H s e s' I hq
  | ok fl =>
    cases fl with
    | ret w =>
      obtain ⟨z, H', I', rz, ez, ex⟩ := I.after hq
      subst ez
      cases rz
      exact ⟨rfl, H', I', ex⟩
    | next => exact False.elim hq
    | brk => exact False.elim hq
    | cont => exact False.elim hq
/-- x == y as an expression -/
def rEqGB (D : EqvB) : R2 := fun x y H Q => ∃ c, D x y H c ∧ ∀ H', Ext H H' → Q (.bl c) H'
theorem op_eqGB (h : RcGB X n D) (hr : Room n X.A) : OpR X (compareOp .Eq) (rEqGB D) := by
  intro pins s σ H x y v u Q I rx ry hq
  obtain ⟨c, d, q⟩ := hq
  show wpAny (model X.prog X.w) X.A (richCompare .Eq v u) (EP X pins σ Q) X.xe s
  refine wpAny_mono (h X.A pins s σ H x y v u c ⟨hr, rfl⟩ I rx ry d) (fun r s' z => ?_) fun _ _ x => x
  obtain ⟨hr', H', I', e⟩ := z
  subst hr'
  exact ⟨.bl c, H', I', rfl, q H' e⟩
end
end Lb

set_option Elab.async false
set_option linter.all false
set_option maxRecDepth 100000
set_option maxHeartbeats 4000000
/-! list(zip(a, b)): a, b two tuples or two lists -/
namespace LbZ
open PySem PyProof.Rows

section
variable {prog : Program} {w : World} {A : Around} {E : Value → Shared → Prop} {s : Shared}
/-- one step of a zip of tuples whose last pair is still held -/
theorem heldT_item {z TI TO T i1 i2 l1 l2 : Addr} {f : Bool} {oT : Obj} {k : Nat} {xs ys : Array Value} {x y : Value} {Q : Option Value → Shared → Prop} (D : ZipApart z TI TO i1 i2 l1 l2)
    (hz : IsZipHeld s.heap z TI TO T f) (hT : s.heap.get? T = some oT) (hTI : IsPair s.heap TI (.ref i1) (.ref i2))
    (j1 : s.heap.IsTupleIter i1 l1 k) (j2 : s.heap.IsTupleIter i2 l2 k) (t1 : s.heap.IsTuple l1 xs) (t2 : s.heap.IsTuple l2 ys) (hx : xs[k]? = some x) (hy : ys[k]? = some y)
    (go : ∀ h', IsZipHeld h' z TI TO T true → h'.IsTupleIter i1 l1 (k + 1) → h'.IsTupleIter i2 l2 (k + 1) → IsPair h' s.heap.objs.size x y →
      (∀ c o, c ≠ z → c ≠ i1 → c ≠ i2 → s.heap.get? c = some o → h'.get? c = some o) → Q (some (.ref s.heap.objs.size)) { s with heap := h' }) :
    wpAny (model prog w) A (pyNext (.ref z)) Q E s := by
  have ty : s.TypeIs (.ref z) "zip" := ⟨_, hz, rfl⟩
  unfold pyNext
  refine wpAny_bind (wpAny_attempt (wpAny_callSpecial?_slot (name := Str.ofString "__next__") ty F.slot_zip_next (wpAny_call_entry F.slot_zip_next ty F.entry_zip_next ?_ (F.args_zip_next_1 _))))
  show wpAny _ _ (field (.ref z) 2 >>= _) _ _ _
  refine wpAny_bind (wpAny_field hz rfl (x := .bool false) rfl ?_)
  show wpAny _ _ (field (.ref z) 3 >>= _) _ _ _
  refine wpAny_bind (wpAny_field hz rfl (x := .ref TI) rfl (wpAny_bind (wpAny_seqItems hTI rfl ?_)))
  show wpAny _ _ (Builtin.SmallTypes.ownedTupleIsFree (.ref z) >>= _) _ _ _
  refine wpAny_bind (wpAny_tupleHeld_zip hz hT fun ha za sa => ?_)
  simp only [Bool.false_eq_true, if_false]
  refine wpAny_bind ?_
  rw [← Array.forIn_toList]
  simp only [List.forIn_cons, List.forIn_nil]
  refine wpAny_bind (wpAny_bind (wpAny_holding ?_))
  show wpAny _ _ (Builtin.SmallTypes.nextOf (.ref i1) >>= _) _ _ _
  refine wpAny_bind (RZ.nextOf_tuple_item (s := { s with heap := ha }) (j1.extBut sa.extBut D.i1z) (t1.extBut sa.extBut D.l1z) hx fun hb j1b sb => wpAny_pure (wpAny_pure ?_))
  refine wpAny_bind (wpAny_bind (wpAny_holding ?_))
  show wpAny _ _ (Builtin.SmallTypes.nextOf (.ref i2) >>= _) _ _ _
  refine wpAny_bind (RZ.nextOf_tuple_item (s := { s with heap := hb }) ((j2.extBut sa.extBut D.i2z).extBut sb.extBut D.i12.symm) ((t2.extBut sa.extBut D.l2z).extBut sb.extBut D.l2i1) hy fun hc j2c sc => wpAny_pure (wpAny_pure (wpAny_pure ?_)))
  show wpAny _ _ (newTuple [x, y] >>= _) _ _ _
  refine wpAny_bind (wpAny_newTuple (wpAny_pure ⟨_, rfl, wpAny_pure ?_⟩))
  have sz : hc.objs.size = s.heap.objs.size := by rw [sc.1, sb.1, sa.1]
  have zc : IsZipHeld hc z TI TO T true := sc.extBut _ _ D.i2z.symm (sb.extBut _ _ D.i1z.symm za)
  have j1c : hc.IsTupleIter i1 l1 (k + 1) := j1b.extBut sc.extBut D.i12
  have pr : IsPair (hc.push { cls := .type "tuple", data := .seq #[x, y] }) hc.objs.size x y := Heap.get?_push_size _ rfl
  show Q (some (.ref hc.objs.size)) _
  rw [sz] at pr ⊢
  exact go _ (Heap.get?_push_of_some _ zc) (j1c.at fun o e => Heap.get?_push_of_some _ e) (j2c.at fun o e => Heap.get?_push_of_some _ e) pr
    fun c o n1 n2 n3 e => Heap.get?_push_of_some _ (sc.extBut _ _ n3 (sb.extBut _ _ n2 (sa.extBut _ _ n1 e)))
theorem heldT_end {z TI TO T i1 i2 l1 l2 : Addr} {f : Bool} {oT : Obj} {k : Nat} {xs ys : Array Value} {Q : Option Value → Shared → Prop} (hh : A.handled = none) (D : ZipApart z TI TO i1 i2 l1 l2)
    (hz : IsZipHeld s.heap z TI TO T f) (hT : s.heap.get? T = some oT) (hTI : IsPair s.heap TI (.ref i1) (.ref i2))
    (j1 : s.heap.IsTupleIter i1 l1 k) (j2 : s.heap.IsTupleIter i2 l2 k) (t1 : s.heap.IsTuple l1 xs) (t2 : s.heap.IsTuple l2 ys) (over : xs[k]? = none ∨ ys[k]? = none)
    (go : ∀ h', (∀ c o, c ≠ z → c ≠ i1 → c ≠ i2 → s.heap.get? c = some o → h'.get? c = some o) → Q none { s with heap := h' }) : wpAny (model prog w) A (pyNext (.ref z)) Q E s := by
  have ty : s.TypeIs (.ref z) "zip" := ⟨_, hz, rfl⟩
  have out : ∀ h' e, (∀ c o, c ≠ z → c ≠ i1 → c ≠ i2 → s.heap.get? c = some o → h'.get? c = some o) → (∃ o, h'.get? e = some o ∧ o.cls = .type "StopIteration") →
      wpAny (model prog w) A (do if ← isInstance (.ref e) (.type "StopIteration") then pure (none : Option Value) else throw (.ref e)) Q E { s with heap := h' } := fun h' e hk ⟨o, ho, hc⟩ =>
    wpAny_bind (wpAny_isInstance (T := "StopIteration") (b := true) ⟨o, ho, hc⟩ isSubtype_stop (wpAny_pure (go _ hk)))
  unfold pyNext
  refine wpAny_bind (wpAny_attempt (wpAny_callSpecial?_slot (name := Str.ofString "__next__") ty F.slot_zip_next (wpAny_call_entry F.slot_zip_next ty F.entry_zip_next ?_ (F.args_zip_next_1 _))))
  show wpAny _ _ (field (.ref z) 2 >>= _) _ _ _
  refine wpAny_bind (wpAny_field hz rfl (x := .bool false) rfl ?_)
  show wpAny _ _ (field (.ref z) 3 >>= _) _ _ _
  refine wpAny_bind (wpAny_field hz rfl (x := .ref TI) rfl (wpAny_bind (wpAny_seqItems hTI rfl ?_)))
  show wpAny _ _ (Builtin.SmallTypes.ownedTupleIsFree (.ref z) >>= _) _ _ _
  refine wpAny_bind (wpAny_tupleHeld_zip hz hT fun ha za sa => ?_)
  simp only [Bool.false_eq_true, if_false]
  refine wpAny_bind ?_
  rw [← Array.forIn_toList]
  simp only [List.forIn_cons, List.forIn_nil]
  refine wpAny_bind (wpAny_bind (wpAny_holding ?_))
  show wpAny _ _ (Builtin.SmallTypes.nextOf (.ref i1) >>= _) _ _ _
  cases hx : xs[k]? with
  | none =>
    refine wpAny_bind (RZ.nextOf_tuple_end (s := { s with heap := ha }) hh (j1.extBut sa.extBut D.i1z) (t1.extBut sa.extBut D.l1z) hx fun hb e sb he => ?_)
    exact out hb e (fun c o n1 n2 _ q => sb _ _ n2 (sa.extBut _ _ n1 q)) he
  | some x =>
    have hy : ys[k]? = none := by
      rcases over with h | h
      · rw [hx] at h; cases h
      · exact h
    refine wpAny_bind (RZ.nextOf_tuple_item (s := { s with heap := ha }) (j1.extBut sa.extBut D.i1z) (t1.extBut sa.extBut D.l1z) hx fun hb j1b sb => wpAny_pure (wpAny_pure ?_))
    refine wpAny_bind (wpAny_bind (wpAny_holding ?_))
    show wpAny _ _ (Builtin.SmallTypes.nextOf (.ref i2) >>= _) _ _ _
    refine wpAny_bind (RZ.nextOf_tuple_end (s := { s with heap := hb }) hh ((j2.extBut sa.extBut D.i2z).extBut sb.extBut D.i12.symm) ((t2.extBut sa.extBut D.l2z).extBut sb.extBut D.l2i1) hy fun hc e sc he => ?_)
    exact out hc e (fun c o n1 n2 n3 q => sc _ _ n3 (sb.extBut _ _ n2 (sa.extBut _ _ n1 q))) he
end
end LbZ
namespace LbZ
open PySem
theorem zip_no_len : typeLookup (.type "zip") "__len__" = pure none := am_miss_of_fast (by decide +kernel)
theorem zip_no_hint : typeLookup (.type "zip") "__length_hint__" = pure none := am_miss_of_fast (by decide +kernel)
end LbZ
namespace Lb
open PySem PySem.Spec PyProof.Rows L2
/-- how a zip of the tuples at a and b stands before its turn i -/
structure ZSt (H : Hp) (h : Heap) (z TI TO i1 i2 a b : Addr) (i : Nat) : Prop where
  zip : IsZip h z TI TO .none ∨ ∃ T fl ys, IsZipHeld h z TI TO T fl ∧ H T = some (.tup ys)
  ti : IsPair h TI (.ref i1) (.ref i2)
  to : ∃ x y, IsPair h TO x y
  j1 : h.IsTupleIter i1 a i
  j2 : h.IsTupleIter i2 b i
theorem ZSt.live {H : Hp} {h : Heap} {z TI TO i1 i2 a b c : Addr} {i : Nat} (st : ZSt H h z TI TO i1 i2 a b i) (hc : c ∈ [z, TI, TO, i1, i2]) : ∃ o, h.get? c = some o := by
  simp only [List.mem_cons, List.not_mem_nil, or_false] at hc
  rcases hc with rfl | rfl | rfl | rfl | rfl
  · rcases st.zip with h | ⟨_, _, _, h, _⟩
    · exact ⟨_, h⟩
    · exact ⟨_, h⟩
  · exact ⟨_, st.ti⟩
  · obtain ⟨_, _, e⟩ := st.to
    exact ⟨_, e⟩
  · obtain ⟨o, e, _⟩ := st.j1
    exact ⟨o, e⟩
  · obtain ⟨o, e, _⟩ := st.j2
    exact ⟨o, e⟩
section
variable {X : Cx} {pins : List (Addr × Obj)} {σ : L2.St} {H : Hp} {s : Shared} {z TI TO i1 i2 a b q : Addr} {i : Nat} {xs ys : List V} {A : Around} {E : Value → Shared → Prop}
theorem FpOk.other {H' : Hp} {c : Addr} (f : FpOk X pins H c) (h : H' c = none) : FpOk X pins H' c := ⟨h, f.2⟩
abbrev Chain (X : Cx) (pins : List (Addr × Obj)) (H : Hp) (z TI TO i1 i2 : Addr) : Prop := ∀ c ∈ [z, TI, TO, i1, i2], FpOk X pins H c
theorem zip_turn {x y : V} (D : ZipApart z TI TO i1 i2 a b) (I : Inv X pins σ H s) (hf : Chain X pins H z TI TO i1 i2) (st : ZSt H s.heap z TI TO i1 i2 a b i)
    (qx : SqT X.K H a xs) (qy : SqT X.K H b ys) (hx : xs[i]? = some x) (hy : ys[i]? = some y) :
    wpAny (model X.prog X.w) A (pyNext (.ref z)) (fun r s' => ∃ T, r = some (.ref T) ∧ H T = none ∧ Inv X pins σ (L2.upd H T (.tup [x, y])) s' ∧ ZSt (L2.upd H T (.tup [x, y])) s'.heap z TI TO i1 i2 a b (i + 1) ∧ Chain X pins (L2.upd H T (.tup [x, y])) z TI TO i1 i2) E s := by
  obtain ⟨its, rv, p, _⟩ := I.tuple qx
  obtain ⟨its2, rv2, p2, _⟩ := I.tuple qy
  obtain ⟨u, hu, ru⟩ := rv.get hx
  obtain ⟨u2, hu2, ru2⟩ := rv2.get hy
  have fr : H s.heap.objs.size = none := I.hok.fresh (Nat.le_refl _)
  have chain : Chain X pins (L2.upd H s.heap.objs.size (.tup [x, y])) z TI TO i1 i2 := fun c hc =>
    let ⟨o, e⟩ := st.live hc
    FpOk.other (hf c hc) (by rw [upd_ne (Nat.ne_of_lt (Heap.lt_size e))]; exact (hf c hc).1)
  have new : ∀ {h' : Heap}, IsPair h' s.heap.objs.size u u2 → ObjOk X.prog X.w (L2.upd H s.heap.objs.size (.tup [x, y])) h' s.heap.objs.size (.tup [x, y]) := fun hT =>
    ⟨by show 2 ≤ sizeLine; decide, [u, u2], .cons ru (.cons ru2 .nil), ⟨_, hT, rfl, _, rfl⟩⟩
  obtain ⟨v, w, hTO⟩ := st.to
  rcases st.zip with hz | ⟨T, fl, zs, hz, hT⟩
  · refine RZ.pyNext_zipT_item D hz st.ti hTO st.j1 st.j2 p p2 (x := u) (y := u2) (by simpa using hu) (by simpa using hu2) fun h' z' TO' k1 k2 hN _ hk => ?_
    have I1 : Inv X pins σ (L2.upd H s.heap.objs.size (.tup [x, y])) { s with heap := h' } :=
      I.turnedNew (t' := s.toks) (ch := [z, TI, TO, i1, i2]) (fun c o hb e => hk c o (fun e' => hb (by simp [e'])) (fun e' => hb (by simp [e'])) (fun e' => hb (by simp [e'])) (fun e' => hb (by simp [e'])) e) hf (Nat.le_refl _) (new hN)
    exact ⟨_, rfl, fr, I1, ⟨.inr ⟨_, false, _, z', upd_same⟩, hk _ _ D.TIz D.TITO D.TIi1 D.TIi2 st.ti, ⟨_, _, TO'⟩, k1, k2⟩, chain⟩
  · obtain ⟨_, _, _, oT, hoT, _⟩ := I.hok T _ hT
    refine LbZ.heldT_item D hz hoT st.ti st.j1 st.j2 p p2 (x := u) (y := u2) (by simpa using hu) (by simpa using hu2) fun h' z' k1 k2 hN hk => ?_
    have I1 : Inv X pins σ (L2.upd H s.heap.objs.size (.tup [x, y])) { s with heap := h' } :=
      I.turnedNew (t' := s.toks) (ch := [z, TI, TO, i1, i2]) (fun c o hb e => hk c o (fun e' => hb (by simp [e'])) (fun e' => hb (by simp [e'])) (fun e' => hb (by simp [e'])) e) hf (Nat.le_refl _) (new hN)
    exact ⟨_, rfl, fr, I1, ⟨.inr ⟨T, true, zs, z', by rw [upd_ne (ne_of_none hT fr)]; exact hT⟩, hk _ _ D.TIz D.TIi1 D.TIi2 st.ti, ⟨_, _, hk _ _ D.TOz D.TOi1 D.TOi2 hTO⟩, k1, k2⟩, chain⟩
theorem zip_over (hh : A.handled = none) (D : ZipApart z TI TO i1 i2 a b) (I : Inv X pins σ H s) (hf : Chain X pins H z TI TO i1 i2) (st : ZSt H s.heap z TI TO i1 i2 a b i)
    (qx : SqT X.K H a xs) (qy : SqT X.K H b ys) (over : xs.length ≤ i ∨ ys.length ≤ i) :
    wpAny (model X.prog X.w) A (pyNext (.ref z)) (fun r s' => r = none ∧ Inv X pins σ H s') E s := by
  obtain ⟨its, rv, p, _⟩ := I.tuple qx
  obtain ⟨its2, rv2, p2, _⟩ := I.tuple qy
  have l1 := rv.length
  have l2 := rv2.length
  have he : its.toArray[i]? = none ∨ its2.toArray[i]? = none := by
    rcases over with q | q
    · exact .inl (by simp; omega)
    · exact .inr (by simp; omega)
  obtain ⟨v, w, hTO⟩ := st.to
  rcases st.zip with hz | ⟨T, fl, zs, hz, hT⟩
  · exact RZ.pyNext_zipT_end hh D hz st.ti hTO st.j1 st.j2 p p2 he fun h' hk => ⟨rfl, I.turnedL (t' := s.toks) (ch := [z, TI, TO, i1, i2]) (fun c o hb e =>
      hk c o (fun e' => hb (by simp [e'])) (fun e' => hb (by simp [e'])) (fun e' => hb (by simp [e'])) (fun e' => hb (by simp [e'])) e) hf⟩
  · obtain ⟨_, _, _, oT, hoT, _⟩ := I.hok T _ hT
    exact LbZ.heldT_end hh D hz hoT st.ti st.j1 st.j2 p p2 he fun h' hk => ⟨rfl, I.turnedL (t' := s.toks) (ch := [z, TI, TO, i1, i2]) (fun c o hb e =>
      hk c o (fun e' => hb (by simp [e'])) (fun e' => hb (by simp [e'])) (fun e' => hb (by simp [e'])) e) hf⟩
/-- a new pair -/
def PairAt (H : Hp) (T : Addr) (p : V × V) : Prop := H T = some (.tup [p.1, p.2])
theorem zip_loop {Rs : Result → Shared → Prop} {A1 : Around} {H0 : Hp} (hh : A1.in1.handled = none) (D : ZipApart z TI TO i1 i2 a b) (l1 : xs.length ≤ 10000) (qa : a ≠ q) (qb : b ≠ q)
    (hdone : ∀ H' s' ts, Inv X pins σ H' s' → H' q = some (.lst (ts.map V.ref)) → Paired (PairAt H') ts (xs.zip ys) → (∀ c o, c ≠ q → H0 c = some o → H' c = some o) → Rs (.ok (.ret .none)) s') (herr : ∀ e s, X.xe e s → Rs (.error e) s) (qx0 : SqT X.K H0 a xs) (qy0 : SqT X.K H0 b ys) :
    ∀ (m i : Nat) (H : Hp) (s : Shared) (ts : List Addr), min xs.length ys.length - i = m → i ≤ min xs.length ys.length → Inv X pins σ H s → Chain X pins H z TI TO i1 i2 → ZSt H s.heap z TI TO i1 i2 a b i →
      H q = some (.lst (ts.map V.ref)) → Paired (PairAt H) ts ((xs.zip ys).take i) → (∀ c o, c ≠ q → H0 c = some o → H c = some o) →
      codeAny (model X.prog X.w) A1 (.builtin "list.extend.loop" ⟨[.ref q, .ref z, .none], []⟩) Rs s := by
  have sqk : ∀ {H : Hp} {c : Addr} {zs : List V}, c ≠ q → (∀ c o, c ≠ q → H0 c = some o → H c = some o) → SqT X.K H0 c zs → SqT X.K H c zs := fun n k h =>
    h.elim (fun h => .inl (h.elim (fun h => .inl (k _ _ n h)) fun ⟨o, h⟩ => .inr ⟨o, k _ _ n h⟩)) fun h => .inr h
  intro m
  induction m with
  | zero =>
    intro i H s ts hm hi I hf st hq pt kp
    refine codeAny_builtin PySem.F.entry_extend_loop ?_
    rw [Around.under_plainId PySem.F.plain_extend_loop _]
    show wpAny _ A1.in1 (pyNext (.ref z) >>= _) _ _ s
    refine wpAny_bind (wpAny_mono (zip_over hh D I hf st (sqk qa kp qx0) (sqk qb kp qy0) (by omega)) (fun r s' hr => ?_) fun e s' he => herr e s' he)
    obtain ⟨rfl, I'⟩ := hr
    rw [List.take_of_length_le (by rw [List.length_zip]; omega)] at pt
    exact wpAny_pure (hdone H s' ts I' hq pt kp)
  | succ m ih =>
    intro i H s ts hm hi I hf st hq pt kp
    refine codeAny_builtin PySem.F.entry_extend_loop ?_
    rw [Around.under_plainId PySem.F.plain_extend_loop _]
    show wpAny _ A1.in1 (pyNext (.ref z) >>= _) _ _ s
    have h1 : i < xs.length := by omega
    have h2 : i < ys.length := by omega
    have hx := List.getElem?_eq_getElem h1
    have hy := List.getElem?_eq_getElem h2
    refine wpAny_bind (wpAny_mono (zip_turn D I hf st (sqk qa kp qx0) (sqk qb kp qy0) hx hy) (fun r s' hr => ?_) fun e s' he => herr e s' he)
    obtain ⟨T, rfl, hT, I', st', hf'⟩ := hr
    show wpAny _ A1.in1 (updateSeq q (·.push (.ref T)) >>= _) _ _ _
    have hq' : (L2.upd H T (.tup [xs[i], ys[i]])) q = some (.lst (ts.map V.ref)) := by rw [upd_ne (ne_of_none hq hT)]; exact hq
    have ht : ts.length = i := by
      have := Paired.len pt
      rw [List.length_take, List.length_zip] at this
      omega
    obtain ⟨zz, its, k, r2, hl, e⟩ := I'.lstM hq'
    have hl' : its.length = i := by rw [← hl, List.length_map, ht]
    have sl : sizeLine = 16777216 := by decide
    refine wpAny_bind (wpAny_updateSeq e rfl (wpAny_pure ⟨plainId_quiet PySem.F.plain_extend_loop _, ?_⟩) (by rw [List.size_toArray]; omega) (by show (its.toArray.push (.ref T)).size ≤ sizeLine + 1; rw [Array.size_push, List.size_toArray]; omega))
    have I2 := I'.lset (f := (·.push (.ref T))) (its' := its ++ [.ref T]) (ys := (ts ++ [T]).map V.ref) (t' := s'.toks) hq' e (by simp) (by rw [List.map_append]; exact r2.append (.cons rfl .nil)) (by rw [List.length_map, List.length_append]; show ts.length + 1 ≤ _; omega)
    have nc : ∀ c ∈ [z, TI, TO, i1, i2], c ≠ q := fun c hc e' => by
      have := (hf c hc).1
      rw [e', hq] at this
      cases this
    have keep : ∀ c o, c ≠ q → s'.heap.get? c = some o → (s'.heap.update q (Obj.mapSeq (·.push (.ref T)))).get? c = some o := fun c o n e' => (Heap.get?_update_other _ _ (Ne.symm n)).trans e'
    have st2 : ZSt (L2.upd (L2.upd H T (.tup [xs[i], ys[i]])) q (.lst ((ts ++ [T]).map V.ref))) (s'.heap.update q (Obj.mapSeq (·.push (.ref T)))) z TI TO i1 i2 a b (i + 1) := by
      refine ⟨?_, keep _ _ (nc TI (by simp)) st'.ti, let ⟨v, w, e'⟩ := st'.to; ⟨v, w, keep _ _ (nc TO (by simp)) e'⟩, st'.j1.at fun o e' => keep _ _ (nc i1 (by simp)) e', st'.j2.at fun o e' => keep _ _ (nc i2 (by simp)) e'⟩
      rcases st'.zip with hz | ⟨T1, fl, zs, hz, h1'⟩
      · exact .inl (keep _ _ (nc z (by simp)) hz)
      · refine .inr ⟨T1, fl, zs, keep _ _ (nc z (by simp)) hz, ?_⟩
        have : T1 ≠ q := fun e' => by
          rw [e', hq'] at h1'
          cases h1'
        rw [upd_ne this]
        exact h1'
    have up2 : ∀ c o, c ≠ q → H c = some o → (L2.upd (L2.upd H T (.tup [xs[i], ys[i]])) q (.lst ((ts ++ [T]).map V.ref))) c = some o := fun c o n e' => by
      rw [upd_ne n, upd_ne (ne_of_none e' hT)]
      exact e'
    have nT : T ≠ q := fun e' => by
      rw [e', hq] at hT
      cases hT
    refine ih (i + 1) _ _ (ts ++ [T]) (by omega) (by omega) I2 (fun c hc => FpOk.other (hf' c hc) (by rw [upd_ne (nc c hc)]; exact (hf' c hc).1)) st2 upd_same ?_ (fun c o n e' => up2 c o n (kp c o n e'))
    have hz : (xs.zip ys)[i]? = some (xs[i], ys[i]) := by
      rw [List.getElem?_zip_eq_some]
      exact ⟨hx, hy⟩
    rw [List.take_succ, hz]
    refine Paired.snoc (F := PairAt _) ?_ (Paired.imp pt fun t p h => up2 _ _ (fun e' => ?_) h)
    · show (L2.upd (L2.upd H T (.tup [xs[i], ys[i]])) q (.lst ((ts ++ [T]).map V.ref))) T = _
      rw [upd_ne nT, upd_same]
    · have h : H t = some (.tup [p.1, p.2]) := h
      rw [e', hq] at h
      cases h
/-- list(zip(a, b)) of two tuples -/
def tListZip (K : PySem.W.Frag) (ta : TA) : TE := fun σ H Q => ta σ H fun vs H1 => ∃ a b xs ys, vs = [.ref a, .ref b] ∧ SqT K H1 a xs ∧ SqT K H1 b ys ∧ xs.length ≤ 10000 ∧
  ∀ H' q ts, L2.Same H1 H' → H1 q = none → H' q = some (.lst (ts.map V.ref)) → Paired (PairAt H') ts (xs.zip ys) → Q (.ref q) H'
theorem call_zip_it {Q : VK} (hh : X.A.handled = none) (D : ZipApart z TI TO i1 i2 a b) (l1 : xs.length ≤ 10000) (I : Inv X pins σ H s) (hf : Chain X pins H z TI TO i1 i2) (hz0 : IsZip s.heap z TI TO .none) (st : ZSt H s.heap z TI TO i1 i2 a b 0)
    (qx : SqT X.K H a xs) (qy : SqT X.K H b ys) (go : ∀ H' q ts, L2.Same H H' → H q = none → H' q = some (.lst (ts.map V.ref)) → Paired (PairAt H') ts (xs.zip ys) → Q (.ref q) H') :
    wpAny (model X.prog X.w) X.A (call (.type "list") [.ref z]) (EP X pins σ Q) X.xe s := by
  refine callType_codes (Q₁ := fun obj s₁ => obj = .ref s.heap.objs.size ∧ s₁ = { s with heap := s.heap.push { cls := .type "list", data := .seq #[] } }) PySem.F.called_list (PySem.F.typeCall_list_1 _) PySem.F.entry_list_init
    (code_list_new _ ⟨rfl, rfl⟩) fun obj s₁ h₁ => ?_
  obtain ⟨rfl, rfl⟩ := h₁
  have hS : (s.heap.push { cls := .type "list", data := .seq #[] }).get? s.heap.objs.size = some { cls := .type "list", data := .seq #[] } := Heap.get?_push_size _ rfl
  refine ⟨⟨_, hS, rfl⟩, PySem.F.args_list_init_2 _ _, ?_⟩
  have fr : H s.heap.objs.size = none := I.hok.fresh (Nat.le_refl _)
  have ns : ∀ c ∈ [z, TI, TO, i1, i2], c ≠ s.heap.objs.size := fun c hc => let ⟨o, e⟩ := st.live hc; Nat.ne_of_lt (Heap.lt_size e)
  have la : a ≠ s.heap.objs.size ∧ b ≠ s.heap.objs.size := by
    obtain ⟨its, rv, ⟨o, e, _⟩, _⟩ := I.tuple qx
    obtain ⟨its2, rv2, ⟨o2, e2, _⟩, _⟩ := I.tuple qy
    exact ⟨Nat.ne_of_lt (Heap.lt_size e), Nat.ne_of_lt (Heap.lt_size e2)⟩
  have I1 : Inv X pins σ (L2.upd H s.heap.objs.size (.lst [])) { s with heap := s.heap.push { cls := .type "list", data := .seq #[] } } := I.lnew (its := []) (t' := s.toks) .nil (Nat.zero_le _)
  generalize hq : s.heap.objs.size = q at *
  show wpAny _ _ (do let old ← Builtin.List.listItems (.ref q); Builtin.List.listUpdate (.ref q) (fun _ => #[]); letGo old.toList.reverse; Builtin.List.listExtendWith (.ref q) (.ref z) .none) _ _ _
  refine wpAny_bind ?_
  unfold Builtin.List.listItems
  refine wpAny_bind (wpAny_seqItems hS rfl (wpAny_pure ?_))
  show wpAny _ _ (updateSeq q (fun _ => #[]) >>= fun _ => letGo (#[] : Array Value).toList.reverse >>= fun _ => Builtin.List.listExtendWith (.ref q) (.ref z) .none) _ _ _
  refine wpAny_bind (wpAny_updateSeq hS rfl ?_)
  have I2 := I1.lset (f := fun _ => #[]) (its := []) (its' := []) (ys := []) (t' := s.toks) upd_same hS rfl .nil (Nat.zero_le _)
  rw [upd_upd] at I2
  refine wpAny_bind (wpAny_letGo ?_)
  have nz : z ≠ q := ns z (by simp)
  unfold Builtin.List.listExtendWith
  have keep2 : ∀ c o, c ≠ q → s.heap.get? c = some o → ((s.heap.push { cls := .type "list", data := .seq #[] }).update q (Obj.mapSeq fun _ => #[])).get? c = some o := fun c o n e => (Heap.get?_update_other _ _ (Ne.symm n)).trans (Heap.get?_push_of_some _ e)
  have zty : Shared.TypeIs { s with heap := (s.heap.push { cls := .type "list", data := .seq #[] }).update q (Obj.mapSeq fun _ => #[]) } (.ref z) "zip" := ⟨_, keep2 _ _ nz hz0, rfl⟩
  refine wpAny_bind (wpAny_typeOf zty ?_)
  have g1 : Builtin.List.listSameRef (.ref q) (.ref z) = false := by simp [Builtin.List.listSameRef, nz.symm]
  have g2 : (Value.type "zip" == Value.type "list") = false := by decide
  have g3 : (Value.type "zip" == Value.type "tuple") = false := by decide
  simp only [g1, g2, g3, Bool.or_false, Bool.false_eq_true, if_false]
  refine wpAny_bind (wpAny_pyIter_zip (keep2 _ _ nz hz0) ?_)
  refine wpAny_bind (wpAny_holding ?_)
  unfold Builtin.List.listLengthHint
  refine wpAny_bind (wpAny_specialOf zty LbZ.zip_no_len ?_)
  show wpAny _ _ (specialOf (Value.ref z) (Str.ofString "__length_hint__") >>= _) _ _ _
  refine wpAny_bind (wpAny_specialOf zty LbZ.zip_no_hint (wpAny_pure ?_))
  obtain ⟨_, its3, k3, r3, _, e3⟩ := I2.lstM upd_same
  cases r3
  show wpAny _ _ (rule "list.extend.makes-room" >>= fun _ => Builtin.List.listTouch (.ref q) >>= fun _ => again (.builtin "list.extend.loop" ⟨[.ref q, .ref z, .none], []⟩)) _ _ _
  refine wpAny_bind (wpAny_rule (wpAny_bind ?_))
  show wpAny _ _ (updateSeq q (·.push .none) >>= fun _ => updateSeq q (·.pop)) _ _ _
  refine wpAny_bind (wpAny_updateSeq e3 rfl ?_)
  have I3 := I2.lset (f := (·.push Value.none)) (its' := [Value.none]) (ys := [.non]) (t' := s.toks) upd_same e3 (by simp) (.cons rfl .nil) (by decide)
  obtain ⟨_, its4, k4, r4, _, e4⟩ := I3.lstM upd_same
  obtain ⟨u4, rfl, _⟩ := r4.one
  refine wpAny_updateSeq e4 rfl ?_ (by show 1 ≤ sizeLine; decide) (by show 0 ≤ sizeLine + 1; exact Nat.zero_le _)
  have I4 := I3.lset (f := (·.pop)) (its := [u4]) (its' := []) (ys := []) (t' := s.toks) upd_same e4 (by rfl) .nil (Nat.zero_le _)
  rw [upd_upd, upd_upd] at I4
  have keep4 : ∀ c o, c ≠ q → s.heap.get? c = some o → ((((s.heap.push { cls := .type "list", data := .seq #[] }).update q (Obj.mapSeq fun _ => #[])).update q (Obj.mapSeq (·.push Value.none))).update q (Obj.mapSeq (·.pop))).get? c = some o := fun c o n e =>
    (Heap.get?_update_other _ _ (Ne.symm n)).trans ((Heap.get?_update_other _ _ (Ne.symm n)).trans (keep2 c o n e))
  have st4 : ZSt (L2.upd H q (.lst [])) ((((s.heap.push { cls := .type "list", data := .seq #[] }).update q (Obj.mapSeq fun _ => #[])).update q (Obj.mapSeq (·.push Value.none))).update q (Obj.mapSeq (·.pop))) z TI TO i1 i2 a b 0 :=
    ⟨.inl (keep4 _ _ nz hz0), keep4 _ _ (ns TI (by simp)) st.ti, let ⟨v, w, e⟩ := st.to; ⟨v, w, keep4 _ _ (ns TO (by simp)) e⟩, st.j1.at fun o e => keep4 _ _ (ns i1 (by simp)) e, st.j2.at fun o e => keep4 _ _ (ns i2 (by simp)) e⟩
  have S0 : L2.Same H (L2.upd H q (.lst [])) := Lb.Same.upd fr
  refine wpAny_pure ⟨plainId_quiet PySem.F.plain_extend_loop _, zip_loop (q := q) (H0 := L2.upd H q (.lst [])) (A1 := X.A.in1) (Rs := wants (fun r s₂ => r = .none ∧ EP X pins σ Q (.ref q) s₂) X.xe) hh D l1 la.1 la.2 ?_ (fun e s' he => he) (SqT.same S0 qx) (SqT.same S0 qy) _ 0 _ _ [] rfl (Nat.zero_le _) I4
    (fun c hc => FpOk.other (hf c hc) (by rw [upd_ne (ns c hc)]; exact (hf c hc).1)) st4 upd_same ?_ (fun c o n e => e)⟩
  · intro H' s' ts I' e pt kp
    exact ⟨rfl, .ref q, H', I', rfl, go H' q ts (fun c o e' => kp c o (ne_of_none e' fr) (by rw [upd_ne (ne_of_none e' fr)]; exact e')) fr e pt⟩
  · rw [List.take_zero]
    exact .nil
theorem pe_listZip {e e2 : Expr} {ta : TA} {p p2 pos pos2 : Pos} (hcalm : X.calm = true) (hg : Gl X "list") (hm : X.mg "list" = none) (hg2 : Gl X "zip") (hm2 : X.mg "zip" = none) (ha : PA X [e, e2] ta)
    (hs : starEach [e, e2] X.env = (false, eval e X.env) :: starEach [e2] X.env := by rfl) (hpl : (backTo pos2 (starEach [e2] X.env)).any (·.1) = false := by rfl)
    (hs2 : starEach [.Call (.Name "zip" p2) [e, e2] [] pos2] X.env = (false, eval (.Call (.Name "zip" p2) [e, e2] [] pos2) X.env) :: starEach [] X.env := by rfl) :
    PE X (.Call (.Name "list" p) [.Call (.Name "zip" p2) [e, e2] [] pos2] [] pos) (tListZip X.K ta) := by
  refine ⟨fun pins s σ H Q I h => ?_⟩
  refine wpAny_Call_Name_kw (ld_blt I hg hm (by decide +kernel : bootBuiltins "list" = some (.type "list")) ?_)
  refine PyProof.Rows.callWith_type1 ?_ hs2 rfl
  rw [hs2]
  refine Calls.spliced_cons ?_
  refine wpAny_Call_Name_kw (ld_blt I hg2 hm2 PyProof.Rows.boot_zip ?_)
  refine PyProof.Rows.callWith_type1 (thn (ha.run pos2 pins s σ H _ I h) fun us s1 ⟨vs, H1, I1, r1, q1⟩ => ?_) hs hpl
  obtain ⟨a, b, xs, ys, rfl, qx, qy, l1, go⟩ := q1
  cases r1 with
  | cons r rr =>
    cases rr with
    | cons r' rr =>
      cases rr
      cases r
      cases r'
      obtain ⟨its, rv, p1, _⟩ := I1.tuple qx
      obtain ⟨its2, rv2, p2, _⟩ := I1.tuple qy
      obtain ⟨o1, ho1, _⟩ := id p1
      obtain ⟨o2, ho2, _⟩ := id p2
      refine RZ.call_zipT (xs := its.toArray) (ys := its2.toArray) p1 p2 fun h' hz hTI hTO k1 k2 _ hk => ?_
      have I2 : Inv X pins σ H1 { s1 with heap := h' } := I1.kept (t' := s1.toks) hk
      have chain : Chain X pins H1 (s1.heap.objs.size + 4) (s1.heap.objs.size + 2) (s1.heap.objs.size + 3) s1.heap.objs.size (s1.heap.objs.size + 1) := fun c hc => by
        have hle : s1.heap.objs.size ≤ c := by
          simp only [List.mem_cons, List.not_mem_nil, or_false] at hc
          rcases hc with h | h | h | h | h <;> (rw [h]; first | exact Nat.le_add_right _ _ | exact Nat.le_refl _)
        exact I1.fpOk hle (I1.hok.fresh hle)
      show wpAny _ _ (pure []) _ _ _
      refine wpAny_pure ?_
      exact call_zip_it (I1.ok.hd hcalm) (PySem.W.ktu_apart s1.heap.objs.size a b (Heap.lt_size ho1) (Heap.lt_size ho2)) l1 I2 chain hz ⟨.inl hz, hTI, ⟨_, _, hTO⟩, k1, k2⟩ qx qy go
end
end Lb

set_option Elab.async false
set_option linter.all false
set_option maxRecDepth 100000
set_option maxHeartbeats 4000000
namespace Lb
open PySem PySem.Spec PyProof.Rows L2
/-- a thing is equal to itself -/
def ReflB (D : EqvB) : Prop := ∀ x H c, D x x H c → c = true
def DTupH (D : EqvB) : EqvB := fun x y H c => ∃ a b xs ys e, x = .ref a ∧ y = .ref b ∧ H a = some (.tup xs) ∧ H b = some (.tup ys) ∧ PrsB D xs ys H e ∧ c = (List.range xs.length).all e
section
variable {X : Cx} {n : Nat} {D : EqvB}
theorem RcGB.imp {D' : EqvB} (h : RcGB X n D) (k : ∀ x y H c, D' x y H c → D x y H c) : RcGB X n D' := fun A pins s σ H x y u v c sb I rx ry d => h A pins s σ H x y u v c sb I rx ry (k _ _ _ _ d)
theorem rcGB_tupH (hD : MonB D) (h : EqGB X n D) : RcGB X (n + 1) (DTupH D) :=
  (rcGB_tup hD h).imp fun _ _ _ _ ⟨a, b, xs, ys, e, h1, h2, h3, h4, h5, h6⟩ => ⟨a, b, xs, ys, e, h1, h2, SqT.of h3, SqT.of h4, h5, h6⟩
theorem mon_tupH (hD : MonB D) : MonB (DTupH D) := fun x y H H' c e d => by
  obtain ⟨a, b, xs, ys, f, hx, hy, h1, h2, p, q⟩ := d
  exact ⟨a, b, xs, ys, f, hx, hy, e _ _ h1, e _ _ h2, p.mon hD e, q⟩
theorem prs_refl (hD : ReflB D) {xs : List V} {H : Hp} {e : Nat → Bool} (p : PrsB D xs xs H e) : (List.range xs.length).all e = true := by
  rw [List.all_eq_true]
  intro i hi
  have hi := List.mem_range.mp hi
  have hx := List.getElem?_eq_getElem hi
  exact hD _ _ _ (p.at_ i _ _ hx hx)
theorem refl_tupH (hD : ReflB D) : ReflB (DTupH D) := by
  rintro x H c ⟨a, b, xs, ys, e, h1, h2, h3, h4, p, rfl⟩
  rw [h1] at h2
  cases h2
  rw [h3] at h4
  cases h4
  exact prs_refl hD p
theorem refl_list (hD : ReflB D) : ReflB (DListB D) := by
  rintro x H c ⟨a, b, xs, ys, h1, h2, h3, h4, p⟩
  rw [h1] at h2
  cases h2
  rw [h3] at h4
  cases h4
  rcases p with ⟨h, _⟩ | ⟨e, p, rfl⟩
  · exact absurd rfl h
  · exact prs_refl hD p
theorem eqGB_tupH (hD : MonB D) (hR : ReflB D) (h : EqGB X n D) : EqGB X (n + 1) (DTupH D) :=
  (rcGB_tupH hD h).eqG fun x y H c d => by
    obtain ⟨a, b, xs, ys, e, h1, h2, h3, h4, p, h5⟩ := id d
    refine ⟨a, b, h1, h2, fun q => ?_⟩
    subst q
    rw [← h2] at h1
    subst h1
    exact refl_tupH hR _ _ _ d
theorem eqGB_list (hD : MonB D) (hR : ReflB D) (h : EqGB X n D) : EqGB X (n + 1) (DListB D) :=
  (rcGB_list hD h).eqG fun x y H c d => by
    obtain ⟨a, b, xs, ys, h1, h2, h3, h4, p⟩ := id d
    refine ⟨a, b, h1, h2, fun q => ?_⟩
    subst q
    rw [← h2] at h1
    subst h1
    exact refl_list hR _ _ _ d
end
/-- item by item, by a decidable equality -/
theorem all_range_eq {α : Type} [DecidableEq α] (d : α) : ∀ {xs ys : List α}, xs.length = ys.length → (List.range xs.length).all (fun i => decide (xs.getD i d = ys.getD i d)) = decide (xs = ys) := by
  intro xs ys h
  rw [Bool.eq_iff_iff, List.all_eq_true, decide_eq_true_eq]
  constructor
  · intro k
    refine List.ext_getElem h fun i h1 h2 => ?_
    have := of_decide_eq_true (k i (List.mem_range.mpr h1))
    rw [List.getD_eq_getElem?_getD, List.getD_eq_getElem?_getD, List.getElem?_eq_getElem h1, List.getElem?_eq_getElem h2] at this
    exact this
  · rintro rfl i _
    exact decide_eq_true rfl
theorem atI_last2 {α : Type} {xs : List α} {j : Nat} (h : xs.length = j + 2) : atI xs (-2) = xs[j]? := by
  unfold atI ixN
  rw [if_neg (by decide), if_pos (by omega)]
  show xs[(_ : Int).toNat]? = _
  congr 1
  omega
end Lb

set_option Elab.async false
set_option linter.all false
set_option maxRecDepth 100000
set_option maxHeartbeats 4000000
namespace Lb
open PySem PySem.Spec PyProof.Rows L2
section
variable {X : Cx} {K : PySem.W.Frag}
theorem pg_lstK {pos : Pos} {es : List Expr} {k : Nat} {t : TGs} {n : Nat} (hK : X.K = K) (hc : X.calm = true) (h : PGs X es t)
    (hn : (assignEach es X.env).length = n := by rfl) (hst : (assignEach es X.env).findIdx? (·.1) = none := by rfl) : PG X (.Tuple es k pos) (gLst K n t) := by subst hK; exact pg_lst hc h hn hst
theorem pi_zipAK {e e2 : Expr} {ta : TA} {p pos tpos : Pos} {elts : List Expr} {kk : Nat} (hK : X.K = K) (hg : Gl X "zip") (hm : X.mg "zip" = none) (ha : PA X [e, e2] ta)
    (hs : starEach [e, e2] X.env = (false, eval e X.env) :: starEach [e2] X.env := by rfl) (hpl : (backTo pos (starEach [e2] X.env)).any (·.1) = false := by rfl) :
    PI X (.Tuple elts kk tpos) (.Call (.Name "zip" p) [e, e2] [] pos) (RZ.iZipA K ta) := by subst hK; exact RZ.pi_zipA hg hm ha hs hpl
end
theorem walk_zipT {K : PySem.W.Frag} {a b : Addr} {xs ys : List V} {n : Nat} (hn : n = min xs.length ys.length) : Walk (RZ.ItzT K a b) n (fun H => SqT K H a xs ∧ SqT K H b ys) (YPair (fun i => xs[i]?) (fun i => ys[i]?)) := by
  subst hn
  refine ⟨fun i _ hi q => ?_, fun _ q => ⟨xs, ys, q.1, q.2, by omega⟩, fun i H v H' _ q y => ?_⟩
  · have h1 : i < xs.length := by omega
    have h2 : i < ys.length := by omega
    exact ⟨xs, ys, xs[i], ys[i], q.1, q.2, by simp [h1], by simp [h2]⟩
  · obtain ⟨T, x, z, h1, h2, h3, h4, h5⟩ := y
    exact ⟨T, x, z, h1, h2, h3, h4 xs q.1, h5 ys q.2⟩
/-! data of whole numbers -/
def q2D (x : Q2) : PyData := .tuple [.int x.1, .int x.2]
def ptD (z : Q2 × Q2) : PyData := .tuple [q2D z.1, q2D z.2]
theorem eqv_q2 (x y : Q2) : PyData.eqv (q2D x) (q2D y) = decide (x = y) := by
  unfold q2D
  simp only [PyData.eqv, PyData.eqvAll, Bool.and_true]
  rw [Bool.eq_iff_iff]
  simp [Prod.ext_iff]
theorem eqv_pt (x y : Q2 × Q2) : PyData.eqv (ptD x) (ptD y) = decide (x = y) := by
  unfold ptD
  simp only [PyData.eqv, PyData.eqvAll, Bool.and_true, eqv_q2]
  rw [Bool.eq_iff_iff]
  simp [Prod.ext_iff]
theorem eqvAll_map {α : Type} [DecidableEq α] {f : α → PyData} (h : ∀ x y, PyData.eqv (f x) (f y) = decide (x = y)) : ∀ xs ys : List α, PyData.eqvAll (xs.map f) (ys.map f) = decide (xs = ys)
  | [], [] => by simp [PyData.eqvAll]
  | [], _ :: _ => by simp [PyData.eqvAll]
  | _ :: _, [] => by simp [PyData.eqvAll]
  | x :: xs, y :: ys => by
    simp only [List.map_cons, PyData.eqvAll, h, eqvAll_map h xs ys]
    rw [Bool.eq_iff_iff]
    simp
theorem eqv_list {α : Type} [DecidableEq α] {f : α → PyData} (h : ∀ x y, PyData.eqv (f x) (f y) = decide (x = y)) (xs ys : List α) : PyData.eqv (.list (xs.map f)) (.list (ys.map f)) = decide (xs = ys) := by
  simp only [PyData.eqv]
  exact eqvAll_map h xs ys
theorem lay_q2 (x : Q2) : PyData.canLay0 (q2D x) = true := by simp [q2D, PyData.canLay0, PyData.canLayAll0]
theorem lay_pt (z : Q2 × Q2) : PyData.canLay0 (ptD z) = true := by simp [ptD, PyData.canLay0, PyData.canLayAll0, lay_q2]
theorem dep_q2 (x : Q2) : PyData.depth (q2D x) = 1 := by simp [q2D, PyData.depth, PyData.depthAll]
theorem dep_pt (z : Q2 × Q2) : PyData.depth (ptD z) = 2 := by simp [ptD, PyData.depth, PyData.depthAll, dep_q2]
theorem lay_map {α : Type} {f : α → PyData} (h : ∀ x, PyData.canLay0 (f x) = true) : ∀ xs : List α, PyData.canLayAll0 (xs.map f) = true
  | [] => by simp [PyData.canLayAll0]
  | x :: xs => by simp [PyData.canLayAll0, h, lay_map h xs]
theorem dep_map {α : Type} {f : α → PyData} {k : Nat} (h : ∀ x, PyData.depth (f x) ≤ k) : ∀ xs : List α, PyData.depthAll (xs.map f) ≤ k
  | [] => by simp [PyData.depthAll]
  | x :: xs => by
    have h1 := h x
    have h2 := dep_map h xs
    simp only [List.map_cons, PyData.depthAll]
    omega
theorem shaped_of {d : PyData} (h : PyData.canLay0 d = true) (k : PyData.depth d ≤ 60) : SeqAt.shaped d = true := by
  unfold SeqAt.shaped
  rw [h, decide_eq_true (by omega)]
  rfl
theorem lay_list {α : Type} {f : α → PyData} (h : ∀ x, PyData.canLay0 (f x) = true) (xs : List α) : PyData.canLay0 (.list (xs.map f)) = true := by
  simp only [PyData.canLay0]
  exact lay_map h xs
theorem dep_list {α : Type} {f : α → PyData} {k : Nat} (h : ∀ x, PyData.depth (f x) ≤ k) (xs : List α) : PyData.depth (.list (xs.map f)) ≤ k + 1 := by
  simp only [PyData.depth]
  have := dep_map h xs
  omega
theorem rd_lt {t t' b : Int} (hb : 0 < b) (h : t < t') : val (rd t b) < val (rd t' b) := by
  rw [val_rd (by omega), val_rd (by omega), Rat.div_def, Rat.div_def]
  exact Rat.mul_lt_mul_of_pos_right (Rat.intCast_lt_intCast.mpr h) (Rat.inv_pos.mpr (pos_cast hb))
theorem rd_zero {b : Int} (hb : 0 < b) : rd 0 b = (0, 1) := by
  have h1 : Low (b.natAbs + 1) (rd 0 b) := rd_low (by omega) (show (0 : Nat) < _ from Nat.pow_pos (by decide)) (show b.natAbs < _ from Nat.lt_of_lt_of_le Nat.lt_two_pow_self (Nat.pow_le_pow_right (by decide) (Nat.le_succ _)))
  refine val_inj (m := 1) h1 ⟨by unfold Bd; decide, by unfold Bd; decide, by decide, by decide⟩ ?_
  rw [val_rd (by omega), val_zero, Rat.intCast_zero]
  grind
end Lb

set_option Elab.async false
set_option linter.all false
/-! a comprehension within one; tuple(list) within one -/
namespace Lb
open PySem L2
theorem blkOk_any {N : List Str} {sc scope : Scope} {own : List (Str × Nat)} (h : blkC N { kind := .function, names := [], isGenerator := false, isCoroutine := false } scope own = true) : BlkOk N sc scope own :=
  let b := blkOk_by h
  ⟨b.kind, b.uniq, b.ix, fun y hy e => (b.free y hy e).elim (fun q => nomatch q) (fun q => nomatch q), b.own⟩
section
variable {X : Cx} {K : PySem.W.Frag}
theorem call_tuple_ofK (hK : X.K = K) : CallR X (.type "tuple") (fun xs H Q => ∃ p ys, xs = [.ref p] ∧ ((SqL K H p ys ∧ ∀ l, H l = none → Q (.ref l) (upd H l (.tup ys))) ∨ (SqT K H p ys ∧ Q (.ref p) H))) := by subst hK; exact call_tuple_of
end
theorem kit_two {K : PySem.W.Frag} {A C : Addr} (h1 : PySem.W.isClsIn K C = true) (h2 : PySem.W.typeIn K (.ref C) = some (.type "type")) (h3 : PySem.W.subIn K (.ref A) (.ref C) = some false) (h4 : PySem.W.subIn K (.ref C) (.ref C) = some true) :
    PySem.W.kitOne K (.ref A) (.ref C) = some false ∧ PySem.W.notFirst K C (.ref A) = true := by
  have ne : (Value.ref A == Value.ref C) = false := Bool.eq_false_iff.mpr fun q => by
    have e := beq_iff_eq.mp q
    cases e
    rw [h3] at h4
    cases h4
  constructor
  · unfold PySem.W.kitOne
    rw [ne, if_neg (by decide)]
    unfold PySem.W.kitCls
    have h1' : (PySem.W.clsIn K C).isSome = true := h1
    dsimp only
    rw [h1', h2]
    rw [if_pos (by simp)]
    exact h3
  · unfold PySem.W.notFirst
    rw [h3]
    simp
end Lb

set_option Elab.async false
set_option linter.all false
set_option maxRecDepth 100000
set_option maxHeartbeats 2000000
/-! own exceptions with an own __init__ that keeps one value: made, raised -/
namespace Lb
open PySem L2
/-- the class and its __init__ -/
structure Exq (K : PySem.W.Frag) (mg : Str → Option Value) (x : Str) (C f : Addr) : Prop where
  mC : mg x = some (.ref C)
  ox : OexC K C
  xf : XfC K C
  iC : PySem.W.findIn K (.ref C) "__init__" = some (some (.ref f))
  tI : PySem.W.typeIn K (.ref f) = some (.type "function")
  te : PySem.W.exmOne K (.ref C) (.ref C) = some true
/-- __init__(self, value): self.f = value -/
def sp_exq (K : PySem.W.Frag) (C : Addr) (f : Str) : Sp := fun vs H Q _ => ∃ (q : Addr) (y : V), vs = [.ref q, y] ∧ H q = some (exo q C none) ∧
  ∀ dx, H dx = none → dx ≠ q → Q .non (upd (upd H dx (exd dx [(f, y)])) q (exo q C (some dx)))
/-- what is known behind such a raise -/
theorem exq_way {H : Hp} {q C : Addr} {f : Str} {y : V} {Q : XK} (hq : H q = none) (k : ∀ H' d, Same H H' → H d = none → H' d = some (.xd [(f, y)]) → Q (.ref C) (some d) H') :
    ∀ dx, (upd H q (exo q C none)) dx = none → dx ≠ q → ∃ (d : Addr) (fs : List (Str × V)), (upd (upd (upd H q (exo q C none)) dx (exd dx [(f, y)])) q (exo q C (some dx))) q = some (exo q C (some d)) ∧
      (upd (upd (upd H q (exo q C none)) dx (exd dx [(f, y)])) q (exo q C (some dx))) d = some (exd d fs) ∧ H d = none ∧ Q (.ref C) (some d) (upd (del (upd (upd (upd H q (exo q C none)) dx (exd dx [(f, y)])) q (exo q C (some dx))) q) d (.xd fs)) := by
  intro dx hdx ne
  have hd : H dx = none := by rw [upd_ne ne] at hdx; exact hdx
  refine ⟨dx, [(f, y)], upd_same, by rw [upd_ne ne, upd_same], hd, k _ dx (fun b o e => ?_) hd upd_same⟩
  have bq : b ≠ q := ne_of_none e hq
  have bd : b ≠ dx := ne_of_none e hd
  rw [upd_ne bd, del_ne bq, upd_ne bq, upd_ne bd, upd_ne bq]
  exact e
/-- a def that may raise, called where nothing is raised -/
theorem passF {X : Cx} : Passes (L2.CX X.prog X.w) X E0 := fun _ _ _ _ _ _ _ h => by
  obtain ⟨_, _, _, _, _, _, _, _, _, _, _, _, h⟩ := h
  exact h.elim
end Lb

set_option Elab.async false
set_option linter.all false
set_option maxRecDepth 100000
set_option maxHeartbeats 4000000
/-! try with several clauses that each give the exception a name -/
namespace Lb
open PySem PySem.Spec PyProof.Rows L2
/-- one clause: its class, the name's place, its suite -/
abbrev Clause := Value × Nat × (Addr → Value → Option Addr → TS)
/-- what is asked of an exception, clause by clause -/
def wNamed (K : PySem.W.Frag) (Wo : WX) (D : Ends) : List Clause → WX
  | [] => Wo
  | (c, i, ts) :: more => fun k dd τ G => ∃ yes, PySem.W.exmOne K k c = some yes ∧ (yes = false → wNamed K Wo D more k dd τ G) ∧
      (yes = true → ∀ e, G e = none → ts e k dd ⟨fun τ' G' => D.nx (τ'.set i none) G', D.rt, fun τ' G' => D.bk (τ'.set i none) G', fun τ' G' => D.ct (τ'.set i none) G'⟩ (τ.set i (some (.ref e))) G)
/-- the clauses and their readings -/
inductive HdsN (X : Cx) : List ExceptHandler → List Clause → Prop
  | nil : HdsN X [] []
  | cons {x n : Str} {i : Nat} {c : Value} {ts : Addr → Value → Option Addr → TS} {st : Stmt} {sts : List Stmt} {p q : Pos} {hds : List ExceptHandler} {l : List Clause} (nm : Names X x c) (at_ : X.N[i]? = some n) (lo : X.env.kindOf n = some .local)
      (su : ∀ (e : Addr) (oe : Obj) (k : Value) (dd : Option Addr) (pn : List (Addr × Obj)), Zc k dd oe → (∃ vs, oe.data = .fields vs) → PSs (X.suite e ((e, oe) :: pn)) (st :: sts) (ts e k dd)) (more : HdsN X hds l) :
      HdsN X (.ExceptHandler (some (.Name x p)) (some n) (st :: sts) q :: hds) ((c, i, ts) :: l)
section
variable {X : Cx} {body : List Stmt} {h0 : ExceptHandler} {hds : List ExceptHandler} {l : List Clause} {pos : Pos} {tb : WX → TS} {Wo : WX}
/-- an exception that has landed stands in no frame -/
theorem out_of_frames {bs h : Heap} {st : List Env} {e : Addr} {o : Obj} {vs : Array Value} (ff : h.FunFrames bs st) (at_ : h.get? e = some o) (fd : o.data = .fields vs) : e ∉ frs st := fun m => by
  obtain ⟨_, u, at2, no⟩ := ff.mem m
  cases at_.symm.trans at2
  exact no _ fd
variable {pins : List (Addr × Obj)} {τ : L2.St} {G : Hp} {D : Ends} {e : Addr} {bs h3 : Heap} {s0 s1 : Shared} {k : Value} {dd : Option Addr}
/-- the clauses are gone through, the exception being at e -/
theorem handle_named (st : X.stack = X.env :: X.outer) (fr : X.env.frame = some X.env.locals) (nd : X.N.Nodup) (tk : Takes X Wo) (ok : X.Ok) (jj : Inv X pins τ G s0) (nb : ∀ b o, s0.heap.get? b = some o → b ∉ frs X.stack → bs.get? b = some o)
    (up : s0.heap.UpToSlots s1.heap) (os : s1.os = s0.os) (ag : AllBare s1.gens) (na : G e = none) (u3 : s1.heap.UpToSlots h3) (fl : HandSPX.FlyingZ bs (X.env :: X.outer) e (Zc k dd) h3) :
    ∀ {hs : List ExceptHandler} {l : List Clause}, HdsN X hs l → wNamed X.K Wo D l k dd τ G → wpAny (model X.prog X.w) X.A (handleBy (.ref e) X.env hs) (SP X pins D) X.xe { s1 with heap := h3 } := by
  have here : Inv X pins τ G { s1 with heap := h3 } := jj.landed nb fl.1 (up.trans u3) os ag
  obtain ⟨o3, f3, at3, z3, d3⟩ := fl.there
  have out := out_of_frames fl.2.2.1 at3 d3
  have outL : e ≠ X.env.locals := fun q => out (List.mem_filterMap.mpr ⟨X.env, List.mem_cons_self, by rw [fr, q]⟩)
  have outF : e ∉ X.fs := fun m => by
    obtain ⟨env, m1, m2⟩ := List.mem_filterMap.mp m
    exact out (List.mem_filterMap.mpr ⟨env, List.mem_cons_of_mem _ m1, m2⟩)
  have inS := here.suite at3 d3 na outL outF
  intro hs l hk
  induction hk with
  | nil =>
    intro w
    have away : wpAny (model X.prog X.w) X.A (setFlight (.ref e) X.env.frame) (fun _ s4 => wpAny (model X.prog X.w) X.A (throw (.ref e) : Sem Flow) (SP X pins D) X.xe s4) X.xe { s1 with heap := h3 } := by
      rw [fr]
      exact HandSPX.setFlight_upZ fl fun h4 held u4 => wpAny_throw (tk _ _ ⟨e, bs, s0, pins, τ, G, k, dd, rfl, jj, nb, (up.trans u3).trans u4, .inr (.inr (by rw [st]; exact held)), na, os, ag, w⟩)
    obtain ⟨_, _, _, oe, vs, T, oT, _, ate, _, dte, first_, _⟩ := id fl
    refine wpAny_handleBy_nil ?_
    unfold PySem.passOn
    refine wpAny_bind (wpAny_field ate dte first_ ?_)
    rw [if_neg (by simp : ¬ ((Value.ref T == Value.none) = true))]
    first
      | exact wpAny_bind away
      | exact wpAny_bind (wpAny_pure (wpAny_bind away))
  | @cons x n i c ts st1 sts p q hds2 l2 nm pl lo su more ih =>
    rintro ⟨yes, ans, no, go⟩
    refine wpAny_handleBy_cons (codeAny_handlers_test ?_) (fun z => by cases z)
    have cl : PySem.W.Looks (model X.prog X.w) h3 (typeOf (.ref e)) k := fun A Q E s keep done => wpAny_typeOf_ref (keep _ _ at3) (by rw [z3.1]; exact done)
    have told := PySem.W.exm_one (M := model X.prog X.w) here.kIn cl ans
    have name : ∀ {Q E : Value → Shared → Prop}, Q c { s1 with heap := h3 } → wpAny (model X.prog X.w) (X.A.mark (some (.ref e))) (eval (.Name x p) X.env) Q E { s1 with heap := h3 } := fun {Q E} done => by
      obtain ⟨g1, g2, g3 | ⟨g3, g4, g5⟩⟩ := nm
      · exact ld_glob (X := X.suite e ((e, o3) :: (X.pn ++ pins))) inS g1 g3 done g2
      · exact ld_blt (X := X.suite e ((e, o3) :: (X.pn ++ pins))) inS g1 g3 g4 done g5 g2
    refine name (told.here ?_)
    cases yes with
    | false =>
      show wpAny _ X.A (handleBy (.ref e) X.env hds2) _ _ _
      exact ih (no rfl)
    | true =>
      refine codeAny_handlers_suite_as (HandSPX.lands_againZ fl fun h4 fl4 u4 => ?_)
      have here4 : Inv X pins τ G { s1 with heap := h4 } := jj.landed nb fl4.1 ((up.trans u3).trans u4) os ag
      obtain ⟨o4, f4, at4, z4, d4⟩ := fl4.there
      refine store_ok (X := X.suite e ((e, o4) :: (X.pn ++ pins))) (v := .ref e) (here4.suite at4 d4 na outL outF) nd pl (.inl lo) rfl (fun s5 in5 => ?_) (.inr lo)
      have clear : ∀ {σ6 : L2.St} {H6 : Hp} {s6 : Shared} {Q : Shared → Prop}, Inv (X.suite e ((e, o4) :: (X.pn ++ pins))) [] σ6 H6 s6 → (∀ s7, Inv X pins (σ6.set i none) H6 s7 → Q s7) →
          wpAny (model X.prog X.w) X.A (do bindName X.env n .none; unbindBehindTheSuite X.env n q) (fun _ s7 => Q s7) X.xe s6 := fun in6 then_ => gone_ok (in6.unsuite ok) nd pl lo then_
      refine wpAny_mono ((su e o4 k dd (X.pn ++ pins) z4 ⟨_, d4⟩).run [] s5 _ G _ in5 (go rfl e na)) (fun f s6 end_ => ?_) (fun _ _ z => z.elim)
      cases f with
      | ret u =>
        obtain ⟨v6, _, _, in6, rel, fin⟩ := end_
        exact clear in6 fun s7 in7 => ⟨_, _, _, in7, rel, fin⟩
      | next =>
        obtain ⟨_, _, in6, fin⟩ := end_
        exact clear in6 fun s7 in7 => ⟨_, _, in7, fin⟩
      | brk =>
        obtain ⟨_, _, in6, fin⟩ := end_
        exact clear in6 fun s7 in7 => ⟨_, _, in7, fin⟩
      | cont =>
        obtain ⟨_, _, in6, fin⟩ := end_
        exact clear in6 fun s7 in7 => ⟨_, _, in7, fin⟩
theorem ps_try_named (st : X.stack = X.env :: X.outer) (fr : X.env.frame = some X.env.locals) (nd : X.N.Nodup) (tk : Takes X Wo)
    (bd : ∀ (W : WX) (pn : List (Addr × Obj)) (xe : Value → Shared → Prop), Takes (X.tr pn xe) W → PassesOwn (model X.prog X.w) X.A X.env xe → PSs (X.tr pn xe) body (tb W)) (cs : HdsN X (h0 :: hds) l) :
    PS X (.Try body (h0 :: hds) [] [] pos) (fun D σ H => tb (wNamed X.K Wo D l) D σ H) := by
  refine ⟨fun pins s σ H D I way => ?_⟩
  have ok := I.ok
  have seen : X.A.frames = some (X.env :: X.outer) := by rw [ok.frames, st]
  refine wpAny_Try_except ?_
  refine wpAny_mono ((bd (wNamed X.K Wo D l) (X.pn ++ pins) (fun u s₁ => wpAny (model X.prog X.w) X.A (noteFrame u X.env) (fun _ s₂ => wpAny (model X.prog X.w) X.A (setFlight u none)
    (fun _ s₃ => wpAny (model X.prog X.w) X.A (handleBy u X.env (h0 :: hds)) (SP X pins D) X.xe s₃) X.xe s₂) X.xe s₁) (fun u s' flies => ?_) PassesOwn.looking).run [] s σ H D (I.toTry _) way) (fun f s1 fin => ?_) (fun u s1 away => away)
  · obtain ⟨e, bs, s0, pp, τ, G, k, dd, rfl, jj, nb, up, sky, na, os, ag, w⟩ := flies
    refine Sky.land Zc.steady seen fr (by rw [← st]; exact sky) fun h3 fl u3 => ?_
    exact handle_named st fr nd tk ok (jj.ofTry ok) nb up os ag na u3 fl cs w
  · cases f with
    | ret u =>
      obtain ⟨v, _, _, j, rel, way2⟩ := fin
      exact ⟨v, _, _, j.ofTry ok, rel, way2⟩
    | next =>
      obtain ⟨_, _, j, way2⟩ := fin
      exact wpAny_execs_nil ⟨_, _, j.ofTry ok, way2⟩
    | brk =>
      obtain ⟨_, _, j, way2⟩ := fin
      exact ⟨_, _, j.ofTry ok, way2⟩
    | cont =>
      obtain ⟨_, _, j, way2⟩ := fin
      exact ⟨_, _, j.ofTry ok, way2⟩
end
end Lb

set_option Elab.async false
set_option linter.all false
set_option maxRecDepth 100000
set_option maxHeartbeats 4000000
/-! isinstance of a caught exception that has an own dict -/
namespace Lb
open PySem PySem.Spec PyProof.Rows L2
/-- isinstance(e, c), e held by the suite at a, an instance of D with the dict dd -/
def rIsX (K : PySem.W.Frag) (D a : Addr) (k : Value) (d : Option Addr) : List V → Hp → VK → Prop := fun xs H Q =>
  ∃ (c : V) (u : Value) (b : Bool) (dd : Addr) (fs : List (Str × V)), xs = [.ref a, c] ∧ k = .ref D ∧ d = some dd ∧ H dd = some (.xd fs) ∧ (∀ v, RelV c v → v = u) ∧ PySem.W.kitOne K (.ref D) u = some b ∧ Q (.bl b) H
theorem call_isX {X : Cx} {a D : Addr} {oe : Obj} {k : Value} {d : Option Addr} {pn : List (Addr × Obj)} (C : ExcC X.K D) (z : Zc k d oe) (f : ∃ vs, oe.data = .fields vs) : CallR (X.suite a ((a, oe) :: pn)) (.builtin "isinstance") (rIsX X.K D a k d) := by
  intro pins s σ H xs us Q I r h
  obtain ⟨c, u, b, dd, fs, rfl, rfl, rfl, ed, only, ans, q⟩ := h
  obtain ⟨u1, u2, rfl, r1, r2⟩ := vals2 r
  cases r1
  cases only _ r2
  obtain ⟨at_, _⟩ := I.pin (a, oe) (List.mem_append_left _ List.mem_cons_self)
  obtain ⟨mA, hns, _⟩ : ObjOk X.prog X.w H s.heap dd (.xd fs) := I.hok dd _ ed
  obtain ⟨od, ho, _⟩ := lookIn_ns hns
  obtain ⟨vs, hd⟩ := f
  have J : PySem.W.InstAt s.heap a oe D (some od) := ⟨at_, z.1, by unfold PySem.W.notCls; rw [hd] <;> rfl, by rw [z.2]; exact ho⟩
  have cl : (PySem.W.clsIn X.K D).isSome = true := by
    obtain ⟨cd, hc, _⟩ := PySem.W.any_some C.hd
    rw [hc]
    rfl
  exact PySem.W.kia_one (PySem.W.kitx_exc cl C.hg C.hk C.hs C.ha C.hn C.ht C.hm) I.kIn J ans (fun z => nomatch z) fun tk => ⟨.bl b, H, I.kept (t' := tk) fun _ _ z => z, rfl, q⟩
end Lb

set_option Elab.async false
set_option linter.all false
set_option maxRecDepth 100000
set_option maxHeartbeats 4000000
/-! own exceptions below an own class over ArithmeticError, whose own __init__ keeps values: made, raised, their fields set -/
namespace Lb
open PySem L2
abbrev arTail : List Value := [.type "ArithmeticError", .type "Exception", .type "BaseException", .type "object"]
/-- what the written part says of such a class: one own class stands above it -/
structure OexA (K : PySem.W.Frag) (C : Addr) : Prop where
  cls : ∃ nm q N bs L sn sub ab col dd k0 k1 k2 k3 k5, K.lookup C = some (excClassObj nm q C N bs (.ref L :: arTail) true sn sub ab col dd k0 k1 k2 k3 k5 "ArithmeticError.__new__")
  sa : PySem.W.findIn K (.ref C) "__setattr__" = some (some (.builtin "object.__setattr__"))
  exC : PySem.W.subIn K (.ref C) (.type "BaseException") = some true
  tyC : PySem.W.typeIn K (.ref C) = some (.type "type")
  kC : PySem.W.keepIn K (.ref C) = true
/-- the class and its __init__ -/
structure ExqA (K : PySem.W.Frag) (mg : Str → Option Value) (x : Str) (C f : Addr) : Prop where
  mC : mg x = some (.ref C)
  ox : OexA K C
  xf : XfC K C
  iC : PySem.W.findIn K (.ref C) "__init__" = some (some (.ref f))
  tI : PySem.W.typeIn K (.ref f) = some (.type "function")
  te : PySem.W.exmOne K (.ref C) (.ref C) = some true
theorem ar_con (L : Addr) (Y : String) : (Value.ref L :: arTail).contains (.type Y) = arTail.contains (.type Y) := by
  rw [List.contains_cons]
  rfl
section
open Builtin Builtin.ObjectAttr
variable {prog : Program} {w : World} {A : Around} {E : Value → Shared → Prop} {R : Result → Shared → Prop} {hp : Heap} {g : Array GenState} {d : Drawn} {t : Nat} {os : OsState}
/-- as far as the store into the own dict -/
theorem ar_store {K : PySem.W.Frag} {name : Str} {tk : Tok} {v : Value} {x C L : Addr} {ox : Obj} {od : Option Obj} {cd : ClassData}
    (X : K.In hp) (I : PySem.W.InstAt hp x ox C od) (hcd : PySem.W.clsIn K C = some cd) (hm : cd.mro = .ref C :: .ref L :: arTail) (ha : PySem.W.findIn K (.ref C) name = some none)
    (hq : wpAny (model prog w) A.in1 (storeInOwnDict (.ref x) (.ref C) (.str name tk) name v false)
      (fun fin s' => match fin with | .done f => R (.ok f) s' | .again c' => c'.quiet = true ∧ codeAny (model prog w) A c' R s') (fun e s' => R (.error e) s') ⟨hp, g, d, t, os⟩) :
    codeAny (model prog w) A (.call (.builtin "object.__setattr__") ⟨[.ref x, .str name tk, v], []⟩) R ⟨hp, g, d, t, os⟩ := by
  have SF := F.store_object
  have hob : PySem.W.mroIn K C (.type "object") = some true := by
    unfold PySem.W.mroIn
    rw [hcd, Option.bind_some, hm, if_neg (show ¬ (List.isEmpty (Value.ref C :: .ref L :: arTail) = true) from Bool.false_ne_true), List.contains_cons, ar_con]
    exact congrArg some ((congrArg (_ || ·) (show arTail.contains (.type "object") = true by decide +kernel)).trans (Bool.or_true _))
  have sub : PySem.W.Looks (model prog w) hp (isInstance (.ref x) (.type "object")) true := I.type.andThen (PySem.W.looks_mroIn X hob)
  have hmr : PySem.W.Looks (model prog w) hp (mroOf (.ref C)) cd.mro := (PySem.W.looks_clsIn X hcd).andThen .now
  have L3 : PySem.W.Looks (model prog w) hp (storeTaker? none) none := .now
  have hpass : refuseLoop (.ref x) "__setattr__" cd.mro = pure () := by
    rw [hm, refuseLoop_ref, refuseLoop_ref]
    exact F.store_ArithmeticError.passes _
  refine codeAny_call_builtin SF.slot.plain SF.entry (@PySem.W.check_slot (model prog w) _ _ ⟨hp, g, d, t, os⟩ "object.__setattr__" "object" "__setattr__" (.ref x) [.str name tk, v] [] _ SF.kind SF.split sub (SF.args (.ref x) (.str name tk) v) ?_)
  rw [PySem.W.osa_eq, refuse_eq]
  refine wpAny_bind (wpAny_bind (I.type.at (wpAny_bind (hmr.at ?_))))
  rw [hpass]
  exact wpAny_pure (wpAny_bind (I.type.at (wpAny_bind ((PySem.W.looks_findIn X ha).at (wpAny_bind (L3.at hq))))))
end
section
variable {X : Cx} {pins : List (Addr × Obj)} {σ : L2.St} {H : Hp} {s : Shared} {a C dx : Addr} {f : Str} {y : V} {u : Value} {fs : List (Str × V)} {Q : Unit → Shared → Prop} {E : Value → Shared → Prop} {A : Around}
theorem ar_new (T : OexA X.K C) (I : Inv X pins σ H s) (e : H a = some (exo a C none)) (hno : PySem.W.findIn X.K (.ref C) f = some none) (ry : RelV y u)
    (h : ∀ dx s', H dx = none → dx ≠ a → Inv X pins σ (upd (upd H dx (exd dx [(f, y)])) a (exo a C (some dx))) s' → Q () s') : wpAny (model X.prog X.w) A (setAttr (.ref a) f u) Q E s := by
  obtain ⟨nm, q, N, bs, L, sn, sub, ab, col, dd, k0, k1, k2, k3, k5, hC⟩ := T.cls
  have hcl : PySem.W.clsIn X.K C = some { name := nm, bases := bs, mro := .ref C :: .ref L :: arTail, ns := N, qualname := q, hasDict := true, slotNames := sn, subclasses := sub, abstract := ab, collection := col, hasDel := false } := by unfold PySem.W.clsIn; rw [hC] <;> rfl
  obtain ⟨t1, ho⟩ := exo_at I.hok e
  obtain ⟨hp, g, d, t, os⟩ := s
  have hcls := PySem.W.looks_clsIn (M := model X.prog X.w) I.kIn hcl
  have hxs : a ≠ hp.objs.size := Nat.ne_of_lt (Heap.lt_size ho)
  refine PySem.W.set_plain I.kIn (ox := { cls := .ref C, dict := none, data := .fields #[.ref t1, .none, .none, .none, .bool false, .none] }) (od := none) ⟨ho, rfl, rfl, trivial⟩ T.sa ?_
  refine ar_store (od := none) I.kIn ⟨ho, rfl, rfl, trivial⟩ hcl rfl hno ?_
  unfold Builtin.ObjectAttr.storeInOwnDict Builtin.ObjectAttr.ownDictForStores
  repeat (first | with_reducible refine PySem.HandSPX.store_in_new ?_ ?_ | with_reducible refine wpAny_loadPart_at ho ?_ | with_reducible refine hcls.at ?_ | wp_step)
  · exact ⟨_, #[], _, (Heap.get?_update_ne _ _ _ _ hxs.symm).trans (Heap.get?_push_at rfl rfl), rfl, fun e he => absurd he (by simp), fun _ => rfl⟩
  intro h' tk' hn hs
  have k : ∀ b o, b ≠ a → hp.get? b = some o → h'.get? b = some o := fun b o hb q => (hs.2 b (Nat.ne_of_lt (Heap.lt_size q))).trans ((Heap.get?_update_ne _ _ _ _ hb).trans (Heap.get?_push_of_some _ q))
  have hx : h'.get? a = some { cls := .ref C, dict := some hp.objs.size, data := .fields #[.ref t1, .none, .none, .none, .bool false, .none] } :=
    (hs.2 a hxs).trans (Heap.get?_update_self _ (Heap.get?_push_of_some _ ho) rfl)
  have hnd : H hp.objs.size = none := I.hok.fresh (Nat.le_refl _)
  have na : ∀ {b : Addr}, H b = none → b ≠ a := fun {b} n z => by
    rw [z, e] at n
    cases n
  have nd : ∀ {b : Addr} {o : Obj}, hp.get? b = some o → b ≠ hp.objs.size := fun q => Nat.ne_of_lt (Heap.lt_size q)
  have U : Un X.fs [] H (upd (upd H hp.objs.size (exd hp.objs.size [(f, y)])) a (exo a C (some hp.objs.size))) hp h' := {
    keep := fun b o q n _ _ => k b o (na n) q
    slot := fun b o q n _ _ => ⟨o.slots, k b o (na n) q⟩
    free := fun b o q n _ => by rw [upd_ne (na n), upd_ne (nd q)]; exact n
    there := fun b o q _ => by
      by_cases hb : b = a
      · exact ⟨_, by rw [hb]; exact hx⟩
      · exact ⟨o, k b o hb q⟩
    tups := fun b xs q => by rw [upd_ne (at_ne e q exo_tup), upd_ne (ne_of_none q hnd)]; exact q
    frzs := fun b o v q => by rw [upd_ne (at_ne e q exo_frz), upd_ne (ne_of_none q hnd)]; exact q
    tbls := fun b ps q => ⟨#[], by rw [upd_ne (at_ne e q exo_tbl), upd_ne (ne_of_none q hnd), q]; simp⟩ }
  refine h _ _ hnd hxs.symm (I.un (t' := tk') U fun b o q => ?_)
  by_cases hb : b = a
  · subst hb
    rw [upd_same] at q
    cases q
    exact exo_ok hx
  rw [upd_ne hb] at q
  by_cases hd : b = hp.objs.size
  · subst hd
    rw [upd_same] at q
    cases q
    exact exd_ok hn (relO_put (fs := []) ry fun g => True.intro)
  rw [upd_ne hd] at q
  refine (I.hok b o q).stay (fun c v hc z => k c v ?_ z) (fun c hc => ?_) (fun c xs hc => ?_)
  · rcases hc with rfl | hc
    · exact hb
    · exact at_ne e hc exo_own
  · rw [upd_ne (at_ne e hc exo_own), upd_ne (ne_of_none hc hnd)]
    exact hc
  · rw [upd_ne (at_ne e hc exo_tup), upd_ne (ne_of_none hc hnd)]
    exact hc
theorem ar_old (T : OexA X.K C) (I : Inv X pins σ H s) (e : H a = some (exo a C (some dx))) (ed : H dx = some (exd dx fs)) (hl : fs.length ≤ 900) (hno : PySem.W.findIn X.K (.ref C) f = some none) (ry : RelV y u)
    (h : ∀ s', Inv X pins σ (upd H dx (exd dx ((f, y) :: fs))) s' → Q () s') : wpAny (model X.prog X.w) A (setAttr (.ref a) f u) Q E s := by
  obtain ⟨nm, q, N, bs, L, sn, sub, ab, col, dd, k0, k1, k2, k3, k5, hC⟩ := T.cls
  have hcl : PySem.W.clsIn X.K C = some { name := nm, bases := bs, mro := .ref C :: .ref L :: arTail, ns := N, qualname := q, hasDict := true, slotNames := sn, subclasses := sub, abstract := ab, collection := col, hasDel := false } := by unfold PySem.W.clsIn; rw [hC] <;> rfl
  obtain ⟨t1, ho⟩ := exo_at I.hok e
  obtain ⟨mA, hns, rel⟩ := exd_at I.hok ed
  have hw := within_of rel
  obtain ⟨hp, g, d, t, os⟩ := s
  obtain ⟨oD, _, _, hoD, _, _⟩ := hns.count hw
  have hcls := PySem.W.looks_clsIn (M := model X.prog X.w) I.kIn hcl
  have hz : (fs.map (·.1)).length ≤ 1000 := by rw [List.length_map]; omega
  refine PySem.W.set_plain I.kIn (ox := { cls := .ref C, dict := some dx, data := .fields #[.ref t1, .none, .none, .none, .bool false, .none] }) (od := some oD) ⟨ho, rfl, rfl, hoD⟩ T.sa ?_
  refine ar_store (od := some oD) I.kIn ⟨ho, rfl, rfl, hoD⟩ hcl rfl hno ?_
  unfold Builtin.ObjectAttr.storeInOwnDict Builtin.ObjectAttr.ownDictForStores
  repeat (first | with_reducible refine PySem.OEX.store_in_old hns hw hz ?_ | with_reducible refine wpAny_loadPart_at ho ?_ | with_reducible refine hcls.at ?_ | wp_step)
  intro h' tk' hn hs
  have hd : ∃ o, h'.get? dx = some o := by
    obtain ⟨o, _, _, e', _⟩ := hn
    exact ⟨o, e'⟩
  exact h _ (I.write (t' := tk') (x := dx) (e := dx) (o := exd dx ((f, y) :: fs)) (by rw [ed]; exact True.intro) (.inl rfl) (fun b o hb q => (hs.2 b hb).trans q) hd (exd_ok hn (relO_put ry rel)))
end
/-- self.f = e -/
def tOstA (K : PySem.W.Frag) (f : Str) (to te : TE) : TS := fun D σ H => te σ H fun y H1 => to σ H1 fun x H2 => ∃ a C : Addr, x = .ref a ∧ OexA K C ∧ PySem.W.findIn K (.ref C) f = some none ∧
  ((H2 a = some (exo a C none) ∧ ∀ dx, H2 dx = none → dx ≠ a → D.nx σ (upd (upd H2 dx (exd dx [(f, y)])) a (exo a C (some dx)))) ∨
    ∃ (dx : Addr) (fs : List (Str × V)), H2 a = some (exo a C (some dx)) ∧ H2 dx = some (exd dx fs) ∧ fs.length ≤ 900 ∧ D.nx σ (upd H2 dx (exd dx ((f, y) :: fs))))
section
variable {X : Cx} {o e : Expr} {es : List Expr} {to te : TE} {ta : TA} {f : Str} {p p' pos : Pos}
theorem ps_ostA (ho : PE X o to) (he : PE X e te) (hs : swapsWith e (some (.Attribute o f p')) pos.line X.env = pure false := by rfl) : PS X (.Assign [.Attribute o f p'] e pos) (tOstA X.K f to te) := by
  refine ⟨fun pins s σ H D I h => plainObj_wpAny_Assign_Attribute (thn (he.run pins s σ H _ I h) fun v s1 ⟨y, H1, I1, r1, q1⟩ => thn (ho.run pins s1 σ H1 _ I1 q1) fun u s2 ⟨x, H2, I2, r2, a, C, ex, T, hno, q⟩ => ?_) hs⟩
  subst ex
  obtain rfl : u = Value.ref a := r2
  rcases q with ⟨ea, q⟩ | ⟨dx, fs, ea, ed, hl, q⟩
  · exact ar_new T I2 ea hno r1 fun dx s' n ne J => ⟨σ, _, J, q dx n ne⟩
  · exact ar_old T I2 ea ed hl hno r1 fun s' J => ⟨σ, _, J, q⟩
theorem pmk_oexA {CX : CXT} {x : Str} {C fI : Addr} {k : Nat} {fd : FuncData} {ps : List Str} {sp : Sp} {ds : List Value} {dvs : List V} (T : OexA X.K C) (iC : PySem.W.findIn X.K (.ref C) "__init__" = some (some (.ref fI))) (tI : PySem.W.typeIn X.K (.ref fI) = some (.type "function"))
    (F1 : FnOk X.prog X.w X.K X.mg X.base CX k fI fd ps sp) (hr : Room (k + 1) X.A) (hb : Binds X.K fd ps ds) (hd : Vals dvs ds) (hx : Passes CX X (fun _ _ _ => False)) (hg : Gl X x) (hm : X.mg x = some (.ref C)) (ha : PA X (e :: es) ta)
    (hdb : (x == ("__debug__" : Str)) = false := by decide) (he : starEach (e :: es) X.env = (false, eval e X.env) :: starEach es X.env := by rfl) (hpl : (backTo pos (starEach es X.env)).any (·.1) = false := by rfl) :
    PMk X (.Call (.Name x p) (e :: es) [] pos) (tMkO C sp dvs ta) := by
  intro pins s σ H Q I h
  obtain ⟨nm, q, N, bs, L, sn, sub, ab, col, dd, k0, k1, k2, k3, k5, hC⟩ := T.cls
  refine wpAny_Call_Name_kw (ld_glob I hg hm ?_ hdb)
  refine PySem.W.callWith_K (h₀ := X.base) I.ok.mod.kin T.kC (thn (ha.run pos pins s σ H _ I h) fun us s1 ⟨vs, H1, I1, r1, hz, q1⟩ => ⟨I1.kIn, ?_⟩) he hpl
  show wpAny _ _ (call (.ref C) us) _ _ _
  obtain ⟨hp, g, dr, tk, os⟩ := s1
  have hsz : hp.objs.size ≤ hp.objs.size + 1 := Nat.le_succ _
  have hq := q1 _ (I1.hok.fresh hsz)
  have kk : ∀ b o, hp.get? b = some o → ((hp.push (PySem.W.kdv_tup us)).push (PySem.HandSPX.excO C hp.objs.size)).get? b = some o := fun b o e => Heap.get?_push_of_some _ (Heap.get?_push_of_some _ e)
  have I2 : Inv X pins σ (upd H1 (hp.objs.size + 1) (exo (hp.objs.size + 1) C none)) ⟨(hp.push (PySem.W.kdv_tup us)).push (PySem.HandSPX.excO C hp.objs.size), g, dr, tk, os⟩ :=
    I1.laid (t' := tk) (a := hp.objs.size + 1) (o := exo (hp.objs.size + 1) C none) (h' := (hp.push (PySem.W.kdv_tup us)).push (PySem.HandSPX.excO C hp.objs.size)) kk hsz (exo_ok (t1 := hp.objs.size) (by heap_get))
  have r2 : Vals (V.ref (hp.objs.size + 1) :: (vs ++ dvs)) (Value.ref (hp.objs.size + 1) :: (us ++ ds)) := .cons rfl (r1.append hd)
  have hl : (Value.ref (hp.objs.size + 1) :: us ++ ds).length = ps.length := r2.length.symm.trans (F1.len _ _ _ _ hq)
  have hus : us.length ≤ sizeLine := by
    rw [← Paired.length r1, sizeLine_eq]
    omega
  refine wpAny_call (PySem.HandSPX.call_own F.excBase_ArithmeticError (ar_con L) (I1.kIn _ _ hC) (PySem.W.looks_findIn I1.kIn iC) (fun self => PySem.W.bind_fn I1.kIn self tI) hus
    (codeAny_mono (F1.run _ X.stack _ _ ⟨Value.ref (hp.objs.size + 1) :: us, []⟩ (Value.ref (hp.objs.size + 1) :: (us ++ ds)) _ _ (fun _ _ _ => False) (hr.make C us []) (I2.env0.make C us []) (hb _ (Value.ref (hp.objs.size + 1) :: us) I2.kIn hl) r2 hq) fun r s' hq' => ?_))
  match r, hq' with
  | .error er, hq' => exact hx pins σ _ _ er s' I2 hq'
  | .ok (.ret u), hq' =>
    obtain ⟨v, H2, os2, bare2, un2, hok2, rv, ev, d, fs, ea, ed, hd1, q2⟩ := hq'
    subst ev
    obtain ⟨h2, g2, d2, t2, os'⟩ := s'
    exact ⟨rv, mk_end (raises_own T.exC T.tyC) I1 hsz kk un2 hok2 os2 bare2 ea ed hd1 q2⟩
  | .ok .next, hq' => exact hq'.elim
  | .ok .brk, hq' => exact hq'.elim
  | .ok .cont, hq' => exact hq'.elim
end
end Lb

set_option Elab.async false
set_option linter.all false
set_option maxRecDepth 100000
set_option maxHeartbeats 4000000
/-! own exceptions below an own class over any built-in one, as values: made (by position, by name), their fields set and read, isinstance of them -/
namespace Lb
open PySem L2
/-- the built-in class at the bottom -/
structure Fam (B newId initId : String) (tail : List Value) : Prop where
  base : ExcBaseFacts B newId initId tail
  pass : ∀ self, refuseLoop self "__setattr__" tail = pure ()
  obj : tail.contains (.type "object") = true
theorem famVE : Fam "ValueError" "ValueError.__new__" "ValueError.__init__" [.type "ValueError", .type "Exception", .type "BaseException", .type "object"] := ⟨F.excBase_ValueError, F.store_ValueError.passes, by decide +kernel⟩
theorem famAE : Fam "ArithmeticError" "ArithmeticError.__new__" "ArithmeticError.__init__" arTail := ⟨F.excBase_ArithmeticError, F.store_ArithmeticError.passes, by decide +kernel⟩
theorem famLE : Fam "LookupError" "LookupError.__new__" "LookupError.__init__" [.type "LookupError", .type "Exception", .type "BaseException", .type "object"] := ⟨F.excBase_LookupError, F.store_LookupError.passes, by decide +kernel⟩
theorem famRE : Fam "RuntimeError" "RuntimeError.__new__" "RuntimeError.__init__" [.type "RuntimeError", .type "Exception", .type "BaseException", .type "object"] := ⟨F.excBase_RuntimeError, F.store_RuntimeError.passes, by decide +kernel⟩
theorem fm_con (L : Addr) (tail : List Value) (Y : String) : (Value.ref L :: tail).contains (.type Y) = tail.contains (.type Y) := by
  rw [List.contains_cons]
  rfl
/-- what the written part says of such a class: one own class stands above it -/
structure OexF (K : PySem.W.Frag) (C : Addr) : Prop where
  cls : ∃ B newId initId tail nm q N bs L sn sub ab col dd k0 k1 k2 k3 k5, Fam B newId initId tail ∧ K.lookup C = some (excClassObj nm q C N bs (.ref L :: tail) true sn sub ab col dd k0 k1 k2 k3 k5 newId)
  sa : PySem.W.findIn K (.ref C) "__setattr__" = some (some (.builtin "object.__setattr__"))
  exC : PySem.W.subIn K (.ref C) (.type "BaseException") = some true
  tyC : PySem.W.typeIn K (.ref C) = some (.type "type")
  kC : PySem.W.keepIn K (.ref C) = true
/-- the class and its __init__ -/
structure ExqF (K : PySem.W.Frag) (mg : Str → Option Value) (x : Str) (C f : Addr) : Prop where
  mC : mg x = some (.ref C)
  ox : OexF K C
  eC : ExcC K C
  iC : PySem.W.findIn K (.ref C) "__init__" = some (some (.ref f))
  tI : PySem.W.typeIn K (.ref f) = some (.type "function")
section
open Builtin Builtin.ObjectAttr
variable {prog : Program} {w : World} {A : Around} {E : Value → Shared → Prop} {R : Result → Shared → Prop} {hp : Heap} {g : Array GenState} {d : Drawn} {t : Nat} {os : OsState}
/-- as far as the store into the own dict -/
theorem fm_store {K : PySem.W.Frag} {name : Str} {tk : Tok} {v : Value} {x C L : Addr} {tail : List Value} {B newId initId : String} (FM : Fam B newId initId tail) {ox : Obj} {od : Option Obj} {cd : ClassData}
    (X : K.In hp) (I : PySem.W.InstAt hp x ox C od) (hcd : PySem.W.clsIn K C = some cd) (hm : cd.mro = .ref C :: .ref L :: tail) (ha : PySem.W.findIn K (.ref C) name = some none)
    (hq : wpAny (model prog w) A.in1 (storeInOwnDict (.ref x) (.ref C) (.str name tk) name v false)
      (fun fin s' => match fin with | .done f => R (.ok f) s' | .again c' => c'.quiet = true ∧ codeAny (model prog w) A c' R s') (fun e s' => R (.error e) s') ⟨hp, g, d, t, os⟩) :
    codeAny (model prog w) A (.call (.builtin "object.__setattr__") ⟨[.ref x, .str name tk, v], []⟩) R ⟨hp, g, d, t, os⟩ := by
  have SF := F.store_object
  have hob : PySem.W.mroIn K C (.type "object") = some true := by
    unfold PySem.W.mroIn
    rw [hcd, Option.bind_some, hm, if_neg (show ¬ (List.isEmpty (Value.ref C :: .ref L :: tail) = true) from Bool.false_ne_true), List.contains_cons, fm_con]
    exact congrArg some ((congrArg (_ || ·) (show tail.contains (.type "object") = true from FM.obj)).trans (Bool.or_true _))
  have sub : PySem.W.Looks (model prog w) hp (isInstance (.ref x) (.type "object")) true := I.type.andThen (PySem.W.looks_mroIn X hob)
  have hmr : PySem.W.Looks (model prog w) hp (mroOf (.ref C)) cd.mro := (PySem.W.looks_clsIn X hcd).andThen .now
  have L3 : PySem.W.Looks (model prog w) hp (storeTaker? none) none := .now
  have hpass : refuseLoop (.ref x) "__setattr__" cd.mro = pure () := by
    rw [hm, refuseLoop_ref, refuseLoop_ref]
    exact FM.pass _
  refine codeAny_call_builtin SF.slot.plain SF.entry (@PySem.W.check_slot (model prog w) _ _ ⟨hp, g, d, t, os⟩ "object.__setattr__" "object" "__setattr__" (.ref x) [.str name tk, v] [] _ SF.kind SF.split sub (SF.args (.ref x) (.str name tk) v) ?_)
  rw [PySem.W.osa_eq, refuse_eq]
  refine wpAny_bind (wpAny_bind (I.type.at (wpAny_bind (hmr.at ?_))))
  rw [hpass]
  exact wpAny_pure (wpAny_bind (I.type.at (wpAny_bind ((PySem.W.looks_findIn X ha).at (wpAny_bind (L3.at hq))))))
end
section
variable {X : Cx} {pins : List (Addr × Obj)} {σ : L2.St} {H : Hp} {s : Shared} {a C dx : Addr} {f : Str} {y : V} {u : Value} {fs : List (Str × V)} {Q : Unit → Shared → Prop} {E : Value → Shared → Prop} {A : Around}
theorem fm_new (T : OexF X.K C) (I : Inv X pins σ H s) (e : H a = some (exo a C none)) (hno : PySem.W.findIn X.K (.ref C) f = some none) (ry : RelV y u)
    (h : ∀ dx s', H dx = none → dx ≠ a → Inv X pins σ (upd (upd H dx (exd dx [(f, y)])) a (exo a C (some dx))) s' → Q () s') : wpAny (model X.prog X.w) A (setAttr (.ref a) f u) Q E s := by
  obtain ⟨B, newId, initId, tail, nm, q, N, bs, L, sn, sub, ab, col, dd, k0, k1, k2, k3, k5, FM, hC⟩ := T.cls
  have hcl : PySem.W.clsIn X.K C = some { name := nm, bases := bs, mro := .ref C :: .ref L :: tail, ns := N, qualname := q, hasDict := true, slotNames := sn, subclasses := sub, abstract := ab, collection := col, hasDel := false } := by unfold PySem.W.clsIn; rw [hC] <;> rfl
  obtain ⟨t1, ho⟩ := exo_at I.hok e
  obtain ⟨hp, g, d, t, os⟩ := s
  have hcls := PySem.W.looks_clsIn (M := model X.prog X.w) I.kIn hcl
  have hxs : a ≠ hp.objs.size := Nat.ne_of_lt (Heap.lt_size ho)
  refine PySem.W.set_plain I.kIn (ox := { cls := .ref C, dict := none, data := .fields #[.ref t1, .none, .none, .none, .bool false, .none] }) (od := none) ⟨ho, rfl, rfl, trivial⟩ T.sa ?_
  refine fm_store FM (od := none) I.kIn ⟨ho, rfl, rfl, trivial⟩ hcl rfl hno ?_
  unfold Builtin.ObjectAttr.storeInOwnDict Builtin.ObjectAttr.ownDictForStores
  repeat (first | with_reducible refine PySem.HandSPX.store_in_new ?_ ?_ | with_reducible refine wpAny_loadPart_at ho ?_ | with_reducible refine hcls.at ?_ | wp_step)
  · exact ⟨_, #[], _, (Heap.get?_update_ne _ _ _ _ hxs.symm).trans (Heap.get?_push_at rfl rfl), rfl, fun e he => absurd he (by simp), fun _ => rfl⟩
  intro h' tk' hn hs
  have k : ∀ b o, b ≠ a → hp.get? b = some o → h'.get? b = some o := fun b o hb q => (hs.2 b (Nat.ne_of_lt (Heap.lt_size q))).trans ((Heap.get?_update_ne _ _ _ _ hb).trans (Heap.get?_push_of_some _ q))
  have hx : h'.get? a = some { cls := .ref C, dict := some hp.objs.size, data := .fields #[.ref t1, .none, .none, .none, .bool false, .none] } :=
    (hs.2 a hxs).trans (Heap.get?_update_self _ (Heap.get?_push_of_some _ ho) rfl)
  have hnd : H hp.objs.size = none := I.hok.fresh (Nat.le_refl _)
  have na : ∀ {b : Addr}, H b = none → b ≠ a := fun {b} n z => by
    rw [z, e] at n
    cases n
  have nd : ∀ {b : Addr} {o : Obj}, hp.get? b = some o → b ≠ hp.objs.size := fun q => Nat.ne_of_lt (Heap.lt_size q)
  have U : Un X.fs [] H (upd (upd H hp.objs.size (exd hp.objs.size [(f, y)])) a (exo a C (some hp.objs.size))) hp h' := {
    keep := fun b o q n _ _ => k b o (na n) q
    slot := fun b o q n _ _ => ⟨o.slots, k b o (na n) q⟩
    free := fun b o q n _ => by rw [upd_ne (na n), upd_ne (nd q)]; exact n
    there := fun b o q _ => by
      by_cases hb : b = a
      · exact ⟨_, by rw [hb]; exact hx⟩
      · exact ⟨o, k b o hb q⟩
    tups := fun b xs q => by rw [upd_ne (at_ne e q exo_tup), upd_ne (ne_of_none q hnd)]; exact q
    frzs := fun b o v q => by rw [upd_ne (at_ne e q exo_frz), upd_ne (ne_of_none q hnd)]; exact q
    tbls := fun b ps q => ⟨#[], by rw [upd_ne (at_ne e q exo_tbl), upd_ne (ne_of_none q hnd), q]; simp⟩ }
  refine h _ _ hnd hxs.symm (I.un (t' := tk') U fun b o q => ?_)
  by_cases hb : b = a
  · subst hb
    rw [upd_same] at q
    cases q
    exact exo_ok hx
  rw [upd_ne hb] at q
  by_cases hd : b = hp.objs.size
  · subst hd
    rw [upd_same] at q
    cases q
    exact exd_ok hn (relO_put (fs := []) ry fun g => True.intro)
  rw [upd_ne hd] at q
  refine (I.hok b o q).stay (fun c v hc z => k c v ?_ z) (fun c hc => ?_) (fun c xs hc => ?_)
  · rcases hc with rfl | hc
    · exact hb
    · exact at_ne e hc exo_own
  · rw [upd_ne (at_ne e hc exo_own), upd_ne (ne_of_none hc hnd)]
    exact hc
  · rw [upd_ne (at_ne e hc exo_tup), upd_ne (ne_of_none hc hnd)]
    exact hc
theorem fm_old (T : OexF X.K C) (I : Inv X pins σ H s) (e : H a = some (exo a C (some dx))) (ed : H dx = some (exd dx fs)) (hl : fs.length ≤ 900) (hno : PySem.W.findIn X.K (.ref C) f = some none) (ry : RelV y u)
    (h : ∀ s', Inv X pins σ (upd H dx (exd dx ((f, y) :: fs))) s' → Q () s') : wpAny (model X.prog X.w) A (setAttr (.ref a) f u) Q E s := by
  obtain ⟨B, newId, initId, tail, nm, q, N, bs, L, sn, sub, ab, col, dd, k0, k1, k2, k3, k5, FM, hC⟩ := T.cls
  have hcl : PySem.W.clsIn X.K C = some { name := nm, bases := bs, mro := .ref C :: .ref L :: tail, ns := N, qualname := q, hasDict := true, slotNames := sn, subclasses := sub, abstract := ab, collection := col, hasDel := false } := by unfold PySem.W.clsIn; rw [hC] <;> rfl
  obtain ⟨t1, ho⟩ := exo_at I.hok e
  obtain ⟨mA, hns, rel⟩ := exd_at I.hok ed
  have hw := within_of rel
  obtain ⟨hp, g, d, t, os⟩ := s
  obtain ⟨oD, _, _, hoD, _, _⟩ := hns.count hw
  have hcls := PySem.W.looks_clsIn (M := model X.prog X.w) I.kIn hcl
  have hz : (fs.map (·.1)).length ≤ 1000 := by rw [List.length_map]; omega
  refine PySem.W.set_plain I.kIn (ox := { cls := .ref C, dict := some dx, data := .fields #[.ref t1, .none, .none, .none, .bool false, .none] }) (od := some oD) ⟨ho, rfl, rfl, hoD⟩ T.sa ?_
  refine fm_store FM (od := some oD) I.kIn ⟨ho, rfl, rfl, hoD⟩ hcl rfl hno ?_
  unfold Builtin.ObjectAttr.storeInOwnDict Builtin.ObjectAttr.ownDictForStores
  repeat (first | with_reducible refine PySem.OEX.store_in_old hns hw hz ?_ | with_reducible refine wpAny_loadPart_at ho ?_ | with_reducible refine hcls.at ?_ | wp_step)
  intro h' tk' hn hs
  have hd : ∃ o, h'.get? dx = some o := by
    obtain ⟨o, _, _, e', _⟩ := hn
    exact ⟨o, e'⟩
  exact h _ (I.write (t' := tk') (x := dx) (e := dx) (o := exd dx ((f, y) :: fs)) (by rw [ed]; exact True.intro) (.inl rfl) (fun b o hb q => (hs.2 b hb).trans q) hd (exd_ok hn (relO_put ry rel)))
end
/-- self.f = e -/
def tOstF (K : PySem.W.Frag) (f : Str) (to te : TE) : TS := fun D σ H => te σ H fun y H1 => to σ H1 fun x H2 => ∃ a C : Addr, x = .ref a ∧ OexF K C ∧ PySem.W.findIn K (.ref C) f = some none ∧
  ((H2 a = some (exo a C none) ∧ ∀ dx, H2 dx = none → dx ≠ a → D.nx σ (upd (upd H2 dx (exd dx [(f, y)])) a (exo a C (some dx)))) ∨
    ∃ (dx : Addr) (fs : List (Str × V)), H2 a = some (exo a C (some dx)) ∧ H2 dx = some (exd dx fs) ∧ fs.length ≤ 900 ∧ D.nx σ (upd H2 dx (exd dx ((f, y) :: fs))))
section
variable {X : Cx} {o e : Expr} {es : List Expr} {to te : TE} {ta : TA} {f : Str} {p p' pos : Pos}
theorem ps_ostF (ho : PE X o to) (he : PE X e te) (hs : swapsWith e (some (.Attribute o f p')) pos.line X.env = pure false := by rfl) : PS X (.Assign [.Attribute o f p'] e pos) (tOstF X.K f to te) := by
  refine ⟨fun pins s σ H D I h => plainObj_wpAny_Assign_Attribute (thn (he.run pins s σ H _ I h) fun v s1 ⟨y, H1, I1, r1, q1⟩ => thn (ho.run pins s1 σ H1 _ I1 q1) fun u s2 ⟨x, H2, I2, r2, a, C, ex, T, hno, q⟩ => ?_) hs⟩
  subst ex
  obtain rfl : u = Value.ref a := r2
  rcases q with ⟨ea, q⟩ | ⟨dx, fs, ea, ed, hl, q⟩
  · exact fm_new T I2 ea hno r1 fun dx s' n ne J => ⟨σ, _, J, q dx n ne⟩
  · exact fm_old T I2 ea ed hl hno r1 fun s' J => ⟨σ, _, J, q⟩
theorem pmk_oexF {CX : CXT} {x : Str} {C fI : Addr} {k : Nat} {fd : FuncData} {ps : List Str} {sp : Sp} {ds : List Value} {dvs : List V} (T : OexF X.K C) (iC : PySem.W.findIn X.K (.ref C) "__init__" = some (some (.ref fI))) (tI : PySem.W.typeIn X.K (.ref fI) = some (.type "function"))
    (F1 : FnOk X.prog X.w X.K X.mg X.base CX k fI fd ps sp) (hr : Room (k + 1) X.A) (hb : Binds X.K fd ps ds) (hd : Vals dvs ds) (hx : Passes CX X (fun _ _ _ => False)) (hg : Gl X x) (hm : X.mg x = some (.ref C)) (ha : PA X (e :: es) ta)
    (hdb : (x == ("__debug__" : Str)) = false := by decide) (he : starEach (e :: es) X.env = (false, eval e X.env) :: starEach es X.env := by rfl) (hpl : (backTo pos (starEach es X.env)).any (·.1) = false := by rfl) :
    PMk X (.Call (.Name x p) (e :: es) [] pos) (tMkO C sp dvs ta) := by
  intro pins s σ H Q I h
  obtain ⟨B, newId, initId, tail, nm, q, N, bs, L, sn, sub, ab, col, dd, k0, k1, k2, k3, k5, FM, hC⟩ := T.cls
  refine wpAny_Call_Name_kw (ld_glob I hg hm ?_ hdb)
  refine PySem.W.callWith_K (h₀ := X.base) I.ok.mod.kin T.kC (thn (ha.run pos pins s σ H _ I h) fun us s1 ⟨vs, H1, I1, r1, hz, q1⟩ => ⟨I1.kIn, ?_⟩) he hpl
  show wpAny _ _ (call (.ref C) us) _ _ _
  obtain ⟨hp, g, dr, tk, os⟩ := s1
  have hsz : hp.objs.size ≤ hp.objs.size + 1 := Nat.le_succ _
  have hq := q1 _ (I1.hok.fresh hsz)
  have kk : ∀ b o, hp.get? b = some o → ((hp.push (PySem.W.kdv_tup us)).push (PySem.HandSPX.excO C hp.objs.size)).get? b = some o := fun b o e => Heap.get?_push_of_some _ (Heap.get?_push_of_some _ e)
  have I2 : Inv X pins σ (upd H1 (hp.objs.size + 1) (exo (hp.objs.size + 1) C none)) ⟨(hp.push (PySem.W.kdv_tup us)).push (PySem.HandSPX.excO C hp.objs.size), g, dr, tk, os⟩ :=
    I1.laid (t' := tk) (a := hp.objs.size + 1) (o := exo (hp.objs.size + 1) C none) (h' := (hp.push (PySem.W.kdv_tup us)).push (PySem.HandSPX.excO C hp.objs.size)) kk hsz (exo_ok (t1 := hp.objs.size) (by heap_get))
  have r2 : Vals (V.ref (hp.objs.size + 1) :: (vs ++ dvs)) (Value.ref (hp.objs.size + 1) :: (us ++ ds)) := .cons rfl (r1.append hd)
  have hl : (Value.ref (hp.objs.size + 1) :: us ++ ds).length = ps.length := r2.length.symm.trans (F1.len _ _ _ _ hq)
  have hus : us.length ≤ sizeLine := by
    rw [← Paired.length r1, sizeLine_eq]
    omega
  refine wpAny_call (PySem.HandSPX.call_own FM.base (fm_con L tail) (I1.kIn _ _ hC) (PySem.W.looks_findIn I1.kIn iC) (fun self => PySem.W.bind_fn I1.kIn self tI) hus
    (codeAny_mono (F1.run _ X.stack _ _ ⟨Value.ref (hp.objs.size + 1) :: us, []⟩ (Value.ref (hp.objs.size + 1) :: (us ++ ds)) _ _ (fun _ _ _ => False) (hr.make C us []) (I2.env0.make C us []) (hb _ (Value.ref (hp.objs.size + 1) :: us) I2.kIn hl) r2 hq) fun r s' hq' => ?_))
  match r, hq' with
  | .error er, hq' => exact hx pins σ _ _ er s' I2 hq'
  | .ok (.ret u), hq' =>
    obtain ⟨v, H2, os2, bare2, un2, hok2, rv, ev, d, fs, ea, ed, hd1, q2⟩ := hq'
    subst ev
    obtain ⟨h2, g2, d2, t2, os'⟩ := s'
    exact ⟨rv, mk_end (raises_own T.exC T.tyC) I1 hsz kk un2 hok2 os2 bare2 ea ed hd1 q2⟩
  | .ok .next, hq' => exact hq'.elim
  | .ok .brk, hq' => exact hq'.elim
  | .ok .cont, hq' => exact hq'.elim
end
end Lb

set_option Elab.async false
set_option linter.all false
set_option maxRecDepth 100000
set_option maxHeartbeats 4000000
namespace Lb
open PySem PySem.PX
section
variable {M : Model} {prog : Program} {w : World} {A : Around} {E : Value → Shared → Prop} {R : Result → Shared → Prop} {h : Heap} {g : Array GenState} {d : Drawn} {t : Nat} {os : OsState}
variable {nm q : Str} {C N : Addr} {bs bm bmB : List Value} {hdct : Bool} {sn : List Str} {sub : List Value} {ab : Bool} {col : Option Bool} {dd : Option Addr} {k0 k1 k2 k3 k5 : Option Value} {B newId initId : String}
theorem kw_check (F : ExcBaseFacts B newId initId bmB) (hT : ∀ X : String, bm.contains (.type X) = bmB.contains (.type X)) {rest : List Value} {kw : List (Str × Value)} {Q : Unit → Shared → Prop}
    (hC : h.get? C = some (excClassObj nm q C N bs bm hdct sn sub ab col dd k0 k1 k2 k3 k5 newId)) (hq : Q () ⟨h, g, d, t, os⟩) : wpAny M A (checkBuiltinCall newId ⟨.ref C :: rest, kw⟩) Q E ⟨h, g, d, t, os⟩ := by
  have hcont : (Value.ref C :: bm).contains (.type B) = true := by rw [List.contains_cons, hT, F.hasB, Bool.or_true]
  have hstar := F.noStar
  simp only [checkBuiltinCall, F.newKind, F.newSplit, F.newRow]
  repeat (first | refine wpAny_loadPart_at hC ?_ | (refine wpAny_isSubtype_exc hC ?_; rw [hcont]) | refine wpAny_staticBase_exc hC ?_ | refine wpAny_madeBy_exc hC ?_ | simp only [bne_self_eq_false, Bool.false_eq_true, if_false] | wp_step)
  exact hq
theorem kw_new (F : ExcBaseFacts B newId initId bmB) (hT : ∀ X : String, bm.contains (.type X) = bmB.contains (.type X)) {rest : List Value} {kw : List (Str × Value)}
    (hC : h.get? C = some (excClassObj nm q C N bs bm hdct sn sub ab col dd k0 k1 k2 k3 k5 newId))
    (hq : R (.ok (.ret (.ref (h.objs.size + 1)))) ⟨(h.push (W.kdv_tup rest)).push (HandSPX.excO C h.objs.size), g, d, t, os⟩) (hrest : rest.length ≤ sizeLine) :
    codeAny (model prog w) A (.builtin newId ⟨.ref C :: rest, kw⟩) R ⟨h, g, d, t, os⟩ := by
  have he := F.ends
  have hB : (Value.ref C :: bm).contains (.type B) = true := by rw [List.contains_cons, hT, F.hasB, Bool.or_true]
  have hA : (Value.ref C :: bm).contains (.type "AttributeError") = false := by rw [List.contains_cons, hT, F.noAttr]; rfl
  have hN : (Value.ref C :: bm).contains (.type "NameError") = false := by rw [List.contains_cons, hT, F.noName]; rfl
  refine codeAny_builtinAt F.entry ?_
  unfold Builtin.«BaseException.__new__»
  refine wpAt_bind ?_
  show wpAt _ _ _ (stack >>= _) _ _ _
  refine wpAt_bind (wpAt_stack fun p below => wpAt_of_wpAny ?_)
  wp_walk
  refine wpAt_of_wpAny ?_
  rw [F.owner]
  repeat (first | with_reducible refine wpAny_madeHere_exc F.canon hC ?_ | with_reducible refine wpAny_loadPart_at hC ?_ | (with_reducible refine wpAny_isSubtype_exc hC ?_; first | rw [hB] | rw [hA] | rw [hN]) | wp_step)
  show R _ _
  rw [Heap.size_push]
  exact hq
theorem kw_type (F : ExcBaseFacts B newId initId bmB) (hT : ∀ X : String, bm.contains (.type X) = bmB.contains (.type X)) {rest : List Value} {kw : List (Str × Value)} {fI : Addr} {Q : Fin → Shared → Prop}
    (hC : h.get? C = some (excClassObj nm q C N bs bm hdct sn sub ab col dd k0 k1 k2 k3 k5 newId))
    (hi : W.Looks (model prog w) h (typeLookup (.ref C) "__init__") (some (.ref fI))) (hb : ∀ self, W.Looks (model prog w) h (bindSpecial (.ref fI) self) (.ref fI, [self])) (hrest : rest.length ≤ sizeLine)
    (hq : codeAny (model prog w) A (.call (.ref fI) ⟨.ref (h.objs.size + 1) :: rest, kw⟩)
      (fun r s' => match r with | .ok (.ret v) => v = .none ∧ Q (.done (.ret (.ref (h.objs.size + 1)))) s' | .ok _ => False | .error e => E e s')
      ⟨(h.push (W.kdv_tup rest)).push (HandSPX.excO C h.objs.size), g, d, t, os⟩) :
    wpAny (model prog w) A (Builtin.«type.__call__» ⟨.ref C :: rest, kw⟩) Q E ⟨h, g, d, t, os⟩ := by
  repeat (first | with_reducible refine wpAny_loadPart_at hC ?_ | with_reducible refine wpAny_madeBy_exc hC ?_ | wp_step)
  refine codeAny_call_builtin_code (Code.quiet_builtin _ F.quiet) (kw_check F hT hC ?_)
  refine kw_new F hT hC ?_ hrest
  show wpAny _ _ _ _ _ _
  have k : ∀ b o, h.get? b = some o → ((h.push (W.kdv_tup rest)).push (HandSPX.excO C h.objs.size)).get? b = some o := fun b o e => Heap.get?_push_of_some _ (Heap.get?_push_of_some _ e)
  have hC1 := k _ _ hC
  have hG : ((h.push (W.kdv_tup rest)).push (HandSPX.excO C h.objs.size)).get? (h.objs.size + 1) = some (HandSPX.excO C h.objs.size) := by heap_get
  have hcC : (Value.ref C :: bm).contains (.ref C) = true := by simp
  unfold isInstance
  repeat (first | with_reducible refine wpAny_loadPart_at hG ?_ | (with_reducible refine wpAny_isSubtype_exc hC1 ?_; rw [hcC]) | wp_step)
  show wpAny _ _ (typeLookup (.ref C) _) _ _ _
  refine (hi.keeps k).at ?_
  refine wpAny_holding (wpAny_bind (((hb (.ref (h.objs.size + 1))).keeps k).at ?_))
  refine wpAny_bind (wpAny_call (codeAny_mono hq fun r s' z => ?_))
  rcases r with e | (v | _ | _ | _) <;> first | exact z | exact z.elim | skip
  obtain ⟨rfl, z⟩ := z
  first
    | exact wpAny_pure (wpAny_pure z)
    | (wp_walk; exact z)
theorem kw_call (F : ExcBaseFacts B newId initId bmB) (hT : ∀ X : String, bm.contains (.type X) = bmB.contains (.type X)) {rest : List Value} {kw : List (Str × Value)} {fI : Addr}
    (hC : h.get? C = some (excClassObj nm q C N bs bm hdct sn sub ab col dd k0 k1 k2 k3 k5 newId))
    (hi : W.Looks (model prog w) h (typeLookup (.ref C) "__init__") (some (.ref fI))) (hb : ∀ self, W.Looks (model prog w) h (bindSpecial (.ref fI) self) (.ref fI, [self])) (hrest : rest.length ≤ sizeLine)
    (hq : codeAny (model prog w) (A.under (.builtin "type.__call__" ⟨.ref C :: rest, kw⟩)) (.call (.ref fI) ⟨.ref (h.objs.size + 1) :: rest, kw⟩) (W.InitBack (h.objs.size + 1) R)
      ⟨(h.push (W.kdv_tup rest)).push (HandSPX.excO C h.objs.size), g, d, t, os⟩) :
    codeAny (model prog w) A (.call (.ref C) ⟨rest, kw⟩) R ⟨h, g, d, t, os⟩ := by
  have f1 := tc_lookup
  have f2 := tc_bind (.ref C)
  have hTy : (⟨h, g, d, t, os⟩ : Shared).TypeIs (.ref C) "type" := ⟨_, hC, rfl⟩
  refine codeAny_of_tree ?_
  show wpAny _ _ (callAny (.ref C) _) _ _ _
  repeat (any_goals (first | assumption | with_reducible refine wpAny_loadPart_at hC ?_ | wp_step))
  refine ⟨rfl, ?_⟩
  refine codeAny_call_builtin_at (Code.quiet_builtin _ (by decide +kernel)) entry_typeCall (wpAny_check_type_call_sub hC (kw_type F hT hC hi hb hrest ?_))
  refine codeAny_mono hq fun r s' z => ?_
  rcases r with e | (v | _ | _ | _) <;> exact z
end

open L2
/-- C(e, ..) as a value -/
def tErr (C : Addr) (sp : Sp) (ta : TA) : TE := fun σ H Q => ta σ H fun vs H1 => vs.length ≤ 1000 ∧ ∀ a, H1 a = none → sp (.ref a :: vs) (upd H1 a (exo a C none)) (fun v H2 => v = .non ∧ Q (.ref a) H2) fun _ _ _ => False
/-- C(k = v, ..) as a value -/
def tErrK (C : Addr) (m : Nat) (sp : Sp) (gV : List V → List V → List V) (tk : TA) : TE := fun σ H Q => tk σ H fun zs H1 => zs.length = m ∧ ∀ a, H1 a = none → sp (gV [.ref a] zs) (upd H1 a (exo a C none)) (fun v H2 => v = .non ∧ Q (.ref a) H2) fun _ _ _ => False
section
variable {X : Cx} {CX : CXT} {k n : Nat} {f C : Addr} {fd : FuncData} {ps ks : List Str} {sp : Sp} {x : Str} {p pos : Pos} {e : Expr} {es : List Expr} {kws : List Keyword} {ta tk : TA} {gg : List Value → List Value → List Value} {gV : List V → List V → List V}
/-- the run of the class -/
theorem run_err {pins : List (Addr × Obj)} {σ : L2.St} {H : Hp} {s : Shared} {Q : VK} {us itf : List Value} {vsf : List V} {kw : List (Str × Value)} (T : OexF X.K C) (iC : PySem.W.findIn X.K (.ref C) "__init__" = some (some (.ref f))) (tI : PySem.W.typeIn X.K (.ref f) = some (.type "function"))
    (F1 : FnOk X.prog X.w X.K X.mg X.base CX k f fd ps sp) (hr : Room (k + 1) X.A) (hx : Passes CX X (fun _ _ _ => False)) (I : Inv X pins σ H s) (hus : us.length ≤ sizeLine)
    (hb : ∀ s' : Shared, X.K.In s'.heap → BindsTo s' fd ⟨.ref (s.heap.objs.size + 1) :: us, kw⟩ (ps.zip itf)) (r : Vals vsf itf)
    (h : sp vsf (upd H (s.heap.objs.size + 1) (exo (s.heap.objs.size + 1) C none)) (fun v H2 => v = .non ∧ Q (.ref (s.heap.objs.size + 1)) H2) fun _ _ _ => False) :
    wpAny (model X.prog X.w) X.A (call (.ref C) us kw) (EP X pins σ Q) X.xe s := by
  obtain ⟨B, newId, initId, tail, nm, q, N, bs, L, sn, sub, ab, col, dd, k0, k1, k2, k3, k5, FM, hC⟩ := T.cls
  obtain ⟨hp, g, dr, tk, os⟩ := s
  have kk : ∀ b o, hp.get? b = some o → ((hp.push (PySem.W.kdv_tup us)).push (PySem.HandSPX.excO C hp.objs.size)).get? b = some o := fun b o e => Heap.get?_push_of_some _ (Heap.get?_push_of_some _ e)
  have I2 : Inv X pins σ (upd H (hp.objs.size + 1) (exo (hp.objs.size + 1) C none)) ⟨(hp.push (PySem.W.kdv_tup us)).push (PySem.HandSPX.excO C hp.objs.size), g, dr, tk, os⟩ :=
    I.laid (t' := tk) (a := hp.objs.size + 1) (o := exo (hp.objs.size + 1) C none) (h' := (hp.push (PySem.W.kdv_tup us)).push (PySem.HandSPX.excO C hp.objs.size)) kk (Nat.le_succ _) (exo_ok (t1 := hp.objs.size) (by heap_get))
  refine wpAny_call (kw_call FM.base (fm_con L tail) (I.kIn _ _ hC) (PySem.W.looks_findIn I.kIn iC) (fun self => PySem.W.bind_fn I.kIn self tI) hus
    (codeAny_mono (F1.run _ X.stack _ _ ⟨Value.ref (hp.objs.size + 1) :: us, kw⟩ itf _ _ (fun _ _ _ => False) (hr.make C us kw) (I2.env0.make C us kw) (hb _ I2.kIn) r h) fun r s' hq' => ?_))
  match r, hq' with
  | .error er, hq' => exact hx pins σ _ _ er s' I2 hq'
  | .ok (.ret u), hq' =>
    obtain ⟨v, H', I3, rv, ev, q3⟩ := I2.after hq'
    subst ev
    exact ⟨rv, ⟨V.ref (hp.objs.size + 1), H', I3, rfl, q3⟩⟩
  | .ok .next, hq' => exact hq'.elim
  | .ok .brk, hq' => exact hq'.elim
  | .ok .cont, hq' => exact hq'.elim
theorem pe_err (T : OexF X.K C) (iC : PySem.W.findIn X.K (.ref C) "__init__" = some (some (.ref f))) (tI : PySem.W.typeIn X.K (.ref f) = some (.type "function")) (F1 : FnOk X.prog X.w X.K X.mg X.base CX k f fd ps sp) (hr : Room (k + 1) X.A) (hb : Binds X.K fd ps [])
    (hx : Passes CX X (fun _ _ _ => False)) (hg : Gl X x) (hm : X.mg x = some (.ref C)) (ha : PA X (e :: es) ta)
    (hdb : (x == ("__debug__" : Str)) = false := by decide) (he : starEach (e :: es) X.env = (false, eval e X.env) :: starEach es X.env := by rfl) (hpl : (backTo pos (starEach es X.env)).any (·.1) = false := by rfl) :
    PE X (.Call (.Name x p) (e :: es) [] pos) (tErr C sp ta) := by
  refine ⟨fun pins s σ H Q I h => wpAny_Call_Name_kw (ld_glob I hg hm (PySem.W.callWith_K (h₀ := X.base) I.ok.mod.kin T.kC (thn (ha.run pos pins s σ H _ I h) fun us s1 ⟨vs, H1, I1, r1, hz, q1⟩ => ⟨I1.kIn, ?_⟩) he hpl) hdb)⟩
  have r2 : Vals (V.ref (s1.heap.objs.size + 1) :: vs) (Value.ref (s1.heap.objs.size + 1) :: us) := .cons rfl r1
  have hq := q1 (s1.heap.objs.size + 1) (I1.hok.fresh (Nat.le_succ _))
  refine run_err (us := us) T iC tI F1 hr hx I1 (by rw [← Paired.length r1, sizeLine_eq]; omega) (fun s' X' => ?_) r2 hq
  have b := hb s' (Value.ref (s1.heap.objs.size + 1) :: us) X' (by rw [List.append_nil]; exact r2.length.symm.trans (F1.len _ _ _ _ hq))
  rw [List.append_nil] at b
  exact b
theorem pe_err0 (T : OexF X.K C) (iC : PySem.W.findIn X.K (.ref C) "__init__" = some (some (.ref f))) (tI : PySem.W.typeIn X.K (.ref f) = some (.type "function")) (F1 : FnOk X.prog X.w X.K X.mg X.base CX k f fd ps sp) (hr : Room (k + 1) X.A) (hb : Binds X.K fd ps [])
    (hx : Passes CX X (fun _ _ _ => False)) (hg : Gl X x) (hm : X.mg x = some (.ref C)) (hdb : (x == ("__debug__" : Str)) = false := by decide) :
    PE X (.Call (.Name x p) [] [] pos) (tErr C sp tNil) := by
  refine ⟨fun pins s σ H Q I h => wpAny_Call_Name_kw (ld_glob I hg hm (PySem.W.callWith_K0 I.kIn T.kC ?_) hdb)⟩
  have r2 : Vals [V.ref (s.heap.objs.size + 1)] [Value.ref (s.heap.objs.size + 1)] := .cons rfl .nil
  have hq := h.2 (s.heap.objs.size + 1) (I.hok.fresh (Nat.le_succ _))
  refine run_err T iC tI F1 hr hx I (Nat.zero_le _) (fun s' X' => ?_) r2 hq
  have b := hb s' [Value.ref (s.heap.objs.size + 1)] X' (by rw [List.append_nil]; exact r2.length.symm.trans (F1.len _ _ _ _ hq))
  rw [List.append_nil] at b
  exact b
theorem pe_errK (T : OexF X.K C) (iC : PySem.W.findIn X.K (.ref C) "__init__" = some (some (.ref f))) (tI : PySem.W.typeIn X.K (.ref f) = some (.type "function")) (F1 : FnOk X.prog X.w X.K X.mg X.base CX k f fd ps sp) (hr : Room (k + 1) X.A) (hb : KBn X.K fd ps 1 ks gg gV)
    (hx : Passes CX X (fun _ _ _ => False)) (hg : Gl X x) (hm : X.mg x = some (.ref C)) (hkw : PK X kws tk)
    (hall : (backToKw pos (keywordEach kws X.env)).all (·.1.isSome) = true := by rfl) (hks : (backToKw pos (keywordEach kws X.env)).filterMap (·.1) = ks := by rfl) (hdb : (x == ("__debug__" : Str)) = false := by decide)
    (hpl : ((backTo pos (starEach [] X.env)).any (·.1) || (backToKw pos (keywordEach kws X.env)).any (·.1.isNone)) = false := by rfl) :
    PE X (.Call (.Name x p) [] kws pos) (tErrK C ks.length sp gV tk) := by
  refine ⟨fun pins s σ H Q I h => wpAny_Call_Name_kw (ld_glob I hg hm ?_ hdb)⟩
  refine PySem.W.callWith_KW0 (h₀ := X.base) I.ok.mod.kin T.kC hall ?_ hpl
  refine thn (hkw.run pos pins s σ H _ I h) fun ws s1 ⟨zs, H1, I1, rz, l1, q2⟩ => ⟨I1.kIn, ?_⟩
  rw [hks]
  exact run_err (us := []) T iC tI F1 hr hx I1 (Nat.zero_le _) (fun s' X' => hb.to s' [Value.ref (s1.heap.objs.size + 1)] ws X' rfl (rz.length.symm.trans l1)) (hb.rel (show Vals [V.ref (s1.heap.objs.size + 1)] [Value.ref (s1.heap.objs.size + 1)] from .cons rfl .nil) rz) (q2 _ (I1.hok.fresh (Nat.le_succ _)))
end
/-- an exception as a value: of the class at C, its dict -/
def ErrAt (H : Hp) (v : V) (C : Addr) (fs : List (Str × V)) : Prop := ∃ a d, v = .ref a ∧ H a = some (exo a C (some d)) ∧ H d = some (exd d fs)
/-- an exception as a value -/
def ErrIs (H : Hp) (v : V) (C : Addr) : Prop := ∃ a d, v = .ref a ∧ H a = some (exo a C d) ∧ ∀ dd, d = some dd → ∃ fs, H dd = some (exd dd fs)
theorem ErrAt.is {H : Hp} {v : V} {C : Addr} {fs : List (Str × V)} (h : ErrAt H v C fs) : ErrIs H v C := by
  obtain ⟨a, d, rfl, h1, h2⟩ := h
  exact ⟨a, some d, rfl, h1, fun dd e => ⟨fs, by cases e; exact h2⟩⟩
theorem ErrAt.same {H H' : Hp} {v : V} {C : Addr} {fs : List (Str × V)} (s : Same H H') (h : ErrAt H v C fs) : ErrAt H' v C fs := by
  obtain ⟨a, d, rfl, h1, h2⟩ := h
  exact ⟨a, d, rfl, s _ _ h1, s _ _ h2⟩
theorem ErrIs.same {H H' : Hp} {v : V} {C : Addr} (s : Same H H') (h : ErrIs H v C) : ErrIs H' v C := by
  obtain ⟨a, d, rfl, h1, h2⟩ := h
  exact ⟨a, d, rfl, s _ _ h1, fun dd e => (h2 dd e).imp fun fs q => s _ _ q⟩
/-- e.f -/
def tErrF (K : PySem.W.Frag) (f : Str) (te : TE) : TE := fun σ H Q => te σ H fun v H1 => ∃ C fs y, ErrAt H1 v C fs ∧ ExcC K C ∧ PySem.W.findIn K (.ref C) f = some none ∧ fs.lookup f = some y ∧ Q y H1
/-- isinstance(e, c) -/
def rErrI (K : PySem.W.Frag) : List V → Hp → VK → Prop := fun xs H Q => ∃ (v c : V) (u : Value) (C : Addr) (b : Bool), xs = [v, c] ∧ ErrIs H v C ∧ ExcC K C ∧ ClsV c u ∧ PySem.W.kitOne K (.ref C) u = some b ∧ Q (.bl b) H
section
variable {X : Cx} {e : Expr} {te : TE} {pos : Pos} {n : Str} {K : PySem.W.Frag}
theorem err_inst {pins : List (Addr × Obj)} {σ : L2.St} {H : Hp} {s : Shared} {a C : Addr} {d : Option Addr} (I : Inv X pins σ H s) (h1 : H a = some (exo a C d)) (h2 : ∀ dd, d = some dd → ∃ fs, H dd = some (exd dd fs)) :
    ∃ ox od, PySem.W.InstAt s.heap a ox C od := by
  obtain ⟨t1, ho⟩ := exo_at I.hok h1
  cases d with
  | none => exact ⟨_, none, ho, rfl, rfl, trivial⟩
  | some dd =>
    obtain ⟨fs, h3⟩ := h2 dd rfl
    obtain ⟨mA, hns, rel⟩ := exd_at I.hok h3
    obtain ⟨oD, hoD, _⟩ := lookIn_ns hns
    exact ⟨_, some oD, ho, rfl, rfl, hoD⟩
theorem pe_errF (hK : X.K = K) (he : PE X e te) (hb : attributeBase e n X.env (eval e X.env) = eval e X.env := by rfl) : PE X (.Attribute e n pos) (tErrF K n te) := by
  subst hK
  refine ⟨fun pins s σ H Q I h => ?_⟩
  refine attr_of hb (thn (he.run pins s σ H _ I h) fun u s1 ⟨x, H1, I1, rx, C, fs, y, ⟨a, d, ex, h1, h2⟩, T, hno, l, q⟩ => ?_)
  subst ex
  obtain rfl : u = Value.ref a := rx
  obtain ⟨t1, ho⟩ := exo_at I1.hok h1
  obtain ⟨mA, hns, rel⟩ := exd_at I1.hok h2
  obtain ⟨oD, hoD, hl⟩ := lookIn_ns hns
  obtain ⟨u, hu, ru⟩ := RelO.some_of (v := y) (o := mA n) (by rw [← l]; exact rel n)
  have J : PySem.W.InstAt s1.heap a _ C (some oD) := ⟨ho, rfl, rfl, hoD⟩
  exact HandSPX.exc_get I1.kIn J T.hg T.hk T.hs (PySem.W.findObj_own T.hd hno rfl (by rw [hl, hu])) (handed_of ru) ⟨y, H1, I1.tok _, ru, q⟩
theorem call_errI (hK : X.K = K) : CallR X (.builtin "isinstance") (rErrI K) := by
  subst hK
  intro pins s σ H xs us Q I r h
  obtain ⟨v, c, u, C, b, rfl, ⟨a, d, rfl, h1, h2⟩, T, kc, ans, q⟩ := h
  obtain ⟨u1, u2, rfl, r1, r2⟩ := vals2 r
  cases r1
  have e2 := kc.eq r2
  subst e2
  obtain ⟨ox, od, J⟩ := err_inst I h1 h2
  have cl : (PySem.W.clsIn X.K C).isSome = true := by
    obtain ⟨cd, hc, _⟩ := PySem.W.any_some T.hd
    rw [hc]
    rfl
  exact PySem.W.kia_one (PySem.W.kitx_exc cl T.hg T.hk T.hs T.ha T.hn T.ht T.hm) I.kIn J ans (fun z => nomatch z) fun tk => ⟨.bl b, H, I.kept (t' := tk) fun _ _ z => z, rfl, q⟩
end
/-- __init__(self, value): self.f = value -/
def sp_errI (K : PySem.W.Frag) (C : Addr) (f : Str) : Sp := fun vs H Q _ => ∃ (q : Addr) (y : V), vs = [.ref q, y] ∧ H q = some (exo q C none) ∧
  ∀ dx, H dx = none → dx ≠ q → Q .non (upd (upd H dx (exd dx [(f, y)])) q (exo q C (some dx)))
/-- what stands behind such a making -/
theorem err_made {H : Hp} {q C : Addr} {f : Str} {y : V} {Q : VK} (hq : H q = none) (k : ∀ H', Same H H' → ErrAt H' (.ref q) C [(f, y)] → Q (.ref q) H') :
    ∀ dx, (upd H q (exo q C none)) dx = none → dx ≠ q → Q (.ref q) (upd (upd (upd H q (exo q C none)) dx (exd dx [(f, y)])) q (exo q C (some dx))) := by
  intro dx hdx ne
  have hd : H dx = none := by rw [upd_ne ne] at hdx; exact hdx
  refine k _ (fun b o e => ?_) ⟨q, dx, rfl, upd_same, by rw [upd_ne ne, upd_same]⟩
  rw [upd_ne (ne_of_none e hq), upd_ne (ne_of_none e hd), upd_ne (ne_of_none e hq)]
  exact e
end Lb

set_option Elab.async false
set_option linter.all false
set_option maxRecDepth 100000
set_option maxHeartbeats 4000000
/-! C.m(e, ..), m a staticmethod that may raise, in the body of a try -/
namespace Lb
open PySem PySem.Spec PyProof.Rows L2
section
variable {X : Cx} {CX : CXT} {k : Nat} {C p g : Addr} {fd : FuncData} {ps : List Str} {sp : Sp} {E : L2.St → XK} {m : Str} {pos apos : Pos} {o e : Expr} {es : List Expr} {ta : TE} {t : TA}
def tSMethS (C : Addr) (sp : Sp) (E : L2.St → XK) (ta : TE) (t : TA) : TE := fun σ H Q => ta σ H fun x H1 => x = .ref C ∧ t σ H1 fun vs H2 => sp vs H2 Q (E σ)
theorem pe_smethS {pl : Sem Bool} (he : PE X o ta) (c : SMet X.K C m p g) (F : FnOk X.prog X.w X.K X.mg X.base CX k g fd ps sp) (hr : Room k X.A) (hb : Binds X.K fd ps []) (hx : ∀ σ, PassesAt CX X σ (E σ)) (ha : PA X (e :: es) t)
    (hst : starEach (e :: es) X.env = (false, eval e X.env) :: starEach es X.env := by rfl) (hpl : (backTo pos (starEach es X.env)).any (·.1) = false := by rfl)
    (ht : eval (.Call (.Attribute o m apos) (e :: es) [] pos) X.env = (do
      let ov ← eval o X.env
      standAt apos.atName
      let (f, first) ← holding [ov] (getMethod ov m pl)
      callWith pos f first (backTo pos (starEach (e :: es) X.env)) (backToKw pos (keywordEach [] X.env))) := by rfl) :
    PE X (.Call (.Attribute o m apos) (e :: es) [] pos) (tSMethS C sp E ta t) := by
  refine ⟨fun pins s σ H Q I h => ?_⟩
  refine PySem.W.methodCall_KW (pl := pl) (thn (he.run pins s σ H _ I h) fun u s1 ⟨x, H1, I1, rx, ex, q⟩ => ?_) ht
  subst ex
  obtain rfl : u = Value.ref C := rx
  refine getsm_ok I1 c fun s2 I2 => ?_
  refine PySem.W.callWith_K (first := []) (h₀ := X.base) I.ok.mod.kin c.kp (thn (ha.run pos pins s2 σ H1 _ I2 q) fun us s3 ⟨vs, H2, I3, rv, q2⟩ => ⟨I3.kIn, ?_⟩) hst hpl
  exact run_fnS F hr hb (hx σ) I3 rv q2
end
end Lb

set_option Elab.async false
set_option linter.all false
set_option maxRecDepth 100000
set_option maxHeartbeats 4000000
/-! C.m(k = v, ..), m a staticmethod that may raise, in the body of a try -/
namespace Lb
open PySem PySem.Spec PyProof.Rows L2
section
variable {X : Cx} {CX : CXT} {k : Nat} {f C p g : Addr} {fd : FuncData} {ps ks : List Str} {sp : Sp} {E : L2.St → XK} {m : Str} {pos apos : Pos} {o : Expr} {kws : List Keyword} {ta : TE} {tk : TA} {gf : List Value → List Value → List Value} {gV : List V → List V → List V}
theorem run_kbnS {n : Nat} {pins : List (Addr × Obj)} {σ : L2.St} {H : Hp} {s : Shared} {Q : VK} {us ws : List Value} {vs zs : List V} (F : FnOk X.prog X.w X.K X.mg X.base CX k f fd ps sp) (hr : Room k X.A) (hb : KBn X.K fd ps n ks gf gV) (hx : PassesAt CX X σ (E σ))
    (I : Inv X pins σ H s) (r : Vals vs us) (rz : Vals zs ws) (l1 : vs.length = n) (l2 : zs.length = ks.length) (h : sp (gV vs zs) H Q (E σ)) : wpAny (model X.prog X.w) X.A (call (.ref f) us (ks.zip ws)) (EP X pins σ Q) X.xe s := by
  refine wpAny_call (codeAny_mono (F.run X.A X.stack s H ⟨us, ks.zip ws⟩ (gf us ws) (gV vs zs) Q (E σ) hr I.env0 (hb.to s us ws I.kIn (r.length.symm.trans l1) (rz.length.symm.trans l2)) (hb.rel r rz) h) fun r s' hq => ?_)
  cases r with
  | error e => exact hx pins H s e s' I hq
  | ok fl =>
    cases fl with
    | ret u => exact I.after hq
    | next => exact False.elim hq
    | brk => exact False.elim hq
    | cont => exact False.elim hq
def tSMethKS (C : Addr) (nk : Nat) (sp : Sp) (gV : List V → List V → List V) (E : L2.St → XK) (ta : TE) (tk : TA) : TE := fun σ H Q => ta σ H fun x H1 => x = .ref C ∧ tk σ H1 fun zs H2 => zs.length = nk ∧ sp (gV [] zs) H2 Q (E σ)
theorem pe_smethKS {pl : Sem Bool} (he : PE X o ta) (c : SMet X.K C m p g) (F : FnOk X.prog X.w X.K X.mg X.base CX k g fd ps sp) (hr : Room k X.A) (hb : KBn X.K fd ps 0 ks gf gV) (hx : ∀ σ, PassesAt CX X σ (E σ)) (hkw : PK X kws tk)
    (hall : (backToKw pos (keywordEach kws X.env)).all (·.1.isSome) = true := by rfl) (hks : (backToKw pos (keywordEach kws X.env)).filterMap (·.1) = ks := by rfl)
    (hpl : ((backTo pos (starEach [] X.env)).any (·.1) || (backToKw pos (keywordEach kws X.env)).any (·.1.isNone)) = false := by rfl)
    (ht : eval (.Call (.Attribute o m apos) [] kws pos) X.env = (do
      let ov ← eval o X.env
      standAt apos.atName
      let (f, first) ← holding [ov] (getMethod ov m pl)
      callWith pos f first (backTo pos (starEach [] X.env)) (backToKw pos (keywordEach kws X.env))) := by rfl) :
    PE X (.Call (.Attribute o m apos) [] kws pos) (tSMethKS C ks.length sp gV E ta tk) := by
  refine ⟨fun pins s σ H Q I h => ?_⟩
  refine PySem.W.methodCall_KW (pl := pl) (thn (he.run pins s σ H _ I h) fun u s1 ⟨x, H1, I1, rx, ex, q⟩ => ?_) ht
  subst ex
  obtain rfl : u = Value.ref C := rx
  refine getsm_ok I1 c fun s2 I2 => ?_
  refine PySem.W.callWith_KW0 (first := []) (h₀ := X.base) I.ok.mod.kin c.kp hall ?_ hpl
  refine thn (hkw.run pos pins s2 σ H1 _ I2 q) fun ws s3 ⟨zs, H2, I3, rz, l2, q2⟩ => ⟨I3.kIn, ?_⟩
  rw [hks]
  exact run_kbnS (us := []) (vs := []) F hr hb (hx σ) I3 .nil rz rfl l2 q2
end
end Lb

set_option Elab.async false
set_option linter.all false
set_option maxRecDepth 100000
set_option maxHeartbeats 2000000
/-! own error classes: what except and isinstance say -/
namespace Lb
open PySem L2
theorem exm_sub {K : PySem.W.Frag} {S C : Addr} (h1 : PySem.W.subIn K (.ref S) (.type "BaseException") = some true) (e1 : PySem.W.subIn K (.ref C) (.type "BaseException") = some true) (h2 : PySem.W.isClsIn K C = true) (h3 : PySem.W.typeIn K (.ref C) = some (.type "type")) (h4 : PySem.W.subIn K (.ref S) (.ref C) = some b) :
    PySem.W.exmOne K (.ref S) (.ref C) = some b := by
  have e1 : (PySem.W.subIn K (.ref C) (.type "BaseException") == some true) = true := by rw [e1] <;> rfl
  have e2 : ((PySem.W.clsIn K C).isSome && PySem.W.typeIn K (.ref C) == some (.type "type")) = true := by
    have h2' : (PySem.W.clsIn K C).isSome = true := h2
    rw [h2', h3] <;> rfl
  show (if (PySem.W.subIn K (.ref C) (.type "BaseException") == some true) = true then (if ((PySem.W.clsIn K C).isSome && PySem.W.typeIn K (.ref C) == some (.type "type")) = true then PySem.W.subIn K (.ref S) (.ref C) else none) else none) = some b
  rw [if_pos e1, if_pos e2]
  exact h4
theorem kit_sub {K : PySem.W.Frag} {A C : Addr} (h1 : PySem.W.isClsIn K C = true) (h2 : PySem.W.typeIn K (.ref C) = some (.type "type")) (h3 : PySem.W.subIn K (.ref A) (.ref C) = some true) :
    PySem.W.kitOne K (.ref A) (.ref C) = some true := by
  unfold PySem.W.kitOne
  split
  · rfl
  · unfold PySem.W.kitCls
    have h1' : (PySem.W.clsIn K C).isSome = true := h1
    dsimp only
    rw [h1', h2]
    rw [if_pos (by simp)]
    exact h3
end Lb

set_option Elab.async false
set_option linter.all false
set_option maxRecDepth 100000
set_option maxHeartbeats 4000000
/-! what an own exception class below one own family is, from its place in the written part alone -/
namespace Lb
open PySem L2
abbrev veT : List Value := [.type "ValueError", .type "Exception", .type "BaseException", .type "object"]
abbrev leT : List Value := [.type "LookupError", .type "Exception", .type "BaseException", .type "object"]
abbrev reT : List Value := [.type "RuntimeError", .type "Exception", .type "BaseException", .type "object"]
/-- the class at C, below the family at L, whose built-in classes are tail -/
def Abv (K : PySem.W.Frag) (C L : Addr) (tail : List Value) : Prop := ∃ B newId initId nm q N bs sn sub ab col dd k0 k1 k2 k3 k5, Fam B newId initId tail ∧ K.lookup C = some (excClassObj nm q C N bs (.ref L :: tail) true sn sub ab col dd k0 k1 k2 k3 k5 newId)
/-- a family: a class of one's own over built-in ones -/
structure FamC (K : PySem.W.Frag) (L : Addr) : Prop where
  ic : PySem.W.isClsIn K L = true
  ty : PySem.W.typeIn K (.ref L) = some (.type "type")
  ex : PySem.W.subIn K (.ref L) (.type "BaseException") = some true
section
variable {K : PySem.W.Frag} {C L D : Addr} {tail : List Value}
theorem Abv.cl (h : Abv K C L tail) : ∃ cd, PySem.W.clsIn K C = some cd ∧ cd.mro = .ref C :: .ref L :: tail ∧ cd.hasDict = true := by
  obtain ⟨_, _, _, nm, q, N, bs, sn, sub, ab, col, dd, k0, k1, k2, k3, k5, _, hC⟩ := h
  exact ⟨{ name := nm, bases := bs, mro := .ref C :: .ref L :: tail, ns := N, qualname := q, hasDict := true, slotNames := sn, subclasses := sub, abstract := ab, collection := col, hasDel := false }, by unfold PySem.W.clsIn; rw [hC] <;> rfl, rfl, rfl⟩
theorem Abv.ic (h : Abv K C L tail) : PySem.W.isClsIn K C = true := by
  obtain ⟨cd, e, _⟩ := h.cl
  unfold PySem.W.isClsIn
  rw [e]
  rfl
theorem Abv.ty (h : Abv K C L tail) : PySem.W.typeIn K (.ref C) = some (.type "type") := by
  obtain ⟨_, _, _, nm, q, N, bs, sn, sub, ab, col, dd, k0, k1, k2, k3, k5, _, hC⟩ := h
  show (K.lookup C).map (·.cls) = _
  rw [hC]
  rfl
theorem Abv.sub (h : Abv K C L tail) (b : Value) : PySem.W.subIn K (.ref C) b = some ((Value.ref C :: .ref L :: tail).contains b) := by
  obtain ⟨cd, e, m, _⟩ := h.cl
  show PySem.W.mroIn K C b = _
  unfold PySem.W.mroIn
  rw [e, Option.bind_some, m, if_neg (show ¬ (List.isEmpty (Value.ref C :: .ref L :: tail) = true) from Bool.false_ne_true)]
theorem Abv.hd (h : Abv K C L tail) : PySem.W.hasDictIn K C = true := by
  obtain ⟨cd, e, _, d⟩ := h.cl
  unfold PySem.W.hasDictIn
  rw [e]
  exact d
theorem Abv.subT (h : Abv K C L tail) {n : String} {b : Bool} (e : tail.contains (.type n) = b) : PySem.W.subIn K (.ref C) (.type n) = some b := by
  rw [h.sub, List.contains_cons, fm_con, e]
  rfl
theorem Abv.mo (h : Abv K C L tail) : PySem.W.mroIn K C (.type "object") = some true := by
  have hs := h
  obtain ⟨_, _, _, nm, q, N, bs, sn, sub, ab, col, dd, k0, k1, k2, k3, k5, FM, hC⟩ := h
  exact hs.subT FM.obj
theorem Abv.ex (h : Abv K C L tail) : PySem.W.subIn K (.ref C) (.type "BaseException") = some true := by
  have hs := h
  obtain ⟨_, _, _, nm, q, N, bs, sn, sub, ab, col, dd, k0, k1, k2, k3, k5, FM, hC⟩ := h
  exact hs.subT FM.base.hasBase
theorem Abv.subR (h : Abv K C L tail) (ht : ∀ D, tail.contains (.ref D) = false) (D : Addr) : PySem.W.subIn K (.ref C) (.ref D) = some (decide (D = C ∨ D = L)) := by
  rw [h.sub, List.contains_cons, List.contains_cons, ht]
  congr 1
  simp only [Bool.or_false]
  by_cases h1 : D = C
  · subst h1; simp
  · by_cases h2 : D = L
    · subst h2; simp
    · have e1 : (Value.ref D == Value.ref C) = false := by simpa using h1
      have e2 : (Value.ref D == Value.ref L) = false := by simpa using h2
      rw [e1, e2]
      simp [h1, h2]
/-- isinstance(C(..), D) -/
theorem kit_any {t c : Value} {b : Bool} (h : PySem.W.kitCls K t c = some b) (hs : t = c → b = true) : PySem.W.kitOne K t c = some b := by
  unfold PySem.W.kitOne
  by_cases e : t = c
  · rw [if_pos (by rw [e]; simp), hs e]
  · rw [if_neg (by simpa using e)]
    exact h
theorem Abv.kit (h : Abv K C L tail) (ht : ∀ D, tail.contains (.ref D) = false) (ic : PySem.W.isClsIn K D = true) (ty : PySem.W.typeIn K (.ref D) = some (.type "type")) : PySem.W.kitOne K (.ref C) (.ref D) = some (decide (D = C ∨ D = L)) := by
  refine kit_any ?_ fun e => ?_
  · unfold PySem.W.kitCls
    have ic' : (PySem.W.clsIn K D).isSome = true := ic
    dsimp only
    rw [ic', ty, if_pos (by simp)]
    exact h.subR ht D
  · cases e
    simp
theorem Abv.kitT (h : Abv K C L tail) {n : String} {b : Bool} (hm : PySem.W.kitMeta n = true) (e : tail.contains (.type n) = b) : PySem.W.kitOne K (.ref C) (.type n) = some b := by
  refine kit_any ?_ fun e => nomatch e
  unfold PySem.W.kitCls
  dsimp only
  rw [if_pos hm]
  exact h.subT e
/-- except L, the exception of the class at C -/
theorem Abv.exm (h : Abv K C L tail) (ht : ∀ D, tail.contains (.ref D) = false) (F : FamC K D) : PySem.W.exmOne K (.ref C) (.ref D) = some (decide (D = C ∨ D = L)) := exm_sub h.ex F.ex F.ic F.ty (h.subR ht D)
theorem Abv.ox (h : Abv K C L tail) (sa : PySem.W.findIn K (.ref C) "__setattr__" = some (some (.builtin "object.__setattr__"))) (kC : PySem.W.keepIn K (.ref C) = true) : OexF K C := by
  have hs := h
  obtain ⟨B, newId, initId, nm, q, N, bs, sn, sub, ab, col, dd, k0, k1, k2, k3, k5, FM, hC⟩ := h
  exact ⟨⟨B, newId, initId, tail, nm, q, N, bs, L, sn, sub, ab, col, dd, k0, k1, k2, k3, k5, FM, hC⟩, sa, hs.ex, hs.ty, kC⟩
end
end Lb

set_option Elab.async false
set_option linter.all false
set_option maxRecDepth 100000
set_option maxHeartbeats 4000000
/-! repr of what is told in one of several ways; repr of a dict of plain data -/
namespace Lb
open PySem PySem.Spec PyProof.Rows L2
theorem callR_or {X : Cx} {f : Value} {r1 r2 : List V → Hp → VK → Prop} (h1 : CallR X f r1) (h2 : CallR X f r2) : CallR X f (fun xs H Q => r1 xs H Q ∨ r2 xs H Q) := by
  intro pins s σ H xs us Q I r h
  rcases h with h | h
  · exact h1 pins s σ H xs us Q I r h
  · exact h2 pins s σ H xs us Q I r h
/-- a call that is never reached -/
theorem callR_never {X : Cx} {f : Value} : CallR X f (fun _ _ _ => False) := fun _ _ _ _ _ _ _ _ _ h => h.elim
def keyD : Key → PyData
  | .inl i => .int i
  | .inr x => .str x
mutual
def flatD : PyData → Bool
  | .list _ => false
  | .dict _ => false
  | .tuple ds => flatDs ds
  | _ => true
def flatDs : List PyData → Bool
  | [] => true
  | d :: ds => flatD d && flatDs ds
end
mutual
theorem reads_flat {h : Heap} : ∀ {v : Value} {d : PyData} {as : List Addr}, Reads h v d as → flatD d = true → as = []
  | _, _, _, .none, _ => rfl
  | _, _, _, .bool _, _ => rfl
  | _, _, _, .int _ _, _ => rfl
  | _, _, _, .str _ _, _ => rfl
  | _, _, _, .list _ _ _ _, f => by simp [flatD] at f
  | _, _, _, .tuple _ _ _ r, f => reads_flats r (by simpa [flatD] using f)
  | _, _, _, .dict _ _ _ _ _, f => by simp [flatD] at f
theorem reads_flats {h : Heap} : ∀ {vs : List Value} {ds : List PyData} {as : List Addr}, ReadsAll h vs ds as → flatDs ds = true → as = []
  | _, _, _, .nil, _ => rfl
  | _, _, _, .cons r1 r2, f => by
    simp only [flatDs, Bool.and_eq_true] at f
    rw [reads_flat r1 f.1, reads_flats r2 f.2]
    rfl
end
theorem dpAll_len {K : PySem.W.Frag} {H : Hp} : ∀ {vs : List V} {ds : List PyData}, DpAll K H vs ds → vs.length = ds.length
  | _, _, .nil => rfl
  | _, _, .cons _ h => by rw [List.length_cons, List.length_cons, dpAll_len h]
theorem keys_flat : ∀ kvs : List (Key × V), flatDs (kvs.map fun q => keyD q.1) = true
  | [] => rfl
  | (k, _) :: r => by
    simp only [List.map_cons, flatDs, keys_flat r, Bool.and_true]
    cases k <;> rfl
section
variable {X : Cx} {pins : List (Addr × Obj)} {σ : L2.St} {H : Hp} {s : Shared}
theorem keys_read {P : Program} {w : World} {h : Heap} : ∀ {kvs : List (Key × V)} {vs : List (Key × Value)} {es : List DictEntry}, KV kvs vs → Pairs (mixKind P w) es vs → ∃ as, ReadsAll h (es.map (·.key)) (kvs.map fun q => keyD q.1) as := by
  intro kvs vs es r
  induction r generalizing es with
  | nil =>
    intro h3
    cases h3
    exact ⟨_, .nil⟩
  | @cons p q ps qs h1 _ ih =>
    intro h3
    cases h3 with
    | @cons e _ es2 _ hk hval hv =>
      obtain ⟨as, r2⟩ := ih hv
      have r1 : Reads h e.key (keyD p.1) [] := by
        rw [h1.1]
        rcases keyIs_shape (show keyIs _ _ = true from hk) with ⟨i, t, e1, e2⟩ | ⟨x, t, e1, e2⟩
        · rw [e1, e2]; exact .int i t
        · rw [e1, e2]; exact .str x t
      exact ⟨_, .cons r1 r2⟩
theorem vals_kv : ∀ {kvs : List (Key × V)} {vs : List (Key × Value)}, KV kvs vs → Vals (kvs.map (·.2)) (vs.map (·.2)) := by
  intro kvs vs r
  induction r with
  | nil => exact .nil
  | cons h1 _ ih => exact .cons h1.2 ih
theorem vals_es {P : Program} {w : World} : ∀ {vs : List (Key × Value)} {es : List DictEntry}, Pairs (mixKind P w) es vs → es.map (·.val) = vs.map (·.2) := by
  intro vs es h
  induction h with
  | nil => rfl
  | cons _ hv _ ih => rw [List.map_cons, List.map_cons, ih, hv]
/-- a tracked dict of plain data reads as such -/
theorem dict_reads (I : Inv X pins σ H s) {a : Addr} {kvs : List (Key × V)} {ds : List PyData} (e : H a = some (.dK kvs)) (hd : DpAll X.K H (kvs.map (·.2)) ds) (f : flatDs ds = true) :
    Reads s.heap (.ref a) (.dict ((kvs.map fun q => keyD q.1).zip ds)) [a] ∧ sysModules ≠ a := by
  obtain ⟨_, hsm, vs, r, o, es, ep, h1, h2, h3, _, h5, _⟩ := dk_of I.hok e
  obtain ⟨as, r1⟩ := keys_read (h := s.heap) r h5
  have ve : es.toList.map (·.val) = vs.map (·.2) := vals_es h5
  obtain ⟨bs, r2⟩ := Dp.readsAll I ds _ _ hd (vals_kv r)
  have e1 := reads_flats r1 (keys_flat kvs)
  have e2 := reads_flats r2 f
  subst e1
  subst e2
  have ln : (kvs.map fun q => keyD q.1).length = ds.length := by
    have := dpAll_len hd
    rw [List.length_map] at this ⊢
    exact this
  refine ⟨?_, fun z => ?_⟩
  · have q := Reads.dict (as := []) (bs := []) (kvs := (kvs.map fun q => keyD q.1).zip ds) h1 h2.1 h3 (by rw [List.map_fst_zip (Nat.le_of_eq ln)]; exact r1) (by rw [List.map_snd_zip (Nat.le_of_eq ln.symm), ve]; exact r2)
    exact q
  · rw [z] at hsm
    simp at hsm
end
section
variable {X : Cx}
/-- repr(d), d a tracked dict of plain data -/
def rReprDc (K : PySem.W.Frag) : List V → Hp → VK → Prop := fun xs H Q =>
  ∃ a kvs ds, xs = [.ref a] ∧ H a = some (.dK kvs) ∧ DpAll K H (kvs.map (·.2)) ds ∧ flatDs ds = true ∧ (PyData.dict ((kvs.map fun q => keyD q.1).zip ds)).showable = true ∧ (PyData.dict ((kvs.map fun q => keyD q.1).zip ds)).shown.length ≤ sizeLine ∧
    (PyData.dict ((kvs.map fun q => keyD q.1).zip ds)).depth ≤ 60 ∧ Q (.str (PyData.dict ((kvs.map fun q => keyD q.1).zip ds)).shown) H
theorem call_reprDc {K : PySem.W.Frag} (hK : X.K = K) (hg : X.A.guards = some []) (hu : X.A.units + 64 < cLine) : CallR X (.builtin "repr") (rReprDc K) := by
  subst hK
  intro pins s σ H xs us Q I r h
  obtain ⟨a, kvs, ds, rfl, e, hd, f, sh, hz, dp, q⟩ := h
  obtain ⟨u, rfl, ru⟩ := vals1 r
  cases (show u = Value.ref a from ru)
  obtain ⟨rd, ne⟩ := dict_reads I e hd f
  refine PySem.repr_of_reads' rd sh (fun _ z => ne (List.mem_singleton.mp z)) hg (by omega) (fun _ _ e => e) (fun h' w tk k => ?_) hz
  exact ⟨.str _, H, I.kept k, ⟨_, rfl⟩, q⟩
end
end Lb

set_option Elab.async false
set_option linter.all false
set_option maxRecDepth 100000
set_option maxHeartbeats 4000000
/-! defs that raise nothing, called while an exception is handled -/
namespace Lb
open PySem PySem.Spec PyProof.Rows L2
open L2H (RoomH PinOk cxH inv_startH)
structure FnQ (P : Program) (w : World) (K : PySem.W.Frag) (mg : Str → Option Value) (base : Heap) (k : Nat) (f : Addr) (fd : FuncData) (ps : List Str) (sp : Sp) : Prop where
  len : ∀ vs H Q E, sp vs H Q E → vs.length = ps.length
  run : ∀ (A : Around) (outer : List Env) (s : Shared) (H : Hp) (args : Args) (us : List Value) (vs : List V) (Q : VK) (p : Addr × Obj), RoomH k A → PinOk outer H s p → Env0 P w K mg base A outer s H →
    BindsTo s fd args (ps.zip us) → Vals vs us → sp vs H Q E0 → codeAny (model P w) A (.call (.ref f) args) (CR CX0 outer P w H s Q E0) s
section
variable {P : Program} {w : World} {K : PySem.W.Frag} {mg : Str → Option Value} {base : Heap} {k j : Nat} {f : Addr} {fd : FuncData} {ps : List Str} {sp : Sp}
theorem FnQ.mono (F : FnQ P w K mg base j f fd ps sp) (h : j ≤ k) : FnQ P w K mg base k f fd ps sp :=
  ⟨F.len, fun A outer s H args us vs Q p hr => F.run A outer s H args us vs Q p (hr.mono h)⟩
theorem okQ {x qual : Str} {st : Stmt} {N : List Str} (F : Fun K x qual st f fd) (S : FnScope N ps (defScope st)) (len : ∀ vs H Q E, sp vs H Q E → vs.length = ps.length)
    (hbody : ∀ (cdv : Value) (A : Around) (outer : List Env) (s : Shared) (H : Hp) (vs : List V) (Q : VK) (p : Addr × Obj), RoomH k (A.deeper (envOfC qual (defScope st) s.heap.objs.size f cdv)) → sp vs H Q E0 →
      ∃ t, PSs (cxH CX0 P w K mg base N qual (defScope st) f cdv A outer s H E0 p) (defBody st) t ∧ t { nx := fun _ H' => Q .non H', rt := Q } (start N vs) H) :
    FnQ P w K mg base (k + 1) f fd ps sp := by
  obtain ⟨oc, od, kV, doc, pm, an, cdv, ct, osl, rfl, lk, hcd⟩ := F.ex
  refine ⟨len, fun A outer s H args us vs Q p room pin e0 bnd r way => ?_⟩
  have same_len := len vs H Q E0 way
  have inK : K.In s.heap := e0.mod.kin.keeps fun b o e => (e0.bs b o e).1
  have noLim : s.heap.NoLimit := e0.mod.nolimit.keeps fun b o e => (e0.bs b o e).1
  refine codeAny_call_function room.depth (inK _ _ lk) rfl S.co S.gen rfl (PySem.W.codeRec_of inK hcd) (bnd _ _ _ _ ?_)
  refine wpAny_newFunctionEnv_cells S.kind ?_ fun env he s1 y => ?_
  · rintro ⟨n, v⟩ hy
    rcases S.par n (List.of_mem_zip hy).1 with q | q
    · exact .inl q
    · exact .inr ⟨q, PySem.W.cellsFrom_some _ _ _ (.inl q)⟩
  · subst he
    refine ⟨noLim.keeps y.toInCall.keep, codeAny_func ?_⟩
    obtain ⟨t, ht, hq⟩ := hbody cdv A outer s H vs Q p (room.deeper _) way
    have I := inv_startH (CX := CX0) (E := E0) S pin e0 same_len r y
    refine wpAny_mono (ht.run [] s1 (start N vs) H _ I hq) (fun fl s' hs => ?_) fun _ _ hs => hs
    cases fl with
    | ret u => exact let ⟨v, _, H', J, rv, q⟩ := hs; ⟨v, H', J.os, J.bare, J.base, J.hok, rv, q⟩
    | next => exact let ⟨_, H', J, q⟩ := hs; ⟨V.non, H', J.os, J.bare, J.base, J.hok, rfl, q⟩
    | brk => exact hs.elim fun _ h => h.elim fun _ h => h.2.elim
    | cont => exact hs.elim fun _ h => h.elim fun _ h => h.2.elim
end
section
variable {X : Cx} {k : Nat} {f C g : Addr} {fd : FuncData} {ps : List Str} {sp : Sp} {x m : Str} {q pos apos : Pos} {e o : Expr} {es : List Expr} {ta : TE} {t : TA}
theorem run_atQ {pins : List (Addr × Obj)} {σ : L2.St} {H : Hp} {s : Shared} {A : Around} {Q : VK} {us : List Value} {vs : List V} (F : FnQ X.prog X.w X.K X.mg X.base k f fd ps sp) (hr : RoomH k A) (hc : ∃ p, p ∈ X.pn) (e0 : Env0 X.prog X.w X.K X.mg X.base A X.stack s H)
    (hb : Binds X.K fd ps []) (I : Inv X pins σ H s) (r : Vals vs us) (h : sp vs H Q E0) :
    codeAny (model X.prog X.w) A (.call (.ref f) ⟨us, []⟩) (fun r s' => match r with | .ok (.ret v) => EP X pins σ Q v s' | .ok _ => False | .error e => X.xe e s') s := by
  obtain ⟨p, hp⟩ := hc
  have ln : us.length = ps.length := by rw [← r.length]; exact F.len _ _ _ _ h
  have b := hb s us I.kIn (by rw [List.append_nil]; exact ln)
  rw [List.append_nil] at b
  have here := I.pin p (List.mem_append_left _ hp)
  have pin : PinOk X.stack H s p := ⟨here.1, here.2.1, fun z => (List.mem_cons.mp (I.stkSub p.1 z)).elim here.2.2.1 here.2.2.2.1, here.2.2.2.2⟩
  refine codeAny_mono (F.run A X.stack s H ⟨us, []⟩ us vs Q p hr pin e0 b r h) fun r s' z => ?_
  rcases r with er | fl
  · first | exact z.elim | (cases er <;> first | exact I.after z | exact z.elim)
  · first | (cases fl <;> first | exact I.after z | exact z.elim) | exact z.elim
theorem pe_callQ (F : FnQ X.prog X.w X.K X.mg X.base k f fd ps sp) (hr : RoomH k X.A) (hc : ∃ p, p ∈ X.pn) (hg : Gl X x) (hm : X.mg x = some (.ref f)) (hk : PySem.W.keepIn X.K (.ref f) = true) (hb : Binds X.K fd ps []) (ha : PA X (e :: es) t)
    (hdb : (x == ("__debug__" : Str)) = false := by decide) (he : starEach (e :: es) X.env = (false, eval e X.env) :: starEach es X.env := by rfl) (hpl : (backTo pos (starEach es X.env)).any (·.1) = false := by rfl) :
    PE X (.Call (.Name x q) (e :: es) [] pos) (tCall sp [] E0 t) := by
  refine ⟨fun pins s σ H Q I h => wpAny_Call_Name_kw (ld_glob I hg hm ?_ hdb)⟩
  refine PySem.W.callWith_K (h₀ := X.base) I.ok.mod.kin hk (thn (ha.run pos pins s σ H _ I h) fun us s1 z => ?_) he hpl
  obtain ⟨vs, H1, I1, r, z⟩ := z
  rw [List.append_nil] at z
  refine ⟨I1.kIn, wpAny_call (codeAny_mono (run_atQ F hr hc I1.env0 hb I1 r z) fun r s' y => ?_)⟩
  rcases r with er | fl
  · exact y
  · cases fl <;> first | exact y | exact y.elim
/-- repr(x) there, x an instance whose class has __repr__ -/
theorem call_reprQ (hs : PySem.W.findIn X.K (.ref C) "__repr__" = some (some (.ref g))) (hf : PySem.W.isFn X.K (.ref g) = true)
    (F : FnQ X.prog X.w X.K X.mg X.base k g fd ["self"] sp) (hr : RoomH (k + 1) X.A) (hc : ∃ p, p ∈ X.pn) (hb : Binds X.K fd ["self"] []) : CallR X (.builtin "repr") (rOwnTx C sp E0) := by
  intro pins s σ H xs us Q I r h
  obtain ⟨a, dx, fs, rfl, ha, z⟩ := h
  obtain ⟨u, rfl, ru⟩ := vals1 r
  cases (show u = Value.ref a from ru)
  obtain ⟨od, J⟩ := inst_at I ha
  have hu := hr.un
  have hr1 : RoomH k X.A.in1 := ⟨by have := hr.dp; show X.A.depth + 3 * k + 5 < _; omega, by show X.A.units + 1 + 16 * k + 200 < _; omega⟩
  refine Calls.call_function_entry PySem.F.kind_repr PySem.F.plain_repr PySem.F.entry_repr (PySem.F.args_repr1 _) ?_
  unfold Builtin.«repr»
  refine wpAny_bind (m := oneArg "repr" _) (wpAny_pure ?_)
  refine wpAny_bind (m := cRoomFor _ _) (wpAny_cRoomFor (by show X.A.units + 1 < cLine; omega) ?_)
  refine wpAny_bind (wpAny_bind (J.type.here ((PySem.W.looks_findIn I.kIn hs).here ?_)))
  refine wpAny_bind (m := callSpecialIfBound? (.ref a) (Str.ofString "__repr__")) (PySem.W.ifBound_K I.kIn J hs hf ?_)
  refine wpAny_mono (wpAny_call (codeAny_mono (run_atQ (us := [.ref a]) (vs := [.ref a]) F hr1 hc I.env0.in1 hb I (.cons rfl .nil) z) fun r s' y => y)) (fun w s' z => ?_) fun _ _ x => x
  obtain ⟨z', H', I', rz, y, ez, qz⟩ := z
  subst ez
  obtain ⟨t, rfl⟩ := (show ∃ t, w = Value.str y t from rz)
  refine wpAny_bind (wpAny_isInstance (T := "str") (b := true) rfl isSubtype_str_str ?_)
  exact wpAny_pure ⟨_, rfl, .str y, H', I', ⟨t, rfl⟩, qz⟩
end
end Lb

set_option Elab.async false
set_option linter.all false
set_option maxRecDepth 100000
set_option maxHeartbeats 4000000
/-! lambdas: the maker's rule, the law's call with tables of code objects -/
namespace Lb
open PySem PySem.Spec PyProof.Rows L2
open LamX (TabB Tabs TabS CodeO ExtN)
/-- σ has its length wherever an exception is taken -/
theorem takes_len {X : Cx} {W : WX} (t : Takes X W) : Takes X (fun c d σ H => σ.length = X.N.length → W c d σ H) := fun u s' ⟨a, B, sI, pins, σ, H, cls, d, e, I, nb, up, sky, na, os, ag, w⟩ =>
  t u s' ⟨a, B, sI, pins, σ, H, cls, d, e, I, nb, up, sky, na, os, ag, w I.len⟩
/-- a def that makes lambdas: its code object is known -/
theorem okGL {P : Program} {w : World} {K : PySem.W.Frag} {mg : Str → Option Value} {base : Heap} {CX : CXT} {k : Nat} {f c : Addr} {fd : FuncData} {ps : List Str} {sp : Sp} {x qual : Str} {st : Stmt} {N : List Str} (F : Fun K x qual st f fd) (hcode : fd.code = .ref c) (S : FnScope N ps (defScope st))
    (len : ∀ vs H Q E, sp vs H Q E → vs.length = ps.length)
    (hbody : ∀ (A : Around) (outer : List Env) (s : Shared) (H : Hp) (vs : List V) (Q : VK) (E : XK),
      (A.deeper (envOfC qual (defScope st) s.heap.objs.size f (.ref c))).guards = some [] → Room k (A.deeper (envOfC qual (defScope st) s.heap.objs.size f (.ref c))) → sp vs H Q E →
      ∃ t, PSs (cxOf CX P w K mg base N qual (defScope st) f (.ref c) A outer s H E).nox (defBody st) t ∧ t { nx := fun _ H' => Q .non H', rt := Q } (start N vs) H) :
    FnG P w K mg base CX (k + 1) f fd ps sp := by
  obtain ⟨oc, od, kV, doc, pm, an, cdv, ct, osl, rfl, lk, hcd⟩ := F.ex
  obtain rfl : cdv = .ref c := hcode
  refine ⟨len, fun A outer s H args us vs Q E hgu room e0 bnd r way => ?_⟩
  have same_len := len vs H Q E way
  have inK : K.In s.heap := e0.mod.kin.keeps fun b o e => (e0.bs b o e).1
  have noLim : s.heap.NoLimit := e0.mod.nolimit.keeps fun b o e => (e0.bs b o e).1
  refine codeAny_call_function room.depth (inK _ _ lk) rfl S.co S.gen rfl (PySem.W.codeRec_of inK hcd) (bnd _ _ _ _ ?_)
  refine wpAny_newFunctionEnv_cells S.kind ?_ fun env he s1 y => ?_
  · rintro ⟨n, v⟩ hy
    rcases S.par n (List.of_mem_zip hy).1 with q | q
    · exact .inl q
    · exact .inr ⟨q, PySem.W.cellsFrom_some _ _ _ (.inl q)⟩
  · subst he
    refine ⟨noLim.keeps y.toInCall.keep, codeAny_func ?_⟩
    have gd : (A.deeper (envOfC qual (defScope st) s.heap.objs.size f (.ref c))).guards = some [] := by
      first
        | exact hgu
        | simpa [Around.deeper] using hgu
    obtain ⟨t, ht, hq⟩ := hbody A outer s H vs Q E gd (room.deeper _) way
    have I := inv_start (CX := CX) (E := E) S room.hd e0 same_len r y
    refine wpAny_mono (ht.nox.run [] s1 (start N vs) H _ I hq) (fun fl s' hs => ?_) fun _ _ hs => hs
    cases fl with
    | ret u => exact let ⟨v, _, H', J, rv, q⟩ := hs; ⟨v, H', J.os, J.bare, J.base, J.hok, rv, q⟩
    | next => exact let ⟨_, H', J, q⟩ := hs; ⟨V.non, H', J.os, J.bare, J.base, J.hok, rfl, q⟩
    | brk => exact hs.elim fun _ h => h.elim fun _ h => h.2.elim
    | cont => exact hs.elim fun _ h => h.elim fun _ h => h.2.elim
/-- what is tracked when the law is called: the script, the empty tables -/
def StartH (a : Addr) (cs : List (Addr × Addr)) (H : Hp) : Prop := ∀ b u, H b = some u → (b = a ∧ ∃ o xs, u = .frz o (.lst xs)) ∨ (b ∈ cs.map (·.2) ∧ u = .tbl #[])
theorem law_callTG {P : Program} {w : World} {K : PySem.W.Frag} {mg mb : Str → Option Value} {k : Nat} {fa a : Addr} {cs : List (Addr × Addr)} {fd : FuncData} {x : Str} {sp : Sp} {s1 : Shared} {vs : List Value} {ns : List Int}
    (KX : K.In s1.heap) (hns : s1.heap.Ns mainGlobals mg) (hb : s1.heap.Ns builtinsNs mb) (hbb : ∀ x : Str, x ≠ "__name__" → mb x = bootBuiltins x) (hlim : s1.heap.NoLimit) (hg : s1.gens = #[])
    (tabs : ∀ p ∈ cs, PySem.W.CodeHd s1.heap p.1 p.2 ∧ s1.heap.get? p.2 = some (PySem.W.tabObj #[])) (nK : ∀ p ∈ cs, K.lookup p.2 = none)
    (bmain : ∃ (bm : Addr) (ob : Obj), mg "__builtins__" = some (.ref bm) ∧ bm ≠ builtinsNs ∧ s1.heap.get? bm = some ob ∧ ob.cls = .type "module" ∧ ob.dict = some builtinsNs ∧ ob.data = .plain)
    (ha : s1.heap.get? a = some { cls := .type "list", data := .seq vs.toArray }) (hi : IntsAre vs ns) (hl : ns.length ≤ sizeLine) (hr : Room k callerA)
    (F : ∀ base : Heap, K.In base → base.Ns mainGlobals mg → (∀ p ∈ cs, TabB base mg p.1 p.2) → FnG P w K mg base CX0 k fa fd [x] sp) (hbind : ∀ (s : Shared) (u : Value), BindsTo s fd ⟨[u], []⟩ [(x, u)])
    (hsp : ∀ H : Hp, (∀ p ∈ cs, H p.2 = some (.tbl #[])) → SqL K H a (ns.map V.int) → sp [.ref a] H (fun v _ => v = .bl true) fun _ _ _ => False) :
    codeAny (model P w) callerA (.call (.ref fa) ⟨[.ref a], []⟩) (fun r s' => r = .ok (.ret (.bool true)) ∧ OldK s1.heap s'.heap ∧ s'.os = s1.os ∧ AllBare s'.gens) s1 := by
  have rv := vals_ints hi
  have isTab : ∀ b, b ∈ cs.map (·.2) → ∃ p ∈ cs, p.2 = b := fun b hb => List.mem_map.mp hb
  have apart : a ∉ cs.map (·.2) := fun z => by
    obtain ⟨p, hp, e⟩ := isTab a z
    have q := (tabs p hp).2
    rw [e, ha] at q
    exact nomatch (congrArg Obj.cls (Option.some.inj q))
  have core : ∀ H : Hp, StartH a cs H → (∀ p ∈ cs, H p.2 = some (.tbl #[])) → SqL K H a (ns.map V.int) → HOk P w H s1.heap → (∀ u, H a = some u → K.lookup a = none) →
      codeAny (model P w) callerA (.call (.ref fa) ⟨[.ref a], []⟩) (fun r s' => r = .ok (.ret (.bool true)) ∧ OldK s1.heap s'.heap ∧ s'.os = s1.os ∧ AllBare s'.gens) s1 := by
    intro H hO hH hS hok hK
    -- what is neither a list nor an empty table is not tracked
    have free_of : ∀ {b : Addr} {o : Obj}, s1.heap.get? b = some o → o.cls ≠ .type "list" → o.data ≠ .fields #[] → H b = none := by
      intro b o e n1 n2
      cases q : H b with
      | none => rfl
      | some u =>
        exfalso
        rcases hO b u q with ⟨rfl, _⟩ | ⟨hm, _⟩
        · rw [ha] at e
          cases e
          exact n1 rfl
        · obtain ⟨p, hp, rfl⟩ := isTab b hm
          rw [(tabs p hp).2] at e
          cases e
          exact n2 rfl
    have nsK : ∀ {b : Addr} {m : Str → Option Value}, s1.heap.Ns b m → (hidT s1.heap H).Ns b m := by
      rintro b m ⟨o, es, ep, e, d, r⟩
      refine ⟨o, es, ep, hidT_get e ?_, d, r⟩
      cases q : H b with
      | none => rfl
      | some u =>
        exfalso
        rcases hO b u q with ⟨rfl, _⟩ | ⟨hm, _⟩
        · rw [ha] at e
          cases e
          cases d
        · obtain ⟨p, hp, rfl⟩ := isTab b hm
          rw [(tabs p hp).2] at e
          cases e
          cases d
    have hKb : K.In (hidT s1.heap H) := by
      intro b o e
      refine hidT_get (KX b o e) ?_
      cases q : H b with
      | none => rfl
      | some u =>
        exfalso
        rcases hO b u q with ⟨rfl, _⟩ | ⟨hm, _⟩
        · rw [hK u q] at e
          cases e
        · obtain ⟨p, hp, rfl⟩ := isTab b hm
          rw [nK p hp] at e
          cases e
    have hM : Mod K mg (hidT s1.heap H) := by
      obtain ⟨mc, c1, c2⟩ := hlim
      exact ⟨hKb, nsK hns, ⟨mb, nsK hb, hbb⟩, ⟨mc, nsK c1, c2⟩⟩
    have TB : ∀ p ∈ cs, TabB (hidT s1.heap H) mg p.1 p.2 := by
      intro p hp
      obtain ⟨cd, tb⟩ := tabs p hp
      refine ⟨?_, ?_, fun z => ?_⟩
      · obtain ⟨o, us, fl, tf, fg, tg, inF, tx, tt, e1, e2, e3, e4, more⟩ := cd
        refine ⟨o, us, fl, tf, fg, tg, inF, tx, tt, hidT_get e1 (free_of e1 (fun z => ?_) fun z => ?_), e2, e3, e4, more⟩
        · rw [e2] at z
          injection z with z
          exact absurd z (by decide)
        · rw [e3] at z
          cases z
          cases e4
      · obtain ⟨bm, ob, b1, b2, b3, b4, b5, b6⟩ := bmain
        refine ⟨bm, ob, b1, b2, fun q => ?_, fun q => ?_, hidT_get b3 (free_of b3 (fun z => ?_) fun z => ?_), b4, b5, b6⟩
        · obtain ⟨o, es, ep, e, hd, _⟩ := hns
          rw [q, e] at b3
          cases b3
          rw [hd] at b6
          cases b6
        · rw [q, tb] at b3
          cases b3
          cases b6
        · rw [b4] at z
          injection z with z
          exact absurd z (by decide)
        · rw [b6] at z
          cases z
      · obtain ⟨o, es, ep, e, hd, _⟩ := hns
        rw [z, tb] at e
        cases e
        cases hd
    have e0 : Env0 P w K mg (hidT s1.heap H) callerA [] s1 H :=
      ⟨rfl, hM, fun b o e => of_hidT e, Nat.le_of_eq (hidT_size _ _), trivial, fun b hb => (List.not_mem_nil hb).elim, hok, .of_eq hg⟩
    have code := (F _ hKb (nsK hns) TB).run callerA [] s1 H ⟨[.ref a], []⟩ [.ref a] [.ref a] _ _ rfl hr e0 (hbind s1 (.ref a)) (.cons rfl .nil) (hsp H hH hS)
    refine codeAny_mono code fun r s' h => ?_
    cases r with
    | error e => exact h.elim
    | ok fl =>
      cases fl with
      | ret u =>
        obtain ⟨v, H', os, bare, un, hok', r', q⟩ := h
        cases (show v = .bl true from q)
        cases (show u = Value.bool true from r')
        -- what was there is as it was, but for the tables, which grow
        have stays : ∀ b o, b ∉ cs.map (·.2) → s1.heap.get? b = some o → s'.heap.get? b = some o := by
          intro b o nb e
          cases z : H b with
          | none => exact un.keep b o e z (fun z => List.not_mem_nil z) (fun z => List.not_mem_nil z)
          | some v =>
            rcases hO b v z with ⟨_, ob, xs, rfl⟩ | ⟨hm, _⟩
            · obtain ⟨e1, _⟩ := hok b _ z
              obtain ⟨e2, _⟩ := hok' b _ (un.frzs b ob _ z)
              rw [e] at e1
              cases e1
              exact e2
            · exact absurd hm nb
        have grows : ∀ p ∈ cs, ∃ more, s'.heap.get? p.2 = some (PySem.W.tabObj more) := by
          intro p hp
          obtain ⟨more, z⟩ := un.tbls p.2 _ (hH p hp)
          exact ⟨_, hok' p.2 _ z⟩
        refine ⟨rfl, ⟨fun b o e => ?_, fun b o e => ?_⟩, os, bare⟩
        · by_cases hm : b ∈ cs.map (·.2)
          · obtain ⟨p, hp, rfl⟩ := isTab b hm
            obtain ⟨more, z⟩ := grows p hp
            obtain ⟨cd, tb⟩ := tabs p hp
            rw [tb] at e
            cases e
            exact .inr (.inl ⟨(cd.tab tb).isCodeTable, rfl, #[], more, rfl, by rw [Array.empty_append]; exact z⟩)
          · exact .inl (stays b o hm e)
        · by_cases hm : b ∈ cs.map (·.2)
          · obtain ⟨p, hp, rfl⟩ := isTab b hm
            obtain ⟨more, z⟩ := grows p hp
            exact ⟨_, z⟩
          · exact ⟨o, stays b o hm e⟩
      | next => exact h.elim
      | brk => exact h.elim
      | cont => exact h.elim
  -- the heap to begin with
  have begin_ : ∀ (own : Bool), (own = true → K.lookup a = none) → (own = false → SqL K (fun b => if b ∈ cs.map (·.2) then some (.tbl #[]) else none) a (ns.map V.int)) →
      codeAny (model P w) callerA (.call (.ref fa) ⟨[.ref a], []⟩) (fun r s' => r = .ok (.ret (.bool true)) ∧ OldK s1.heap s'.heap ∧ s'.os = s1.os ∧ AllBare s'.gens) s1 := by
    intro own h1 h2
    have atA : ∀ {b : Addr} {u : HO}, (if b = a ∧ own = true then some (HO.frz { cls := .type "list", data := .seq vs.toArray } (.lst (ns.map V.int))) else if b ∈ cs.map (·.2) then some (.tbl #[]) else none) = some u →
        (b = a ∧ own = true ∧ u = HO.frz { cls := .type "list", data := .seq vs.toArray } (.lst (ns.map V.int))) ∨ (b ∈ cs.map (·.2) ∧ u = .tbl #[]) := by
      intro b u e
      by_cases c1 : b = a ∧ own = true
      · rw [if_pos c1] at e
        exact .inl ⟨c1.1, c1.2, (Option.some.inj e).symm⟩
      · rw [if_neg c1] at e
        by_cases c2 : b ∈ cs.map (·.2)
        · rw [if_pos c2] at e
          exact .inr ⟨c2, (Option.some.inj e).symm⟩
        · rw [if_neg c2] at e
          cases e
    refine core (fun b => if b = a ∧ own = true then some (.frz { cls := .type "list", data := .seq vs.toArray } (.lst (ns.map V.int))) else if b ∈ cs.map (·.2) then some (.tbl #[]) else none) (fun b u e => ?_) (fun p hp => ?_) ?_ (fun b u e => ?_) (fun u e => ?_)
    · rcases atA e with ⟨c1, _, rfl⟩ | c2
      · exact .inl ⟨c1, _, _, rfl⟩
      · exact .inr c2
    · have hm : p.2 ∈ cs.map (·.2) := List.mem_map.mpr ⟨p, hp, rfl⟩
      have ne : ¬ (p.2 = a ∧ own = true) := fun z => apart (z.1 ▸ hm)
      show (if p.2 = a ∧ own = true then _ else if p.2 ∈ cs.map (·.2) then _ else _) = _
      rw [if_neg ne, if_pos hm]
    · cases own with
      | true => exact .inl (.inr ⟨{ cls := .type "list", data := .seq vs.toArray }, if_pos ⟨rfl, rfl⟩⟩)
      | false =>
        have q := h2 rfl
        have e : (fun b => if b = a ∧ false = true then some (HO.frz { cls := .type "list", data := .seq vs.toArray } (.lst (ns.map V.int))) else if b ∈ cs.map (·.2) then some (HO.tbl #[]) else none) = (fun b => if b ∈ cs.map (·.2) then some (HO.tbl #[]) else none) := by
          funext b
          rw [if_neg (fun z => Bool.noConfusion z.2)]
        rw [e]
        exact q
    · rcases atA e with ⟨rfl, _, rfl⟩ | ⟨hm, rfl⟩
      · exact ⟨ha, by rw [List.length_map]; exact hl, vs, _, rv, ha⟩
      · obtain ⟨p, hp, rfl⟩ := isTab b hm
        exact (tabs p hp).2
    · rcases atA e with ⟨_, o1, _⟩ | ⟨hm, _⟩
      · exact h1 o1
      · exact absurd hm apart
  cases hk : K.lookup a with
  | none => exact begin_ true (fun _ => hk) (fun z => Bool.noConfusion z)
  | some o =>
    have e := KX a o hk
    rw [ha] at e
    cases e
    refine begin_ false (fun z => Bool.noConfusion z) (fun _ => .inr ⟨_, vs.toArray, _, hk, rfl, rfl, rfl, ?_, ?_⟩)
    · rw [List.size_toArray, hi.length]
      exact hl
    · simpa using rv
/-- the end: the promise is told of the makers' code objects and tables -/
theorem walkTG {l : PySem.W.OpenLaw} {n k : Nat} {q : Program} {loose : List Str} {XP : (Str → Option Value) → Heap → Prop} {YP : World → Heap → Prop} {d : DefRec} {K : Params → PySem.W.Frag} {sp : PySem.W.Frag → List (Addr × Addr) → Sp} {x : Str}
    (hn : l.most = some n) (hn2 : n ≤ sizeLine) (hdf : d.params.defaults = []) (hr : Room k callerA) (hY : ∀ (w : World) (h : Heap), YP w h → (K w.params).In h)
    (F : ∀ (w : World) (mg : Str → Option Value) (fa : Addr) (h : Heap), (K w.params).In h → h.Ns mainGlobals mg → mg d.name = some (.ref fa) →
      ∃ (fd : FuncData) (cs : List (Addr × Addr)), (∀ p ∈ cs, ∃ (y : Str) (dd : DefRec), (recsOf q).find? (fun e => e.name == y) = some dd ∧ PySem.W.tabIn (K w.params) y = some p) ∧ (∀ p ∈ cs, (K w.params).lookup p.2 = none) ∧
        (∀ (s : Shared) (u : Value), BindsTo s fd ⟨[u], []⟩ [(x, u)]) ∧
        ∀ base : Heap, (K w.params).In base → base.Ns mainGlobals mg → (∀ p ∈ cs, TabB base mg p.1 p.2) → FnG l.prog w (K w.params) mg base CX0 k fa fd [x] (sp (K w.params) cs))
    (hsp : ∀ (K : PySem.W.Frag) (cs : List (Addr × Addr)) (H : Hp) (a : Addr) (ns : List Int), ns.length ≤ n → (∀ p ∈ cs, H p.2 = some (.tbl #[])) → SqL K H a (ns.map V.int) → sp K cs [.ref a] H (fun v _ => v = .bl true) fun _ _ _ => False) :
    PySem.W.WalkO q loose XP YP l.row.toRowW d [] (fun f vs => PySem.call f vs) := by
  refine Att.attach_call hn hdf fun w s0 s1 mg mb fa o pm cd doc a vs ns G Y ho hd hcd hmg hobj hints hlen hg => ?_
  obtain ⟨fd, cs, hT, nK, hb, hF⟩ := F w mg fa _ (hY w _ Y) G.T.g hmg
  refine law_callTG (cs := cs) (hY w _ Y) G.T.g G.T.b G.T.builtins G.T.nolimit hg (fun p hp => ?_) nK G.T.bmain hobj hints (Nat.le_trans hlen hn2) hr hF hb (fun H hH hS => hsp _ cs H a ns hlen hH hS)
  obtain ⟨y, dd, e1, e2⟩ := hT p hp
  exact PySem.W.tab_of G.T (hY w _ Y) e1 e2
end Lb

set_option Elab.async false
set_option linter.all false
set_option maxRecDepth 100000
set_option maxHeartbeats 4000000
/-! def f(a, *v) that may raise; one contract of two -/
namespace Lb
open PySem PySem.Spec PyProof.Rows L2
theorem FnOk.up {P : Program} {w : World} {K : PySem.W.Frag} {mg : Str → Option Value} {base : Heap} {CX : CXT} {k : Nat} {f : Addr} {fd : FuncData} {ps : List Str} {sp : Sp} (F : L2.FnOk P w K mg base CX0 k f fd ps sp) : L2.FnOk P w K mg base CX k f fd ps sp :=
  ⟨F.len, fun A outer s H args us vs Q E hr e0 hb r h => codeAny_mono (F.run A outer s H args us vs Q E hr e0 hb r h) fun r s' z => by
    rcases r with er | fl
    · exact False.elim z
    · cases fl <;> exact z⟩
theorem FnOk.either {P : Program} {w : World} {K : PySem.W.Frag} {mg : Str → Option Value} {base : Heap} {CX : CXT} {k : Nat} {f : Addr} {fd : FuncData} {ps : List Str} {sp sq : Sp} (F : L2.FnOk P w K mg base CX k f fd ps sp) (G : L2.FnOk P w K mg base CX k f fd ps sq) :
    L2.FnOk P w K mg base CX k f fd ps (fun vs H Q E => sp vs H Q E ∨ sq vs H Q E) :=
  ⟨fun vs H Q E h => h.elim (F.len vs H Q E) (G.len vs H Q E), fun A outer s H args us vs Q E hr e0 hb r h => h.elim (F.run A outer s H args us vs Q E hr e0 hb r) (G.run A outer s H args us vs Q E hr e0 hb r)⟩
theorem star_okX {P : Program} {w : World} {K : PySem.W.Frag} {mg : Str → Option Value} {base : Heap} {x qual : Str} {st : Stmt} {f : Addr} {fd : FuncData} {N ps : List Str} {pv : Str} {k : Nat} {sp : Sp} (F : Fun K x qual st f fd) (S : FnScope N (ps ++ [pv]) (defScope st))
    (hb : ∀ (kV doc pm : Value) (an : Option Addr) (cdv ct : Value) (us rest : List Value), us.length = ps.length → bindArgs (PySem.W.fnOf x qual (defArgs st) (defBody st) (defScope st) .none kV doc pm an cdv ct) ⟨us ++ rest, []⟩ = (newTuple rest >>= fun t => pure (ps.zip us ++ [(pv, t)])))
    (hbody : ∀ (cdv : Value) (A : Around) (outer : List Env) (s : Shared) (H : Hp) (vs : List V) (Q : VK) (E : XK), Room k (A.deeper (envOfC qual (defScope st) s.heap.objs.size f cdv)) → sp vs H Q E →
      ∃ t, PSs (cxOf (L2.CX P w) P w K mg base N qual (defScope st) f cdv A outer s H E) (defBody st) t ∧ t { nx := fun _ H' => Q .non H', rt := Q } (start N vs) H) :
    FnR P w K mg base (L2.CX P w) (k + 1) f (fun vs H Q E => ∃ ws rest, vs = ws ++ rest ∧ ws.length = ps.length ∧ rest.length ≤ sizeLine ∧ ∀ p, H p = Option.none → sp (ws ++ [V.ref p]) (upd H p (.tup rest)) Q E) := by
  obtain ⟨oc, od, kV, doc, pm, an, cdv, ct, osl, rfl, lk, hcd⟩ := F.ex
  exact StX.fn_star lk hcd S StX.cxUp (fun us rest l => hb kV doc pm an cdv ct us rest l) fun A outer s H vs Q E hr h => hbody cdv A outer s H vs Q E hr h
end Lb

set_option Elab.async false
set_option linter.all false
set_option maxRecDepth 100000
set_option maxHeartbeats 4000000
/-! repr of lists and tuples, one within another, that hold instances of own classes -/
namespace Lb
open PySem PySem.Spec PyProof.Rows L2
/-- what is shown: a plain value, an instance, a list, a tuple -/
inductive Tr where
  | lf (t : Str) | ow (t : Str) | ls (l : List Tr) | tp (l : List Tr)
mutual
def Tr.text : Tr → Str
  | .lf t => t
  | .ow t => t
  | .ls l => listText (Tr.texts l)
  | .tp l => tupleText (Tr.texts l)
def Tr.texts : List Tr → List Str
  | [] => []
  | t :: r => t.text :: Tr.texts r
end
mutual
def Tr.sz : Tr → Nat
  | .lf _ => 0
  | .ow _ => 0
  | .ls l => Tr.szs l + 1
  | .tp l => Tr.szs l + 1
def Tr.szs : List Tr → Nat
  | [] => 0
  | t :: r => t.sz + Tr.szs r
end
mutual
def Tr.dep : Tr → Nat
  | .lf _ => 0
  | .ow _ => 0
  | .ls l => Tr.deps l + 1
  | .tp l => Tr.deps l + 1
def Tr.deps : List Tr → Nat
  | [] => 0
  | t :: r => max t.dep (Tr.deps r)
end
/-- a value that is no object, and its text -/
def Lf : V → Str → Prop
  | .non, t => t = "None"
  | .bl true, t => t = "True"
  | .bl false, t => t = "False"
  | .int i, t => i.natAbs.log2 < 1920 ∧ t = (toString i : String)
  | .str x, t => t = reprText x
  | _, _ => False
mutual
def Sh (K : PySem.W.Frag) (O : Addr → Hp → Str → Prop) (H : Hp) : Tr → V → Prop
  | .lf t, v => Lf v t
  | .ow t, v => ∃ a, v = .ref a ∧ O a H t
  | .ls l, v => ∃ a xs, v = .ref a ∧ SqL K H a xs ∧ Shs K O H l xs
  | .tp l, v => ∃ a xs, v = .ref a ∧ SqT K H a xs ∧ Shs K O H l xs
def Shs (K : PySem.W.Frag) (O : Addr → Hp → Str → Prop) (H : Hp) : List Tr → List V → Prop
  | [], xs => xs = []
  | t :: ts, xs => ∃ x r, xs = x :: r ∧ Sh K O H t x ∧ Shs K O H ts r
end
section
variable {K : PySem.W.Frag} {O : Addr → Hp → Str → Prop} {H H' : Hp}
theorem texts_map : ∀ l : List Tr, Tr.texts l = l.map Tr.text
  | [] => rfl
  | t :: r => by simp only [Tr.texts, List.map_cons, texts_map r]
theorem texts_len (l : List Tr) : (Tr.texts l).length = l.length := by rw [texts_map, List.length_map]
theorem texts_get {l : List Tr} {i : Nat} {T : Tr} (h : l[i]? = some T) : (Tr.texts l)[i]? = some T.text := by rw [texts_map, List.getElem?_map, h]; rfl
theorem sz_le : ∀ {l : List Tr} {T : Tr}, T ∈ l → T.sz ≤ Tr.szs l
  | t :: r, T, h => by
    simp only [Tr.szs]
    rcases List.mem_cons.mp h with e | h
    · rw [e]; omega
    · have := sz_le h; omega
theorem dep_le : ∀ {l : List Tr} {T : Tr}, T ∈ l → T.dep ≤ Tr.deps l
  | t :: r, T, h => by
    simp only [Tr.deps]
    rcases List.mem_cons.mp h with e | h
    · rw [e]; omega
    · have := dep_le h; omega
theorem Shs.get : ∀ {l : List Tr} {xs : List V} {i : Nat} {T : Tr}, Shs K O H l xs → l[i]? = some T → ∃ x, xs[i]? = some x ∧ Sh K O H T x
  | [], _, _, _, _, e => by simp at e
  | t :: r, xs, i, T, h, e => by
    simp only [Shs] at h
    obtain ⟨x, q, rfl, h1, h2⟩ := h
    cases i with
    | zero => simp at e; subst e; exact ⟨x, rfl, h1⟩
    | succ i =>
      obtain ⟨y, e1, e2⟩ := Shs.get h2 (i := i) (by simpa using e)
      exact ⟨y, by simpa using e1, e2⟩
theorem Shs.len : ∀ {l : List Tr} {xs : List V}, Shs K O H l xs → xs.length = l.length
  | [], _, h => by simp only [Shs] at h; rw [h]; rfl
  | t :: r, xs, h => by
    simp only [Shs] at h
    obtain ⟨x, q, rfl, h1, h2⟩ := h
    simp only [List.length_cons, Shs.len h2]
mutual
theorem Sh.same (hO : ∀ a t, O a H t → O a H' t) (e : Same H H') : ∀ (T : Tr) (v : V), Sh K O H T v → Sh K O H' T v
  | .lf _, _, h => by simp only [Sh] at h ⊢; exact h
  | .ow _, _, h => by simp only [Sh] at h ⊢; obtain ⟨a, q, o⟩ := h; exact ⟨a, q, hO _ _ o⟩
  | .ls l, _, h => by simp only [Sh] at h ⊢; obtain ⟨a, xs, q, o, z⟩ := h; exact ⟨a, xs, q, e.seq o, Shs.same hO e l xs z⟩
  | .tp l, _, h => by simp only [Sh] at h ⊢; obtain ⟨a, xs, q, o, z⟩ := h; exact ⟨a, xs, q, SqT.ext o e, Shs.same hO e l xs z⟩
theorem Shs.same (hO : ∀ a t, O a H t → O a H' t) (e : Same H H') : ∀ (l : List Tr) (xs : List V), Shs K O H l xs → Shs K O H' l xs
  | [], _, h => by simp only [Shs] at h ⊢; exact h
  | t :: r, _, h => by simp only [Shs] at h ⊢; obtain ⟨x, q, w, h1, h2⟩ := h; exact ⟨x, q, w, Sh.same hO e t x h1, Shs.same hO e r q h2⟩
end
end
/-- what is asked of the texts of other objects: they stay while what is known stays, and are those of instances or dicts -/
structure OwnT (O : Addr → Hp → Str → Prop) : Prop where
  mono : ∀ a H H' t, Same H H' → O a H t → O a H' t
  ins : ∀ a H t, O a H t → (∃ C dx fs, H a = some (.ins C dx fs)) ∨ ∃ kvs, H a = some (.dK kvs)
section
variable {X : Cx} {O : Addr → Hp → Str → Prop} {pins : List (Addr × Obj)} {σ : L2.St} {H : Hp} {s : Shared}
theorem at_list (I : Inv X pins σ H s) {a : Addr} {xs : List V} (h : SqL X.K H a xs) : ∃ (its : List Value) (o : Obj) (n : Nat), Vals xs its ∧ s.heap.get? a = some o ∧ o.cls = .type "list" ∧ o.data = .seq its.toArray n := by
  obtain ⟨its, r, ⟨o, n, e, c, _, d⟩, _⟩ := I.list h
  exact ⟨its, o, n, r, e, c, d⟩
theorem at_tup (I : Inv X pins σ H s) {a : Addr} {xs : List V} (h : SqT X.K H a xs) : ∃ (its : List Value) (o : Obj) (n : Nat), Vals xs its ∧ s.heap.get? a = some o ∧ o.cls = .type "tuple" ∧ o.data = .seq its.toArray n := by
  rcases h with h | ⟨o, its, n, hk, hc, hd, hs, r⟩
  · obtain ⟨_, its, r, o, e, c, n, d⟩ := h.ok I.hok
    exact ⟨its, o, n, r, e, c, d⟩
  · exact ⟨its.toList, o, n, r, I.kIn a o hk, hc, by simpa using hd⟩
theorem cls_list (I : Inv X pins σ H s) {a : Addr} {xs : List V} (h : SqL X.K H a xs) : ∃ o, s.heap.get? a = some o ∧ o.cls = .type "list" :=
  let ⟨_, o, _, _, e, c, _⟩ := at_list I h
  ⟨o, e, c⟩
theorem cls_tup (I : Inv X pins σ H s) {a : Addr} {xs : List V} (h : SqT X.K H a xs) : ∃ o, s.heap.get? a = some o ∧ o.cls = .type "tuple" :=
  let ⟨_, o, _, _, e, c, _⟩ := at_tup I h
  ⟨o, e, c⟩
theorem cls_own (I : Inv X pins σ H s) (hO : OwnT O) {a : Addr} {t : Str} (h : O a H t) : ∃ o, s.heap.get? a = some o ∧ o.cls ≠ .type "list" ∧ o.cls ≠ .type "tuple" := by
  rcases hO.ins _ _ _ h with ⟨C, dx, fs, e⟩ | ⟨kvs, e⟩
  · obtain ⟨_, _, _, g, _⟩ := I.hok a _ e
    exact ⟨_, g, by simp [PySem.W.instObj], by simp [PySem.W.instObj]⟩
  · obtain ⟨_, _, _, _, o, _, _, g, h2, _⟩ := dk_of I.hok e
    exact ⟨o, g, by rw [h2.1]; decide, by rw [h2.1]; decide⟩
theorem list_one (I : Inv X pins σ H s) {a : Addr} {xs ys : List V} (h : SqL X.K H a xs) (h' : SqL X.K H a ys) : xs = ys := by
  obtain ⟨its, o, n, r, e, _, d⟩ := at_list I h
  obtain ⟨its', o', n', r', e', _, d'⟩ := at_list I h'
  rw [e] at e'
  cases e'
  rw [d] at d'
  cases d'
  exact r.inj r'
theorem tup_one (I : Inv X pins σ H s) {a : Addr} {xs ys : List V} (h : SqT X.K H a xs) (h' : SqT X.K H a ys) : xs = ys := by
  obtain ⟨its, o, n, r, e, _, d⟩ := at_tup I h
  obtain ⟨its', o', n', r', e', _, d'⟩ := at_tup I h'
  rw [e] at e'
  cases e'
  rw [d] at d'
  cases d'
  exact r.inj r'
theorem apartC {h : Heap} {a : Addr} {c d : Value} (h1 : ∃ o, h.get? a = some o ∧ o.cls = c) (h2 : ∃ o, h.get? a = some o ∧ o.cls = d) : c = d := by
  obtain ⟨o, e, z⟩ := h1
  obtain ⟨o', e', z'⟩ := h2
  rw [e] at e'
  cases e'
  rw [← z, ← z']
mutual
theorem sz_one (I : Inv X pins σ H s) (hO : OwnT O) : ∀ (T T' : Tr) (v : V), Sh X.K O H T v → Sh X.K O H T' v → T.sz = T'.sz
  | .lf _, .lf _, _, _, _ => by simp only [Tr.sz]
  | .lf _, .ow _, _, _, _ => by simp only [Tr.sz]
  | .ow _, .lf _, _, _, _ => by simp only [Tr.sz]
  | .ow _, .ow _, _, _, _ => by simp only [Tr.sz]
  | .lf _, .ls _, _, h, h' => by simp only [Sh] at h h'; obtain ⟨a, xs, rfl, _⟩ := h'; exact h.elim
  | .lf _, .tp _, _, h, h' => by simp only [Sh] at h h'; obtain ⟨a, xs, rfl, _⟩ := h'; exact h.elim
  | .ls _, .lf _, _, h', h => by simp only [Sh] at h h'; obtain ⟨a, xs, rfl, _⟩ := h'; exact h.elim
  | .tp _, .lf _, _, h', h => by simp only [Sh] at h h'; obtain ⟨a, xs, rfl, _⟩ := h'; exact h.elim
  | .ow _, .ls _, _, h, h' => by
    simp only [Sh] at h h'
    obtain ⟨a, rfl, o⟩ := h
    obtain ⟨b, xs, e, q, _⟩ := h'
    cases e
    obtain ⟨o1, e1, c1, c2⟩ := cls_own I hO o
    exact absurd (apartC ⟨o1, e1, rfl⟩ (cls_list I q)) c1
  | .ow _, .tp _, _, h, h' => by
    simp only [Sh] at h h'
    obtain ⟨a, rfl, o⟩ := h
    obtain ⟨b, xs, e, q, _⟩ := h'
    cases e
    obtain ⟨o1, e1, c1, c2⟩ := cls_own I hO o
    exact absurd (apartC ⟨o1, e1, rfl⟩ (cls_tup I q)) c2
  | .ls _, .ow _, _, h', h => by
    simp only [Sh] at h h'
    obtain ⟨a, rfl, o⟩ := h
    obtain ⟨b, xs, e, q, _⟩ := h'
    cases e
    obtain ⟨o1, e1, c1, c2⟩ := cls_own I hO o
    exact absurd (apartC ⟨o1, e1, rfl⟩ (cls_list I q)) c1
  | .tp _, .ow _, _, h', h => by
    simp only [Sh] at h h'
    obtain ⟨a, rfl, o⟩ := h
    obtain ⟨b, xs, e, q, _⟩ := h'
    cases e
    obtain ⟨o1, e1, c1, c2⟩ := cls_own I hO o
    exact absurd (apartC ⟨o1, e1, rfl⟩ (cls_tup I q)) c2
  | .ls _, .tp _, _, h, h' => by
    simp only [Sh] at h h'
    obtain ⟨a, xs, rfl, o, _⟩ := h
    obtain ⟨b, ys, e, q, _⟩ := h'
    cases e
    exact absurd (apartC (cls_list I o) (cls_tup I q)) (by simp)
  | .tp _, .ls _, _, h', h => by
    simp only [Sh] at h h'
    obtain ⟨a, xs, rfl, o, _⟩ := h
    obtain ⟨b, ys, e, q, _⟩ := h'
    cases e
    exact absurd (apartC (cls_list I o) (cls_tup I q)) (by simp)
  | .ls l, .ls l', _, h, h' => by
    simp only [Sh] at h h'
    obtain ⟨a, xs, rfl, o, z⟩ := h
    obtain ⟨b, ys, e, q, z'⟩ := h'
    cases e
    have := list_one I o q
    subst this
    simp only [Tr.sz, szs_one I hO l l' xs z z']
  | .tp l, .tp l', _, h, h' => by
    simp only [Sh] at h h'
    obtain ⟨a, xs, rfl, o, z⟩ := h
    obtain ⟨b, ys, e, q, z'⟩ := h'
    cases e
    have := tup_one I o q
    subst this
    simp only [Tr.sz, szs_one I hO l l' xs z z']
theorem szs_one (I : Inv X pins σ H s) (hO : OwnT O) : ∀ (l l' : List Tr) (xs : List V), Shs X.K O H l xs → Shs X.K O H l' xs → Tr.szs l = Tr.szs l'
  | [], [], _, _, _ => rfl
  | [], _ :: _, _, h, h' => by
    simp only [Shs] at h h'
    obtain ⟨x, r, e, _⟩ := h'
    rw [h] at e
    cases e
  | _ :: _, [], _, h', h => by
    simp only [Shs] at h h'
    obtain ⟨x, r, e, _⟩ := h'
    rw [h] at e
    cases e
  | t :: l, t' :: l', _, h, h' => by
    simp only [Shs] at h h'
    obtain ⟨x, r, rfl, h1, h2⟩ := h
    obtain ⟨y, q, e, h3, h4⟩ := h'
    cases e
    simp only [Tr.szs, sz_one I hO t t' x h1 h3, szs_one I hO l l' r h2 h4]
end
end
end Lb

set_option Elab.async false
set_option linter.all false
set_option maxRecDepth 100000
set_option maxHeartbeats 4000000
/-! .. how it runs -/
namespace Lb
open PySem PySem.Spec PyProof.Rows L2
open PySem.Builtin
/-- where a repr runs: within m others -/
structure AtR (X : Cx) (A : Around) (g : List Code) (m : Nat) : Prop where
  gd : A.guards = some g
  fr : A.frames = X.A.frames
  hd : A.handled = X.A.handled
  dp : A.depth ≤ X.A.depth + m
  un : A.units ≤ X.A.units + m
theorem AtR.loop {X : Cx} {A : Around} {g : List Code} {m : Nat} (h : AtR X A g m) (args : Args) : AtR X (A.under (.builtin "list.__repr__.loop" args)) (.builtin "list.__repr__.loop" args :: g) (m + 1) := by
  have w1 : (Code.builtin "list.__repr__.loop" args).weight ≤ 1 := by
    simp [Code.weight, Code.isCreation, Code.isGuard, Code.isCaller, Code.frames, Code.isFrame, guardIds]
  have h1 := h.dp
  have h2 := h.un
  refine ⟨guards_under_guard (isGuard_list_loop _) h.gd, ?_, h.hd, ?_, ?_⟩
  · have : (A.under (.builtin "list.__repr__.loop" args)).frames = A.frames := by simp [Around.under, Code.envs, Code.isFrame, pushEnvs]
    rw [this]
    exact h.fr
  · show A.depth + _ ≤ _
    omega
  · rw [units_under_list_loop]
    omega
theorem AtR.tup {X : Cx} {A : Around} {g : List Code} {m : Nat} (h : AtR X A g m) {id : String} {args : Args} (hi : id = "tuple.__repr__" ∨ id = "tuple.__repr__.under") : AtR X (A.under (.builtin id args)) (.builtin id args :: g) (m + 1) := by
  have w1 : (Code.builtin id args).weight ≤ 1 := by
    rcases hi with rfl | rfl <;> simp [Code.weight, Code.isCreation, Code.isGuard, Code.isCaller, Code.frames, Code.isFrame, guardIds]
  have hcg : (Code.builtin id args).isGuard = true := by
    rcases hi with rfl | rfl
    · exact isGuard_tuple_repr _
    · exact isGuard_tuple_repr_under _
  have hcu : (A.under (.builtin id args)).units = A.units + 1 := by
    rcases hi with rfl | rfl
    · exact units_under_tuple_repr _ _
    · exact units_under_tuple_repr_under _ _
  have h1 := h.dp
  have h2 := h.un
  refine ⟨guards_under_guard hcg h.gd, ?_, h.hd, ?_, ?_⟩
  · have : (A.under (.builtin id args)).frames = A.frames := by
      rcases hi with rfl | rfl <;> simp [Around.under, Code.envs, Code.isFrame, pushEnvs]
    rw [this]
    exact h.fr
  · show A.depth + _ ≤ _
    omega
  · rw [hcu]
    omega
/-- what is being shown is greater than n -/
def Above (K : PySem.W.Frag) (O : Addr → Hp → Str → Prop) (H : Hp) (g : List Code) (n : Nat) : Prop :=
  ∀ id v rest kw, Code.builtin id ⟨v :: rest, kw⟩ ∈ g → ∃ c T, v = .ref c ∧ Sh K O H T (.ref c) ∧ n < T.sz
section
variable {X : Cx} {O : Addr → Hp → Str → Prop} {pins : List (Addr × Obj)} {σ : L2.St} {H : Hp} {s : Shared} {D : Nat}
theorem Above.same {K : PySem.W.Frag} {H H' : Hp} {g : List Code} {n : Nat} (hO : OwnT O) (e : Same H H') (h : Above K O H g n) : Above K O H' g n := fun id v rest kw m =>
  let ⟨c, T, q, z, l⟩ := h id v rest kw m
  ⟨c, T, q, Sh.same (fun a t o => hO.mono _ _ _ _ e o) e T _ z, l⟩
theorem Above.le {K : PySem.W.Frag} {H : Hp} {g : List Code} {n k : Nat} (h : Above K O H g n) (l : k ≤ n) : Above K O H g k := fun id v rest kw m =>
  let ⟨c, T, q, z, x⟩ := h id v rest kw m
  ⟨c, T, q, z, by omega⟩
theorem Above.clear {g : List Code} {T : Tr} {b : Addr} (I : Inv X pins σ H s) (hO : OwnT O) (h : Above X.K O H g T.sz) (hT : Sh X.K O H T (.ref b)) : Clear g b := fun id v rest kw m e => by
  obtain ⟨c, T', q, z, l⟩ := h id v rest kw m
  rw [q] at e
  cases e
  have := sz_one I hO T T' _ hT z
  omega
theorem Above.cons {K : PySem.W.Frag} {g : List Code} {n : Nat} {id : String} {a : Addr} {rest : List Value} {kw : List (Str × Value)} {T : Tr} (h : Above K O H g n) (hT : Sh K O H T (.ref a)) (l : n < T.sz) :
    Above K O H (.builtin id ⟨.ref a :: rest, kw⟩ :: g) n := fun id' v rest' kw' m => by
  rcases List.mem_cons.mp m with e | m
  · cases e
    exact ⟨a, T, rfl, hT, l⟩
  · exact h _ _ _ _ m
/-- a tree is shown -/
def RpT (X : Cx) (O : Addr → Hp → Str → Prop) (D : Nat) (T : Tr) : Prop :=
  ∀ (base : Nat) (A : Around) (g : List Code) (m : Nat) (pins : List (Addr × Obj)) (σ : L2.St) (H : Hp) (s : Shared) (x : V) (u : Value) (Q : Str → Shared → Prop), Sh X.K O H T x → base + T.text.length ≤ sizeLine → AtR X A g m → m + T.dep ≤ D →
    Above X.K O H g T.sz → Inv X pins σ H s → RelV x u → (∀ s' H2, Same H H2 → Inv X pins σ H2 s' → Q T.text s') → wpAny (model X.prog X.w) A (pyReprUnder base u) Q X.xe s
theorem strs_of : ∀ {ts : List Str} {its : List Value}, Vals (ts.map V.str) its → ∃ l : List (Str × Tok), its = strValues l ∧ l.map (·.1) = ts
  | [], _, h => by
    cases h
    exact ⟨[], rfl, rfl⟩
  | t :: r, _, h => by
    cases h with
    | cons h1 h2 =>
      obtain ⟨k, rfl⟩ := (show ∃ k, _ = Value.str t k from h1)
      obtain ⟨l, e1, e2⟩ := strs_of h2
      exact ⟨(t, k) :: l, by rw [e1]; rfl, by rw [← e2]; rfl⟩
theorem upd_same_hp {G H : Hp} {P : Addr} {o : HO} (h : Same G H) (hP : G P = none) : Same G (upd H P o) := fun b u e => by
  have : b ≠ P := fun z => by rw [z, hP] at e; cases e
  rw [upd_ne this]
  exact h b u e
theorem loopT {m base : Nat} {a P : Addr} {l : List Tr} {xs : List V} {A : Around} {g : List Code} {G : Hp} {R : Result → Shared → Prop} (hO : OwnT O)
    (hT : ∀ T ∈ l, RpT X O D T) (hA : AtR X A g m) (hd : ∀ T ∈ l, m + 1 + T.dep ≤ D) (hL : SqL X.K G a xs) (hS : Shs X.K O G l xs) (hab : Above X.K O G g (Tr.szs l + 1)) (hP : G P = none)
    (hsz : base + (listText (Tr.texts l)).length ≤ sizeLine) (hE : ∀ e s', X.xe e s' → R (.error e) s') (hR : ∀ H' s' u, Same G H' → Inv X pins σ H' s' → R (.ok (.ret (.str (listText (Tr.texts l)) u))) s') :
    ∀ (k i : Nat) (s : Shared) (H : Hp), l.length - i = k → i ≤ l.length → Same G H → H P = some (.lst (((Tr.texts l).take i).map V.str)) → Inv X pins σ H s →
    codeAny (model X.prog X.w) A (.builtin "list.__repr__.loop" ⟨[.ref a, rawInt i, .ref P, rawInt ((base + piled ((Tr.texts l).take i) : Nat) : Int)], []⟩) R s := by
  have hX : (listText (Tr.texts l)).length = (textFrom 0 "[" (Tr.texts l)).length + 1 := by
    show (textFrom 0 "[" (Tr.texts l) ++ "]").length = _
    rw [strLen_append]; rfl
  have hLn := textFrom_len (Tr.texts l) 0 "["
  have hln := texts_len l
  have hsz1 : l.length ≤ sizeLine := by
    have h1 := hLn.1
    rw [if_neg (Nat.lt_irrefl 0), hln] at h1
    omega
  have hsz2 : ∀ t ∈ Tr.texts l, t.length ≤ sizeLine := fun t ht => by
    have h2 := hLn.2.1 t ht
    omega
  have hsz3 : (listText (Tr.texts l)).length ≤ sizeLine := by omega
  have hp3 := piled_le_listText (Tr.texts l)
  have hSl := hS.len
  have hShT : Sh X.K O G (.ls l) (.ref a) := by
    simp only [Sh]
    exact ⟨a, xs, rfl, hL, hS⟩
  intro k
  induction k with
  | zero =>
    intro i s H hk hi e hPl I
    have hin : i = l.length := by omega
    obtain ⟨its, o, n, r, ea, _, da⟩ := at_list I (e.seq hL)
    obtain ⟨_, pts, pn, pr, _, ep⟩ := I.lstM hPl
    refine codeAny_builtin F.entry_list_repr_loop ?_
    show wpAny _ _ («list.__repr__.loop» ⟨[.ref a, .int i 0, .ref P, .int ((base + piled ((Tr.texts l).take i) : Nat) : Int) 0], []⟩) _ _ s
    rw [repr_loop_tree]
    refine wpAny_bind (wpAny_listItems ea da ?_)
    have hnone : its.toArray[(i : Int).toNat]? = none := by
      have := r.length
      simp only [Int.toNat_natCast, List.getElem?_toArray]
      exact List.getElem?_eq_none_iff.mpr (by omega)
    simp only [hnone]
    unfold reprEnd
    refine wpAny_bind (wpAny_listItems ep rfl ?_)
    obtain ⟨done, rfl, hdone⟩ := strs_of pr
    rw [List.toList_toArray, repr_fold]
    refine wpAny_bind (wpAny_pure ?_)
    have hall : done.map (·.1) = Tr.texts l := by rw [hdone, hin, ← hln, List.take_length]
    rw [hall]
    exact wpAny_bind (wpAny_mkStr (wpAny_pure (hR H _ _ e (I.tok _))) hsz3)
  | succ k ih =>
    intro i s H hk hi e hPl I
    have hlt : i < l.length := by omega
    have hget : l[i]? = some l[i] := by simp [hlt]
    obtain ⟨x, hx, hshx⟩ := hS.get hget
    have ht := texts_get hget
    have hp1 := piled_take_succ ht
    have hp2 := piled_take_le (Tr.texts l) (i + 1)
    have hmem : l[i] ∈ l := List.getElem_mem hlt
    obtain ⟨its, o, n, r, ea, _, da⟩ := at_list I (e.seq hL)
    obtain ⟨u, hu, ru⟩ := r.get hx
    refine codeAny_builtin F.entry_list_repr_loop ?_
    show wpAny _ _ («list.__repr__.loop» ⟨[.ref a, .int i 0, .ref P, .int ((base + piled ((Tr.texts l).take i) : Nat) : Int) 0], []⟩) _ _ s
    rw [repr_loop_tree]
    refine wpAny_bind (wpAny_listItems ea da ?_)
    have hsome : its.toArray[(i : Int).toNat]? = some u := by
      simp only [Int.toNat_natCast, List.getElem?_toArray]
      exact hu
    simp only [hsome]
    rw [Int.toNat_natCast]
    have hszT := sz_le hmem
    have mono : ∀ b t, O b G t → O b H t := fun b t z => hO.mono _ _ _ _ e z
    refine wpAny_bind (wpAny_holding (wpAny_mono (hT _ hmem (base + piled ((Tr.texts l).take i) + 1) _ _ (m + 1) pins σ H s x u _ (Sh.same mono e _ _ hshx) (by omega) (hA.loop _) (by have := hd _ hmem; omega)
      (((hab.le (by omega)).same hO e).cons (Sh.same mono e _ _ hShT) (by simp only [Tr.sz]; omega)) I ru fun s' H2 e2 I2 => ?_) (fun _ _ z => z) fun _ _ z => hE _ _ z))
    refine wpAny_bind (wpAny_mkStr ?_ (hsz2 _ (List.mem_of_getElem? ht)))
    refine wpAny_bind ?_
    show wpAny _ _ (updateSeq P _) _ _ _
    have hP2 := e2 _ _ hPl
    obtain ⟨zz, pts, pn, pr, pl, ep⟩ := I2.lstM hP2
    rw [List.length_map] at zz pl
    refine wpAny_updateSeq ep rfl (wpAny_pure ⟨F.quiet_list_repr_loop _, ?_⟩) (by simp only [List.size_toArray]; omega)
    have e1 : ((i : Int) + 1) = ((i + 1 : Nat) : Int) := by omega
    have e3 : base + piled ((Tr.texts l).take i) + ((l[i]).text.length + 2) = base + piled ((Tr.texts l).take (i + 1)) := by omega
    rw [e1, e3]
    have htk : (Tr.texts l).take (i + 1) = (Tr.texts l).take i ++ [(l[i]).text] := by simp [List.take_add_one, ht]
    refine ih (i + 1) _ (upd H2 P (.lst (((Tr.texts l).take (i + 1)).map V.str))) (by omega) hlt (upd_same_hp (e.trans e2) hP) upd_same ?_
    refine I2.lset hP2 ep (its' := pts ++ [.str (l[i]).text s'.toks]) (by simp) ?_ ?_
    · rw [htk, List.map_append]
      exact pr.append (.cons ⟨_, rfl⟩ .nil)
    · rw [List.length_map, List.length_take]
      omega
end
end Lb

set_option Elab.async false
set_option linter.all false
set_option maxRecDepth 100000
set_option maxHeartbeats 4000000
/-! .. the whole, and repr(x) of it -/
namespace Lb
open PySem PySem.Spec PyProof.Rows L2
open PySem.Builtin
section
variable {X : Cx} {O : Addr → Hp → Str → Prop} {pins : List (Addr × Obj)} {σ : L2.St} {H : Hp} {s : Shared} {D : Nat}
/-- the body of list.__repr__, the list not empty -/
theorem bodyL {m base : Nat} {a : Addr} {t0 : Tr} {l0 : List Tr} {xs : List V} {A : Around} {g : List Code} {R : Result → Shared → Prop} (hO : OwnT O)
    (hT : ∀ T ∈ t0 :: l0, RpT X O D T) (hA : AtR X A g m) (hd : ∀ T ∈ t0 :: l0, m + 1 + T.dep ≤ D) (hL : SqL X.K H a xs) (hS : Shs X.K O H (t0 :: l0) xs) (hab : Above X.K O H g (Tr.ls (t0 :: l0)).sz)
    (hsz : base + (listText (Tr.texts (t0 :: l0))).length ≤ sizeLine) (I : Inv X pins σ H s) (hE : ∀ e s', X.xe e s' → R (.error e) s')
    (hR : ∀ H' s' u, Same H H' → Inv X pins σ H' s' → R (.ok (.ret (.str (listText (Tr.texts (t0 :: l0))) u))) s') :
    wpAny (model X.prog X.w) A.in1 (Builtin.listReprAt base ⟨[.ref a], []⟩) (fun fin s' => match fin with | .done f => R (.ok f) s' | .again c' => c'.quiet = true ∧ codeAny (model X.prog X.w) A c' R s') (fun e s' => R (.error e) s') s := by
  have hSh : Sh X.K O H (.ls (t0 :: l0)) (.ref a) := by
    simp only [Sh]
    exact ⟨a, xs, rfl, hL, hS⟩
  have hcl := hab.clear I hO hSh
  obtain ⟨its, o, n, r, ea, _, da⟩ := at_list I hL
  have ln := hS.len
  have ln2 := r.length
  cases its with
  | nil =>
    rw [ln] at ln2
    simp at ln2
  | cons u us =>
    refine wpAny_list_repr_head (A := A.in1) hA.gd (fun v rest kw hm => listSameRef_of_ne (hcl _ _ _ _ hm)) ea da ?_
    refine wpAny_bind (m := newList []) (wpAny_newObj_type ?_)
    refine wpAny_pure ⟨F.quiet_list_repr_loop _, ?_⟩
    have I2 := I.lnew (its := []) (ys := []) (t' := s.toks) .nil (by simp)
    exact loopT hO hT hA hd hL hS (hab.le (by simp only [Tr.sz]; omega)) I.fresh hsz hE hR _ 0 _ _ rfl (Nat.zero_le _) (upd_same_hp (Same.refl H) I.fresh) upd_same I2
theorem tupT {m : Nat} {A : Around} {g : List Code} {Y : Hp} (hO : OwnT O) (hA : AtR X A g m) (hab0 : ∀ T', Tr.sz T' ≤ Tr.sz T' ) : ∀ (l : List Tr) (us : List Value) (xs : List V) (acc : Array Str) (n : Nat) (s : Shared) (H : Hp) (Q : (Array Str × Nat) → Shared → Prop),
    (∀ T ∈ l, RpT X O D T) → (∀ T ∈ l, m + T.dep ≤ D) → (∀ T ∈ l, Above X.K O H g T.sz) → Shs X.K O H l xs → Vals xs us → n + piled (Tr.texts l) ≤ sizeLine → Inv X pins σ H s →
    (∀ s' H2, Same H H2 → Inv X pins σ H2 s' → Q ⟨acc ++ (Tr.texts l).toArray, n + piled (Tr.texts l)⟩ s') → wpAny (model X.prog X.w) A (forIn us (⟨acc, n⟩ : (Array Str × Nat)) tupBody) Q X.xe s := by
  intro l
  induction l with
  | nil =>
    intro us xs acc n s H Q hT hd hab hS r hn I h
    simp only [Shs] at hS
    subst hS
    cases r
    have h0 := h s H (Same.refl H) I
    simp only [List.forIn_nil]
    exact wpAny_pure (by simpa [piled, Tr.texts] using h0)
  | cons T l ih =>
    intro us xs acc n s H Q hT hd hab hS r hn I h
    simp only [Shs] at hS
    obtain ⟨x, xs', rfl, hx, hxs⟩ := hS
    cases r with
    | @cons _ u _ us' ru rus =>
      simp only [Tr.texts] at hn h
      rw [piled_cons] at hn
      rw [List.forIn_cons]
      refine wpAny_bind (wpAny_bind (hT T List.mem_cons_self (n + 1) A g m pins σ H s x u _ hx (by omega) hA (hd T List.mem_cons_self) (hab T List.mem_cons_self) I ru fun s1 H1 e1 I1 => wpAny_pure ?_))
      refine ih us' xs' (acc.push T.text) (n + (T.text.length + 2)) s1 H1 Q (fun T' m' => hT T' (List.mem_cons_of_mem _ m')) (fun T' m' => hd T' (List.mem_cons_of_mem _ m')) (fun T' m' => (hab T' (List.mem_cons_of_mem _ m')).same hO e1) (Shs.same (fun a t z => hO.mono _ _ _ _ e1 z) e1 _ _ hxs) rus (by omega) I1 fun s2 H2 e2 I2 => ?_
      have h1 := h s2 H2 (e1.trans e2) I2
      have e : n + piled (T.text :: Tr.texts l) = n + (T.text.length + 2) + piled (Tr.texts l) := by rw [piled_cons]; omega
      rw [e] at h1
      simpa using h1
/-- the body of tuple.__repr__ -/
theorem bodyT {m base : Nat} {a : Addr} {l : List Tr} {xs : List V} {A : Around} {g : List Code} {R : Result → Shared → Prop} {id : String} {rest : List Value} (hi : id = "tuple.__repr__" ∨ id = "tuple.__repr__.under") (hO : OwnT O)
    (hT : ∀ T ∈ l, RpT X O D T) (hA : AtR X A g m) (hd : ∀ T ∈ l, m + 1 + T.dep ≤ D) (hL : SqT X.K H a xs) (hS : Shs X.K O H l xs) (hab : Above X.K O H g (Tr.tp l).sz)
    (hsz : base + (tupleText (Tr.texts l)).length ≤ sizeLine) (I : Inv X pins σ H s) (hE : ∀ e s', X.xe e s' → R (.error e) s')
    (hR : ∀ H' s' u, Same H H' → Inv X pins σ H' s' → R (.ok (.ret (.str (tupleText (Tr.texts l)) u))) s') :
    wpOwn (model X.prog X.w) A (.builtin id ⟨.ref a :: rest, []⟩) (Builtin.tupleReprAt base ⟨[.ref a], []⟩) (fun fin s' => match fin with | .done f => R (.ok f) s' | .again c' => c'.quiet = true ∧ codeAny (model X.prog X.w) A c' R s') (fun e s' => R (.error e) s') s := by
  have hSh : Sh X.K O H (.tp l) (.ref a) := by
    simp only [Sh]
    exact ⟨a, xs, rfl, hL, hS⟩
  have hcl := hab.clear I hO hSh
  obtain ⟨its, o, n, r, ea, _, da⟩ := at_tup I hL
  have ln := hS.len
  have ln2 := r.length
  have ln3 := texts_len l
  have hlen : (Tr.texts l).length = its.length := by omega
  have hp := piled_le_tupleText (Tr.texts l)
  have hsz0 : (tupleText (Tr.texts l)).length ≤ sizeLine := by omega
  rw [tuple_repr_tree, tupleReprUnderWay_eq]
  refine wpOwn_bind (wpOwn_stackTailAny hA.gd (tupGuardF_off _) (tupGuardF_pos _) ?_)
  have hn : (g.any fun c => tupGuardF (.ref a) (c, default)) = false := by
    rw [List.any_eq_false]
    intro c hcm
    rw [tupGuardF_of_clear hcl c hcm]
    exact Bool.false_ne_true
  rw [hn]
  refine wpOwn_of_wpAny ?_
  show wpAny _ _ (tupleReprRest base (.ref a)) _ _ s
  unfold tupleReprRest Builtin.Tuple.tupleItemsOf
  refine wpAny_bind (wpAny_bind (wpAny_seqItems ea da (wpAny_pure ?_)))
  rw [← Array.forIn_toList, List.toList_toArray]
  refine wpAny_bind (wpAny_mono (tupT (m := m + 1) (Y := H) hO (hA.tup hi) (fun _ => Nat.le_refl _) l its xs _ _ s H _ hT hd (fun T hm => (hab.le (by have := sz_le hm; simp only [Tr.sz]; omega)).cons hSh (by have := sz_le hm; simp only [Tr.sz]; omega)) hS r (by omega) I fun s' H2 e2 I2 => ?_) (fun _ _ z => z) fun _ _ z => hE _ _ z)
  refine wpAny_bind (wpAny_mkStr (wpAny_pure ?_) (by simpa [tupleText, hlen] using hsz0))
  have h1 := hR H2 _ s'.toks e2 (I2.tok (s'.toks + 1))
  simpa [tupleText, hlen] using h1
theorem rp_leaf {t : Str} : RpT X O D (.lf t) := by
  intro base A g m pins σ H s x u Q hS hz hA hd hab I r hQ
  simp only [Sh] at hS
  simp only [Tr.text] at hz hQ
  cases x with
  | non =>
    cases (show u = Value.none from r)
    rw [show t = ("None" : Str) from hS] at hz hQ
    exact ReprIs.none base hz A _ s Q fun tk => hQ _ H (Same.refl H) (I.tok tk)
  | bl b =>
    cases (show u = Value.bool b from r)
    cases b with
    | true =>
      rw [show t = ("True" : Str) from hS] at hz hQ
      exact ReprIs.bool (prog := X.prog) (w := X.w) true base hz A _ s Q fun tk => hQ _ H (Same.refl H) (I.tok tk)
    | false =>
      rw [show t = ("False" : Str) from hS] at hz hQ
      exact ReprIs.bool (prog := X.prog) (w := X.w) false base hz A _ s Q fun tk => hQ _ H (Same.refl H) (I.tok tk)
  | int i =>
    obtain ⟨k, rfl⟩ := (show ∃ k, u = Value.int i k from r)
    obtain ⟨hi, e⟩ := (show i.natAbs.log2 < 1920 ∧ t = (toString i : String) from hS)
    rw [e] at hz hQ
    exact ReprIs.int k hi base hz A _ s Q fun tk => hQ _ H (Same.refl H) (I.tok tk)
  | str y =>
    obtain ⟨k, rfl⟩ := (show ∃ k, u = Value.str y k from r)
    rw [show t = reprText y from hS] at hz hQ
    exact ReprIs.str y k (by omega) base hz A _ s Q fun tk => hQ _ H (Same.refl H) (I.tok tk)
  | byt y => exact hS.elim
  | flt y => exact hS.elim
  | ty y => exact hS.elim
  | ref a => exact hS.elim
theorem rp_list {l : List Tr} (hu : X.A.units + D + 64 < cLine) (hO : OwnT O) (hT : ∀ T ∈ l, RpT X O D T) : RpT X O D (.ls l) := by
  intro base A g m pins σ H s x u Q hS hz hA hd hab I r hQ
  have hS' := hS
  simp only [Sh] at hS
  simp only [Tr.text] at hz hQ
  simp only [Tr.dep] at hd
  obtain ⟨a, xs, rfl, hL, hSs⟩ := hS
  cases (show u = Value.ref a from r)
  obtain ⟨its, o, n, rv, ea, ca, da⟩ := at_list I hL
  have hun := hA.un
  have hTy : s.TypeIs (.ref a) "list" := ⟨o, ea, ca⟩
  refine wpAny_pyReprUnder_ref (by omega) ?_
  cases l with
  | nil =>
    simp only [Shs] at hSs
    subst hSs
    cases rv
    exact wpAny_pyReprObjUnder_list_empty hTy (by omega) ea da ⟨_, _, rfl, hQ _ H (Same.refl H) (I.tok _)⟩
  | cons t0 l0 =>
    refine wpAny_pyReprObjUnder_twin (twin := "list.__repr__.under") hTy F.slot_list_repr.toG rfl (by omega) ?_
    refine call_twin_plain F.plain_list_repr_under F.entry_list_repr_under F.check_list_repr_under hTy F.slot_list_repr.toG (F.args_list_repr_1 _) ?_
    exact bodyL (R := callEnd _ _) hO hT hA (fun T hm => by have := dep_le hm; omega) hL hSs hab hz I (fun e s' z => z) fun H' s' k e I' => ⟨⟨_, _, rfl⟩, _, _, rfl, hQ _ H' e I'⟩
theorem rp_tup {l : List Tr} (hu : X.A.units + D + 64 < cLine) (hO : OwnT O) (hT : ∀ T ∈ l, RpT X O D T) : RpT X O D (.tp l) := by
  intro base A g m pins σ H s x u Q hS hz hA hd hab I r hQ
  simp only [Sh] at hS
  simp only [Tr.text] at hz hQ
  simp only [Tr.dep] at hd
  obtain ⟨a, xs, rfl, hL, hSs⟩ := hS
  cases (show u = Value.ref a from r)
  obtain ⟨its, o, n, rv, ea, ca, da⟩ := at_tup I hL
  have hun := hA.un
  have hTy : s.TypeIs (.ref a) "tuple" := ⟨o, ea, ca⟩
  refine wpAny_pyReprUnder_ref (by omega) ?_
  refine wpAny_pyReprObjUnder_twin (twin := "tuple.__repr__.under") hTy F.slot_tuple_repr rfl (by omega) ?_
  refine call_twin_own (F.quiet_tuple_repr_under _) F.entry_tuple_repr_under F.check_tuple_repr_under hTy F.slot_tuple_repr (F.args_tuple_repr_1 _) ?_
  exact bodyT (R := callEnd _ _) (.inr rfl) hO hT hA (fun T hm => by have := dep_le hm; omega) hL hSs hab hz I (fun e s' z => z) fun H' s' k e I' => ⟨⟨_, _, rfl⟩, _, _, rfl, hQ _ H' e I'⟩
/-- another object is shown -/
def OwR (X : Cx) (D : Nat) (O : Addr → Hp → Str → Prop) : Prop :=
  ∀ (t : Str) (base : Nat) (A : Around) (g : List Code) (m : Nat) (pins : List (Addr × Obj)) (σ : L2.St) (H : Hp) (s : Shared) (a : Addr) (Q : Str → Shared → Prop), O a H t → base + t.length ≤ sizeLine → AtR X A g m → m ≤ D →
    Clear g a → Inv X pins σ H s → (∀ s' H2, Same H H2 → Inv X pins σ H2 s' → Q t s') → wpAny (model X.prog X.w) A (pyReprUnder base (.ref a)) Q X.xe s
theorem OwR.or {O' : Addr → Hp → Str → Prop} (h : OwR X D O) (h' : OwR X D O') : OwR X D (fun a H t => O a H t ∨ O' a H t) :=
  fun t base A g m pins σ H s a Q ho => ho.elim (fun z => h t base A g m pins σ H s a Q z) fun z => h' t base A g m pins σ H s a Q z
theorem OwnT.or {O O' : Addr → Hp → Str → Prop} (h : OwnT O) (h' : OwnT O') : OwnT (fun a H t => O a H t ∨ O' a H t) :=
  ⟨fun a H H' t e z => z.elim (fun z => .inl (h.mono _ _ _ _ e z)) fun z => .inr (h'.mono _ _ _ _ e z), fun a H t z => z.elim (h.ins a H t) (h'.ins a H t)⟩
theorem rp_ow (hO : OwnT O) (h : OwR X D O) (t : Str) : RpT X O D (.ow t) := by
  intro base A g m pins σ H s x u Q hS hz hA hd hab I r hQ
  have hS' := hS
  simp only [Sh] at hS
  simp only [Tr.text] at hz hQ
  obtain ⟨a, rfl, o⟩ := hS
  cases (show u = Value.ref a from r)
  exact h t base A g m pins σ H s a Q o hz hA (by omega) (hab.clear I hO hS') I hQ
mutual
theorem rp (hu : X.A.units + D + 64 < cLine) (hO : OwnT O) (hI : OwR X D O) : ∀ T : Tr, RpT X O D T
  | .lf t => rp_leaf
  | .ow t => rp_ow hO hI t
  | .ls l => rp_list hu hO (rps hu hO hI l)
  | .tp l => rp_tup hu hO (rps hu hO hI l)
theorem rps (hu : X.A.units + D + 64 < cLine) (hO : OwnT O) (hI : OwR X D O) : ∀ l : List Tr, ∀ T ∈ l, RpT X O D T
  | [], _, h => nomatch h
  | t :: r, T, h => by
    rcases List.mem_cons.mp h with e | h
    · rw [e]
      exact rp hu hO hI t
    · exact rps hu hO hI r T h
end
theorem top_list {A : Around} {l : List Tr} {a : Addr} {xs : List V} {Q : Option Value → Shared → Prop} (hu : X.A.units + D + 64 < cLine) (hO : OwnT O) (hT : ∀ T ∈ l, RpT X O D T) (hA : AtR X A [] 1) (hd : Tr.deps l + 2 ≤ D)
    (hL : SqL X.K H a xs) (hS : Shs X.K O H l xs) (hz : (listText (Tr.texts l)).length ≤ sizeLine) (I : Inv X pins σ H s) (hQ : ∀ k s' H2, Same H H2 → Inv X pins σ H2 s' → Q (some (.str (listText (Tr.texts l)) k)) s') :
    wpAny (model X.prog X.w) A (callSpecialIfBound? (.ref a) (Str.ofString "__repr__")) Q X.xe s := by
  obtain ⟨its, o, n, rv, ea, ca, da⟩ := at_list I hL
  have hTy : s.TypeIs (.ref a) "list" := ⟨o, ea, ca⟩
  refine wpAny_callSpecialIfBound?_slot (name := Str.ofString "__repr__") hTy F.slot_list_repr ?_
  cases l with
  | nil =>
    simp only [Shs] at hS
    subst hS
    cases rv
    exact call_list_repr_empty hTy ea da (hQ _ _ H (Same.refl H) (I.tok _))
  | cons t0 l0 =>
    refine wpAny_call (codeAny_call_builtin F.slot_list_repr.plain F.entry_list_repr (F.slot_list_repr.check _ _ _ _ _ _ _ _ hTy (F.args_list_repr_1 _) ?_))
    exact bodyL (base := 0) (R := callEnd _ _) hO hT hA (fun T hm => by have := dep_le hm; omega) hL hS (fun _ _ _ _ z => nomatch z) (by omega) I (fun e s' z => z) fun H' s' k e I' => hQ _ _ H' e I'
theorem top_tup {A : Around} {l : List Tr} {a : Addr} {xs : List V} {Q : Option Value → Shared → Prop} (hu : X.A.units + D + 64 < cLine) (hO : OwnT O) (hT : ∀ T ∈ l, RpT X O D T) (hA : AtR X A [] 1) (hd : Tr.deps l + 2 ≤ D)
    (hL : SqT X.K H a xs) (hS : Shs X.K O H l xs) (hz : (tupleText (Tr.texts l)).length ≤ sizeLine) (I : Inv X pins σ H s) (hQ : ∀ k s' H2, Same H H2 → Inv X pins σ H2 s' → Q (some (.str (tupleText (Tr.texts l)) k)) s') :
    wpAny (model X.prog X.w) A (callSpecialIfBound? (.ref a) (Str.ofString "__repr__")) Q X.xe s := by
  obtain ⟨its, o, n, rv, ea, ca, da⟩ := at_tup I hL
  have hTy : s.TypeIs (.ref a) "tuple" := ⟨o, ea, ca⟩
  refine wpAny_callSpecialIfBound?_slotG (name := Str.ofString "__repr__") hTy F.slot_tuple_repr ?_
  refine wpAny_call (codeAny_call_builtin_own (Code.quiet_builtin _ (by decide +kernel)) F.entry_tuple_repr (F.slot_tuple_repr.check _ _ _ _ _ _ _ _ hTy (F.args_tuple_repr_1 _) ?_))
  exact bodyT (base := 0) (R := callEnd _ _) (.inl rfl) hO hT hA (fun T hm => by have := dep_le hm; omega) hL hS (fun _ _ _ _ z => nomatch z) (by omega) I (fun e s' z => z) fun H' s' k e I' => hQ _ _ H' e I'
/-- repr(x), x a list or a tuple of such -/
def rShow (K : PySem.W.Frag) (O : Addr → Hp → Str → Prop) (D : Nat) : List V → Hp → VK → Prop := fun xs H Q =>
  ∃ x T, xs = [x] ∧ Sh K O H T x ∧ (∃ l, T = .ls l ∨ T = .tp l) ∧ T.text.length ≤ sizeLine ∧ T.dep + 1 ≤ D ∧ ∀ H', Same H H' → Q (.str T.text) H'
theorem call_show {K : PySem.W.Frag} (hK : X.K = K) (hg : X.A.guards = some []) (hu : X.A.units + D + 64 < cLine) (hO : OwnT O) (hI : OwR X D O) : CallR X (.builtin "repr") (rShow K O D) := by
  subst hK
  intro pins s σ H xs us Q I r h
  obtain ⟨x, T, rfl, hS, ⟨l, hk⟩, hz, hd, q⟩ := h
  obtain ⟨u, rfl, ru⟩ := vals1 r
  have hA : AtR X X.A.in1 [] 1 := ⟨hg, rfl, rfl, Nat.le_succ _, Nat.le_refl _⟩
  refine Calls.call_function_entry PySem.F.kind_repr PySem.F.plain_repr PySem.F.entry_repr (PySem.F.args_repr1 _) ?_
  unfold Builtin.«repr»
  refine wpAny_bind (m := oneArg "repr" _) (wpAny_pure ?_)
  refine wpAny_bind (m := cRoomFor _ _) (wpAny_cRoomFor (by show X.A.units + 1 < cLine; omega) ?_)
  rcases hk with rfl | rfl
  · simp only [Sh] at hS
    simp only [Tr.text] at hz q
    simp only [Tr.dep] at hd
    obtain ⟨a, xs, rfl, hL, hSs⟩ := hS
    cases (show u = Value.ref a from ru)
    obtain ⟨its, o, n, rv, ea, ca, da⟩ := at_list I hL
    have hTy : s.TypeIs (.ref a) "list" := ⟨o, ea, ca⟩
    refine wpAny_bind (wpAny_specialOf (name := Str.ofString "__repr__") hTy F.slot_list_repr.lookup ?_)
    refine wpAny_bind (m := callSpecialIfBound? (.ref a) (Str.ofString "__repr__")) (top_list hu hO (rps hu hO hI l) hA (by omega) hL hSs hz I fun k s' H2 e I2 => ?_)
    exact wpAny_bind (wpAny_isInstance (T := "str") (b := true) rfl isSubtype_str_str (wpAny_pure ⟨_, rfl, .str _, H2, I2, ⟨_, rfl⟩, q H2 e⟩))
  · simp only [Sh] at hS
    simp only [Tr.text] at hz q
    simp only [Tr.dep] at hd
    obtain ⟨a, xs, rfl, hL, hSs⟩ := hS
    cases (show u = Value.ref a from ru)
    obtain ⟨its, o, n, rv, ea, ca, da⟩ := at_tup I hL
    have hTy : s.TypeIs (.ref a) "tuple" := ⟨o, ea, ca⟩
    refine wpAny_bind (wpAny_specialOf (name := Str.ofString "__repr__") hTy F.slot_tuple_repr.lookup ?_)
    refine wpAny_bind (m := callSpecialIfBound? (.ref a) (Str.ofString "__repr__")) (top_tup hu hO (rps hu hO hI l) hA (by omega) hL hSs hz I fun k s' H2 e I2 => ?_)
    exact wpAny_bind (wpAny_isInstance (T := "str") (b := true) rfl isSubtype_str_str (wpAny_pure ⟨_, rfl, .str _, H2, I2, ⟨_, rfl⟩, q H2 e⟩))
end
end Lb

set_option Elab.async false
set_option linter.all false
set_option maxRecDepth 100000
set_option maxHeartbeats 4000000
/-! instances of own classes: shown within lists, in f-strings, asked with `in` -/
namespace Lb
open PySem PySem.Spec PyProof.Rows L2
section
variable {X : Cx} {D : Nat} {C g : Addr} {sp : Sp} {E : XK} {CX : CXT} {n : Nat}
theorem ifBoundBy_own {M : Model} {A : Around} {E : Value → Shared → Prop} {s : Shared} {K : PySem.W.Frag} {x C f : Addr} {ox : Obj} {od : Option Obj} {base : Nat} {Q : Option Value → Shared → Prop} (X : K.In s.heap) (I : PySem.W.InstAt s.heap x ox C od)
    (hs : PySem.W.findIn K (.ref C) "__repr__" = some (some (.ref f))) (hf : PySem.W.isFn K (.ref f) = true) (h : wpAny M A (call (.ref f) [.ref x]) (fun v => Q (some v)) E s) :
    wpAny M A (callSpecialIfBoundBy? (fun g first => match reprUnder? g, first with
      | some twin, [self] => call twin [self, rawInt base]
      | _, _ => call g (first ++ [])) (.ref x) (Str.ofString "__repr__")) Q E s := by
  simp only [callSpecialIfBoundBy?, bindSpecialIfBound?]
  refine wpAny_holding (wpAny_bind (wpAny_bind (wpAny_bind (I.type.here ((PySem.W.looks_findIn X hs).here ?_)))))
  refine wpAny_bind (wpAny_askSetting (wpAny_ite ?_))
  have fin : wpAny M A (call (.ref f) ([.ref x] ++ []) >>= fun v => pure (some v)) Q E s := wpAny_bind (wpAny_mono h (fun v s' h' => wpAny_pure h') fun _ _ h' => h')
  split
  · exact wpAny_bind ((PySem.W.bind_fn X _ (beq_iff_eq.mp hf)).here (wpAny_pure (by exact fin)))
  · exact wpAny_tryCatch (wpAny_bind ((PySem.W.bind_fn X _ (beq_iff_eq.mp hf)).here (wpAny_pure (by exact fin))))
/-- an instance whose class has __repr__ -/
theorem ow_repr {O : Addr → Hp → Str → Prop} (hs : PySem.W.findIn X.K (.ref C) "__repr__" = some (some (.ref g))) (hf : PySem.W.isFn X.K (.ref g) = true) (F : FnR X.prog X.w X.K X.mg X.base CX n g sp) (hr : Room (n + D) X.A) (hx : Passes CX X E)
    (hO : ∀ a H t, O a H t → (∃ dx fs, H a = some (.ins C dx fs)) ∧ ∀ Q : VK, (∀ H', Same H H' → Q (.str t) H') → sp [.ref a] H Q E) : OwR X D O := by
  intro t base A gs m pins σ H s a Q o hz hA hm hcl I hQ
  obtain ⟨⟨dx, fs, ha⟩, hsp⟩ := hO _ _ _ o
  obtain ⟨od, J⟩ := inst_at I ha
  have h1 := hA.dp
  have h2 := hA.un
  have hr1 := hr.dp
  have hr2 := hr.un
  refine wpAny_pyReprUnder_ref (by omega) ?_
  unfold pyReprObjUnder pyReprObjBy
  refine wpAny_bind (wpAny_cRoomFor (by omega) ?_)
  refine wpAny_bind (wpAny_bind (J.type.here ((PySem.W.looks_findIn I.kIn hs).here ?_)))
  have hrA : Room n A := ⟨by rw [hA.hd]; exact hr.hd, by omega, by omega⟩
  have e0 : Env0 X.prog X.w X.K X.mg X.base A X.stack s H := ⟨by rw [hA.fr]; exact I.env0.frames, I.env0.mod, I.env0.bs, I.env0.bsz, I.env0.funs, I.env0.frf, I.env0.hok, I.env0.bare⟩
  refine wpAny_bind (ifBoundBy_own I.kIn J hs hf ?_)
  refine wpAny_mono (wpAny_call (SlX.run_at (us := [.ref a]) (ws := [.ref a]) (Q := fun v H' => v = .str t ∧ Same H H') F hrA e0 hx I (.cons rfl .nil) (hsp _ fun H' e => ⟨rfl, e⟩))) (fun w s' z => ?_) fun _ _ x => x
  obtain ⟨z', H', I', rz, ez, e⟩ := z
  subst ez
  obtain ⟨k, rfl⟩ := (show ∃ k, w = Value.str t k from rz)
  exact wpAny_bind (wpAny_isInstance (T := "str") (b := true) rfl isSubtype_str_str (wpAny_pure ⟨_, _, rfl, hQ _ H' e I'⟩))
/-- an empty dict -/
def OEmpty : Addr → Hp → Str → Prop := fun a H t => H a = some (.dK []) ∧ t = "{}"
theorem own_empty : OwnT OEmpty := ⟨fun a H H' t e h => ⟨e _ _ h.1, h.2⟩, fun a H t h => .inr ⟨_, h.1⟩⟩
theorem ow_empty (hu : X.A.units + D + 64 < cLine) : OwR X D OEmpty := by
  intro t base A gs m pins σ H s a Q o hz hA hm hcl I hQ
  obtain ⟨e, rfl⟩ := o
  obtain ⟨_, hsm, vs, r, o, es, ep, h1, h2, h3, _, h5, _⟩ := dk_of I.hok e
  cases r
  have he : es = #[] := by
    cases es with
    | mk l =>
      cases (show Pairs _ l [] from h5)
      rfl
  subst he
  have h2' := hA.un
  have hk : ReprK X.prog X.w [a] s.heap 1 (.ref a) (dictText []) := ReprK.dict (d := 0) (as := []) h1 h2.1 h3 hsm (by simp) .nil
  exact hk base hz A gs X.xe s Q hA.gd (fun b hb => by rw [List.mem_singleton.mp hb]; exact hcl) (by omega) (fun _ _ z => z) fun h' tk k => hQ _ H (Same.refl H) (I.kept k)
/-- {x} of an instance whose class has __str__ -/
def tFmtOwn (C : Addr) (sp : Sp) (E : XK) (te : TE) : TE := fun σ H Q => te σ H fun x H1 => ∃ a dx fs, x = .ref a ∧ H1 a = some (.ins C dx fs) ∧ sp [x] H1 (fun z H' => ∃ y, z = .str y ∧ Q (.str y) H') E
theorem pe_fmtOwn {e : Expr} {te : TE} {pos : Pos} (hfm : PySem.W.findIn X.K (.ref C) "__format__" = some (some (.builtin "object.__format__"))) (hm : PySem.W.mroIn X.K C (.type "object") = some true)
    (hs : PySem.W.findIn X.K (.ref C) "__str__" = some (some (.ref g))) (hf : PySem.W.isFn X.K (.ref g) = true) (F : FnR X.prog X.w X.K X.mg X.base CX n g sp) (hr : Room (n + 1) X.A) (hx : Passes CX X E) (he : PE X e te) :
    PE X (.FormattedValue e (-1) none pos) (tFmtOwn C sp E te) := by
  refine ⟨fun pins s σ H Q I h => ?_⟩
  refine wpAny_FormattedValue_plain (thn (he.run pins s σ H _ I h) fun v s1 hv => ?_)
  obtain ⟨x, H1, I1, r1, a, dx, fs, rfl, ha, q⟩ := hv
  cases (show v = Value.ref a from r1)
  obtain ⟨od, J⟩ := inst_at I1 ha
  have hu := hr.un
  refine PySem.W.kfo_fieldS (by show X.A.units + 1 < cLine; omega) I1.kIn J hfm hm hs hf ?_
  refine wpAny_mono (wpAny_call (SlX.run_at (us := [.ref a]) (ws := [.ref a]) F hr.in1 (I1.tok (s1.toks + 1)).env0.in1 hx (I1.tok (s1.toks + 1)) (.cons rfl .nil) q)) (fun w s' z => ?_) fun _ _ x => x
  obtain ⟨z', H', I', rz, y, ez, qz⟩ := z
  subst ez
  obtain ⟨t, rfl⟩ := (show ∃ t, w = Value.str y t from rz)
  exact ⟨.str y, H', I', ⟨t, rfl⟩, qz⟩
/-- {x!r} of an instance whose class has __repr__ -/
def tFmtOwnR (C : Addr) (sp : Sp) (E : XK) (te : TE) : TE := fun σ H Q => te σ H fun x H1 => ∃ a dx fs, x = .ref a ∧ H1 a = some (.ins C dx fs) ∧ sp [x] H1 (fun z H' => ∃ y, z = .str y ∧ y.length ≤ sizeLine ∧ Q (.str y) H') E
theorem pe_fmtOwnR {e : Expr} {te : TE} {pos : Pos} (hs : PySem.W.findIn X.K (.ref C) "__repr__" = some (some (.ref g))) (hf : PySem.W.isFn X.K (.ref g) = true) (F : FnR X.prog X.w X.K X.mg X.base CX n g sp) (hr : Room (n + 1) X.A) (hx : Passes CX X E) (he : PE X e te) :
    PE X (.FormattedValue e 114 none pos) (tFmtOwnR C sp E te) := by
  refine ⟨fun pins s σ H Q I h => ?_⟩
  refine wpAny_FormattedValue_repr (thn (he.run pins s σ H _ I h) fun v s1 hv => ?_)
  obtain ⟨x, H1, I1, r1, a, dx, fs, rfl, ha, q⟩ := hv
  cases (show v = Value.ref a from r1)
  obtain ⟨od, J⟩ := inst_at I1 ha
  have hu := hr.un
  unfold pyReprObj
  refine wpAny_bind (wpAny_cRoomFor (by omega) ?_)
  refine wpAny_bind (wpAny_bind (J.type.here ((PySem.W.looks_findIn I1.kIn hs).here ?_)))
  refine wpAny_bind (m := callSpecialIfBound? (.ref a) (Str.ofString "__repr__")) (PySem.W.ifBound_K I1.kIn J hs hf ?_)
  refine wpAny_mono (wpAny_call (SlX.run_at (us := [.ref a]) (ws := [.ref a]) F (hr.mono (Nat.le_succ _)) I1.env0 hx I1 (.cons rfl .nil) q)) (fun w s' z => ?_) fun _ _ x => x
  obtain ⟨z', H', I', rz, y, ez, hz, qz⟩ := z
  subst ez
  obtain ⟨t, rfl⟩ := (show ∃ t, w = Value.str y t from rz)
  refine wpAny_bind (wpAny_isInstance (T := "str") (b := true) rfl isSubtype_str_str (wpAny_pure ?_))
  exact wpAny_formatField_str ⟨.str y, H', I', ⟨t, rfl⟩, qz⟩ ⟨.str y, H', I'.tok _, ⟨_, rfl⟩, qz⟩ hz
/-- v in x, x an instance whose class has __contains__, which answers True or False -/
def rInOwn (C : Addr) (sp : Sp) (E : XK) : R2 := fun v x H Q => ∃ a dx fs, x = .ref a ∧ H a = some (.ins C dx fs) ∧ sp [x, v] H (fun z H' => ∃ b, z = .bl b ∧ Q (.bl b) H') E
theorem op_inOwn {K : PySem.W.Frag} (hK : X.K = K) (hs : PySem.W.findIn K (.ref C) "__contains__" = some (some (.ref g))) (hf : PySem.W.isFn K (.ref g) = true) (F : FnR X.prog X.w X.K X.mg X.base CX n g sp) (hr : Room n X.A) (hx : Passes CX X E) :
    OpR X (compareOp .In) (rInOwn C sp E) := by
  subst hK
  intro pins s σ H x y v u Q I rx ry h
  obtain ⟨a, dx, fs, rfl, ha, q⟩ := h
  cases (show u = Value.ref a from ry)
  obtain ⟨od, J⟩ := inst_at I ha
  obtain ⟨m, hF⟩ := I.fr
  refine PySem.W.in_K hF I.ok.mod.kin J hs hf ?_
  refine wpAny_mono (wpAny_call (SlX.run_at (us := [.ref a, v]) (ws := [.ref a, x]) F hr I.env0 hx I (.cons rfl (.cons rx .nil)) q)) (fun w s' z => ?_) fun _ _ x => x
  obtain ⟨z', H', I', rz, b, ez, qz⟩ := z
  subst ez
  cases (show w = Value.bool b from rz)
  exact wpAny_truthy_bool ⟨.bl b, H', I', rfl, qz⟩
end
end Lb

set_option Elab.async false
set_option linter.all false
set_option maxRecDepth 100000
set_option maxHeartbeats 4000000
/-! [f(x) for x in ..], each of it found from one of the other's -/
namespace Lb
open PySem PySem.Spec PyProof.Rows L2
theorem paired_mono {α β : Type} {F G : α → β → Prop} (h : ∀ a b, F a b → G a b) : ∀ {l : List α} {m : List β}, Paired F l m → Paired G l m
  | _, _, .nil => .nil
  | _, _, .cons r t => .cons (h _ _ r) (paired_mono h t)
theorem paired_snoc {α β : Type} {F : α → β → Prop} {x : α} {y : β} (r : F x y) : ∀ {l : List α} {m : List β}, Paired F l m → Paired F (l ++ [x]) (m ++ [y])
  | _, _, .nil => .cons r .nil
  | _, _, .cons q t => .cons q (paired_snoc r t)
/-- what is known after i steps -/
def MapP (R : V → V → Hp → Prop) (H1 : Hp) (D : Addr) (xs : List V) (i : Nat) (H : Hp) : Prop :=
  Same H1 H ∧ ∃ acc, H D = some (.lst acc) ∧ acc.length = i ∧ Paired (fun x y => R x y H) (xs.take i) acc
section
variable {K : PySem.W.Frag} {a D : Addr} {xs : List V} {g : TG} {te : TE} {vs : List Nat} {σ : L2.St} {H1 : Hp} {Qd : Hp → Prop} (R : V → V → Hp → Prop)
theorem mapP (hR : ∀ x y H H', Same H H' → R x y H → R x y H') (hU : ∀ x y H acc o, H D = some (.lst acc) → R x y H → R x y (upd H D o)) (hD : H1 D = none) (hlen : xs.length ≤ 1000)
    (hs : ∀ (i : Nat) (x : V) (H : Hp), xs[i]? = some x → Same H1 H → ∀ Q' : VK, (∀ y H4, Same H H4 → R x y H4 → Q' y H4) → g x (wipe σ vs) H fun σ2 H2 => wipe σ2 vs = wipe σ vs ∧ te σ2 H2 Q') (i : Nat) (x : V) (H : Hp) (e : xs[i]? = some x)
    (p : MapP R H1 D xs i H) :
    g x (wipe σ vs) H fun σ2 H2 => wipe σ2 vs = wipe σ vs ∧ tYes σ2 H2 fun b H3 =>
      if b = true then te σ2 H3 fun y H4 => ∃ acc, H4 D = some (.lst acc) ∧ acc.length < sizeLine ∧ MapP R H1 D xs (i + 1) (upd H4 D (.lst (acc ++ [y]))) else MapP R H1 D xs (i + 1) H3 := by
  obtain ⟨s, acc, ed, el, pr⟩ := p
  have hi : i < xs.length := by
    rcases Nat.lt_or_ge i xs.length with h | h
    · exact h
    · rw [List.getElem?_eq_none h] at e
      cases e
  refine hs i x H e s (fun y H4 => ∃ acc, H4 D = some (.lst acc) ∧ acc.length < sizeLine ∧ MapP R H1 D xs (i + 1) (upd H4 D (.lst (acc ++ [y])))) fun y H4 s4 r4 => ?_
  refine ⟨acc, s4 _ _ ed, szlt (by omega), fun b o eb => ?_, _, upd_same, by simp [el], ?_⟩
  · have nb : b ≠ D := ne_of_none eb hD
    rw [upd_ne nb]
    exact s4 _ _ (s _ _ eb)
  · have et : xs.take (i + 1) = xs.take i ++ [x] := by simp [List.take_add_one, e]
    rw [et]
    exact paired_snoc (F := fun u z => R u z (upd H4 D (.lst (acc ++ [y])))) (hU _ _ _ _ _ (s4 _ _ ed) r4) (paired_mono (fun x y r => hU _ _ _ _ _ (s4 _ _ ed) (hR _ _ _ _ s4 r)) pr)
/-- over a tuple -/
theorem map_tup (hR : ∀ x y H H', Same H H' → R x y H → R x y H') (hU : ∀ x y H acc o, H D = some (.lst acc) → R x y H → R x y (upd H D o)) (hD : H1 D = none) (hlen : xs.length ≤ 1000) (hS : SqT K H1 a xs)
    (hs : ∀ (i : Nat) (x : V) (H : Hp), xs[i]? = some x → Same H1 H → ∀ Q' : VK, (∀ y H4, Same H H4 → R x y H4 → Q' y H4) → g x (wipe σ vs) H fun σ2 H2 => wipe σ2 vs = wipe σ vs ∧ te σ2 H2 Q')
    (hd : ∀ H ys, Same H1 H → H D = some (.lst ys) → Paired (fun x y => R x y H) xs ys → Qd H) :
    ∃ W : Nat → Nat → Hp → Prop, (∃ m, W 0 m (upd H1 D (.lst []))) ∧ ∀ i m H, W i m H →
      ((Itt K a).stop i H ∧ Qd H) ∨ ((Itt K a).go i H ∧ ∃ Nx : Hp → Prop, (∀ H', Nx H' → ∃ m', m' < m ∧ W (i + 1) m' H') ∧ ∀ x H', (Itt K a).yld i H x H' → g x (wipe σ vs) H' fun σ2 H2 => wipe σ2 vs = wipe σ vs ∧ tYes σ2 H2 fun b H3 =>
        if b = true then te σ2 H3 fun y H4 => ∃ acc, H4 D = some (.lst acc) ∧ acc.length < sizeLine ∧ Nx (upd H4 D (.lst (acc ++ [y]))) else Nx H3) :=
  lc_tup (Qd := Qd) (MapP R H1 D xs) ⟨upd_same_hp (Same.refl H1) hD, [], upd_same, rfl, .nil⟩ (fun i H _ p => SqT.ext hS p.1) (fun i x H e p => mapP R hR hU hD hlen hs i x H e p)
    fun H p => let ⟨s, acc, ed, el, pr⟩ := p; hd H acc s ed (by rw [List.take_length] at pr; exact pr)
/-- over a list -/
theorem map_lst (hR : ∀ x y H H', Same H H' → R x y H → R x y H') (hU : ∀ x y H acc o, H D = some (.lst acc) → R x y H → R x y (upd H D o)) (hD : H1 D = none) (hlen : xs.length ≤ 1000) (hS : SqL K H1 a xs)
    (hs : ∀ (i : Nat) (x : V) (H : Hp), xs[i]? = some x → Same H1 H → ∀ Q' : VK, (∀ y H4, Same H H4 → R x y H4 → Q' y H4) → g x (wipe σ vs) H fun σ2 H2 => wipe σ2 vs = wipe σ vs ∧ te σ2 H2 Q')
    (hd : ∀ H ys, Same H1 H → H D = some (.lst ys) → Paired (fun x y => R x y H) xs ys → Qd H) :
    ∃ W : Nat → Nat → Hp → Prop, (∃ m, W 0 m (upd H1 D (.lst []))) ∧ ∀ i m H, W i m H →
      ((Itl K a).stop i H ∧ Qd H) ∨ ((Itl K a).go i H ∧ ∃ Nx : Hp → Prop, (∀ H', Nx H' → ∃ m', m' < m ∧ W (i + 1) m' H') ∧ ∀ x H', (Itl K a).yld i H x H' → g x (wipe σ vs) H' fun σ2 H2 => wipe σ2 vs = wipe σ vs ∧ tYes σ2 H2 fun b H3 =>
        if b = true then te σ2 H3 fun y H4 => ∃ acc, H4 D = some (.lst acc) ∧ acc.length < sizeLine ∧ Nx (upd H4 D (.lst (acc ++ [y]))) else Nx H3) :=
  lc_list (Qd := Qd) (MapP R H1 D xs) ⟨upd_same_hp (Same.refl H1) hD, [], upd_same, rfl, .nil⟩ (fun i H _ p => Same.seq p.1 hS) (fun i x H e p => mapP R hR hU hD hlen hs i x H e p)
    fun H p => let ⟨s, acc, ed, el, pr⟩ := p; hd H acc s ed (by rw [List.take_length] at pr; exact pr)
end
end Lb

set_option Elab.async false
set_option linter.all false
set_option maxRecDepth 100000
set_option maxHeartbeats 1000000
/-! x(lambda: body, y): a def that is given a lambda and a value -/
namespace Lb
open PySem PySem.Spec PyProof.Rows L2 LamX
def GivesTo2 (X : Cx) (Ng : List Str) (x : Str) (sg : Scope) (g : Addr) (cdg : Value) (bg : List Stmt) (a : Str) (q : Str) (TT : V → (XK → Hp → VK → Prop) → Hp → VK → Prop) : Prop :=
  ∀ (f c' : Addr) (s : Shared) (H : Hp) (Q : VK) (tl : XK → Hp → VK → Prop) (v : V),
    (∀ (W : WX) (pn : List (Addr × Obj)) (xe : Value → Shared → Prop) (E : XK) (σ0 : List (Option V)) (p1 p2 : Pos), Takes ((cxOf C8.CX0 X.prog X.w X.K X.mg X.base Ng x sg g cdg X.A X.stack s H C8.E0).tr pn xe) W → (∀ cls d H', E cls d H' → W cls d σ0 H') →
      PE ((cxOf C8.CX0 X.prog X.w X.K X.mg X.base Ng x sg g cdg X.A X.stack s H C8.E0).tr pn xe) (.Call (.Name a p1) [] [] p2) (fun σZ HZ Q => σZ = σ0 ∧ σZ[0]? = some (some (.ref f)) ∧ HZ c' = some (CodeO c' q) ∧ tl E HZ Q)) →
    H c' = some (CodeO c' q) → TT v tl H Q →
    ∃ t, PSs (cxOf C8.CX0 X.prog X.w X.K X.mg X.base Ng x sg g cdg X.A X.stack s H C8.E0).nox bg t ∧ t { nx := fun _ H' => Q .non H', rt := Q } (L2.start Ng [.ref f, v]) H
def tLam2 (T : List (Addr × Str)) (j : Nat) (TT : V → (XK → Hp → VK → Prop) → Hp → VK → Prop) (t : XK → TE) : TE := fun σ H Q => ∃ v, σ[j]? = some (some v) ∧ Tabs T H ∧ ∀ H1, ExtN H H1 → Tabs T H1 → TT v (fun E H' Q' => t E σ H' Q') H1 Q
section
variable {X : Cx} {pins : List (Addr × Obj)} {σ : List (Option V)} {H : Hp} {s : Shared}
/-- the lambda's run, from the body that calls it -/
theorem lam_run {A : Around} {outer : List Env} {f c' : Addr} {q : Str} {pm ctv : Value} {params : Arguments} {body : Expr} {scope : Scope} {k : Nat} {E : XK} {tb : TE} {HZ : Hp} {sZ : Shared} {Q : VK}
    (I : Inv X pins σ H s) (L : LamS X.env.scope scope) (of1 : sZ.heap.get? f = some (PySem.W.kla_obj "<lambda>" (X.env.qual ++ "<lambda>") params body scope (cloFrom X.env.cells scope.names []) pm c' ctv)) (hc : HZ c' = some (CodeO c' q))
    (hbind : bindArgs (PySem.W.kla_fn "<lambda>" (X.env.qual ++ "<lambda>") params body scope (cloFrom X.env.cells scope.names []) pm (.ref c') ctv) ⟨[], []⟩ = pure []) (hq : q = X.env.qual ++ "<lambda>") (hr : Room (k + 1) A) (e0 : Env0 X.prog X.w X.K X.mg X.base A outer sZ HZ) (lim : sZ.heap.NoLimit)
    (un : Un (frs X.stack) [] H HZ s.heap sZ.heap) (hbody : ∀ (A : Around) (outer : List Env) (s : Shared) (H : Hp), Room k (A.deeper (lamEnv X scope s.heap.objs.size f c')) → PE (lamCx X A outer s H E scope f c') body tb) (ht : tb σ HZ Q) :
    codeAny (model X.prog X.w) A (.call (.ref f) ⟨[], []⟩) (CR (L2.CX X.prog X.w) outer X.prog X.w HZ sZ Q E) sZ := by
  subst hq
  obtain ⟨⟨oc, vs, t, hoc, hdc, hvc⟩, _, _⟩ := e0.hok c' _ hc
  refine PySem.W.kla_callFunE hr.depth of1 rfl L.co L.gen rfl ⟨c', oc, vs, t, rfl, hoc, hdc, hvc⟩ ?_
  rw [hbind]
  refine wpAny_pure (wpAny_newFunctionEnv (fun y hy => (L.own y hy).2) (fun y hy => absurd hy (by simp)) (fun h₁ hns hsb => ⟨lim.fresh _ hsb, ?_⟩) L.kind)
  show codeAny _ _ (.expr body (lamEnv X scope sZ.heap.objs.size f c')) _ _
  refine PySem.W.kla_codeExpr (wpAny_mono ((hbody A outer sZ HZ (hr.deeper _)).run [] _ _ HZ Q (lam_start2 I L e0 hr.hd un hns fun b o e => hsb.extBut b o (Nat.ne_of_lt (Heap.lt_size e)) (Heap.get?_push_of_some _ e)) ht) (fun v s' z => ?_) fun e s' z => z)
  obtain ⟨w', H', J', rv, z⟩ := z
  exact ⟨w', H', J'.os, J'.bare, J'.base, J'.hok, rv, z⟩
/-- x(), in the def that got the lambda, the frame's values known -/
theorem pe_act2 {CXg : CXT} {Eg : XK} {Ng : List Str} {qg : Str} {sg : Scope} {g f c' : Addr} {cdg pm ctv : Value} {params : Arguments} {body : Expr} {scope : Scope} {k i : Nat} {a : Str} {pn : List (Addr × Obj)} {xe : Value → Shared → Prop} {W : WX} {E : XK} {tb : TE} {σ0 : List (Option V)} {p1 p2 : Pos}
    (I : Inv X pins σ H s) (L : LamS X.env.scope scope) (hf : s.heap.get? f = some (PySem.W.kla_obj "<lambda>" (X.env.qual ++ "<lambda>") params body scope (cloFrom X.env.cells scope.names []) pm c' ctv)) (hfn : H f = none) (hfr : f ∉ frs X.stack)
    (hbind : bindArgs (PySem.W.kla_fn "<lambda>" (X.env.qual ++ "<lambda>") params body scope (cloFrom X.env.cells scope.names []) pm (.ref c') ctv) ⟨[], []⟩ = pure [])
    (tk : Takes ((cxOf CXg X.prog X.w X.K X.mg X.base Ng qg sg g cdg X.A X.stack s H Eg).tr pn xe) W) (hW : ∀ cls d H', E cls d H' → W cls d σ0 H') (hr : Room (k + 1) (X.A.deeper (envOfC qg sg s.heap.objs.size g cdg)))
    (hbody : ∀ (A : Around) (outer : List Env) (s : Shared) (H : Hp), Room k (A.deeper (lamEnv X scope s.heap.objs.size f c')) → PE (lamCx X A outer s H E scope f c') body tb)
    (hN : Ng[i]? = some a) (hv : Vis sg a) (hd : (a == ("__debug__" : Str)) = false := by decide) (hcd : (a == ("__classdict__" : Str)) = false := by decide) :
    PE ((cxOf CXg X.prog X.w X.K X.mg X.base Ng qg sg g cdg X.A X.stack s H Eg).tr pn xe) (.Call (.Name a p1) [] [] p2)
      (fun σZ HZ Q => σZ = σ0 ∧ σZ[i]? = some (some (.ref f)) ∧ HZ c' = some (CodeO c' (X.env.qual ++ "<lambda>")) ∧ tb σ HZ Q) := by
  refine ⟨fun pinsZ sZ σZ HZ Q IZ h => ?_⟩
  obtain ⟨rfl, hs, hc, ht⟩ := h
  refine wpAny_Call_Name_kw (thn ((pe_var (pos := p1) (i := i) hN hv hd hcd).run pinsZ sZ σZ HZ (fun v H1 => v = .ref f ∧ H1 = HZ) IZ ⟨.ref f, hs, rfl, rfl⟩) fun u s1 ⟨v, H1, I1, r1, q1⟩ => ?_)
  obtain ⟨ev, eH⟩ := q1
  subst ev
  rw [eH] at I1
  obtain rfl : u = Value.ref f := r1
  have of1 : s1.heap.get? f = some (PySem.W.kla_obj "<lambda>" (X.env.qual ++ "<lambda>") params body scope (cloFrom X.env.cells scope.names []) pm c' ctv) := I1.base.keep f _ hf hfn hfr (fun z => nomatch (show f ∈ ([] : List Addr) from z))
  refine PySem.W.callWith_F0 ⟨_, _, _, _, of1⟩ ?_
  have lim : s1.heap.NoLimit := I1.nolimit
  have un : Un (frs X.stack) [] H HZ s.heap s1.heap := I1.base
  have e0 : Env0 X.prog X.w X.K X.mg X.base (X.A.deeper (envOfC qg sg s.heap.objs.size g cdg)) (envOfC qg sg s.heap.objs.size g cdg :: X.stack) s1 HZ := I1.env0
  have rc := lam_run (X := X) (E := E) (Q := Q) I L of1 hc hbind rfl hr e0 lim un hbody ht
  refine wpAny_call (codeAny_mono rc fun r s' z => ?_)
  cases r with
  | error er => exact tk er s' (XE.of_call I1 (fun cls d H' h => hW cls d H' h) z)
  | ok fl =>
    cases fl with
    | ret u => exact I1.after z
    | next => exact False.elim z
    | brk => exact False.elim z
    | cont => exact False.elim z
theorem pe_lamcall2 {T : List (Addr × Str)} {TT : V → (XK → Hp → VK → Prop) → Hp → VK → Prop} {x a b : Str} {g c P : Addr} {k j : Nat} {pg : Arguments} {bg : List Stmt} {sg : Scope} {dV kV doc pm cdv ct oc : Value} {an od : Option Addr} {osl : Array (Option Value)} {Ng : List Str}
    {params : Arguments} {body e2 : Expr} {scope : Scope} {t : XK → TE} {p lpos pos : Pos} (hg : Gl X x) (hm : X.mg x = some (.ref g)) (hk : PySem.W.keepIn X.K (.ref g) = true)
    (lk : X.K.lookup g = some ⟨oc, od, .func (PySem.W.fnOf x x pg bg sg dV kV doc pm an cdv ct), osl⟩) (hcg : PySem.W.codeIn X.K cdv x = true) (hb : L2.Binds X.K (PySem.W.fnOf x x pg bg sg dV kV doc pm an cdv ct) [a, b] []) (Sg : FnScope Ng [a, b] sg) (hNg : Ng[0]? = some a) (hva : Vis sg a)
    (hG : GivesTo2 X Ng x sg g cdv bg a (X.env.qual ++ "<lambda>") TT) (he2 : PE X e2 (tVar j))
    (TB : TabB X.base X.mg c P) (hcode : X.env.code = .ref c) (hmT : (P, X.env.qual ++ "<lambda>") ∈ T) (hu : ∀ p ∈ T, p.1 = P → p.2 = X.env.qual ++ "<lambda>") (hr : Room (k + 2) X.A) (L : LamS X.env.scope scope) (hdef : defaultsOf params X.env = ([], []))
    (hbind : ∀ (q : Str) (cl : List (Str × Addr)) (pm cv ctv : Value), bindArgs (PySem.W.kla_fn "<lambda>" q params body scope cl pm cv ctv) ⟨[], []⟩ = pure [])
    (hbody : ∀ (A : Around) (outer : List Env) (s : Shared) (H : Hp) (E : XK) (f c' : Addr), Room k (A.deeper (lamEnv X scope s.heap.objs.size f c')) → PE (lamCx X A outer s H E scope f c') body (t E))
    (hs2 : starEach [e2] X.env = (false, eval e2 X.env) :: starEach [] X.env := by rfl)
    (hdb : (x == ("__debug__" : Str)) = false := by decide) (hd : (a == ("__debug__" : Str)) = false := by decide) (hcd : (a == ("__classdict__" : Str)) = false := by decide) :
    PE X (.Call (.Name x p) [.Lambda params body scope lpos, e2] [] pos) (tLam2 T j TT t) := by
  refine ⟨fun pins s σ H Q I h => ?_⟩
  obtain ⟨v2, hv2, hT, h⟩ := h
  refine wpAny_Call_Name_kw (ld_glob I hg hm ?_ hdb)
  refine PySem.W.callWith_K (h₀ := X.base) I.ok.mod.kin hk ?_ (by rfl) (by rw [hs2]; rfl)
  show wpAny _ _ (spliced ((false, eval (.Lambda params body scope lpos) X.env) :: backTo pos (starEach [e2] X.env))) _ _ s
  refine Calls.spliced_cons (lam_make2 I TB hcode hmT hu hT hdef (L.has I.ok) fun f c' pm' ctv H1 s' I1 eN T1 hf hfn hfr hco => ?_)
  rw [hs2]
  show wpAny _ _ (spliced ((false, eval e2 X.env) :: backTo pos (starEach [] X.env))) _ _ s'
  have fd : ∀ {b : Addr} {o : Obj} {es ep}, s'.heap.get? b = some o → o.data = .dict es ep → f ≠ b := fun {b o es ep} e d z => by
    rw [← z, hf] at e
    cases e
    cases d
  have nL : f ≠ X.env.locals := by
    obtain ⟨m, ⟨o, es, ep, ho, hd', _⟩, _⟩ := I1.loc
    exact fd ho hd'
  have nF : f ∉ X.fs := fun hb => by
    refine hfr ?_
    rcases I1.ok.stk with e | ⟨e, hfm⟩
    · rw [e]
      exact hb
    · rw [e]
      unfold frs
      rw [List.filterMap_cons, hfm]
      exact List.mem_cons_of_mem _ hb
  have I1p : Inv X ((f, PySem.W.kla_obj "<lambda>" (X.env.qual ++ "<lambda>") params body scope (cloFrom X.env.cells scope.names []) pm' c' ctv) :: pins) σ H1 s' :=
    ⟨I1.ok, I1.os, I1.bare, I1.base, I1.loc, I1.cell, I1.free, I1.freeC, fun p hp => by
        rcases List.mem_append.mp hp with hp | hp
        · exact I1.pin p (List.mem_append_left _ hp)
        · rcases List.mem_cons.mp hp with rfl | hp
          · exact ⟨hf, hfn, nL, nF, fun v z => nomatch z⟩
          · exact I1.pin p (List.mem_append_right _ hp), I1.hok, I1.len⟩
  refine Calls.spliced_cons (thn (he2.run _ s' σ H1 (fun v H2 => v = v2 ∧ H2 = H1) I1p ⟨v2, hv2, rfl, rfl⟩) fun u s2 ⟨v, H2, I2, r2, q2⟩ => ?_)
  obtain ⟨rfl, rfl⟩ := q2
  have hf2 := (I2.pin _ (List.mem_append_right _ List.mem_cons_self)).1
  have I2' : Inv X pins σ H2 s2 := ⟨I2.ok, I2.os, I2.bare, I2.base, I2.loc, I2.cell, I2.free, I2.freeC, fun p hp => I2.pin p (by
    rcases List.mem_append.mp hp with hp | hp
    · exact List.mem_append_left _ hp
    · exact List.mem_append_right _ (List.mem_cons_of_mem _ hp)), I2.hok, I2.len⟩
  refine Calls.spliced_nil ⟨I2'.kIn, ?_⟩
  have rc : codeAny (model X.prog X.w) X.A (.call (.ref g) ⟨[.ref f, u], []⟩) (CR C8.CX0 X.stack X.prog X.w H2 s2 Q C8.E0) s2 := by
    refine run_ofS (N := Ng) (ps := [a, b]) (us := [.ref f, u]) (vs := [.ref f, v]) lk hcg Sg hr I2'.env0 (hb s2 [.ref f, u] I2'.kIn rfl) (.cons rfl (.cons r2 .nil)) rfl fun hr' => ?_
    obtain ⟨t', ht', hq'⟩ := hG f c' s2 H2 Q (fun E H' Q' => t E σ H' Q') v (fun W pn xe E σ0 p1 p2 tk hW => pe_act2 (i := 0) I2' L hf2 hfn hfr (hbind _ _ _ _ _) tk hW hr' (fun A outer s H hr2 => hbody A outer s H E f c' hr2) hNg hva hd hcd) hco (h H2 eN T1)
    exact ⟨t', ht'.nox, hq'⟩
  refine wpAny_call (codeAny_mono rc fun r s3 hq => ?_)
  cases r with
  | error e => exact (show False from hq).elim
  | ok fl =>
    cases fl with
    | ret u => exact I2'.after hq
    | next => exact False.elim hq
    | brk => exact False.elim hq
    | cont => exact False.elim hq
end
end Lb

set_option Elab.async false
set_option linter.all false
set_option maxRecDepth 100000
set_option maxHeartbeats 4000000
/-! a dict with one pair, whose key is a tuple: its display, its repr -/
namespace Lb
open PySem PySem.Spec PyProof.Rows L2
def tDispT (tk tv : TE) : TE := fun σ H Q => ∀ p, H p = none → tk σ (upd H p (.dT [])) fun x H1 => tv σ H1 fun y H2 => H2 p = some (.dT []) ∧ ∃ b ks, x = .ref b ∧ H2 b = some (.tup (List.map kV ks)) ∧ Q (.ref p) (upd H2 p (.dT [(ks, y)]))
theorem pe_dispT {X : Cx} {k v : Expr} {tk tv : TE} {pos : Pos} (hu : X.A.units + 1 < cLine) (hk : PE X k tk) (hv : PE X v tv) : PE X (.Dict [some k] [v] pos) (tDispT tk tv) := by
  refine ⟨fun pins s σ H Q I q => ?_⟩
  have hn := I.hok.fresh (Nat.le_refl s.heap.objs.size)
  have I1 := I.laid (a := s.heap.objs.size) (o := .dT []) (h' := s.heap.push { cls := .type "dict", data := .dict #[] }) (t' := s.toks) (fun _ _ q => Heap.get?_push_of_some _ q) (Nat.le_refl _) (dt_empty s.heap I.big)
  refine wpAny_Dict_any rfl rfl (by simp) (by show 1 ≤ 15; decide) ?_
  refine pairTrees_cons_walk (thn (hk.run pins _ σ _ _ I1 (q _ hn)) fun u s1 ⟨x, H1, I2, rx, q1⟩ => thn (hv.run pins s1 σ H1 _ I2 q1) fun w2 s2 ⟨y, H2, I3, ry, e, b, ks, ex, eb, q2⟩ => pairTrees_nil_walk ?_)
  subst ex
  cases (show u = Value.ref b from rx)
  obtain ⟨z, hd, xs, rel, dd⟩ := dt_of I3.hok e
  cases rel
  unfold storeAll
  rw [List.forIn_cons]
  refine wpAny_bind (wpAny_bind (wpAny_dictSet_heap (hsz := Nat.zero_le _) (knd := tupleKind (mixKind X.prog X.w)) (by show X.A.units < cLine; omega) (key_of I3.hok eb) dd fun h' dd' hs => wpAny_pure ?_))
  refine wpAny_pure ?_
  obtain ⟨q', es, ep, hq, h2, h3, h4, _, h5⟩ := dd'
  refine ⟨.ref s.heap.objs.size, _, d_write (ob := .dT [(ks, y)]) I3 (by rw [e]; exact True.intro) hs ⟨q', hq⟩ ⟨(by show 1 ≤ sizeLine; decide), hd, _, .cons ⟨rfl, ?_, ry⟩ .nil, q', es, ep, hq, h2, h3, h4, h5⟩, rfl, q2⟩
  rw [upd_ne (ne_of eb e (fun z => nomatch z))]
  exact eb
def keyT (ks : List Key) : PyData := .tuple (ks.map keyD)
theorem dp_key {K : PySem.W.Frag} {H : Hp} : ∀ ks : List Key, DpAll K H (ks.map kV) (ks.map keyD)
  | [] => .nil
  | .inl i :: r => .cons (.int i) (dp_key r)
  | .inr x :: r => .cons (.str x) (dp_key r)
theorem key_flat : ∀ ks : List Key, flatDs (ks.map keyD) = true
  | [] => rfl
  | .inl _ :: r => by simp only [List.map_cons, flatDs, key_flat r, keyD, flatD, Bool.and_true]
  | .inr _ :: r => by simp only [List.map_cons, flatDs, key_flat r, keyD, flatD, Bool.and_true]
section
variable {X : Cx} {pins : List (Addr × Obj)} {σ : L2.St} {H : Hp} {s : Shared}
theorem keys_readT (I : Inv X pins σ H s) : ∀ {kvs : List (List Key × V)} {xs : List (List Key × Addr × Value)}, KT H kvs xs → ReadsAll s.heap ((xs.map (entryOfKey (tupleKind (mixKind X.prog X.w)))).map (·.key)) (kvs.map fun q => keyT q.1) [] := by
  intro kvs xs r
  induction r with
  | nil => exact .nil
  | @cons p q ps qs h1 _ ih =>
    obtain ⟨as, r1⟩ := Dp.readsAll I [keyT p.1] [.ref q.2.1] [.ref q.2.1] (.cons (.tup (SqT.of h1.2.1) (dp_key p.1)) .nil) (.cons rfl .nil)
    have e1 := reads_flats r1 (by simp only [flatDs, keyT, flatD, key_flat, Bool.and_true])
    subst e1
    have inv : ∀ {zz : List Addr}, ReadsAll s.heap [Value.ref q.2.1] [keyT p.1] zz → ∃ as bs, as ++ bs = zz ∧ Reads s.heap (Value.ref q.2.1) (keyT p.1) as := by
      intro zz r
      cases r with
      | cons r2 r3 => exact ⟨_, _, rfl, r2⟩
    obtain ⟨as, bs, e, r2⟩ := inv r1
    have ea := (List.append_eq_nil_iff.mp e).1
    subst ea
    exact .cons (as := []) (bs := []) r2 ih
end
end Lb

set_option Elab.async false
set_option linter.all false
set_option maxRecDepth 100000
set_option maxHeartbeats 4000000
/-! texts cut at a sign: partition, split, removeprefix -/
namespace Lb
open PySem PyProof.Rows
/-- the text of these signs -/
def tx (l : List Nat) : Str := ⟨l.toArray⟩
theorem tx_list (l : List Nat) : (tx l).cps.toList = l := rfl
theorem tx_of (x : Str) : tx x.cps.toList = x := by
  cases x
  rfl
theorem tx_inj {a b : List Nat} (h : tx a = tx b) : a = b := by
  have := congrArg (fun x : Str => x.cps.toList) h
  exact this
theorem tx_app (a b : List Nat) : tx (a ++ b) = tx a ++ tx b := by
  show (⟨(a ++ b).toArray⟩ : Str) = ⟨a.toArray ++ b.toArray⟩
  simp
theorem tx_len (l : List Nat) : (tx l).length = l.length := List.size_toArray
/-- pieces put together -/
def glue (c : Nat) : List (List Nat) → List Nat
  | [] => []
  | [p] => p
  | p :: q :: r => p ++ c :: glue c (q :: r)
theorem glue_join (c : Nat) : ∀ ps : List Str, Str.join (tx [c]) ps = tx (glue c (ps.map fun p => p.cps.toList))
  | [] => rfl
  | [p] => (tx_of p).symm
  | p :: q :: r => by
    show p ++ tx [c] ++ Str.join (tx [c]) (q :: r) = tx (p.cps.toList ++ c :: glue c ((q :: r).map fun p => p.cps.toList))
    rw [glue_join c (q :: r), show p.cps.toList ++ c :: glue c ((q :: r).map fun p => p.cps.toList) = (p.cps.toList ++ [c]) ++ glue c ((q :: r).map fun p => p.cps.toList) by simp, tx_app, tx_app, tx_of]
theorem head_cut {c : Nat} : ∀ {a b x y : List Nat}, c ∉ a → c ∉ b → a ++ c :: x = b ++ c :: y → a = b ∧ x = y
  | [], [], _, _, _, _, h => ⟨rfl, (List.cons.inj h).2⟩
  | [], d :: b, _, _, _, hb, h => absurd (by rw [(List.cons.inj h).1]; simp) hb
  | d :: a, [], _, _, ha, _, h => absurd (by rw [← (List.cons.inj h).1]; simp) ha
  | d :: a, e :: b, x, y, ha, hb, h => by
    obtain ⟨h1, h2⟩ := List.cons.inj h
    obtain ⟨h3, h4⟩ := head_cut (fun m => ha (List.mem_cons_of_mem _ m)) (fun m => hb (List.mem_cons_of_mem _ m)) h2
    exact ⟨by rw [h1, h3], h4⟩
theorem glue_inj {c : Nat} : ∀ {ps qs : List (List Nat)}, ps ≠ [] → qs ≠ [] → (∀ p ∈ ps, c ∉ p) → (∀ p ∈ qs, c ∉ p) → glue c ps = glue c qs → ps = qs
  | [], _, h, _, _, _, _ => absurd rfl h
  | _, [], _, h, _, _, _ => absurd rfl h
  | [p], [q], _, _, _, _, h => by rw [show p = q from h]
  | [p], q :: r :: s, _, _, hp, _, h => absurd (by rw [show p = q ++ c :: glue c (r :: s) from h]; simp) (hp p (by simp))
  | p :: r :: s, [q], _, _, _, hq, h => absurd (by rw [show q = p ++ c :: glue c (r :: s) from h.symm]; simp) (hq q (by simp))
  | p :: p2 :: ps, q :: q2 :: qs, _, _, hp, hq, h => by
    obtain ⟨h1, h2⟩ := head_cut (hp p (by simp)) (hq q (by simp)) (show p ++ c :: glue c (p2 :: ps) = q ++ c :: glue c (q2 :: qs) from h)
    rw [h1, glue_inj (by simp) (by simp) (fun p h => hp p (List.mem_cons_of_mem _ h)) (fun p h => hq p (List.mem_cons_of_mem _ h)) h2]
/-- split tells the pieces -/
theorem split_pieces {c : Nat} {ps : List (List Nat)} (hn : ps ≠ []) (hf : ∀ p ∈ ps, c ∉ p) : Txt.split (tx (glue c ps)) (tx [c]) = ps.map tx := by
  have e := StrLaws.join_split (tx (glue c ps)) (tx [c])
  rw [glue_join] at e
  have e2 := tx_inj e
  have ne : Txt.split (tx (glue c ps)) (tx [c]) ≠ [] := fun z => by
    have := split_pos (tx (glue c ps)) (tx [c])
    rw [z] at this
    exact absurd this (by decide)
  have e3 := glue_inj (c := c) (by simpa using ne) hn (fun p hp => by
    obtain ⟨q, hq, rfl⟩ := List.mem_map.mp hp
    exact StrLaws.split_free (tx (glue c ps)) c q hq) hf e2
  have e4 := congrArg (List.map tx) e3
  rw [List.map_map] at e4
  have id_ : (tx ∘ fun p : Str => p.cps.toList) = id := funext tx_of
  rw [id_, List.map_id] at e4
  exact e4
/-- each text has its pieces -/
theorem pieces_of (c : Nat) : ∀ x : List Nat, ∃ ps : List (List Nat), ps ≠ [] ∧ (∀ p ∈ ps, c ∉ p) ∧ x = glue c ps
  | [] => ⟨[[]], by simp, by simp, rfl⟩
  | d :: x => by
    obtain ⟨ps, hn, hf, e⟩ := pieces_of c x
    by_cases h : d = c
    · subst h
      refine ⟨[] :: ps, by simp, fun p hp => ?_, ?_⟩
      · rcases List.mem_cons.mp hp with h | h
        · rw [h]; simp
        · exact hf p h
      · cases ps with
        | nil => exact absurd rfl hn
        | cons p r => rw [e]; rfl
    · cases ps with
      | nil => exact absurd rfl hn
      | cons p r =>
        refine ⟨(d :: p) :: r, by simp, fun q hq => ?_, ?_⟩
        · rcases List.mem_cons.mp hq with hq | hq
          · rw [hq]
            intro m
            rcases List.mem_cons.mp m with m | m
            · exact h m.symm
            · exact hf p (by simp) m
          · exact hf q (List.mem_cons_of_mem _ hq)
        · rw [e]
          cases r <;> rfl
theorem at_of {x : List Nat} {c i : Nat} : StrLaws.At (tx x) (tx [c]) (tx x).length i ↔ x[i]? = some c := by
  unfold StrLaws.At
  rw [StrLaws.subAt_eq]
  show (i + 1 ≤ (tx x).length ∧ ((x.drop i).take 1 == [c]) = true) ↔ _
  rw [tx_len]
  constructor
  · rintro ⟨h1, h2⟩
    have h2 := beq_iff_eq.mp h2
    have h3 : (x.drop i)[0]? = some c := by
      have := congrArg (fun l : List Nat => l[0]?) h2
      simpa using this
    simpa using h3
  · intro h
    have hi := (List.getElem?_eq_some_iff.mp h).1
    refine ⟨by omega, beq_iff_eq.mpr ?_⟩
    obtain ⟨_, e⟩ := List.getElem?_eq_some_iff.mp h
    rw [List.drop_eq_getElem_cons hi, e]
    rfl
/-- partition where the sign stands nowhere, and where it stands -/
theorem partition_none {x : List Nat} {c : Nat} (h : c ∉ x) : Txt.partition (tx x) (tx [c]) = (tx x, Str.empty, Str.empty) := by
  unfold Txt.partition
  rcases StrLaws.occ_head (tx x) (tx [c]) 1 (Nat.le_refl 1) with ⟨h0, _⟩ | ⟨i, r, _, hi, _⟩
  · rw [h0]
  · exact absurd (List.mem_of_getElem? (at_of.mp hi)) h
theorem partition_some {a b : List Nat} {c : Nat} (h : c ∉ a) : Txt.partition (tx (a ++ c :: b)) (tx [c]) = (tx a, tx [c], tx b) := by
  have ha : (a ++ c :: b)[a.length]? = some c := by simp
  unfold Txt.partition
  rcases StrLaws.occ_head (tx (a ++ c :: b)) (tx [c]) 1 (Nat.le_refl 1) with ⟨_, hn⟩ | ⟨i, r, h0, hi, hf⟩
  · exact absurd (at_of.mpr ha) (hn a.length)
  · have e : i = a.length := by
      rcases Nat.lt_trichotomy i a.length with q | q | q
      · have := at_of.mp hi
        rw [List.getElem?_append_left q] at this
        exact absurd (List.mem_of_getElem? this) h
      · exact q
      · exact absurd (at_of.mpr ha) (hf _ q)
    subst e
    rw [h0]
    show (Builtin.Str.strSub _ 0 a.length, tx [c], Builtin.Str.strSub _ (a.length + 1) _) = _
    rw [strSub_mk, strSub_mk, tx_list]
    have e1 : ((a ++ c :: b).drop 0).take (a.length - 0) = a := by simp
    have e2 : ((a ++ c :: b).drop (a.length + 1)).take ((tx (a ++ c :: b)).length - (a.length + 1)) = b := by
      rw [tx_len]
      simp
      rw [show a.length + (b.length + 1) - (a.length + 1) = b.length by omega, List.take_length]
    rw [e1, e2]
    rfl
/-- removeprefix of one sign -/
theorem removeprefix_one {x : List Nat} {c : Nat} : Txt.removeprefix (tx x) (tx [c]) = match x with
    | [] => tx []
    | d :: r => if d = c then tx r else tx (d :: r) := by
  rw [StrLaws.removeprefix_eq, StrLaws.subAt_eq, tx_len, tx_len]
  cases x with
  | nil => rfl
  | cons d r =>
    by_cases h : d = c
    · subst h
      simp [tx]
    · show (if (decide (0 + 1 ≤ (d :: r).length) && (List.take 1 (d :: r) == [c])) = true then _ else tx (d :: r)) = if d = c then tx r else tx (d :: r)
      rw [if_neg (by simp [h]), if_neg h]
end Lb

set_option Elab.async false
set_option linter.all false
set_option maxRecDepth 100000
set_option maxHeartbeats 4000000
/-! numbers written: which texts are written as the program writes them -/
namespace Lb
open PySem L2 NumText TL
theorem numL_head : ∀ n : Nat, 0 < n → (numL n).head? ≠ some 48 := by
  intro n
  induction n using Nat.strongRecOn with
  | ind n ih =>
    intro h
    by_cases h10 : n < 10
    · rw [numL_lt h10]
      intro z
      have := Option.some.inj z
      omega
    · rw [numL_step (by omega)]
      have ih := ih (n / 10) (by omega) (by omega)
      have ne := numL_ne (n / 10)
      cases e : numL (n / 10) with
      | nil => exact absurd e ne
      | cons d r =>
        rw [e] at ih
        exact ih
/-- no nought ahead -/
def canon (w : List Nat) : Prop := w = [48] ∨ w.head? ≠ some 48
instance (w : List Nat) : Decidable (canon w) := inferInstanceAs (Decidable (_ ∨ _))
theorem val_snoc (w : List Nat) (d : Nat) : digitsVal (w ++ [d]) = digitsVal w * 10 + (d - 48) := by
  unfold digitsVal
  rw [List.foldl_append]
  rfl
theorem numL_back : ∀ (k : Nat) (w : List Nat), w.length = k → AllDigits w → w ≠ [] → w.head? ≠ some 48 → 0 < digitsVal w ∧ numL (digitsVal w) = w
  | 0, w, hl, _, hn, _ => absurd (List.eq_nil_of_length_eq_zero hl) hn
  | k + 1, w, hl, hd, hn, hh => by
    obtain ⟨r, d, rfl⟩ : ∃ r d, w = r ++ [d] := ⟨w.dropLast, w.getLast hn, (List.dropLast_concat_getLast hn).symm⟩
    have hd1 : 48 ≤ d ∧ d ≤ 57 := hd d (by simp)
    rw [val_snoc]
    by_cases hr : r = []
    · subst hr
      have h48 : d ≠ 48 := fun z => hh (by rw [z]; rfl)
      have e0 : digitsVal [] = 0 := rfl
      rw [e0, Nat.zero_mul, Nat.zero_add, numL_lt (by omega)]
      refine ⟨by omega, ?_⟩
      rw [List.nil_append, show 48 + (d - 48) = d by omega]
    · have hr0 : r.head? ≠ some 48 := by
        cases r with
        | nil => exact absurd rfl hr
        | cons c s => exact hh
      obtain ⟨p, e⟩ := numL_back k r (by rw [List.length_append, List.length_singleton] at hl; omega) (fun c hc => hd c (List.mem_append_left _ hc)) hr hr0
      refine ⟨by omega, ?_⟩
      rw [numL_step (by omega), show (digitsVal r * 10 + (d - 48)) / 10 = digitsVal r by omega, show (digitsVal r * 10 + (d - 48)) % 10 = d - 48 by omega, e, show 48 + (d - 48) = d by omega]
theorem canon_iff {w : List Nat} (hd : AllDigits w) (hn : w ≠ []) : numL (digitsVal w) = w ↔ canon w := by
  constructor
  · intro e
    by_cases h : digitsVal w = 0
    · left
      rw [h] at e
      rw [← e]
      rfl
    · right
      rw [← e]
      exact numL_head _ (by omega)
  · rintro (h | h)
    · subst h
      rfl
    · exact (numL_back w.length w rfl hd hn h).2
/-- a whole number, written -/
def decL (t : Int) : List Nat := if t < 0 then 45 :: numL t.natAbs else numL t.natAbs
def shownL (t b : Int) : List Nat := if b = 1 then decL t else decL t ++ 47 :: decL b
def sgnI (neg : Bool) (n : Nat) : Int := if neg = true then -(n : Int) else (n : Int)
def preL (neg : Bool) : List Nat := if neg = true then [45] else []
theorem dig_no {w : List Nat} {c : Nat} (hd : AllDigits w) (h : c < 48 ∨ 57 < c) : c ∉ w := fun m => by
  have := hd c m
  omega
theorem val48 {w : List Nat} (hd : AllDigits w) (hn : w ≠ []) (hc : canon w) (h0 : digitsVal w = 0) : w = [48] := by
  rw [← (canon_iff hd hn).mpr hc, h0]
  rfl
theorem one_iff {neg : Bool} {w : List Nat} (hd : AllDigits w) (hn : w ≠ []) : decL (sgnI neg (digitsVal w)) = preL neg ++ w ↔ (canon w ∧ ¬ (neg = true ∧ w = [48])) := by
  unfold decL sgnI preL
  cases neg with
  | false =>
    simp only [Bool.false_eq_true, if_false, List.nil_append, false_and, not_false_eq_true, and_true]
    rw [if_neg (by omega), Int.natAbs_natCast]
    exact canon_iff hd hn
  | true =>
    simp only [if_true, true_and, Int.natAbs_neg, Int.natAbs_natCast]
    by_cases h0 : digitsVal w = 0
    · rw [h0, if_neg (by simp)]
      constructor
      · intro e
        exfalso
        have : (numL 0).head? = some 45 := by rw [e]; rfl
        revert this
        decide
      · rintro ⟨hc, h1⟩
        exact absurd (val48 hd hn hc h0) h1
    · rw [if_pos (by omega)]
      constructor
      · intro e
        have e := (List.cons.inj e).2
        refine ⟨(canon_iff hd hn).mp e, fun z => h0 ?_⟩
        rw [z]
        rfl
      · rintro ⟨hc, _⟩
        rw [(canon_iff hd hn).mpr hc]
        rfl
theorem dec_no47 (t : Int) : 47 ∉ decL t := by
  unfold decL
  split
  · intro m
    rcases List.mem_cons.mp m with m | m
    · exact absurd m (by decide)
    · exact numL_free (.inl (by decide)) m
  · exact numL_free (.inl (by decide))
theorem pre_no47 {neg : Bool} {w : List Nat} (hd : AllDigits w) : 47 ∉ preL neg ++ w := by
  intro m
  rcases List.mem_append.mp m with m | m
  · unfold preL at m
    split at m
    · exact absurd (List.mem_singleton.mp m) (by decide)
    · exact absurd m List.not_mem_nil
  · exact dig_no hd (.inl (by decide)) m
theorem two_iff {neg : Bool} {w v : List Nat} {t b : Int} (hd : AllDigits w) (hn : w ≠ []) (hdv : AllDigits v) (hnv : v ≠ []) (hm : 0 < digitsVal v) (hb : 0 < b) (hg : t.gcd b = 1) (e : sgnI neg (digitsVal w) * b = t * (digitsVal v : Int)) :
    (shownL t b = preL neg ++ w ++ 47 :: v ↔ (canon w ∧ canon v ∧ 2 ≤ digitsVal v ∧ Nat.gcd (digitsVal w) (digitsVal v) = 1)) ∧ (shownL t b = preL neg ++ w ++ 47 :: v → t = sgnI neg (digitsVal w) ∧ b = (digitsVal v : Int)) := by
  have gs : ∀ n m : Nat, (sgnI neg n).gcd (m : Int) = Nat.gcd n m := by
    intro n m
    unfold sgnI Int.gcd
    split <;> simp
  have fwd : shownL t b = preL neg ++ w ++ 47 :: v → (canon w ∧ canon v ∧ 2 ≤ digitsVal v ∧ Nat.gcd (digitsVal w) (digitsVal v) = 1) ∧ t = sgnI neg (digitsVal w) ∧ b = (digitsVal v : Int) := by
    intro h
    unfold shownL at h
    by_cases hb1 : b = 1
    · rw [if_pos hb1] at h
      exact absurd (by rw [h]; simp) (dec_no47 t)
    · rw [if_neg hb1] at h
      obtain ⟨h1, h2⟩ := head_cut (dec_no47 t) (pre_no47 hd) h
      have h2' : numL b.natAbs = v := by
        unfold decL at h2
        rw [if_neg (by omega)] at h2
        exact h2
      have vb : digitsVal v = b.natAbs := by rw [← h2', numL_val]
      have eb : b = (digitsVal v : Int) := by omega
      have et : t = sgnI neg (digitsVal w) := by
        rw [← eb] at e
        exact (Int.eq_of_mul_eq_mul_right (by omega) e).symm
      have cv : canon v := (canon_iff hdv hnv).mp (by rw [vb]; exact h2')
      rw [et] at h1 hg
      rw [eb, gs] at hg
      exact ⟨⟨((one_iff hd hn).mp h1).1, cv, by omega, hg⟩, et, eb⟩
  refine ⟨⟨fun h => (fwd h).1, ?_⟩, fun h => (fwd h).2⟩
  rintro ⟨cw, cv, h2, hg1⟩
  have lo := low_eq (t := sgnI neg (digitsVal w)) (b := (digitsVal v : Int)) (t' := t) (b' := b) (by omega) hb (by rw [gs]; exact hg1) hg e
  obtain ⟨et, eb⟩ := lo
  unfold shownL
  rw [← et, ← eb, if_neg (by omega)]
  have e1 : decL (sgnI neg (digitsVal w)) = preL neg ++ w := (one_iff hd hn).mpr ⟨cw, fun ⟨_, z⟩ => by
    rw [z] at hg1
    have : Nat.gcd (digitsVal [48]) (digitsVal v) = digitsVal v := Nat.gcd_zero_left _
    omega⟩
  have e2 : decL ((digitsVal v : Nat) : Int) = v := by
    unfold decL
    rw [if_neg (by omega), Int.natAbs_natCast]
    exact (canon_iff hdv hnv).mpr cv
  rw [e1, e2]
end Lb

set_option Elab.async false
set_option linter.all false
set_option maxRecDepth 100000
set_option maxHeartbeats 4000000
namespace K10
open PySem L2 Lb
def top (i : Nat) : Stmt := PySem.Challenge.pw_surepipes_k10_errors_made.main.body.getD i (.Pass ⟨0, 0, 0, 0⟩)
abbrev s_InvalidInteger_init_ : Stmt := (inClass (top 4) 0)
theorem sc_InvalidInteger_init_ : FnScope ["self", "value"] ["self", "value"] (defScope s_InvalidInteger_init_) := ⟨rfl, rfl, rfl, by decide +kernel, rfl, by decide +kernel, by decide +kernel⟩
abbrev s_InvalidAmount_init_ : Stmt := (inClass (top 5) 0)
theorem sc_InvalidAmount_init_ : FnScope ["self", "value"] ["self", "value"] (defScope s_InvalidAmount_init_) := ⟨rfl, rfl, rfl, by decide +kernel, rfl, by decide +kernel, by decide +kernel⟩
abbrev s_InvalidOrder_init_ : Stmt := (inClass (top 17) 0)
theorem sc_InvalidOrder_init_ : FnScope ["self", "value"] ["self", "value"] (defScope s_InvalidOrder_init_) := ⟨rfl, rfl, rfl, by decide +kernel, rfl, by decide +kernel, by decide +kernel⟩
abbrev s_InvalidWord_init_ : Stmt := (inClass (top 18) 0)
theorem sc_InvalidWord_init_ : FnScope ["self", "value"] ["self", "value"] (defScope s_InvalidWord_init_) := ⟨rfl, rfl, rfl, by decide +kernel, rfl, by decide +kernel, by decide +kernel⟩
abbrev s_InvalidPlace_init_ : Stmt := (inClass (top 22) 0)
theorem sc_InvalidPlace_init_ : FnScope ["self", "value"] ["self", "value"] (defScope s_InvalidPlace_init_) := ⟨rfl, rfl, rfl, by decide +kernel, rfl, by decide +kernel, by decide +kernel⟩
abbrev s_InvalidClaim_init_ : Stmt := (inClass (top 24) 0)
theorem sc_InvalidClaim_init_ : FnScope ["self", "value"] ["self", "value"] (defScope s_InvalidClaim_init_) := ⟨rfl, rfl, rfl, by decide +kernel, rfl, by decide +kernel, by decide +kernel⟩
abbrev s_InvalidLine_init_ : Stmt := (inClass (top 25) 0)
theorem sc_InvalidLine_init_ : FnScope ["self", "value"] ["self", "value"] (defScope s_InvalidLine_init_) := ⟨rfl, rfl, rfl, by decide +kernel, rfl, by decide +kernel, by decide +kernel⟩
abbrev s_UnknownPipe_init_ : Stmt := (inClass (top 27) 0)
theorem sc_UnknownPipe_init_ : FnScope ["self", "value"] ["self", "value"] (defScope s_UnknownPipe_init_) := ⟨rfl, rfl, rfl, by decide +kernel, rfl, by decide +kernel, by decide +kernel⟩
abbrev s_UnknownNode_init_ : Stmt := (inClass (top 28) 0)
theorem sc_UnknownNode_init_ : FnScope ["self", "value"] ["self", "value"] (defScope s_UnknownNode_init_) := ⟨rfl, rfl, rfl, by decide +kernel, rfl, by decide +kernel, by decide +kernel⟩
abbrev s_UnknownPole_init_ : Stmt := (inClass (top 29) 0)
theorem sc_UnknownPole_init_ : FnScope ["self", "value"] ["self", "value"] (defScope s_UnknownPole_init_) := ⟨rfl, rfl, rfl, by decide +kernel, rfl, by decide +kernel, by decide +kernel⟩
abbrev s_UnknownKind_init_ : Stmt := (inClass (top 30) 0)
theorem sc_UnknownKind_init_ : FnScope ["self", "value"] ["self", "value"] (defScope s_UnknownKind_init_) := ⟨rfl, rfl, rfl, by decide +kernel, rfl, by decide +kernel, by decide +kernel⟩
abbrev s_UnknownReading_init_ : Stmt := (inClass (top 31) 0)
theorem sc_UnknownReading_init_ : FnScope ["self", "value"] ["self", "value"] (defScope s_UnknownReading_init_) := ⟨rfl, rfl, rfl, by decide +kernel, rfl, by decide +kernel, by decide +kernel⟩
abbrev s_NotSure_init_ : Stmt := (inClass (top 35) 0)
theorem sc_NotSure_init_ : FnScope ["self", "value"] ["self", "value"] (defScope s_NotSure_init_) := ⟨rfl, rfl, rfl, by decide +kernel, rfl, by decide +kernel, by decide +kernel⟩
abbrev s_InvalidPoints_init_ : Stmt := (inClass (top 6) 0)
theorem sc_InvalidPoints_init_ : FnScope ["self", "position"] ["self", "position"] (defScope s_InvalidPoints_init_) := ⟨rfl, rfl, rfl, by decide +kernel, rfl, by decide +kernel, by decide +kernel⟩
abbrev s_InvalidLevels_init_ : Stmt := (inClass (top 16) 0)
theorem sc_InvalidLevels_init_ : FnScope ["self", "position"] ["self", "position"] (defScope s_InvalidLevels_init_) := ⟨rfl, rfl, rfl, by decide +kernel, rfl, by decide +kernel, by decide +kernel⟩
abbrev s_InvalidReading_init_ : Stmt := (inClass (top 19) 0)
theorem sc_InvalidReading_init_ : FnScope ["self", "position"] ["self", "position"] (defScope s_InvalidReading_init_) := ⟨rfl, rfl, rfl, by decide +kernel, rfl, by decide +kernel, by decide +kernel⟩
abbrev s_InvalidStates_init_ : Stmt := (inClass (top 20) 0)
theorem sc_InvalidStates_init_ : FnScope ["self", "position"] ["self", "position"] (defScope s_InvalidStates_init_) := ⟨rfl, rfl, rfl, by decide +kernel, rfl, by decide +kernel, by decide +kernel⟩
abbrev s_NotConnected_init_ : Stmt := (inClass (top 8) 0)
theorem sc_NotConnected_init_ : FnScope ["self", "node"] ["self", "node"] (defScope s_NotConnected_init_) := ⟨rfl, rfl, rfl, by decide +kernel, rfl, by decide +kernel, by decide +kernel⟩
abbrev s_InvalidDemands_init_ : Stmt := (inClass (top 9) 0)
theorem sc_InvalidDemands_init_ : FnScope ["self", "node"] ["self", "node"] (defScope s_InvalidDemands_init_) := ⟨rfl, rfl, rfl, by decide +kernel, rfl, by decide +kernel, by decide +kernel⟩
abbrev s_InvalidPoles_init_ : Stmt := (inClass (top 11) 0)
theorem sc_InvalidPoles_init_ : FnScope ["self", "node"] ["self", "node"] (defScope s_InvalidPoles_init_) := ⟨rfl, rfl, rfl, by decide +kernel, rfl, by decide +kernel, by decide +kernel⟩
abbrev s_InvalidHeights_init_ : Stmt := (inClass (top 15) 0)
theorem sc_InvalidHeights_init_ : FnScope ["self", "node"] ["self", "node"] (defScope s_InvalidHeights_init_) := ⟨rfl, rfl, rfl, by decide +kernel, rfl, by decide +kernel, by decide +kernel⟩
abbrev s_InvalidConductances_init_ : Stmt := (inClass (top 12) 0)
theorem sc_InvalidConductances_init_ : FnScope ["self", "pipe"] ["self", "pipe"] (defScope s_InvalidConductances_init_) := ⟨rfl, rfl, rfl, by decide +kernel, rfl, by decide +kernel, by decide +kernel⟩
abbrev s_InvalidCurves_init_ : Stmt := (inClass (top 13) 0)
theorem sc_InvalidCurves_init_ : FnScope ["self", "pipe"] ["self", "pipe"] (defScope s_InvalidCurves_init_) := ⟨rfl, rfl, rfl, by decide +kernel, rfl, by decide +kernel, by decide +kernel⟩
abbrev s_InvalidFlows_init_ : Stmt := (inClass (top 14) 0)
theorem sc_InvalidFlows_init_ : FnScope ["self", "pipe"] ["self", "pipe"] (defScope s_InvalidFlows_init_) := ⟨rfl, rfl, rfl, by decide +kernel, rfl, by decide +kernel, by decide +kernel⟩
abbrev s_InvalidKinds_init_ : Stmt := (inClass (top 21) 0)
theorem sc_InvalidKinds_init_ : FnScope ["self", "pipe"] ["self", "pipe"] (defScope s_InvalidKinds_init_) := ⟨rfl, rfl, rfl, by decide +kernel, rfl, by decide +kernel, by decide +kernel⟩
abbrev s_IsBridge_init_ : Stmt := (inClass (top 34) 0)
theorem sc_IsBridge_init_ : FnScope ["self", "pipe"] ["self", "pipe"] (defScope s_IsBridge_init_) := ⟨rfl, rfl, rfl, by decide +kernel, rfl, by decide +kernel, by decide +kernel⟩
abbrev s_InvalidPipes_init_ : Stmt := (inClass (top 7) 0)
theorem sc_InvalidPipes_init_ : FnScope ["self", "name"] ["self", "name"] (defScope s_InvalidPipes_init_) := ⟨rfl, rfl, rfl, by decide +kernel, rfl, by decide +kernel, by decide +kernel⟩
abbrev s_Unbalanced_init_ : Stmt := (inClass (top 10) 0)
theorem sc_Unbalanced_init_ : FnScope ["self", "total"] ["self", "total"] (defScope s_Unbalanced_init_) := ⟨rfl, rfl, rfl, by decide +kernel, rfl, by decide +kernel, by decide +kernel⟩
abbrev s_InvalidText_init_ : Stmt := (inClass (top 23) 0)
theorem sc_InvalidText_init_ : FnScope ["self", "line"] ["self", "line"] (defScope s_InvalidText_init_) := ⟨rfl, rfl, rfl, by decide +kernel, rfl, by decide +kernel, by decide +kernel⟩
abbrev s_TooMany_init_ : Stmt := (inClass (top 38) 0)
theorem sc_TooMany_init_ : FnScope ["self", "what", "limit"] ["self", "what", "limit"] (defScope s_TooMany_init_) := ⟨rfl, rfl, rfl, by decide +kernel, rfl, by decide +kernel, by decide +kernel⟩
abbrev s_Barred_init_ : Stmt := (inClass (top 33) 0)
theorem sc_Barred_init_ : FnScope ["self"] ["self"] (defScope s_Barred_init_) := ⟨rfl, rfl, rfl, by decide +kernel, rfl, by decide +kernel, by decide +kernel⟩
abbrev s_NothingToUndo_init_ : Stmt := (inClass (top 36) 0)
theorem sc_NothingToUndo_init_ : FnScope ["self"] ["self"] (defScope s_NothingToUndo_init_) := ⟨rfl, rfl, rfl, by decide +kernel, rfl, by decide +kernel, by decide +kernel⟩
abbrev s_is_integer : Stmt := (top 43)
theorem sc_is_integer : FnScope ["value"] ["value"] (defScope s_is_integer) := ⟨rfl, rfl, rfl, by decide +kernel, rfl, by decide +kernel, by decide +kernel⟩
abbrev s_amount_of : Stmt := (top 45)
theorem sc_amount_of : FnScope ["value"] ["value"] (defScope s_amount_of) := ⟨rfl, rfl, rfl, by decide +kernel, rfl, by decide +kernel, by decide +kernel⟩
abbrev s_Amount_init_ : Stmt := (inClass (top 50) 0)
theorem sc_Amount_init_ : FnScope ["self", "top", "bottom", "divisor"] ["self", "top", "bottom"] (defScope s_Amount_init_) := ⟨rfl, rfl, rfl, by decide +kernel, rfl, by decide +kernel, by decide +kernel⟩
abbrev s_Amount_eq_ : Stmt := (inClass (top 50) 14)
theorem sc_Amount_eq_ : FnScope ["self", "other"] ["self", "other"] (defScope s_Amount_eq_) := ⟨rfl, rfl, rfl, by decide +kernel, rfl, by decide +kernel, by decide +kernel⟩
abbrev s_pot : Stmt := (top 52)
theorem sc_pot : FnScope ["_law_script", "_law_k", "_law_cell"] ["_law_script", "_law_k"] (defScope s_pot) := ⟨rfl, rfl, rfl, by decide +kernel, rfl, by decide +kernel, by decide +kernel⟩
abbrev s_draw : Stmt := (top 53)
theorem sc_draw : FnScope ["_law_pot_here", "_law_size", "_law_digit"] ["_law_pot_here", "_law_size"] (defScope s_draw) := ⟨rfl, rfl, rfl, by decide +kernel, rfl, by decide +kernel, by decide +kernel⟩
abbrev s_choice : Stmt := (top 54)
theorem sc_choice : FnScope ["_law_pot_here", "_law_some"] ["_law_pot_here", "_law_some"] (defScope s_choice) := ⟨rfl, rfl, rfl, by decide +kernel, rfl, by decide +kernel, by decide +kernel⟩
abbrev s_parts : Stmt := (top 55)
theorem sc_parts : FnScope ["_law_pot_here", "_law_odd", "_law_tag", "_law_at", "_law_whole", "_law_sort"] ["_law_pot_here"] (defScope s_parts) := ⟨rfl, rfl, rfl, by decide +kernel, rfl, by decide +kernel, by decide +kernel⟩
abbrev s_with_value : Stmt := (top 56)
theorem sc_with_value : FnScope ["_law_odd", "_law_made"] ["_law_odd"] (defScope s_with_value) := ⟨rfl, rfl, rfl, by decide +kernel, rfl, by decide +kernel, by decide +kernel⟩
abbrev s_with_position : Stmt := (top 57)
theorem sc_with_position : FnScope ["_law_at", "_law_made"] ["_law_at"] (defScope s_with_position) := ⟨rfl, rfl, rfl, by decide +kernel, rfl, by decide +kernel, by decide +kernel⟩
abbrev s_with_node : Stmt := (top 58)
theorem sc_with_node : FnScope ["_law_tag", "_law_made"] ["_law_tag"] (defScope s_with_node) := ⟨rfl, rfl, rfl, by decide +kernel, rfl, by decide +kernel, by decide +kernel⟩
abbrev s_with_pipe : Stmt := (top 59)
theorem sc_with_pipe : FnScope ["_law_tag", "_law_made"] ["_law_tag"] (defScope s_with_pipe) := ⟨rfl, rfl, rfl, by decide +kernel, rfl, by decide +kernel, by decide +kernel⟩
abbrev s_others : Stmt := (top 60)
theorem sc_others : FnScope ["_law_parts_here", "_law_odd", "_law_tag", "_law_at", "_law_whole", "_law_sort", "_law_made"] ["_law_parts_here"] (defScope s_others) := ⟨rfl, rfl, rfl, by decide +kernel, rfl, by decide +kernel, by decide +kernel⟩
abbrev s_row : Stmt := (top 61)
theorem sc_row : FnScope ["_law_parts_here", "_law_found"] ["_law_parts_here"] (defScope s_row) := ⟨rfl, rfl, rfl, by decide +kernel, rfl, by decide +kernel, by decide +kernel⟩
abbrev s_marks : Stmt := (top 62)
theorem sc_marks : FnScope ["_law_made", "_law_marks_here"] ["_law_made"] (defScope s_marks) := ⟨rfl, rfl, rfl, by decide +kernel, rfl, by decide +kernel, by decide +kernel⟩
abbrev s_above_right : Stmt := (top 63)
theorem sc_above_right : FnScope ["_law_made", "_law_place", "_law_above", "_law_at", "_law_k"] ["_law_made", "_law_place"] (defScope s_above_right) := ⟨rfl, rfl, rfl, by decide +kernel, rfl, by decide +kernel, by decide +kernel⟩
abbrev s_parts_right : Stmt := (top 64)
theorem sc_parts_right : FnScope ["_law_made", "_law_parts_here", "_law_odd", "_law_tag", "_law_at", "_law_whole", "_law_sort", "_law_one"] ["_law_made", "_law_parts_here"] (defScope s_parts_right) := ⟨rfl, rfl, rfl, by decide +kernel, rfl, by decide +kernel, by decide +kernel⟩
abbrev s_caught : Stmt := (top 65)
theorem sc_caught : FnScope ["_law_call", "_law_told"] ["_law_call"] (defScope s_caught) := ⟨rfl, rfl, rfl, by decide +kernel, rfl, by decide +kernel, by decide +kernel⟩
abbrev s_raised : Stmt := (top 66)
theorem sc_raised : FnScope ["_law_at"] ["_law_at"] (defScope s_raised) := ⟨rfl, rfl, rfl, by decide +kernel, rfl, by decide +kernel, by decide +kernel⟩
abbrev s_right : Stmt := (top 67)
theorem sc_right : FnScope ["_law_pot_here", "_law_parts_here", "_law_more", "_law_row_here", "_law_later", "_law_at", "_law_error", "_law_place", "_law_k", "_law_caught_here"] ["_law_pot_here"] (defScope s_right) := ⟨rfl, rfl, rfl, by decide +kernel, rfl, by decide +kernel, by decide +kernel⟩
abbrev s_law : Stmt := (top 68)
theorem sc_law : FnScope ["_law_script", "_law_k"] ["_law_script"] (defScope s_law) := ⟨rfl, rfl, rfl, by decide +kernel, rfl, by decide +kernel, by decide +kernel⟩
structure Ad where
  f_InvalidInteger_init_ : Addr
  d_InvalidInteger_init_ : FuncData
  f_InvalidAmount_init_ : Addr
  d_InvalidAmount_init_ : FuncData
  f_InvalidOrder_init_ : Addr
  d_InvalidOrder_init_ : FuncData
  f_InvalidWord_init_ : Addr
  d_InvalidWord_init_ : FuncData
  f_InvalidPlace_init_ : Addr
  d_InvalidPlace_init_ : FuncData
  f_InvalidClaim_init_ : Addr
  d_InvalidClaim_init_ : FuncData
  f_InvalidLine_init_ : Addr
  d_InvalidLine_init_ : FuncData
  f_UnknownPipe_init_ : Addr
  d_UnknownPipe_init_ : FuncData
  f_UnknownNode_init_ : Addr
  d_UnknownNode_init_ : FuncData
  f_UnknownPole_init_ : Addr
  d_UnknownPole_init_ : FuncData
  f_UnknownKind_init_ : Addr
  d_UnknownKind_init_ : FuncData
  f_UnknownReading_init_ : Addr
  d_UnknownReading_init_ : FuncData
  f_NotSure_init_ : Addr
  d_NotSure_init_ : FuncData
  f_InvalidPoints_init_ : Addr
  d_InvalidPoints_init_ : FuncData
  f_InvalidLevels_init_ : Addr
  d_InvalidLevels_init_ : FuncData
  f_InvalidReading_init_ : Addr
  d_InvalidReading_init_ : FuncData
  f_InvalidStates_init_ : Addr
  d_InvalidStates_init_ : FuncData
  f_NotConnected_init_ : Addr
  d_NotConnected_init_ : FuncData
  f_InvalidDemands_init_ : Addr
  d_InvalidDemands_init_ : FuncData
  f_InvalidPoles_init_ : Addr
  d_InvalidPoles_init_ : FuncData
  f_InvalidHeights_init_ : Addr
  d_InvalidHeights_init_ : FuncData
  f_InvalidConductances_init_ : Addr
  d_InvalidConductances_init_ : FuncData
  f_InvalidCurves_init_ : Addr
  d_InvalidCurves_init_ : FuncData
  f_InvalidFlows_init_ : Addr
  d_InvalidFlows_init_ : FuncData
  f_InvalidKinds_init_ : Addr
  d_InvalidKinds_init_ : FuncData
  f_IsBridge_init_ : Addr
  d_IsBridge_init_ : FuncData
  f_InvalidPipes_init_ : Addr
  d_InvalidPipes_init_ : FuncData
  f_Unbalanced_init_ : Addr
  d_Unbalanced_init_ : FuncData
  f_InvalidText_init_ : Addr
  d_InvalidText_init_ : FuncData
  f_TooMany_init_ : Addr
  d_TooMany_init_ : FuncData
  f_Barred_init_ : Addr
  d_Barred_init_ : FuncData
  f_NothingToUndo_init_ : Addr
  d_NothingToUndo_init_ : FuncData
  f_is_integer : Addr
  d_is_integer : FuncData
  f_amount_of : Addr
  d_amount_of : FuncData
  f_Amount_init_ : Addr
  d_Amount_init_ : FuncData
  f_Amount_eq_ : Addr
  d_Amount_eq_ : FuncData
  f_pot : Addr
  d_pot : FuncData
  f_draw : Addr
  d_draw : FuncData
  f_choice : Addr
  d_choice : FuncData
  f_parts : Addr
  d_parts : FuncData
  f_with_value : Addr
  d_with_value : FuncData
  f_with_position : Addr
  d_with_position : FuncData
  f_with_node : Addr
  d_with_node : FuncData
  f_with_pipe : Addr
  d_with_pipe : FuncData
  f_others : Addr
  d_others : FuncData
  f_row : Addr
  d_row : FuncData
  f_marks : Addr
  d_marks : FuncData
  f_above_right : Addr
  d_above_right : FuncData
  f_parts_right : Addr
  d_parts_right : FuncData
  f_caught : Addr
  d_caught : FuncData
  f_raised : Addr
  d_raised : FuncData
  f_right : Addr
  d_right : FuncData
  f_law : Addr
  d_law : FuncData
  c_Amount : Addr
  c_InvalidInteger : Addr
  c_InvalidAmount : Addr
  c_InvalidOrder : Addr
  c_InvalidWord : Addr
  c_InvalidPlace : Addr
  c_InvalidClaim : Addr
  c_InvalidLine : Addr
  c_UnknownPipe : Addr
  c_UnknownNode : Addr
  c_UnknownPole : Addr
  c_UnknownKind : Addr
  c_UnknownReading : Addr
  c_NotSure : Addr
  c_InvalidPoints : Addr
  c_InvalidLevels : Addr
  c_InvalidReading : Addr
  c_InvalidStates : Addr
  c_NotConnected : Addr
  c_InvalidDemands : Addr
  c_InvalidPoles : Addr
  c_InvalidHeights : Addr
  c_InvalidConductances : Addr
  c_InvalidCurves : Addr
  c_InvalidFlows : Addr
  c_InvalidKinds : Addr
  c_IsBridge : Addr
  c_InvalidPipes : Addr
  c_Unbalanced : Addr
  c_InvalidText : Addr
  c_TooMany : Addr
  c_Barred : Addr
  c_NothingToUndo : Addr
  c_PipeError : Addr
  c_MissingError : Addr
  c_StateError : Addr
  c_LimitError : Addr
  cc_right : Addr
  PP_right : Addr
structure Txt (K : PySem.W.Frag) (mg : Str → Option Value) (a : Ad) : Prop where
  F_InvalidInteger_init_ : Fun K "__init__" "InvalidInteger.__init__" s_InvalidInteger_init_ a.f_InvalidInteger_init_ a.d_InvalidInteger_init_
  F_InvalidAmount_init_ : Fun K "__init__" "InvalidAmount.__init__" s_InvalidAmount_init_ a.f_InvalidAmount_init_ a.d_InvalidAmount_init_
  F_InvalidOrder_init_ : Fun K "__init__" "InvalidOrder.__init__" s_InvalidOrder_init_ a.f_InvalidOrder_init_ a.d_InvalidOrder_init_
  F_InvalidWord_init_ : Fun K "__init__" "InvalidWord.__init__" s_InvalidWord_init_ a.f_InvalidWord_init_ a.d_InvalidWord_init_
  F_InvalidPlace_init_ : Fun K "__init__" "InvalidPlace.__init__" s_InvalidPlace_init_ a.f_InvalidPlace_init_ a.d_InvalidPlace_init_
  F_InvalidClaim_init_ : Fun K "__init__" "InvalidClaim.__init__" s_InvalidClaim_init_ a.f_InvalidClaim_init_ a.d_InvalidClaim_init_
  F_InvalidLine_init_ : Fun K "__init__" "InvalidLine.__init__" s_InvalidLine_init_ a.f_InvalidLine_init_ a.d_InvalidLine_init_
  F_UnknownPipe_init_ : Fun K "__init__" "UnknownPipe.__init__" s_UnknownPipe_init_ a.f_UnknownPipe_init_ a.d_UnknownPipe_init_
  F_UnknownNode_init_ : Fun K "__init__" "UnknownNode.__init__" s_UnknownNode_init_ a.f_UnknownNode_init_ a.d_UnknownNode_init_
  F_UnknownPole_init_ : Fun K "__init__" "UnknownPole.__init__" s_UnknownPole_init_ a.f_UnknownPole_init_ a.d_UnknownPole_init_
  F_UnknownKind_init_ : Fun K "__init__" "UnknownKind.__init__" s_UnknownKind_init_ a.f_UnknownKind_init_ a.d_UnknownKind_init_
  F_UnknownReading_init_ : Fun K "__init__" "UnknownReading.__init__" s_UnknownReading_init_ a.f_UnknownReading_init_ a.d_UnknownReading_init_
  F_NotSure_init_ : Fun K "__init__" "NotSure.__init__" s_NotSure_init_ a.f_NotSure_init_ a.d_NotSure_init_
  F_InvalidPoints_init_ : Fun K "__init__" "InvalidPoints.__init__" s_InvalidPoints_init_ a.f_InvalidPoints_init_ a.d_InvalidPoints_init_
  F_InvalidLevels_init_ : Fun K "__init__" "InvalidLevels.__init__" s_InvalidLevels_init_ a.f_InvalidLevels_init_ a.d_InvalidLevels_init_
  F_InvalidReading_init_ : Fun K "__init__" "InvalidReading.__init__" s_InvalidReading_init_ a.f_InvalidReading_init_ a.d_InvalidReading_init_
  F_InvalidStates_init_ : Fun K "__init__" "InvalidStates.__init__" s_InvalidStates_init_ a.f_InvalidStates_init_ a.d_InvalidStates_init_
  F_NotConnected_init_ : Fun K "__init__" "NotConnected.__init__" s_NotConnected_init_ a.f_NotConnected_init_ a.d_NotConnected_init_
  F_InvalidDemands_init_ : Fun K "__init__" "InvalidDemands.__init__" s_InvalidDemands_init_ a.f_InvalidDemands_init_ a.d_InvalidDemands_init_
  F_InvalidPoles_init_ : Fun K "__init__" "InvalidPoles.__init__" s_InvalidPoles_init_ a.f_InvalidPoles_init_ a.d_InvalidPoles_init_
  F_InvalidHeights_init_ : Fun K "__init__" "InvalidHeights.__init__" s_InvalidHeights_init_ a.f_InvalidHeights_init_ a.d_InvalidHeights_init_
  F_InvalidConductances_init_ : Fun K "__init__" "InvalidConductances.__init__" s_InvalidConductances_init_ a.f_InvalidConductances_init_ a.d_InvalidConductances_init_
  F_InvalidCurves_init_ : Fun K "__init__" "InvalidCurves.__init__" s_InvalidCurves_init_ a.f_InvalidCurves_init_ a.d_InvalidCurves_init_
  F_InvalidFlows_init_ : Fun K "__init__" "InvalidFlows.__init__" s_InvalidFlows_init_ a.f_InvalidFlows_init_ a.d_InvalidFlows_init_
  F_InvalidKinds_init_ : Fun K "__init__" "InvalidKinds.__init__" s_InvalidKinds_init_ a.f_InvalidKinds_init_ a.d_InvalidKinds_init_
  F_IsBridge_init_ : Fun K "__init__" "IsBridge.__init__" s_IsBridge_init_ a.f_IsBridge_init_ a.d_IsBridge_init_
  F_InvalidPipes_init_ : Fun K "__init__" "InvalidPipes.__init__" s_InvalidPipes_init_ a.f_InvalidPipes_init_ a.d_InvalidPipes_init_
  F_Unbalanced_init_ : Fun K "__init__" "Unbalanced.__init__" s_Unbalanced_init_ a.f_Unbalanced_init_ a.d_Unbalanced_init_
  F_InvalidText_init_ : Fun K "__init__" "InvalidText.__init__" s_InvalidText_init_ a.f_InvalidText_init_ a.d_InvalidText_init_
  F_TooMany_init_ : Fun K "__init__" "TooMany.__init__" s_TooMany_init_ a.f_TooMany_init_ a.d_TooMany_init_
  F_Barred_init_ : Fun K "__init__" "Barred.__init__" s_Barred_init_ a.f_Barred_init_ a.d_Barred_init_
  F_NothingToUndo_init_ : Fun K "__init__" "NothingToUndo.__init__" s_NothingToUndo_init_ a.f_NothingToUndo_init_ a.d_NothingToUndo_init_
  F_is_integer : Fun K "is_integer" "is_integer" s_is_integer a.f_is_integer a.d_is_integer
  m_is_integer : mg "is_integer" = some (.ref a.f_is_integer)
  F_amount_of : Fun K "amount_of" "amount_of" s_amount_of a.f_amount_of a.d_amount_of
  m_amount_of : mg "amount_of" = some (.ref a.f_amount_of)
  F_Amount_init_ : FunD K "__init__" "Amount.__init__" (defArgs s_Amount_init_) (defBody s_Amount_init_) (defScope s_Amount_init_) [.int 1] [] a.f_Amount_init_ a.d_Amount_init_
  F_Amount_eq_ : Fun K "__eq__" "Amount.__eq__" s_Amount_eq_ a.f_Amount_eq_ a.d_Amount_eq_
  F_pot : Fun K "_law_pot" "_law_pot" s_pot a.f_pot a.d_pot
  m_pot : mg "_law_pot" = some (.ref a.f_pot)
  F_draw : Fun K "_law_draw" "_law_draw" s_draw a.f_draw a.d_draw
  m_draw : mg "_law_draw" = some (.ref a.f_draw)
  F_choice : Fun K "_law_choice" "_law_choice" s_choice a.f_choice a.d_choice
  m_choice : mg "_law_choice" = some (.ref a.f_choice)
  F_parts : Fun K "_law_parts" "_law_parts" s_parts a.f_parts a.d_parts
  m_parts : mg "_law_parts" = some (.ref a.f_parts)
  F_with_value : Fun K "_law_with_value" "_law_with_value" s_with_value a.f_with_value a.d_with_value
  m_with_value : mg "_law_with_value" = some (.ref a.f_with_value)
  F_with_position : Fun K "_law_with_position" "_law_with_position" s_with_position a.f_with_position a.d_with_position
  m_with_position : mg "_law_with_position" = some (.ref a.f_with_position)
  F_with_node : Fun K "_law_with_node" "_law_with_node" s_with_node a.f_with_node a.d_with_node
  m_with_node : mg "_law_with_node" = some (.ref a.f_with_node)
  F_with_pipe : Fun K "_law_with_pipe" "_law_with_pipe" s_with_pipe a.f_with_pipe a.d_with_pipe
  m_with_pipe : mg "_law_with_pipe" = some (.ref a.f_with_pipe)
  F_others : Fun K "_law_others" "_law_others" s_others a.f_others a.d_others
  m_others : mg "_law_others" = some (.ref a.f_others)
  F_row : Fun K "_law_row" "_law_row" s_row a.f_row a.d_row
  m_row : mg "_law_row" = some (.ref a.f_row)
  F_marks : Fun K "_law_marks" "_law_marks" s_marks a.f_marks a.d_marks
  m_marks : mg "_law_marks" = some (.ref a.f_marks)
  F_above_right : Fun K "_law_above_right" "_law_above_right" s_above_right a.f_above_right a.d_above_right
  m_above_right : mg "_law_above_right" = some (.ref a.f_above_right)
  F_parts_right : Fun K "_law_parts_right" "_law_parts_right" s_parts_right a.f_parts_right a.d_parts_right
  m_parts_right : mg "_law_parts_right" = some (.ref a.f_parts_right)
  F_caught : Fun K "_law_caught" "_law_caught" s_caught a.f_caught a.d_caught
  m_caught : mg "_law_caught" = some (.ref a.f_caught)
  F_raised : Fun K "_law_raised" "_law_raised" s_raised a.f_raised a.d_raised
  m_raised : mg "_law_raised" = some (.ref a.f_raised)
  F_right : Fun K "_law_right" "_law_right" s_right a.f_right a.d_right
  m_right : mg "_law_right" = some (.ref a.f_right)
  F_law : Fun K "law" "law" s_law a.f_law a.d_law
  m_law : mg "law" = some (.ref a.f_law)
  cl : Cls K a.c_Amount
  nT : NoAttr K a.c_Amount "_top"
  nB : NoAttr K a.c_Amount "_bottom"
  mA : mg "Amount" = some (.ref a.c_Amount)
  mkA : Mk K a.c_Amount a.f_Amount_init_
  m_gcd : mg "gcd" = some (.builtin "math.gcd")
  I : Inst K a.c_Amount
  sI : PySem.W.subIn K (.ref a.c_Amount) (.type "int") = some false
  cEq : OwnM K a.c_Amount "__eq__" a.f_Amount_eq_
  C_right : a.d_right.code = .ref a.cc_right
  bInvalidInteger : Abv K a.c_InvalidInteger a.c_PipeError veT
  bInvalidAmount : Abv K a.c_InvalidAmount a.c_PipeError veT
  bInvalidOrder : Abv K a.c_InvalidOrder a.c_PipeError veT
  bInvalidWord : Abv K a.c_InvalidWord a.c_PipeError veT
  bInvalidPlace : Abv K a.c_InvalidPlace a.c_PipeError veT
  bInvalidClaim : Abv K a.c_InvalidClaim a.c_PipeError veT
  bInvalidLine : Abv K a.c_InvalidLine a.c_PipeError veT
  bUnknownPipe : Abv K a.c_UnknownPipe a.c_MissingError leT
  bUnknownNode : Abv K a.c_UnknownNode a.c_MissingError leT
  bUnknownPole : Abv K a.c_UnknownPole a.c_MissingError leT
  bUnknownKind : Abv K a.c_UnknownKind a.c_MissingError leT
  bUnknownReading : Abv K a.c_UnknownReading a.c_MissingError leT
  bNotSure : Abv K a.c_NotSure a.c_StateError reT
  bInvalidPoints : Abv K a.c_InvalidPoints a.c_PipeError veT
  bInvalidLevels : Abv K a.c_InvalidLevels a.c_PipeError veT
  bInvalidReading : Abv K a.c_InvalidReading a.c_PipeError veT
  bInvalidStates : Abv K a.c_InvalidStates a.c_PipeError veT
  bNotConnected : Abv K a.c_NotConnected a.c_PipeError veT
  bInvalidDemands : Abv K a.c_InvalidDemands a.c_PipeError veT
  bInvalidPoles : Abv K a.c_InvalidPoles a.c_PipeError veT
  bInvalidHeights : Abv K a.c_InvalidHeights a.c_PipeError veT
  bInvalidConductances : Abv K a.c_InvalidConductances a.c_PipeError veT
  bInvalidCurves : Abv K a.c_InvalidCurves a.c_PipeError veT
  bInvalidFlows : Abv K a.c_InvalidFlows a.c_PipeError veT
  bInvalidKinds : Abv K a.c_InvalidKinds a.c_PipeError veT
  bIsBridge : Abv K a.c_IsBridge a.c_StateError reT
  bInvalidPipes : Abv K a.c_InvalidPipes a.c_PipeError veT
  bUnbalanced : Abv K a.c_Unbalanced a.c_PipeError veT
  bInvalidText : Abv K a.c_InvalidText a.c_PipeError veT
  bTooMany : Abv K a.c_TooMany a.c_LimitError arTail
  bBarred : Abv K a.c_Barred a.c_StateError reT
  bNothingToUndo : Abv K a.c_NothingToUndo a.c_StateError reT
  xInvalidInteger : ExqF K mg "InvalidInteger" a.c_InvalidInteger a.f_InvalidInteger_init_
  xInvalidAmount : ExqF K mg "InvalidAmount" a.c_InvalidAmount a.f_InvalidAmount_init_
  xInvalidOrder : ExqF K mg "InvalidOrder" a.c_InvalidOrder a.f_InvalidOrder_init_
  xInvalidWord : ExqF K mg "InvalidWord" a.c_InvalidWord a.f_InvalidWord_init_
  xInvalidPlace : ExqF K mg "InvalidPlace" a.c_InvalidPlace a.f_InvalidPlace_init_
  xInvalidClaim : ExqF K mg "InvalidClaim" a.c_InvalidClaim a.f_InvalidClaim_init_
  xInvalidLine : ExqF K mg "InvalidLine" a.c_InvalidLine a.f_InvalidLine_init_
  xUnknownPipe : ExqF K mg "UnknownPipe" a.c_UnknownPipe a.f_UnknownPipe_init_
  xUnknownNode : ExqF K mg "UnknownNode" a.c_UnknownNode a.f_UnknownNode_init_
  xUnknownPole : ExqF K mg "UnknownPole" a.c_UnknownPole a.f_UnknownPole_init_
  xUnknownKind : ExqF K mg "UnknownKind" a.c_UnknownKind a.f_UnknownKind_init_
  xUnknownReading : ExqF K mg "UnknownReading" a.c_UnknownReading a.f_UnknownReading_init_
  xNotSure : ExqF K mg "NotSure" a.c_NotSure a.f_NotSure_init_
  xInvalidPoints : ExqF K mg "InvalidPoints" a.c_InvalidPoints a.f_InvalidPoints_init_
  xInvalidLevels : ExqF K mg "InvalidLevels" a.c_InvalidLevels a.f_InvalidLevels_init_
  xInvalidReading : ExqF K mg "InvalidReading" a.c_InvalidReading a.f_InvalidReading_init_
  xInvalidStates : ExqF K mg "InvalidStates" a.c_InvalidStates a.f_InvalidStates_init_
  xNotConnected : ExqF K mg "NotConnected" a.c_NotConnected a.f_NotConnected_init_
  xInvalidDemands : ExqF K mg "InvalidDemands" a.c_InvalidDemands a.f_InvalidDemands_init_
  xInvalidPoles : ExqF K mg "InvalidPoles" a.c_InvalidPoles a.f_InvalidPoles_init_
  xInvalidHeights : ExqF K mg "InvalidHeights" a.c_InvalidHeights a.f_InvalidHeights_init_
  xInvalidConductances : ExqF K mg "InvalidConductances" a.c_InvalidConductances a.f_InvalidConductances_init_
  xInvalidCurves : ExqF K mg "InvalidCurves" a.c_InvalidCurves a.f_InvalidCurves_init_
  xInvalidFlows : ExqF K mg "InvalidFlows" a.c_InvalidFlows a.f_InvalidFlows_init_
  xInvalidKinds : ExqF K mg "InvalidKinds" a.c_InvalidKinds a.f_InvalidKinds_init_
  xIsBridge : ExqF K mg "IsBridge" a.c_IsBridge a.f_IsBridge_init_
  xInvalidPipes : ExqF K mg "InvalidPipes" a.c_InvalidPipes a.f_InvalidPipes_init_
  xUnbalanced : ExqF K mg "Unbalanced" a.c_Unbalanced a.f_Unbalanced_init_
  xInvalidText : ExqF K mg "InvalidText" a.c_InvalidText a.f_InvalidText_init_
  xTooMany : ExqF K mg "TooMany" a.c_TooMany a.f_TooMany_init_
  xBarred : ExqF K mg "Barred" a.c_Barred a.f_Barred_init_
  xNothingToUndo : ExqF K mg "NothingToUndo" a.c_NothingToUndo a.f_NothingToUndo_init_
  nInvalidInteger : PySem.W.findIn K (.ref a.c_InvalidInteger) "value" = some none
  nInvalidAmount : PySem.W.findIn K (.ref a.c_InvalidAmount) "value" = some none
  nInvalidOrder : PySem.W.findIn K (.ref a.c_InvalidOrder) "value" = some none
  nInvalidWord : PySem.W.findIn K (.ref a.c_InvalidWord) "value" = some none
  nInvalidPlace : PySem.W.findIn K (.ref a.c_InvalidPlace) "value" = some none
  nInvalidClaim : PySem.W.findIn K (.ref a.c_InvalidClaim) "value" = some none
  nInvalidLine : PySem.W.findIn K (.ref a.c_InvalidLine) "value" = some none
  nUnknownPipe : PySem.W.findIn K (.ref a.c_UnknownPipe) "value" = some none
  nUnknownNode : PySem.W.findIn K (.ref a.c_UnknownNode) "value" = some none
  nUnknownPole : PySem.W.findIn K (.ref a.c_UnknownPole) "value" = some none
  nUnknownKind : PySem.W.findIn K (.ref a.c_UnknownKind) "value" = some none
  nUnknownReading : PySem.W.findIn K (.ref a.c_UnknownReading) "value" = some none
  nNotSure : PySem.W.findIn K (.ref a.c_NotSure) "value" = some none
  nInvalidPoints : PySem.W.findIn K (.ref a.c_InvalidPoints) "position" = some none
  nInvalidLevels : PySem.W.findIn K (.ref a.c_InvalidLevels) "position" = some none
  nInvalidReading : PySem.W.findIn K (.ref a.c_InvalidReading) "position" = some none
  nInvalidStates : PySem.W.findIn K (.ref a.c_InvalidStates) "position" = some none
  nNotConnected : PySem.W.findIn K (.ref a.c_NotConnected) "node" = some none
  nInvalidDemands : PySem.W.findIn K (.ref a.c_InvalidDemands) "node" = some none
  nInvalidPoles : PySem.W.findIn K (.ref a.c_InvalidPoles) "node" = some none
  nInvalidHeights : PySem.W.findIn K (.ref a.c_InvalidHeights) "node" = some none
  nInvalidConductances : PySem.W.findIn K (.ref a.c_InvalidConductances) "pipe" = some none
  nInvalidCurves : PySem.W.findIn K (.ref a.c_InvalidCurves) "pipe" = some none
  nInvalidFlows : PySem.W.findIn K (.ref a.c_InvalidFlows) "pipe" = some none
  nInvalidKinds : PySem.W.findIn K (.ref a.c_InvalidKinds) "pipe" = some none
  nIsBridge : PySem.W.findIn K (.ref a.c_IsBridge) "pipe" = some none
  nInvalidPipes : PySem.W.findIn K (.ref a.c_InvalidPipes) "name" = some none
  nUnbalanced : PySem.W.findIn K (.ref a.c_Unbalanced) "total" = some none
  nInvalidText : PySem.W.findIn K (.ref a.c_InvalidText) "line" = some none
  nTooMany : PySem.W.findIn K (.ref a.c_TooMany) "what" = some none
  n2TooMany : PySem.W.findIn K (.ref a.c_TooMany) "limit" = some none
  qPipeError : FamC K a.c_PipeError
  qMissingError : FamC K a.c_MissingError
  qStateError : FamC K a.c_StateError
  qLimitError : FamC K a.c_LimitError
  mPipeError : mg "PipeError" = some (.ref a.c_PipeError)
  mMissingError : mg "MissingError" = some (.ref a.c_MissingError)
  mStateError : mg "StateError" = some (.ref a.c_StateError)
  mLimitError : mg "LimitError" = some (.ref a.c_LimitError)
  nd : List.Nodup [a.c_InvalidInteger, a.c_InvalidAmount, a.c_InvalidOrder, a.c_InvalidWord, a.c_InvalidPlace, a.c_InvalidClaim, a.c_InvalidLine, a.c_UnknownPipe, a.c_UnknownNode, a.c_UnknownPole, a.c_UnknownKind, a.c_UnknownReading, a.c_NotSure, a.c_InvalidPoints, a.c_InvalidLevels, a.c_InvalidReading, a.c_InvalidStates, a.c_NotConnected, a.c_InvalidDemands, a.c_InvalidPoles, a.c_InvalidHeights, a.c_InvalidConductances, a.c_InvalidCurves, a.c_InvalidFlows, a.c_InvalidKinds, a.c_IsBridge, a.c_InvalidPipes, a.c_Unbalanced, a.c_InvalidText, a.c_TooMany, a.c_Barred, a.c_NothingToUndo, a.c_PipeError, a.c_MissingError, a.c_StateError, a.c_LimitError]
  b_len : mg "len" = none
  b_abs : mg "abs" = none
  b_max : mg "max" = none
  b_min : mg "min" = none
  b_int : mg "int" = none
  b_divmod : mg "divmod" = none
  b_all : mg "all" = none
  b_repr : mg "repr" = none
  b_isinstance : mg "isinstance" = none
  b_range : mg "range" = none
  b_enumerate : mg "enumerate" = none
  b_bool : mg "bool" = none
  b_ValueError : mg "ValueError" = none
  b_LookupError : mg "LookupError" = none
  b_RuntimeError : mg "RuntimeError" = none
  b_ArithmeticError : mg "ArithmeticError" = none
theorem b_InvalidInteger_init_ {K : PySem.W.Frag} {mg : Str → Option Value} {a : Ad} (T : Txt K mg a) : Binds K a.d_InvalidInteger_init_ ["self", "value"] [] := T.F_InvalidInteger_init_.binds (ps := ["self", "value"]) fun _ _ _ _ _ _ us hl => match us, hl with | [_, _], _ => rfl
theorem b_InvalidAmount_init_ {K : PySem.W.Frag} {mg : Str → Option Value} {a : Ad} (T : Txt K mg a) : Binds K a.d_InvalidAmount_init_ ["self", "value"] [] := T.F_InvalidAmount_init_.binds (ps := ["self", "value"]) fun _ _ _ _ _ _ us hl => match us, hl with | [_, _], _ => rfl
theorem b_InvalidOrder_init_ {K : PySem.W.Frag} {mg : Str → Option Value} {a : Ad} (T : Txt K mg a) : Binds K a.d_InvalidOrder_init_ ["self", "value"] [] := T.F_InvalidOrder_init_.binds (ps := ["self", "value"]) fun _ _ _ _ _ _ us hl => match us, hl with | [_, _], _ => rfl
theorem b_InvalidWord_init_ {K : PySem.W.Frag} {mg : Str → Option Value} {a : Ad} (T : Txt K mg a) : Binds K a.d_InvalidWord_init_ ["self", "value"] [] := T.F_InvalidWord_init_.binds (ps := ["self", "value"]) fun _ _ _ _ _ _ us hl => match us, hl with | [_, _], _ => rfl
theorem b_InvalidPlace_init_ {K : PySem.W.Frag} {mg : Str → Option Value} {a : Ad} (T : Txt K mg a) : Binds K a.d_InvalidPlace_init_ ["self", "value"] [] := T.F_InvalidPlace_init_.binds (ps := ["self", "value"]) fun _ _ _ _ _ _ us hl => match us, hl with | [_, _], _ => rfl
theorem b_InvalidClaim_init_ {K : PySem.W.Frag} {mg : Str → Option Value} {a : Ad} (T : Txt K mg a) : Binds K a.d_InvalidClaim_init_ ["self", "value"] [] := T.F_InvalidClaim_init_.binds (ps := ["self", "value"]) fun _ _ _ _ _ _ us hl => match us, hl with | [_, _], _ => rfl
theorem b_InvalidLine_init_ {K : PySem.W.Frag} {mg : Str → Option Value} {a : Ad} (T : Txt K mg a) : Binds K a.d_InvalidLine_init_ ["self", "value"] [] := T.F_InvalidLine_init_.binds (ps := ["self", "value"]) fun _ _ _ _ _ _ us hl => match us, hl with | [_, _], _ => rfl
theorem b_UnknownPipe_init_ {K : PySem.W.Frag} {mg : Str → Option Value} {a : Ad} (T : Txt K mg a) : Binds K a.d_UnknownPipe_init_ ["self", "value"] [] := T.F_UnknownPipe_init_.binds (ps := ["self", "value"]) fun _ _ _ _ _ _ us hl => match us, hl with | [_, _], _ => rfl
theorem b_UnknownNode_init_ {K : PySem.W.Frag} {mg : Str → Option Value} {a : Ad} (T : Txt K mg a) : Binds K a.d_UnknownNode_init_ ["self", "value"] [] := T.F_UnknownNode_init_.binds (ps := ["self", "value"]) fun _ _ _ _ _ _ us hl => match us, hl with | [_, _], _ => rfl
theorem b_UnknownPole_init_ {K : PySem.W.Frag} {mg : Str → Option Value} {a : Ad} (T : Txt K mg a) : Binds K a.d_UnknownPole_init_ ["self", "value"] [] := T.F_UnknownPole_init_.binds (ps := ["self", "value"]) fun _ _ _ _ _ _ us hl => match us, hl with | [_, _], _ => rfl
theorem b_UnknownKind_init_ {K : PySem.W.Frag} {mg : Str → Option Value} {a : Ad} (T : Txt K mg a) : Binds K a.d_UnknownKind_init_ ["self", "value"] [] := T.F_UnknownKind_init_.binds (ps := ["self", "value"]) fun _ _ _ _ _ _ us hl => match us, hl with | [_, _], _ => rfl
theorem b_UnknownReading_init_ {K : PySem.W.Frag} {mg : Str → Option Value} {a : Ad} (T : Txt K mg a) : Binds K a.d_UnknownReading_init_ ["self", "value"] [] := T.F_UnknownReading_init_.binds (ps := ["self", "value"]) fun _ _ _ _ _ _ us hl => match us, hl with | [_, _], _ => rfl
theorem b_NotSure_init_ {K : PySem.W.Frag} {mg : Str → Option Value} {a : Ad} (T : Txt K mg a) : Binds K a.d_NotSure_init_ ["self", "value"] [] := T.F_NotSure_init_.binds (ps := ["self", "value"]) fun _ _ _ _ _ _ us hl => match us, hl with | [_, _], _ => rfl
theorem b_InvalidPoints_init_ {K : PySem.W.Frag} {mg : Str → Option Value} {a : Ad} (T : Txt K mg a) : Binds K a.d_InvalidPoints_init_ ["self", "position"] [] := T.F_InvalidPoints_init_.binds (ps := ["self", "position"]) fun _ _ _ _ _ _ us hl => match us, hl with | [_, _], _ => rfl
theorem b_InvalidLevels_init_ {K : PySem.W.Frag} {mg : Str → Option Value} {a : Ad} (T : Txt K mg a) : Binds K a.d_InvalidLevels_init_ ["self", "position"] [] := T.F_InvalidLevels_init_.binds (ps := ["self", "position"]) fun _ _ _ _ _ _ us hl => match us, hl with | [_, _], _ => rfl
theorem b_InvalidReading_init_ {K : PySem.W.Frag} {mg : Str → Option Value} {a : Ad} (T : Txt K mg a) : Binds K a.d_InvalidReading_init_ ["self", "position"] [] := T.F_InvalidReading_init_.binds (ps := ["self", "position"]) fun _ _ _ _ _ _ us hl => match us, hl with | [_, _], _ => rfl
theorem b_InvalidStates_init_ {K : PySem.W.Frag} {mg : Str → Option Value} {a : Ad} (T : Txt K mg a) : Binds K a.d_InvalidStates_init_ ["self", "position"] [] := T.F_InvalidStates_init_.binds (ps := ["self", "position"]) fun _ _ _ _ _ _ us hl => match us, hl with | [_, _], _ => rfl
theorem b_NotConnected_init_ {K : PySem.W.Frag} {mg : Str → Option Value} {a : Ad} (T : Txt K mg a) : Binds K a.d_NotConnected_init_ ["self", "node"] [] := T.F_NotConnected_init_.binds (ps := ["self", "node"]) fun _ _ _ _ _ _ us hl => match us, hl with | [_, _], _ => rfl
theorem b_InvalidDemands_init_ {K : PySem.W.Frag} {mg : Str → Option Value} {a : Ad} (T : Txt K mg a) : Binds K a.d_InvalidDemands_init_ ["self", "node"] [] := T.F_InvalidDemands_init_.binds (ps := ["self", "node"]) fun _ _ _ _ _ _ us hl => match us, hl with | [_, _], _ => rfl
theorem b_InvalidPoles_init_ {K : PySem.W.Frag} {mg : Str → Option Value} {a : Ad} (T : Txt K mg a) : Binds K a.d_InvalidPoles_init_ ["self", "node"] [] := T.F_InvalidPoles_init_.binds (ps := ["self", "node"]) fun _ _ _ _ _ _ us hl => match us, hl with | [_, _], _ => rfl
theorem b_InvalidHeights_init_ {K : PySem.W.Frag} {mg : Str → Option Value} {a : Ad} (T : Txt K mg a) : Binds K a.d_InvalidHeights_init_ ["self", "node"] [] := T.F_InvalidHeights_init_.binds (ps := ["self", "node"]) fun _ _ _ _ _ _ us hl => match us, hl with | [_, _], _ => rfl
theorem b_InvalidConductances_init_ {K : PySem.W.Frag} {mg : Str → Option Value} {a : Ad} (T : Txt K mg a) : Binds K a.d_InvalidConductances_init_ ["self", "pipe"] [] := T.F_InvalidConductances_init_.binds (ps := ["self", "pipe"]) fun _ _ _ _ _ _ us hl => match us, hl with | [_, _], _ => rfl
theorem b_InvalidCurves_init_ {K : PySem.W.Frag} {mg : Str → Option Value} {a : Ad} (T : Txt K mg a) : Binds K a.d_InvalidCurves_init_ ["self", "pipe"] [] := T.F_InvalidCurves_init_.binds (ps := ["self", "pipe"]) fun _ _ _ _ _ _ us hl => match us, hl with | [_, _], _ => rfl
theorem b_InvalidFlows_init_ {K : PySem.W.Frag} {mg : Str → Option Value} {a : Ad} (T : Txt K mg a) : Binds K a.d_InvalidFlows_init_ ["self", "pipe"] [] := T.F_InvalidFlows_init_.binds (ps := ["self", "pipe"]) fun _ _ _ _ _ _ us hl => match us, hl with | [_, _], _ => rfl
theorem b_InvalidKinds_init_ {K : PySem.W.Frag} {mg : Str → Option Value} {a : Ad} (T : Txt K mg a) : Binds K a.d_InvalidKinds_init_ ["self", "pipe"] [] := T.F_InvalidKinds_init_.binds (ps := ["self", "pipe"]) fun _ _ _ _ _ _ us hl => match us, hl with | [_, _], _ => rfl
theorem b_IsBridge_init_ {K : PySem.W.Frag} {mg : Str → Option Value} {a : Ad} (T : Txt K mg a) : Binds K a.d_IsBridge_init_ ["self", "pipe"] [] := T.F_IsBridge_init_.binds (ps := ["self", "pipe"]) fun _ _ _ _ _ _ us hl => match us, hl with | [_, _], _ => rfl
theorem b_InvalidPipes_init_ {K : PySem.W.Frag} {mg : Str → Option Value} {a : Ad} (T : Txt K mg a) : Binds K a.d_InvalidPipes_init_ ["self", "name"] [] := T.F_InvalidPipes_init_.binds (ps := ["self", "name"]) fun _ _ _ _ _ _ us hl => match us, hl with | [_, _], _ => rfl
theorem b_Unbalanced_init_ {K : PySem.W.Frag} {mg : Str → Option Value} {a : Ad} (T : Txt K mg a) : Binds K a.d_Unbalanced_init_ ["self", "total"] [] := T.F_Unbalanced_init_.binds (ps := ["self", "total"]) fun _ _ _ _ _ _ us hl => match us, hl with | [_, _], _ => rfl
theorem b_InvalidText_init_ {K : PySem.W.Frag} {mg : Str → Option Value} {a : Ad} (T : Txt K mg a) : Binds K a.d_InvalidText_init_ ["self", "line"] [] := T.F_InvalidText_init_.binds (ps := ["self", "line"]) fun _ _ _ _ _ _ us hl => match us, hl with | [_, _], _ => rfl
theorem b_TooMany_init_ {K : PySem.W.Frag} {mg : Str → Option Value} {a : Ad} (T : Txt K mg a) : Binds K a.d_TooMany_init_ ["self", "what", "limit"] [] := T.F_TooMany_init_.binds (ps := ["self", "what", "limit"]) fun _ _ _ _ _ _ us hl => match us, hl with | [_, _, _], _ => rfl
theorem b_Barred_init_ {K : PySem.W.Frag} {mg : Str → Option Value} {a : Ad} (T : Txt K mg a) : Binds K a.d_Barred_init_ ["self"] [] := T.F_Barred_init_.binds (ps := ["self"]) fun _ _ _ _ _ _ us hl => match us, hl with | [_], _ => rfl
theorem b_NothingToUndo_init_ {K : PySem.W.Frag} {mg : Str → Option Value} {a : Ad} (T : Txt K mg a) : Binds K a.d_NothingToUndo_init_ ["self"] [] := T.F_NothingToUndo_init_.binds (ps := ["self"]) fun _ _ _ _ _ _ us hl => match us, hl with | [_], _ => rfl
theorem b_is_integer {K : PySem.W.Frag} {mg : Str → Option Value} {a : Ad} (T : Txt K mg a) : Binds K a.d_is_integer ["value"] [] := T.F_is_integer.binds (ps := ["value"]) fun _ _ _ _ _ _ us hl => match us, hl with | [_], _ => rfl
theorem b_amount_of {K : PySem.W.Frag} {mg : Str → Option Value} {a : Ad} (T : Txt K mg a) : Binds K a.d_amount_of ["value"] [] := T.F_amount_of.binds (ps := ["value"]) fun _ _ _ _ _ _ us hl => match us, hl with | [_], _ => rfl
theorem b_Amount_init_ {K : PySem.W.Frag} {mg : Str → Option Value} {a : Ad} (T : Txt K mg a) : Binds K a.d_Amount_init_ ["self", "top", "bottom"] [] := by
  obtain ⟨ds, r, b⟩ := T.F_Amount_init_.binds1 (ps := ["self", "top", "bottom"]) 3 1 (by simp) rfl (fun _ _ _ _ _ _ _ us its h1 h2 => match us, its, h1, h2 with | [_, _, _], [_], _, _ => ⟨_, rfl, rfl⟩)
  cases r
  exact b
theorem b_Amount_eq_ {K : PySem.W.Frag} {mg : Str → Option Value} {a : Ad} (T : Txt K mg a) : Binds K a.d_Amount_eq_ ["self", "other"] [] := T.F_Amount_eq_.binds (ps := ["self", "other"]) fun _ _ _ _ _ _ us hl => match us, hl with | [_, _], _ => rfl
theorem b_pot {K : PySem.W.Frag} {mg : Str → Option Value} {a : Ad} (T : Txt K mg a) : Binds K a.d_pot ["_law_script", "_law_k"] [] := T.F_pot.binds (ps := ["_law_script", "_law_k"]) fun _ _ _ _ _ _ us hl => match us, hl with | [_, _], _ => rfl
theorem b_draw {K : PySem.W.Frag} {mg : Str → Option Value} {a : Ad} (T : Txt K mg a) : Binds K a.d_draw ["_law_pot_here", "_law_size"] [] := T.F_draw.binds (ps := ["_law_pot_here", "_law_size"]) fun _ _ _ _ _ _ us hl => match us, hl with | [_, _], _ => rfl
theorem b_choice {K : PySem.W.Frag} {mg : Str → Option Value} {a : Ad} (T : Txt K mg a) : Binds K a.d_choice ["_law_pot_here", "_law_some"] [] := T.F_choice.binds (ps := ["_law_pot_here", "_law_some"]) fun _ _ _ _ _ _ us hl => match us, hl with | [_, _], _ => rfl
theorem b_parts {K : PySem.W.Frag} {mg : Str → Option Value} {a : Ad} (T : Txt K mg a) : Binds K a.d_parts ["_law_pot_here"] [] := T.F_parts.binds (ps := ["_law_pot_here"]) fun _ _ _ _ _ _ us hl => match us, hl with | [_], _ => rfl
theorem b_with_value {K : PySem.W.Frag} {mg : Str → Option Value} {a : Ad} (T : Txt K mg a) : Binds K a.d_with_value ["_law_odd"] [] := T.F_with_value.binds (ps := ["_law_odd"]) fun _ _ _ _ _ _ us hl => match us, hl with | [_], _ => rfl
theorem b_with_position {K : PySem.W.Frag} {mg : Str → Option Value} {a : Ad} (T : Txt K mg a) : Binds K a.d_with_position ["_law_at"] [] := T.F_with_position.binds (ps := ["_law_at"]) fun _ _ _ _ _ _ us hl => match us, hl with | [_], _ => rfl
theorem b_with_node {K : PySem.W.Frag} {mg : Str → Option Value} {a : Ad} (T : Txt K mg a) : Binds K a.d_with_node ["_law_tag"] [] := T.F_with_node.binds (ps := ["_law_tag"]) fun _ _ _ _ _ _ us hl => match us, hl with | [_], _ => rfl
theorem b_with_pipe {K : PySem.W.Frag} {mg : Str → Option Value} {a : Ad} (T : Txt K mg a) : Binds K a.d_with_pipe ["_law_tag"] [] := T.F_with_pipe.binds (ps := ["_law_tag"]) fun _ _ _ _ _ _ us hl => match us, hl with | [_], _ => rfl
theorem b_others {K : PySem.W.Frag} {mg : Str → Option Value} {a : Ad} (T : Txt K mg a) : Binds K a.d_others ["_law_parts_here"] [] := T.F_others.binds (ps := ["_law_parts_here"]) fun _ _ _ _ _ _ us hl => match us, hl with | [_], _ => rfl
theorem b_row {K : PySem.W.Frag} {mg : Str → Option Value} {a : Ad} (T : Txt K mg a) : Binds K a.d_row ["_law_parts_here"] [] := T.F_row.binds (ps := ["_law_parts_here"]) fun _ _ _ _ _ _ us hl => match us, hl with | [_], _ => rfl
theorem b_marks {K : PySem.W.Frag} {mg : Str → Option Value} {a : Ad} (T : Txt K mg a) : Binds K a.d_marks ["_law_made"] [] := T.F_marks.binds (ps := ["_law_made"]) fun _ _ _ _ _ _ us hl => match us, hl with | [_], _ => rfl
theorem b_above_right {K : PySem.W.Frag} {mg : Str → Option Value} {a : Ad} (T : Txt K mg a) : Binds K a.d_above_right ["_law_made", "_law_place"] [] := T.F_above_right.binds (ps := ["_law_made", "_law_place"]) fun _ _ _ _ _ _ us hl => match us, hl with | [_, _], _ => rfl
theorem b_parts_right {K : PySem.W.Frag} {mg : Str → Option Value} {a : Ad} (T : Txt K mg a) : Binds K a.d_parts_right ["_law_made", "_law_parts_here"] [] := T.F_parts_right.binds (ps := ["_law_made", "_law_parts_here"]) fun _ _ _ _ _ _ us hl => match us, hl with | [_, _], _ => rfl
theorem b_caught {K : PySem.W.Frag} {mg : Str → Option Value} {a : Ad} (T : Txt K mg a) : Binds K a.d_caught ["_law_call"] [] := T.F_caught.binds (ps := ["_law_call"]) fun _ _ _ _ _ _ us hl => match us, hl with | [_], _ => rfl
theorem b_raised {K : PySem.W.Frag} {mg : Str → Option Value} {a : Ad} (T : Txt K mg a) : Binds K a.d_raised ["_law_at"] [] := T.F_raised.binds (ps := ["_law_at"]) fun _ _ _ _ _ _ us hl => match us, hl with | [_], _ => rfl
theorem b_right {K : PySem.W.Frag} {mg : Str → Option Value} {a : Ad} (T : Txt K mg a) : Binds K a.d_right ["_law_pot_here"] [] := T.F_right.binds (ps := ["_law_pot_here"]) fun _ _ _ _ _ _ us hl => match us, hl with | [_], _ => rfl
theorem b_law {K : PySem.W.Frag} {mg : Str → Option Value} {a : Ad} (T : Txt K mg a) : Binds K a.d_law ["_law_script"] [] := T.F_law.binds (ps := ["_law_script"]) fun _ _ _ _ _ _ us hl => match us, hl with | [_], _ => rfl
end K10

set_option Elab.async false
set_option linter.all false
set_option maxRecDepth 100000
set_option maxHeartbeats 4000000
namespace K10
open PySem L2 Lb
open C8 (pss_cut)
theorem b1_Amount_init_ {K : PySem.W.Frag} {mg : Str → Option Value} {a : Ad} (T : Txt K mg a) : ∃ ds, Vals [V.int 1] ds ∧ Binds K a.d_Amount_init_ ["self", "top", "bottom"] ds := by
  obtain ⟨ds, r, b⟩ := T.F_Amount_init_.binds1 (ps := ["self", "top", "bottom"]) 2 0 (by simp) rfl (fun _ _ _ _ _ _ _ us its h1 h2 => match us, its, h1, h2 with | [_, _], [_], _, _ => ⟨_, rfl, rfl⟩)
  exact ⟨ds, r, b⟩
theorem kb_Amount_init_ {K : PySem.W.Frag} {mg : Str → Option Value} {a : Ad} (T : Txt K mg a) : ∃ its : List Value, KBn K a.d_Amount_init_ ["self", "top", "bottom"] 1 ["bottom", "top"] (fun us ws => us ++ ws.reverse) (fun vs zs => vs ++ zs.reverse) := by
  obtain ⟨its, h⟩ := T.F_Amount_init_.kbindsD (ps := ["self", "top", "bottom"]) 1 ["bottom", "top"] (fun us _ ws => us ++ ws.reverse) (by simp) (fun r1 _ r3 => r1.append (vals_rev r3))
    (fun _ _ _ _ _ _ _ us its ws h1 h2 h3 => match us, its, ws, h1, h2, h3 with | [_], [_], [_, _], _, _, _ => ⟨_, rfl, rfl⟩)
  exact ⟨its, h⟩
theorem kb_amount_of {K : PySem.W.Frag} {mg : Str → Option Value} {a : Ad} (T : Txt K mg a) : KBn K a.d_amount_of ["value"] 0 ["value"] (fun us ws => us ++ ws) (fun vs zs => vs ++ zs) :=
  kbn_of T.F_amount_of fun _ _ _ _ _ _ us ws h1 h2 => match us, ws, h1, h2 with | [], [_], _, _ => rfl
theorem tb_ : ¬ (("_bottom" : Str) = "_top") := by decide +kernel
theorem bt_ : ¬ (("_top" : Str) = "_bottom") := by decide +kernel
def am (t b : Int) : List (Str × V) := putF "_bottom" (.int b) (putF "_top" (.int t) [])
theorem am_top (t b : Int) : (am t b).lookup ("_top" : Str) = some (.int t) := by
  unfold am
  rw [lookup_putF, if_neg bt_, lookup_putF, if_pos rfl]
theorem am_bot (t b : Int) : (am t b).lookup ("_bottom" : Str) = some (.int b) := by
  unfold am
  rw [lookup_putF, if_pos rfl]
theorem am_no (t b : Int) {m : Str} (h1 : ¬ m = "_bottom") (h2 : ¬ m = "_top") : (am t b).lookup m = none := by
  unfold am
  rw [lookup_putF, if_neg h1, lookup_putF, if_neg h2]
  all_goals rfl
def AmAt (C : Addr) (H : Hp) (q : Addr) (t b : Int) : Prop := ∃ dx, H q = some (.ins C dx (am t b))
theorem AmAt.same {C p : Addr} {H H' : Hp} {t b : Int} (h : AmAt C H p t b) (s : Same H H') : AmAt C H' p t b := let ⟨dx, e⟩ := h; ⟨dx, s _ _ e⟩
/-- what is passed: an int or an amount -/
def IsP (C : Addr) (H : Hp) (v : V) (t b : Int) : Prop := (v = .int t ∧ b = 1) ∨ ∃ q, v = .ref q ∧ AmAt C H q t b
theorem IsP.same {C : Addr} {v : V} {H H' : Hp} {t b : Int} (h : IsP C H v t b) (s : Same H H') : IsP C H' v t b := by
  rcases h with h | ⟨q, e, h⟩
  · exact .inl h
  · exact .inr ⟨q, e, h.same s⟩
theorem IsP.bin {C : Addr} {v : V} {H : Hp} {t b : Int} (h : IsP C H v t b) : (∃ m, v = V.int m) ∨ ∃ q dy fy, v = V.ref q ∧ H q = some (.ins C dy fy) := by
  rcases h with ⟨e, _⟩ | ⟨q, e, dx, h⟩
  · exact .inl ⟨_, e⟩
  · exact .inr ⟨q, dx, _, e, h⟩
def sp_is_integer (C : Addr) : Sp := fun vs H Q _ => ∃ v t b, vs = [v] ∧ IsP C H v t b ∧ (v = .int t → Q (.bl true) H) ∧ ((∃ q, v = .ref q) → Q (.bl false) H)
def sp_amount_of (C : Addr) : Sp := fun vs H Q _ => ∃ v t b, vs = [v] ∧ IsP C H v t b ∧ Bd 8000 t ∧ ∀ H' q, Same H H' → AmAt C H' q t b → Q (.ref q) H'
def sp_Amount_init_ (C : Addr) : Sp := fun vs H Q _ => ∃ (q dx : Addr) (t b : Int), vs = [.ref q, .int t, .int b] ∧ b ≠ 0 ∧ Bd 8000 t ∧ Bd 8000 b ∧ H q = some (.ins C dx []) ∧
  ∀ H', (∀ x o, x ≠ q → H x = some o → H' x = some o) → H' q = some (.ins C dx (am (rdT t b) (rdB t b))) → Q .non H'
/-- what C(t, b) gives -/
theorem made_am {C : Addr} {H : Hp} {x dx : Addr} {H' : Hp} {t b : Int} (h1 : H x = none) (h2 : H dx = none) (ne : dx ≠ x) (k : ∀ y o, y ≠ x → (upd (upd H dx (.own x)) x (.ins C dx [])) y = some o → H' y = some o) (e : H' x = some (.ins C dx (am t b))) :
    Same H H' ∧ AmAt C H' x t b := by
  refine ⟨fun y o hy => k y o (ne_of_none hy h1) ?_, dx, e⟩
  rw [upd_ne (ne_of_none hy h1), upd_ne (ne_of_none hy h2)]
  exact hy
def AmQ (C : Addr) (H : Hp) (q : Addr) (x : Q2) : Prop := AmAt C H q x.1 x.2
def sp_eqA (C : Addr) : Sp := fun vs H Q _ => ∃ (p q : Addr) (x y : Q2), vs = [.ref p, .ref q] ∧ AmQ C H p x ∧ AmQ C H q y ∧ Q (.bl (decide (x = y))) H
section
variable {P : Program} {w : World} {K : PySem.W.Frag} {mg : Str → Option Value} {base : Heap} {a : Ad}
theorem ok_is_integer (T : Txt K mg a) : FnOk P w K mg base CX0 1 a.f_is_integer a.d_is_integer ["value"] (sp_is_integer a.c_Amount) := by
  refine T.F_is_integer.ok sc_is_integer (fun vs H Q E h => ?_) (fun cdv A outer s H vs Q E hr h => ?_)
  · obtain ⟨v, t, b, rfl, _⟩ := h
    rfl
  · obtain ⟨v, t, b, rfl, hv, k1, k2⟩ := h
    refine ⟨_, (pss_one (ps_ret (pe_and (pe_callB (call_isiK' (K := K) rfl) (by rfl) T.b_isinstance (by decide +kernel) (pa_cons (pv 0) (pa_cons (pe_bltn (v := .ty "int") (by rfl) T.b_int (by decide +kernel) rfl) pa_nil))) (pe_one (pe_not (pe_callB (call_isiK' (K := K) rfl) (by rfl) T.b_isinstance (by decide +kernel) (pa_cons (pv 0) (pa_cons (pe_bltn (v := .ty "bool") (by rfl) T.b_bool (by decide +kernel) rfl) pa_nil)))))))), ?_⟩
    rcases hv with ⟨rfl, _⟩ | ⟨q, rfl, dx, hq⟩
    · refine ⟨_, rfl, _, _, _, _, true, rfl, .ty _, .base (.int _), kit_ty (by decide +kernel), true, rfl, iteT ?_⟩
      exact ⟨_, rfl, _, _, _, _, false, rfl, .ty _, .base (.int _), kit_ty (by decide +kernel), false, rfl, k1 rfl⟩
    · refine ⟨_, rfl, _, _, _, _, false, rfl, .ty _, .base (T.I.ty T.cl hq), kit_of_own (by decide +kernel) T.sI, false, rfl, iteF ?_⟩
      exact k2 ⟨q, rfl⟩
theorem ok_Amount_init_ (T : Txt K mg a) : FnOk P w K mg base CX0 2 a.f_Amount_init_ a.d_Amount_init_ ["self", "top", "bottom"] (sp_Amount_init_ a.c_Amount) := by
  refine T.F_Amount_init_.ok sc_Amount_init_ (fun vs H Q E h => ?_) (fun cdv A outer s H vs Q E hr h => ?_)
  · obtain ⟨q, dx, t, b, rfl, _⟩ := h
    rfl
  · obtain ⟨q, dx, t, b, rfl, hb, bt, bb, hq, k⟩ := h
    refine ⟨_, (pss_cons (ps_if (pt_not (pt_val (pe_call (ok_is_integer T) (hr.mono (by decide)) (by rfl) T.m_is_integer T.F_is_integer.kp (b_is_integer T) .nil pass0 (pa_cons (pv 1) pa_nil)))) (pss_one ps_never) pss_nil)
 (pss_cons (ps_if (PW.pt (pw_or (pt_not (pt_val (pe_call (ok_is_integer T) (hr.mono (by decide)) (by rfl) T.m_is_integer T.F_is_integer.kp (b_is_integer T) .nil pass0 (pa_cons (pv 2) pa_nil)))) (pw_or1 (pt_cmpR op_eq (pv 2) pe_int (nomark _))))) (pss_one ps_never) pss_nil)
 (pss_cons (ps_set (i := 3) sc_Amount_init_.nd rfl (by first | exact Or.inl rfl | exact Or.inr rfl) (pe_callBfun cr_gcd (by rfl) T.m_gcd (pa_cons (pv 1) (pa_cons (pv 2) pa_nil))))
 (pss_cut (ps_if (pt_cmpR op_lt (pv 2) pe_int (nomark _)) (pss_one (ps_set (i := 3) sc_Amount_init_.nd rfl (by first | exact Or.inl rfl | exact Or.inr rfl) (pe_un un_neg (pv 3)))) pss_nil)
 (pss_cons (ps_fldK (K := K) rfl (pv 0) (pe_op op_fdivX (pv 1) (pv 3)) rfl)
 (pss_one (ps_fldK (K := K) rfl (pv 0) (pe_op op_fdivX (pv 2) (pv 3)) rfl))))))), ?_⟩
    refine ⟨_, rfl, _, t, 1, rfl, .inl ⟨rfl, rfl⟩, fun _ => ⟨true, rfl, iteF ?_⟩, fun ⟨_, e⟩ => nomatch e⟩
    refine ⟨_, rfl, _, b, 1, rfl, .inl ⟨rfl, rfl⟩, fun _ => ⟨true, rfl, iteF ?_⟩, fun ⟨_, e⟩ => nomatch e⟩
    refine ⟨_, rfl, rfl, _, rfl, iteN ?_ ?_⟩
    · intro z
      have z := of_decide_eq_true z
      injection z with z
      exact hb z
    refine ⟨_, rfl, _, rfl, _, _, rfl, ?_⟩
    refine ⟨fun σ H' => H' = H ∧ σ = [some (.ref q), some (.int t), some (.int b), some (.int (rdD t b))], ?_, ?_⟩
    · refine ⟨_, rfl, _, _, rfl, rfl, _, rfl, ?_⟩
      refine ite2 (fun h1 => ?_) (fun h1 => ?_)
      · have h1 : b < 0 := by simpa using h1
        refine ⟨_, rfl, _, rfl, rfl, ?_⟩
        unfold rdD
        rw [if_pos h1]
        rfl
      · have h1 : ¬ b < 0 := by simpa using h1
        refine ⟨rfl, ?_⟩
        unfold rdD
        rw [if_neg h1]
        rfl
    rintro σ H' ⟨rfl, rfl⟩
    have hd : rdD t b ≠ 0 := by
      have : 0 < Nat.gcd t.natAbs b.natAbs := Nat.gcd_pos_of_pos_right _ (by omega)
      unfold rdD
      split <;> omega
    have bd : Bd 8000 (rdD t b) := by
      have : Nat.gcd t.natAbs b.natAbs ≤ b.natAbs := Nat.gcd_le_right _ (by omega)
      refine bb.le ?_
      unfold rdD
      split <;> omega
    refine ⟨_, rfl, _, rfl, _, _, rfl, rfl, bd.cx hd (by decide), _, rfl, q, _, dx, _, rfl, hq, T.cl, T.nT, (by show 0 < 1000; decide), ?_⟩
    refine ⟨_, rfl, _, rfl, _, _, rfl, rfl, bd.cx hd (by decide), _, rfl, q, _, dx, _, rfl, upd_same, T.cl, T.nB, (by show 1 < 1000; decide), ?_⟩
    refine k _ (fun x o n e => ?_) ?_
    · rw [upd_ne n, upd_ne n]
      exact e
    · rw [upd_same]
      rfl
theorem ok_amount_of (T : Txt K mg a) : FnOk P w K mg base CX0 4 a.f_amount_of a.d_amount_of ["value"] (sp_amount_of a.c_Amount) := by
  refine T.F_amount_of.ok sc_amount_of (fun vs H Q E h => ?_) (fun cdv A outer s H vs Q E hr h => ?_)
  · obtain ⟨v, t, b, rfl, _⟩ := h
    rfl
  · obtain ⟨v, t, b, rfl, hv, bt, k⟩ := h
    refine ⟨_, (pss_cons (ps_if (pt_val (pe_callB (call_isiK' (K := K) rfl) (by rfl) T.b_isinstance (by decide +kernel) (pa_cons (pv 0) (pa_cons (pe_glob (v := .ref a.c_Amount) rfl T.mA rfl) pa_nil)))) (pss_one (ps_ret (pv 0))) pss_nil)
 (pss_cons (ps_if (pt_val (pe_call (ok_is_integer T) (hr.mono (by decide)) (by rfl) T.m_is_integer T.F_is_integer.kp (b_is_integer T) .nil pass0 (pa_cons (pv 0) pa_nil))) (pss_one (ps_ret (pe_make T.mkA (ok_Amount_init_ T) (hr.mono (by decide)) (by rfl) T.mA (b1_Amount_init_ T).choose_spec.2 (b1_Amount_init_ T).choose_spec.1 pass0 (pa_cons (pv 0) pa_nil)))) pss_nil)
 (pss_one ps_never))), ?_⟩
    rcases id hv with ⟨rfl, rfl⟩ | ⟨q, rfl, dx, hq⟩
    · refine ⟨_, rfl, _, _, _, _, false, rfl, .own _, .base (.int _), T.I.kInt, false, rfl, iteF ?_⟩
      refine ⟨_, rfl, _, t, 1, rfl, hv, fun _ => ⟨true, rfl, iteT ?_⟩, fun ⟨_, e⟩ => nomatch e⟩
      refine ⟨_, rfl, fun x dx hx hdx ne => ⟨x, dx, t, 1, rfl, by decide, bt, bd_one, upd_same, fun H' kp e => ⟨rfl, ?_⟩⟩⟩
      rw [rdT_one, rdB_one] at e
      obtain ⟨s, m⟩ := made_am hx hdx ne kp e
      exact k _ _ s m
    · refine ⟨_, rfl, _, _, _, _, true, rfl, .own _, .base (T.I.ty T.cl hq), Inst.kSelf, true, rfl, iteT ?_⟩
      exact ⟨_, rfl, k _ _ (Same.refl _) ⟨dx, hq⟩⟩
theorem ok_Amount_eq_ (T : Txt K mg a) : FnOk P w K mg base CX0 1 a.f_Amount_eq_ a.d_Amount_eq_ ["self", "other"] (sp_eqA a.c_Amount) := by
  refine T.F_Amount_eq_.ok sc_Amount_eq_ (fun vs H Q E h => ?_) (fun cdv A outer s H vs Q E hr h => ?_)
  · obtain ⟨p, q, x, y, rfl, _⟩ := h
    rfl
  · obtain ⟨p, q, x, y, rfl, ⟨dx, hp⟩, ⟨dy, hq⟩, k⟩ := h
    refine ⟨_, (pss_one (ps_ret (pe_and (pe_callB (call_isiK' (K := K) rfl) (by rfl) T.b_isinstance (by decide +kernel) (pa_cons (pv 1) (pa_cons (pe_glob (v := .ref a.c_Amount) rfl T.mA rfl) pa_nil))) (pe_and (pe_cmpR op_eq (pe_fldK (K := K) rfl (pv 0) rfl) (pe_fldK (K := K) rfl (pv 1) rfl) (nomark _)) (pe_one (pe_cmpR op_eq (pe_fldK (K := K) rfl (pv 0) rfl) (pe_fldK (K := K) rfl (pv 1) rfl) (nomark _))))))), ?_⟩
    refine ⟨_, rfl, _, _, _, _, true, rfl, .own _, .base (T.I.ty T.cl hq), Inst.kSelf, true, rfl, iteT ?_⟩
    refine ⟨_, rfl, p, _, dx, _, _, rfl, hp, T.cl, T.nT, am_top _ _, _, rfl, q, _, dy, _, _, rfl, hq, T.cl, T.nT, am_top _ _, rfl, _, rfl, ?_⟩
    rw [show decide (V.int x.1 = V.int y.1) = decide (x.1 = y.1) by simp]
    refine ite2 (fun h1 => ?_) (fun h1 => ?_)
    · refine ⟨_, rfl, p, _, dx, _, _, rfl, hp, T.cl, T.nB, am_bot _ _, _, rfl, q, _, dy, _, _, rfl, hq, T.cl, T.nB, am_bot _ _, rfl, ?_⟩
      have h1 : x.1 = y.1 := of_decide_eq_true h1
      rw [show decide (V.int x.2 = V.int y.2) = decide (x = y) from decide_eq_decide.mpr ⟨fun e => by injection e with e; exact Prod.ext h1 e, fun e => by rw [e]⟩]
      exact k
    · have h1 : ¬ x.1 = y.1 := fun e => h1 (decide_eq_true e)
      rw [decide_eq_false fun e => h1 (by rw [e])] at k
      exact k
end
end K10

set_option Elab.async false
set_option linter.all false
set_option maxRecDepth 100000
set_option maxHeartbeats 4000000
namespace K10
open PySem L2 Lb
def sp_pot (K : PySem.W.Frag) : Sp := fun vs H Q _ => ∃ (sc : Addr) (ns : List Int) (k : Nat), vs = [.ref sc, .int k] ∧ SqL K H sc (ns.map V.int) ∧ ns.length ≤ 63 ∧ k ≤ 1000 ∧
  ∀ H' p, Same H H' → H p = none → PotAt H' p → Q (.ref p) H'
def sp_draw : Sp := fun vs H Q _ => ∃ (p : Addr) (n : Int), vs = [.ref p, .int n] ∧ PotAt H p ∧ 0 < n ∧ Bd 200 n ∧
  ∀ H' d, Mov p H H' → 0 ≤ d → d < n → Q (.int d) H'
def sp_choice (K : PySem.W.Frag) : Sp := fun vs H Q _ => ∃ (p l : Addr) (xs : List V), vs = [.ref p, .ref l] ∧ PotAt H p ∧ SqL K H l xs ∧ l ≠ p ∧ 0 < xs.length ∧ xs.length ≤ 1000 ∧
  ∀ H' (i : Nat) v, Mov p H H' → xs[i]? = some v → Q v H'
section
variable {P : Program} {w : World} {K : PySem.W.Frag} {mg : Str → Option Value} {base : Heap} {a : Ad}
theorem ok_pot (T : Txt K mg a) : FnOk P w K mg base CX0 1 a.f_pot a.d_pot ["_law_script", "_law_k"] (sp_pot K) := by
  refine T.F_pot.ok sc_pot (fun vs H Q E h => ?_) (fun cdv A outer s H vs Q E hr h => ?_)
  · obtain ⟨sc, ns, k, rfl, _⟩ := h
    rfl
  · obtain ⟨sc, ns, k, rfl, hS, hlen, hk, q⟩ := h
    have fin : ∀ c : Int, 0 ≤ c → ∀ p, H p = none → Q (.ref p) (upd H p (.lst [.int (if c - 10 ^ (18 : Int).toNat > 0 then c - 10 ^ (18 : Int).toNat else 0), .int ((c % 2147483563 * 40693 + 6151 * (k : Int) + 29) % 2147483629 + 1)])) := by
      intro c hc p hp
      refine q _ p (Lb.Same.upd hp) hp ⟨_, _, upd_same, ?_, ?_, ?_⟩
      · split <;> omega
      · omega
      · omega
    refine ⟨_, (pss_cons (ps_set (i := 2) sc_pot.nd rfl (by first | exact Or.inl rfl | exact Or.inr rfl) (pe_op op_add (pe_op op_mulX pe_int (pv 1)) pe_int))
 (pss_cons (ps_if (pt_cmpR op_lt (pv 1) (pe_callB (call_lenK (K := K) rfl) (by rfl) T.b_len (by decide +kernel) (pa_cons (pv 0) pa_nil)) (nomark _)) (pss_one (ps_set (i := 2) sc_pot.nd rfl (by first | exact Or.inl rfl | exact Or.inr rfl) (pe_callB call_abs (by rfl) T.b_abs (by decide +kernel) (pa_cons (pe_ix (ix_listK (K := K) rfl) (pv 0) (pv 1) (fun _ _ => rfl)) pa_nil)))) pss_nil)
 (pss_one (ps_ret (pe_lst (pa_cons (pe_callB (call_max2 rfl) (by rfl) T.b_max (by decide +kernel) (pa_cons pe_int (pa_cons (pe_op op_sub (pv 2) (pe_op op_pow pe_int pe_int)) pa_nil))) (pa_cons (pe_op op_add (pe_op op_mod (pe_callTy call_int1 (by rfl) T.b_int (by decide +kernel) (pa_cons (pe_op op_add (pe_op op_add (pe_op op_mulX (pe_op op_mod (pe_callTy call_int1 (by rfl) T.b_int (by decide +kernel) (pa_cons (pv 2) pa_nil)) pe_int) pe_int) (pe_op op_mulX pe_int (pv 1))) pe_int) pa_nil)) pe_int) pe_int) pa_nil))))))), ?_⟩
    refine ⟨_, rfl, _, _, rfl, rfl, mulx_ok (a := 100) (b := 100) (by decide) (by omega) (by decide), _, _, rfl, rfl, ?_⟩
    -- if k < len(script)
    refine ⟨_, rfl, _, rfl, _, _, rfl, .inl hS, _, _, rfl, rfl, _, rfl, ?_⟩
    rw [List.length_map]
    refine ite2 (fun hlt => ?_) (fun _ => ?_)
    · have hlt' : k < ns.length := by simpa using hlt
      have hget : (ns.map V.int)[k]? = some (V.int ns[k]) := by simp [hlt']
      refine ⟨_, rfl, _, rfl, _, _, _, _, rfl, rfl, hS, atI_nat hget, _, rfl, ?_⟩
      refine ⟨_, rfl, _, _, rfl, rfl, ⟨by decide, by decide, by decide⟩, _, _, rfl, rfl, _, _, rfl, ?_⟩
      refine ⟨_, rfl, .inl ⟨_, rfl, _, _, rfl, rfl, (by show (0 : Int) < _; decide), _, _, rfl, rfl, mulx_ok (a := 100) (b := 100) (by omega) (by decide) (by decide), ?_⟩⟩
      refine ⟨_, rfl, _, _, rfl, rfl, mulx_ok (a := 100) (b := 100) (by decide) (by omega) (by decide), _, _, rfl, rfl, _, _, rfl, rfl, ?_⟩
      refine .inl ⟨_, rfl, _, _, rfl, rfl, (by show (0 : Int) < _; decide), _, _, rfl, rfl, sz, fun p hp => ?_⟩
      exact fin _ (by split <;> omega) p hp
    · refine ⟨_, rfl, _, _, rfl, rfl, ⟨by decide, by decide, by decide⟩, _, _, rfl, rfl, _, _, rfl, ?_⟩
      refine ⟨_, rfl, .inl ⟨_, rfl, _, _, rfl, rfl, (by show (0 : Int) < _; decide), _, _, rfl, rfl, mulx_ok (a := 100) (b := 100) (by omega) (by decide) (by decide), ?_⟩⟩
      refine ⟨_, rfl, _, _, rfl, rfl, mulx_ok (a := 100) (b := 100) (by decide) (by omega) (by decide), _, _, rfl, rfl, _, _, rfl, rfl, ?_⟩
      refine .inl ⟨_, rfl, _, _, rfl, rfl, (by show (0 : Int) < _; decide), _, _, rfl, rfl, sz, fun p hp => ?_⟩
      exact fin _ (by omega) p hp

theorem ok_draw (T : Txt K mg a) : FnOk P w K mg base CX0 1 a.f_draw a.d_draw ["_law_pot_here", "_law_size"] sp_draw := by
  refine T.F_draw.ok sc_draw (fun vs H Q E h => ?_) (fun cdv A outer s H vs Q E hr h => ?_)
  · obtain ⟨p, n, rfl, _⟩ := h
    rfl
  · obtain ⟨p, n, rfl, ⟨x, y, hp, hx, hy0, hy1⟩, hn, hb, q⟩ := h
    have S := SqL.of (K := K) hp
    have e0 : atI ([.int x, .int y] : List V) ((0 : Nat) : Int) = some (.int x) := atI_nat rfl
    have e1 : atI ([.int x, .int y] : List V) ((1 : Nat) : Int) = some (.int y) := atI_nat rfl
    refine ⟨_, (pss_cons (ps_if (pt_cmpR op_gt (pe_ix (ix_listK (K := K) rfl) (pv 0) pe_int (fun _ _ => rfl)) pe_int (nomark _)) (pss_cons (ps_asg (pe_callB call_divmodW (by rfl) T.b_divmod (by decide +kernel) (pa_cons (pe_ix (ix_listK (K := K) rfl) (pv 0) pe_int (fun _ _ => rfl)) (pa_cons (pv 1) pa_nil))) (pg_tupK (K := K) (n := 2) rfl rfl (pgs_cons (pg_sub (pv 0) pe_int set_list) (pgs_cons (pg_name (i := 2) sc_draw.nd rfl (by first | exact Or.inl rfl | exact Or.inr rfl)) pgs_nil))))
 (pss_one (ps_ret (pv 2)))) pss_nil)
 (pss_cons (ps_asg (pe_op op_mod (pe_callTy call_int1 (by rfl) T.b_int (by decide +kernel) (pa_cons (pe_op op_add (pe_op op_mulX (pe_ix (ix_listK (K := K) rfl) (pv 0) pe_int (fun _ _ => rfl)) pe_int) pe_int) pa_nil)) pe_int) (pg_sub (pv 0) pe_int set_list))
 (pss_one (ps_ret (pe_op op_mod (pe_callTy call_int1 (by rfl) T.b_int (by decide +kernel) (pa_cons (pe_op op_fdivW (pe_op op_mod (pe_callTy call_int1 (by rfl) T.b_int (by decide +kernel) (pa_cons (pe_op op_mulX (pe_ix (ix_listK (K := K) rfl) (pv 0) pe_int (fun _ _ => rfl)) (pe_ix (ix_listK (K := K) rfl) (pv 0) pe_int (fun _ _ => rfl))) pa_nil)) pe_int) pe_int) pa_nil)) (pv 1)))))), ?_⟩
    refine ⟨_, rfl, _, _, _, _, rfl, rfl, S, e0, _, _, rfl, rfl, _, rfl, ?_⟩
    refine ite2 (fun hlt => ?_) (fun _ => ?_)
    · have hlt : 0 < x := by simpa using hlt
      refine ⟨_, rfl, _, _, _, _, rfl, rfl, S, e0, _, rfl, _, _, rfl, divp_small hn (hb.mono (by decide)), fun t ht => ?_⟩
      have npt : p ≠ t := ne_of_none hp ht
      refine ⟨_, _, rfl, SqT.of upd_same, rfl, ?_⟩
      have hp2 : upd H t (.tup [.int (x / n), .int (x % n)]) p = some (.lst [.int x, .int y]) := by rw [upd_ne npt]; exact hp
      refine ⟨_, _, rfl, ⟨_, rfl, _, _, _, 0, rfl, rfl, hp2, rfl, _, _, rfl, ⟨rfl, ?_⟩⟩⟩
      refine ⟨_, rfl, ?_⟩
      refine q _ _ ⟨fun b o nb e => ?_, _, _, upd_same, Int.ediv_nonneg hx (by omega), hy0, hy1⟩ (Int.emod_nonneg _ (by omega)) (Int.emod_lt_of_pos _ hn)
      rw [upd_ne nb, upd_ne (ne_of_none e ht)]
      exact e
    · refine ⟨_, rfl, _, _, _, _, rfl, rfl, S, e1, _, _, rfl, rfl, mulx_ok (a := 100) (b := 100) (by omega) (by decide) (by decide), _, _, rfl, rfl, .inl ⟨_, rfl, _, _, rfl, rfl, (by show (0 : Int) < _; decide), ?_⟩⟩
      refine ⟨_, rfl, _, _, _, 1, rfl, rfl, hp, rfl, ?_⟩
      have e2 : ∀ z : Int, atI ([.int x, .int z] : List V) ((1 : Nat) : Int) = some (.int z) := fun z => atI_nat rfl
      have S2 : ∀ z : Int, SqL K (upd H p (.lst ([V.int x, V.int y].set 1 (.int z)))) p [.int x, .int z] := fun z => SqL.of upd_same
      refine ⟨_, rfl, _, _, _, _, rfl, rfl, S2 _, e2 _, _, rfl, _, _, _, _, rfl, rfl, S2 _, e2 _, _, _, rfl, rfl, mulx_ok (a := 100) (b := 100) (by omega) (by omega) (by decide), ?_⟩
      refine .inl ⟨_, rfl, _, _, rfl, rfl, (by show (0 : Int) < _; decide), _, _, rfl, rfl, ⟨(by show (0 : Int) < _; decide), (by decide)⟩, .inl ⟨_, rfl, _, rfl, _, _, rfl, rfl, hn, ?_⟩⟩
      refine q _ _ ⟨fun b o nb e => ?_, _, _, upd_same, hx, by omega, by omega⟩ (Int.emod_nonneg _ (by omega)) (Int.emod_lt_of_pos _ hn)
      rw [upd_ne nb]
      exact e
theorem ok_choice (T : Txt K mg a) : FnOk P w K mg base CX0 2 a.f_choice a.d_choice ["_law_pot_here", "_law_some"] (sp_choice K) := by
  refine T.F_choice.ok sc_choice (fun vs H Q E h => ?_) (fun cdv A outer s H vs Q E hr h => ?_)
  · obtain ⟨p, l, xs, rfl, _⟩ := h
    rfl
  · obtain ⟨p, l, xs, rfl, hp, hS, hne, h0, h1, q⟩ := h
    refine ⟨_, (pss_one (ps_ret (pe_ix (ix_listK (K := K) rfl) (pv 1) (pe_call (ok_draw T) (hr.mono (by decide)) (by rfl) T.m_draw T.F_draw.kp (b_draw T) .nil pass0 (pa_cons (pv 0) (pa_cons (pe_callB (call_lenK (K := K) rfl) (by rfl) T.b_len (by decide +kernel) (pa_cons (pv 1) pa_nil)) pa_nil))) (fun _ _ => rfl)))), ?_⟩
    refine ⟨_, rfl, _, rfl, _, rfl, _, _, rfl, .inl hS, ?_⟩
    refine ⟨p, _, rfl, hp, by omega, by unfold Bd; omega, fun H' d m d0 d1 => ?_⟩
    have hi : d.toNat < xs.length := by omega
    have e : atI xs d = some xs[d.toNat] := by
      have := atI_nat (xs := xs) (j := d.toNat) (List.getElem?_eq_getElem hi)
      rwa [Int.toNat_of_nonneg d0] at this
    exact ⟨_, _, _, _, rfl, rfl, SqL.mov m hne hS, e, q _ _ _ m (List.getElem?_eq_getElem hi)⟩
end
end K10

set_option Elab.async false
set_option linter.all false
set_option maxRecDepth 100000
set_option maxHeartbeats 4000000
namespace K10
open PySem L2 Lb
/-- __init__(self): pass -/
def sp_err0 (C : Addr) : Sp := fun vs H Q _ => ∃ (q : Addr), vs = [.ref q] ∧ Q .non H
/-- __init__(self, what, limit) -/
def sp_err2 (C : Addr) (f g : Str) : Sp := fun vs H Q _ => ∃ (q : Addr) (y z : V), vs = [.ref q, y, z] ∧ H q = some (exo q C none) ∧
  ∀ dx, H dx = none → dx ≠ q → Q .non (upd (upd (upd H dx (exd dx [(f, y)])) q (exo q C (some dx))) dx (exd dx [(g, z), (f, y)]))
section
variable {P : Program} {w : World} {K : PySem.W.Frag} {mg : Str → Option Value} {base : Heap} {a : Ad}
theorem ok_InvalidInteger_init_ (T : Txt K mg a) : FnOk P w K mg base CX0 1 a.f_InvalidInteger_init_ a.d_InvalidInteger_init_ ["self", "value"] (sp_errI K a.c_InvalidInteger "value") := by
  refine T.F_InvalidInteger_init_.ok sc_InvalidInteger_init_ (fun vs H Q E h => ?_) (fun cdv A outer s H vs Q E hr h => ?_)
  · obtain ⟨q, y, rfl, _⟩ := h
    rfl
  · obtain ⟨q, y, rfl, hq, k⟩ := h
    refine ⟨_, (pss_one (ps_ostF (pv 0) (pv 1))), ?_⟩
    exact ⟨_, rfl, _, rfl, q, a.c_InvalidInteger, rfl, T.xInvalidInteger.ox, T.nInvalidInteger, .inl ⟨hq, fun dx hdx ne => k dx hdx ne⟩⟩
theorem kb_InvalidInteger_init_ (T : Txt K mg a) : KBn K a.d_InvalidInteger_init_ ["self", "value"] 1 ["value"] (fun us ws => us ++ ws) (fun vs zs => vs ++ zs) :=
  kbn_of T.F_InvalidInteger_init_ fun _ _ _ _ _ _ us ws h1 h2 => match us, ws, h1, h2 with | [_], [_], _, _ => rfl
theorem ok_InvalidAmount_init_ (T : Txt K mg a) : FnOk P w K mg base CX0 1 a.f_InvalidAmount_init_ a.d_InvalidAmount_init_ ["self", "value"] (sp_errI K a.c_InvalidAmount "value") := by
  refine T.F_InvalidAmount_init_.ok sc_InvalidAmount_init_ (fun vs H Q E h => ?_) (fun cdv A outer s H vs Q E hr h => ?_)
  · obtain ⟨q, y, rfl, _⟩ := h
    rfl
  · obtain ⟨q, y, rfl, hq, k⟩ := h
    refine ⟨_, (pss_one (ps_ostF (pv 0) (pv 1))), ?_⟩
    exact ⟨_, rfl, _, rfl, q, a.c_InvalidAmount, rfl, T.xInvalidAmount.ox, T.nInvalidAmount, .inl ⟨hq, fun dx hdx ne => k dx hdx ne⟩⟩
theorem kb_InvalidAmount_init_ (T : Txt K mg a) : KBn K a.d_InvalidAmount_init_ ["self", "value"] 1 ["value"] (fun us ws => us ++ ws) (fun vs zs => vs ++ zs) :=
  kbn_of T.F_InvalidAmount_init_ fun _ _ _ _ _ _ us ws h1 h2 => match us, ws, h1, h2 with | [_], [_], _, _ => rfl
theorem ok_InvalidOrder_init_ (T : Txt K mg a) : FnOk P w K mg base CX0 1 a.f_InvalidOrder_init_ a.d_InvalidOrder_init_ ["self", "value"] (sp_errI K a.c_InvalidOrder "value") := by
  refine T.F_InvalidOrder_init_.ok sc_InvalidOrder_init_ (fun vs H Q E h => ?_) (fun cdv A outer s H vs Q E hr h => ?_)
  · obtain ⟨q, y, rfl, _⟩ := h
    rfl
  · obtain ⟨q, y, rfl, hq, k⟩ := h
    refine ⟨_, (pss_one (ps_ostF (pv 0) (pv 1))), ?_⟩
    exact ⟨_, rfl, _, rfl, q, a.c_InvalidOrder, rfl, T.xInvalidOrder.ox, T.nInvalidOrder, .inl ⟨hq, fun dx hdx ne => k dx hdx ne⟩⟩
theorem kb_InvalidOrder_init_ (T : Txt K mg a) : KBn K a.d_InvalidOrder_init_ ["self", "value"] 1 ["value"] (fun us ws => us ++ ws) (fun vs zs => vs ++ zs) :=
  kbn_of T.F_InvalidOrder_init_ fun _ _ _ _ _ _ us ws h1 h2 => match us, ws, h1, h2 with | [_], [_], _, _ => rfl
theorem ok_InvalidWord_init_ (T : Txt K mg a) : FnOk P w K mg base CX0 1 a.f_InvalidWord_init_ a.d_InvalidWord_init_ ["self", "value"] (sp_errI K a.c_InvalidWord "value") := by
  refine T.F_InvalidWord_init_.ok sc_InvalidWord_init_ (fun vs H Q E h => ?_) (fun cdv A outer s H vs Q E hr h => ?_)
  · obtain ⟨q, y, rfl, _⟩ := h
    rfl
  · obtain ⟨q, y, rfl, hq, k⟩ := h
    refine ⟨_, (pss_one (ps_ostF (pv 0) (pv 1))), ?_⟩
    exact ⟨_, rfl, _, rfl, q, a.c_InvalidWord, rfl, T.xInvalidWord.ox, T.nInvalidWord, .inl ⟨hq, fun dx hdx ne => k dx hdx ne⟩⟩
theorem kb_InvalidWord_init_ (T : Txt K mg a) : KBn K a.d_InvalidWord_init_ ["self", "value"] 1 ["value"] (fun us ws => us ++ ws) (fun vs zs => vs ++ zs) :=
  kbn_of T.F_InvalidWord_init_ fun _ _ _ _ _ _ us ws h1 h2 => match us, ws, h1, h2 with | [_], [_], _, _ => rfl
theorem ok_InvalidPlace_init_ (T : Txt K mg a) : FnOk P w K mg base CX0 1 a.f_InvalidPlace_init_ a.d_InvalidPlace_init_ ["self", "value"] (sp_errI K a.c_InvalidPlace "value") := by
  refine T.F_InvalidPlace_init_.ok sc_InvalidPlace_init_ (fun vs H Q E h => ?_) (fun cdv A outer s H vs Q E hr h => ?_)
  · obtain ⟨q, y, rfl, _⟩ := h
    rfl
  · obtain ⟨q, y, rfl, hq, k⟩ := h
    refine ⟨_, (pss_one (ps_ostF (pv 0) (pv 1))), ?_⟩
    exact ⟨_, rfl, _, rfl, q, a.c_InvalidPlace, rfl, T.xInvalidPlace.ox, T.nInvalidPlace, .inl ⟨hq, fun dx hdx ne => k dx hdx ne⟩⟩
theorem kb_InvalidPlace_init_ (T : Txt K mg a) : KBn K a.d_InvalidPlace_init_ ["self", "value"] 1 ["value"] (fun us ws => us ++ ws) (fun vs zs => vs ++ zs) :=
  kbn_of T.F_InvalidPlace_init_ fun _ _ _ _ _ _ us ws h1 h2 => match us, ws, h1, h2 with | [_], [_], _, _ => rfl
theorem ok_InvalidClaim_init_ (T : Txt K mg a) : FnOk P w K mg base CX0 1 a.f_InvalidClaim_init_ a.d_InvalidClaim_init_ ["self", "value"] (sp_errI K a.c_InvalidClaim "value") := by
  refine T.F_InvalidClaim_init_.ok sc_InvalidClaim_init_ (fun vs H Q E h => ?_) (fun cdv A outer s H vs Q E hr h => ?_)
  · obtain ⟨q, y, rfl, _⟩ := h
    rfl
  · obtain ⟨q, y, rfl, hq, k⟩ := h
    refine ⟨_, (pss_one (ps_ostF (pv 0) (pv 1))), ?_⟩
    exact ⟨_, rfl, _, rfl, q, a.c_InvalidClaim, rfl, T.xInvalidClaim.ox, T.nInvalidClaim, .inl ⟨hq, fun dx hdx ne => k dx hdx ne⟩⟩
theorem kb_InvalidClaim_init_ (T : Txt K mg a) : KBn K a.d_InvalidClaim_init_ ["self", "value"] 1 ["value"] (fun us ws => us ++ ws) (fun vs zs => vs ++ zs) :=
  kbn_of T.F_InvalidClaim_init_ fun _ _ _ _ _ _ us ws h1 h2 => match us, ws, h1, h2 with | [_], [_], _, _ => rfl
theorem ok_InvalidLine_init_ (T : Txt K mg a) : FnOk P w K mg base CX0 1 a.f_InvalidLine_init_ a.d_InvalidLine_init_ ["self", "value"] (sp_errI K a.c_InvalidLine "value") := by
  refine T.F_InvalidLine_init_.ok sc_InvalidLine_init_ (fun vs H Q E h => ?_) (fun cdv A outer s H vs Q E hr h => ?_)
  · obtain ⟨q, y, rfl, _⟩ := h
    rfl
  · obtain ⟨q, y, rfl, hq, k⟩ := h
    refine ⟨_, (pss_one (ps_ostF (pv 0) (pv 1))), ?_⟩
    exact ⟨_, rfl, _, rfl, q, a.c_InvalidLine, rfl, T.xInvalidLine.ox, T.nInvalidLine, .inl ⟨hq, fun dx hdx ne => k dx hdx ne⟩⟩
theorem kb_InvalidLine_init_ (T : Txt K mg a) : KBn K a.d_InvalidLine_init_ ["self", "value"] 1 ["value"] (fun us ws => us ++ ws) (fun vs zs => vs ++ zs) :=
  kbn_of T.F_InvalidLine_init_ fun _ _ _ _ _ _ us ws h1 h2 => match us, ws, h1, h2 with | [_], [_], _, _ => rfl
theorem ok_UnknownPipe_init_ (T : Txt K mg a) : FnOk P w K mg base CX0 1 a.f_UnknownPipe_init_ a.d_UnknownPipe_init_ ["self", "value"] (sp_errI K a.c_UnknownPipe "value") := by
  refine T.F_UnknownPipe_init_.ok sc_UnknownPipe_init_ (fun vs H Q E h => ?_) (fun cdv A outer s H vs Q E hr h => ?_)
  · obtain ⟨q, y, rfl, _⟩ := h
    rfl
  · obtain ⟨q, y, rfl, hq, k⟩ := h
    refine ⟨_, (pss_one (ps_ostF (pv 0) (pv 1))), ?_⟩
    exact ⟨_, rfl, _, rfl, q, a.c_UnknownPipe, rfl, T.xUnknownPipe.ox, T.nUnknownPipe, .inl ⟨hq, fun dx hdx ne => k dx hdx ne⟩⟩
theorem kb_UnknownPipe_init_ (T : Txt K mg a) : KBn K a.d_UnknownPipe_init_ ["self", "value"] 1 ["value"] (fun us ws => us ++ ws) (fun vs zs => vs ++ zs) :=
  kbn_of T.F_UnknownPipe_init_ fun _ _ _ _ _ _ us ws h1 h2 => match us, ws, h1, h2 with | [_], [_], _, _ => rfl
theorem ok_UnknownNode_init_ (T : Txt K mg a) : FnOk P w K mg base CX0 1 a.f_UnknownNode_init_ a.d_UnknownNode_init_ ["self", "value"] (sp_errI K a.c_UnknownNode "value") := by
  refine T.F_UnknownNode_init_.ok sc_UnknownNode_init_ (fun vs H Q E h => ?_) (fun cdv A outer s H vs Q E hr h => ?_)
  · obtain ⟨q, y, rfl, _⟩ := h
    rfl
  · obtain ⟨q, y, rfl, hq, k⟩ := h
    refine ⟨_, (pss_one (ps_ostF (pv 0) (pv 1))), ?_⟩
    exact ⟨_, rfl, _, rfl, q, a.c_UnknownNode, rfl, T.xUnknownNode.ox, T.nUnknownNode, .inl ⟨hq, fun dx hdx ne => k dx hdx ne⟩⟩
theorem kb_UnknownNode_init_ (T : Txt K mg a) : KBn K a.d_UnknownNode_init_ ["self", "value"] 1 ["value"] (fun us ws => us ++ ws) (fun vs zs => vs ++ zs) :=
  kbn_of T.F_UnknownNode_init_ fun _ _ _ _ _ _ us ws h1 h2 => match us, ws, h1, h2 with | [_], [_], _, _ => rfl
theorem ok_UnknownPole_init_ (T : Txt K mg a) : FnOk P w K mg base CX0 1 a.f_UnknownPole_init_ a.d_UnknownPole_init_ ["self", "value"] (sp_errI K a.c_UnknownPole "value") := by
  refine T.F_UnknownPole_init_.ok sc_UnknownPole_init_ (fun vs H Q E h => ?_) (fun cdv A outer s H vs Q E hr h => ?_)
  · obtain ⟨q, y, rfl, _⟩ := h
    rfl
  · obtain ⟨q, y, rfl, hq, k⟩ := h
    refine ⟨_, (pss_one (ps_ostF (pv 0) (pv 1))), ?_⟩
    exact ⟨_, rfl, _, rfl, q, a.c_UnknownPole, rfl, T.xUnknownPole.ox, T.nUnknownPole, .inl ⟨hq, fun dx hdx ne => k dx hdx ne⟩⟩
theorem kb_UnknownPole_init_ (T : Txt K mg a) : KBn K a.d_UnknownPole_init_ ["self", "value"] 1 ["value"] (fun us ws => us ++ ws) (fun vs zs => vs ++ zs) :=
  kbn_of T.F_UnknownPole_init_ fun _ _ _ _ _ _ us ws h1 h2 => match us, ws, h1, h2 with | [_], [_], _, _ => rfl
theorem ok_UnknownKind_init_ (T : Txt K mg a) : FnOk P w K mg base CX0 1 a.f_UnknownKind_init_ a.d_UnknownKind_init_ ["self", "value"] (sp_errI K a.c_UnknownKind "value") := by
  refine T.F_UnknownKind_init_.ok sc_UnknownKind_init_ (fun vs H Q E h => ?_) (fun cdv A outer s H vs Q E hr h => ?_)
  · obtain ⟨q, y, rfl, _⟩ := h
    rfl
  · obtain ⟨q, y, rfl, hq, k⟩ := h
    refine ⟨_, (pss_one (ps_ostF (pv 0) (pv 1))), ?_⟩
    exact ⟨_, rfl, _, rfl, q, a.c_UnknownKind, rfl, T.xUnknownKind.ox, T.nUnknownKind, .inl ⟨hq, fun dx hdx ne => k dx hdx ne⟩⟩
theorem kb_UnknownKind_init_ (T : Txt K mg a) : KBn K a.d_UnknownKind_init_ ["self", "value"] 1 ["value"] (fun us ws => us ++ ws) (fun vs zs => vs ++ zs) :=
  kbn_of T.F_UnknownKind_init_ fun _ _ _ _ _ _ us ws h1 h2 => match us, ws, h1, h2 with | [_], [_], _, _ => rfl
theorem ok_UnknownReading_init_ (T : Txt K mg a) : FnOk P w K mg base CX0 1 a.f_UnknownReading_init_ a.d_UnknownReading_init_ ["self", "value"] (sp_errI K a.c_UnknownReading "value") := by
  refine T.F_UnknownReading_init_.ok sc_UnknownReading_init_ (fun vs H Q E h => ?_) (fun cdv A outer s H vs Q E hr h => ?_)
  · obtain ⟨q, y, rfl, _⟩ := h
    rfl
  · obtain ⟨q, y, rfl, hq, k⟩ := h
    refine ⟨_, (pss_one (ps_ostF (pv 0) (pv 1))), ?_⟩
    exact ⟨_, rfl, _, rfl, q, a.c_UnknownReading, rfl, T.xUnknownReading.ox, T.nUnknownReading, .inl ⟨hq, fun dx hdx ne => k dx hdx ne⟩⟩
theorem kb_UnknownReading_init_ (T : Txt K mg a) : KBn K a.d_UnknownReading_init_ ["self", "value"] 1 ["value"] (fun us ws => us ++ ws) (fun vs zs => vs ++ zs) :=
  kbn_of T.F_UnknownReading_init_ fun _ _ _ _ _ _ us ws h1 h2 => match us, ws, h1, h2 with | [_], [_], _, _ => rfl
theorem ok_NotSure_init_ (T : Txt K mg a) : FnOk P w K mg base CX0 1 a.f_NotSure_init_ a.d_NotSure_init_ ["self", "value"] (sp_errI K a.c_NotSure "value") := by
  refine T.F_NotSure_init_.ok sc_NotSure_init_ (fun vs H Q E h => ?_) (fun cdv A outer s H vs Q E hr h => ?_)
  · obtain ⟨q, y, rfl, _⟩ := h
    rfl
  · obtain ⟨q, y, rfl, hq, k⟩ := h
    refine ⟨_, (pss_one (ps_ostF (pv 0) (pv 1))), ?_⟩
    exact ⟨_, rfl, _, rfl, q, a.c_NotSure, rfl, T.xNotSure.ox, T.nNotSure, .inl ⟨hq, fun dx hdx ne => k dx hdx ne⟩⟩
theorem kb_NotSure_init_ (T : Txt K mg a) : KBn K a.d_NotSure_init_ ["self", "value"] 1 ["value"] (fun us ws => us ++ ws) (fun vs zs => vs ++ zs) :=
  kbn_of T.F_NotSure_init_ fun _ _ _ _ _ _ us ws h1 h2 => match us, ws, h1, h2 with | [_], [_], _, _ => rfl
theorem ok_InvalidPoints_init_ (T : Txt K mg a) : FnOk P w K mg base CX0 1 a.f_InvalidPoints_init_ a.d_InvalidPoints_init_ ["self", "position"] (sp_errI K a.c_InvalidPoints "position") := by
  refine T.F_InvalidPoints_init_.ok sc_InvalidPoints_init_ (fun vs H Q E h => ?_) (fun cdv A outer s H vs Q E hr h => ?_)
  · obtain ⟨q, y, rfl, _⟩ := h
    rfl
  · obtain ⟨q, y, rfl, hq, k⟩ := h
    refine ⟨_, (pss_one (ps_ostF (pv 0) (pv 1))), ?_⟩
    exact ⟨_, rfl, _, rfl, q, a.c_InvalidPoints, rfl, T.xInvalidPoints.ox, T.nInvalidPoints, .inl ⟨hq, fun dx hdx ne => k dx hdx ne⟩⟩
theorem kb_InvalidPoints_init_ (T : Txt K mg a) : KBn K a.d_InvalidPoints_init_ ["self", "position"] 1 ["position"] (fun us ws => us ++ ws) (fun vs zs => vs ++ zs) :=
  kbn_of T.F_InvalidPoints_init_ fun _ _ _ _ _ _ us ws h1 h2 => match us, ws, h1, h2 with | [_], [_], _, _ => rfl
theorem ok_InvalidLevels_init_ (T : Txt K mg a) : FnOk P w K mg base CX0 1 a.f_InvalidLevels_init_ a.d_InvalidLevels_init_ ["self", "position"] (sp_errI K a.c_InvalidLevels "position") := by
  refine T.F_InvalidLevels_init_.ok sc_InvalidLevels_init_ (fun vs H Q E h => ?_) (fun cdv A outer s H vs Q E hr h => ?_)
  · obtain ⟨q, y, rfl, _⟩ := h
    rfl
  · obtain ⟨q, y, rfl, hq, k⟩ := h
    refine ⟨_, (pss_one (ps_ostF (pv 0) (pv 1))), ?_⟩
    exact ⟨_, rfl, _, rfl, q, a.c_InvalidLevels, rfl, T.xInvalidLevels.ox, T.nInvalidLevels, .inl ⟨hq, fun dx hdx ne => k dx hdx ne⟩⟩
theorem kb_InvalidLevels_init_ (T : Txt K mg a) : KBn K a.d_InvalidLevels_init_ ["self", "position"] 1 ["position"] (fun us ws => us ++ ws) (fun vs zs => vs ++ zs) :=
  kbn_of T.F_InvalidLevels_init_ fun _ _ _ _ _ _ us ws h1 h2 => match us, ws, h1, h2 with | [_], [_], _, _ => rfl
theorem ok_InvalidReading_init_ (T : Txt K mg a) : FnOk P w K mg base CX0 1 a.f_InvalidReading_init_ a.d_InvalidReading_init_ ["self", "position"] (sp_errI K a.c_InvalidReading "position") := by
  refine T.F_InvalidReading_init_.ok sc_InvalidReading_init_ (fun vs H Q E h => ?_) (fun cdv A outer s H vs Q E hr h => ?_)
  · obtain ⟨q, y, rfl, _⟩ := h
    rfl
  · obtain ⟨q, y, rfl, hq, k⟩ := h
    refine ⟨_, (pss_one (ps_ostF (pv 0) (pv 1))), ?_⟩
    exact ⟨_, rfl, _, rfl, q, a.c_InvalidReading, rfl, T.xInvalidReading.ox, T.nInvalidReading, .inl ⟨hq, fun dx hdx ne => k dx hdx ne⟩⟩
theorem kb_InvalidReading_init_ (T : Txt K mg a) : KBn K a.d_InvalidReading_init_ ["self", "position"] 1 ["position"] (fun us ws => us ++ ws) (fun vs zs => vs ++ zs) :=
  kbn_of T.F_InvalidReading_init_ fun _ _ _ _ _ _ us ws h1 h2 => match us, ws, h1, h2 with | [_], [_], _, _ => rfl
theorem ok_InvalidStates_init_ (T : Txt K mg a) : FnOk P w K mg base CX0 1 a.f_InvalidStates_init_ a.d_InvalidStates_init_ ["self", "position"] (sp_errI K a.c_InvalidStates "position") := by
  refine T.F_InvalidStates_init_.ok sc_InvalidStates_init_ (fun vs H Q E h => ?_) (fun cdv A outer s H vs Q E hr h => ?_)
  · obtain ⟨q, y, rfl, _⟩ := h
    rfl
  · obtain ⟨q, y, rfl, hq, k⟩ := h
    refine ⟨_, (pss_one (ps_ostF (pv 0) (pv 1))), ?_⟩
    exact ⟨_, rfl, _, rfl, q, a.c_InvalidStates, rfl, T.xInvalidStates.ox, T.nInvalidStates, .inl ⟨hq, fun dx hdx ne => k dx hdx ne⟩⟩
theorem kb_InvalidStates_init_ (T : Txt K mg a) : KBn K a.d_InvalidStates_init_ ["self", "position"] 1 ["position"] (fun us ws => us ++ ws) (fun vs zs => vs ++ zs) :=
  kbn_of T.F_InvalidStates_init_ fun _ _ _ _ _ _ us ws h1 h2 => match us, ws, h1, h2 with | [_], [_], _, _ => rfl
theorem ok_NotConnected_init_ (T : Txt K mg a) : FnOk P w K mg base CX0 1 a.f_NotConnected_init_ a.d_NotConnected_init_ ["self", "node"] (sp_errI K a.c_NotConnected "node") := by
  refine T.F_NotConnected_init_.ok sc_NotConnected_init_ (fun vs H Q E h => ?_) (fun cdv A outer s H vs Q E hr h => ?_)
  · obtain ⟨q, y, rfl, _⟩ := h
    rfl
  · obtain ⟨q, y, rfl, hq, k⟩ := h
    refine ⟨_, (pss_one (ps_ostF (pv 0) (pv 1))), ?_⟩
    exact ⟨_, rfl, _, rfl, q, a.c_NotConnected, rfl, T.xNotConnected.ox, T.nNotConnected, .inl ⟨hq, fun dx hdx ne => k dx hdx ne⟩⟩
theorem kb_NotConnected_init_ (T : Txt K mg a) : KBn K a.d_NotConnected_init_ ["self", "node"] 1 ["node"] (fun us ws => us ++ ws) (fun vs zs => vs ++ zs) :=
  kbn_of T.F_NotConnected_init_ fun _ _ _ _ _ _ us ws h1 h2 => match us, ws, h1, h2 with | [_], [_], _, _ => rfl
theorem ok_InvalidDemands_init_ (T : Txt K mg a) : FnOk P w K mg base CX0 1 a.f_InvalidDemands_init_ a.d_InvalidDemands_init_ ["self", "node"] (sp_errI K a.c_InvalidDemands "node") := by
  refine T.F_InvalidDemands_init_.ok sc_InvalidDemands_init_ (fun vs H Q E h => ?_) (fun cdv A outer s H vs Q E hr h => ?_)
  · obtain ⟨q, y, rfl, _⟩ := h
    rfl
  · obtain ⟨q, y, rfl, hq, k⟩ := h
    refine ⟨_, (pss_one (ps_ostF (pv 0) (pv 1))), ?_⟩
    exact ⟨_, rfl, _, rfl, q, a.c_InvalidDemands, rfl, T.xInvalidDemands.ox, T.nInvalidDemands, .inl ⟨hq, fun dx hdx ne => k dx hdx ne⟩⟩
theorem kb_InvalidDemands_init_ (T : Txt K mg a) : KBn K a.d_InvalidDemands_init_ ["self", "node"] 1 ["node"] (fun us ws => us ++ ws) (fun vs zs => vs ++ zs) :=
  kbn_of T.F_InvalidDemands_init_ fun _ _ _ _ _ _ us ws h1 h2 => match us, ws, h1, h2 with | [_], [_], _, _ => rfl
theorem ok_InvalidPoles_init_ (T : Txt K mg a) : FnOk P w K mg base CX0 1 a.f_InvalidPoles_init_ a.d_InvalidPoles_init_ ["self", "node"] (sp_errI K a.c_InvalidPoles "node") := by
  refine T.F_InvalidPoles_init_.ok sc_InvalidPoles_init_ (fun vs H Q E h => ?_) (fun cdv A outer s H vs Q E hr h => ?_)
  · obtain ⟨q, y, rfl, _⟩ := h
    rfl
  · obtain ⟨q, y, rfl, hq, k⟩ := h
    refine ⟨_, (pss_one (ps_ostF (pv 0) (pv 1))), ?_⟩
    exact ⟨_, rfl, _, rfl, q, a.c_InvalidPoles, rfl, T.xInvalidPoles.ox, T.nInvalidPoles, .inl ⟨hq, fun dx hdx ne => k dx hdx ne⟩⟩
theorem kb_InvalidPoles_init_ (T : Txt K mg a) : KBn K a.d_InvalidPoles_init_ ["self", "node"] 1 ["node"] (fun us ws => us ++ ws) (fun vs zs => vs ++ zs) :=
  kbn_of T.F_InvalidPoles_init_ fun _ _ _ _ _ _ us ws h1 h2 => match us, ws, h1, h2 with | [_], [_], _, _ => rfl
theorem ok_InvalidHeights_init_ (T : Txt K mg a) : FnOk P w K mg base CX0 1 a.f_InvalidHeights_init_ a.d_InvalidHeights_init_ ["self", "node"] (sp_errI K a.c_InvalidHeights "node") := by
  refine T.F_InvalidHeights_init_.ok sc_InvalidHeights_init_ (fun vs H Q E h => ?_) (fun cdv A outer s H vs Q E hr h => ?_)
  · obtain ⟨q, y, rfl, _⟩ := h
    rfl
  · obtain ⟨q, y, rfl, hq, k⟩ := h
    refine ⟨_, (pss_one (ps_ostF (pv 0) (pv 1))), ?_⟩
    exact ⟨_, rfl, _, rfl, q, a.c_InvalidHeights, rfl, T.xInvalidHeights.ox, T.nInvalidHeights, .inl ⟨hq, fun dx hdx ne => k dx hdx ne⟩⟩
theorem kb_InvalidHeights_init_ (T : Txt K mg a) : KBn K a.d_InvalidHeights_init_ ["self", "node"] 1 ["node"] (fun us ws => us ++ ws) (fun vs zs => vs ++ zs) :=
  kbn_of T.F_InvalidHeights_init_ fun _ _ _ _ _ _ us ws h1 h2 => match us, ws, h1, h2 with | [_], [_], _, _ => rfl
theorem ok_InvalidConductances_init_ (T : Txt K mg a) : FnOk P w K mg base CX0 1 a.f_InvalidConductances_init_ a.d_InvalidConductances_init_ ["self", "pipe"] (sp_errI K a.c_InvalidConductances "pipe") := by
  refine T.F_InvalidConductances_init_.ok sc_InvalidConductances_init_ (fun vs H Q E h => ?_) (fun cdv A outer s H vs Q E hr h => ?_)
  · obtain ⟨q, y, rfl, _⟩ := h
    rfl
  · obtain ⟨q, y, rfl, hq, k⟩ := h
    refine ⟨_, (pss_one (ps_ostF (pv 0) (pv 1))), ?_⟩
    exact ⟨_, rfl, _, rfl, q, a.c_InvalidConductances, rfl, T.xInvalidConductances.ox, T.nInvalidConductances, .inl ⟨hq, fun dx hdx ne => k dx hdx ne⟩⟩
theorem kb_InvalidConductances_init_ (T : Txt K mg a) : KBn K a.d_InvalidConductances_init_ ["self", "pipe"] 1 ["pipe"] (fun us ws => us ++ ws) (fun vs zs => vs ++ zs) :=
  kbn_of T.F_InvalidConductances_init_ fun _ _ _ _ _ _ us ws h1 h2 => match us, ws, h1, h2 with | [_], [_], _, _ => rfl
theorem ok_InvalidCurves_init_ (T : Txt K mg a) : FnOk P w K mg base CX0 1 a.f_InvalidCurves_init_ a.d_InvalidCurves_init_ ["self", "pipe"] (sp_errI K a.c_InvalidCurves "pipe") := by
  refine T.F_InvalidCurves_init_.ok sc_InvalidCurves_init_ (fun vs H Q E h => ?_) (fun cdv A outer s H vs Q E hr h => ?_)
  · obtain ⟨q, y, rfl, _⟩ := h
    rfl
  · obtain ⟨q, y, rfl, hq, k⟩ := h
    refine ⟨_, (pss_one (ps_ostF (pv 0) (pv 1))), ?_⟩
    exact ⟨_, rfl, _, rfl, q, a.c_InvalidCurves, rfl, T.xInvalidCurves.ox, T.nInvalidCurves, .inl ⟨hq, fun dx hdx ne => k dx hdx ne⟩⟩
theorem kb_InvalidCurves_init_ (T : Txt K mg a) : KBn K a.d_InvalidCurves_init_ ["self", "pipe"] 1 ["pipe"] (fun us ws => us ++ ws) (fun vs zs => vs ++ zs) :=
  kbn_of T.F_InvalidCurves_init_ fun _ _ _ _ _ _ us ws h1 h2 => match us, ws, h1, h2 with | [_], [_], _, _ => rfl
theorem ok_InvalidFlows_init_ (T : Txt K mg a) : FnOk P w K mg base CX0 1 a.f_InvalidFlows_init_ a.d_InvalidFlows_init_ ["self", "pipe"] (sp_errI K a.c_InvalidFlows "pipe") := by
  refine T.F_InvalidFlows_init_.ok sc_InvalidFlows_init_ (fun vs H Q E h => ?_) (fun cdv A outer s H vs Q E hr h => ?_)
  · obtain ⟨q, y, rfl, _⟩ := h
    rfl
  · obtain ⟨q, y, rfl, hq, k⟩ := h
    refine ⟨_, (pss_one (ps_ostF (pv 0) (pv 1))), ?_⟩
    exact ⟨_, rfl, _, rfl, q, a.c_InvalidFlows, rfl, T.xInvalidFlows.ox, T.nInvalidFlows, .inl ⟨hq, fun dx hdx ne => k dx hdx ne⟩⟩
theorem kb_InvalidFlows_init_ (T : Txt K mg a) : KBn K a.d_InvalidFlows_init_ ["self", "pipe"] 1 ["pipe"] (fun us ws => us ++ ws) (fun vs zs => vs ++ zs) :=
  kbn_of T.F_InvalidFlows_init_ fun _ _ _ _ _ _ us ws h1 h2 => match us, ws, h1, h2 with | [_], [_], _, _ => rfl
theorem ok_InvalidKinds_init_ (T : Txt K mg a) : FnOk P w K mg base CX0 1 a.f_InvalidKinds_init_ a.d_InvalidKinds_init_ ["self", "pipe"] (sp_errI K a.c_InvalidKinds "pipe") := by
  refine T.F_InvalidKinds_init_.ok sc_InvalidKinds_init_ (fun vs H Q E h => ?_) (fun cdv A outer s H vs Q E hr h => ?_)
  · obtain ⟨q, y, rfl, _⟩ := h
    rfl
  · obtain ⟨q, y, rfl, hq, k⟩ := h
    refine ⟨_, (pss_one (ps_ostF (pv 0) (pv 1))), ?_⟩
    exact ⟨_, rfl, _, rfl, q, a.c_InvalidKinds, rfl, T.xInvalidKinds.ox, T.nInvalidKinds, .inl ⟨hq, fun dx hdx ne => k dx hdx ne⟩⟩
theorem kb_InvalidKinds_init_ (T : Txt K mg a) : KBn K a.d_InvalidKinds_init_ ["self", "pipe"] 1 ["pipe"] (fun us ws => us ++ ws) (fun vs zs => vs ++ zs) :=
  kbn_of T.F_InvalidKinds_init_ fun _ _ _ _ _ _ us ws h1 h2 => match us, ws, h1, h2 with | [_], [_], _, _ => rfl
theorem ok_IsBridge_init_ (T : Txt K mg a) : FnOk P w K mg base CX0 1 a.f_IsBridge_init_ a.d_IsBridge_init_ ["self", "pipe"] (sp_errI K a.c_IsBridge "pipe") := by
  refine T.F_IsBridge_init_.ok sc_IsBridge_init_ (fun vs H Q E h => ?_) (fun cdv A outer s H vs Q E hr h => ?_)
  · obtain ⟨q, y, rfl, _⟩ := h
    rfl
  · obtain ⟨q, y, rfl, hq, k⟩ := h
    refine ⟨_, (pss_one (ps_ostF (pv 0) (pv 1))), ?_⟩
    exact ⟨_, rfl, _, rfl, q, a.c_IsBridge, rfl, T.xIsBridge.ox, T.nIsBridge, .inl ⟨hq, fun dx hdx ne => k dx hdx ne⟩⟩
theorem kb_IsBridge_init_ (T : Txt K mg a) : KBn K a.d_IsBridge_init_ ["self", "pipe"] 1 ["pipe"] (fun us ws => us ++ ws) (fun vs zs => vs ++ zs) :=
  kbn_of T.F_IsBridge_init_ fun _ _ _ _ _ _ us ws h1 h2 => match us, ws, h1, h2 with | [_], [_], _, _ => rfl
theorem ok_InvalidPipes_init_ (T : Txt K mg a) : FnOk P w K mg base CX0 1 a.f_InvalidPipes_init_ a.d_InvalidPipes_init_ ["self", "name"] (sp_errI K a.c_InvalidPipes "name") := by
  refine T.F_InvalidPipes_init_.ok sc_InvalidPipes_init_ (fun vs H Q E h => ?_) (fun cdv A outer s H vs Q E hr h => ?_)
  · obtain ⟨q, y, rfl, _⟩ := h
    rfl
  · obtain ⟨q, y, rfl, hq, k⟩ := h
    refine ⟨_, (pss_one (ps_ostF (pv 0) (pv 1))), ?_⟩
    exact ⟨_, rfl, _, rfl, q, a.c_InvalidPipes, rfl, T.xInvalidPipes.ox, T.nInvalidPipes, .inl ⟨hq, fun dx hdx ne => k dx hdx ne⟩⟩
theorem kb_InvalidPipes_init_ (T : Txt K mg a) : KBn K a.d_InvalidPipes_init_ ["self", "name"] 1 ["name"] (fun us ws => us ++ ws) (fun vs zs => vs ++ zs) :=
  kbn_of T.F_InvalidPipes_init_ fun _ _ _ _ _ _ us ws h1 h2 => match us, ws, h1, h2 with | [_], [_], _, _ => rfl
theorem ok_Unbalanced_init_ (T : Txt K mg a) : FnOk P w K mg base CX0 1 a.f_Unbalanced_init_ a.d_Unbalanced_init_ ["self", "total"] (sp_errI K a.c_Unbalanced "total") := by
  refine T.F_Unbalanced_init_.ok sc_Unbalanced_init_ (fun vs H Q E h => ?_) (fun cdv A outer s H vs Q E hr h => ?_)
  · obtain ⟨q, y, rfl, _⟩ := h
    rfl
  · obtain ⟨q, y, rfl, hq, k⟩ := h
    refine ⟨_, (pss_one (ps_ostF (pv 0) (pv 1))), ?_⟩
    exact ⟨_, rfl, _, rfl, q, a.c_Unbalanced, rfl, T.xUnbalanced.ox, T.nUnbalanced, .inl ⟨hq, fun dx hdx ne => k dx hdx ne⟩⟩
theorem kb_Unbalanced_init_ (T : Txt K mg a) : KBn K a.d_Unbalanced_init_ ["self", "total"] 1 ["total"] (fun us ws => us ++ ws) (fun vs zs => vs ++ zs) :=
  kbn_of T.F_Unbalanced_init_ fun _ _ _ _ _ _ us ws h1 h2 => match us, ws, h1, h2 with | [_], [_], _, _ => rfl
theorem ok_InvalidText_init_ (T : Txt K mg a) : FnOk P w K mg base CX0 1 a.f_InvalidText_init_ a.d_InvalidText_init_ ["self", "line"] (sp_errI K a.c_InvalidText "line") := by
  refine T.F_InvalidText_init_.ok sc_InvalidText_init_ (fun vs H Q E h => ?_) (fun cdv A outer s H vs Q E hr h => ?_)
  · obtain ⟨q, y, rfl, _⟩ := h
    rfl
  · obtain ⟨q, y, rfl, hq, k⟩ := h
    refine ⟨_, (pss_one (ps_ostF (pv 0) (pv 1))), ?_⟩
    exact ⟨_, rfl, _, rfl, q, a.c_InvalidText, rfl, T.xInvalidText.ox, T.nInvalidText, .inl ⟨hq, fun dx hdx ne => k dx hdx ne⟩⟩
theorem kb_InvalidText_init_ (T : Txt K mg a) : KBn K a.d_InvalidText_init_ ["self", "line"] 1 ["line"] (fun us ws => us ++ ws) (fun vs zs => vs ++ zs) :=
  kbn_of T.F_InvalidText_init_ fun _ _ _ _ _ _ us ws h1 h2 => match us, ws, h1, h2 with | [_], [_], _, _ => rfl
theorem ok_TooMany_init_ (T : Txt K mg a) : FnOk P w K mg base CX0 1 a.f_TooMany_init_ a.d_TooMany_init_ ["self", "what", "limit"] (sp_err2 a.c_TooMany "what" "limit") := by
  refine T.F_TooMany_init_.ok sc_TooMany_init_ (fun vs H Q E h => ?_) (fun cdv A outer s H vs Q E hr h => ?_)
  · obtain ⟨q, y, z, rfl, _⟩ := h
    rfl
  · obtain ⟨q, y, z, rfl, hq, k⟩ := h
    refine ⟨_, (pss_cons (ps_ostF (pv 0) (pv 1))
 (pss_one (ps_ostF (pv 0) (pv 2)))), ?_⟩
    refine ⟨_, rfl, _, rfl, q, a.c_TooMany, rfl, T.xTooMany.ox, T.nTooMany, .inl ⟨hq, fun dx hdx ne => ?_⟩⟩
    exact ⟨_, rfl, _, rfl, q, a.c_TooMany, rfl, T.xTooMany.ox, T.n2TooMany, .inr ⟨dx, _, upd_same, by rw [upd_ne ne, upd_same], (by show 1 ≤ 900; decide), k dx hdx ne⟩⟩
theorem kb_TooMany_init_ (T : Txt K mg a) : KBn K a.d_TooMany_init_ ["self", "what", "limit"] 1 ["limit", "what"] (fun us ws => us ++ ws.reverse) (fun vs zs => vs ++ zs.reverse) := by
  obtain ⟨oc, od, kV, doc, pm, an, cdv, ct, osl, e, lk, hcd⟩ := T.F_TooMany_init_.ex
  refine ⟨fun s us ws X l1 l2 => BindsTo.of_eq ?_, fun r1 r2 => r1.append (vals_rev r2)⟩
  rw [e]
  match us, ws, l1, l2 with
  | [_], [_, _], _, _ => rfl
theorem ok_Barred_init_ (T : Txt K mg a) : FnOk P w K mg base CX0 1 a.f_Barred_init_ a.d_Barred_init_ ["self"] (sp_err0 a.c_Barred) := by
  refine T.F_Barred_init_.ok sc_Barred_init_ (fun vs H Q E h => ?_) (fun cdv A outer s H vs Q E hr h => ?_)
  · obtain ⟨q, rfl, _⟩ := h
    rfl
  · obtain ⟨q, rfl, k⟩ := h
    refine ⟨_, (pss_one ps_pass), ?_⟩
    exact k
theorem ok_NothingToUndo_init_ (T : Txt K mg a) : FnOk P w K mg base CX0 1 a.f_NothingToUndo_init_ a.d_NothingToUndo_init_ ["self"] (sp_err0 a.c_NothingToUndo) := by
  refine T.F_NothingToUndo_init_.ok sc_NothingToUndo_init_ (fun vs H Q E h => ?_) (fun cdv A outer s H vs Q E hr h => ?_)
  · obtain ⟨q, rfl, _⟩ := h
    rfl
  · obtain ⟨q, rfl, k⟩ := h
    refine ⟨_, (pss_one ps_pass), ?_⟩
    exact k
end
end K10

set_option Elab.async false
set_option linter.all false
set_option maxRecDepth 100000
set_option maxHeartbeats 4000000
namespace K10
open PySem L2 Lb
/-- an error: of the class C; what it keeps, if it keeps something -/
def ErrV (H : Hp) (v : V) (c : Addr × List (Str × V)) : Prop := ErrIs H v c.1 ∧ (c.2 ≠ [] → ErrAt H v c.1 c.2)
def Errs (H : Hp) (es : List V) (cs : List (Addr × List (Str × V))) : Prop := Paired (ErrV H) es cs
theorem ErrV.same {H H' : Hp} {v : V} {c : Addr × List (Str × V)} (s : Same H H') (h : ErrV H v c) : ErrV H' v c := ⟨h.1.same s, fun n => (h.2 n).same s⟩
theorem Errs.same {H H' : Hp} {es : List V} {cs : List (Addr × List (Str × V))} (s : Same H H') (h : Errs H es cs) : Errs H' es cs := Paired.imp h fun _ _ z => z.same s
theorem errV {H : Hp} {v : V} {C : Addr} {fs : List (Str × V)} (h : ErrAt H v C fs) : ErrV H v (C, fs) := ⟨h.is, fun _ => h⟩
theorem errs_app {H : Hp} : ∀ {es es' : List V} {cs cs' : List (Addr × List (Str × V))}, Errs H es cs → Errs H es' cs' → Errs H (es ++ es') (cs ++ cs')
  | _, _, _, _, .nil, k => k
  | _, _, _, _, .cons h t, k => .cons h (errs_app t k)

theorem err_made0 {H : Hp} {q C : Addr} (hq : H q = none) : Same H (upd H q (exo q C none)) ∧ ErrV (upd H q (exo q C none)) (.ref q) (C, []) :=
  ⟨fun b o e => by rw [upd_ne (ne_of_none e hq)]; exact e, ⟨q, none, rfl, upd_same, fun _ z => nomatch z⟩, fun z => absurd rfl z⟩
theorem err_made3 {H : Hp} {q dx C : Addr} {f g : Str} {y z : V} (hq : H q = none) (hdx : (upd H q (exo q C none)) dx = none) (ne : dx ≠ q) :
    Same H (upd (upd (upd (upd H q (exo q C none)) dx (exd dx [(f, y)])) q (exo q C (some dx))) dx (exd dx [(g, z), (f, y)])) ∧ ErrAt (upd (upd (upd (upd H q (exo q C none)) dx (exd dx [(f, y)])) q (exo q C (some dx))) dx (exd dx [(g, z), (f, y)])) (.ref q) C [(g, z), (f, y)] := by
  have hd : H dx = none := by rw [upd_ne ne] at hdx; exact hdx
  refine ⟨fun b o e => ?_, q, dx, rfl, by rw [upd_ne (Ne.symm ne), upd_same], upd_same⟩
  rw [upd_ne (ne_of_none e hd), upd_ne (ne_of_none e hq), upd_ne (ne_of_none e hd), upd_ne (ne_of_none e hq)]
  exact e
theorem err_made2 {H : Hp} {q dx C : Addr} {f : Str} {y : V} (hq : H q = none) (hdx : (upd H q (exo q C none)) dx = none) (ne : dx ≠ q) :
    Same H (upd (upd (upd H q (exo q C none)) dx (exd dx [(f, y)])) q (exo q C (some dx))) ∧ ErrAt (upd (upd (upd H q (exo q C none)) dx (exd dx [(f, y)])) q (exo q C (some dx))) (.ref q) C [(f, y)] :=
  err_made (Q := fun v H' => Same H H' ∧ ErrAt H' v C [(f, y)]) hq (fun H' s e => ⟨s, e⟩) dx hdx ne
def sp_list (cs : V → List (Addr × List (Str × V))) : Sp := fun vs H Q _ => ∃ y, vs = [y] ∧ ∀ H' l es, Same H H' → H l = none → H' l = some (.lst es) → Errs H' es (cs y) → Q (.ref l) H'
def cs_with_value (a : Ad) (y : V) : List (Addr × List (Str × V)) := (((((([(a.c_InvalidInteger, [(("value" : Str), y)]), (a.c_InvalidInteger, [(("value" : Str), y)]), (a.c_InvalidAmount, [(("value" : Str), y)]), (a.c_InvalidAmount, [(("value" : Str), y)])] ++ [(a.c_InvalidOrder, [(("value" : Str), y)]), (a.c_InvalidOrder, [(("value" : Str), y)]), (a.c_InvalidWord, [(("value" : Str), y)]), (a.c_InvalidWord, [(("value" : Str), y)])]) ++ [(a.c_InvalidPlace, [(("value" : Str), y)]), (a.c_InvalidPlace, [(("value" : Str), y)]), (a.c_InvalidClaim, [(("value" : Str), y)]), (a.c_InvalidClaim, [(("value" : Str), y)])]) ++ [(a.c_InvalidLine, [(("value" : Str), y)]), (a.c_InvalidLine, [(("value" : Str), y)]), (a.c_UnknownPipe, [(("value" : Str), y)]), (a.c_UnknownPipe, [(("value" : Str), y)])]) ++ [(a.c_UnknownNode, [(("value" : Str), y)]), (a.c_UnknownNode, [(("value" : Str), y)]), (a.c_UnknownPole, [(("value" : Str), y)]), (a.c_UnknownPole, [(("value" : Str), y)])]) ++ [(a.c_UnknownKind, [(("value" : Str), y)]), (a.c_UnknownKind, [(("value" : Str), y)]), (a.c_UnknownReading, [(("value" : Str), y)]), (a.c_UnknownReading, [(("value" : Str), y)])]) ++ [(a.c_NotSure, [(("value" : Str), y)]), (a.c_NotSure, [(("value" : Str), y)])])
def cs_with_position (a : Ad) (y : V) : List (Addr × List (Str × V)) := ([(a.c_InvalidPoints, [(("position" : Str), y)]), (a.c_InvalidPoints, [(("position" : Str), y)]), (a.c_InvalidLevels, [(("position" : Str), y)]), (a.c_InvalidLevels, [(("position" : Str), y)])] ++ [(a.c_InvalidReading, [(("position" : Str), y)]), (a.c_InvalidReading, [(("position" : Str), y)]), (a.c_InvalidStates, [(("position" : Str), y)]), (a.c_InvalidStates, [(("position" : Str), y)])])
def cs_with_node (a : Ad) (y : V) : List (Addr × List (Str × V)) := ([(a.c_NotConnected, [(("node" : Str), y)]), (a.c_NotConnected, [(("node" : Str), y)]), (a.c_InvalidDemands, [(("node" : Str), y)]), (a.c_InvalidDemands, [(("node" : Str), y)])] ++ [(a.c_InvalidPoles, [(("node" : Str), y)]), (a.c_InvalidPoles, [(("node" : Str), y)]), (a.c_InvalidHeights, [(("node" : Str), y)]), (a.c_InvalidHeights, [(("node" : Str), y)])])
def cs_with_pipe (a : Ad) (y : V) : List (Addr × List (Str × V)) := (([(a.c_InvalidConductances, [(("pipe" : Str), y)]), (a.c_InvalidConductances, [(("pipe" : Str), y)]), (a.c_InvalidCurves, [(("pipe" : Str), y)]), (a.c_InvalidCurves, [(("pipe" : Str), y)])] ++ [(a.c_InvalidFlows, [(("pipe" : Str), y)]), (a.c_InvalidFlows, [(("pipe" : Str), y)]), (a.c_InvalidKinds, [(("pipe" : Str), y)]), (a.c_InvalidKinds, [(("pipe" : Str), y)])]) ++ [(a.c_IsBridge, [(("pipe" : Str), y)]), (a.c_IsBridge, [(("pipe" : Str), y)])])
section
variable {P : Program} {w : World} {K : PySem.W.Frag} {mg : Str → Option Value} {base : Heap} {a : Ad}
theorem ok_with_value (T : Txt K mg a) : FnOk P w K mg base CX0 3 a.f_with_value a.d_with_value ["_law_odd"] (sp_list (cs_with_value a)) := by
  refine T.F_with_value.ok sc_with_value (fun vs H Q E h => ?_) (fun cdv A outer s H vs Q E hr h => ?_)
  · obtain ⟨y, rfl, _⟩ := h
    rfl
  · obtain ⟨y, rfl, k⟩ := h
    refine ⟨_, (pss_cons (ps_set (i := 1) sc_with_value.nd rfl (by first | exact Or.inl rfl | exact Or.inr rfl) (pe_lst (pa_cons (pe_err (T.xInvalidInteger.ox) T.xInvalidInteger.iC T.xInvalidInteger.tI (ok_InvalidInteger_init_ T) (hr.mono (by decide)) (b_InvalidInteger_init_ T) pass0 (by rfl) T.xInvalidInteger.mC (pa_cons (pv 0) pa_nil)) (pa_cons (pe_errK (T.xInvalidInteger.ox) T.xInvalidInteger.iC T.xInvalidInteger.tI (ok_InvalidInteger_init_ T) (hr.mono (by decide)) (kb_InvalidInteger_init_ T) pass0 (by rfl) T.xInvalidInteger.mC (pk_cons (pv 0) pk_nil)) (pa_cons (pe_err (T.xInvalidAmount.ox) T.xInvalidAmount.iC T.xInvalidAmount.tI (ok_InvalidAmount_init_ T) (hr.mono (by decide)) (b_InvalidAmount_init_ T) pass0 (by rfl) T.xInvalidAmount.mC (pa_cons (pv 0) pa_nil)) (pa_cons (pe_errK (T.xInvalidAmount.ox) T.xInvalidAmount.iC T.xInvalidAmount.tI (ok_InvalidAmount_init_ T) (hr.mono (by decide)) (kb_InvalidAmount_init_ T) pass0 (by rfl) T.xInvalidAmount.mC (pk_cons (pv 0) pk_nil)) pa_nil))))))
 (pss_cons (ps_set (i := 1) sc_with_value.nd rfl (by first | exact Or.inl rfl | exact Or.inr rfl) (pe_op op_cat (pv 1) (pe_lst (pa_cons (pe_err (T.xInvalidOrder.ox) T.xInvalidOrder.iC T.xInvalidOrder.tI (ok_InvalidOrder_init_ T) (hr.mono (by decide)) (b_InvalidOrder_init_ T) pass0 (by rfl) T.xInvalidOrder.mC (pa_cons (pv 0) pa_nil)) (pa_cons (pe_errK (T.xInvalidOrder.ox) T.xInvalidOrder.iC T.xInvalidOrder.tI (ok_InvalidOrder_init_ T) (hr.mono (by decide)) (kb_InvalidOrder_init_ T) pass0 (by rfl) T.xInvalidOrder.mC (pk_cons (pv 0) pk_nil)) (pa_cons (pe_err (T.xInvalidWord.ox) T.xInvalidWord.iC T.xInvalidWord.tI (ok_InvalidWord_init_ T) (hr.mono (by decide)) (b_InvalidWord_init_ T) pass0 (by rfl) T.xInvalidWord.mC (pa_cons (pv 0) pa_nil)) (pa_cons (pe_errK (T.xInvalidWord.ox) T.xInvalidWord.iC T.xInvalidWord.tI (ok_InvalidWord_init_ T) (hr.mono (by decide)) (kb_InvalidWord_init_ T) pass0 (by rfl) T.xInvalidWord.mC (pk_cons (pv 0) pk_nil)) pa_nil)))))))
 (pss_cons (ps_set (i := 1) sc_with_value.nd rfl (by first | exact Or.inl rfl | exact Or.inr rfl) (pe_op op_cat (pv 1) (pe_lst (pa_cons (pe_err (T.xInvalidPlace.ox) T.xInvalidPlace.iC T.xInvalidPlace.tI (ok_InvalidPlace_init_ T) (hr.mono (by decide)) (b_InvalidPlace_init_ T) pass0 (by rfl) T.xInvalidPlace.mC (pa_cons (pv 0) pa_nil)) (pa_cons (pe_errK (T.xInvalidPlace.ox) T.xInvalidPlace.iC T.xInvalidPlace.tI (ok_InvalidPlace_init_ T) (hr.mono (by decide)) (kb_InvalidPlace_init_ T) pass0 (by rfl) T.xInvalidPlace.mC (pk_cons (pv 0) pk_nil)) (pa_cons (pe_err (T.xInvalidClaim.ox) T.xInvalidClaim.iC T.xInvalidClaim.tI (ok_InvalidClaim_init_ T) (hr.mono (by decide)) (b_InvalidClaim_init_ T) pass0 (by rfl) T.xInvalidClaim.mC (pa_cons (pv 0) pa_nil)) (pa_cons (pe_errK (T.xInvalidClaim.ox) T.xInvalidClaim.iC T.xInvalidClaim.tI (ok_InvalidClaim_init_ T) (hr.mono (by decide)) (kb_InvalidClaim_init_ T) pass0 (by rfl) T.xInvalidClaim.mC (pk_cons (pv 0) pk_nil)) pa_nil)))))))
 (pss_cons (ps_set (i := 1) sc_with_value.nd rfl (by first | exact Or.inl rfl | exact Or.inr rfl) (pe_op op_cat (pv 1) (pe_lst (pa_cons (pe_err (T.xInvalidLine.ox) T.xInvalidLine.iC T.xInvalidLine.tI (ok_InvalidLine_init_ T) (hr.mono (by decide)) (b_InvalidLine_init_ T) pass0 (by rfl) T.xInvalidLine.mC (pa_cons (pv 0) pa_nil)) (pa_cons (pe_errK (T.xInvalidLine.ox) T.xInvalidLine.iC T.xInvalidLine.tI (ok_InvalidLine_init_ T) (hr.mono (by decide)) (kb_InvalidLine_init_ T) pass0 (by rfl) T.xInvalidLine.mC (pk_cons (pv 0) pk_nil)) (pa_cons (pe_err (T.xUnknownPipe.ox) T.xUnknownPipe.iC T.xUnknownPipe.tI (ok_UnknownPipe_init_ T) (hr.mono (by decide)) (b_UnknownPipe_init_ T) pass0 (by rfl) T.xUnknownPipe.mC (pa_cons (pv 0) pa_nil)) (pa_cons (pe_errK (T.xUnknownPipe.ox) T.xUnknownPipe.iC T.xUnknownPipe.tI (ok_UnknownPipe_init_ T) (hr.mono (by decide)) (kb_UnknownPipe_init_ T) pass0 (by rfl) T.xUnknownPipe.mC (pk_cons (pv 0) pk_nil)) pa_nil)))))))
 (pss_cons (ps_set (i := 1) sc_with_value.nd rfl (by first | exact Or.inl rfl | exact Or.inr rfl) (pe_op op_cat (pv 1) (pe_lst (pa_cons (pe_err (T.xUnknownNode.ox) T.xUnknownNode.iC T.xUnknownNode.tI (ok_UnknownNode_init_ T) (hr.mono (by decide)) (b_UnknownNode_init_ T) pass0 (by rfl) T.xUnknownNode.mC (pa_cons (pv 0) pa_nil)) (pa_cons (pe_errK (T.xUnknownNode.ox) T.xUnknownNode.iC T.xUnknownNode.tI (ok_UnknownNode_init_ T) (hr.mono (by decide)) (kb_UnknownNode_init_ T) pass0 (by rfl) T.xUnknownNode.mC (pk_cons (pv 0) pk_nil)) (pa_cons (pe_err (T.xUnknownPole.ox) T.xUnknownPole.iC T.xUnknownPole.tI (ok_UnknownPole_init_ T) (hr.mono (by decide)) (b_UnknownPole_init_ T) pass0 (by rfl) T.xUnknownPole.mC (pa_cons (pv 0) pa_nil)) (pa_cons (pe_errK (T.xUnknownPole.ox) T.xUnknownPole.iC T.xUnknownPole.tI (ok_UnknownPole_init_ T) (hr.mono (by decide)) (kb_UnknownPole_init_ T) pass0 (by rfl) T.xUnknownPole.mC (pk_cons (pv 0) pk_nil)) pa_nil)))))))
 (pss_cons (ps_set (i := 1) sc_with_value.nd rfl (by first | exact Or.inl rfl | exact Or.inr rfl) (pe_op op_cat (pv 1) (pe_lst (pa_cons (pe_err (T.xUnknownKind.ox) T.xUnknownKind.iC T.xUnknownKind.tI (ok_UnknownKind_init_ T) (hr.mono (by decide)) (b_UnknownKind_init_ T) pass0 (by rfl) T.xUnknownKind.mC (pa_cons (pv 0) pa_nil)) (pa_cons (pe_errK (T.xUnknownKind.ox) T.xUnknownKind.iC T.xUnknownKind.tI (ok_UnknownKind_init_ T) (hr.mono (by decide)) (kb_UnknownKind_init_ T) pass0 (by rfl) T.xUnknownKind.mC (pk_cons (pv 0) pk_nil)) (pa_cons (pe_err (T.xUnknownReading.ox) T.xUnknownReading.iC T.xUnknownReading.tI (ok_UnknownReading_init_ T) (hr.mono (by decide)) (b_UnknownReading_init_ T) pass0 (by rfl) T.xUnknownReading.mC (pa_cons (pv 0) pa_nil)) (pa_cons (pe_errK (T.xUnknownReading.ox) T.xUnknownReading.iC T.xUnknownReading.tI (ok_UnknownReading_init_ T) (hr.mono (by decide)) (kb_UnknownReading_init_ T) pass0 (by rfl) T.xUnknownReading.mC (pk_cons (pv 0) pk_nil)) pa_nil)))))))
 (pss_one (ps_ret (pe_op op_cat (pv 1) (pe_lst (pa_cons (pe_err (T.xNotSure.ox) T.xNotSure.iC T.xNotSure.tI (ok_NotSure_init_ T) (hr.mono (by decide)) (b_NotSure_init_ T) pass0 (by rfl) T.xNotSure.mC (pa_cons (pv 0) pa_nil)) (pa_cons (pe_errK (T.xNotSure.ox) T.xNotSure.iC T.xNotSure.tI (ok_NotSure_init_ T) (hr.mono (by decide)) (kb_NotSure_init_ T) pass0 (by rfl) T.xNotSure.mC (pk_cons (pv 0) pk_nil)) pa_nil)))))))))))), ?_⟩
    have S : Same H H := Same.refl H
    refine ⟨_, rfl, (show 1 ≤ 1000 by decide), fun q1 hq1 => ⟨q1, y, rfl, upd_same, fun dx hdx ne => ⟨rfl, ?_⟩⟩⟩
    obtain ⟨s1, e1⟩ := err_made2 (f := "value") (y := y) hq1 hdx ne
    generalize upd (upd (upd _ q1 _) dx _) q1 _ = H1 at s1 e1 ⊢
    clear dx hdx ne
    have S := S.trans s1
    have e1 := errV e1
    refine ⟨_, rfl, rfl, fun q2 hq2 => ⟨q2, y, rfl, upd_same, fun dx hdx ne => ⟨rfl, ?_⟩⟩⟩
    obtain ⟨s2, e2⟩ := err_made2 (f := "value") (y := y) hq2 hdx ne
    generalize upd (upd (upd _ q2 _) dx _) q2 _ = H2 at s2 e2 ⊢
    clear dx hdx ne
    have S := S.trans s2
    have e1 := e1.same s2
    have e2 := errV e2
    refine ⟨_, rfl, (show 1 ≤ 1000 by decide), fun q3 hq3 => ⟨q3, y, rfl, upd_same, fun dx hdx ne => ⟨rfl, ?_⟩⟩⟩
    obtain ⟨s3, e3⟩ := err_made2 (f := "value") (y := y) hq3 hdx ne
    generalize upd (upd (upd _ q3 _) dx _) q3 _ = H3 at s3 e3 ⊢
    clear dx hdx ne
    have S := S.trans s3
    have e1 := e1.same s3
    have e2 := e2.same s3
    have e3 := errV e3
    refine ⟨_, rfl, rfl, fun q4 hq4 => ⟨q4, y, rfl, upd_same, fun dx hdx ne => ⟨rfl, ?_⟩⟩⟩
    obtain ⟨s4, e4⟩ := err_made2 (f := "value") (y := y) hq4 hdx ne
    generalize upd (upd (upd _ q4 _) dx _) q4 _ = H4 at s4 e4 ⊢
    clear dx hdx ne
    have S := S.trans s4
    have e1 := e1.same s4
    have e2 := e2.same s4
    have e3 := e3.same s4
    have e4 := errV e4
    refine ⟨sz, fun L5 hL5 => ?_⟩
    have fr5 := Lb.Same.free S hL5
    generalize e_H5 : upd _ L5 _ = H5
    obtain ⟨s5, eL5⟩ := al3 e_H5 hL5
    clear e_H5
    (try dsimp only at eL5)
    have S := S.trans s5
    have e1 := e1.same s5
    have e2 := e2.same s5
    have e3 := e3.same s5
    have e4 := e4.same s5
    have g5 : Errs H5 [V.ref q1, V.ref q2, V.ref q3, V.ref q4] [(a.c_InvalidInteger, [(("value" : Str), y)]), (a.c_InvalidInteger, [(("value" : Str), y)]), (a.c_InvalidAmount, [(("value" : Str), y)]), (a.c_InvalidAmount, [(("value" : Str), y)])] := (.cons e1 (.cons e2 (.cons e3 (.cons e4 .nil))))
    clear e1 e2 e3 e4
    refine ⟨_, rfl, ?_⟩
    refine ⟨_, rfl, (show 1 ≤ 1000 by decide), fun q6 hq6 => ⟨q6, y, rfl, upd_same, fun dx hdx ne => ⟨rfl, ?_⟩⟩⟩
    obtain ⟨s6, e6⟩ := err_made2 (f := "value") (y := y) hq6 hdx ne
    generalize upd (upd (upd _ q6 _) dx _) q6 _ = H6 at s6 e6 ⊢
    clear dx hdx ne
    have S := S.trans s6
    have eL5 := s6 _ _ eL5
    have g5 := g5.same s6
    have e6 := errV e6
    refine ⟨_, rfl, rfl, fun q7 hq7 => ⟨q7, y, rfl, upd_same, fun dx hdx ne => ⟨rfl, ?_⟩⟩⟩
    obtain ⟨s7, e7⟩ := err_made2 (f := "value") (y := y) hq7 hdx ne
    generalize upd (upd (upd _ q7 _) dx _) q7 _ = H7 at s7 e7 ⊢
    clear dx hdx ne
    have S := S.trans s7
    have eL5 := s7 _ _ eL5
    have g5 := g5.same s7
    have e6 := e6.same s7
    have e7 := errV e7
    refine ⟨_, rfl, (show 1 ≤ 1000 by decide), fun q8 hq8 => ⟨q8, y, rfl, upd_same, fun dx hdx ne => ⟨rfl, ?_⟩⟩⟩
    obtain ⟨s8, e8⟩ := err_made2 (f := "value") (y := y) hq8 hdx ne
    generalize upd (upd (upd _ q8 _) dx _) q8 _ = H8 at s8 e8 ⊢
    clear dx hdx ne
    have S := S.trans s8
    have eL5 := s8 _ _ eL5
    have g5 := g5.same s8
    have e6 := e6.same s8
    have e7 := e7.same s8
    have e8 := errV e8
    refine ⟨_, rfl, rfl, fun q9 hq9 => ⟨q9, y, rfl, upd_same, fun dx hdx ne => ⟨rfl, ?_⟩⟩⟩
    obtain ⟨s9, e9⟩ := err_made2 (f := "value") (y := y) hq9 hdx ne
    generalize upd (upd (upd _ q9 _) dx _) q9 _ = H9 at s9 e9 ⊢
    clear dx hdx ne
    have S := S.trans s9
    have eL5 := s9 _ _ eL5
    have g5 := g5.same s9
    have e6 := e6.same s9
    have e7 := e7.same s9
    have e8 := e8.same s9
    have e9 := errV e9
    refine ⟨sz, fun L10 hL10 => ?_⟩
    have fr10 := Lb.Same.free S hL10
    generalize e_H10 : upd _ L10 _ = H10
    obtain ⟨s10, eL10⟩ := al3 e_H10 hL10
    clear e_H10
    (try dsimp only at eL10)
    have S := S.trans s10
    have eL5 := s10 _ _ eL5
    have g5 := g5.same s10
    have e6 := e6.same s10
    have e7 := e7.same s10
    have e8 := e8.same s10
    have e9 := e9.same s10
    have g10 : Errs H10 [V.ref q6, V.ref q7, V.ref q8, V.ref q9] [(a.c_InvalidOrder, [(("value" : Str), y)]), (a.c_InvalidOrder, [(("value" : Str), y)]), (a.c_InvalidWord, [(("value" : Str), y)]), (a.c_InvalidWord, [(("value" : Str), y)])] := (.cons e6 (.cons e7 (.cons e8 (.cons e9 .nil))))
    clear e6 e7 e8 e9
    refine ⟨L5, L10, _, _, rfl, rfl, eL5, eL10, szle (by simp), fun L11 hL11 => ?_⟩
    have fr11 := Lb.Same.free S hL11
    generalize e_H11 : upd _ L11 _ = H11
    obtain ⟨s11, eL11⟩ := al3 e_H11 hL11
    clear e_H11
    (try dsimp only at eL11)
    have S := S.trans s11
    have eL5 := s11 _ _ eL5
    have g5 := g5.same s11
    have eL10 := s11 _ _ eL10
    have g10 := g10.same s11
    have g11 := errs_app g5 g10
    clear eL5 g5 eL10 g10
    refine ⟨_, rfl, ?_⟩
    refine ⟨_, rfl, (show 1 ≤ 1000 by decide), fun q12 hq12 => ⟨q12, y, rfl, upd_same, fun dx hdx ne => ⟨rfl, ?_⟩⟩⟩
    obtain ⟨s12, e12⟩ := err_made2 (f := "value") (y := y) hq12 hdx ne
    generalize upd (upd (upd _ q12 _) dx _) q12 _ = H12 at s12 e12 ⊢
    clear dx hdx ne
    have S := S.trans s12
    have eL11 := s12 _ _ eL11
    have g11 := g11.same s12
    have e12 := errV e12
    refine ⟨_, rfl, rfl, fun q13 hq13 => ⟨q13, y, rfl, upd_same, fun dx hdx ne => ⟨rfl, ?_⟩⟩⟩
    obtain ⟨s13, e13⟩ := err_made2 (f := "value") (y := y) hq13 hdx ne
    generalize upd (upd (upd _ q13 _) dx _) q13 _ = H13 at s13 e13 ⊢
    clear dx hdx ne
    have S := S.trans s13
    have eL11 := s13 _ _ eL11
    have g11 := g11.same s13
    have e12 := e12.same s13
    have e13 := errV e13
    refine ⟨_, rfl, (show 1 ≤ 1000 by decide), fun q14 hq14 => ⟨q14, y, rfl, upd_same, fun dx hdx ne => ⟨rfl, ?_⟩⟩⟩
    obtain ⟨s14, e14⟩ := err_made2 (f := "value") (y := y) hq14 hdx ne
    generalize upd (upd (upd _ q14 _) dx _) q14 _ = H14 at s14 e14 ⊢
    clear dx hdx ne
    have S := S.trans s14
    have eL11 := s14 _ _ eL11
    have g11 := g11.same s14
    have e12 := e12.same s14
    have e13 := e13.same s14
    have e14 := errV e14
    refine ⟨_, rfl, rfl, fun q15 hq15 => ⟨q15, y, rfl, upd_same, fun dx hdx ne => ⟨rfl, ?_⟩⟩⟩
    obtain ⟨s15, e15⟩ := err_made2 (f := "value") (y := y) hq15 hdx ne
    generalize upd (upd (upd _ q15 _) dx _) q15 _ = H15 at s15 e15 ⊢
    clear dx hdx ne
    have S := S.trans s15
    have eL11 := s15 _ _ eL11
    have g11 := g11.same s15
    have e12 := e12.same s15
    have e13 := e13.same s15
    have e14 := e14.same s15
    have e15 := errV e15
    refine ⟨sz, fun L16 hL16 => ?_⟩
    have fr16 := Lb.Same.free S hL16
    generalize e_H16 : upd _ L16 _ = H16
    obtain ⟨s16, eL16⟩ := al3 e_H16 hL16
    clear e_H16
    (try dsimp only at eL16)
    have S := S.trans s16
    have eL11 := s16 _ _ eL11
    have g11 := g11.same s16
    have e12 := e12.same s16
    have e13 := e13.same s16
    have e14 := e14.same s16
    have e15 := e15.same s16
    have g16 : Errs H16 [V.ref q12, V.ref q13, V.ref q14, V.ref q15] [(a.c_InvalidPlace, [(("value" : Str), y)]), (a.c_InvalidPlace, [(("value" : Str), y)]), (a.c_InvalidClaim, [(("value" : Str), y)]), (a.c_InvalidClaim, [(("value" : Str), y)])] := (.cons e12 (.cons e13 (.cons e14 (.cons e15 .nil))))
    clear e12 e13 e14 e15
    refine ⟨L11, L16, _, _, rfl, rfl, eL11, eL16, szle (by simp), fun L17 hL17 => ?_⟩
    have fr17 := Lb.Same.free S hL17
    generalize e_H17 : upd _ L17 _ = H17
    obtain ⟨s17, eL17⟩ := al3 e_H17 hL17
    clear e_H17
    (try dsimp only at eL17)
    have S := S.trans s17
    have eL11 := s17 _ _ eL11
    have g11 := g11.same s17
    have eL16 := s17 _ _ eL16
    have g16 := g16.same s17
    have g17 := errs_app g11 g16
    clear eL11 g11 eL16 g16
    refine ⟨_, rfl, ?_⟩
    refine ⟨_, rfl, (show 1 ≤ 1000 by decide), fun q18 hq18 => ⟨q18, y, rfl, upd_same, fun dx hdx ne => ⟨rfl, ?_⟩⟩⟩
    obtain ⟨s18, e18⟩ := err_made2 (f := "value") (y := y) hq18 hdx ne
    generalize upd (upd (upd _ q18 _) dx _) q18 _ = H18 at s18 e18 ⊢
    clear dx hdx ne
    have S := S.trans s18
    have eL17 := s18 _ _ eL17
    have g17 := g17.same s18
    have e18 := errV e18
    refine ⟨_, rfl, rfl, fun q19 hq19 => ⟨q19, y, rfl, upd_same, fun dx hdx ne => ⟨rfl, ?_⟩⟩⟩
    obtain ⟨s19, e19⟩ := err_made2 (f := "value") (y := y) hq19 hdx ne
    generalize upd (upd (upd _ q19 _) dx _) q19 _ = H19 at s19 e19 ⊢
    clear dx hdx ne
    have S := S.trans s19
    have eL17 := s19 _ _ eL17
    have g17 := g17.same s19
    have e18 := e18.same s19
    have e19 := errV e19
    refine ⟨_, rfl, (show 1 ≤ 1000 by decide), fun q20 hq20 => ⟨q20, y, rfl, upd_same, fun dx hdx ne => ⟨rfl, ?_⟩⟩⟩
    obtain ⟨s20, e20⟩ := err_made2 (f := "value") (y := y) hq20 hdx ne
    generalize upd (upd (upd _ q20 _) dx _) q20 _ = H20 at s20 e20 ⊢
    clear dx hdx ne
    have S := S.trans s20
    have eL17 := s20 _ _ eL17
    have g17 := g17.same s20
    have e18 := e18.same s20
    have e19 := e19.same s20
    have e20 := errV e20
    refine ⟨_, rfl, rfl, fun q21 hq21 => ⟨q21, y, rfl, upd_same, fun dx hdx ne => ⟨rfl, ?_⟩⟩⟩
    obtain ⟨s21, e21⟩ := err_made2 (f := "value") (y := y) hq21 hdx ne
    generalize upd (upd (upd _ q21 _) dx _) q21 _ = H21 at s21 e21 ⊢
    clear dx hdx ne
    have S := S.trans s21
    have eL17 := s21 _ _ eL17
    have g17 := g17.same s21
    have e18 := e18.same s21
    have e19 := e19.same s21
    have e20 := e20.same s21
    have e21 := errV e21
    refine ⟨sz, fun L22 hL22 => ?_⟩
    have fr22 := Lb.Same.free S hL22
    generalize e_H22 : upd _ L22 _ = H22
    obtain ⟨s22, eL22⟩ := al3 e_H22 hL22
    clear e_H22
    (try dsimp only at eL22)
    have S := S.trans s22
    have eL17 := s22 _ _ eL17
    have g17 := g17.same s22
    have e18 := e18.same s22
    have e19 := e19.same s22
    have e20 := e20.same s22
    have e21 := e21.same s22
    have g22 : Errs H22 [V.ref q18, V.ref q19, V.ref q20, V.ref q21] [(a.c_InvalidLine, [(("value" : Str), y)]), (a.c_InvalidLine, [(("value" : Str), y)]), (a.c_UnknownPipe, [(("value" : Str), y)]), (a.c_UnknownPipe, [(("value" : Str), y)])] := (.cons e18 (.cons e19 (.cons e20 (.cons e21 .nil))))
    clear e18 e19 e20 e21
    refine ⟨L17, L22, _, _, rfl, rfl, eL17, eL22, szle (by simp), fun L23 hL23 => ?_⟩
    have fr23 := Lb.Same.free S hL23
    generalize e_H23 : upd _ L23 _ = H23
    obtain ⟨s23, eL23⟩ := al3 e_H23 hL23
    clear e_H23
    (try dsimp only at eL23)
    have S := S.trans s23
    have eL17 := s23 _ _ eL17
    have g17 := g17.same s23
    have eL22 := s23 _ _ eL22
    have g22 := g22.same s23
    have g23 := errs_app g17 g22
    clear eL17 g17 eL22 g22
    refine ⟨_, rfl, ?_⟩
    refine ⟨_, rfl, (show 1 ≤ 1000 by decide), fun q24 hq24 => ⟨q24, y, rfl, upd_same, fun dx hdx ne => ⟨rfl, ?_⟩⟩⟩
    obtain ⟨s24, e24⟩ := err_made2 (f := "value") (y := y) hq24 hdx ne
    generalize upd (upd (upd _ q24 _) dx _) q24 _ = H24 at s24 e24 ⊢
    clear dx hdx ne
    have S := S.trans s24
    have eL23 := s24 _ _ eL23
    have g23 := g23.same s24
    have e24 := errV e24
    refine ⟨_, rfl, rfl, fun q25 hq25 => ⟨q25, y, rfl, upd_same, fun dx hdx ne => ⟨rfl, ?_⟩⟩⟩
    obtain ⟨s25, e25⟩ := err_made2 (f := "value") (y := y) hq25 hdx ne
    generalize upd (upd (upd _ q25 _) dx _) q25 _ = H25 at s25 e25 ⊢
    clear dx hdx ne
    have S := S.trans s25
    have eL23 := s25 _ _ eL23
    have g23 := g23.same s25
    have e24 := e24.same s25
    have e25 := errV e25
    refine ⟨_, rfl, (show 1 ≤ 1000 by decide), fun q26 hq26 => ⟨q26, y, rfl, upd_same, fun dx hdx ne => ⟨rfl, ?_⟩⟩⟩
    obtain ⟨s26, e26⟩ := err_made2 (f := "value") (y := y) hq26 hdx ne
    generalize upd (upd (upd _ q26 _) dx _) q26 _ = H26 at s26 e26 ⊢
    clear dx hdx ne
    have S := S.trans s26
    have eL23 := s26 _ _ eL23
    have g23 := g23.same s26
    have e24 := e24.same s26
    have e25 := e25.same s26
    have e26 := errV e26
    refine ⟨_, rfl, rfl, fun q27 hq27 => ⟨q27, y, rfl, upd_same, fun dx hdx ne => ⟨rfl, ?_⟩⟩⟩
    obtain ⟨s27, e27⟩ := err_made2 (f := "value") (y := y) hq27 hdx ne
    generalize upd (upd (upd _ q27 _) dx _) q27 _ = H27 at s27 e27 ⊢
    clear dx hdx ne
    have S := S.trans s27
    have eL23 := s27 _ _ eL23
    have g23 := g23.same s27
    have e24 := e24.same s27
    have e25 := e25.same s27
    have e26 := e26.same s27
    have e27 := errV e27
    refine ⟨sz, fun L28 hL28 => ?_⟩
    have fr28 := Lb.Same.free S hL28
    generalize e_H28 : upd _ L28 _ = H28
    obtain ⟨s28, eL28⟩ := al3 e_H28 hL28
    clear e_H28
    (try dsimp only at eL28)
    have S := S.trans s28
    have eL23 := s28 _ _ eL23
    have g23 := g23.same s28
    have e24 := e24.same s28
    have e25 := e25.same s28
    have e26 := e26.same s28
    have e27 := e27.same s28
    have g28 : Errs H28 [V.ref q24, V.ref q25, V.ref q26, V.ref q27] [(a.c_UnknownNode, [(("value" : Str), y)]), (a.c_UnknownNode, [(("value" : Str), y)]), (a.c_UnknownPole, [(("value" : Str), y)]), (a.c_UnknownPole, [(("value" : Str), y)])] := (.cons e24 (.cons e25 (.cons e26 (.cons e27 .nil))))
    clear e24 e25 e26 e27
    refine ⟨L23, L28, _, _, rfl, rfl, eL23, eL28, szle (by simp), fun L29 hL29 => ?_⟩
    have fr29 := Lb.Same.free S hL29
    generalize e_H29 : upd _ L29 _ = H29
    obtain ⟨s29, eL29⟩ := al3 e_H29 hL29
    clear e_H29
    (try dsimp only at eL29)
    have S := S.trans s29
    have eL23 := s29 _ _ eL23
    have g23 := g23.same s29
    have eL28 := s29 _ _ eL28
    have g28 := g28.same s29
    have g29 := errs_app g23 g28
    clear eL23 g23 eL28 g28
    refine ⟨_, rfl, ?_⟩
    refine ⟨_, rfl, (show 1 ≤ 1000 by decide), fun q30 hq30 => ⟨q30, y, rfl, upd_same, fun dx hdx ne => ⟨rfl, ?_⟩⟩⟩
    obtain ⟨s30, e30⟩ := err_made2 (f := "value") (y := y) hq30 hdx ne
    generalize upd (upd (upd _ q30 _) dx _) q30 _ = H30 at s30 e30 ⊢
    clear dx hdx ne
    have S := S.trans s30
    have eL29 := s30 _ _ eL29
    have g29 := g29.same s30
    have e30 := errV e30
    refine ⟨_, rfl, rfl, fun q31 hq31 => ⟨q31, y, rfl, upd_same, fun dx hdx ne => ⟨rfl, ?_⟩⟩⟩
    obtain ⟨s31, e31⟩ := err_made2 (f := "value") (y := y) hq31 hdx ne
    generalize upd (upd (upd _ q31 _) dx _) q31 _ = H31 at s31 e31 ⊢
    clear dx hdx ne
    have S := S.trans s31
    have eL29 := s31 _ _ eL29
    have g29 := g29.same s31
    have e30 := e30.same s31
    have e31 := errV e31
    refine ⟨_, rfl, (show 1 ≤ 1000 by decide), fun q32 hq32 => ⟨q32, y, rfl, upd_same, fun dx hdx ne => ⟨rfl, ?_⟩⟩⟩
    obtain ⟨s32, e32⟩ := err_made2 (f := "value") (y := y) hq32 hdx ne
    generalize upd (upd (upd _ q32 _) dx _) q32 _ = H32 at s32 e32 ⊢
    clear dx hdx ne
    have S := S.trans s32
    have eL29 := s32 _ _ eL29
    have g29 := g29.same s32
    have e30 := e30.same s32
    have e31 := e31.same s32
    have e32 := errV e32
    refine ⟨_, rfl, rfl, fun q33 hq33 => ⟨q33, y, rfl, upd_same, fun dx hdx ne => ⟨rfl, ?_⟩⟩⟩
    obtain ⟨s33, e33⟩ := err_made2 (f := "value") (y := y) hq33 hdx ne
    generalize upd (upd (upd _ q33 _) dx _) q33 _ = H33 at s33 e33 ⊢
    clear dx hdx ne
    have S := S.trans s33
    have eL29 := s33 _ _ eL29
    have g29 := g29.same s33
    have e30 := e30.same s33
    have e31 := e31.same s33
    have e32 := e32.same s33
    have e33 := errV e33
    refine ⟨sz, fun L34 hL34 => ?_⟩
    have fr34 := Lb.Same.free S hL34
    generalize e_H34 : upd _ L34 _ = H34
    obtain ⟨s34, eL34⟩ := al3 e_H34 hL34
    clear e_H34
    (try dsimp only at eL34)
    have S := S.trans s34
    have eL29 := s34 _ _ eL29
    have g29 := g29.same s34
    have e30 := e30.same s34
    have e31 := e31.same s34
    have e32 := e32.same s34
    have e33 := e33.same s34
    have g34 : Errs H34 [V.ref q30, V.ref q31, V.ref q32, V.ref q33] [(a.c_UnknownKind, [(("value" : Str), y)]), (a.c_UnknownKind, [(("value" : Str), y)]), (a.c_UnknownReading, [(("value" : Str), y)]), (a.c_UnknownReading, [(("value" : Str), y)])] := (.cons e30 (.cons e31 (.cons e32 (.cons e33 .nil))))
    clear e30 e31 e32 e33
    refine ⟨L29, L34, _, _, rfl, rfl, eL29, eL34, szle (by simp), fun L35 hL35 => ?_⟩
    have fr35 := Lb.Same.free S hL35
    generalize e_H35 : upd _ L35 _ = H35
    obtain ⟨s35, eL35⟩ := al3 e_H35 hL35
    clear e_H35
    (try dsimp only at eL35)
    have S := S.trans s35
    have eL29 := s35 _ _ eL29
    have g29 := g29.same s35
    have eL34 := s35 _ _ eL34
    have g34 := g34.same s35
    have g35 := errs_app g29 g34
    clear eL29 g29 eL34 g34
    refine ⟨_, rfl, ?_⟩
    refine ⟨_, rfl, (show 1 ≤ 1000 by decide), fun q36 hq36 => ⟨q36, y, rfl, upd_same, fun dx hdx ne => ⟨rfl, ?_⟩⟩⟩
    obtain ⟨s36, e36⟩ := err_made2 (f := "value") (y := y) hq36 hdx ne
    generalize upd (upd (upd _ q36 _) dx _) q36 _ = H36 at s36 e36 ⊢
    clear dx hdx ne
    have S := S.trans s36
    have eL35 := s36 _ _ eL35
    have g35 := g35.same s36
    have e36 := errV e36
    refine ⟨_, rfl, rfl, fun q37 hq37 => ⟨q37, y, rfl, upd_same, fun dx hdx ne => ⟨rfl, ?_⟩⟩⟩
    obtain ⟨s37, e37⟩ := err_made2 (f := "value") (y := y) hq37 hdx ne
    generalize upd (upd (upd _ q37 _) dx _) q37 _ = H37 at s37 e37 ⊢
    clear dx hdx ne
    have S := S.trans s37
    have eL35 := s37 _ _ eL35
    have g35 := g35.same s37
    have e36 := e36.same s37
    have e37 := errV e37
    refine ⟨sz, fun L38 hL38 => ?_⟩
    have fr38 := Lb.Same.free S hL38
    generalize e_H38 : upd _ L38 _ = H38
    obtain ⟨s38, eL38⟩ := al3 e_H38 hL38
    clear e_H38
    (try dsimp only at eL38)
    have S := S.trans s38
    have eL35 := s38 _ _ eL35
    have g35 := g35.same s38
    have e36 := e36.same s38
    have e37 := e37.same s38
    have g38 : Errs H38 [V.ref q36, V.ref q37] [(a.c_NotSure, [(("value" : Str), y)]), (a.c_NotSure, [(("value" : Str), y)])] := (.cons e36 (.cons e37 .nil))
    clear e36 e37
    refine ⟨L35, L38, _, _, rfl, rfl, eL35, eL38, szle (by simp), fun L39 hL39 => ?_⟩
    have fr39 := Lb.Same.free S hL39
    generalize e_H39 : upd _ L39 _ = H39
    obtain ⟨s39, eL39⟩ := al3 e_H39 hL39
    clear e_H39
    (try dsimp only at eL39)
    have S := S.trans s39
    have eL35 := s39 _ _ eL35
    have g35 := g35.same s39
    have eL38 := s39 _ _ eL38
    have g38 := g38.same s39
    have g39 := errs_app g35 g38
    clear eL35 g35 eL38 g38
    exact k _ _ _ S fr39 eL39 g39
theorem ok_with_position (T : Txt K mg a) : FnOk P w K mg base CX0 3 a.f_with_position a.d_with_position ["_law_at"] (sp_list (cs_with_position a)) := by
  refine T.F_with_position.ok sc_with_position (fun vs H Q E h => ?_) (fun cdv A outer s H vs Q E hr h => ?_)
  · obtain ⟨y, rfl, _⟩ := h
    rfl
  · obtain ⟨y, rfl, k⟩ := h
    refine ⟨_, (pss_cons (ps_set (i := 1) sc_with_position.nd rfl (by first | exact Or.inl rfl | exact Or.inr rfl) (pe_lst (pa_cons (pe_err (T.xInvalidPoints.ox) T.xInvalidPoints.iC T.xInvalidPoints.tI (ok_InvalidPoints_init_ T) (hr.mono (by decide)) (b_InvalidPoints_init_ T) pass0 (by rfl) T.xInvalidPoints.mC (pa_cons (pv 0) pa_nil)) (pa_cons (pe_errK (T.xInvalidPoints.ox) T.xInvalidPoints.iC T.xInvalidPoints.tI (ok_InvalidPoints_init_ T) (hr.mono (by decide)) (kb_InvalidPoints_init_ T) pass0 (by rfl) T.xInvalidPoints.mC (pk_cons (pv 0) pk_nil)) (pa_cons (pe_err (T.xInvalidLevels.ox) T.xInvalidLevels.iC T.xInvalidLevels.tI (ok_InvalidLevels_init_ T) (hr.mono (by decide)) (b_InvalidLevels_init_ T) pass0 (by rfl) T.xInvalidLevels.mC (pa_cons (pv 0) pa_nil)) (pa_cons (pe_errK (T.xInvalidLevels.ox) T.xInvalidLevels.iC T.xInvalidLevels.tI (ok_InvalidLevels_init_ T) (hr.mono (by decide)) (kb_InvalidLevels_init_ T) pass0 (by rfl) T.xInvalidLevels.mC (pk_cons (pv 0) pk_nil)) pa_nil))))))
 (pss_cons (ps_set (i := 1) sc_with_position.nd rfl (by first | exact Or.inl rfl | exact Or.inr rfl) (pe_op op_cat (pv 1) (pe_lst (pa_cons (pe_err (T.xInvalidReading.ox) T.xInvalidReading.iC T.xInvalidReading.tI (ok_InvalidReading_init_ T) (hr.mono (by decide)) (b_InvalidReading_init_ T) pass0 (by rfl) T.xInvalidReading.mC (pa_cons (pv 0) pa_nil)) (pa_cons (pe_errK (T.xInvalidReading.ox) T.xInvalidReading.iC T.xInvalidReading.tI (ok_InvalidReading_init_ T) (hr.mono (by decide)) (kb_InvalidReading_init_ T) pass0 (by rfl) T.xInvalidReading.mC (pk_cons (pv 0) pk_nil)) (pa_cons (pe_err (T.xInvalidStates.ox) T.xInvalidStates.iC T.xInvalidStates.tI (ok_InvalidStates_init_ T) (hr.mono (by decide)) (b_InvalidStates_init_ T) pass0 (by rfl) T.xInvalidStates.mC (pa_cons (pv 0) pa_nil)) (pa_cons (pe_errK (T.xInvalidStates.ox) T.xInvalidStates.iC T.xInvalidStates.tI (ok_InvalidStates_init_ T) (hr.mono (by decide)) (kb_InvalidStates_init_ T) pass0 (by rfl) T.xInvalidStates.mC (pk_cons (pv 0) pk_nil)) pa_nil)))))))
 (pss_one (ps_ret (pv 1))))), ?_⟩
    have S : Same H H := Same.refl H
    refine ⟨_, rfl, (show 1 ≤ 1000 by decide), fun q1 hq1 => ⟨q1, y, rfl, upd_same, fun dx hdx ne => ⟨rfl, ?_⟩⟩⟩
    obtain ⟨s1, e1⟩ := err_made2 (f := "position") (y := y) hq1 hdx ne
    generalize upd (upd (upd _ q1 _) dx _) q1 _ = H1 at s1 e1 ⊢
    clear dx hdx ne
    have S := S.trans s1
    have e1 := errV e1
    refine ⟨_, rfl, rfl, fun q2 hq2 => ⟨q2, y, rfl, upd_same, fun dx hdx ne => ⟨rfl, ?_⟩⟩⟩
    obtain ⟨s2, e2⟩ := err_made2 (f := "position") (y := y) hq2 hdx ne
    generalize upd (upd (upd _ q2 _) dx _) q2 _ = H2 at s2 e2 ⊢
    clear dx hdx ne
    have S := S.trans s2
    have e1 := e1.same s2
    have e2 := errV e2
    refine ⟨_, rfl, (show 1 ≤ 1000 by decide), fun q3 hq3 => ⟨q3, y, rfl, upd_same, fun dx hdx ne => ⟨rfl, ?_⟩⟩⟩
    obtain ⟨s3, e3⟩ := err_made2 (f := "position") (y := y) hq3 hdx ne
    generalize upd (upd (upd _ q3 _) dx _) q3 _ = H3 at s3 e3 ⊢
    clear dx hdx ne
    have S := S.trans s3
    have e1 := e1.same s3
    have e2 := e2.same s3
    have e3 := errV e3
    refine ⟨_, rfl, rfl, fun q4 hq4 => ⟨q4, y, rfl, upd_same, fun dx hdx ne => ⟨rfl, ?_⟩⟩⟩
    obtain ⟨s4, e4⟩ := err_made2 (f := "position") (y := y) hq4 hdx ne
    generalize upd (upd (upd _ q4 _) dx _) q4 _ = H4 at s4 e4 ⊢
    clear dx hdx ne
    have S := S.trans s4
    have e1 := e1.same s4
    have e2 := e2.same s4
    have e3 := e3.same s4
    have e4 := errV e4
    refine ⟨sz, fun L5 hL5 => ?_⟩
    have fr5 := Lb.Same.free S hL5
    generalize e_H5 : upd _ L5 _ = H5
    obtain ⟨s5, eL5⟩ := al3 e_H5 hL5
    clear e_H5
    (try dsimp only at eL5)
    have S := S.trans s5
    have e1 := e1.same s5
    have e2 := e2.same s5
    have e3 := e3.same s5
    have e4 := e4.same s5
    have g5 : Errs H5 [V.ref q1, V.ref q2, V.ref q3, V.ref q4] [(a.c_InvalidPoints, [(("position" : Str), y)]), (a.c_InvalidPoints, [(("position" : Str), y)]), (a.c_InvalidLevels, [(("position" : Str), y)]), (a.c_InvalidLevels, [(("position" : Str), y)])] := (.cons e1 (.cons e2 (.cons e3 (.cons e4 .nil))))
    clear e1 e2 e3 e4
    refine ⟨_, rfl, ?_⟩
    refine ⟨_, rfl, (show 1 ≤ 1000 by decide), fun q6 hq6 => ⟨q6, y, rfl, upd_same, fun dx hdx ne => ⟨rfl, ?_⟩⟩⟩
    obtain ⟨s6, e6⟩ := err_made2 (f := "position") (y := y) hq6 hdx ne
    generalize upd (upd (upd _ q6 _) dx _) q6 _ = H6 at s6 e6 ⊢
    clear dx hdx ne
    have S := S.trans s6
    have eL5 := s6 _ _ eL5
    have g5 := g5.same s6
    have e6 := errV e6
    refine ⟨_, rfl, rfl, fun q7 hq7 => ⟨q7, y, rfl, upd_same, fun dx hdx ne => ⟨rfl, ?_⟩⟩⟩
    obtain ⟨s7, e7⟩ := err_made2 (f := "position") (y := y) hq7 hdx ne
    generalize upd (upd (upd _ q7 _) dx _) q7 _ = H7 at s7 e7 ⊢
    clear dx hdx ne
    have S := S.trans s7
    have eL5 := s7 _ _ eL5
    have g5 := g5.same s7
    have e6 := e6.same s7
    have e7 := errV e7
    refine ⟨_, rfl, (show 1 ≤ 1000 by decide), fun q8 hq8 => ⟨q8, y, rfl, upd_same, fun dx hdx ne => ⟨rfl, ?_⟩⟩⟩
    obtain ⟨s8, e8⟩ := err_made2 (f := "position") (y := y) hq8 hdx ne
    generalize upd (upd (upd _ q8 _) dx _) q8 _ = H8 at s8 e8 ⊢
    clear dx hdx ne
    have S := S.trans s8
    have eL5 := s8 _ _ eL5
    have g5 := g5.same s8
    have e6 := e6.same s8
    have e7 := e7.same s8
    have e8 := errV e8
    refine ⟨_, rfl, rfl, fun q9 hq9 => ⟨q9, y, rfl, upd_same, fun dx hdx ne => ⟨rfl, ?_⟩⟩⟩
    obtain ⟨s9, e9⟩ := err_made2 (f := "position") (y := y) hq9 hdx ne
    generalize upd (upd (upd _ q9 _) dx _) q9 _ = H9 at s9 e9 ⊢
    clear dx hdx ne
    have S := S.trans s9
    have eL5 := s9 _ _ eL5
    have g5 := g5.same s9
    have e6 := e6.same s9
    have e7 := e7.same s9
    have e8 := e8.same s9
    have e9 := errV e9
    refine ⟨sz, fun L10 hL10 => ?_⟩
    have fr10 := Lb.Same.free S hL10
    generalize e_H10 : upd _ L10 _ = H10
    obtain ⟨s10, eL10⟩ := al3 e_H10 hL10
    clear e_H10
    (try dsimp only at eL10)
    have S := S.trans s10
    have eL5 := s10 _ _ eL5
    have g5 := g5.same s10
    have e6 := e6.same s10
    have e7 := e7.same s10
    have e8 := e8.same s10
    have e9 := e9.same s10
    have g10 : Errs H10 [V.ref q6, V.ref q7, V.ref q8, V.ref q9] [(a.c_InvalidReading, [(("position" : Str), y)]), (a.c_InvalidReading, [(("position" : Str), y)]), (a.c_InvalidStates, [(("position" : Str), y)]), (a.c_InvalidStates, [(("position" : Str), y)])] := (.cons e6 (.cons e7 (.cons e8 (.cons e9 .nil))))
    clear e6 e7 e8 e9
    refine ⟨L5, L10, _, _, rfl, rfl, eL5, eL10, szle (by simp), fun L11 hL11 => ?_⟩
    have fr11 := Lb.Same.free S hL11
    generalize e_H11 : upd _ L11 _ = H11
    obtain ⟨s11, eL11⟩ := al3 e_H11 hL11
    clear e_H11
    (try dsimp only at eL11)
    have S := S.trans s11
    have eL5 := s11 _ _ eL5
    have g5 := g5.same s11
    have eL10 := s11 _ _ eL10
    have g10 := g10.same s11
    have g11 := errs_app g5 g10
    clear eL5 g5 eL10 g10
    refine ⟨_, rfl, ?_⟩
    exact k _ _ _ S fr11 eL11 g11
theorem ok_with_node (T : Txt K mg a) : FnOk P w K mg base CX0 3 a.f_with_node a.d_with_node ["_law_tag"] (sp_list (cs_with_node a)) := by
  refine T.F_with_node.ok sc_with_node (fun vs H Q E h => ?_) (fun cdv A outer s H vs Q E hr h => ?_)
  · obtain ⟨y, rfl, _⟩ := h
    rfl
  · obtain ⟨y, rfl, k⟩ := h
    refine ⟨_, (pss_cons (ps_set (i := 1) sc_with_node.nd rfl (by first | exact Or.inl rfl | exact Or.inr rfl) (pe_lst (pa_cons (pe_err (T.xNotConnected.ox) T.xNotConnected.iC T.xNotConnected.tI (ok_NotConnected_init_ T) (hr.mono (by decide)) (b_NotConnected_init_ T) pass0 (by rfl) T.xNotConnected.mC (pa_cons (pv 0) pa_nil)) (pa_cons (pe_errK (T.xNotConnected.ox) T.xNotConnected.iC T.xNotConnected.tI (ok_NotConnected_init_ T) (hr.mono (by decide)) (kb_NotConnected_init_ T) pass0 (by rfl) T.xNotConnected.mC (pk_cons (pv 0) pk_nil)) (pa_cons (pe_err (T.xInvalidDemands.ox) T.xInvalidDemands.iC T.xInvalidDemands.tI (ok_InvalidDemands_init_ T) (hr.mono (by decide)) (b_InvalidDemands_init_ T) pass0 (by rfl) T.xInvalidDemands.mC (pa_cons (pv 0) pa_nil)) (pa_cons (pe_errK (T.xInvalidDemands.ox) T.xInvalidDemands.iC T.xInvalidDemands.tI (ok_InvalidDemands_init_ T) (hr.mono (by decide)) (kb_InvalidDemands_init_ T) pass0 (by rfl) T.xInvalidDemands.mC (pk_cons (pv 0) pk_nil)) pa_nil))))))
 (pss_one (ps_ret (pe_op op_cat (pv 1) (pe_lst (pa_cons (pe_err (T.xInvalidPoles.ox) T.xInvalidPoles.iC T.xInvalidPoles.tI (ok_InvalidPoles_init_ T) (hr.mono (by decide)) (b_InvalidPoles_init_ T) pass0 (by rfl) T.xInvalidPoles.mC (pa_cons (pv 0) pa_nil)) (pa_cons (pe_errK (T.xInvalidPoles.ox) T.xInvalidPoles.iC T.xInvalidPoles.tI (ok_InvalidPoles_init_ T) (hr.mono (by decide)) (kb_InvalidPoles_init_ T) pass0 (by rfl) T.xInvalidPoles.mC (pk_cons (pv 0) pk_nil)) (pa_cons (pe_err (T.xInvalidHeights.ox) T.xInvalidHeights.iC T.xInvalidHeights.tI (ok_InvalidHeights_init_ T) (hr.mono (by decide)) (b_InvalidHeights_init_ T) pass0 (by rfl) T.xInvalidHeights.mC (pa_cons (pv 0) pa_nil)) (pa_cons (pe_errK (T.xInvalidHeights.ox) T.xInvalidHeights.iC T.xInvalidHeights.tI (ok_InvalidHeights_init_ T) (hr.mono (by decide)) (kb_InvalidHeights_init_ T) pass0 (by rfl) T.xInvalidHeights.mC (pk_cons (pv 0) pk_nil)) pa_nil))))))))), ?_⟩
    have S : Same H H := Same.refl H
    refine ⟨_, rfl, (show 1 ≤ 1000 by decide), fun q1 hq1 => ⟨q1, y, rfl, upd_same, fun dx hdx ne => ⟨rfl, ?_⟩⟩⟩
    obtain ⟨s1, e1⟩ := err_made2 (f := "node") (y := y) hq1 hdx ne
    generalize upd (upd (upd _ q1 _) dx _) q1 _ = H1 at s1 e1 ⊢
    clear dx hdx ne
    have S := S.trans s1
    have e1 := errV e1
    refine ⟨_, rfl, rfl, fun q2 hq2 => ⟨q2, y, rfl, upd_same, fun dx hdx ne => ⟨rfl, ?_⟩⟩⟩
    obtain ⟨s2, e2⟩ := err_made2 (f := "node") (y := y) hq2 hdx ne
    generalize upd (upd (upd _ q2 _) dx _) q2 _ = H2 at s2 e2 ⊢
    clear dx hdx ne
    have S := S.trans s2
    have e1 := e1.same s2
    have e2 := errV e2
    refine ⟨_, rfl, (show 1 ≤ 1000 by decide), fun q3 hq3 => ⟨q3, y, rfl, upd_same, fun dx hdx ne => ⟨rfl, ?_⟩⟩⟩
    obtain ⟨s3, e3⟩ := err_made2 (f := "node") (y := y) hq3 hdx ne
    generalize upd (upd (upd _ q3 _) dx _) q3 _ = H3 at s3 e3 ⊢
    clear dx hdx ne
    have S := S.trans s3
    have e1 := e1.same s3
    have e2 := e2.same s3
    have e3 := errV e3
    refine ⟨_, rfl, rfl, fun q4 hq4 => ⟨q4, y, rfl, upd_same, fun dx hdx ne => ⟨rfl, ?_⟩⟩⟩
    obtain ⟨s4, e4⟩ := err_made2 (f := "node") (y := y) hq4 hdx ne
    generalize upd (upd (upd _ q4 _) dx _) q4 _ = H4 at s4 e4 ⊢
    clear dx hdx ne
    have S := S.trans s4
    have e1 := e1.same s4
    have e2 := e2.same s4
    have e3 := e3.same s4
    have e4 := errV e4
    refine ⟨sz, fun L5 hL5 => ?_⟩
    have fr5 := Lb.Same.free S hL5
    generalize e_H5 : upd _ L5 _ = H5
    obtain ⟨s5, eL5⟩ := al3 e_H5 hL5
    clear e_H5
    (try dsimp only at eL5)
    have S := S.trans s5
    have e1 := e1.same s5
    have e2 := e2.same s5
    have e3 := e3.same s5
    have e4 := e4.same s5
    have g5 : Errs H5 [V.ref q1, V.ref q2, V.ref q3, V.ref q4] [(a.c_NotConnected, [(("node" : Str), y)]), (a.c_NotConnected, [(("node" : Str), y)]), (a.c_InvalidDemands, [(("node" : Str), y)]), (a.c_InvalidDemands, [(("node" : Str), y)])] := (.cons e1 (.cons e2 (.cons e3 (.cons e4 .nil))))
    clear e1 e2 e3 e4
    refine ⟨_, rfl, ?_⟩
    refine ⟨_, rfl, (show 1 ≤ 1000 by decide), fun q6 hq6 => ⟨q6, y, rfl, upd_same, fun dx hdx ne => ⟨rfl, ?_⟩⟩⟩
    obtain ⟨s6, e6⟩ := err_made2 (f := "node") (y := y) hq6 hdx ne
    generalize upd (upd (upd _ q6 _) dx _) q6 _ = H6 at s6 e6 ⊢
    clear dx hdx ne
    have S := S.trans s6
    have eL5 := s6 _ _ eL5
    have g5 := g5.same s6
    have e6 := errV e6
    refine ⟨_, rfl, rfl, fun q7 hq7 => ⟨q7, y, rfl, upd_same, fun dx hdx ne => ⟨rfl, ?_⟩⟩⟩
    obtain ⟨s7, e7⟩ := err_made2 (f := "node") (y := y) hq7 hdx ne
    generalize upd (upd (upd _ q7 _) dx _) q7 _ = H7 at s7 e7 ⊢
    clear dx hdx ne
    have S := S.trans s7
    have eL5 := s7 _ _ eL5
    have g5 := g5.same s7
    have e6 := e6.same s7
    have e7 := errV e7
    refine ⟨_, rfl, (show 1 ≤ 1000 by decide), fun q8 hq8 => ⟨q8, y, rfl, upd_same, fun dx hdx ne => ⟨rfl, ?_⟩⟩⟩
    obtain ⟨s8, e8⟩ := err_made2 (f := "node") (y := y) hq8 hdx ne
    generalize upd (upd (upd _ q8 _) dx _) q8 _ = H8 at s8 e8 ⊢
    clear dx hdx ne
    have S := S.trans s8
    have eL5 := s8 _ _ eL5
    have g5 := g5.same s8
    have e6 := e6.same s8
    have e7 := e7.same s8
    have e8 := errV e8
    refine ⟨_, rfl, rfl, fun q9 hq9 => ⟨q9, y, rfl, upd_same, fun dx hdx ne => ⟨rfl, ?_⟩⟩⟩
    obtain ⟨s9, e9⟩ := err_made2 (f := "node") (y := y) hq9 hdx ne
    generalize upd (upd (upd _ q9 _) dx _) q9 _ = H9 at s9 e9 ⊢
    clear dx hdx ne
    have S := S.trans s9
    have eL5 := s9 _ _ eL5
    have g5 := g5.same s9
    have e6 := e6.same s9
    have e7 := e7.same s9
    have e8 := e8.same s9
    have e9 := errV e9
    refine ⟨sz, fun L10 hL10 => ?_⟩
    have fr10 := Lb.Same.free S hL10
    generalize e_H10 : upd _ L10 _ = H10
    obtain ⟨s10, eL10⟩ := al3 e_H10 hL10
    clear e_H10
    (try dsimp only at eL10)
    have S := S.trans s10
    have eL5 := s10 _ _ eL5
    have g5 := g5.same s10
    have e6 := e6.same s10
    have e7 := e7.same s10
    have e8 := e8.same s10
    have e9 := e9.same s10
    have g10 : Errs H10 [V.ref q6, V.ref q7, V.ref q8, V.ref q9] [(a.c_InvalidPoles, [(("node" : Str), y)]), (a.c_InvalidPoles, [(("node" : Str), y)]), (a.c_InvalidHeights, [(("node" : Str), y)]), (a.c_InvalidHeights, [(("node" : Str), y)])] := (.cons e6 (.cons e7 (.cons e8 (.cons e9 .nil))))
    clear e6 e7 e8 e9
    refine ⟨L5, L10, _, _, rfl, rfl, eL5, eL10, szle (by simp), fun L11 hL11 => ?_⟩
    have fr11 := Lb.Same.free S hL11
    generalize e_H11 : upd _ L11 _ = H11
    obtain ⟨s11, eL11⟩ := al3 e_H11 hL11
    clear e_H11
    (try dsimp only at eL11)
    have S := S.trans s11
    have eL5 := s11 _ _ eL5
    have g5 := g5.same s11
    have eL10 := s11 _ _ eL10
    have g10 := g10.same s11
    have g11 := errs_app g5 g10
    clear eL5 g5 eL10 g10
    exact k _ _ _ S fr11 eL11 g11
theorem ok_with_pipe (T : Txt K mg a) : FnOk P w K mg base CX0 3 a.f_with_pipe a.d_with_pipe ["_law_tag"] (sp_list (cs_with_pipe a)) := by
  refine T.F_with_pipe.ok sc_with_pipe (fun vs H Q E h => ?_) (fun cdv A outer s H vs Q E hr h => ?_)
  · obtain ⟨y, rfl, _⟩ := h
    rfl
  · obtain ⟨y, rfl, k⟩ := h
    refine ⟨_, (pss_cons (ps_set (i := 1) sc_with_pipe.nd rfl (by first | exact Or.inl rfl | exact Or.inr rfl) (pe_lst (pa_cons (pe_err (T.xInvalidConductances.ox) T.xInvalidConductances.iC T.xInvalidConductances.tI (ok_InvalidConductances_init_ T) (hr.mono (by decide)) (b_InvalidConductances_init_ T) pass0 (by rfl) T.xInvalidConductances.mC (pa_cons (pv 0) pa_nil)) (pa_cons (pe_errK (T.xInvalidConductances.ox) T.xInvalidConductances.iC T.xInvalidConductances.tI (ok_InvalidConductances_init_ T) (hr.mono (by decide)) (kb_InvalidConductances_init_ T) pass0 (by rfl) T.xInvalidConductances.mC (pk_cons (pv 0) pk_nil)) (pa_cons (pe_err (T.xInvalidCurves.ox) T.xInvalidCurves.iC T.xInvalidCurves.tI (ok_InvalidCurves_init_ T) (hr.mono (by decide)) (b_InvalidCurves_init_ T) pass0 (by rfl) T.xInvalidCurves.mC (pa_cons (pv 0) pa_nil)) (pa_cons (pe_errK (T.xInvalidCurves.ox) T.xInvalidCurves.iC T.xInvalidCurves.tI (ok_InvalidCurves_init_ T) (hr.mono (by decide)) (kb_InvalidCurves_init_ T) pass0 (by rfl) T.xInvalidCurves.mC (pk_cons (pv 0) pk_nil)) pa_nil))))))
 (pss_cons (ps_set (i := 1) sc_with_pipe.nd rfl (by first | exact Or.inl rfl | exact Or.inr rfl) (pe_op op_cat (pv 1) (pe_lst (pa_cons (pe_err (T.xInvalidFlows.ox) T.xInvalidFlows.iC T.xInvalidFlows.tI (ok_InvalidFlows_init_ T) (hr.mono (by decide)) (b_InvalidFlows_init_ T) pass0 (by rfl) T.xInvalidFlows.mC (pa_cons (pv 0) pa_nil)) (pa_cons (pe_errK (T.xInvalidFlows.ox) T.xInvalidFlows.iC T.xInvalidFlows.tI (ok_InvalidFlows_init_ T) (hr.mono (by decide)) (kb_InvalidFlows_init_ T) pass0 (by rfl) T.xInvalidFlows.mC (pk_cons (pv 0) pk_nil)) (pa_cons (pe_err (T.xInvalidKinds.ox) T.xInvalidKinds.iC T.xInvalidKinds.tI (ok_InvalidKinds_init_ T) (hr.mono (by decide)) (b_InvalidKinds_init_ T) pass0 (by rfl) T.xInvalidKinds.mC (pa_cons (pv 0) pa_nil)) (pa_cons (pe_errK (T.xInvalidKinds.ox) T.xInvalidKinds.iC T.xInvalidKinds.tI (ok_InvalidKinds_init_ T) (hr.mono (by decide)) (kb_InvalidKinds_init_ T) pass0 (by rfl) T.xInvalidKinds.mC (pk_cons (pv 0) pk_nil)) pa_nil)))))))
 (pss_one (ps_ret (pe_op op_cat (pv 1) (pe_lst (pa_cons (pe_err (T.xIsBridge.ox) T.xIsBridge.iC T.xIsBridge.tI (ok_IsBridge_init_ T) (hr.mono (by decide)) (b_IsBridge_init_ T) pass0 (by rfl) T.xIsBridge.mC (pa_cons (pv 0) pa_nil)) (pa_cons (pe_errK (T.xIsBridge.ox) T.xIsBridge.iC T.xIsBridge.tI (ok_IsBridge_init_ T) (hr.mono (by decide)) (kb_IsBridge_init_ T) pass0 (by rfl) T.xIsBridge.mC (pk_cons (pv 0) pk_nil)) pa_nil)))))))), ?_⟩
    have S : Same H H := Same.refl H
    refine ⟨_, rfl, (show 1 ≤ 1000 by decide), fun q1 hq1 => ⟨q1, y, rfl, upd_same, fun dx hdx ne => ⟨rfl, ?_⟩⟩⟩
    obtain ⟨s1, e1⟩ := err_made2 (f := "pipe") (y := y) hq1 hdx ne
    generalize upd (upd (upd _ q1 _) dx _) q1 _ = H1 at s1 e1 ⊢
    clear dx hdx ne
    have S := S.trans s1
    have e1 := errV e1
    refine ⟨_, rfl, rfl, fun q2 hq2 => ⟨q2, y, rfl, upd_same, fun dx hdx ne => ⟨rfl, ?_⟩⟩⟩
    obtain ⟨s2, e2⟩ := err_made2 (f := "pipe") (y := y) hq2 hdx ne
    generalize upd (upd (upd _ q2 _) dx _) q2 _ = H2 at s2 e2 ⊢
    clear dx hdx ne
    have S := S.trans s2
    have e1 := e1.same s2
    have e2 := errV e2
    refine ⟨_, rfl, (show 1 ≤ 1000 by decide), fun q3 hq3 => ⟨q3, y, rfl, upd_same, fun dx hdx ne => ⟨rfl, ?_⟩⟩⟩
    obtain ⟨s3, e3⟩ := err_made2 (f := "pipe") (y := y) hq3 hdx ne
    generalize upd (upd (upd _ q3 _) dx _) q3 _ = H3 at s3 e3 ⊢
    clear dx hdx ne
    have S := S.trans s3
    have e1 := e1.same s3
    have e2 := e2.same s3
    have e3 := errV e3
    refine ⟨_, rfl, rfl, fun q4 hq4 => ⟨q4, y, rfl, upd_same, fun dx hdx ne => ⟨rfl, ?_⟩⟩⟩
    obtain ⟨s4, e4⟩ := err_made2 (f := "pipe") (y := y) hq4 hdx ne
    generalize upd (upd (upd _ q4 _) dx _) q4 _ = H4 at s4 e4 ⊢
    clear dx hdx ne
    have S := S.trans s4
    have e1 := e1.same s4
    have e2 := e2.same s4
    have e3 := e3.same s4
    have e4 := errV e4
    refine ⟨sz, fun L5 hL5 => ?_⟩
    have fr5 := Lb.Same.free S hL5
    generalize e_H5 : upd _ L5 _ = H5
    obtain ⟨s5, eL5⟩ := al3 e_H5 hL5
    clear e_H5
    (try dsimp only at eL5)
    have S := S.trans s5
    have e1 := e1.same s5
    have e2 := e2.same s5
    have e3 := e3.same s5
    have e4 := e4.same s5
    have g5 : Errs H5 [V.ref q1, V.ref q2, V.ref q3, V.ref q4] [(a.c_InvalidConductances, [(("pipe" : Str), y)]), (a.c_InvalidConductances, [(("pipe" : Str), y)]), (a.c_InvalidCurves, [(("pipe" : Str), y)]), (a.c_InvalidCurves, [(("pipe" : Str), y)])] := (.cons e1 (.cons e2 (.cons e3 (.cons e4 .nil))))
    clear e1 e2 e3 e4
    refine ⟨_, rfl, ?_⟩
    refine ⟨_, rfl, (show 1 ≤ 1000 by decide), fun q6 hq6 => ⟨q6, y, rfl, upd_same, fun dx hdx ne => ⟨rfl, ?_⟩⟩⟩
    obtain ⟨s6, e6⟩ := err_made2 (f := "pipe") (y := y) hq6 hdx ne
    generalize upd (upd (upd _ q6 _) dx _) q6 _ = H6 at s6 e6 ⊢
    clear dx hdx ne
    have S := S.trans s6
    have eL5 := s6 _ _ eL5
    have g5 := g5.same s6
    have e6 := errV e6
    refine ⟨_, rfl, rfl, fun q7 hq7 => ⟨q7, y, rfl, upd_same, fun dx hdx ne => ⟨rfl, ?_⟩⟩⟩
    obtain ⟨s7, e7⟩ := err_made2 (f := "pipe") (y := y) hq7 hdx ne
    generalize upd (upd (upd _ q7 _) dx _) q7 _ = H7 at s7 e7 ⊢
    clear dx hdx ne
    have S := S.trans s7
    have eL5 := s7 _ _ eL5
    have g5 := g5.same s7
    have e6 := e6.same s7
    have e7 := errV e7
    refine ⟨_, rfl, (show 1 ≤ 1000 by decide), fun q8 hq8 => ⟨q8, y, rfl, upd_same, fun dx hdx ne => ⟨rfl, ?_⟩⟩⟩
    obtain ⟨s8, e8⟩ := err_made2 (f := "pipe") (y := y) hq8 hdx ne
    generalize upd (upd (upd _ q8 _) dx _) q8 _ = H8 at s8 e8 ⊢
    clear dx hdx ne
    have S := S.trans s8
    have eL5 := s8 _ _ eL5
    have g5 := g5.same s8
    have e6 := e6.same s8
    have e7 := e7.same s8
    have e8 := errV e8
    refine ⟨_, rfl, rfl, fun q9 hq9 => ⟨q9, y, rfl, upd_same, fun dx hdx ne => ⟨rfl, ?_⟩⟩⟩
    obtain ⟨s9, e9⟩ := err_made2 (f := "pipe") (y := y) hq9 hdx ne
    generalize upd (upd (upd _ q9 _) dx _) q9 _ = H9 at s9 e9 ⊢
    clear dx hdx ne
    have S := S.trans s9
    have eL5 := s9 _ _ eL5
    have g5 := g5.same s9
    have e6 := e6.same s9
    have e7 := e7.same s9
    have e8 := e8.same s9
    have e9 := errV e9
    refine ⟨sz, fun L10 hL10 => ?_⟩
    have fr10 := Lb.Same.free S hL10
    generalize e_H10 : upd _ L10 _ = H10
    obtain ⟨s10, eL10⟩ := al3 e_H10 hL10
    clear e_H10
    (try dsimp only at eL10)
    have S := S.trans s10
    have eL5 := s10 _ _ eL5
    have g5 := g5.same s10
    have e6 := e6.same s10
    have e7 := e7.same s10
    have e8 := e8.same s10
    have e9 := e9.same s10
    have g10 : Errs H10 [V.ref q6, V.ref q7, V.ref q8, V.ref q9] [(a.c_InvalidFlows, [(("pipe" : Str), y)]), (a.c_InvalidFlows, [(("pipe" : Str), y)]), (a.c_InvalidKinds, [(("pipe" : Str), y)]), (a.c_InvalidKinds, [(("pipe" : Str), y)])] := (.cons e6 (.cons e7 (.cons e8 (.cons e9 .nil))))
    clear e6 e7 e8 e9
    refine ⟨L5, L10, _, _, rfl, rfl, eL5, eL10, szle (by simp), fun L11 hL11 => ?_⟩
    have fr11 := Lb.Same.free S hL11
    generalize e_H11 : upd _ L11 _ = H11
    obtain ⟨s11, eL11⟩ := al3 e_H11 hL11
    clear e_H11
    (try dsimp only at eL11)
    have S := S.trans s11
    have eL5 := s11 _ _ eL5
    have g5 := g5.same s11
    have eL10 := s11 _ _ eL10
    have g10 := g10.same s11
    have g11 := errs_app g5 g10
    clear eL5 g5 eL10 g10
    refine ⟨_, rfl, ?_⟩
    refine ⟨_, rfl, (show 1 ≤ 1000 by decide), fun q12 hq12 => ⟨q12, y, rfl, upd_same, fun dx hdx ne => ⟨rfl, ?_⟩⟩⟩
    obtain ⟨s12, e12⟩ := err_made2 (f := "pipe") (y := y) hq12 hdx ne
    generalize upd (upd (upd _ q12 _) dx _) q12 _ = H12 at s12 e12 ⊢
    clear dx hdx ne
    have S := S.trans s12
    have eL11 := s12 _ _ eL11
    have g11 := g11.same s12
    have e12 := errV e12
    refine ⟨_, rfl, rfl, fun q13 hq13 => ⟨q13, y, rfl, upd_same, fun dx hdx ne => ⟨rfl, ?_⟩⟩⟩
    obtain ⟨s13, e13⟩ := err_made2 (f := "pipe") (y := y) hq13 hdx ne
    generalize upd (upd (upd _ q13 _) dx _) q13 _ = H13 at s13 e13 ⊢
    clear dx hdx ne
    have S := S.trans s13
    have eL11 := s13 _ _ eL11
    have g11 := g11.same s13
    have e12 := e12.same s13
    have e13 := errV e13
    refine ⟨sz, fun L14 hL14 => ?_⟩
    have fr14 := Lb.Same.free S hL14
    generalize e_H14 : upd _ L14 _ = H14
    obtain ⟨s14, eL14⟩ := al3 e_H14 hL14
    clear e_H14
    (try dsimp only at eL14)
    have S := S.trans s14
    have eL11 := s14 _ _ eL11
    have g11 := g11.same s14
    have e12 := e12.same s14
    have e13 := e13.same s14
    have g14 : Errs H14 [V.ref q12, V.ref q13] [(a.c_IsBridge, [(("pipe" : Str), y)]), (a.c_IsBridge, [(("pipe" : Str), y)])] := (.cons e12 (.cons e13 .nil))
    clear e12 e13
    refine ⟨L11, L14, _, _, rfl, rfl, eL11, eL14, szle (by simp), fun L15 hL15 => ?_⟩
    have fr15 := Lb.Same.free S hL15
    generalize e_H15 : upd _ L15 _ = H15
    obtain ⟨s15, eL15⟩ := al3 e_H15 hL15
    clear e_H15
    (try dsimp only at eL15)
    have S := S.trans s15
    have eL11 := s15 _ _ eL11
    have g11 := g11.same s15
    have eL14 := s15 _ _ eL14
    have g14 := g14.same s15
    have g15 := errs_app g11 g14
    clear eL11 g11 eL14 g14
    exact k _ _ _ S fr15 eL15 g15
end
end K10

set_option Elab.async false
set_option linter.all false
set_option maxRecDepth 100000
set_option maxHeartbeats 4000000
set_option exponentiation.threshold 10000
namespace K10
open PySem L2 Lb
open PySem.Spec PyProof.Rows
/-- what an error may keep: data -/
inductive Pl where
  | non | bl (b : Bool) | int (i : Int) | str (z : Str)
def Pl.v : Pl → V
  | .non => .non
  | .bl b => .bl b
  | .int i => .int i
  | .str z => .str z
def Pl.d : Pl → PyData
  | .non => .none
  | .bl b => .bool b
  | .int i => .int i
  | .str z => .str z
def Pl.ok : Pl → Prop
  | .int i => i.natAbs ≤ 1000000
  | .str z => (reprText z).length ≤ 1000
  | _ => True
inductive Od where
  | pl (x : Pl) | tp (l : List Pl) | ls | di
def Od.text : Od → Str
  | .pl x => x.d.shown
  | .tp l => tupleText (l.map fun x => x.d.shown)
  | .ls => listText []
  | .di => (PyData.dict []).shown
def Od.ok : Od → Prop
  | .pl x => x.ok
  | .tp l => (∀ x ∈ l, x.ok) ∧ (tupleText (l.map fun x => x.d.shown)).length ≤ 1000
  | _ => True
instance : DecidablePred Pl.ok := fun x => by cases x <;> unfold Pl.ok <;> infer_instance
instance : DecidablePred Od.ok := fun x => by cases x <;> unfold Od.ok <;> infer_instance
/-- a value is such data; p is the pot -/
def OdAt (p : Addr) (H : Hp) : Od → V → Prop
  | .pl x, v => v = x.v
  | .tp l, v => ∃ a, v = .ref a ∧ H a = some (.tup (l.map Pl.v))
  | .ls, v => ∃ a, v = .ref a ∧ a ≠ p ∧ H a = some (.lst [])
  | .di, v => ∃ a, v = .ref a ∧ H a = some (.dK [])
theorem OdAt.same {p : Addr} {H H' : Hp} (s : Same H H') : ∀ {o : Od} {v : V}, OdAt p H o v → OdAt p H' o v
  | .pl _, _, h => h
  | .tp _, _, ⟨a, e, h⟩ => ⟨a, e, s _ _ h⟩
  | .ls, _, ⟨a, e, n, h⟩ => ⟨a, e, n, s _ _ h⟩
  | .di, _, ⟨a, e, h⟩ => ⟨a, e, s _ _ h⟩
theorem OdAt.mov {p : Addr} {H H' : Hp} (hp : PotAt H p) (m : Mov p H H') : ∀ {o : Od} {v : V}, OdAt p H o v → OdAt p H' o v
  | .pl _, _, h => h
  | .tp _, _, ⟨a, e, h⟩ => ⟨a, e, m.keep _ _ (fun z => by obtain ⟨_, _, q, _⟩ := hp; rw [z, q] at h; cases h) h⟩
  | .ls, _, ⟨a, e, n, h⟩ => ⟨a, e, n, m.keep _ _ n h⟩
  | .di, _, ⟨a, e, h⟩ => ⟨a, e, m.keep _ _ (fun z => by obtain ⟨_, _, q, _⟩ := hp; rw [z, q] at h; cases h) h⟩
theorem il {i : Int} (h : i.natAbs ≤ 1000000) : i.natAbs.log2 < 1920 := by
  rcases Nat.eq_zero_or_pos i.natAbs with e | e
  · rw [e]; decide
  · exact (Nat.log2_lt (by omega)).mpr (Nat.lt_of_le_of_lt h (Nat.lt_of_lt_of_le (by decide : 1000000 < 2 ^ 20) (Nat.pow_le_pow_right (by decide) (by decide))))
theorem ll {i : Int} (h : i.natAbs ≤ 1000000) : (PyData.int i).shown.length ≤ sizeLine := int_text_fits (il h)
theorem tx (l : List Pl) : Tr.texts (l.map fun x => Tr.lf x.d.shown) = l.map fun x => x.d.shown := by
  rw [texts_map, List.map_map]
  rfl
theorem dx0 : ∀ l : List Pl, Tr.deps (l.map fun x => Tr.lf x.d.shown) = 0
  | [] => rfl
  | x :: l => by simp only [List.map_cons, Tr.deps, Tr.dep, dx0 l, Nat.max_self]
theorem lf_pl {x : Pl} (h : x.ok) : Lf x.v x.d.shown := by
  cases x with
  | non => rfl
  | bl b => cases b <;> rfl
  | int i =>
    exact ⟨il h, rfl⟩
  | str z => rfl
theorem shs_pl {K : PySem.W.Frag} {H : Hp} : ∀ {l : List Pl}, (∀ x ∈ l, x.ok) → Shs K OEmpty H (l.map fun x => Tr.lf x.d.shown) (l.map Pl.v)
  | [], _ => by simp only [List.map_nil, Shs]
  | x :: l, h => by
    simp only [List.map_cons, Shs]
    exact ⟨_, _, rfl, by simp only [Sh]; exact lf_pl (h x List.mem_cons_self), shs_pl fun y hy => h y (List.mem_cons_of_mem _ hy)⟩
def rOd : List V → Hp → VK → Prop := fun xs H Q => ∃ p v o, xs = [v] ∧ OdAt p H o v ∧ o.ok ∧ ∀ H', Same H H' → Q (.str o.text) H'
theorem call_od {X : Cx} {K : PySem.W.Frag} (hK : X.K = K) (hg : X.A.guards = some []) (hu : X.A.units + 8 + 64 < cLine) : CallR X (.builtin "repr") rOd := by
  subst hK
  intro pins s σ H xs us Q I r h
  obtain ⟨p, v, o, rfl, ha, ok, q⟩ := h
  cases o with
  | pl x =>
    obtain rfl : v = x.v := ha
    have q' := q H (Same.refl H)
    cases x with
    | non => exact call_repr (K := X.K) rfl hg (by omega) pins s σ H [.non] us Q I r ⟨.non, .none, rfl, .non, by decide, by decide +kernel, by decide, q'⟩
    | bl b => exact call_repr (K := X.K) rfl hg (by omega) pins s σ H [.bl b] us Q I r ⟨.bl b, .bool b, rfl, .bl b, by cases b <;> decide, by cases b <;> decide +kernel, by cases b <;> decide, q'⟩
    | int i =>
      have h : i.natAbs ≤ 1000000 := ok
      have hl := il h
      exact call_repr (K := X.K) rfl hg (by omega) pins s σ H [.int i] us Q I r ⟨.int i, .int i, rfl, .int i, by simpa [PyData.showable] using hl, ll h, Nat.zero_le _, q'⟩
    | str z => exact call_repr (K := X.K) rfl hg (by omega) pins s σ H [.str z] us Q I r ⟨.str z, .str z, rfl, .str z, rfl, Nat.le_trans (show (reprText z).length ≤ 1000 from ok) (by decide), Nat.zero_le _, q'⟩
  | tp l =>
    obtain ⟨a, rfl, e⟩ := ha
    exact call_show (K := X.K) (O := OEmpty) (D := 8) rfl hg hu own_empty (ow_empty hu) pins s σ H [.ref a] us Q I r
      ⟨.ref a, .tp (l.map fun x => Tr.lf x.d.shown), rfl, by simp only [Sh]; exact ⟨a, _, rfl, SqT.of e, shs_pl ok.1⟩, ⟨_, .inr rfl⟩, by show (tupleText (Tr.texts _)).length ≤ sizeLine; rw [tx]; exact Nat.le_trans ok.2 (by decide), by show Tr.deps _ + 1 + 1 ≤ 8; rw [dx0]; decide, fun H' s' => by show Q (.str (tupleText (Tr.texts _))) H'; rw [tx]; exact q H' s'⟩
  | ls =>
    obtain ⟨a, rfl, _, e⟩ := ha
    exact call_show (K := X.K) (O := OEmpty) (D := 8) rfl hg hu own_empty (ow_empty hu) pins s σ H [.ref a] us Q I r
      ⟨.ref a, .ls [], rfl, by simp only [Sh, Shs]; exact ⟨a, [], rfl, SqL.of e, rfl⟩, ⟨_, .inl rfl⟩, (by decide +kernel), (by decide), fun H' s' => q H' s'⟩
  | di =>
    obtain ⟨a, rfl, e⟩ := ha
    exact call_reprDc (K := X.K) rfl hg (by omega) pins s σ H [.ref a] us Q I r ⟨a, [], [], rfl, e, .nil, rfl, rfl, (show _ ≤ sizeLine by decide +kernel), (by decide), q H (Same.refl H)⟩
end K10

set_option Elab.async false
set_option linter.all false
set_option maxRecDepth 100000
set_option maxHeartbeats 4000000
namespace K10
open PySem L2 Lb
theorem ne_pot {p l : Addr} {H : Hp} (hp : PotAt H p) (h : H l = none) : l ≠ p := by
  obtain ⟨_, _, e, _⟩ := hp
  exact Ne.symm (ne_of_none e h)
theorem pot_same {p : Addr} {H H' : Hp} (s : Same H H') (h : PotAt H p) : PotAt H' p := let ⟨x, y, e, r⟩ := h; ⟨x, y, s _ _ e, r⟩
/-- what the errors of one row are made of -/
structure PartsAt (C p : Addr) (H : Hp) (t : Addr) (o g : Od) (i : Pl) (x : Q2) (s : Str) (n : Int) : Prop where
  ex : ∃ vo vt q ws, H t = some (.tup [vo, vt, i.v, .ref q, .ref ws]) ∧ OdAt p H o vo ∧ OdAt p H g vt ∧ AmQ C H q x ∧ H ws = some (.tup [.str s, .int n])
  oo : o.ok
  og : g.ok
  oi : i.ok
  ow : (Od.tp [.str s, .int n]).ok
def sp_parts (C : Addr) : Sp := fun vs H Q _ => ∃ p, vs = [.ref p] ∧ PotAt H p ∧ ∀ H' t o g i x s n, Mov p H H' → H t = none → PartsAt C p H' t o g i x s n → Q (.ref t) H'
section
variable {P : Program} {w : World} {K : PySem.W.Frag} {mg : Str → Option Value} {base : Heap} {a : Ad}
theorem ok_parts (T : Txt K mg a) : FnOk P w K mg base CX0 5 a.f_parts a.d_parts ["_law_pot_here"] (sp_parts a.c_Amount) := by
  refine T.F_parts.ok sc_parts (fun vs H Q E h => ?_) (fun cdv A outer s H vs Q E hr h => ?_)
  · obtain ⟨p, rfl, _⟩ := h
    rfl
  · obtain ⟨p, rfl, hp, k⟩ := h
    refine ⟨_, (pss_cons (ps_set (i := 1) sc_parts.nd rfl (by first | exact Or.inl rfl | exact Or.inr rfl) (pe_call (ok_choice T) (hr.mono (by decide)) (by rfl) T.m_choice T.F_choice.kp (b_choice T) .nil pass0 (pa_cons (pv 0) (pa_cons (pe_lst (pa_cons pe_non (pa_cons pe_bl (pa_cons pe_str (pa_cons pe_str (pa_cons (pe_tup (pa_cons pe_int (pa_cons pe_int pa_nil))) (pa_cons (pe_lst pa_nil) (pa_cons pe_dnewK (pa_cons (pe_tup (pa_cons pe_str (pa_cons pe_str (pa_cons pe_int pa_nil)))) (pa_cons (pe_un un_neg pe_int) (pa_cons pe_int (pa_cons pe_str pa_nil)))))))))))) pa_nil))))
 (pss_cons (ps_set (i := 2) sc_parts.nd rfl (by first | exact Or.inl rfl | exact Or.inr rfl) (pe_call (ok_choice T) (hr.mono (by decide)) (by rfl) T.m_choice T.F_choice.kp (b_choice T) .nil pass0 (pa_cons (pv 0) (pa_cons (pe_lst (pa_cons pe_non (pa_cons pe_str (pa_cons pe_str (pa_cons pe_int (pa_cons pe_bl (pa_cons (pe_tup (pa_cons pe_str (pa_cons pe_str pa_nil))) (pa_cons pe_str pa_nil)))))))) pa_nil))))
 (pss_cons (ps_set (i := 3) sc_parts.nd rfl (by first | exact Or.inl rfl | exact Or.inr rfl) (pe_call (ok_choice T) (hr.mono (by decide)) (by rfl) T.m_choice T.F_choice.kp (b_choice T) .nil pass0 (pa_cons (pv 0) (pa_cons (pe_lst (pa_cons pe_non (pa_cons pe_int (pa_cons pe_int (pa_cons (pe_op op_add pe_int (pe_call (ok_draw T) (hr.mono (by decide)) (by rfl) T.m_draw T.F_draw.kp (b_draw T) .nil pass0 (pa_cons (pv 0) (pa_cons pe_int pa_nil)))) pa_nil))))) pa_nil))))
 (pss_cons (ps_set (i := 4) sc_parts.nd rfl (by first | exact Or.inl rfl | exact Or.inr rfl) (pe_make T.mkA (ok_Amount_init_ T) (hr.mono (by decide)) (by rfl) T.mA (b_Amount_init_ T) .nil pass0 (pa_cons (pe_op op_add pe_int (pe_call (ok_draw T) (hr.mono (by decide)) (by rfl) T.m_draw T.F_draw.kp (b_draw T) .nil pass0 (pa_cons (pv 0) (pa_cons (pe_op op_pow pe_int pe_int) pa_nil)))) (pa_cons (pe_call (ok_choice T) (hr.mono (by decide)) (by rfl) T.m_choice T.F_choice.kp (b_choice T) .nil pass0 (pa_cons (pv 0) (pa_cons (pe_lst (pa_cons pe_int (pa_cons pe_int (pa_cons (pe_un un_neg pe_int) pa_nil)))) pa_nil))) pa_nil))))
 (pss_cons (ps_set (i := 5) sc_parts.nd rfl (by first | exact Or.inl rfl | exact Or.inr rfl) (pe_call (ok_choice T) (hr.mono (by decide)) (by rfl) T.m_choice T.F_choice.kp (b_choice T) .nil pass0 (pa_cons (pv 0) (pa_cons (pe_lst (pa_cons (pe_tup (pa_cons pe_str (pa_cons pe_int pa_nil))) (pa_cons (pe_tup (pa_cons pe_str (pa_cons pe_int pa_nil))) (pa_cons (pe_tup (pa_cons pe_str (pa_cons pe_int pa_nil))) (pa_cons (pe_tup (pa_cons pe_str (pa_cons pe_int pa_nil))) pa_nil))))) pa_nil))))
 (pss_one (ps_ret (pe_tup (pa_cons (pv 1) (pa_cons (pv 2) (pa_cons (pv 3) (pa_cons (pv 4) (pa_cons (pv 5) pa_nil))))))))))))), ?_⟩
    refine ⟨_, rfl, sz, fun t1 ht1 => ?_⟩
    generalize e_H1 : upd _ t1 _ = H1
    obtain ⟨s1, e1⟩ := al3 e_H1 ht1
    clear e_H1
    (try dsimp only at e1)
    refine ⟨sz, fun t2 ht2 => ?_⟩
    generalize e_H2 : upd _ t2 _ = H2
    obtain ⟨s2, e2⟩ := al3 e_H2 ht2
    clear e_H2
    (try dsimp only at e2)
    show ∀ t3 : Addr, H2 t3 = none → _
    intro t3 ht3
    generalize e_H3 : upd _ t3 _ = H3
    obtain ⟨s3, e3⟩ := al3 e_H3 ht3
    clear e_H3
    (try dsimp only at e3)
    refine ⟨sz, fun t4 ht4 => ?_⟩
    generalize e_H4 : upd _ t4 _ = H4
    obtain ⟨s4, e4⟩ := al3 e_H4 ht4
    clear e_H4
    (try dsimp only at e4)
    refine ⟨_, rfl, sz, fun l1 hl1 => ?_⟩
    generalize e_H5 : upd _ l1 _ = H5
    obtain ⟨s5, e5⟩ := al3 e_H5 hl1
    clear e_H5
    (try dsimp only at e5)
    have M5 : Mov p H H5 := (((((Mov.refl hp).same s1).same s2).same s3).same s4).same s5
    have od1 : ∀ v ∈ [V.non, V.bl true, V.str "", V.str "A", V.ref t1, V.ref t2, V.ref t3, V.ref t4, V.int (-3), V.int 0, V.str "possible a >b"], ∃ o : Od, OdAt p H5 o v ∧ o.ok := by
      simp only [List.forall_mem_cons]
      exact ⟨⟨.pl .non, rfl, by decide⟩, ⟨.pl (.bl true), rfl, by decide⟩, ⟨.pl (.str ""), rfl, by decide +kernel⟩, ⟨.pl (.str "A"), rfl, by decide +kernel⟩, ⟨.tp [.int 2, .int 4], ⟨t1, rfl, s5 _ _ (s4 _ _ (s3 _ _ (s2 _ _ e1)))⟩, by decide +kernel⟩,
        ⟨.ls, ⟨t2, rfl, ne_pot (pot_same s1 hp) ht2, s5 _ _ (s4 _ _ (s3 _ _ e2))⟩, by decide⟩, ⟨.di, ⟨t3, rfl, s5 _ _ (s4 _ _ e3)⟩, by decide⟩, ⟨.tp [.str "a", .str ">", .int 0], ⟨t4, rfl, s5 _ _ e4⟩, by decide +kernel⟩,
        ⟨.pl (.int (-3)), rfl, by decide⟩, ⟨.pl (.int 0), rfl, by decide⟩, ⟨.pl (.str "possible a >b"), rfl, by decide +kernel⟩, fun _ h => nomatch h⟩
    refine ⟨p, l1, _, rfl, M5.pot, SqL.of e5, ne_pot (pot_same s4 (pot_same s3 (pot_same s2 (pot_same s1 hp)))) hl1, by simp, by simp, fun H6 i1 vo m6 g1 => ?_⟩
    obtain ⟨o, ao, oo⟩ := od1 vo (List.mem_of_getElem? g1)
    have ao := ao.mov M5.pot m6
    have M6 := M5.trans m6
    clear s1 s2 s3 s4 s5 e1 e2 e3 e4 e5 od1 g1
    refine ⟨_, rfl, sz, fun u1 hu1 => ?_⟩
    generalize e_H7 : upd _ u1 _ = H7
    obtain ⟨s7, e7⟩ := al3 e_H7 hu1
    clear e_H7
    (try dsimp only at e7)
    refine ⟨sz, fun l2 hl2 => ?_⟩
    generalize e_H8 : upd _ l2 _ = H8
    obtain ⟨s8, e8⟩ := al3 e_H8 hl2
    clear e_H8
    (try dsimp only at e8)
    have M8 := (M6.same s7).same s8
    have od2 : ∀ v ∈ [V.non, V.str "a", V.str "abcdefgh", V.int 7, V.bl true, V.ref u1, V.str "A"], ∃ o : Od, OdAt p H8 o v ∧ o.ok := by
      simp only [List.forall_mem_cons]
      exact ⟨⟨.pl .non, rfl, by decide⟩, ⟨.pl (.str "a"), rfl, by decide +kernel⟩, ⟨.pl (.str "abcdefgh"), rfl, by decide +kernel⟩, ⟨.pl (.int 7), rfl, by decide⟩, ⟨.pl (.bl true), rfl, by decide⟩, ⟨.tp [.str "a", .str "b"], ⟨u1, rfl, s8 _ _ e7⟩, by decide +kernel⟩, ⟨.pl (.str "A"), rfl, by decide +kernel⟩, fun _ h => nomatch h⟩
    refine ⟨p, l2, _, rfl, M8.pot, SqL.of e8, ne_pot (pot_same s7 M6.pot) hl2, by simp, by simp, fun H9 i2 vt m9 g2 => ?_⟩
    obtain ⟨g, ag, og⟩ := od2 vt (List.mem_of_getElem? g2)
    have ag := ag.mov M8.pot m9
    have ao := ((ao.same s7).same s8).mov M8.pot m9
    have M9 := M8.trans m9
    clear s7 s8 e7 e8 od2 g2
    -- the position
    refine ⟨_, rfl, _, rfl, p, _, rfl, M9.pot, by decide, by unfold Bd; decide, fun H10 d m10 d0 d1 => ⟨_, _, rfl, rfl, sz, fun l3 hl3 => ?_⟩⟩
    have ag := ag.mov M9.pot m10
    have ao := ao.mov M9.pot m10
    have M10 := M9.trans m10
    generalize e_H11 : upd _ l3 _ = H11
    obtain ⟨s11, e11⟩ := al3 e_H11 hl3
    clear e_H11
    (try dsimp only at e11)
    have M11 := M10.same s11
    have ag := ag.same s11
    have ao := ao.same s11
    have od3 : ∀ v ∈ [V.non, V.int 0, V.int 1, V.int (1 + d)], ∃ i : Pl, v = i.v ∧ i.ok := by
      simp only [List.forall_mem_cons]
      exact ⟨⟨.non, rfl, by decide⟩, ⟨.int 0, rfl, by decide⟩, ⟨.int 1, rfl, by decide⟩, ⟨.int (1 + d), rfl, (show (1 + d).natAbs ≤ 1000000 by omega)⟩, fun _ h => nomatch h⟩
    refine ⟨p, l3, _, rfl, M11.pot, SqL.of e11, ne_pot M10.pot hl3, by simp, by simp, fun H12 i3 va m12 g3 => ?_⟩
    obtain ⟨i, rfl, oi⟩ := od3 va (List.mem_of_getElem? g3)
    have ag := ag.mov M11.pot m12
    have ao := ao.mov M11.pot m12
    have M12 := M11.trans m12
    clear s11 e11 od3 g3
    -- the amount
    refine ⟨_, rfl, _, _, rfl, rfl, ⟨by decide, by decide, by decide⟩, p, _, rfl, M12.pot, by decide, by unfold Bd; decide, fun H13 d2 m13 c0 c1 => ⟨_, _, rfl, rfl, ?_⟩⟩
    have ag := ag.mov M12.pot m13
    have ao := ao.mov M12.pot m13
    have M13 := M12.trans m13
    refine ⟨_, rfl, _, rfl, sz, fun l4 hl4 => ?_⟩
    generalize e_H14 : upd _ l4 _ = H14
    obtain ⟨s14, e14⟩ := al3 e_H14 hl4
    clear e_H14
    (try dsimp only at e14)
    have M14 := M13.same s14
    have ag := ag.same s14
    have ao := ao.same s14
    have od4 : ∀ v ∈ [V.int 1, V.int 2, V.int (-7)], ∃ b : Int, v = .int b ∧ b ≠ 0 ∧ b.natAbs ≤ 7 := by
      simp only [List.forall_mem_cons]
      exact ⟨⟨1, rfl, by decide, by decide⟩, ⟨2, rfl, by decide, by decide⟩, ⟨-7, rfl, by decide, by decide⟩, fun _ h => nomatch h⟩
    refine ⟨p, l4, _, rfl, M14.pot, SqL.of e14, ne_pot M13.pot hl4, by simp, by simp, fun H15 i4 vb m15 g4 => ?_⟩
    obtain ⟨b, rfl, b0, b7⟩ := od4 vb (List.mem_of_getElem? g4)
    have ag := ag.mov M14.pot m15
    have ao := ao.mov M14.pot m15
    have M15 := M14.trans m15
    clear s14 e14 od4 g4
    have c1' : d2 < 1000000000 := c1
    refine fun x dx hx hdx ne => ⟨x, dx, _, b, rfl, b0, (show Bd 40 (1 + d2) by unfold Bd; omega).mono (by decide), (show Bd 40 b by unfold Bd; omega).mono (by decide), upd_same, fun H16 kp e => ⟨rfl, ?_⟩⟩
    obtain ⟨s16, aw⟩ := made_am hx hdx ne kp e
    have ag := ag.same s16
    have ao := ao.same s16
    have M16 := M15.same s16
    clear kp e
    -- the sort
    refine ⟨_, rfl, sz, fun w1 hw1 => ?_⟩
    generalize e_J1 : upd _ w1 _ = J1
    obtain ⟨y1, f1⟩ := al3 e_J1 hw1
    clear e_J1
    (try dsimp only at f1)
    refine ⟨sz, fun w2 hw2 => ?_⟩
    generalize e_J2 : upd _ w2 _ = J2
    obtain ⟨y2, f2⟩ := al3 e_J2 hw2
    clear e_J2
    (try dsimp only at f2)
    refine ⟨sz, fun w3 hw3 => ?_⟩
    generalize e_J3 : upd _ w3 _ = J3
    obtain ⟨y3, f3⟩ := al3 e_J3 hw3
    clear e_J3
    (try dsimp only at f3)
    refine ⟨sz, fun w4 hw4 => ?_⟩
    generalize e_J4 : upd _ w4 _ = J4
    obtain ⟨y4, f4⟩ := al3 e_J4 hw4
    clear e_J4
    (try dsimp only at f4)
    refine ⟨sz, fun l5 hl5 => ?_⟩
    generalize e_J5 : upd _ l5 _ = J5
    obtain ⟨y5, f5⟩ := al3 e_J5 hl5
    clear e_J5
    (try dsimp only at f5)
    have Y := (((y1.trans y2).trans y3).trans y4).trans y5
    have M17 := M16.same Y
    have od5 : ∀ v ∈ [V.ref w1, V.ref w2, V.ref w3, V.ref w4], ∃ (ws : Addr) (s : Str) (n : Int), v = .ref ws ∧ J5 ws = some (.tup [.str s, .int n]) ∧ (Od.tp [.str s, .int n]).ok := by
      simp only [List.forall_mem_cons]
      exact ⟨⟨w1, "nodes", 8, rfl, y5 _ _ (y4 _ _ (y3 _ _ (y2 _ _ f1))), by decide +kernel⟩, ⟨w2, "pipes", 16, rfl, y5 _ _ (y4 _ _ (y3 _ _ f2)), by decide +kernel⟩, ⟨w3, "points", 80, rfl, y5 _ _ (y4 _ _ f3), by decide +kernel⟩, ⟨w4, "readings", 16, rfl, y5 _ _ f4, by decide +kernel⟩, fun _ h => nomatch h⟩
    refine ⟨p, l5, _, rfl, M17.pot, SqL.of f5, ne_pot (pot_same (((y1.trans y2).trans y3).trans y4) M16.pot) hl5, by simp, by simp, fun J6 i5 vs m17 g5 => ?_⟩
    obtain ⟨ws, s, n, rfl, ew, ow⟩ := od5 vs (List.mem_of_getElem? g5)
    have ew := m17.tup M17.pot ew
    have ag := (ag.same Y).mov M17.pot m17
    have ao := (ao.same Y).mov M17.pot m17
    have aw := aw.same Y
    have aw : AmAt a.c_Amount J6 x (rdT (1 + d2) b) (rdB (1 + d2) b) := by
      obtain ⟨dy, aw⟩ := aw
      exact ⟨dy, m17.ins M17.pot aw⟩
    have M18 := M17.trans m17
    clear f5 od5 g5 y1 y2 y3 y4 y5 f1 f2 f3 f4
    refine ⟨_, rfl, _, rfl, _, rfl, _, rfl, _, rfl, sz, fun t ht => ?_⟩
    have fr := Mov.free M18 hp ht
    generalize e_J7 : upd _ t _ = J7
    obtain ⟨y7, f7⟩ := al3 e_J7 ht
    clear e_J7
    (try dsimp only at f7)
    exact k J7 t o g i (rdT (1 + d2) b, rdB (1 + d2) b) s n (M18.same y7) fr ⟨⟨vo, vt, x, ws, f7, ao.same y7, ag.same y7, aw.same y7, y7 _ _ ew⟩, oo, og, oi, ow⟩
end
end K10

set_option Elab.async false
set_option linter.all false
set_option maxRecDepth 100000
set_option maxHeartbeats 4000000
namespace K10
open PySem L2 Lb
def cs_others (a : Ad) (vt vi : V) (qw : Addr) (ws wn : V) : List (Addr × List (Str × V)) := ((([(a.c_InvalidPipes, [(("name" : Str), vt)]), (a.c_InvalidPipes, [(("name" : Str), vt)]), (a.c_Unbalanced, [(("total" : Str), (.ref qw))]), (a.c_Unbalanced, [(("total" : Str), (.ref qw))])] ++ [(a.c_InvalidText, [(("line" : Str), vi)]), (a.c_InvalidText, [(("line" : Str), vi)])]) ++ [(a.c_TooMany, [(("limit" : Str), wn), (("what" : Str), ws)]), (a.c_TooMany, [(("limit" : Str), wn), (("what" : Str), ws)])]) ++ [(a.c_Barred, []), (a.c_Barred, []), (a.c_NothingToUndo, []), (a.c_NothingToUndo, [])])
def sp_others (a : Ad) : Sp := fun vs H Q _ => ∃ (t : Addr) (vo vt vi : V) (qw sw : Addr) (ws wn : V), vs = [.ref t] ∧ H t = some (.tup [vo, vt, vi, .ref qw, .ref sw]) ∧ H sw = some (.tup [ws, wn]) ∧
  ∀ H' l es, Same H H' → H l = none → H' l = some (.lst es) → Errs H' es (cs_others a vt vi qw ws wn) → Q (.ref l) H'
section
variable {P : Program} {w : World} {K : PySem.W.Frag} {mg : Str → Option Value} {base : Heap} {a : Ad}
theorem ok_others (T : Txt K mg a) : FnOk P w K mg base CX0 3 a.f_others a.d_others ["_law_parts_here"] (sp_others a) := by
  refine T.F_others.ok sc_others (fun vs H Q E h => ?_) (fun cdv A outer s H vs Q E hr h => ?_)
  · obtain ⟨t, vo, vt, vi, qw, sw, ws, wn, rfl, _⟩ := h
    rfl
  · obtain ⟨t, vo, vt, vi, qw, sw, ws, wn, rfl, et, eLws, k⟩ := h
    refine ⟨_, (pss_cons (ps_asg (pv 0) (pg_tupK (K := K) (n := 5) rfl rfl (pgs_cons (pg_name (i := 1) sc_others.nd rfl (by first | exact Or.inl rfl | exact Or.inr rfl)) (pgs_cons (pg_name (i := 2) sc_others.nd rfl (by first | exact Or.inl rfl | exact Or.inr rfl)) (pgs_cons (pg_name (i := 3) sc_others.nd rfl (by first | exact Or.inl rfl | exact Or.inr rfl)) (pgs_cons (pg_name (i := 4) sc_others.nd rfl (by first | exact Or.inl rfl | exact Or.inr rfl)) (pgs_cons (pg_name (i := 5) sc_others.nd rfl (by first | exact Or.inl rfl | exact Or.inr rfl)) pgs_nil)))))))
 (pss_cons (ps_set (i := 6) sc_others.nd rfl (by first | exact Or.inl rfl | exact Or.inr rfl) (pe_lst (pa_cons (pe_err (T.xInvalidPipes.ox) T.xInvalidPipes.iC T.xInvalidPipes.tI (ok_InvalidPipes_init_ T) (hr.mono (by decide)) (b_InvalidPipes_init_ T) pass0 (by rfl) T.xInvalidPipes.mC (pa_cons (pv 2) pa_nil)) (pa_cons (pe_errK (T.xInvalidPipes.ox) T.xInvalidPipes.iC T.xInvalidPipes.tI (ok_InvalidPipes_init_ T) (hr.mono (by decide)) (kb_InvalidPipes_init_ T) pass0 (by rfl) T.xInvalidPipes.mC (pk_cons (pv 2) pk_nil)) (pa_cons (pe_err (T.xUnbalanced.ox) T.xUnbalanced.iC T.xUnbalanced.tI (ok_Unbalanced_init_ T) (hr.mono (by decide)) (b_Unbalanced_init_ T) pass0 (by rfl) T.xUnbalanced.mC (pa_cons (pv 4) pa_nil)) (pa_cons (pe_errK (T.xUnbalanced.ox) T.xUnbalanced.iC T.xUnbalanced.tI (ok_Unbalanced_init_ T) (hr.mono (by decide)) (kb_Unbalanced_init_ T) pass0 (by rfl) T.xUnbalanced.mC (pk_cons (pv 4) pk_nil)) pa_nil))))))
 (pss_cons (ps_set (i := 6) sc_others.nd rfl (by first | exact Or.inl rfl | exact Or.inr rfl) (pe_op op_cat (pv 6) (pe_lst (pa_cons (pe_err (T.xInvalidText.ox) T.xInvalidText.iC T.xInvalidText.tI (ok_InvalidText_init_ T) (hr.mono (by decide)) (b_InvalidText_init_ T) pass0 (by rfl) T.xInvalidText.mC (pa_cons (pv 3) pa_nil)) (pa_cons (pe_errK (T.xInvalidText.ox) T.xInvalidText.iC T.xInvalidText.tI (ok_InvalidText_init_ T) (hr.mono (by decide)) (kb_InvalidText_init_ T) pass0 (by rfl) T.xInvalidText.mC (pk_cons (pv 3) pk_nil)) pa_nil)))))
 (pss_cons (ps_set (i := 6) sc_others.nd rfl (by first | exact Or.inl rfl | exact Or.inr rfl) (pe_op op_cat (pv 6) (pe_lst (pa_cons (pe_err (T.xTooMany.ox) T.xTooMany.iC T.xTooMany.tI (ok_TooMany_init_ T) (hr.mono (by decide)) (b_TooMany_init_ T) pass0 (by rfl) T.xTooMany.mC (pa_cons (pe_ix (ix_tupK (K := K) rfl) (pv 5) pe_int (fun _ _ => rfl)) (pa_cons (pe_ix (ix_tupK (K := K) rfl) (pv 5) pe_int (fun _ _ => rfl)) pa_nil))) (pa_cons (pe_errK (T.xTooMany.ox) T.xTooMany.iC T.xTooMany.tI (ok_TooMany_init_ T) (hr.mono (by decide)) (kb_TooMany_init_ T) pass0 (by rfl) T.xTooMany.mC (pk_cons (pe_ix (ix_tupK (K := K) rfl) (pv 5) pe_int (fun _ _ => rfl)) (pk_cons (pe_ix (ix_tupK (K := K) rfl) (pv 5) pe_int (fun _ _ => rfl)) pk_nil))) pa_nil)))))
 (pss_one (ps_ret (pe_op op_cat (pv 6) (pe_lst (pa_cons (pe_err0 (T.xBarred.ox) T.xBarred.iC T.xBarred.tI (ok_Barred_init_ T) (hr.mono (by decide)) (b_Barred_init_ T) pass0 (by rfl) T.xBarred.mC) (pa_cons (pe_err0 (T.xBarred.ox) T.xBarred.iC T.xBarred.tI (ok_Barred_init_ T) (hr.mono (by decide)) (b_Barred_init_ T) pass0 (by rfl) T.xBarred.mC) (pa_cons (pe_err0 (T.xNothingToUndo.ox) T.xNothingToUndo.iC T.xNothingToUndo.tI (ok_NothingToUndo_init_ T) (hr.mono (by decide)) (b_NothingToUndo_init_ T) pass0 (by rfl) T.xNothingToUndo.mC) (pa_cons (pe_err0 (T.xNothingToUndo.ox) T.xNothingToUndo.iC T.xNothingToUndo.tI (ok_NothingToUndo_init_ T) (hr.mono (by decide)) (b_NothingToUndo_init_ T) pass0 (by rfl) T.xNothingToUndo.mC) pa_nil)))))))))))), ?_⟩
    have S : Same H H := Same.refl H
    refine ⟨_, rfl, _, _, rfl, SqT.of et, rfl, _, _, rfl, _, _, rfl, _, _, rfl, _, _, rfl, _, _, rfl, rfl, ?_⟩
    refine ⟨_, rfl, (show 1 ≤ 1000 by decide), fun q1 hq1 => ⟨q1, vt, rfl, upd_same, fun dx hdx ne => ⟨rfl, ?_⟩⟩⟩
    obtain ⟨s1, e1⟩ := err_made2 (f := "name") (y := vt) hq1 hdx ne
    generalize upd (upd (upd _ q1 _) dx _) q1 _ = H1 at s1 e1 ⊢
    clear dx hdx ne
    have S := S.trans s1
    have eLws := s1 _ _ eLws
    have e1 := errV e1
    refine ⟨_, rfl, rfl, fun q2 hq2 => ⟨q2, vt, rfl, upd_same, fun dx hdx ne => ⟨rfl, ?_⟩⟩⟩
    obtain ⟨s2, e2⟩ := err_made2 (f := "name") (y := vt) hq2 hdx ne
    generalize upd (upd (upd _ q2 _) dx _) q2 _ = H2 at s2 e2 ⊢
    clear dx hdx ne
    have S := S.trans s2
    have eLws := s2 _ _ eLws
    have e1 := e1.same s2
    have e2 := errV e2
    refine ⟨_, rfl, (show 1 ≤ 1000 by decide), fun q3 hq3 => ⟨q3, (.ref qw), rfl, upd_same, fun dx hdx ne => ⟨rfl, ?_⟩⟩⟩
    obtain ⟨s3, e3⟩ := err_made2 (f := "total") (y := (.ref qw)) hq3 hdx ne
    generalize upd (upd (upd _ q3 _) dx _) q3 _ = H3 at s3 e3 ⊢
    clear dx hdx ne
    have S := S.trans s3
    have eLws := s3 _ _ eLws
    have e1 := e1.same s3
    have e2 := e2.same s3
    have e3 := errV e3
    refine ⟨_, rfl, rfl, fun q4 hq4 => ⟨q4, (.ref qw), rfl, upd_same, fun dx hdx ne => ⟨rfl, ?_⟩⟩⟩
    obtain ⟨s4, e4⟩ := err_made2 (f := "total") (y := (.ref qw)) hq4 hdx ne
    generalize upd (upd (upd _ q4 _) dx _) q4 _ = H4 at s4 e4 ⊢
    clear dx hdx ne
    have S := S.trans s4
    have eLws := s4 _ _ eLws
    have e1 := e1.same s4
    have e2 := e2.same s4
    have e3 := e3.same s4
    have e4 := errV e4
    refine ⟨sz, fun L5 hL5 => ?_⟩
    have fr5 := Lb.Same.free S hL5
    generalize e_H5 : upd _ L5 _ = H5
    obtain ⟨s5, eL5⟩ := al3 e_H5 hL5
    clear e_H5
    (try dsimp only at eL5)
    have S := S.trans s5
    have eLws := s5 _ _ eLws
    have e1 := e1.same s5
    have e2 := e2.same s5
    have e3 := e3.same s5
    have e4 := e4.same s5
    have g5 : Errs H5 [V.ref q1, V.ref q2, V.ref q3, V.ref q4] [(a.c_InvalidPipes, [(("name" : Str), vt)]), (a.c_InvalidPipes, [(("name" : Str), vt)]), (a.c_Unbalanced, [(("total" : Str), (.ref qw))]), (a.c_Unbalanced, [(("total" : Str), (.ref qw))])] := (.cons e1 (.cons e2 (.cons e3 (.cons e4 .nil))))
    clear e1 e2 e3 e4
    refine ⟨_, rfl, ?_⟩
    refine ⟨_, rfl, (show 1 ≤ 1000 by decide), fun q6 hq6 => ⟨q6, vi, rfl, upd_same, fun dx hdx ne => ⟨rfl, ?_⟩⟩⟩
    obtain ⟨s6, e6⟩ := err_made2 (f := "line") (y := vi) hq6 hdx ne
    generalize upd (upd (upd _ q6 _) dx _) q6 _ = H6 at s6 e6 ⊢
    clear dx hdx ne
    have S := S.trans s6
    have eLws := s6 _ _ eLws
    have eL5 := s6 _ _ eL5
    have g5 := g5.same s6
    have e6 := errV e6
    refine ⟨_, rfl, rfl, fun q7 hq7 => ⟨q7, vi, rfl, upd_same, fun dx hdx ne => ⟨rfl, ?_⟩⟩⟩
    obtain ⟨s7, e7⟩ := err_made2 (f := "line") (y := vi) hq7 hdx ne
    generalize upd (upd (upd _ q7 _) dx _) q7 _ = H7 at s7 e7 ⊢
    clear dx hdx ne
    have S := S.trans s7
    have eLws := s7 _ _ eLws
    have eL5 := s7 _ _ eL5
    have g5 := g5.same s7
    have e6 := e6.same s7
    have e7 := errV e7
    refine ⟨sz, fun L8 hL8 => ?_⟩
    have fr8 := Lb.Same.free S hL8
    generalize e_H8 : upd _ L8 _ = H8
    obtain ⟨s8, eL8⟩ := al3 e_H8 hL8
    clear e_H8
    (try dsimp only at eL8)
    have S := S.trans s8
    have eLws := s8 _ _ eLws
    have eL5 := s8 _ _ eL5
    have g5 := g5.same s8
    have e6 := e6.same s8
    have e7 := e7.same s8
    have g8 : Errs H8 [V.ref q6, V.ref q7] [(a.c_InvalidText, [(("line" : Str), vi)]), (a.c_InvalidText, [(("line" : Str), vi)])] := (.cons e6 (.cons e7 .nil))
    clear e6 e7
    refine ⟨L5, L8, _, _, rfl, rfl, eL5, eL8, szle (by simp), fun L9 hL9 => ?_⟩
    have fr9 := Lb.Same.free S hL9
    generalize e_H9 : upd _ L9 _ = H9
    obtain ⟨s9, eL9⟩ := al3 e_H9 hL9
    clear e_H9
    (try dsimp only at eL9)
    have S := S.trans s9
    have eLws := s9 _ _ eLws
    have eL5 := s9 _ _ eL5
    have g5 := g5.same s9
    have eL8 := s9 _ _ eL8
    have g8 := g8.same s9
    have g9 := errs_app g5 g8
    clear eL5 g5 eL8 g8
    refine ⟨_, rfl, ?_⟩
    refine ⟨_, rfl, _, _, _, _, rfl, rfl, SqT.of eLws, atI_nat (j := 0) rfl, _, rfl, _, _, _, _, rfl, rfl, SqT.of eLws, atI_nat (j := 1) rfl, (show 2 ≤ 1000 by decide), fun q10 hq10 => ⟨q10, ws, wn, rfl, upd_same, fun dx hdx ne => ⟨rfl, ?_⟩⟩⟩
    obtain ⟨s10, e10⟩ := err_made3 (f := "what") (g := "limit") (y := ws) (z := wn) hq10 hdx ne
    generalize upd (upd (upd (upd _ q10 _) dx _) q10 _) dx _ = H10 at s10 e10 ⊢
    clear dx hdx ne
    have S := S.trans s10
    have eLws := s10 _ _ eLws
    have eL9 := s10 _ _ eL9
    have g9 := g9.same s10
    have e10 := errV e10
    refine ⟨_, rfl, _, _, _, _, rfl, rfl, SqT.of eLws, atI_nat (j := 1) rfl, _, rfl, _, _, _, _, rfl, rfl, SqT.of eLws, atI_nat (j := 0) rfl, rfl, fun q11 hq11 => ⟨q11, ws, wn, rfl, upd_same, fun dx hdx ne => ⟨rfl, ?_⟩⟩⟩
    obtain ⟨s11, e11⟩ := err_made3 (f := "what") (g := "limit") (y := ws) (z := wn) hq11 hdx ne
    generalize upd (upd (upd (upd _ q11 _) dx _) q11 _) dx _ = H11 at s11 e11 ⊢
    clear dx hdx ne
    have S := S.trans s11
    have eLws := s11 _ _ eLws
    have eL9 := s11 _ _ eL9
    have g9 := g9.same s11
    have e10 := e10.same s11
    have e11 := errV e11
    refine ⟨sz, fun L12 hL12 => ?_⟩
    have fr12 := Lb.Same.free S hL12
    generalize e_H12 : upd _ L12 _ = H12
    obtain ⟨s12, eL12⟩ := al3 e_H12 hL12
    clear e_H12
    (try dsimp only at eL12)
    have S := S.trans s12
    have eLws := s12 _ _ eLws
    have eL9 := s12 _ _ eL9
    have g9 := g9.same s12
    have e10 := e10.same s12
    have e11 := e11.same s12
    have g12 : Errs H12 [V.ref q10, V.ref q11] [(a.c_TooMany, [(("limit" : Str), wn), (("what" : Str), ws)]), (a.c_TooMany, [(("limit" : Str), wn), (("what" : Str), ws)])] := (.cons e10 (.cons e11 .nil))
    clear e10 e11
    refine ⟨L9, L12, _, _, rfl, rfl, eL9, eL12, szle (by simp), fun L13 hL13 => ?_⟩
    have fr13 := Lb.Same.free S hL13
    generalize e_H13 : upd _ L13 _ = H13
    obtain ⟨s13, eL13⟩ := al3 e_H13 hL13
    clear e_H13
    (try dsimp only at eL13)
    have S := S.trans s13
    have eLws := s13 _ _ eLws
    have eL9 := s13 _ _ eL9
    have g9 := g9.same s13
    have eL12 := s13 _ _ eL12
    have g12 := g12.same s13
    have g13 := errs_app g9 g12
    clear eL9 g9 eL12 g12
    refine ⟨_, rfl, ?_⟩
    refine ⟨(show 0 ≤ 1000 by decide), fun q14 hq14 => ⟨q14, rfl, ⟨rfl, ?_⟩⟩⟩
    obtain ⟨s14, e14⟩ := err_made0 (C := a.c_Barred) hq14
    generalize upd _ q14 _ = H14 at s14 e14 ⊢
    have S := S.trans s14
    have eLws := s14 _ _ eLws
    have eL13 := s14 _ _ eL13
    have g13 := g13.same s14
    refine ⟨(show 0 ≤ 1000 by decide), fun q15 hq15 => ⟨q15, rfl, ⟨rfl, ?_⟩⟩⟩
    obtain ⟨s15, e15⟩ := err_made0 (C := a.c_Barred) hq15
    generalize upd _ q15 _ = H15 at s15 e15 ⊢
    have S := S.trans s15
    have eLws := s15 _ _ eLws
    have eL13 := s15 _ _ eL13
    have g13 := g13.same s15
    have e14 := e14.same s15
    refine ⟨(show 0 ≤ 1000 by decide), fun q16 hq16 => ⟨q16, rfl, ⟨rfl, ?_⟩⟩⟩
    obtain ⟨s16, e16⟩ := err_made0 (C := a.c_NothingToUndo) hq16
    generalize upd _ q16 _ = H16 at s16 e16 ⊢
    have S := S.trans s16
    have eLws := s16 _ _ eLws
    have eL13 := s16 _ _ eL13
    have g13 := g13.same s16
    have e14 := e14.same s16
    have e15 := e15.same s16
    refine ⟨(show 0 ≤ 1000 by decide), fun q17 hq17 => ⟨q17, rfl, ⟨rfl, ?_⟩⟩⟩
    obtain ⟨s17, e17⟩ := err_made0 (C := a.c_NothingToUndo) hq17
    generalize upd _ q17 _ = H17 at s17 e17 ⊢
    have S := S.trans s17
    have eLws := s17 _ _ eLws
    have eL13 := s17 _ _ eL13
    have g13 := g13.same s17
    have e14 := e14.same s17
    have e15 := e15.same s17
    have e16 := e16.same s17
    refine ⟨sz, fun L18 hL18 => ?_⟩
    have fr18 := Lb.Same.free S hL18
    generalize e_H18 : upd _ L18 _ = H18
    obtain ⟨s18, eL18⟩ := al3 e_H18 hL18
    clear e_H18
    (try dsimp only at eL18)
    have S := S.trans s18
    have eLws := s18 _ _ eLws
    have eL13 := s18 _ _ eL13
    have g13 := g13.same s18
    have e14 := e14.same s18
    have e15 := e15.same s18
    have e16 := e16.same s18
    have e17 := e17.same s18
    have g18 : Errs H18 [V.ref q14, V.ref q15, V.ref q16, V.ref q17] [(a.c_Barred, []), (a.c_Barred, []), (a.c_NothingToUndo, []), (a.c_NothingToUndo, [])] := (.cons e14 (.cons e15 (.cons e16 (.cons e17 .nil))))
    clear e14 e15 e16 e17
    refine ⟨L13, L18, _, _, rfl, rfl, eL13, eL18, szle (by simp), fun L19 hL19 => ?_⟩
    have fr19 := Lb.Same.free S hL19
    generalize e_H19 : upd _ L19 _ = H19
    obtain ⟨s19, eL19⟩ := al3 e_H19 hL19
    clear e_H19
    (try dsimp only at eL19)
    have S := S.trans s19
    have eLws := s19 _ _ eLws
    have eL13 := s19 _ _ eL13
    have g13 := g13.same s19
    have eL18 := s19 _ _ eL18
    have g18 := g18.same s19
    have g19 := errs_app g13 g18
    clear eL13 g13 eL18 g18
    exact k _ _ _ S fr19 eL19 g19
end
end K10

set_option Elab.async false
set_option linter.all false
set_option maxRecDepth 100000
set_option maxHeartbeats 4000000
namespace K10
open PySem L2 Lb
def cs_row (a : Ad) (vo vt vi : V) (qw : Addr) (ws wn : V) : List (Addr × List (Str × V)) := cs_with_value a vo ++ cs_with_position a vi ++ cs_with_node a vt ++ cs_with_pipe a vt ++ cs_others a vt vi qw ws wn
def sp_row (a : Ad) : Sp := fun vs H Q _ => ∃ (t : Addr) (vo vt vi : V) (qw sw : Addr) (ws wn : V), vs = [.ref t] ∧ H t = some (.tup [vo, vt, vi, .ref qw, .ref sw]) ∧ H sw = some (.tup [ws, wn]) ∧
  ∀ H' l es, Same H H' → H l = none → H' l = some (.lst es) → Errs H' es (cs_row a vo vt vi qw ws wn) → Q (.ref l) H'
theorem Errs.n {H : Hp} {es : List V} {cs : List (Addr × List (Str × V))} (h : Errs H es cs) : es.length = cs.length := Paired.length h
section
variable {P : Program} {w : World} {K : PySem.W.Frag} {mg : Str → Option Value} {base : Heap} {a : Ad}
theorem ok_row (T : Txt K mg a) : FnOk P w K mg base CX0 4 a.f_row a.d_row ["_law_parts_here"] (sp_row a) := by
  refine T.F_row.ok sc_row (fun vs H Q E h => ?_) (fun cdv A outer s H vs Q E hr h => ?_)
  · obtain ⟨t, vo, vt, vi, qw, sw, ws, wn, rfl, _⟩ := h
    rfl
  · obtain ⟨t, vo, vt, vi, qw, sw, ws, wn, rfl, et, ew, k⟩ := h
    refine ⟨_, (pss_cons (ps_set (i := 1) sc_row.nd rfl (by first | exact Or.inl rfl | exact Or.inr rfl) (pe_op op_cat (pe_call (ok_with_value T) (hr.mono (by decide)) (by rfl) T.m_with_value T.F_with_value.kp (b_with_value T) .nil pass0 (pa_cons (pe_ix (ix_tupK (K := K) rfl) (pv 0) pe_int (fun _ _ => rfl)) pa_nil)) (pe_call (ok_with_position T) (hr.mono (by decide)) (by rfl) T.m_with_position T.F_with_position.kp (b_with_position T) .nil pass0 (pa_cons (pe_ix (ix_tupK (K := K) rfl) (pv 0) pe_int (fun _ _ => rfl)) pa_nil))))
 (pss_cons (ps_set (i := 1) sc_row.nd rfl (by first | exact Or.inl rfl | exact Or.inr rfl) (pe_op op_cat (pe_op op_cat (pv 1) (pe_call (ok_with_node T) (hr.mono (by decide)) (by rfl) T.m_with_node T.F_with_node.kp (b_with_node T) .nil pass0 (pa_cons (pe_ix (ix_tupK (K := K) rfl) (pv 0) pe_int (fun _ _ => rfl)) pa_nil))) (pe_call (ok_with_pipe T) (hr.mono (by decide)) (by rfl) T.m_with_pipe T.F_with_pipe.kp (b_with_pipe T) .nil pass0 (pa_cons (pe_ix (ix_tupK (K := K) rfl) (pv 0) pe_int (fun _ _ => rfl)) pa_nil))))
 (pss_one (ps_ret (pe_op op_cat (pv 1) (pe_call (ok_others T) (hr.mono (by decide)) (by rfl) T.m_others T.F_others.kp (b_others T) .nil pass0 (pa_cons (pv 0) pa_nil))))))), ?_⟩
    refine ⟨_, rfl, _, _, _, _, rfl, rfl, SqT.of et, atI_nat (j := 0) rfl, vo, rfl, fun H1 l1 es1 s1 m1 e1 g1 => ?_⟩
    refine ⟨_, rfl, _, _, _, _, rfl, rfl, SqT.of (s1 _ _ et), atI_nat (j := 2) rfl, vi, rfl, fun H2 l2 es2 s2 m2 e2 g2 => ?_⟩
    have n1 := g1.n
    have n2 := g2.n
    simp only [cs_with_value, cs_with_position, List.length_append, List.length_cons, List.length_nil] at n1 n2
    refine ⟨l1, l2, _, _, rfl, rfl, s2 _ _ e1, e2, szle (by omega), fun L1 hL1 => ?_⟩
    have S := s1.trans s2
    generalize e_H3 : upd _ L1 _ = H3
    obtain ⟨s3, e3⟩ := al3 e_H3 hL1
    clear e_H3
    (try dsimp only at e3)
    have S := S.trans s3
    have g3 := (errs_app (g1.same s2) g2).same s3
    clear e1 e2 g1 g2
    -- nodes
    refine ⟨_, rfl, _, rfl, _, _, _, _, rfl, rfl, SqT.of (S _ _ et), atI_nat (j := 1) rfl, vt, rfl, fun H4 l4 es4 s4 m4 e4 g4 => ?_⟩
    have n4 := g4.n
    simp only [cs_with_node, List.length_append, List.length_cons, List.length_nil] at n4
    refine ⟨L1, l4, _, _, rfl, rfl, s4 _ _ e3, e4, szle (by rw [List.length_append]; omega), fun L2 hL2 => ?_⟩
    have S := S.trans s4
    generalize e_H5 : upd _ L2 _ = H5
    obtain ⟨s5, e5⟩ := al3 e_H5 hL2
    clear e_H5
    (try dsimp only at e5)
    have S := S.trans s5
    have g5 := (errs_app (g3.same s4) g4).same s5
    clear e3 e4 g3 g4
    -- pipes
    refine ⟨_, rfl, _, _, _, _, rfl, rfl, SqT.of (S _ _ et), atI_nat (j := 1) rfl, vt, rfl, fun H6 l6 es6 s6 m6 e6 g6 => ?_⟩
    have n6 := g6.n
    simp only [cs_with_pipe, List.length_append, List.length_cons, List.length_nil] at n6
    refine ⟨L2, l6, _, _, rfl, rfl, s6 _ _ e5, e6, szle (by rw [List.length_append, List.length_append]; omega), fun L3 hL3 => ?_⟩
    have S := S.trans s6
    generalize e_H7 : upd _ L3 _ = H7
    obtain ⟨s7, e7⟩ := al3 e_H7 hL3
    clear e_H7
    (try dsimp only at e7)
    have S := S.trans s7
    have g7 := (errs_app (g5.same s6) g6).same s7
    clear e5 e6 g5 g6
    -- others
    refine ⟨_, rfl, _, rfl, t, vo, vt, vi, qw, sw, ws, wn, rfl, S _ _ et, S _ _ ew, fun H8 l8 es8 s8 m8 e8 g8 => ?_⟩
    have n8 := g8.n
    simp only [cs_others, List.length_append, List.length_cons, List.length_nil] at n8
    refine ⟨L3, l8, _, _, rfl, rfl, s8 _ _ e7, e8, szle (by rw [List.length_append, List.length_append, List.length_append]; omega), fun L4 hL4 => ?_⟩
    have S := S.trans s8
    have fr := Lb.Same.free S hL4
    generalize e_H9 : upd _ L4 _ = H9
    obtain ⟨s9, e9⟩ := al3 e_H9 hL4
    clear e_H9
    (try dsimp only at e9)
    have S := S.trans s9
    exact k _ _ _ S fr e9 ((errs_app (g7.same s8) g8).same s9)
end
end K10

set_option Elab.async false
set_option linter.all false
set_option maxRecDepth 100000
set_option maxHeartbeats 4000000
namespace K10
open PySem L2 Lb
/-- the classes in their sequence, the families -/
def CL (a : Ad) : List Addr := [a.c_InvalidInteger, a.c_InvalidAmount, a.c_InvalidOrder, a.c_InvalidWord, a.c_InvalidPlace, a.c_InvalidClaim, a.c_InvalidLine, a.c_UnknownPipe, a.c_UnknownNode, a.c_UnknownPole, a.c_UnknownKind, a.c_UnknownReading, a.c_NotSure, a.c_InvalidPoints, a.c_InvalidLevels, a.c_InvalidReading, a.c_InvalidStates, a.c_NotConnected, a.c_InvalidDemands, a.c_InvalidPoles, a.c_InvalidHeights, a.c_InvalidConductances, a.c_InvalidCurves, a.c_InvalidFlows, a.c_InvalidKinds, a.c_IsBridge, a.c_InvalidPipes, a.c_Unbalanced, a.c_InvalidText, a.c_TooMany, a.c_Barred, a.c_NothingToUndo]
def FL (a : Ad) : List Addr := [a.c_PipeError, a.c_MissingError, a.c_StateError, a.c_LimitError]
def TLs : List (List Value) := [veT, leT, reT, arTail]
def BT : List String := ["ValueError", "LookupError", "RuntimeError", "ArithmeticError"]
def famI (i : Nat) : Nat := if i ∈ [7, 8, 9, 10, 11] then 1 else if i ∈ [12, 25, 30, 31] then 2 else if i = 29 then 3 else 0
theorem ref_ve (D : Addr) : veT.contains (.ref D) = false := rfl
section
variable {K : PySem.W.Frag} {mg : Str → Option Value} {a : Ad}
theorem abv (T : Txt K mg a) {i : Nat} {C : Addr} (h : (CL a)[i]? = some C) : ∃ L tail, (FL a)[famI i]? = some L ∧ TLs[famI i]? = some tail ∧ Abv K C L tail ∧ ExcC K C := by
  have all : ∀ q ∈ (CL a).zipIdx, ∃ L tail, (FL a)[famI q.2]? = some L ∧ TLs[famI q.2]? = some tail ∧ Abv K q.1 L tail ∧ ExcC K q.1 := by
    show ∀ q ∈ [(a.c_InvalidInteger, 0), (a.c_InvalidAmount, 1), (a.c_InvalidOrder, 2), (a.c_InvalidWord, 3), (a.c_InvalidPlace, 4), (a.c_InvalidClaim, 5), (a.c_InvalidLine, 6), (a.c_UnknownPipe, 7), (a.c_UnknownNode, 8), (a.c_UnknownPole, 9), (a.c_UnknownKind, 10), (a.c_UnknownReading, 11), (a.c_NotSure, 12), (a.c_InvalidPoints, 13), (a.c_InvalidLevels, 14), (a.c_InvalidReading, 15), (a.c_InvalidStates, 16), (a.c_NotConnected, 17), (a.c_InvalidDemands, 18), (a.c_InvalidPoles, 19), (a.c_InvalidHeights, 20), (a.c_InvalidConductances, 21), (a.c_InvalidCurves, 22), (a.c_InvalidFlows, 23), (a.c_InvalidKinds, 24), (a.c_IsBridge, 25), (a.c_InvalidPipes, 26), (a.c_Unbalanced, 27), (a.c_InvalidText, 28), (a.c_TooMany, 29), (a.c_Barred, 30), (a.c_NothingToUndo, 31)], _
    simp only [List.forall_mem_cons]
    exact ⟨⟨_, _, rfl, rfl, T.bInvalidInteger, T.xInvalidInteger.eC⟩, ⟨_, _, rfl, rfl, T.bInvalidAmount, T.xInvalidAmount.eC⟩, ⟨_, _, rfl, rfl, T.bInvalidOrder, T.xInvalidOrder.eC⟩, ⟨_, _, rfl, rfl, T.bInvalidWord, T.xInvalidWord.eC⟩, ⟨_, _, rfl, rfl, T.bInvalidPlace, T.xInvalidPlace.eC⟩, ⟨_, _, rfl, rfl, T.bInvalidClaim, T.xInvalidClaim.eC⟩, ⟨_, _, rfl, rfl, T.bInvalidLine, T.xInvalidLine.eC⟩, ⟨_, _, rfl, rfl, T.bUnknownPipe, T.xUnknownPipe.eC⟩, ⟨_, _, rfl, rfl, T.bUnknownNode, T.xUnknownNode.eC⟩, ⟨_, _, rfl, rfl, T.bUnknownPole, T.xUnknownPole.eC⟩, ⟨_, _, rfl, rfl, T.bUnknownKind, T.xUnknownKind.eC⟩, ⟨_, _, rfl, rfl, T.bUnknownReading, T.xUnknownReading.eC⟩, ⟨_, _, rfl, rfl, T.bNotSure, T.xNotSure.eC⟩, ⟨_, _, rfl, rfl, T.bInvalidPoints, T.xInvalidPoints.eC⟩, ⟨_, _, rfl, rfl, T.bInvalidLevels, T.xInvalidLevels.eC⟩, ⟨_, _, rfl, rfl, T.bInvalidReading, T.xInvalidReading.eC⟩, ⟨_, _, rfl, rfl, T.bInvalidStates, T.xInvalidStates.eC⟩, ⟨_, _, rfl, rfl, T.bNotConnected, T.xNotConnected.eC⟩, ⟨_, _, rfl, rfl, T.bInvalidDemands, T.xInvalidDemands.eC⟩, ⟨_, _, rfl, rfl, T.bInvalidPoles, T.xInvalidPoles.eC⟩, ⟨_, _, rfl, rfl, T.bInvalidHeights, T.xInvalidHeights.eC⟩, ⟨_, _, rfl, rfl, T.bInvalidConductances, T.xInvalidConductances.eC⟩, ⟨_, _, rfl, rfl, T.bInvalidCurves, T.xInvalidCurves.eC⟩, ⟨_, _, rfl, rfl, T.bInvalidFlows, T.xInvalidFlows.eC⟩, ⟨_, _, rfl, rfl, T.bInvalidKinds, T.xInvalidKinds.eC⟩, ⟨_, _, rfl, rfl, T.bIsBridge, T.xIsBridge.eC⟩, ⟨_, _, rfl, rfl, T.bInvalidPipes, T.xInvalidPipes.eC⟩, ⟨_, _, rfl, rfl, T.bUnbalanced, T.xUnbalanced.eC⟩, ⟨_, _, rfl, rfl, T.bInvalidText, T.xInvalidText.eC⟩, ⟨_, _, rfl, rfl, T.bTooMany, T.xTooMany.eC⟩, ⟨_, _, rfl, rfl, T.bBarred, T.xBarred.eC⟩, ⟨_, _, rfl, rfl, T.bNothingToUndo, T.xNothingToUndo.eC⟩, fun _ h => nomatch h⟩
  exact all (C, i) (List.mem_zipIdx_iff_getElem?.mpr h)
theorem tails {f : Nat} {tail : List Value} (h : TLs[f]? = some tail) : ∀ D, tail.contains (.ref D) = false := by
  have : tail ∈ TLs := List.mem_of_getElem? h
  simp only [TLs, List.mem_cons, List.not_mem_nil, or_false] at this
  rcases this with rfl | rfl | rfl | rfl <;> intro D <;> rfl
theorem nds (T : Txt K mg a) : (CL a).Nodup ∧ (FL a).Nodup ∧ ∀ x ∈ CL a, ∀ y ∈ FL a, x ≠ y := by
  have h : (CL a ++ FL a).Nodup := T.nd
  exact List.nodup_append.mp h
theorem inj_at {l : List Addr} (h : l.Nodup) {i j : Nat} {C D : Addr} (hi : l[i]? = some C) (hj : l[j]? = some D) : (D = C) ↔ (j = i) := by
  constructor
  · intro e
    subst e
    exact (List.getElem?_inj (List.getElem?_eq_some_iff.mp hj).1 h).mp (hj.trans hi.symm)
  · intro e
    subst e
    rw [hi] at hj
    exact (Option.some.inj hj).symm
theorem clsD (T : Txt K mg a) {j : Nat} {D : Addr} (h : (CL a)[j]? = some D) : PySem.W.isClsIn K D = true ∧ PySem.W.typeIn K (.ref D) = some (.type "type") := by
  obtain ⟨L, tail, _, _, b, _⟩ := abv T h
  exact ⟨b.ic, b.ty⟩
theorem famD (T : Txt K mg a) {f : Nat} {D : Addr} (h : (FL a)[f]? = some D) : FamC K D := by
  have : D ∈ FL a := List.mem_of_getElem? h
  simp only [FL, List.mem_cons, List.not_mem_nil, or_false] at this
  rcases this with rfl | rfl | rfl | rfl
  · exact T.qPipeError
  · exact T.qMissingError
  · exact T.qStateError
  · exact T.qLimitError
theorem kitC (T : Txt K mg a) {i : Nat} {C : Addr} (h : (CL a)[i]? = some C) (j : Nat) (D : Addr) (hj : (CL a)[j]? = some D) : PySem.W.kitOne K (.ref C) (.ref D) = some (decide (j = i)) := by
  obtain ⟨L, tail, hL, hT, b, _⟩ := abv T h
  obtain ⟨n1, n2, n3⟩ := nds T
  obtain ⟨ic, ty⟩ := clsD T hj
  rw [b.kit (tails hT) ic ty]
  have ne : D ≠ L := n3 _ (List.mem_of_getElem? hj) _ (List.mem_of_getElem? hL)
  rw [decide_eq_decide.mpr (show (D = C ∨ D = L) ↔ j = i from ⟨fun e => (inj_at n1 h hj).mp (e.resolve_right ne), fun e => .inl ((inj_at n1 h hj).mpr e)⟩)]
theorem kitF (T : Txt K mg a) {i : Nat} {C : Addr} (h : (CL a)[i]? = some C) (f : Nat) (D : Addr) (hf : (FL a)[f]? = some D) : PySem.W.kitOne K (.ref C) (.ref D) = some (decide (f = famI i)) := by
  obtain ⟨L, tail, hL, hT, b, _⟩ := abv T h
  obtain ⟨n1, n2, n3⟩ := nds T
  have q := famD T hf
  rw [b.kit (tails hT) q.ic q.ty]
  have ne : D ≠ C := fun e => n3 _ (List.mem_of_getElem? h) _ (List.mem_of_getElem? hf) e.symm
  rw [decide_eq_decide.mpr (show (D = C ∨ D = L) ↔ f = famI i from ⟨fun e => (inj_at n2 hL hf).mp (e.resolve_left ne), fun e => .inr ((inj_at n2 hL hf).mpr e)⟩)]
theorem exmF (T : Txt K mg a) {i : Nat} {C : Addr} (h : (CL a)[i]? = some C) (f : Nat) (D : Addr) (hf : (FL a)[f]? = some D) : PySem.W.exmOne K (.ref C) (.ref D) = some (decide (f = famI i)) := by
  obtain ⟨L, tail, hL, hT, b, _⟩ := abv T h
  obtain ⟨n1, n2, n3⟩ := nds T
  rw [b.exm (tails hT) (famD T hf)]
  have ne : D ≠ C := fun e => n3 _ (List.mem_of_getElem? h) _ (List.mem_of_getElem? hf) e.symm
  rw [decide_eq_decide.mpr (show (D = C ∨ D = L) ↔ f = famI i from ⟨fun e => (inj_at n2 hL hf).mp (e.resolve_left ne), fun e => .inr ((inj_at n2 hL hf).mpr e)⟩)]
theorem famI_lt (i : Nat) : famI i < 4 := by
  unfold famI
  split
  · decide
  · split
    · decide
    · split <;> decide
theorem bt_has : ∀ f ∈ List.range 4, ∀ k ∈ List.range 4, ((TLs[k]?).getD []).contains (.type ((BT[f]?).getD "")) = decide (f = k) ∧ PySem.W.kitMeta ((BT[f]?).getD "") = true := by decide +kernel
theorem kitB (T : Txt K mg a) {i : Nat} {C : Addr} (h : (CL a)[i]? = some C) (f : Nat) (n : String) (hf : BT[f]? = some n) : PySem.W.kitOne K (.ref C) (.type n) = some (decide (f = famI i)) := by
  obtain ⟨L, tail, hL, hT, b, _⟩ := abv T h
  have h4 : f < 4 := (List.getElem?_eq_some_iff.mp hf).1
  obtain ⟨e1, e2⟩ := bt_has f (List.mem_range.mpr h4) (famI i) (List.mem_range.mpr (famI_lt i))
  rw [hT, hf] at e1
  rw [hf] at e2
  exact b.kitT e2 e1
end
def sp_marks (K : PySem.W.Frag) (a : Ad) : Sp := fun vs H Q _ => ∃ (v : V) (C : Addr) (i : Nat), vs = [v] ∧ ErrIs H v C ∧ (CL a)[i]? = some C ∧
  ∀ H' l, Same H H' → H l = none → H' l = some (.lst ((List.range 32).map fun j => V.bl (decide (j = i)))) → Q (.ref l) H'
section
variable {P : Program} {w : World} {K : PySem.W.Frag} {mg : Str → Option Value} {base : Heap} {a : Ad}
theorem ok_marks (T : Txt K mg a) : FnOk P w K mg base CX0 1 a.f_marks a.d_marks ["_law_made"] (sp_marks K a) := by
  refine T.F_marks.ok sc_marks (fun vs H Q E h => ?_) (fun cdv A outer s H vs Q E hr h => ?_)
  · obtain ⟨v, C, i, rfl, _⟩ := h
    rfl
  · obtain ⟨v, C, i, rfl, he, hC, k⟩ := h
    refine ⟨_, (pss_cons (ps_set (i := 1) sc_marks.nd rfl (by first | exact Or.inl rfl | exact Or.inr rfl) (pe_lst (pa_cons (pe_callB (call_errI (K := K) rfl) (by rfl) T.b_isinstance (by decide +kernel) (pa_cons (pv 0) (pa_cons (pe_glob (v := .ref a.c_InvalidInteger) rfl T.xInvalidInteger.mC rfl) pa_nil))) (pa_cons (pe_callB (call_errI (K := K) rfl) (by rfl) T.b_isinstance (by decide +kernel) (pa_cons (pv 0) (pa_cons (pe_glob (v := .ref a.c_InvalidAmount) rfl T.xInvalidAmount.mC rfl) pa_nil))) (pa_cons (pe_callB (call_errI (K := K) rfl) (by rfl) T.b_isinstance (by decide +kernel) (pa_cons (pv 0) (pa_cons (pe_glob (v := .ref a.c_InvalidOrder) rfl T.xInvalidOrder.mC rfl) pa_nil))) pa_nil)))))
 (pss_cons (ps_set (i := 1) sc_marks.nd rfl (by first | exact Or.inl rfl | exact Or.inr rfl) (pe_op op_cat (pv 1) (pe_lst (pa_cons (pe_callB (call_errI (K := K) rfl) (by rfl) T.b_isinstance (by decide +kernel) (pa_cons (pv 0) (pa_cons (pe_glob (v := .ref a.c_InvalidWord) rfl T.xInvalidWord.mC rfl) pa_nil))) (pa_cons (pe_callB (call_errI (K := K) rfl) (by rfl) T.b_isinstance (by decide +kernel) (pa_cons (pv 0) (pa_cons (pe_glob (v := .ref a.c_InvalidPlace) rfl T.xInvalidPlace.mC rfl) pa_nil))) (pa_cons (pe_callB (call_errI (K := K) rfl) (by rfl) T.b_isinstance (by decide +kernel) (pa_cons (pv 0) (pa_cons (pe_glob (v := .ref a.c_InvalidClaim) rfl T.xInvalidClaim.mC rfl) pa_nil))) pa_nil))))))
 (pss_cons (ps_set (i := 1) sc_marks.nd rfl (by first | exact Or.inl rfl | exact Or.inr rfl) (pe_op op_cat (pv 1) (pe_lst (pa_cons (pe_callB (call_errI (K := K) rfl) (by rfl) T.b_isinstance (by decide +kernel) (pa_cons (pv 0) (pa_cons (pe_glob (v := .ref a.c_InvalidLine) rfl T.xInvalidLine.mC rfl) pa_nil))) (pa_cons (pe_callB (call_errI (K := K) rfl) (by rfl) T.b_isinstance (by decide +kernel) (pa_cons (pv 0) (pa_cons (pe_glob (v := .ref a.c_UnknownPipe) rfl T.xUnknownPipe.mC rfl) pa_nil))) (pa_cons (pe_callB (call_errI (K := K) rfl) (by rfl) T.b_isinstance (by decide +kernel) (pa_cons (pv 0) (pa_cons (pe_glob (v := .ref a.c_UnknownNode) rfl T.xUnknownNode.mC rfl) pa_nil))) pa_nil))))))
 (pss_cons (ps_set (i := 1) sc_marks.nd rfl (by first | exact Or.inl rfl | exact Or.inr rfl) (pe_op op_cat (pv 1) (pe_lst (pa_cons (pe_callB (call_errI (K := K) rfl) (by rfl) T.b_isinstance (by decide +kernel) (pa_cons (pv 0) (pa_cons (pe_glob (v := .ref a.c_UnknownPole) rfl T.xUnknownPole.mC rfl) pa_nil))) (pa_cons (pe_callB (call_errI (K := K) rfl) (by rfl) T.b_isinstance (by decide +kernel) (pa_cons (pv 0) (pa_cons (pe_glob (v := .ref a.c_UnknownKind) rfl T.xUnknownKind.mC rfl) pa_nil))) (pa_cons (pe_callB (call_errI (K := K) rfl) (by rfl) T.b_isinstance (by decide +kernel) (pa_cons (pv 0) (pa_cons (pe_glob (v := .ref a.c_UnknownReading) rfl T.xUnknownReading.mC rfl) pa_nil))) pa_nil))))))
 (pss_cons (ps_set (i := 1) sc_marks.nd rfl (by first | exact Or.inl rfl | exact Or.inr rfl) (pe_op op_cat (pv 1) (pe_lst (pa_cons (pe_callB (call_errI (K := K) rfl) (by rfl) T.b_isinstance (by decide +kernel) (pa_cons (pv 0) (pa_cons (pe_glob (v := .ref a.c_NotSure) rfl T.xNotSure.mC rfl) pa_nil))) (pa_cons (pe_callB (call_errI (K := K) rfl) (by rfl) T.b_isinstance (by decide +kernel) (pa_cons (pv 0) (pa_cons (pe_glob (v := .ref a.c_InvalidPoints) rfl T.xInvalidPoints.mC rfl) pa_nil))) (pa_cons (pe_callB (call_errI (K := K) rfl) (by rfl) T.b_isinstance (by decide +kernel) (pa_cons (pv 0) (pa_cons (pe_glob (v := .ref a.c_InvalidLevels) rfl T.xInvalidLevels.mC rfl) pa_nil))) pa_nil))))))
 (pss_cons (ps_set (i := 1) sc_marks.nd rfl (by first | exact Or.inl rfl | exact Or.inr rfl) (pe_op op_cat (pv 1) (pe_lst (pa_cons (pe_callB (call_errI (K := K) rfl) (by rfl) T.b_isinstance (by decide +kernel) (pa_cons (pv 0) (pa_cons (pe_glob (v := .ref a.c_InvalidReading) rfl T.xInvalidReading.mC rfl) pa_nil))) (pa_cons (pe_callB (call_errI (K := K) rfl) (by rfl) T.b_isinstance (by decide +kernel) (pa_cons (pv 0) (pa_cons (pe_glob (v := .ref a.c_InvalidStates) rfl T.xInvalidStates.mC rfl) pa_nil))) (pa_cons (pe_callB (call_errI (K := K) rfl) (by rfl) T.b_isinstance (by decide +kernel) (pa_cons (pv 0) (pa_cons (pe_glob (v := .ref a.c_NotConnected) rfl T.xNotConnected.mC rfl) pa_nil))) pa_nil))))))
 (pss_cons (ps_set (i := 1) sc_marks.nd rfl (by first | exact Or.inl rfl | exact Or.inr rfl) (pe_op op_cat (pv 1) (pe_lst (pa_cons (pe_callB (call_errI (K := K) rfl) (by rfl) T.b_isinstance (by decide +kernel) (pa_cons (pv 0) (pa_cons (pe_glob (v := .ref a.c_InvalidDemands) rfl T.xInvalidDemands.mC rfl) pa_nil))) (pa_cons (pe_callB (call_errI (K := K) rfl) (by rfl) T.b_isinstance (by decide +kernel) (pa_cons (pv 0) (pa_cons (pe_glob (v := .ref a.c_InvalidPoles) rfl T.xInvalidPoles.mC rfl) pa_nil))) (pa_cons (pe_callB (call_errI (K := K) rfl) (by rfl) T.b_isinstance (by decide +kernel) (pa_cons (pv 0) (pa_cons (pe_glob (v := .ref a.c_InvalidHeights) rfl T.xInvalidHeights.mC rfl) pa_nil))) pa_nil))))))
 (pss_cons (ps_set (i := 1) sc_marks.nd rfl (by first | exact Or.inl rfl | exact Or.inr rfl) (pe_op op_cat (pv 1) (pe_lst (pa_cons (pe_callB (call_errI (K := K) rfl) (by rfl) T.b_isinstance (by decide +kernel) (pa_cons (pv 0) (pa_cons (pe_glob (v := .ref a.c_InvalidConductances) rfl T.xInvalidConductances.mC rfl) pa_nil))) (pa_cons (pe_callB (call_errI (K := K) rfl) (by rfl) T.b_isinstance (by decide +kernel) (pa_cons (pv 0) (pa_cons (pe_glob (v := .ref a.c_InvalidCurves) rfl T.xInvalidCurves.mC rfl) pa_nil))) pa_nil)))))
 (pss_cons (ps_set (i := 1) sc_marks.nd rfl (by first | exact Or.inl rfl | exact Or.inr rfl) (pe_op op_cat (pv 1) (pe_lst (pa_cons (pe_callB (call_errI (K := K) rfl) (by rfl) T.b_isinstance (by decide +kernel) (pa_cons (pv 0) (pa_cons (pe_glob (v := .ref a.c_InvalidFlows) rfl T.xInvalidFlows.mC rfl) pa_nil))) (pa_cons (pe_callB (call_errI (K := K) rfl) (by rfl) T.b_isinstance (by decide +kernel) (pa_cons (pv 0) (pa_cons (pe_glob (v := .ref a.c_InvalidKinds) rfl T.xInvalidKinds.mC rfl) pa_nil))) (pa_cons (pe_callB (call_errI (K := K) rfl) (by rfl) T.b_isinstance (by decide +kernel) (pa_cons (pv 0) (pa_cons (pe_glob (v := .ref a.c_IsBridge) rfl T.xIsBridge.mC rfl) pa_nil))) pa_nil))))))
 (pss_cons (ps_set (i := 1) sc_marks.nd rfl (by first | exact Or.inl rfl | exact Or.inr rfl) (pe_op op_cat (pv 1) (pe_lst (pa_cons (pe_callB (call_errI (K := K) rfl) (by rfl) T.b_isinstance (by decide +kernel) (pa_cons (pv 0) (pa_cons (pe_glob (v := .ref a.c_InvalidPipes) rfl T.xInvalidPipes.mC rfl) pa_nil))) (pa_cons (pe_callB (call_errI (K := K) rfl) (by rfl) T.b_isinstance (by decide +kernel) (pa_cons (pv 0) (pa_cons (pe_glob (v := .ref a.c_Unbalanced) rfl T.xUnbalanced.mC rfl) pa_nil))) (pa_cons (pe_callB (call_errI (K := K) rfl) (by rfl) T.b_isinstance (by decide +kernel) (pa_cons (pv 0) (pa_cons (pe_glob (v := .ref a.c_InvalidText) rfl T.xInvalidText.mC rfl) pa_nil))) pa_nil))))))
 (pss_one (ps_ret (pe_op op_cat (pv 1) (pe_lst (pa_cons (pe_callB (call_errI (K := K) rfl) (by rfl) T.b_isinstance (by decide +kernel) (pa_cons (pv 0) (pa_cons (pe_glob (v := .ref a.c_TooMany) rfl T.xTooMany.mC rfl) pa_nil))) (pa_cons (pe_callB (call_errI (K := K) rfl) (by rfl) T.b_isinstance (by decide +kernel) (pa_cons (pv 0) (pa_cons (pe_glob (v := .ref a.c_Barred) rfl T.xBarred.mC rfl) pa_nil))) (pa_cons (pe_callB (call_errI (K := K) rfl) (by rfl) T.b_isinstance (by decide +kernel) (pa_cons (pv 0) (pa_cons (pe_glob (v := .ref a.c_NothingToUndo) rfl T.xNothingToUndo.mC rfl) pa_nil))) pa_nil))))))))))))))))), ?_⟩
    have kk := kitC T hC
    obtain ⟨_, _, _, _, _, hx⟩ := abv T hC
    have S : Same H H := Same.refl H
    refine ⟨_, rfl, _, _, _, _, _, rfl, he, hx, .own _, kk 0 _ rfl, _, rfl, _, _, _, _, _, rfl, he, hx, .own _, kk 1 _ rfl, _, rfl, _, _, _, _, _, rfl, he, hx, .own _, kk 2 _ rfl, sz, fun L1 hL1 => ?_⟩
    have fr1 := Lb.Same.free S hL1
    generalize e_H1 : upd _ L1 _ = H1
    obtain ⟨s1, eL1⟩ := al3 e_H1 hL1
    clear e_H1
    (try dsimp only at eL1)
    have S := S.trans s1
    have he := he.same s1
    refine ⟨_, rfl, _, rfl, _, _, _, _, _, rfl, he, hx, .own _, kk 3 _ rfl, _, rfl, _, _, _, _, _, rfl, he, hx, .own _, kk 4 _ rfl, _, rfl, _, _, _, _, _, rfl, he, hx, .own _, kk 5 _ rfl, sz, fun L2 hL2 => ?_⟩
    have fr2 := Lb.Same.free S hL2
    generalize e_H2 : upd _ L2 _ = H2
    obtain ⟨s2, eL2⟩ := al3 e_H2 hL2
    clear e_H2
    (try dsimp only at eL2)
    have S := S.trans s2
    have he := he.same s2
    have eL1 := s2 _ _ eL1
    refine ⟨L1, L2, _, _, rfl, rfl, eL1, eL2, szle (by simp), fun L3 hL3 => ?_⟩
    have fr3 := Lb.Same.free S hL3
    generalize e_H3 : upd _ L3 _ = H3
    obtain ⟨s3, eL3⟩ := al3 e_H3 hL3
    clear e_H3
    (try dsimp only at eL3)
    have S := S.trans s3
    have he := he.same s3
    clear eL1 eL2
    refine ⟨_, rfl, _, rfl, _, _, _, _, _, rfl, he, hx, .own _, kk 6 _ rfl, _, rfl, _, _, _, _, _, rfl, he, hx, .own _, kk 7 _ rfl, _, rfl, _, _, _, _, _, rfl, he, hx, .own _, kk 8 _ rfl, sz, fun L4 hL4 => ?_⟩
    have fr4 := Lb.Same.free S hL4
    generalize e_H4 : upd _ L4 _ = H4
    obtain ⟨s4, eL4⟩ := al3 e_H4 hL4
    clear e_H4
    (try dsimp only at eL4)
    have S := S.trans s4
    have he := he.same s4
    have eL3 := s4 _ _ eL3
    refine ⟨L3, L4, _, _, rfl, rfl, eL3, eL4, szle (by simp), fun L5 hL5 => ?_⟩
    have fr5 := Lb.Same.free S hL5
    generalize e_H5 : upd _ L5 _ = H5
    obtain ⟨s5, eL5⟩ := al3 e_H5 hL5
    clear e_H5
    (try dsimp only at eL5)
    have S := S.trans s5
    have he := he.same s5
    clear eL3 eL4
    refine ⟨_, rfl, _, rfl, _, _, _, _, _, rfl, he, hx, .own _, kk 9 _ rfl, _, rfl, _, _, _, _, _, rfl, he, hx, .own _, kk 10 _ rfl, _, rfl, _, _, _, _, _, rfl, he, hx, .own _, kk 11 _ rfl, sz, fun L6 hL6 => ?_⟩
    have fr6 := Lb.Same.free S hL6
    generalize e_H6 : upd _ L6 _ = H6
    obtain ⟨s6, eL6⟩ := al3 e_H6 hL6
    clear e_H6
    (try dsimp only at eL6)
    have S := S.trans s6
    have he := he.same s6
    have eL5 := s6 _ _ eL5
    refine ⟨L5, L6, _, _, rfl, rfl, eL5, eL6, szle (by simp), fun L7 hL7 => ?_⟩
    have fr7 := Lb.Same.free S hL7
    generalize e_H7 : upd _ L7 _ = H7
    obtain ⟨s7, eL7⟩ := al3 e_H7 hL7
    clear e_H7
    (try dsimp only at eL7)
    have S := S.trans s7
    have he := he.same s7
    clear eL5 eL6
    refine ⟨_, rfl, _, rfl, _, _, _, _, _, rfl, he, hx, .own _, kk 12 _ rfl, _, rfl, _, _, _, _, _, rfl, he, hx, .own _, kk 13 _ rfl, _, rfl, _, _, _, _, _, rfl, he, hx, .own _, kk 14 _ rfl, sz, fun L8 hL8 => ?_⟩
    have fr8 := Lb.Same.free S hL8
    generalize e_H8 : upd _ L8 _ = H8
    obtain ⟨s8, eL8⟩ := al3 e_H8 hL8
    clear e_H8
    (try dsimp only at eL8)
    have S := S.trans s8
    have he := he.same s8
    have eL7 := s8 _ _ eL7
    refine ⟨L7, L8, _, _, rfl, rfl, eL7, eL8, szle (by simp), fun L9 hL9 => ?_⟩
    have fr9 := Lb.Same.free S hL9
    generalize e_H9 : upd _ L9 _ = H9
    obtain ⟨s9, eL9⟩ := al3 e_H9 hL9
    clear e_H9
    (try dsimp only at eL9)
    have S := S.trans s9
    have he := he.same s9
    clear eL7 eL8
    refine ⟨_, rfl, _, rfl, _, _, _, _, _, rfl, he, hx, .own _, kk 15 _ rfl, _, rfl, _, _, _, _, _, rfl, he, hx, .own _, kk 16 _ rfl, _, rfl, _, _, _, _, _, rfl, he, hx, .own _, kk 17 _ rfl, sz, fun L10 hL10 => ?_⟩
    have fr10 := Lb.Same.free S hL10
    generalize e_H10 : upd _ L10 _ = H10
    obtain ⟨s10, eL10⟩ := al3 e_H10 hL10
    clear e_H10
    (try dsimp only at eL10)
    have S := S.trans s10
    have he := he.same s10
    have eL9 := s10 _ _ eL9
    refine ⟨L9, L10, _, _, rfl, rfl, eL9, eL10, szle (by simp), fun L11 hL11 => ?_⟩
    have fr11 := Lb.Same.free S hL11
    generalize e_H11 : upd _ L11 _ = H11
    obtain ⟨s11, eL11⟩ := al3 e_H11 hL11
    clear e_H11
    (try dsimp only at eL11)
    have S := S.trans s11
    have he := he.same s11
    clear eL9 eL10
    refine ⟨_, rfl, _, rfl, _, _, _, _, _, rfl, he, hx, .own _, kk 18 _ rfl, _, rfl, _, _, _, _, _, rfl, he, hx, .own _, kk 19 _ rfl, _, rfl, _, _, _, _, _, rfl, he, hx, .own _, kk 20 _ rfl, sz, fun L12 hL12 => ?_⟩
    have fr12 := Lb.Same.free S hL12
    generalize e_H12 : upd _ L12 _ = H12
    obtain ⟨s12, eL12⟩ := al3 e_H12 hL12
    clear e_H12
    (try dsimp only at eL12)
    have S := S.trans s12
    have he := he.same s12
    have eL11 := s12 _ _ eL11
    refine ⟨L11, L12, _, _, rfl, rfl, eL11, eL12, szle (by simp), fun L13 hL13 => ?_⟩
    have fr13 := Lb.Same.free S hL13
    generalize e_H13 : upd _ L13 _ = H13
    obtain ⟨s13, eL13⟩ := al3 e_H13 hL13
    clear e_H13
    (try dsimp only at eL13)
    have S := S.trans s13
    have he := he.same s13
    clear eL11 eL12
    refine ⟨_, rfl, _, rfl, _, _, _, _, _, rfl, he, hx, .own _, kk 21 _ rfl, _, rfl, _, _, _, _, _, rfl, he, hx, .own _, kk 22 _ rfl, sz, fun L14 hL14 => ?_⟩
    have fr14 := Lb.Same.free S hL14
    generalize e_H14 : upd _ L14 _ = H14
    obtain ⟨s14, eL14⟩ := al3 e_H14 hL14
    clear e_H14
    (try dsimp only at eL14)
    have S := S.trans s14
    have he := he.same s14
    have eL13 := s14 _ _ eL13
    refine ⟨L13, L14, _, _, rfl, rfl, eL13, eL14, szle (by simp), fun L15 hL15 => ?_⟩
    have fr15 := Lb.Same.free S hL15
    generalize e_H15 : upd _ L15 _ = H15
    obtain ⟨s15, eL15⟩ := al3 e_H15 hL15
    clear e_H15
    (try dsimp only at eL15)
    have S := S.trans s15
    have he := he.same s15
    clear eL13 eL14
    refine ⟨_, rfl, _, rfl, _, _, _, _, _, rfl, he, hx, .own _, kk 23 _ rfl, _, rfl, _, _, _, _, _, rfl, he, hx, .own _, kk 24 _ rfl, _, rfl, _, _, _, _, _, rfl, he, hx, .own _, kk 25 _ rfl, sz, fun L16 hL16 => ?_⟩
    have fr16 := Lb.Same.free S hL16
    generalize e_H16 : upd _ L16 _ = H16
    obtain ⟨s16, eL16⟩ := al3 e_H16 hL16
    clear e_H16
    (try dsimp only at eL16)
    have S := S.trans s16
    have he := he.same s16
    have eL15 := s16 _ _ eL15
    refine ⟨L15, L16, _, _, rfl, rfl, eL15, eL16, szle (by simp), fun L17 hL17 => ?_⟩
    have fr17 := Lb.Same.free S hL17
    generalize e_H17 : upd _ L17 _ = H17
    obtain ⟨s17, eL17⟩ := al3 e_H17 hL17
    clear e_H17
    (try dsimp only at eL17)
    have S := S.trans s17
    have he := he.same s17
    clear eL15 eL16
    refine ⟨_, rfl, _, rfl, _, _, _, _, _, rfl, he, hx, .own _, kk 26 _ rfl, _, rfl, _, _, _, _, _, rfl, he, hx, .own _, kk 27 _ rfl, _, rfl, _, _, _, _, _, rfl, he, hx, .own _, kk 28 _ rfl, sz, fun L18 hL18 => ?_⟩
    have fr18 := Lb.Same.free S hL18
    generalize e_H18 : upd _ L18 _ = H18
    obtain ⟨s18, eL18⟩ := al3 e_H18 hL18
    clear e_H18
    (try dsimp only at eL18)
    have S := S.trans s18
    have he := he.same s18
    have eL17 := s18 _ _ eL17
    refine ⟨L17, L18, _, _, rfl, rfl, eL17, eL18, szle (by simp), fun L19 hL19 => ?_⟩
    have fr19 := Lb.Same.free S hL19
    generalize e_H19 : upd _ L19 _ = H19
    obtain ⟨s19, eL19⟩ := al3 e_H19 hL19
    clear e_H19
    (try dsimp only at eL19)
    have S := S.trans s19
    have he := he.same s19
    clear eL17 eL18
    refine ⟨_, rfl, _, rfl, _, _, _, _, _, rfl, he, hx, .own _, kk 29 _ rfl, _, rfl, _, _, _, _, _, rfl, he, hx, .own _, kk 30 _ rfl, _, rfl, _, _, _, _, _, rfl, he, hx, .own _, kk 31 _ rfl, sz, fun L20 hL20 => ?_⟩
    have fr20 := Lb.Same.free S hL20
    generalize e_H20 : upd _ L20 _ = H20
    obtain ⟨s20, eL20⟩ := al3 e_H20 hL20
    clear e_H20
    (try dsimp only at eL20)
    have S := S.trans s20
    have he := he.same s20
    have eL19 := s20 _ _ eL19
    refine ⟨L19, L20, _, _, rfl, rfl, eL19, eL20, szle (by simp), fun L21 hL21 => ?_⟩
    have fr21 := Lb.Same.free S hL21
    generalize e_H21 : upd _ L21 _ = H21
    obtain ⟨s21, eL21⟩ := al3 e_H21 hL21
    clear e_H21
    (try dsimp only at eL21)
    have S := S.trans s21
    have he := he.same s21
    clear eL19 eL20
    exact k _ _ S fr21 eL21
end
end K10

set_option Elab.async false
set_option linter.all false
set_option maxRecDepth 100000
set_option maxHeartbeats 4000000
namespace K10
open PySem L2 Lb
theorem op_inK {X : Cx} {K : PySem.W.Frag} (hK : X.K = K) : OpR X (compareOp .In) (rIn K false) := by
  subst hK
  exact op_in_seq
theorem at_fam : ∀ j ∈ List.range 32, (((if (if false = true then !inV (V.int (j : Int)) [V.int 7, V.int 8, V.int 9, V.int 10, V.int 11] else inV (V.int (j : Int)) [V.int 7, V.int 8, V.int 9, V.int 10, V.int 11]) = true then 1 else 0) +
    2 * (if (if false = true then !inV (V.int (j : Int)) [V.int 12, V.int 25, V.int 30, V.int 31] else inV (V.int (j : Int)) [V.int 12, V.int 25, V.int 30, V.int 31]) = true then 1 else 0)) + (3 * if decide (V.int (j : Int) = V.int 29) = true then 1 else 0) : Int) = (famI j : Int) := by decide +kernel
theorem eqv8 : ∀ F ∈ List.range 4, PyData.eqv (.list ([decide (0 = F), decide (1 = F), decide (2 = F), decide (3 = F), decide (0 = F), decide (1 = F), decide (2 = F), decide (3 = F)].map PyData.bool))
    (.list (((List.range 8).map fun k : Nat => inV (V.int (k : Int)) [V.int (F : Int), V.int ((F : Int) + 4)]).map PyData.bool)) = true := by decide +kernel
def sp_above_right (a : Ad) : Sp := fun vs H Q _ => ∃ (v : V) (C : Addr) (i : Nat), vs = [v, .int i] ∧ ErrIs H v C ∧ (CL a)[i]? = some C ∧ ∀ H', Same H H' → Q (.bl true) H'
section
variable {P : Program} {w : World} {K : PySem.W.Frag} {mg : Str → Option Value} {base : Heap} {a : Ad}
theorem ok_above_right (T : Txt K mg a) : FnOk P w K mg base CX0 1 a.f_above_right a.d_above_right ["_law_made", "_law_place"] (sp_above_right a) := by
  refine T.F_above_right.ok sc_above_right (fun vs H Q E h => ?_) (fun cdv A outer s H vs Q E hr h => ?_)
  · obtain ⟨v, C, i, rfl, _⟩ := h
    rfl
  · obtain ⟨v, C, i, rfl, he, hC, k⟩ := h
    refine ⟨_, (pss_cons (ps_set (i := 2) sc_above_right.nd rfl (by first | exact Or.inl rfl | exact Or.inr rfl) (pe_lst (pa_cons (pe_callB (call_errI (K := K) rfl) (by rfl) T.b_isinstance (by decide +kernel) (pa_cons (pv 0) (pa_cons (pe_glob (v := .ref a.c_PipeError) rfl T.mPipeError rfl) pa_nil))) (pa_cons (pe_callB (call_errI (K := K) rfl) (by rfl) T.b_isinstance (by decide +kernel) (pa_cons (pv 0) (pa_cons (pe_glob (v := .ref a.c_MissingError) rfl T.mMissingError rfl) pa_nil))) (pa_cons (pe_callB (call_errI (K := K) rfl) (by rfl) T.b_isinstance (by decide +kernel) (pa_cons (pv 0) (pa_cons (pe_glob (v := .ref a.c_StateError) rfl T.mStateError rfl) pa_nil))) pa_nil)))))
 (pss_cons (ps_set (i := 2) sc_above_right.nd rfl (by first | exact Or.inl rfl | exact Or.inr rfl) (pe_op op_cat (pv 2) (pe_lst (pa_cons (pe_callB (call_errI (K := K) rfl) (by rfl) T.b_isinstance (by decide +kernel) (pa_cons (pv 0) (pa_cons (pe_glob (v := .ref a.c_LimitError) rfl T.mLimitError rfl) pa_nil))) (pa_cons (pe_callB (call_errI (K := K) rfl) (by rfl) T.b_isinstance (by decide +kernel) (pa_cons (pv 0) (pa_cons (pe_bltn (v := .ty "ValueError") (by rfl) T.b_ValueError (by decide +kernel) rfl) pa_nil))) (pa_cons (pe_callB (call_errI (K := K) rfl) (by rfl) T.b_isinstance (by decide +kernel) (pa_cons (pv 0) (pa_cons (pe_bltn (v := .ty "LookupError") (by rfl) T.b_LookupError (by decide +kernel) rfl) pa_nil))) pa_nil))))))
 (pss_cons (ps_set (i := 2) sc_above_right.nd rfl (by first | exact Or.inl rfl | exact Or.inr rfl) (pe_op op_cat (pv 2) (pe_lst (pa_cons (pe_callB (call_errI (K := K) rfl) (by rfl) T.b_isinstance (by decide +kernel) (pa_cons (pv 0) (pa_cons (pe_bltn (v := .ty "RuntimeError") (by rfl) T.b_RuntimeError (by decide +kernel) rfl) pa_nil))) (pa_cons (pe_callB (call_errI (K := K) rfl) (by rfl) T.b_isinstance (by decide +kernel) (pa_cons (pv 0) (pa_cons (pe_bltn (v := .ty "ArithmeticError") (by rfl) T.b_ArithmeticError (by decide +kernel) rfl) pa_nil))) pa_nil)))))
 (pss_cons (ps_set (i := 3) sc_above_right.nd rfl (by first | exact Or.inl rfl | exact Or.inr rfl) (pe_op op_add (pe_op op_add (pe_callTy call_int1 (by rfl) T.b_int (by decide +kernel) (pa_cons (pe_cmpR op_in_seq (pv 1) (pe_tup (pa_cons pe_int (pa_cons pe_int (pa_cons pe_int (pa_cons pe_int (pa_cons pe_int pa_nil)))))) rfl) pa_nil)) (pe_op op_mulX pe_int (pe_callTy call_int1 (by rfl) T.b_int (by decide +kernel) (pa_cons (pe_cmpR op_in_seq (pv 1) (pe_tup (pa_cons pe_int (pa_cons pe_int (pa_cons pe_int (pa_cons pe_int pa_nil))))) rfl) pa_nil)))) (pe_op op_mulX pe_int (pe_callTy call_int1 (by rfl) T.b_int (by decide +kernel) (pa_cons (pe_cmpR op_eq (pv 1) pe_int (nomark _)) pa_nil)))))
 (pss_one (ps_ret (pe_cmpR (op_eqD hr.units) (pv 2) (pe_lc (own := [("_law_k", 4)]) (by rfl) sc_above_right.nd (pi_range1 rfl T.b_range (pa_cons pe_int pa_nil)) (blkOk_by (own := [("_law_k", 4)]) (N := ["_law_made", "_law_place", "_law_above", "_law_at", "_law_k"]) (sc := defScope s_above_right) (by decide +kernel)) (fun _ _ _ _ _ => (pg_name (i := 4) sc_above_right.nd rfl (by first | exact Or.inl rfl | exact Or.inr rfl))) (fun _ _ _ _ _ => pts_nil) (fun _ _ _ _ _ => (pe_cmpR (op_inK (K := K) rfl) (pv 4) (pe_tup (pa_cons (pv 3) (pa_cons (pe_op op_add (pv 3) pe_int) pa_nil))) rfl))) (nomark _)))))))), ?_⟩
    have kf := kitF T hC
    have kt := kitB T hC
    obtain ⟨_, _, _, _, _, hx⟩ := abv T hC
    have hi : i < 32 := (List.getElem?_eq_some_iff.mp hC).1
    have S : Same H H := Same.refl H
    refine ⟨_, rfl, _, _, _, _, _, rfl, he, hx, .own _, kf 0 _ rfl, _, rfl, _, _, _, _, _, rfl, he, hx, .own _, kf 1 _ rfl, _, rfl, _, _, _, _, _, rfl, he, hx, .own _, kf 2 _ rfl, sz, fun L1 hL1 => ?_⟩
    have fr1 := Lb.Same.free S hL1
    generalize e_H1 : upd _ L1 _ = H1
    obtain ⟨s1, eL1⟩ := al3 e_H1 hL1
    clear e_H1
    (try dsimp only at eL1)
    have S := S.trans s1
    have he := he.same s1
    refine ⟨_, rfl, _, rfl, _, _, _, _, _, rfl, he, hx, .own _, kf 3 _ rfl, _, rfl, _, _, _, _, _, rfl, he, hx, .ty _, kt 0 _ rfl, _, rfl, _, _, _, _, _, rfl, he, hx, .ty _, kt 1 _ rfl, sz, fun L2 hL2 => ?_⟩
    have fr2 := Lb.Same.free S hL2
    generalize e_H2 : upd _ L2 _ = H2
    obtain ⟨s2, eL2⟩ := al3 e_H2 hL2
    clear e_H2
    (try dsimp only at eL2)
    have S := S.trans s2
    have he := he.same s2
    have eL1 := s2 _ _ eL1
    refine ⟨L1, L2, _, _, rfl, rfl, eL1, eL2, szle (by simp), fun L3 hL3 => ?_⟩
    have fr3 := Lb.Same.free S hL3
    generalize e_H3 : upd _ L3 _ = H3
    obtain ⟨s3, eL3⟩ := al3 e_H3 hL3
    clear e_H3
    (try dsimp only at eL3)
    have S := S.trans s3
    have he := he.same s3
    clear eL1 eL2
    refine ⟨_, rfl, _, rfl, _, _, _, _, _, rfl, he, hx, .ty _, kt 2 _ rfl, _, rfl, _, _, _, _, _, rfl, he, hx, .ty _, kt 3 _ rfl, sz, fun L4 hL4 => ?_⟩
    have fr4 := Lb.Same.free S hL4
    generalize e_H4 : upd _ L4 _ = H4
    obtain ⟨s4, eL4⟩ := al3 e_H4 hL4
    clear e_H4
    (try dsimp only at eL4)
    have S := S.trans s4
    have he := he.same s4
    have eL3 := s4 _ _ eL3
    refine ⟨L3, L4, _, _, rfl, rfl, eL3, eL4, szle (by simp), fun L5 hL5 => ?_⟩
    have fr5 := Lb.Same.free S hL5
    generalize e_H5 : upd _ L5 _ = H5
    obtain ⟨s5, eL5⟩ := al3 e_H5 hL5
    clear e_H5
    (try dsimp only at eL5)
    have S := S.trans s5
    have he := he.same s5
    clear eL3 eL4
    clear s1 s2 s3 s4 s5
    refine ⟨_, rfl, sz, fun t1 ht1 => ?_⟩
    generalize e_J1 : upd _ t1 _ = J1
    obtain ⟨y1, f1⟩ := al3 e_J1 ht1
    clear e_J1
    (try dsimp only at f1)
    refine ⟨t1, _, rfl, .inr (SqT.of f1), rfl, rfl, .inr ⟨_, rfl, ?_⟩⟩
    refine ⟨_, rfl, sz, fun t2 ht2 => ?_⟩
    generalize e_J2 : upd _ t2 _ = J2
    obtain ⟨y2, f2⟩ := al3 e_J2 ht2
    clear e_J2
    (try dsimp only at f2)
    refine ⟨t2, _, rfl, .inr (SqT.of f2), rfl, rfl, .inr ⟨_, rfl, ?_⟩⟩
    refine ⟨_, _, rfl, rfl, mulx_ok (a := 100) (b := 100) (by decide) (by (repeat' split) <;> decide) (by decide), _, _, rfl, rfl, ?_⟩
    refine ⟨_, rfl, rfl, .inr ⟨_, rfl, ?_⟩⟩
    refine ⟨_, _, rfl, rfl, mulx_ok (a := 100) (b := 100) (by decide) (by (repeat' split) <;> decide) (by decide), _, _, rfl, rfl, ?_⟩
    have e := at_fam i (List.mem_range.mpr hi)
    have S := S.trans (y1.trans y2)
    have eL5 := y2 _ _ (y1 _ _ eL5)
    refine ⟨_, rfl, 8, rfl, by decide, by decide, fun D hD => ?_⟩
    refine lc_range (lo := 0) (n := 8) (fun j H'' => Same J2 H'' ∧ H'' D = some (.lst ((List.range j).map fun k : Nat => V.bl (inV (V.int (k : Int)) [V.int (famI i : Int), V.int ((famI i : Int) + 4)])))) ⟨Lb.Same.upd hD, upd_same⟩ ?_ ?_
    · rintro j H'' hj ⟨m, eD⟩
      refine ⟨rfl, _, rfl, _, rfl, _, rfl, _, _, rfl, rfl, sz, fun t ht => ?_⟩
      generalize e_G1 : upd _ t _ = G1
      obtain ⟨g1, h1⟩ := al3 e_G1 ht
      clear e_G1
      (try dsimp only at h1)
      refine ⟨t, _, rfl, .inr (SqT.of h1), rfl, rfl, _, g1 _ _ eD, szlt (by rw [List.length_map, List.length_range]; omega), fun b o q => ?_, ?_⟩
      · rw [upd_ne (ne_of_none q hD)]
        exact g1 _ _ (m _ _ q)
      · rw [upd_same, List.range_succ, List.map_append]
        refine congrArg (fun z => some (HO.lst (List.map (fun k : Nat => V.bl (inV (V.int (k : Int)) [V.int (famI i : Int), V.int ((famI i : Int) + 4)])) (List.range j) ++ [z]))) ?_
        exact (congrArg (fun z => V.bl (inV (V.int (0 + (j : Int))) [V.int z, V.int (z + 4)])) e).trans (by rw [Int.zero_add])
    · rintro H3 ⟨m, eD⟩
      refine ⟨_, _, .lst (SqL.of (m _ _ eL5)) (dp_bools [_, _, _, _, _, _, _, _]), .lst (SqL.of eD) (dp_bools ((List.range 8).map fun k : Nat => inV (V.int (k : Int)) [V.int (famI i : Int), V.int ((famI i : Int) + 4)])), rfl, rfl, ?_⟩
      rw [eqv8 (famI i) (List.mem_range.mpr (famI_lt i))]
      exact k _ (S.trans m)
end
end K10

set_option Elab.async false
set_option linter.all false
set_option maxRecDepth 100000
set_option maxHeartbeats 4000000
namespace K10
open PySem L2 Lb
theorem room8 {A : Around} {k : Nat} (h : Room k A) : A.units + 8 + 64 < cLine := by have := h.un; omega
theorem cut_nat {xs : List V} {b e : Nat} (h1 : b ≤ xs.length) (h2 : e ≤ xs.length) : cutV xs (some (b : Int)) (some (e : Int)) = (xs.drop b).take (e - b) := by
  unfold cutV
  rw [HT.sIx_nat, HT.sIx_nat, Nat.min_eq_left h1, Nat.min_eq_left h2]
theorem cut_to {xs : List V} {k : Nat} (h : k ≤ xs.length) : cutV xs none (some (k : Int)) = xs.take k := by
  unfold cutV
  rw [HT.sIx_nat, HT.sIx_none, Nat.min_eq_left h]
  rfl
theorem cut_mid {xs pre mid post : List V} {b e : Nat} (h : xs = pre ++ (mid ++ post)) (h1 : pre.length = b) (h2 : e = b + mid.length) : cutV xs (some (b : Int)) (some (e : Int)) = mid := by
  subst h
  rw [cut_nat (by rw [List.length_append]; omega) (by rw [List.length_append, List.length_append]; omega), ← h1, List.drop_left, show e - pre.length = mid.length by omega, List.take_left]
theorem errs_mem {H : Hp} {x : Addr × List (Str × V)} : ∀ {es : List V} {cs : List (Addr × List (Str × V))}, Errs H es cs → (∀ c ∈ cs, c = x) → ∀ v ∈ es, ErrV H v x
  | _, _, .nil, _, _, m => nomatch m
  | _, _, .cons h t, all, v, m => by
    have e := all _ List.mem_cons_self
    subst e
    rcases List.mem_cons.mp m with rfl | m
    · exact h
    · exact errs_mem t (fun c hc => all c (List.mem_cons_of_mem _ hc)) v m
theorem errs_split {H : Hp} : ∀ {cs cs' : List (Addr × List (Str × V))} {es : List V}, Errs H es (cs ++ cs') → ∃ e1 e2, es = e1 ++ e2 ∧ Errs H e1 cs ∧ Errs H e2 cs'
  | [], cs', es, h => ⟨[], es, rfl, .nil, h⟩
  | c :: cs, cs', es, h => by
    cases h with
    | cons h t =>
      obtain ⟨e1, e2, rfl, h1, h2⟩ := errs_split t
      exact ⟨_ :: e1, e2, rfl, .cons h h1, h2⟩
theorem all_nil {α : Type} {p : α → Prop} : ∀ c ∈ ([] : List α), p c := fun _ h => nomatch h
theorem all_cons {α : Type} {p : α → Prop} {x : α} {l : List α} (h : p x) (t : ∀ c ∈ l, p c) : ∀ c ∈ x :: l, p c := fun c m => by
  rcases List.mem_cons.mp m with rfl | m
  · exact h
  · exact t c m
theorem all_app {α : Type} {p : α → Prop} {l m : List α} (h : ∀ c ∈ l, p c) (t : ∀ c ∈ m, p c) : ∀ c ∈ l ++ m, p c := fun c k => by
  rcases List.mem_append.mp k with k | k
  · exact h c k
  · exact t c k
/-- an error whose f is y -/
def Fld (K : PySem.W.Frag) (H : Hp) (f : Str) (y : V) (v : V) : Prop := ∃ C, ErrAt H v C [(f, y)] ∧ ExcC K C ∧ PySem.W.findIn K (.ref C) f = some none
theorem flds_of {K : PySem.W.Frag} {H : Hp} {f : Str} {y : V} : ∀ {es : List V} {cs : List (Addr × List (Str × V))}, Errs H es cs → (∀ c ∈ cs, c.2 = [(f, y)] ∧ ExcC K c.1 ∧ PySem.W.findIn K (.ref c.1) f = some none) → ∀ v ∈ es, Fld K H f y v
  | _, _, .nil, _, _, m => nomatch m
  | _, _, .cons (a := x) (b := c) h t, all, v, m => by
    obtain ⟨e, hx, hn⟩ := all _ List.mem_cons_self
    rcases List.mem_cons.mp m with rfl | m
    · exact ⟨c.1, e ▸ h.2 (by rw [e]; simp), hx, hn⟩
    · exact flds_of t (fun c hc => all c (List.mem_cons_of_mem _ hc)) v m
def sp_parts_right (a : Ad) : Sp := fun vs H Q _ => ∃ (l t p : Addr) (es : List V) (o g : Od) (i : Pl) (x : Q2) (s : Str) (n : Int) (vo vt : V) (qw sw : Addr), vs = [.ref l, .ref t] ∧ H l = some (.lst es) ∧
  H t = some (.tup [vo, vt, i.v, .ref qw, .ref sw]) ∧ Errs H es (cs_row a vo vt i.v qw (.str s) (.int n)) ∧ OdAt p H o vo ∧ OdAt p H g vt ∧ AmQ a.c_Amount H qw x ∧ H sw = some (.tup [.str s, .int n]) ∧ o.ok ∧ g.ok ∧ i.ok ∧ (Od.tp [.str s, .int n]).ok ∧
  ∀ H', Same H H' → Q (.bl true) H'
section
variable {P : Program} {w : World} {K : PySem.W.Frag} {mg : Str → Option Value} {base : Heap} {a : Ad}
theorem ok_parts_right (T : Txt K mg a) : FnG P w K mg base CX0 3 a.f_parts_right a.d_parts_right ["_law_made", "_law_parts_here"] (sp_parts_right a) := by
  refine okG T.F_parts_right sc_parts_right (fun vs H Q E h => ?_) (fun cdv A outer s H vs Q E gu hr h => ?_)
  · obtain ⟨l, t, p, es, o, g, i, x, s, n, vo, vt, qw, sw, rfl, _⟩ := h
    rfl
  · obtain ⟨l, t, p, es, o, g, i, x, s, n, vo, vt, qw, sw, rfl, el, et, er, ao, ag, aw, ew, oo, og, oi, ow, k⟩ := h
    refine ⟨_, (pss_cons (ps_asg (pv 1) (pg_tupK (K := K) (n := 5) rfl rfl (pgs_cons (pg_name (i := 2) sc_parts_right.nd rfl (by first | exact Or.inl rfl | exact Or.inr rfl)) (pgs_cons (pg_name (i := 3) sc_parts_right.nd rfl (by first | exact Or.inl rfl | exact Or.inr rfl)) (pgs_cons (pg_name (i := 4) sc_parts_right.nd rfl (by first | exact Or.inl rfl | exact Or.inr rfl)) (pgs_cons (pg_name (i := 5) sc_parts_right.nd rfl (by first | exact Or.inl rfl | exact Or.inr rfl)) (pgs_cons (pg_name (i := 6) sc_parts_right.nd rfl (by first | exact Or.inl rfl | exact Or.inr rfl)) pgs_nil)))))))
 (pss_cons (ps_if (pt_not (pt_val (pe_callB (cr_allK (K := K) rfl rfl) (by rfl) T.b_all (by decide +kernel) (pa_cons (pe_lc (own := [("_law_one", 7)]) (by rfl) sc_parts_right.nd (pi_listK (K := K) rfl (pe_slice (sl_listK (K := K) rfl) (pv 0) po_none (po_some pe_int))) (blkOk_by (own := [("_law_one", 7)]) (N := ["_law_made", "_law_parts_here", "_law_odd", "_law_tag", "_law_at", "_law_whole", "_law_sort", "_law_one"]) (sc := defScope s_parts_right) (by decide +kernel)) (fun _ _ _ _ _ => (pg_name (i := 7) sc_parts_right.nd rfl (by first | exact Or.inl rfl | exact Or.inr rfl))) (fun _ _ _ _ _ => pts_nil) (fun _ _ _ _ _ => (pe_cmpR op_eq (pe_callB (call_od (K := K) rfl gu (room8 hr)) (by rfl) T.b_repr (by decide +kernel) (pa_cons (pe_errF (K := K) rfl (pv 7)) pa_nil)) (pe_callB (call_od (K := K) rfl gu (room8 hr)) (by rfl) T.b_repr (by decide +kernel) (pa_cons (pv 2) pa_nil)) (nomark _)))) pa_nil)))) (pss_one (ps_ret pe_bl)) pss_nil)
 (pss_cons (ps_if (pt_not (pt_val (pe_callB (cr_allK (K := K) rfl rfl) (by rfl) T.b_all (by decide +kernel) (pa_cons (pe_lc (own := [("_law_one", 7)]) (by rfl) sc_parts_right.nd (pi_listK (K := K) rfl (pe_slice (sl_listK (K := K) rfl) (pv 0) (po_some pe_int) (po_some pe_int))) (blkOk_by (own := [("_law_one", 7)]) (N := ["_law_made", "_law_parts_here", "_law_odd", "_law_tag", "_law_at", "_law_whole", "_law_sort", "_law_one"]) (sc := defScope s_parts_right) (by decide +kernel)) (fun _ _ _ _ _ => (pg_name (i := 7) sc_parts_right.nd rfl (by first | exact Or.inl rfl | exact Or.inr rfl))) (fun _ _ _ _ _ => pts_nil) (fun _ _ _ _ _ => (pe_cmpR op_eq (pe_callB (call_od (K := K) rfl gu (room8 hr)) (by rfl) T.b_repr (by decide +kernel) (pa_cons (pe_errF (K := K) rfl (pv 7)) pa_nil)) (pe_callB (call_od (K := K) rfl gu (room8 hr)) (by rfl) T.b_repr (by decide +kernel) (pa_cons (pv 4) pa_nil)) (nomark _)))) pa_nil)))) (pss_one (ps_ret pe_bl)) pss_nil)
 (pss_cons (ps_if (pt_not (pt_val (pe_callB (cr_allK (K := K) rfl rfl) (by rfl) T.b_all (by decide +kernel) (pa_cons (pe_lc (own := [("_law_one", 7)]) (by rfl) sc_parts_right.nd (pi_listK (K := K) rfl (pe_slice (sl_listK (K := K) rfl) (pv 0) (po_some pe_int) (po_some pe_int))) (blkOk_by (own := [("_law_one", 7)]) (N := ["_law_made", "_law_parts_here", "_law_odd", "_law_tag", "_law_at", "_law_whole", "_law_sort", "_law_one"]) (sc := defScope s_parts_right) (by decide +kernel)) (fun _ _ _ _ _ => (pg_name (i := 7) sc_parts_right.nd rfl (by first | exact Or.inl rfl | exact Or.inr rfl))) (fun _ _ _ _ _ => pts_nil) (fun _ _ _ _ _ => (pe_cmpR op_eq (pe_callB (call_od (K := K) rfl gu (room8 hr)) (by rfl) T.b_repr (by decide +kernel) (pa_cons (pe_errF (K := K) rfl (pv 7)) pa_nil)) (pe_callB (call_od (K := K) rfl gu (room8 hr)) (by rfl) T.b_repr (by decide +kernel) (pa_cons (pv 3) pa_nil)) (nomark _)))) pa_nil)))) (pss_one (ps_ret pe_bl)) pss_nil)
 (pss_cons (ps_if (pt_not (pt_val (pe_callB (cr_allK (K := K) rfl rfl) (by rfl) T.b_all (by decide +kernel) (pa_cons (pe_lc (own := [("_law_one", 7)]) (by rfl) sc_parts_right.nd (pi_listK (K := K) rfl (pe_slice (sl_listK (K := K) rfl) (pv 0) (po_some pe_int) (po_some pe_int))) (blkOk_by (own := [("_law_one", 7)]) (N := ["_law_made", "_law_parts_here", "_law_odd", "_law_tag", "_law_at", "_law_whole", "_law_sort", "_law_one"]) (sc := defScope s_parts_right) (by decide +kernel)) (fun _ _ _ _ _ => (pg_name (i := 7) sc_parts_right.nd rfl (by first | exact Or.inl rfl | exact Or.inr rfl))) (fun _ _ _ _ _ => pts_nil) (fun _ _ _ _ _ => (pe_cmpR op_eq (pe_callB (call_od (K := K) rfl gu (room8 hr)) (by rfl) T.b_repr (by decide +kernel) (pa_cons (pe_errF (K := K) rfl (pv 7)) pa_nil)) (pe_callB (call_od (K := K) rfl gu (room8 hr)) (by rfl) T.b_repr (by decide +kernel) (pa_cons (pv 3) pa_nil)) (nomark _)))) pa_nil)))) (pss_one (ps_ret pe_bl)) pss_nil)
 (pss_cons (ps_if (pt_not (pt_val (pe_callB (cr_allK (K := K) rfl rfl) (by rfl) T.b_all (by decide +kernel) (pa_cons (pe_lc (own := [("_law_one", 7)]) (by rfl) sc_parts_right.nd (pi_listK (K := K) rfl (pe_slice (sl_listK (K := K) rfl) (pv 0) (po_some pe_int) (po_some pe_int))) (blkOk_by (own := [("_law_one", 7)]) (N := ["_law_made", "_law_parts_here", "_law_odd", "_law_tag", "_law_at", "_law_whole", "_law_sort", "_law_one"]) (sc := defScope s_parts_right) (by decide +kernel)) (fun _ _ _ _ _ => (pg_name (i := 7) sc_parts_right.nd rfl (by first | exact Or.inl rfl | exact Or.inr rfl))) (fun _ _ _ _ _ => pts_nil) (fun _ _ _ _ _ => (pe_cmpR op_eq (pe_callB (call_od (K := K) rfl gu (room8 hr)) (by rfl) T.b_repr (by decide +kernel) (pa_cons (pe_errF (K := K) rfl (pv 7)) pa_nil)) (pe_callB (call_od (K := K) rfl gu (room8 hr)) (by rfl) T.b_repr (by decide +kernel) (pa_cons (pv 3) pa_nil)) (nomark _)))) pa_nil)))) (pss_one (ps_ret pe_bl)) pss_nil)
 (pss_cons (ps_if (pt_not (pt_val (pe_callB (cr_allK (K := K) rfl rfl) (by rfl) T.b_all (by decide +kernel) (pa_cons (pe_lc (own := [("_law_one", 7)]) (by rfl) sc_parts_right.nd (pi_listK (K := K) rfl (pe_slice (sl_listK (K := K) rfl) (pv 0) (po_some pe_int) (po_some pe_int))) (blkOk_by (own := [("_law_one", 7)]) (N := ["_law_made", "_law_parts_here", "_law_odd", "_law_tag", "_law_at", "_law_whole", "_law_sort", "_law_one"]) (sc := defScope s_parts_right) (by decide +kernel)) (fun _ _ _ _ _ => (pg_name (i := 7) sc_parts_right.nd rfl (by first | exact Or.inl rfl | exact Or.inr rfl))) (fun _ _ _ _ _ => pts_nil) (fun _ _ _ _ _ => (pe_and (pe_callB (call_isiK' (K := K) rfl) (by rfl) T.b_isinstance (by decide +kernel) (pa_cons (pe_errF (K := K) rfl (pv 7)) (pa_cons (pe_glob (v := .ref a.c_Amount) rfl T.mA rfl) pa_nil))) (pe_one (pe_cmpR (op_ownCmp (n := 1) (C := a.c_Amount) (K := K) rfl (fun _ _ => rfl) T.cEq.at_ T.cEq.fn ((ok_Amount_eq_ T).raw (b_Amount_eq_ T) .nil) (hr.mono (by decide)) pass0) (pe_errF (K := K) rfl (pv 7)) (pv 5) (nomark _)))))) pa_nil)))) (pss_one (ps_ret pe_bl)) pss_nil)
 (pss_cons (ps_if (pt_not (pt_val (pe_callB (cr_allK (K := K) rfl rfl) (by rfl) T.b_all (by decide +kernel) (pa_cons (pe_lc (own := [("_law_one", 7)]) (by rfl) sc_parts_right.nd (pi_listK (K := K) rfl (pe_slice (sl_listK (K := K) rfl) (pv 0) (po_some pe_int) (po_some pe_int))) (blkOk_by (own := [("_law_one", 7)]) (N := ["_law_made", "_law_parts_here", "_law_odd", "_law_tag", "_law_at", "_law_whole", "_law_sort", "_law_one"]) (sc := defScope s_parts_right) (by decide +kernel)) (fun _ _ _ _ _ => (pg_name (i := 7) sc_parts_right.nd rfl (by first | exact Or.inl rfl | exact Or.inr rfl))) (fun _ _ _ _ _ => pts_nil) (fun _ _ _ _ _ => (pe_cmpR op_eq (pe_callB (call_od (K := K) rfl gu (room8 hr)) (by rfl) T.b_repr (by decide +kernel) (pa_cons (pe_errF (K := K) rfl (pv 7)) pa_nil)) (pe_callB (call_od (K := K) rfl gu (room8 hr)) (by rfl) T.b_repr (by decide +kernel) (pa_cons (pv 4) pa_nil)) (nomark _)))) pa_nil)))) (pss_one (ps_ret pe_bl)) pss_nil)
 (pss_one (ps_ret (pe_callB (cr_allK (K := K) rfl rfl) (by rfl) T.b_all (by decide +kernel) (pa_cons (pe_lc (own := [("_law_one", 7)]) (by rfl) sc_parts_right.nd (pi_listK (K := K) rfl (pe_slice (sl_listK (K := K) rfl) (pv 0) (po_some pe_int) (po_some pe_int))) (blkOk_by (own := [("_law_one", 7)]) (N := ["_law_made", "_law_parts_here", "_law_odd", "_law_tag", "_law_at", "_law_whole", "_law_sort", "_law_one"]) (sc := defScope s_parts_right) (by decide +kernel)) (fun _ _ _ _ _ => (pg_name (i := 7) sc_parts_right.nd rfl (by first | exact Or.inl rfl | exact Or.inr rfl))) (fun _ _ _ _ _ => pts_nil) (fun _ _ _ _ _ => (pe_cmpR op_eq (pe_callB (call_od (K := K) rfl gu (room8 hr)) (by rfl) T.b_repr (by decide +kernel) (pa_cons (pe_tup (pa_cons (pe_errF (K := K) rfl (pv 7)) (pa_cons (pe_errF (K := K) rfl (pv 7)) pa_nil))) pa_nil)) (pe_callB (call_od (K := K) rfl gu (room8 hr)) (by rfl) T.b_repr (by decide +kernel) (pa_cons (pv 6) pa_nil)) (nomark _)))) pa_nil)))))))))))), ?_⟩
    refine ⟨_, rfl, _, _, rfl, SqT.of et, rfl, _, _, rfl, _, _, rfl, _, _, rfl, _, _, rfl, _, _, rfl, rfl, ?_⟩
    obtain ⟨es4, es5, rfl, er, er5⟩ := errs_split er
    obtain ⟨es3, e4, rfl, er, er4⟩ := errs_split er
    obtain ⟨es2, e3, rfl, er, er3⟩ := errs_split er
    obtain ⟨e1, e2, rfl, er1, er2⟩ := errs_split er
    obtain ⟨es6, e9, rfl, er5, er9⟩ := errs_split er5
    obtain ⟨es7, e8, rfl, er5, er8⟩ := errs_split er5
    obtain ⟨es8, e7, rfl, er5, er7⟩ := errs_split er5
    obtain ⟨e5, e6, rfl, er5, er6⟩ := errs_split (cs := [(a.c_InvalidPipes, [(("name" : Str), vt)]), (a.c_InvalidPipes, [(("name" : Str), vt)])]) (cs' := [(a.c_Unbalanced, [(("total" : Str), V.ref qw)]), (a.c_Unbalanced, [(("total" : Str), V.ref qw)])]) er5
    have n1 : e1.length = 26 := er1.n
    have n2 : e2.length = 8 := er2.n
    have n3 : e3.length = 8 := er3.n
    have n4 : e4.length = 10 := er4.n
    have n5 : e5.length = 2 := er5.n
    have n6 : e6.length = 2 := er6.n
    have n7 : e7.length = 2 := er7.n
    have n8 : e8.length = 2 := er8.n
    have n9 : e9.length = 4 := er9.n
    have f1 : ∀ v ∈ e1, Fld K H "value" vo v := flds_of er1 (all_app (all_app (all_app (all_app (all_app (all_app (all_cons ⟨rfl, T.xInvalidInteger.eC, T.nInvalidInteger⟩ (all_cons ⟨rfl, T.xInvalidInteger.eC, T.nInvalidInteger⟩ (all_cons ⟨rfl, T.xInvalidAmount.eC, T.nInvalidAmount⟩ (all_cons ⟨rfl, T.xInvalidAmount.eC, T.nInvalidAmount⟩ all_nil)))) (all_cons ⟨rfl, T.xInvalidOrder.eC, T.nInvalidOrder⟩ (all_cons ⟨rfl, T.xInvalidOrder.eC, T.nInvalidOrder⟩ (all_cons ⟨rfl, T.xInvalidWord.eC, T.nInvalidWord⟩ (all_cons ⟨rfl, T.xInvalidWord.eC, T.nInvalidWord⟩ all_nil))))) (all_cons ⟨rfl, T.xInvalidPlace.eC, T.nInvalidPlace⟩ (all_cons ⟨rfl, T.xInvalidPlace.eC, T.nInvalidPlace⟩ (all_cons ⟨rfl, T.xInvalidClaim.eC, T.nInvalidClaim⟩ (all_cons ⟨rfl, T.xInvalidClaim.eC, T.nInvalidClaim⟩ all_nil))))) (all_cons ⟨rfl, T.xInvalidLine.eC, T.nInvalidLine⟩ (all_cons ⟨rfl, T.xInvalidLine.eC, T.nInvalidLine⟩ (all_cons ⟨rfl, T.xUnknownPipe.eC, T.nUnknownPipe⟩ (all_cons ⟨rfl, T.xUnknownPipe.eC, T.nUnknownPipe⟩ all_nil))))) (all_cons ⟨rfl, T.xUnknownNode.eC, T.nUnknownNode⟩ (all_cons ⟨rfl, T.xUnknownNode.eC, T.nUnknownNode⟩ (all_cons ⟨rfl, T.xUnknownPole.eC, T.nUnknownPole⟩ (all_cons ⟨rfl, T.xUnknownPole.eC, T.nUnknownPole⟩ all_nil))))) (all_cons ⟨rfl, T.xUnknownKind.eC, T.nUnknownKind⟩ (all_cons ⟨rfl, T.xUnknownKind.eC, T.nUnknownKind⟩ (all_cons ⟨rfl, T.xUnknownReading.eC, T.nUnknownReading⟩ (all_cons ⟨rfl, T.xUnknownReading.eC, T.nUnknownReading⟩ all_nil))))) (all_cons ⟨rfl, T.xNotSure.eC, T.nNotSure⟩ (all_cons ⟨rfl, T.xNotSure.eC, T.nNotSure⟩ all_nil)))
    have f2 : ∀ v ∈ e2, Fld K H "position" i.v v := flds_of er2 (all_app (all_cons ⟨rfl, T.xInvalidPoints.eC, T.nInvalidPoints⟩ (all_cons ⟨rfl, T.xInvalidPoints.eC, T.nInvalidPoints⟩ (all_cons ⟨rfl, T.xInvalidLevels.eC, T.nInvalidLevels⟩ (all_cons ⟨rfl, T.xInvalidLevels.eC, T.nInvalidLevels⟩ all_nil)))) (all_cons ⟨rfl, T.xInvalidReading.eC, T.nInvalidReading⟩ (all_cons ⟨rfl, T.xInvalidReading.eC, T.nInvalidReading⟩ (all_cons ⟨rfl, T.xInvalidStates.eC, T.nInvalidStates⟩ (all_cons ⟨rfl, T.xInvalidStates.eC, T.nInvalidStates⟩ all_nil)))))
    have f3 : ∀ v ∈ e3, Fld K H "node" vt v := flds_of er3 (all_app (all_cons ⟨rfl, T.xNotConnected.eC, T.nNotConnected⟩ (all_cons ⟨rfl, T.xNotConnected.eC, T.nNotConnected⟩ (all_cons ⟨rfl, T.xInvalidDemands.eC, T.nInvalidDemands⟩ (all_cons ⟨rfl, T.xInvalidDemands.eC, T.nInvalidDemands⟩ all_nil)))) (all_cons ⟨rfl, T.xInvalidPoles.eC, T.nInvalidPoles⟩ (all_cons ⟨rfl, T.xInvalidPoles.eC, T.nInvalidPoles⟩ (all_cons ⟨rfl, T.xInvalidHeights.eC, T.nInvalidHeights⟩ (all_cons ⟨rfl, T.xInvalidHeights.eC, T.nInvalidHeights⟩ all_nil)))))
    have f4 : ∀ v ∈ e4, Fld K H "pipe" vt v := flds_of er4 (all_app (all_app (all_cons ⟨rfl, T.xInvalidConductances.eC, T.nInvalidConductances⟩ (all_cons ⟨rfl, T.xInvalidConductances.eC, T.nInvalidConductances⟩ (all_cons ⟨rfl, T.xInvalidCurves.eC, T.nInvalidCurves⟩ (all_cons ⟨rfl, T.xInvalidCurves.eC, T.nInvalidCurves⟩ all_nil)))) (all_cons ⟨rfl, T.xInvalidFlows.eC, T.nInvalidFlows⟩ (all_cons ⟨rfl, T.xInvalidFlows.eC, T.nInvalidFlows⟩ (all_cons ⟨rfl, T.xInvalidKinds.eC, T.nInvalidKinds⟩ (all_cons ⟨rfl, T.xInvalidKinds.eC, T.nInvalidKinds⟩ all_nil))))) (all_cons ⟨rfl, T.xIsBridge.eC, T.nIsBridge⟩ (all_cons ⟨rfl, T.xIsBridge.eC, T.nIsBridge⟩ all_nil)))
    have f5 : ∀ v ∈ e5, Fld K H "name" vt v := flds_of er5 (all_cons ⟨rfl, T.xInvalidPipes.eC, T.nInvalidPipes⟩ (all_cons ⟨rfl, T.xInvalidPipes.eC, T.nInvalidPipes⟩ all_nil))
    have f6 : ∀ v ∈ e6, Fld K H "total" (.ref qw) v := flds_of er6 (all_cons ⟨rfl, T.xUnbalanced.eC, T.nUnbalanced⟩ (all_cons ⟨rfl, T.xUnbalanced.eC, T.nUnbalanced⟩ all_nil))
    have f7 : ∀ v ∈ e7, Fld K H "line" i.v v := flds_of er7 (all_cons ⟨rfl, T.xInvalidText.eC, T.nInvalidText⟩ (all_cons ⟨rfl, T.xInvalidText.eC, T.nInvalidText⟩ all_nil))
    have f8 : ∀ v ∈ e8, ErrAt H v a.c_TooMany [(("limit" : Str), V.int n), (("what" : Str), V.str s)] := fun v m => (errs_mem er8 (all_cons rfl (all_cons rfl all_nil)) v m).2 (by simp)
    have ai : OdAt p H (.pl i) i.v := rfl
    have as : OdAt p H (.tp [.str s, .int n]) (.ref sw) := ⟨sw, rfl, ew⟩
    have S0 : Same H H := Same.refl H
    clear er er1 er2 er3 er4 er5 er6 er7 er8 er9
    refine ⟨_, rfl, _, rfl, l, _, rfl, SqL.of (S0 _ _ el), fun u hu => ?_⟩
    rw [show cutV (e1 ++ e2 ++ e3 ++ e4 ++ (e5 ++ e6 ++ e7 ++ e8 ++ e9)) none (some 26) = e1 from (cut_to (k := 26) (by simp only [List.length_append]; omega)).trans (by simp only [List.append_assoc]; rw [← n1, List.take_left])]
    generalize e_G1 : upd _ u _ = G1
    obtain ⟨z1, eu⟩ := al3 e_G1 hu
    clear e_G1
    (try dsimp only at eu)
    have S0 := S0.trans z1
    refine ⟨u, rfl, ⟨_, SqL.of eu⟩, fun D hD => ?_⟩
    refine lc_list (K := K) (a := u) (xs := e1) (fun j H' => Same G1 H' ∧ H' D = some (.lst ((List.replicate j true).map V.bl))) ⟨Lb.Same.upd hD, upd_same⟩ (fun j H' _ b => SqL.of (b.1 _ _ eu)) ?_ ?_
    · rintro j v H' hj ⟨m, eD⟩
      have hlt := (List.getElem?_eq_some_iff.mp hj).1
      have M := S0.trans m
      refine ⟨rfl, ?_⟩
      obtain ⟨C, fe, hx, hn⟩ := f1 v (List.mem_of_getElem? hj)
      refine ⟨_, rfl, C, _, _, fe.same M, hx, hn, rfl, p, _, o, rfl, ao.same M, oo, fun H2 m2 => ?_⟩
      refine ⟨_, rfl, p, _, o, rfl, (ao.same M).same m2, oo, fun H3 m3 => ?_⟩
      refine ⟨rfl, _, (m2.trans m3) _ _ eD, szlt (by rw [List.length_map, List.length_replicate]; omega), Lb.Same.updl (m.trans (m2.trans m3)) hD, ?_⟩
      rw [upd_same, List.replicate_succ', List.map_append, decide_eq_true rfl]
      rfl
    rintro K1 ⟨m, eD⟩
    refine ⟨D, _, rfl, SqL.of eD, ?_⟩
    rw [all_replicate_true]
    have S0 := S0.trans m
    refine ⟨true, rfl, iteF ?_⟩
    clear m eD hD eu hu z1
    refine ⟨_, rfl, _, rfl, _, rfl, l, _, rfl, SqL.of (S0 _ _ el), fun u hu => ?_⟩
    rw [show cutV (e1 ++ e2 ++ e3 ++ e4 ++ (e5 ++ e6 ++ e7 ++ e8 ++ e9)) (some 26) (some 34) = e2 from cut_mid (pre := e1) (post := e3 ++ (e4 ++ (e5 ++ (e6 ++ (e7 ++ (e8 ++ (e9))))))) (b := 26) (e := 34) (by simp only [List.append_assoc]) (by first | omega | (simp only [List.length_append]; omega)) (by omega)]
    generalize e_G2 : upd _ u _ = G2
    obtain ⟨z2, eu⟩ := al3 e_G2 hu
    clear e_G2
    (try dsimp only at eu)
    have S0 := S0.trans z2
    refine ⟨u, rfl, ⟨_, SqL.of eu⟩, fun D hD => ?_⟩
    refine lc_list (K := K) (a := u) (xs := e2) (fun j H' => Same G2 H' ∧ H' D = some (.lst ((List.replicate j true).map V.bl))) ⟨Lb.Same.upd hD, upd_same⟩ (fun j H' _ b => SqL.of (b.1 _ _ eu)) ?_ ?_
    · rintro j v H' hj ⟨m, eD⟩
      have hlt := (List.getElem?_eq_some_iff.mp hj).1
      have M := S0.trans m
      refine ⟨rfl, ?_⟩
      obtain ⟨C, fe, hx, hn⟩ := f2 v (List.mem_of_getElem? hj)
      refine ⟨_, rfl, C, _, _, fe.same M, hx, hn, rfl, p, _, (.pl i), rfl, ai.same M, oi, fun H2 m2 => ?_⟩
      refine ⟨_, rfl, p, _, (.pl i), rfl, (ai.same M).same m2, oi, fun H3 m3 => ?_⟩
      refine ⟨rfl, _, (m2.trans m3) _ _ eD, szlt (by rw [List.length_map, List.length_replicate]; omega), Lb.Same.updl (m.trans (m2.trans m3)) hD, ?_⟩
      rw [upd_same, List.replicate_succ', List.map_append, decide_eq_true rfl]
      rfl
    rintro K2 ⟨m, eD⟩
    refine ⟨D, _, rfl, SqL.of eD, ?_⟩
    rw [all_replicate_true]
    have S0 := S0.trans m
    refine ⟨true, rfl, iteF ?_⟩
    clear m eD hD eu hu z2
    refine ⟨_, rfl, _, rfl, _, rfl, l, _, rfl, SqL.of (S0 _ _ el), fun u hu => ?_⟩
    rw [show cutV (e1 ++ e2 ++ e3 ++ e4 ++ (e5 ++ e6 ++ e7 ++ e8 ++ e9)) (some 34) (some 42) = e3 from cut_mid (pre := e1 ++ e2) (post := e4 ++ (e5 ++ (e6 ++ (e7 ++ (e8 ++ (e9)))))) (b := 34) (e := 42) (by simp only [List.append_assoc]) (by first | omega | (simp only [List.length_append]; omega)) (by omega)]
    generalize e_G3 : upd _ u _ = G3
    obtain ⟨z3, eu⟩ := al3 e_G3 hu
    clear e_G3
    (try dsimp only at eu)
    have S0 := S0.trans z3
    refine ⟨u, rfl, ⟨_, SqL.of eu⟩, fun D hD => ?_⟩
    refine lc_list (K := K) (a := u) (xs := e3) (fun j H' => Same G3 H' ∧ H' D = some (.lst ((List.replicate j true).map V.bl))) ⟨Lb.Same.upd hD, upd_same⟩ (fun j H' _ b => SqL.of (b.1 _ _ eu)) ?_ ?_
    · rintro j v H' hj ⟨m, eD⟩
      have hlt := (List.getElem?_eq_some_iff.mp hj).1
      have M := S0.trans m
      refine ⟨rfl, ?_⟩
      obtain ⟨C, fe, hx, hn⟩ := f3 v (List.mem_of_getElem? hj)
      refine ⟨_, rfl, C, _, _, fe.same M, hx, hn, rfl, p, _, g, rfl, ag.same M, og, fun H2 m2 => ?_⟩
      refine ⟨_, rfl, p, _, g, rfl, (ag.same M).same m2, og, fun H3 m3 => ?_⟩
      refine ⟨rfl, _, (m2.trans m3) _ _ eD, szlt (by rw [List.length_map, List.length_replicate]; omega), Lb.Same.updl (m.trans (m2.trans m3)) hD, ?_⟩
      rw [upd_same, List.replicate_succ', List.map_append, decide_eq_true rfl]
      rfl
    rintro K3 ⟨m, eD⟩
    refine ⟨D, _, rfl, SqL.of eD, ?_⟩
    rw [all_replicate_true]
    have S0 := S0.trans m
    refine ⟨true, rfl, iteF ?_⟩
    clear m eD hD eu hu z3
    refine ⟨_, rfl, _, rfl, _, rfl, l, _, rfl, SqL.of (S0 _ _ el), fun u hu => ?_⟩
    rw [show cutV (e1 ++ e2 ++ e3 ++ e4 ++ (e5 ++ e6 ++ e7 ++ e8 ++ e9)) (some 42) (some 52) = e4 from cut_mid (pre := e1 ++ e2 ++ e3) (post := e5 ++ (e6 ++ (e7 ++ (e8 ++ (e9))))) (b := 42) (e := 52) (by simp only [List.append_assoc]) (by first | omega | (simp only [List.length_append]; omega)) (by omega)]
    generalize e_G4 : upd _ u _ = G4
    obtain ⟨z4, eu⟩ := al3 e_G4 hu
    clear e_G4
    (try dsimp only at eu)
    have S0 := S0.trans z4
    refine ⟨u, rfl, ⟨_, SqL.of eu⟩, fun D hD => ?_⟩
    refine lc_list (K := K) (a := u) (xs := e4) (fun j H' => Same G4 H' ∧ H' D = some (.lst ((List.replicate j true).map V.bl))) ⟨Lb.Same.upd hD, upd_same⟩ (fun j H' _ b => SqL.of (b.1 _ _ eu)) ?_ ?_
    · rintro j v H' hj ⟨m, eD⟩
      have hlt := (List.getElem?_eq_some_iff.mp hj).1
      have M := S0.trans m
      refine ⟨rfl, ?_⟩
      obtain ⟨C, fe, hx, hn⟩ := f4 v (List.mem_of_getElem? hj)
      refine ⟨_, rfl, C, _, _, fe.same M, hx, hn, rfl, p, _, g, rfl, ag.same M, og, fun H2 m2 => ?_⟩
      refine ⟨_, rfl, p, _, g, rfl, (ag.same M).same m2, og, fun H3 m3 => ?_⟩
      refine ⟨rfl, _, (m2.trans m3) _ _ eD, szlt (by rw [List.length_map, List.length_replicate]; omega), Lb.Same.updl (m.trans (m2.trans m3)) hD, ?_⟩
      rw [upd_same, List.replicate_succ', List.map_append, decide_eq_true rfl]
      rfl
    rintro K4 ⟨m, eD⟩
    refine ⟨D, _, rfl, SqL.of eD, ?_⟩
    rw [all_replicate_true]
    have S0 := S0.trans m
    refine ⟨true, rfl, iteF ?_⟩
    clear m eD hD eu hu z4
    refine ⟨_, rfl, _, rfl, _, rfl, l, _, rfl, SqL.of (S0 _ _ el), fun u hu => ?_⟩
    rw [show cutV (e1 ++ e2 ++ e3 ++ e4 ++ (e5 ++ e6 ++ e7 ++ e8 ++ e9)) (some 52) (some 54) = e5 from cut_mid (pre := e1 ++ e2 ++ e3 ++ e4) (post := e6 ++ (e7 ++ (e8 ++ (e9)))) (b := 52) (e := 54) (by simp only [List.append_assoc]) (by first | omega | (simp only [List.length_append]; omega)) (by omega)]
    generalize e_G5 : upd _ u _ = G5
    obtain ⟨z5, eu⟩ := al3 e_G5 hu
    clear e_G5
    (try dsimp only at eu)
    have S0 := S0.trans z5
    refine ⟨u, rfl, ⟨_, SqL.of eu⟩, fun D hD => ?_⟩
    refine lc_list (K := K) (a := u) (xs := e5) (fun j H' => Same G5 H' ∧ H' D = some (.lst ((List.replicate j true).map V.bl))) ⟨Lb.Same.upd hD, upd_same⟩ (fun j H' _ b => SqL.of (b.1 _ _ eu)) ?_ ?_
    · rintro j v H' hj ⟨m, eD⟩
      have hlt := (List.getElem?_eq_some_iff.mp hj).1
      have M := S0.trans m
      refine ⟨rfl, ?_⟩
      obtain ⟨C, fe, hx, hn⟩ := f5 v (List.mem_of_getElem? hj)
      refine ⟨_, rfl, C, _, _, fe.same M, hx, hn, rfl, p, _, g, rfl, ag.same M, og, fun H2 m2 => ?_⟩
      refine ⟨_, rfl, p, _, g, rfl, (ag.same M).same m2, og, fun H3 m3 => ?_⟩
      refine ⟨rfl, _, (m2.trans m3) _ _ eD, szlt (by rw [List.length_map, List.length_replicate]; omega), Lb.Same.updl (m.trans (m2.trans m3)) hD, ?_⟩
      rw [upd_same, List.replicate_succ', List.map_append, decide_eq_true rfl]
      rfl
    rintro K5 ⟨m, eD⟩
    refine ⟨D, _, rfl, SqL.of eD, ?_⟩
    rw [all_replicate_true]
    have S0 := S0.trans m
    refine ⟨true, rfl, iteF ?_⟩
    clear m eD hD eu hu z5
    refine ⟨_, rfl, _, rfl, _, rfl, l, _, rfl, SqL.of (S0 _ _ el), fun u hu => ?_⟩
    rw [show cutV (e1 ++ e2 ++ e3 ++ e4 ++ (e5 ++ e6 ++ e7 ++ e8 ++ e9)) (some 54) (some 56) = e6 from cut_mid (pre := e1 ++ e2 ++ e3 ++ e4 ++ e5) (post := e7 ++ (e8 ++ (e9))) (b := 54) (e := 56) (by simp only [List.append_assoc]) (by first | omega | (simp only [List.length_append]; omega)) (by omega)]
    generalize e_G6 : upd _ u _ = G6
    obtain ⟨z6, eu⟩ := al3 e_G6 hu
    clear e_G6
    (try dsimp only at eu)
    have S0 := S0.trans z6
    refine ⟨u, rfl, ⟨_, SqL.of eu⟩, fun D hD => ?_⟩
    refine lc_list (K := K) (a := u) (xs := e6) (fun j H' => Same G6 H' ∧ H' D = some (.lst ((List.replicate j true).map V.bl))) ⟨Lb.Same.upd hD, upd_same⟩ (fun j H' _ b => SqL.of (b.1 _ _ eu)) ?_ ?_
    · rintro j v H' hj ⟨m, eD⟩
      have hlt := (List.getElem?_eq_some_iff.mp hj).1
      have M := S0.trans m
      refine ⟨rfl, ?_⟩
      obtain ⟨C, fe, hx, hn⟩ := f6 v (List.mem_of_getElem? hj)
      obtain ⟨dw, hw⟩ := aw.same M
      refine ⟨_, rfl, C, _, _, fe.same M, hx, hn, rfl, _, _, _, _, true, rfl, .own _, .base (T.I.ty T.cl hw), Inst.kSelf, true, rfl, iteT ?_⟩
      refine ⟨_, rfl, C, _, _, fe.same M, hx, hn, rfl, _, rfl, qw, dw, _, _, rfl, hw, T.I.ty T.cl hw, Inst.nSelf, qw, qw, x, x, rfl, ⟨dw, hw⟩, ⟨dw, hw⟩, ?_⟩
      refine ⟨_, eD, szlt (by rw [List.length_map, List.length_replicate]; omega), Lb.Same.updl m hD, ?_⟩
      rw [upd_same, List.replicate_succ', List.map_append, decide_eq_true rfl]
      rfl
    rintro K6 ⟨m, eD⟩
    refine ⟨D, _, rfl, SqL.of eD, ?_⟩
    rw [all_replicate_true]
    have S0 := S0.trans m
    refine ⟨true, rfl, iteF ?_⟩
    clear m eD hD eu hu z6
    refine ⟨_, rfl, _, rfl, _, rfl, l, _, rfl, SqL.of (S0 _ _ el), fun u hu => ?_⟩
    rw [show cutV (e1 ++ e2 ++ e3 ++ e4 ++ (e5 ++ e6 ++ e7 ++ e8 ++ e9)) (some 56) (some 58) = e7 from cut_mid (pre := e1 ++ e2 ++ e3 ++ e4 ++ e5 ++ e6) (post := e8 ++ (e9)) (b := 56) (e := 58) (by simp only [List.append_assoc]) (by first | omega | (simp only [List.length_append]; omega)) (by omega)]
    generalize e_G7 : upd _ u _ = G7
    obtain ⟨z7, eu⟩ := al3 e_G7 hu
    clear e_G7
    (try dsimp only at eu)
    have S0 := S0.trans z7
    refine ⟨u, rfl, ⟨_, SqL.of eu⟩, fun D hD => ?_⟩
    refine lc_list (K := K) (a := u) (xs := e7) (fun j H' => Same G7 H' ∧ H' D = some (.lst ((List.replicate j true).map V.bl))) ⟨Lb.Same.upd hD, upd_same⟩ (fun j H' _ b => SqL.of (b.1 _ _ eu)) ?_ ?_
    · rintro j v H' hj ⟨m, eD⟩
      have hlt := (List.getElem?_eq_some_iff.mp hj).1
      have M := S0.trans m
      refine ⟨rfl, ?_⟩
      obtain ⟨C, fe, hx, hn⟩ := f7 v (List.mem_of_getElem? hj)
      refine ⟨_, rfl, C, _, _, fe.same M, hx, hn, rfl, p, _, (.pl i), rfl, ai.same M, oi, fun H2 m2 => ?_⟩
      refine ⟨_, rfl, p, _, (.pl i), rfl, (ai.same M).same m2, oi, fun H3 m3 => ?_⟩
      refine ⟨rfl, _, (m2.trans m3) _ _ eD, szlt (by rw [List.length_map, List.length_replicate]; omega), Lb.Same.updl (m.trans (m2.trans m3)) hD, ?_⟩
      rw [upd_same, List.replicate_succ', List.map_append, decide_eq_true rfl]
      rfl
    rintro K7 ⟨m, eD⟩
    refine ⟨D, _, rfl, SqL.of eD, ?_⟩
    rw [all_replicate_true]
    have S0 := S0.trans m
    refine ⟨true, rfl, iteF ?_⟩
    clear m eD hD eu hu z7
    refine ⟨_, rfl, _, rfl, _, rfl, l, _, rfl, SqL.of (S0 _ _ el), fun u hu => ?_⟩
    rw [show cutV (e1 ++ e2 ++ e3 ++ e4 ++ (e5 ++ e6 ++ e7 ++ e8 ++ e9)) (some 58) (some 60) = e8 from cut_mid (pre := e1 ++ e2 ++ e3 ++ e4 ++ e5 ++ e6 ++ e7) (post := e9) (b := 58) (e := 60) (by simp only [List.append_assoc]) (by first | omega | (simp only [List.length_append]; omega)) (by omega)]
    generalize e_G8 : upd _ u _ = G8
    obtain ⟨z8, eu⟩ := al3 e_G8 hu
    clear e_G8
    (try dsimp only at eu)
    have S0 := S0.trans z8
    refine ⟨u, rfl, ⟨_, SqL.of eu⟩, fun D hD => ?_⟩
    refine lc_list (K := K) (a := u) (xs := e8) (fun j H' => Same G8 H' ∧ H' D = some (.lst ((List.replicate j true).map V.bl))) ⟨Lb.Same.upd hD, upd_same⟩ (fun j H' _ b => SqL.of (b.1 _ _ eu)) ?_ ?_
    · rintro j v H' hj ⟨m, eD⟩
      have hlt := (List.getElem?_eq_some_iff.mp hj).1
      have M := S0.trans m
      refine ⟨rfl, ?_⟩
      have fe := (f8 v (List.mem_of_getElem? hj)).same M
      refine ⟨_, rfl, a.c_TooMany, _, _, fe, T.xTooMany.eC, T.nTooMany, rfl, _, rfl, a.c_TooMany, _, _, fe, T.xTooMany.eC, T.n2TooMany, rfl, sz, fun w1 hw1 => ?_⟩
      generalize e_H2 : upd _ w1 _ = H2
      obtain ⟨m2, ew1⟩ := al3 e_H2 hw1
      clear e_H2
      (try dsimp only at ew1)
      refine ⟨p, _, .tp [.str s, .int n], rfl, ⟨w1, rfl, ew1⟩, ow, fun H3 m3 => ?_⟩
      refine ⟨_, rfl, p, _, .tp [.str s, .int n], rfl, ((as.same M).same m2).same m3, ow, fun H4 m4 => ?_⟩
      refine ⟨rfl, _, (m2.trans (m3.trans m4)) _ _ eD, szlt (by rw [List.length_map, List.length_replicate]; omega), Lb.Same.updl (m.trans (m2.trans (m3.trans m4))) hD, ?_⟩
      rw [upd_same, List.replicate_succ', List.map_append, decide_eq_true rfl]
      rfl
    rintro K8 ⟨m, eD⟩
    refine ⟨D, _, rfl, SqL.of eD, ?_⟩
    rw [all_replicate_true]
    have S0 := S0.trans m
    exact k _ S0
end
end K10

set_option Elab.async false
set_option linter.all false
set_option maxRecDepth 100000
set_option maxHeartbeats 4000000
/-! raise C(), C's own __init__ storing nothing -/
namespace Lb
open PySem L2
section
variable {X : Cx} {x : Str} {C f : Addr} {p pos : Pos} {k : Nat} {fd : FuncData} {ps : List Str} {sp : Sp} {CX : CXT}
theorem bare_end {pins : List (Addr × Obj)} {σ : L2.St} {H1 H2 : Hp} {Q : XK} {hp hp2 h2 : Heap} {g1 g2 : Array GenState} {d1 d2 : Drawn} {t1 t2 : Nat} {os1 os2 : OsState} {a : Addr} (T : Raises X (.ref C)) (I1 : Inv X pins σ H1 ⟨hp, g1, d1, t1, os1⟩)
    (ha : hp.objs.size ≤ a) (k : ∀ b o, hp.get? b = some o → hp2.get? b = some o) (un : Un (frs X.stack) [] (upd H1 a (exo a C none)) H2 hp2 h2) (hok : HOk X.prog X.w H2 h2) (ho : os2 = os1) (hb : PyProof.Rows.AllBare g2)
    (ea : H2 a = some (exo a C none)) (q : Q (.ref C) none (del H2 a)) : MkP X pins σ Q (.ref a) ⟨h2, g2, d2, t2, os2⟩ := by
  obtain ⟨t0, hoe⟩ := exo_at hok ea
  have hn : H1 a = none := I1.hok.fresh ha
  obtain ⟨G, r1, r2⟩ := restrict h2 fun b => decide (b ≠ a)
  have gk : ∀ b, b ≠ a → G.get? b = h2.get? b := fun b hb => r1 b (decide_eq_true hb)
  have ge : G.get? a = none := r2 a (by simp)
  have nha : ∀ {b : Addr} {o : Obj}, hp.get? b = some o → b ≠ a := fun z => Nat.ne_of_lt (Nat.lt_of_lt_of_le (Heap.lt_size z) ha)
  have up : ∀ {b : Addr}, b ≠ a → H1 b = none → upd H1 a (exo a C none) b = none := fun hb n => by rw [upd_ne hb]; exact n
  have U : Un (frs X.stack) [] H1 (del H2 a) hp G := {
    keep := fun b o z n hf hx => (gk b (nha z)).trans (un.keep b o (k b o z) (up (nha z) n) hf hx)
    slot := fun b o z n hf hx => by
      rw [gk b (nha z)]
      exact un.slot b o (k b o z) (up (nha z) n) hf hx
    free := fun b o z n hx => (del_ne (nha z)).trans (un.free b o (k b o z) (up (nha z) n) hx)
    there := fun b o z hx => by
      rw [gk b (nha z)]
      exact un.there b o (k b o z) hx
    tups := fun b xs z => (del_ne (ne_of_none z hn)).trans (un.tups b xs (by rw [upd_ne (ne_of_none z hn)]; exact z))
    frzs := fun b o v z => (del_ne (ne_of_none z hn)).trans (un.frzs b o v (by rw [upd_ne (ne_of_none z hn)]; exact z))
    tbls := fun b ps z => by
      rw [del_ne (ne_of_none z hn)]
      exact un.tbls b ps (by rw [upd_ne (ne_of_none z hn)]; exact z) }
  have hok3 : HOk X.prog X.w (del H2 a) G := fun b o z => by
    have hba : b ≠ a := fun e => by
      rw [e, del_same] at z
      cases z
    rw [del_ne hba] at z
    have noa : ∀ {c : Addr}, H2 c = some (.own b) → c ≠ a := fun {c} hc => at_ne ea hc exo_own
    refine (hok b o z).stay (fun c v hc y => ?_) (fun c hc => (del_ne (noa hc)).trans hc) (fun c xs hc => (del_ne (at_ne ea hc exo_tup)).trans hc)
    have hca : c ≠ a := by
      rcases hc with hc | hc
      · rw [hc]
        exact hba
      · exact noa hc
    exact (gk c hca).trans y
  have J : Inv X pins σ (del H2 a) ⟨G, g2, d2, t2, os2⟩ := I1.call' (ch := []) ho U hok3 hb (fun b z => absurd z (by simp))
  refine ⟨a, _, _, ⟨G, g2, d2, t2, os2⟩, _, .ref C, none, rfl, J, fun b o z => ?_, ge, hoe, ⟨rfl, rfl⟩, rfl, rfl, del_same, rfl, hb, T, q⟩
  by_cases hba : b = a
  · rw [hba, ge] at z
    cases z
  · exact (gk b hba).symm.trans z
/-- C(), to be raised -/
def tMkB (C : Addr) (sp : Sp) : L2.St → Hp → XK → Prop := fun σ H Q => ∀ a, H a = none → sp [.ref a] (upd H a (exo a C none)) (fun v H2 => v = .non ∧ H2 a = some (exo a C none) ∧ Q (.ref C) none (del H2 a)) (fun _ _ _ => False)
theorem pmk_bare (T : OexF X.K C) (iC : PySem.W.findIn X.K (.ref C) "__init__" = some (some (.ref f))) (tI : PySem.W.typeIn X.K (.ref f) = some (.type "function"))
    (F1 : FnOk X.prog X.w X.K X.mg X.base CX k f fd ps sp) (hr : Room (k + 1) X.A) (hb : Binds X.K fd ps []) (hx : Passes CX X (fun _ _ _ => False)) (hg : Gl X x) (hm : X.mg x = some (.ref C)) (hdb : (x == ("__debug__" : Str)) = false := by decide) :
    PMk X (.Call (.Name x p) [] [] pos) (tMkB C sp) := by
  intro pins s σ H Q I h
  obtain ⟨B, newId, initId, tail, nm, q, N, bs, L, sn, sub, ab, col, dd, k0, k1, k2, k3, k5, FM, hC⟩ := T.cls
  refine wpAny_Call_Name_kw (ld_glob I hg hm (PySem.W.callWith_K0 I.kIn T.kC ?_) hdb)
  show wpAny _ _ (call (.ref C) []) _ _ _
  obtain ⟨hp, g, dr, tk, os⟩ := s
  have hsz : hp.objs.size ≤ hp.objs.size + 1 := Nat.le_succ _
  have hq := h _ (I.hok.fresh hsz)
  have kk : ∀ b o, hp.get? b = some o → ((hp.push (PySem.W.kdv_tup [])).push (PySem.HandSPX.excO C hp.objs.size)).get? b = some o := fun b o e => Heap.get?_push_of_some _ (Heap.get?_push_of_some _ e)
  have I2 : Inv X pins σ (upd H (hp.objs.size + 1) (exo (hp.objs.size + 1) C none)) ⟨(hp.push (PySem.W.kdv_tup [])).push (PySem.HandSPX.excO C hp.objs.size), g, dr, tk, os⟩ :=
    I.laid (t' := tk) (a := hp.objs.size + 1) (o := exo (hp.objs.size + 1) C none) (h' := (hp.push (PySem.W.kdv_tup [])).push (PySem.HandSPX.excO C hp.objs.size)) kk hsz (exo_ok (t1 := hp.objs.size) (by heap_get))
  have r2 : Vals [V.ref (hp.objs.size + 1)] [Value.ref (hp.objs.size + 1)] := .cons rfl .nil
  have b := hb ⟨(hp.push (PySem.W.kdv_tup [])).push (PySem.HandSPX.excO C hp.objs.size), g, dr, tk, os⟩ [Value.ref (hp.objs.size + 1)] I2.kIn (by rw [List.append_nil]; exact r2.length.symm.trans (F1.len _ _ _ _ hq))
  rw [List.append_nil] at b
  refine wpAny_call (PySem.HandSPX.call_own FM.base (fm_con L tail) (I.kIn _ _ hC) (PySem.W.looks_findIn I.kIn iC) (fun self => PySem.W.bind_fn I.kIn self tI) (rest := []) (Nat.zero_le _)
    (codeAny_mono (F1.run _ X.stack _ _ ⟨[Value.ref (hp.objs.size + 1)], []⟩ [Value.ref (hp.objs.size + 1)] _ _ (fun _ _ _ => False) (hr.make C [] []) (I2.env0.make C [] []) b r2 hq) fun r s' hq' => ?_))
  match r, hq' with
  | .error er, hq' => exact hx pins σ _ _ er s' I2 hq'
  | .ok (.ret u), hq' =>
    obtain ⟨v, H2, os2, bare2, un2, hok2, rv, ev, ea, q2⟩ := hq'
    subst ev
    obtain ⟨h2, g2, d2, t2, os'⟩ := s'
    exact ⟨rv, bare_end (raises_own T.exC T.tyC) I hsz kk un2 hok2 os2 bare2 ea q2⟩
  | .ok .next, hq' => exact hq'.elim
  | .ok .brk, hq' => exact hq'.elim
  | .ok .cont, hq' => exact hq'.elim
end
end Lb

set_option Elab.async false
set_option linter.all false
set_option maxRecDepth 100000
set_option maxHeartbeats 4000000
namespace K10
open PySem L2 Lb
open LamX (ExtN GivesTo CodeO)
open PySem.Spec PyProof.Rows
theorem ps_ex {X : Cx} {st : Stmt} {C : XK → Prop} {t : XK → TS} (h : ∀ E, C E → PS X st (t E)) : PS X st (fun D σ H => ∃ E, C E ∧ t E D σ H) := ⟨fun pins s σ H D I ⟨E, c, w⟩ => (h E c).run pins s σ H D I w⟩
theorem exq_way2 {H : Hp} {q C : Addr} {f g : Str} {y z : V} {Q : XK} (hq : H q = none) (k : ∀ H' d, Same H H' → H d = none → H' d = some (.xd [(g, z), (f, y)]) → Q (.ref C) (some d) H') :
    ∀ dx, (upd H q (exo q C none)) dx = none → dx ≠ q → ∃ (d : Addr) (fs : List (Str × V)), (upd (upd (upd (upd H q (exo q C none)) dx (exd dx [(f, y)])) q (exo q C (some dx))) dx (exd dx [(g, z), (f, y)])) q = some (exo q C (some d)) ∧
      (upd (upd (upd (upd H q (exo q C none)) dx (exd dx [(f, y)])) q (exo q C (some dx))) dx (exd dx [(g, z), (f, y)])) d = some (exd d fs) ∧ H d = none ∧ Q (.ref C) (some d) (upd (del (upd (upd (upd (upd H q (exo q C none)) dx (exd dx [(f, y)])) q (exo q C (some dx))) dx (exd dx [(g, z), (f, y)])) q) d (.xd fs)) := by
  intro dx hdx ne
  have hd : H dx = none := by rw [upd_ne ne] at hdx; exact hdx
  refine ⟨dx, [(g, z), (f, y)], by rw [upd_ne (Ne.symm ne), upd_same], by rw [upd_same], hd, k _ dx (fun b o e => ?_) hd upd_same⟩
  have bq : b ≠ q := ne_of_none e hq
  have bd : b ≠ dx := ne_of_none e hd
  rw [upd_ne bd, del_ne bq, upd_ne bd, upd_ne bq, upd_ne bd, upd_ne bq]
  exact e
def word : Nat → Str
  | 0 => "value"
  | 1 => "missing"
  | 2 => "state"
  | _ => "limit"
/-- what raised raises -/
def place : Nat → Nat
  | 0 => 26
  | 1 => 11
  | 2 => 30
  | _ => 29
def sp_raised (a : Ad) : Sp := fun vs H _ E => ∃ k : Nat, vs = [.int k] ∧ k < 4 ∧ ∀ H' C d, Same H H' → (CL a)[if k = 0 then 26 else if k = 1 then 11 else if k = 2 then 30 else 29]? = some C → E (.ref C) d H'
/-- what caught makes of an error -/
def EchC (a : Ad) (Q : VK) : XK := fun cls d H' => ∃ C i, cls = .ref C ∧ (CL a)[i]? = some C ∧ Q (.str (word (famI i))) H'
def TCau (a : Ad) : (XK → Hp → VK → Prop) → Hp → VK → Prop := fun tl H Q => ∀ R : VK, (∀ v H', Q (.str "other") H' → R v H') → tl (EchC a Q) H R
section
variable {P : Program} {w : World} {K : PySem.W.Frag} {mg : Str → Option Value} {base : Heap} {a : Ad}
theorem ok_raised (T : Txt K mg a) : FnOk P w K mg base (L2.CX P w) 4 a.f_raised a.d_raised ["_law_at"] (sp_raised a) := by
  refine T.F_raised.okX sc_raised (fun vs H Q E h => ?_) (fun cdv A outer s H vs Q E hr h => ?_)
  · obtain ⟨k, rfl, _⟩ := h
    rfl
  · obtain ⟨k, rfl, hk, q⟩ := h
    refine ⟨_, (pss_cons (ps_if (pt_cmpR op_eq (pv 0) pe_int (nomark _)) (pss_one (ps_raise rfl (takes_of rfl rfl rfl rfl) (pmk_oexF T.xInvalidPipes.ox T.xInvalidPipes.iC T.xInvalidPipes.tI (ok_InvalidPipes_init_ T) (hr.mono (by decide)) (b_InvalidPipes_init_ T) .nil pass0 (by rfl) T.xInvalidPipes.mC (pa_cons pe_str pa_nil)))) pss_nil)
 (pss_cons (ps_if (pt_cmpR op_eq (pv 0) pe_int (nomark _)) (pss_one (ps_raise rfl (takes_of rfl rfl rfl rfl) (pmk_oexF T.xUnknownReading.ox T.xUnknownReading.iC T.xUnknownReading.tI (ok_UnknownReading_init_ T) (hr.mono (by decide)) (b_UnknownReading_init_ T) .nil pass0 (by rfl) T.xUnknownReading.mC (pa_cons (pe_tup (pa_cons pe_str (pa_cons pe_str pa_nil))) pa_nil)))) pss_nil)
 (pss_cons (ps_if (pt_cmpR op_eq (pv 0) pe_int (nomark _)) (pss_one (ps_raise rfl (takes_of rfl rfl rfl rfl) (pmk_bare T.xBarred.ox T.xBarred.iC T.xBarred.tI (ok_Barred_init_ T) (hr.mono (by decide)) (b_Barred_init_ T) pass0 (by rfl) T.xBarred.mC))) pss_nil)
 (pss_one (ps_raise rfl (takes_of rfl rfl rfl rfl) (pmk_oexF T.xTooMany.ox T.xTooMany.iC T.xTooMany.tI (ok_TooMany_init_ T) (hr.mono (by decide)) (b_TooMany_init_ T) .nil pass0 (by rfl) T.xTooMany.mC (pa_cons pe_str (pa_cons pe_int pa_nil)))))))), ?_⟩
    obtain rfl | rfl | rfl | rfl : k = 0 ∨ k = 1 ∨ k = 2 ∨ k = 3 := by omega
    · refine ⟨_, rfl, rfl, _, rfl, iteT ?_⟩
      exact ⟨(show 1 ≤ 1000 by decide), fun q1 hq => ⟨q1, .str "a", rfl, upd_same, fun dx hdx ne => ⟨rfl, exq_way hq (fun H' dd s n e => q H' _ _ s rfl) dx hdx ne⟩⟩⟩
    · refine ⟨_, rfl, rfl, _, rfl, iteF ?_⟩
      refine ⟨_, rfl, rfl, _, rfl, iteT ?_⟩
      refine ⟨sz, fun t1 ht1 => ?_⟩
      generalize e_H1 : upd _ t1 _ = H1
      obtain ⟨s1, e1⟩ := al3 e_H1 ht1
      clear e_H1
      (try dsimp only at e1)
      exact ⟨(show 1 ≤ 1000 by decide), fun q1 hq => ⟨q1, .ref t1, rfl, upd_same, fun dx hdx ne => ⟨rfl, exq_way hq (fun H' dd s n e => q H' _ _ (s1.trans s) rfl) dx hdx ne⟩⟩⟩
    · refine ⟨_, rfl, rfl, _, rfl, iteF ?_⟩
      refine ⟨_, rfl, rfl, _, rfl, iteF ?_⟩
      refine ⟨_, rfl, rfl, _, rfl, iteT ?_⟩
      exact fun q1 hq => ⟨q1, rfl, rfl, upd_same, q _ _ _ (fun b o e => by rw [del_ne (ne_of_none e hq), upd_ne (ne_of_none e hq)]; exact e) rfl⟩
    · refine ⟨_, rfl, rfl, _, rfl, iteF ?_⟩
      refine ⟨_, rfl, rfl, _, rfl, iteF ?_⟩
      refine ⟨_, rfl, rfl, _, rfl, iteF ?_⟩
      exact ⟨(show 2 ≤ 1000 by decide), fun q1 hq => ⟨q1, .str "pipes", .int 16, rfl, upd_same, fun dx hdx ne => ⟨rfl, exq_way2 hq (fun H' dd s n e => q H' _ _ s rfl) dx hdx ne⟩⟩⟩
abbrev cauCx (P : Program) (w : World) (K : PySem.W.Frag) (mg : Str → Option Value) (base : Heap) (a : Ad) (cdg : Value) (A : Around) (st : List Env) (s : Shared) (H : Hp) : Cx :=
  cxOf C8.CX0 P w K mg base ["_law_call", "_law_told"] "_law_caught" (defScope s_caught) a.f_caught cdg A st s H C8.E0
theorem caught_body (T : Txt K mg a) {A : Around} {st : List Env} {cdg : Value} {f c' : Addr} {s : Shared} {H : Hp} {q : Str} {Q : VK} {tl : XK → Hp → VK → Prop} (hr : Room 5 A)
    (act : ∀ (W : WX) (pn : List (Addr × Obj)) (xe : Value → Shared → Prop) (E : XK) (p1 p2 : Pos), Takes ((cauCx P w K mg base a cdg A st s H).tr pn xe) W → (∀ cls d σ' H', E cls d H' → W cls d σ' H') →
      PE ((cauCx P w K mg base a cdg A st s H).tr pn xe) (.Call (.Name "_law_call" p1) [] [] p2) (fun σZ HZ Q => σZ[0]? = some (some (.ref f)) ∧ HZ c' = some (CodeO c' q) ∧ tl E HZ Q))
    (hc : H c' = some (CodeO c' q)) (h : TCau a tl H Q) :
    ∃ t, PSs (cauCx P w K mg base a cdg A st s H).nox (defBody s_caught) t ∧ t { nx := fun _ H' => Q .non H', rt := Q } (L2.start ["_law_call", "_law_told"] [.ref f]) H := by
  have hr1 : Room 4 (A.deeper (envOfC "_law_caught" (defScope s_caught) s.heap.objs.size a.f_caught cdg)) := hr.deeper _
  refine ⟨_, (pss_cons (ps_set (i := 1) sc_caught.nd rfl (by first | exact Or.inl rfl | exact Or.inr rfl) pe_str)
 (pss_cons (ps_try_many rfl rfl takes_none5 (fun W pn xe tk _ => pss_one (ps_ex (C := fun Ech => ∀ cls d σ' H', Ech cls d H' → σ'.length = 2 → W cls d σ' H') fun Ech hW => ps_expr (act _ pn xe Ech _ _ (takes_len tk) hW))) (.cons ⟨rfl, by decide, .inl T.mPipeError⟩ (fun e oe cls d pn hz hf => pss_one (ps_set (i := 1) sc_caught.nd rfl (by first | exact Or.inl rfl | exact Or.inr rfl) pe_str)) (.cons ⟨rfl, by decide, .inl T.mMissingError⟩ (fun e oe cls d pn hz hf => pss_one (ps_set (i := 1) sc_caught.nd rfl (by first | exact Or.inl rfl | exact Or.inr rfl) pe_str)) (.cons ⟨rfl, by decide, .inl T.mStateError⟩ (fun e oe cls d pn hz hf => pss_one (ps_set (i := 1) sc_caught.nd rfl (by first | exact Or.inl rfl | exact Or.inr rfl) pe_str)) (.cons ⟨rfl, by decide, .inl T.mLimitError⟩ (fun e oe cls d pn hz hf => pss_one (ps_set (i := 1) sc_caught.nd rfl (by first | exact Or.inl rfl | exact Or.inr rfl) pe_str)) .nil)))))
 (pss_one (ps_ret (pv 1))))), ?_⟩
  refine ⟨EchC a Q, fun cls d σ' H' hE hlen => ?_, rfl, hc, h _ fun v H' q => ⟨_, rfl, q⟩⟩
  obtain ⟨x0, x1, rfl⟩ : ∃ x0 x1, σ' = [x0, x1] := by
    match σ', hlen with
    | [x, y], _ => exact ⟨x, y, rfl⟩
  obtain ⟨C, i, rfl, hC, q⟩ := hE
  have ex := exmF T hC
  have lt := famI_lt i
  refine ⟨_, ex 0 _ rfl, fun e b hb => ?_, fun e0 => ⟨_, ex 1 _ rfl, fun e b hb => ?_, fun e1 => ⟨_, ex 2 _ rfl, fun e b hb => ?_, fun e2 => ⟨_, ex 3 _ rfl, fun e b hb => ?_, fun e3 => ?_⟩⟩⟩⟩
  · rw [← of_decide_eq_true e] at q
    exact ⟨_, rfl, q⟩
  · rw [← of_decide_eq_true e] at q
    exact ⟨_, rfl, q⟩
  · rw [← of_decide_eq_true e] at q
    exact ⟨_, rfl, q⟩
  · rw [← of_decide_eq_true e] at q
    exact ⟨_, rfl, q⟩
  · have e0 := of_decide_eq_false e0
    have e1 := of_decide_eq_false e1
    have e2 := of_decide_eq_false e2
    have e3 := of_decide_eq_false e3
    omega
/-- caught, given a lambda -/
theorem caught_gives {X : Cx} (T : Txt X.K X.mg a) (hr : Room 5 X.A) (cdg : Value) (q : Str) :
    GivesTo X ["_law_call", "_law_told"] "_law_caught" (defScope s_caught) a.f_caught cdg (defBody s_caught) "_law_call" q (TCau a) :=
  fun f c' s H Q tl act hc h => caught_body T hr act hc h
end
end K10

set_option Elab.async false
set_option linter.all false
set_option maxRecDepth 100000
set_option maxHeartbeats 4000000
namespace K10
open PySem L2 Lb
open LamX (ExtN CodeO Tabs TabB pe_lamcall lamS_by)
open PySem.Spec PyProof.Rows
def TL1 (a : Ad) : List (Addr × Str) := [(a.PP_right, ((PySem.Str.ofString "_law_right") ++ ".<locals>.") ++ "<lambda>")]
theorem hu_right {K : PySem.W.Frag} {mg : Str → Option Value} {a : Ad} (T : Txt K mg a) : ∀ p ∈ TL1 a, p.1 = a.PP_right → p.2 = ((PySem.Str.ofString "_law_right") ++ ".<locals>.") ++ "<lambda>" := by
  intro p hp e
  rw [List.mem_singleton.mp hp]
theorem pot_not {p b : Addr} {H : Hp} {o : HO} (hp : PotAt H p) (e : H b = some o) (n : ∀ xs, o ≠ .lst xs) : b ≠ p := fun z => by
  obtain ⟨x, y, q, _⟩ := hp
  rw [z, q] at e
  exact n _ (Option.some.inj e).symm
theorem tabs_mov {T : List (Addr × Str)} {p : Addr} {H H' : Hp} (t : Tabs T H) (M : Mov p H H') (hp : PotAt H p) : Tabs T H' := by
  intro q hq
  obtain ⟨ps, h1, h2, h3⟩ := t q hq
  refine ⟨ps, M.keep _ _ (pot_not hp h1 fun _ z => nomatch z) h1, h2, fun pos cv hc => ?_⟩
  obtain ⟨c, e1, e2⟩ := h3 pos cv hc
  exact ⟨c, e1, M.keep _ _ (pot_not hp e2 fun xs z => by unfold CodeO at z; cases z) e2⟩
theorem tabs_upd {T : List (Addr × Str)} {H : Hp} {L : Addr} {xs : List V} {o : HO} (t : Tabs T H) (e : H L = some (.lst xs)) : Tabs T (upd H L o) := by
  intro q hq
  obtain ⟨ps, h1, h2, h3⟩ := t q hq
  have n1 : q.1 ≠ L := fun z => by
    rw [z, e] at h1
    cases h1
  refine ⟨ps, by rw [upd_ne n1]; exact h1, h2, fun pos cv hc => ?_⟩
  obtain ⟨c, e1, e2⟩ := h3 pos cv hc
  refine ⟨c, e1, ?_⟩
  rw [upd_ne fun z => by
    rw [z, e] at e2
    unfold CodeO at e2
    cases e2]
  exact e2
/-- all but the pot and the tables stays -/
structure MovN (p : Addr) (H H' : Hp) : Prop where
  keep : ∀ b o, b ≠ p → H b = some o → (∀ ps, o ≠ .tbl ps) → H' b = some o
  pot : PotAt H' p
theorem PotAt.ext {p : Addr} {H H' : Hp} (h : PotAt H p) (s : ExtN H H') : PotAt H' p := let ⟨x, y, e, r⟩ := h; ⟨x, y, s _ _ e (fun _ z => nomatch z), r⟩
theorem MovN.of {p : Addr} {H H' : Hp} (M : Mov p H H') : MovN p H H' := ⟨fun b o n e _ => M.keep b o n e, M.pot⟩
theorem MovN.ext {p : Addr} {H H1 H2 : Hp} (M : MovN p H H1) (s : ExtN H1 H2) : MovN p H H2 := ⟨fun b o n e t => s _ _ (M.keep b o n e t) t, PotAt.ext M.pot s⟩
theorem MovN.trans {p : Addr} {H H1 H2 : Hp} (M : MovN p H H1) (s : MovN p H1 H2) : MovN p H H2 := ⟨fun b o n e t => s.keep _ _ n (M.keep b o n e t) t, s.pot⟩
theorem PartsAt.mov {C p : Addr} {H H' : Hp} {t : Addr} {o g : Od} {i : Pl} {x : Q2} {s : Str} {n : Int} (h : PartsAt C p H t o g i x s n) (hp : PotAt H p) (m : Mov p H H') : PartsAt C p H' t o g i x s n := by
  obtain ⟨⟨vo, vt, q, ws, e1, e2, e3, ⟨dx, e4⟩, e5⟩, r⟩ := h
  exact ⟨⟨vo, vt, q, ws, m.tup hp e1, e2.mov hp m, e3.mov hp m, ⟨dx, m.ins hp e4⟩, m.tup hp e5⟩, by assumption, by assumption, by assumption, by assumption⟩
theorem OdAt.extN {p : Addr} {H H' : Hp} (s : ExtN H H') : ∀ {o : Od} {v : V}, OdAt p H o v → OdAt p H' o v
  | .pl _, _, h => h
  | .tp _, _, ⟨a, e, h⟩ => ⟨a, e, s _ _ h (fun _ z => nomatch z)⟩
  | .ls, _, ⟨a, e, n, h⟩ => ⟨a, e, n, s _ _ h (fun _ z => nomatch z)⟩
  | .di, _, ⟨a, e, h⟩ => ⟨a, e, s _ _ h (fun _ z => nomatch z)⟩
theorem exo_tbl' {e C : Addr} {d : Option Addr} : ∀ ps, exo e C d ≠ .tbl ps := fun _ => exo_tbl
theorem exd_tbl' {e : Addr} {fs : List (Str × V)} : ∀ ps, exd e fs ≠ .tbl ps := fun ps z => by
  have z' : HO.ext _ = HO.tbl ps := z
  cases z'
theorem ErrAt.extN {H H' : Hp} (s : ExtN H H') {v : V} {C : Addr} {fs : List (Str × V)} (h : ErrAt H v C fs) : ErrAt H' v C fs := by
  obtain ⟨a, d, rfl, h1, h2⟩ := h
  exact ⟨a, d, rfl, s _ _ h1 exo_tbl', s _ _ h2 exd_tbl'⟩
theorem ErrV.extN {H H' : Hp} (s : ExtN H H') {v : V} {c : Addr × List (Str × V)} (h : ErrV H v c) : ErrV H' v c := by
  obtain ⟨⟨a, d, rfl, h1, h2⟩, h3⟩ := h
  exact ⟨⟨a, d, rfl, s _ _ h1 exo_tbl', fun dd e => (h2 dd e).imp fun fs q => s _ _ q exd_tbl'⟩, fun n => ErrAt.extN s (h3 n)⟩
theorem Errs.extN {H H' : Hp} (s : ExtN H H') {es : List V} {cs : List (Addr × List (Str × V))} (h : Errs H es cs) : Errs H' es cs := Paired.imp h fun _ _ z => ErrV.extN s z
theorem dup_at {α : Type} : ∀ (l : List α) (i : Nat), (l.flatMap fun x => [x, x])[i]? = l[i / 2]?
  | [], i => by simp
  | x :: l, 0 => rfl
  | x :: l, 1 => rfl
  | x :: l, i + 2 => by
    have e : (i + 2) / 2 = i / 2 + 1 := by omega
    rw [e, List.getElem?_cons_succ, ← dup_at l i]
    rfl
theorem row_cls {a : Ad} {vo vt vi : V} {qw : Addr} {ws wn : V} {i : Nat} {c : Addr × List (Str × V)} (h : (cs_row a vo vt vi qw ws wn)[i]? = some c) : (CL a)[i / 2]? = some c.1 := by
  have e : (cs_row a vo vt vi qw ws wn).map (·.1) = (CL a).flatMap fun x => [x, x] := rfl
  rw [← dup_at, ← e, List.getElem?_map, h]
  rfl
theorem eqv32 : ∀ P ∈ List.range 32, PyData.eqv (.list (((List.range 32).map fun j => decide (j = P)).map PyData.bool)) (.list (((List.range 32).map fun k : Nat => decide (V.int (k : Int) = V.int ((P : Nat) : Int))).map PyData.bool)) = true := by decide +kernel
def sp_right (a : Ad) : Sp := fun vs H Q _ => ∃ (p : Addr), vs = [.ref p] ∧ PotAt H p ∧ Tabs (TL1 a) H ∧ ∀ H', MovN p H H' → Tabs (TL1 a) H' → Q (.bl true) H'
section
variable {P : Program} {w : World} {K : PySem.W.Frag} {mg : Str → Option Value} {base : Heap} {a : Ad}
theorem ok_right (T : Txt K mg a) (TB : TabB base mg a.cc_right a.PP_right) : FnG P w K mg base CX0 8 a.f_right a.d_right ["_law_pot_here"] (sp_right a) := by
  obtain ⟨oc0, od0, kV0, doc0, pm0, an0, cdv0, ct0, osl0, hfd, lk0, hcd0⟩ := T.F_caught.ex
  have bt0 := b_caught T
  rw [hfd] at lk0 bt0
  refine okGL T.F_right T.C_right sc_right (fun vs H Q E h => ?_) (fun A outer s H vs Q E gu hr h => ?_)
  · obtain ⟨p, rfl, _⟩ := h
    rfl
  · obtain ⟨p, rfl, hp, tb, k⟩ := h
    refine ⟨_, (pss_cons (ps_par (i := 1) (j := 2) rfl sc_right.nd rfl rfl (by decide) rfl rfl (pa_cons (pe_call (ok_parts T) (hr.mono (by decide)) (by rfl) T.m_parts T.F_parts.kp (b_parts T) .nil pass0 (pa_cons (pv 0) pa_nil)) (pa_cons (pe_call (ok_parts T) (hr.mono (by decide)) (by rfl) T.m_parts T.F_parts.kp (b_parts T) .nil pass0 (pa_cons (pv 0) pa_nil)) pa_nil)) (by rfl))
 (pss_cons (ps_set (i := 3) sc_right.nd rfl (by first | exact Or.inl rfl | exact Or.inr rfl) (pe_call (ok_row T) (hr.mono (by decide)) (by rfl) T.m_row T.F_row.kp (b_row T) .nil pass0 (pa_cons (pv 1) pa_nil)))
 (pss_cons (ps_set (i := 4) sc_right.nd rfl (by first | exact Or.inl rfl | exact Or.inr rfl) (pe_call (ok_row T) (hr.mono (by decide)) (by rfl) T.m_row T.F_row.kp (b_row T) .nil pass0 (pa_cons (pv 2) pa_nil)))
 (pss_cons (ps_for PassesOwn.never rfl (pi_enum (by rfl) T.b_enumerate (pa_cons (pv 3) pa_nil)) (pg_tupK (K := K) (n := 2) rfl rfl (pgs_cons (pg_name (i := 5) sc_right.nd rfl (by first | exact Or.inl rfl | exact Or.inr rfl)) (pgs_cons (pg_name (i := 6) sc_right.nd rfl (by first | exact Or.inl rfl | exact Or.inr rfl)) pgs_nil))) (pss_cons (ps_set (i := 7) sc_right.nd rfl (by first | exact Or.inl rfl | exact Or.inr rfl) (pe_op op_fdivW (pv 5) pe_int))
 (pss_one (ps_if (PW.pt (pw_or (pt_cmpR (op_neD hr.units) (pe_call (ok_marks T) (hr.mono (by decide)) (by rfl) T.m_marks T.F_marks.kp (b_marks T) .nil pass0 (pa_cons (pv 6) pa_nil)) (pe_lc (own := [("_law_k", 8)]) (by rfl) sc_right.nd (pi_range1 rfl T.b_range (pa_cons pe_int pa_nil)) (blkOk_by (own := [("_law_k", 8)]) (N := ["_law_pot_here", "_law_parts_here", "_law_more", "_law_row_here", "_law_later", "_law_at", "_law_error", "_law_place", "_law_k", "_law_caught_here"]) (sc := defScope s_right) (by decide +kernel)) (fun _ _ _ _ _ => (pg_name (i := 8) sc_right.nd rfl (by first | exact Or.inl rfl | exact Or.inr rfl))) (fun _ _ _ _ _ => pts_nil) (fun _ _ _ _ _ => (pe_cmpR op_eq (pv 8) (pv 7) (nomark _)))) (nomark _)) (pw_or1 (pt_not (pt_val (pe_call (ok_above_right T) (hr.mono (by decide)) (by rfl) T.m_above_right T.F_above_right.kp (b_above_right T) .nil pass0 (pa_cons (pv 6) (pa_cons (pv 7) pa_nil)))))))) (pss_one (ps_ret pe_bl)) pss_nil))))
 (pss_cons (ps_set (i := 9) sc_right.nd rfl (by first | exact Or.inl rfl | exact Or.inr rfl) (pe_lst (pa_cons (pe_lamcall (T := TL1 a) (TT := TCau a) (k := 4) (by rfl) T.m_caught T.F_caught.kp lk0 hcd0 bt0 sc_caught rfl (.inl rfl) (caught_gives T (hr.mono (by decide)) _ _) TB rfl List.mem_cons_self (hu_right T) (hr.mono (by decide)) (lamS_by (sc := defScope s_right) (by decide +kernel)) rfl (fun _ _ _ _ _ => rfl) (fun A2 o2 s2 H2 E f2 c2 hr2 => (pe_call (E := E) (ok_raised T) (hr2.mono (by decide)) (by rfl) T.m_raised T.F_raised.kp (b_raised T) .nil (passes_call (takes_of rfl rfl rfl rfl) fun _ _ _ _ h => h) (pa_cons pe_int pa_nil)))) pa_nil)))
 (pss_cons (ps_expr (pe_bm PySem.F.plainAttrs_list PySem.F.slot_list_append PySem.F.type_list_append mt_append (pv 9) (pa_cons (pe_lamcall (T := TL1 a) (TT := TCau a) (k := 4) (by rfl) T.m_caught T.F_caught.kp lk0 hcd0 bt0 sc_caught rfl (.inl rfl) (caught_gives T (hr.mono (by decide)) _ _) TB rfl List.mem_cons_self (hu_right T) (hr.mono (by decide)) (lamS_by (sc := defScope s_right) (by decide +kernel)) rfl (fun _ _ _ _ _ => rfl) (fun A2 o2 s2 H2 E f2 c2 hr2 => (pe_call (E := E) (ok_raised T) (hr2.mono (by decide)) (by rfl) T.m_raised T.F_raised.kp (b_raised T) .nil (passes_call (takes_of rfl rfl rfl rfl) fun _ _ _ _ h => h) (pa_cons pe_int pa_nil)))) pa_nil)))
 (pss_cons (ps_expr (pe_bm PySem.F.plainAttrs_list PySem.F.slot_list_append PySem.F.type_list_append mt_append (pv 9) (pa_cons (pe_lamcall (T := TL1 a) (TT := TCau a) (k := 4) (by rfl) T.m_caught T.F_caught.kp lk0 hcd0 bt0 sc_caught rfl (.inl rfl) (caught_gives T (hr.mono (by decide)) _ _) TB rfl List.mem_cons_self (hu_right T) (hr.mono (by decide)) (lamS_by (sc := defScope s_right) (by decide +kernel)) rfl (fun _ _ _ _ _ => rfl) (fun A2 o2 s2 H2 E f2 c2 hr2 => (pe_call (E := E) (ok_raised T) (hr2.mono (by decide)) (by rfl) T.m_raised T.F_raised.kp (b_raised T) .nil (passes_call (takes_of rfl rfl rfl rfl) fun _ _ _ _ h => h) (pa_cons pe_int pa_nil)))) pa_nil)))
 (pss_cons (ps_expr (pe_bm PySem.F.plainAttrs_list PySem.F.slot_list_append PySem.F.type_list_append mt_append (pv 9) (pa_cons (pe_lamcall (T := TL1 a) (TT := TCau a) (k := 4) (by rfl) T.m_caught T.F_caught.kp lk0 hcd0 bt0 sc_caught rfl (.inl rfl) (caught_gives T (hr.mono (by decide)) _ _) TB rfl List.mem_cons_self (hu_right T) (hr.mono (by decide)) (lamS_by (sc := defScope s_right) (by decide +kernel)) rfl (fun _ _ _ _ _ => rfl) (fun A2 o2 s2 H2 E f2 c2 hr2 => (pe_call (E := E) (ok_raised T) (hr2.mono (by decide)) (by rfl) T.m_raised T.F_raised.kp (b_raised T) .nil (passes_call (takes_of rfl rfl rfl rfl) fun _ _ _ _ h => h) (pa_cons pe_int pa_nil)))) pa_nil)))
 (pss_cons (ps_if (PW.pt (pw_or (pt_cmpR op_ne (pe_callB (call_lenK (K := K) rfl) (by rfl) T.b_len (by decide +kernel) (pa_cons (pv 4) pa_nil)) (pe_callB (call_lenK (K := K) rfl) (by rfl) T.b_len (by decide +kernel) (pa_cons (pv 3) pa_nil)) (nomark _)) (pw_or1 (pt_cmpR (op_neD hr.units) (pv 9) (pe_lst (pa_cons pe_str (pa_cons pe_str (pa_cons pe_str (pa_cons pe_str pa_nil))))) (nomark _))))) (pss_one (ps_ret pe_bl)) pss_nil)
 (pss_one (ps_ret (pe_and (pe_callG (ok_parts_right T) gu (hr.mono (by decide)) (by rfl) T.m_parts_right T.F_parts_right.kp (b_parts_right T) .nil pass0 (pa_cons (pv 3) (pa_cons (pv 1) pa_nil))) (pe_one (pe_callG (ok_parts_right T) gu (hr.mono (by decide)) (by rfl) T.m_parts_right T.F_parts_right.kp (b_parts_right T) .nil pass0 (pa_cons (pv 4) (pa_cons (pv 2) pa_nil)))))))))))))))), ?_⟩
    refine ⟨_, rfl, p, rfl, hp, fun H1 t1 o1 g1 i1 x1 s1 n1 M1 f1 P1 => ?_⟩
    refine ⟨_, rfl, p, rfl, M1.pot, fun H2 t2 o2 g2 i2 x2 s2 n2 M2 f2 P2 => ?_⟩
    have P1 := P1.mov M1.pot M2
    have tb := tabs_mov (tabs_mov tb M1 hp) M2 M1.pot
    have M2 := M1.trans M2
    obtain ⟨⟨vo1, vt1, qw1, sw1, et1, ao1, ag1, aw1, ew1⟩, oo1, og1, oi1, ow1⟩ := P1
    obtain ⟨⟨vo2, vt2, qw2, sw2, et2, ao2, ag2, aw2, ew2⟩, oo2, og2, oi2, ow2⟩ := P2
    refine ⟨_, _, rfl, _, rfl, t1, vo1, vt1, i1.v, qw1, sw1, .str s1, .int n1, rfl, et1, ew1, fun H3 l1 es1 y3 fr3 el1 er1 => ?_⟩
    refine ⟨_, rfl, t2, vo2, vt2, i2.v, qw2, sw2, .str s2, .int n2, rfl, y3 _ _ et2, y3 _ _ ew2, fun H4 l2 es2 y4 fr4 el2 er2 => ?_⟩
    have Y := y3.trans y4
    have el1 := y4 _ _ el1
    have er1 := er1.same y4
    refine ⟨_, rfl, l1, _, rfl, SqL.of el1, ?_⟩
    refine for_enum (K := K) (a := l1) (xs := es1) (fun i σ H' => ∃ u5 u6 u7 u8 : Option V, σ = [some (.ref p), some (.ref t1), some (.ref t2), some (.ref l1), some (.ref l2), u5, u6, u7, u8, none] ∧ Same H4 H')
      ⟨_, _, _, _, rfl, Same.refl H4⟩ (fun i σ H' ⟨_, _, _, _, _, s⟩ => SqL.of (s _ _ el1)) ?_ ?_
    · rintro i v T0 σ H' hi ⟨u5, u6, u7, u8, rfl, sH⟩ hT0
      obtain ⟨c, hc, ev⟩ := Paired.at_ er1 hi
      have hC := row_cls hc
      have h32 : i / 2 < 32 := (List.getElem?_eq_some_iff.mp hC).1
      generalize e_H5 : upd _ T0 _ = H5
      obtain ⟨y5, f5⟩ := al3 e_H5 hT0
      clear e_H5
      (try dsimp only at f5)
      have ev := (ev.same sH).same y5
      have Y5 := sH.trans y5
      refine ⟨_, _, rfl, SqT.of f5, rfl, _, _, rfl, _, _, rfl, rfl, ?_⟩
      refine ⟨_, rfl, _, _, rfl, rfl, ⟨(by show (0 : Int) < 2; decide), (by decide)⟩, ?_⟩
      refine ⟨_, rfl, v, c.1, i / 2, rfl, ev.1, hC, fun H6 lm y6 fr6 em => ?_⟩
      have em : H6 lm = some (.lst (((List.range 32).map fun j => decide (j = i / 2)).map V.bl)) := by
        rw [List.map_map]
        exact em
      have Y6 := Y5.trans y6
      have ev := ev.same y6
      refine ⟨32, rfl, by decide, by decide, fun D hD => ?_⟩
      refine lc_range (lo := 0) (n := 32) (fun j H'' => Same H6 H'' ∧ H'' D = some (.lst (((List.range j).map fun k : Nat => decide (V.int (k : Int) = V.int ((i / 2 : Nat) : Int))).map V.bl))) ⟨Lb.Same.upd hD, upd_same⟩ ?_ ?_
      · rintro j H'' hj ⟨m, eD⟩
        refine ⟨rfl, _, rfl, _, rfl, rfl, _, eD, szlt (by rw [List.length_map, List.length_map, List.length_range]; omega), Lb.Same.updl m hD, ?_⟩
        rw [upd_same, List.range_succ, List.map_append, List.map_append]
        refine congrArg (fun z => some (HO.lst (_ ++ [V.bl z]))) ?_
        rw [Int.zero_add]
        rfl
      · rintro H7 ⟨m, eD⟩
        refine ⟨_, _, .lst (SqL.of (m _ _ em)) (dp_bools _), .lst (SqL.of eD) (dp_bools _), rfl, rfl, ?_⟩
        rw [eqv32 (i / 2) (List.mem_range.mpr h32)]
        refine ⟨_, rfl, iteF ?_⟩
        refine ⟨_, rfl, _, rfl, v, c.1, i / 2, rfl, (ev.same m).1, hC, fun H8 y8 => ⟨true, rfl, iteF ?_⟩⟩
        exact ⟨_, _, _, _, rfl, (Y6.trans m).trans y8⟩
    rintro σ H5 ⟨u5, u6, u7, u8, rfl, sH⟩
    have el1 := sH _ _ el1
    have el2 := sH _ _ el2
    have er1 := er1.same sH
    have er2 := er2.same sH
    have YY := Y.trans sH
    have tb := tb.ext YY
    have et1 := YY _ _ et1
    have et2 := YY _ _ et2
    have ao1 := ao1.same YY
    have ag1 := ag1.same YY
    have aw1 := AmAt.same aw1 YY
    have ew1 := YY _ _ ew1
    have ao2 := ao2.same YY
    have ag2 := ag2.same YY
    have aw2 := AmAt.same aw2 YY
    have ew2 := YY _ _ ew2
    have M := MovN.of (M2.same YY)
    clear sH YY Y y3 y4
    -- caught
    refine ⟨tb, fun J1 w1 tb1 R _ => ⟨0, rfl, by decide, fun J2 C d z2 hC => ⟨C, _, rfl, hC, sz, fun L hL => ?_⟩⟩⟩
    have nL : ∀ b o, H5 b = some o → (∀ ps, o ≠ .tbl ps) → b ≠ L := fun b o e n z => by
      have q := z2 _ _ (w1 b o e n)
      rw [z, hL] at q
      cases q
    generalize e_J3 : upd _ L _ = J3
    obtain ⟨z3, eL⟩ := al3 e_J3 hL
    clear e_J3
    (try dsimp only at eL)
    have W := w1.trans (.of (z2.trans z3))
    have tb := tb1.ext (z2.trans z3)
    clear w1 z2 z3 tb1 hC
    refine ⟨_, rfl, .inl ⟨rfl, _, SqL.of eL⟩, tb, fun J4 w1 tb1 R _ => ⟨1, rfl, by decide, fun J5 C d z2 hC => ⟨C, _, rfl, hC, ?_⟩⟩⟩
    have eL := z2 _ _ (w1 _ _ eL (fun _ z => nomatch z))
    refine ⟨L, _, _, rfl, rfl, eL, szlt (by simp), ?_⟩
    have WW : ∀ o, ExtN H5 (upd J5 L o) := fun o b u e n => (upd_ne (nL b u e n)).trans (((W.trans w1).trans (.of z2)) b u e n)
    have TT : ∀ o, Tabs (TL1 a) (upd J5 L o) := fun o => tabs_upd (tb1.ext z2) eL
    generalize eG : upd J5 L _ = J6
    have W : ExtN H5 J6 := eG ▸ WW _
    have tb : Tabs (TL1 a) J6 := eG ▸ TT _
    have eL : J6 L = some _ := (congrFun eG L).symm.trans upd_same
    clear WW TT eG
    clear w1 z2 tb1 hC
    refine ⟨_, rfl, .inl ⟨rfl, _, SqL.of eL⟩, tb, fun J7 w1 tb1 R _ => ⟨2, rfl, by decide, fun J8 C d z2 hC => ⟨C, _, rfl, hC, ?_⟩⟩⟩
    have eL := z2 _ _ (w1 _ _ eL (fun _ z => nomatch z))
    refine ⟨L, _, _, rfl, rfl, eL, szlt (by simp), ?_⟩
    have WW : ∀ o, ExtN H5 (upd J8 L o) := fun o b u e n => (upd_ne (nL b u e n)).trans (((W.trans w1).trans (.of z2)) b u e n)
    have TT : ∀ o, Tabs (TL1 a) (upd J8 L o) := fun o => tabs_upd (tb1.ext z2) eL
    generalize eG : upd J8 L _ = J9
    have W : ExtN H5 J9 := eG ▸ WW _
    have tb : Tabs (TL1 a) J9 := eG ▸ TT _
    have eL : J9 L = some _ := (congrFun eG L).symm.trans upd_same
    clear WW TT eG
    clear w1 z2 tb1 hC
    refine ⟨_, rfl, .inl ⟨rfl, _, SqL.of eL⟩, tb, fun J10 w1 tb1 R _ => ⟨3, rfl, by decide, fun J11 C d z2 hC => ⟨C, _, rfl, hC, ?_⟩⟩⟩
    have eL := z2 _ _ (w1 _ _ eL (fun _ z => nomatch z))
    refine ⟨L, _, _, rfl, rfl, eL, szlt (by simp), ?_⟩
    have WW : ∀ o, ExtN H5 (upd J11 L o) := fun o b u e n => (upd_ne (nL b u e n)).trans (((W.trans w1).trans (.of z2)) b u e n)
    have TT : ∀ o, Tabs (TL1 a) (upd J11 L o) := fun o => tabs_upd (tb1.ext z2) eL
    generalize eG : upd J11 L _ = J12
    have W : ExtN H5 J12 := eG ▸ WW _
    have tb : Tabs (TL1 a) J12 := eG ▸ TT _
    have eL : J12 L = some _ := (congrFun eG L).symm.trans upd_same
    clear WW TT eG
    clear w1 z2 tb1 hC
    have el1 := W _ _ el1 (fun _ z => nomatch z)
    have el2 := W _ _ el2 (fun _ z => nomatch z)
    have m1 : es1.length = 64 := er1.n
    have m2 : es2.length = 64 := er2.n
    refine ⟨_, rfl, l2, es2, rfl, .inl (SqL.of el2), _, rfl, l1, es1, rfl, .inl (SqL.of el1), ?_⟩
    rw [m1, m2]
    refine ⟨rfl, _, rfl, iteF ?_⟩
    refine ⟨_, rfl, sz, fun L2 hL2 => ?_⟩
    generalize e_J13 : upd _ L2 _ = J13
    obtain ⟨z13, eL2⟩ := al3 e_J13 hL2
    clear e_J13
    (try dsimp only at eL2)
    refine ⟨_, _, .lst (SqL.of (z13 _ _ eL)) (.cons (.str _) (.cons (.str _) (.cons (.str _) (.cons (.str _) .nil)))), .lst (SqL.of eL2) (.cons (.str _) (.cons (.str _) (.cons (.str _) (.cons (.str _) .nil)))), (by decide +kernel), (by decide +kernel), ?_⟩
    rw [show PyData.eqv (.list [.str (word (famI (if 0 = 0 then 26 else if 0 = 1 then 11 else if 0 = 2 then 30 else 29))), .str (word (famI (if 1 = 0 then 26 else if 1 = 1 then 11 else if 1 = 2 then 30 else 29))), .str (word (famI (if 2 = 0 then 26 else if 2 = 1 then 11 else if 2 = 2 then 30 else 29))), .str (word (famI (if 3 = 0 then 26 else if 3 = 1 then 11 else if 3 = 2 then 30 else 29)))])
      (.list [.str "value", .str "missing", .str "state", .str "limit"]) = true by decide +kernel]
    refine ⟨_, rfl, iteF ?_⟩
    have W := W.trans (.of z13)
    have tb := tb.ext z13
    have k1 : ExtN H5 J13 := W
    refine ⟨_, rfl, _, rfl, l1, t1, p, es1, o1, g1, i1, x1, s1, n1, vo1, vt1, qw1, sw1, rfl, z13 _ _ el1, W _ _ et1 (fun _ z => nomatch z), Errs.extN W er1, ao1.extN W, ag1.extN W, aw1.imp fun _ h => W _ _ h (fun _ z => nomatch z), W _ _ ew1 (fun _ z => nomatch z), oo1, og1, oi1, ow1, fun K1 q1 => ⟨true, rfl, iteT ?_⟩⟩
    have W := W.trans (.of q1)
    have tb := tb.ext q1
    refine ⟨_, rfl, _, rfl, l2, t2, p, es2, o2, g2, i2, x2, s2, n2, vo2, vt2, qw2, sw2, rfl, q1 _ _ (z13 _ _ el2), W _ _ et2 (fun _ z => nomatch z), Errs.extN W er2, ao2.extN W, ag2.extN W, aw2.imp fun _ h => W _ _ h (fun _ z => nomatch z), W _ _ ew2 (fun _ z => nomatch z), oo2, og2, oi2, ow2, fun K2 q2 => ?_⟩
    exact k _ (M.ext (W.trans (.of q2))) (tb.ext q2)
end
end K10

set_option Elab.async false
set_option linter.all false
set_option maxRecDepth 100000
set_option maxHeartbeats 4000000
namespace K10
open PySem L2 Lb
open LamX (ExtN CodeO Tabs TabB pe_lamcall lamS_by)
open PySem.Spec PyProof.Rows
theorem SqL.extN {K : PySem.W.Frag} {a : Addr} {H H1 : Hp} {xs : List V} (m : ExtN H H1) (h : SqL K H a xs) : SqL K H1 a xs := by
  rcases h with (h | ⟨o, h⟩) | h
  · exact .inl (.inl (m _ _ h fun _ z => nomatch z))
  · exact .inl (.inr ⟨o, m _ _ h fun _ z => nomatch z⟩)
  · exact .inr h
def sp_law (K : PySem.W.Frag) (a : Ad) : Sp := fun vs H Q _ => ∃ (sc : Addr) (ns : List Int), vs = [.ref sc] ∧ SqL K H sc (ns.map V.int) ∧ ns.length ≤ 63 ∧ Tabs (TL1 a) H ∧ ∀ H', Q (.bl true) H'
section
variable {P : Program} {w : World} {K : PySem.W.Frag} {mg : Str → Option Value} {base : Heap} {a : Ad}
theorem ok_law (T : Txt K mg a) (TB : TabB base mg a.cc_right a.PP_right) : FnG P w K mg base CX0 9 a.f_law a.d_law ["_law_script"] (sp_law K a) := by
  refine okG T.F_law sc_law (fun vs H Q E h => ?_) (fun cdv A outer s H vs Q E gu hr h => ?_)
  · obtain ⟨sc, ns, rfl, _⟩ := h
    rfl
  · obtain ⟨sc, ns, rfl, hS, hlen, tb, k⟩ := h
    refine ⟨_, (pss_one (ps_ret (pe_callB (cr_allK (K := K) rfl rfl) (by rfl) T.b_all (by decide +kernel) (pa_cons (pe_lc (own := [("_law_k", 1)]) (by rfl) sc_law.nd (pi_range1 rfl T.b_range (pa_cons (pe_callB (call_max2 rfl) (by rfl) T.b_max (by decide +kernel) (pa_cons pe_int (pa_cons (pe_callB (call_min2 rfl) (by rfl) T.b_min (by decide +kernel) (pa_cons pe_int (pa_cons (pe_callB (call_lenK (K := K) rfl) (by rfl) T.b_len (by decide +kernel) (pa_cons (pv 0) pa_nil)) pa_nil))) pa_nil))) pa_nil)) (blkOk_by (own := [("_law_k", 1)]) (N := ["_law_script", "_law_k"]) (sc := defScope s_law) (by decide +kernel)) (fun _ _ _ _ _ => (pg_name (i := 1) sc_law.nd rfl (by first | exact Or.inl rfl | exact Or.inr rfl))) (fun _ _ _ _ _ => pts_nil) (fun _ _ _ _ _ => (pe_callG (ok_right T TB) gu (hr.mono (by decide)) (by rfl) T.m_right T.F_right.kp (b_right T) .nil pass0 (pa_cons (pe_call (ok_pot T) (hr.mono (by decide)) (by rfl) T.m_pot T.F_pot.kp (b_pot T) .nil pass0 (pa_cons (pv 0) (pa_cons (pv 1) pa_nil))) pa_nil)))) pa_nil)))), ?_⟩
    refine ⟨_, rfl, _, _, rfl, .inl hS, _, _, rfl, _, _, rfl, ?_⟩
    have hn : ∃ n : Nat, n ≤ 6 ∧ (if (if (((ns.map V.int).length : Nat) : Int) < 6 then (((ns.map V.int).length : Nat) : Int) else 6) > 1 then (if (((ns.map V.int).length : Nat) : Int) < 6 then (((ns.map V.int).length : Nat) : Int) else 6) else 1) = (n : Int) := by
      rw [List.length_map]
      refine ⟨(if (if ns.length < 6 then ns.length else 6) > 1 then (if ns.length < 6 then ns.length else 6) else 1), ?_, ?_⟩
      · split <;> (try split) <;> omega
      · split <;> split <;> (try split) <;> (try split) <;> omega
    obtain ⟨n, hn4, en⟩ := hn
    rw [en]
    refine ⟨_, rfl, (by omega), (by omega), fun D hD => ?_⟩
    have s0 := Lb.Same.upd (o := .lst []) hD
    refine lc_range (lo := 0) (n := n) (fun i H' => ExtN H H' ∧ Tabs (TL1 a) H' ∧ H' D = some (.lst ((List.replicate i true).map V.bl))) ⟨.of s0, tb.ext s0, upd_same⟩ ?_ ?_
    · rintro i H' hi ⟨x1, tb1, e1⟩
      refine ⟨rfl, ?_⟩
      refine ⟨_, rfl, _, rfl, sc, ns, i, by simp, SqL.extN x1 hS, hlen, by omega, fun H2 p s2 hp pot => ?_⟩
      refine ⟨p, rfl, pot, tb1.ext s2, fun H3 m3 tb3 => ?_⟩
      have nD : D ≠ p := fun q => by
        rw [← q, e1] at hp
        cases hp
      have x3 : ExtN H' H3 := fun b o e t => m3.keep b o (ne_of_none e hp) (s2 _ _ e) t
      have eD := x3 _ _ e1 fun _ z => nomatch z
      have up : ∀ {o}, Tabs (TL1 a) (upd H3 D o) := fun {o} => by
        intro q hq
        obtain ⟨ps, h1, h2, h3⟩ := tb3 q hq
        have n1 : q.1 ≠ D := fun z => by rw [z, eD] at h1; cases h1
        refine ⟨ps, by rw [upd_ne n1]; exact h1, h2, fun pos cv hc => ?_⟩
        obtain ⟨c, c1, c2⟩ := h3 pos cv hc
        have n2 : c ≠ D := fun z => by
          rw [z, eD] at c2
          have c2 := Option.some.inj c2
          unfold CodeO at c2
          cases c2
        exact ⟨c, c1, by rw [upd_ne n2]; exact c2⟩
      refine ⟨_, eD, ?_, ?_, up, ?_⟩
      · rw [List.length_map, List.length_replicate]
        exact szlt (by omega)
      · intro b o e t
        rw [upd_ne (ne_of_none e hD)]
        exact x3 _ _ (x1 _ _ e t) t
      · rw [upd_same, List.replicate_succ', List.map_append]
        rfl
    · rintro H' ⟨x1, tb1, e1⟩
      refine ⟨D, _, rfl, SqL.of e1, ?_⟩
      rw [all_replicate_true]
      exact k _
end
end K10

set_option Elab.async false
set_option linter.all false
set_option maxRecDepth 100000
set_option maxHeartbeats 4000000
namespace Lb
open PySem L2
theorem FnG.imp {P : Program} {w : World} {K : PySem.W.Frag} {mg : Str → Option Value} {base : Heap} {CX : CXT} {k : Nat} {f : Addr} {fd : FuncData} {ps : List Str} {sp sq : Sp} (F : FnG P w K mg base CX k f fd ps sp) (h : ∀ vs H Q E, sq vs H Q E → sp vs H Q E) : FnG P w K mg base CX k f fd ps sq :=
  ⟨fun vs H Q E q => F.len vs H Q E (h _ _ _ _ q), fun A outer s H args us vs Q E g hr e0 hb r q => F.run A outer s H args us vs Q E g hr e0 hb r (h _ _ _ _ q)⟩
end Lb
namespace K10
open PySem L2 Lb
def spL (K : PySem.W.Frag) (cs : List (Addr × Addr)) : Sp := fun vs H Q _ => ∃ (sc : Addr) (ns : List Int), vs = [.ref sc] ∧ SqL K H sc (ns.map V.int) ∧ ns.length ≤ 63 ∧ (∀ p ∈ cs, H p.2 = some (.tbl #[])) ∧ ∀ H', Q (.bl true) H'
theorem law_imp {P : Program} {w : World} {K : PySem.W.Frag} {mg : Str → Option Value} {base : Heap} {a : Ad} {f : Addr} {fd : FuncData} {c1 : Addr} (F : FnG P w K mg base CX0 9 f fd ["_law_script"] (sp_law K a)) : FnG P w K mg base CX0 9 f fd ["_law_script"] (spL K [(c1, a.PP_right)]) :=
  FnG.imp F fun vs H Q E ⟨sc, ns, e, hS, hl, hT, q⟩ => ⟨sc, ns, e, hS, hl, fun p hp => by
    rw [List.mem_singleton.mp hp]
    exact LamX.TabS.nil (hT _ List.mem_cons_self), q⟩
end K10

set_option Elab.async false
set_option linter.all false
set_option maxRecDepth 100000
namespace K10
open PySem L2 Lb
set_option maxHeartbeats 0 in
theorem all_mk {l : PySem.W.OpenLaw} {w : World} {K : PySem.W.Frag} {h : Heap} {mg : Str → Option Value} (X : K.In h) (G : h.Ns mainGlobals mg) {fa : Addr} (hfa : mg "law" = some (.ref fa))
    {c_Amount : Addr}
    {c_InvalidInteger : Addr}
    {c_InvalidAmount : Addr}
    {c_InvalidOrder : Addr}
    {c_InvalidWord : Addr}
    {c_InvalidPlace : Addr}
    {c_InvalidClaim : Addr}
    {c_InvalidLine : Addr}
    {c_UnknownPipe : Addr}
    {c_UnknownNode : Addr}
    {c_UnknownPole : Addr}
    {c_UnknownKind : Addr}
    {c_UnknownReading : Addr}
    {c_NotSure : Addr}
    {c_InvalidPoints : Addr}
    {c_InvalidLevels : Addr}
    {c_InvalidReading : Addr}
    {c_InvalidStates : Addr}
    {c_NotConnected : Addr}
    {c_InvalidDemands : Addr}
    {c_InvalidPoles : Addr}
    {c_InvalidHeights : Addr}
    {c_InvalidConductances : Addr}
    {c_InvalidCurves : Addr}
    {c_InvalidFlows : Addr}
    {c_InvalidKinds : Addr}
    {c_IsBridge : Addr}
    {c_InvalidPipes : Addr}
    {c_Unbalanced : Addr}
    {c_InvalidText : Addr}
    {c_TooMany : Addr}
    {c_Barred : Addr}
    {c_NothingToUndo : Addr}
    {c_PipeError : Addr}
    {c_MissingError : Addr}
    {c_StateError : Addr}
    {c_LimitError : Addr}
    {cc_right : Addr}
    {PP_right : Addr}
    {f_InvalidInteger_init_ : Addr} {od_0 an_0 : Option Addr} {sl_0 : Array (Option Value)} {oc_0 kV_0 dc_0 pm_0 cd_0 ct_0 : Value}
    {f_InvalidAmount_init_ : Addr} {od_1 an_1 : Option Addr} {sl_1 : Array (Option Value)} {oc_1 kV_1 dc_1 pm_1 cd_1 ct_1 : Value}
    {f_InvalidOrder_init_ : Addr} {od_2 an_2 : Option Addr} {sl_2 : Array (Option Value)} {oc_2 kV_2 dc_2 pm_2 cd_2 ct_2 : Value}
    {f_InvalidWord_init_ : Addr} {od_3 an_3 : Option Addr} {sl_3 : Array (Option Value)} {oc_3 kV_3 dc_3 pm_3 cd_3 ct_3 : Value}
    {f_InvalidPlace_init_ : Addr} {od_4 an_4 : Option Addr} {sl_4 : Array (Option Value)} {oc_4 kV_4 dc_4 pm_4 cd_4 ct_4 : Value}
    {f_InvalidClaim_init_ : Addr} {od_5 an_5 : Option Addr} {sl_5 : Array (Option Value)} {oc_5 kV_5 dc_5 pm_5 cd_5 ct_5 : Value}
    {f_InvalidLine_init_ : Addr} {od_6 an_6 : Option Addr} {sl_6 : Array (Option Value)} {oc_6 kV_6 dc_6 pm_6 cd_6 ct_6 : Value}
    {f_UnknownPipe_init_ : Addr} {od_7 an_7 : Option Addr} {sl_7 : Array (Option Value)} {oc_7 kV_7 dc_7 pm_7 cd_7 ct_7 : Value}
    {f_UnknownNode_init_ : Addr} {od_8 an_8 : Option Addr} {sl_8 : Array (Option Value)} {oc_8 kV_8 dc_8 pm_8 cd_8 ct_8 : Value}
    {f_UnknownPole_init_ : Addr} {od_9 an_9 : Option Addr} {sl_9 : Array (Option Value)} {oc_9 kV_9 dc_9 pm_9 cd_9 ct_9 : Value}
    {f_UnknownKind_init_ : Addr} {od_10 an_10 : Option Addr} {sl_10 : Array (Option Value)} {oc_10 kV_10 dc_10 pm_10 cd_10 ct_10 : Value}
    {f_UnknownReading_init_ : Addr} {od_11 an_11 : Option Addr} {sl_11 : Array (Option Value)} {oc_11 kV_11 dc_11 pm_11 cd_11 ct_11 : Value}
    {f_NotSure_init_ : Addr} {od_12 an_12 : Option Addr} {sl_12 : Array (Option Value)} {oc_12 kV_12 dc_12 pm_12 cd_12 ct_12 : Value}
    {f_InvalidPoints_init_ : Addr} {od_13 an_13 : Option Addr} {sl_13 : Array (Option Value)} {oc_13 kV_13 dc_13 pm_13 cd_13 ct_13 : Value}
    {f_InvalidLevels_init_ : Addr} {od_14 an_14 : Option Addr} {sl_14 : Array (Option Value)} {oc_14 kV_14 dc_14 pm_14 cd_14 ct_14 : Value}
    {f_InvalidReading_init_ : Addr} {od_15 an_15 : Option Addr} {sl_15 : Array (Option Value)} {oc_15 kV_15 dc_15 pm_15 cd_15 ct_15 : Value}
    {f_InvalidStates_init_ : Addr} {od_16 an_16 : Option Addr} {sl_16 : Array (Option Value)} {oc_16 kV_16 dc_16 pm_16 cd_16 ct_16 : Value}
    {f_NotConnected_init_ : Addr} {od_17 an_17 : Option Addr} {sl_17 : Array (Option Value)} {oc_17 kV_17 dc_17 pm_17 cd_17 ct_17 : Value}
    {f_InvalidDemands_init_ : Addr} {od_18 an_18 : Option Addr} {sl_18 : Array (Option Value)} {oc_18 kV_18 dc_18 pm_18 cd_18 ct_18 : Value}
    {f_InvalidPoles_init_ : Addr} {od_19 an_19 : Option Addr} {sl_19 : Array (Option Value)} {oc_19 kV_19 dc_19 pm_19 cd_19 ct_19 : Value}
    {f_InvalidHeights_init_ : Addr} {od_20 an_20 : Option Addr} {sl_20 : Array (Option Value)} {oc_20 kV_20 dc_20 pm_20 cd_20 ct_20 : Value}
    {f_InvalidConductances_init_ : Addr} {od_21 an_21 : Option Addr} {sl_21 : Array (Option Value)} {oc_21 kV_21 dc_21 pm_21 cd_21 ct_21 : Value}
    {f_InvalidCurves_init_ : Addr} {od_22 an_22 : Option Addr} {sl_22 : Array (Option Value)} {oc_22 kV_22 dc_22 pm_22 cd_22 ct_22 : Value}
    {f_InvalidFlows_init_ : Addr} {od_23 an_23 : Option Addr} {sl_23 : Array (Option Value)} {oc_23 kV_23 dc_23 pm_23 cd_23 ct_23 : Value}
    {f_InvalidKinds_init_ : Addr} {od_24 an_24 : Option Addr} {sl_24 : Array (Option Value)} {oc_24 kV_24 dc_24 pm_24 cd_24 ct_24 : Value}
    {f_IsBridge_init_ : Addr} {od_25 an_25 : Option Addr} {sl_25 : Array (Option Value)} {oc_25 kV_25 dc_25 pm_25 cd_25 ct_25 : Value}
    {f_InvalidPipes_init_ : Addr} {od_26 an_26 : Option Addr} {sl_26 : Array (Option Value)} {oc_26 kV_26 dc_26 pm_26 cd_26 ct_26 : Value}
    {f_Unbalanced_init_ : Addr} {od_27 an_27 : Option Addr} {sl_27 : Array (Option Value)} {oc_27 kV_27 dc_27 pm_27 cd_27 ct_27 : Value}
    {f_InvalidText_init_ : Addr} {od_28 an_28 : Option Addr} {sl_28 : Array (Option Value)} {oc_28 kV_28 dc_28 pm_28 cd_28 ct_28 : Value}
    {f_TooMany_init_ : Addr} {od_29 an_29 : Option Addr} {sl_29 : Array (Option Value)} {oc_29 kV_29 dc_29 pm_29 cd_29 ct_29 : Value}
    {f_Barred_init_ : Addr} {od_30 an_30 : Option Addr} {sl_30 : Array (Option Value)} {oc_30 kV_30 dc_30 pm_30 cd_30 ct_30 : Value}
    {f_NothingToUndo_init_ : Addr} {od_31 an_31 : Option Addr} {sl_31 : Array (Option Value)} {oc_31 kV_31 dc_31 pm_31 cd_31 ct_31 : Value}
    {f_is_integer : Addr} {od_32 an_32 : Option Addr} {sl_32 : Array (Option Value)} {oc_32 kV_32 dc_32 pm_32 cd_32 ct_32 : Value}
    {f_amount_of : Addr} {od_33 an_33 : Option Addr} {sl_33 : Array (Option Value)} {oc_33 kV_33 dc_33 pm_33 cd_33 ct_33 : Value}
    {f_Amount_init_ : Addr} {od_34 an_34 : Option Addr} {sl_34 : Array (Option Value)} {oc_34 kV_34 dc_34 pm_34 cd_34 ct_34 : Value}
    {T_34 : Addr} {o_34 : Obj} {dn_34 : Nat} {its_34 : List Value}
    {f_Amount_eq_ : Addr} {od_35 an_35 : Option Addr} {sl_35 : Array (Option Value)} {oc_35 kV_35 dc_35 pm_35 cd_35 ct_35 : Value}
    {f_pot : Addr} {od_36 an_36 : Option Addr} {sl_36 : Array (Option Value)} {oc_36 kV_36 dc_36 pm_36 cd_36 ct_36 : Value}
    {f_draw : Addr} {od_37 an_37 : Option Addr} {sl_37 : Array (Option Value)} {oc_37 kV_37 dc_37 pm_37 cd_37 ct_37 : Value}
    {f_choice : Addr} {od_38 an_38 : Option Addr} {sl_38 : Array (Option Value)} {oc_38 kV_38 dc_38 pm_38 cd_38 ct_38 : Value}
    {f_parts : Addr} {od_39 an_39 : Option Addr} {sl_39 : Array (Option Value)} {oc_39 kV_39 dc_39 pm_39 cd_39 ct_39 : Value}
    {f_with_value : Addr} {od_40 an_40 : Option Addr} {sl_40 : Array (Option Value)} {oc_40 kV_40 dc_40 pm_40 cd_40 ct_40 : Value}
    {f_with_position : Addr} {od_41 an_41 : Option Addr} {sl_41 : Array (Option Value)} {oc_41 kV_41 dc_41 pm_41 cd_41 ct_41 : Value}
    {f_with_node : Addr} {od_42 an_42 : Option Addr} {sl_42 : Array (Option Value)} {oc_42 kV_42 dc_42 pm_42 cd_42 ct_42 : Value}
    {f_with_pipe : Addr} {od_43 an_43 : Option Addr} {sl_43 : Array (Option Value)} {oc_43 kV_43 dc_43 pm_43 cd_43 ct_43 : Value}
    {f_others : Addr} {od_44 an_44 : Option Addr} {sl_44 : Array (Option Value)} {oc_44 kV_44 dc_44 pm_44 cd_44 ct_44 : Value}
    {f_row : Addr} {od_45 an_45 : Option Addr} {sl_45 : Array (Option Value)} {oc_45 kV_45 dc_45 pm_45 cd_45 ct_45 : Value}
    {f_marks : Addr} {od_46 an_46 : Option Addr} {sl_46 : Array (Option Value)} {oc_46 kV_46 dc_46 pm_46 cd_46 ct_46 : Value}
    {f_above_right : Addr} {od_47 an_47 : Option Addr} {sl_47 : Array (Option Value)} {oc_47 kV_47 dc_47 pm_47 cd_47 ct_47 : Value}
    {f_parts_right : Addr} {od_48 an_48 : Option Addr} {sl_48 : Array (Option Value)} {oc_48 kV_48 dc_48 pm_48 cd_48 ct_48 : Value}
    {f_caught : Addr} {od_49 an_49 : Option Addr} {sl_49 : Array (Option Value)} {oc_49 kV_49 dc_49 pm_49 cd_49 ct_49 : Value}
    {f_raised : Addr} {od_50 an_50 : Option Addr} {sl_50 : Array (Option Value)} {oc_50 kV_50 dc_50 pm_50 cd_50 ct_50 : Value}
    {f_right : Addr} {od_51 an_51 : Option Addr} {sl_51 : Array (Option Value)} {oc_51 kV_51 dc_51 pm_51 ct_51 : Value}
    {f_law : Addr} {od_52 an_52 : Option Addr} {sl_52 : Array (Option Value)} {oc_52 kV_52 dc_52 pm_52 cd_52 ct_52 : Value}
    {nm_InvalidInteger qn_InvalidInteger : Str} {N_InvalidInteger : Addr} {bs_InvalidInteger : List Value} {sn_InvalidInteger : List Str} {su_InvalidInteger : List Value} {ab_InvalidInteger : Bool} {co_InvalidInteger : Option Bool} {dd_InvalidInteger : Option Addr} {m0_InvalidInteger m1_InvalidInteger m2_InvalidInteger m3_InvalidInteger m5_InvalidInteger : Option Value}
    {nm_InvalidAmount qn_InvalidAmount : Str} {N_InvalidAmount : Addr} {bs_InvalidAmount : List Value} {sn_InvalidAmount : List Str} {su_InvalidAmount : List Value} {ab_InvalidAmount : Bool} {co_InvalidAmount : Option Bool} {dd_InvalidAmount : Option Addr} {m0_InvalidAmount m1_InvalidAmount m2_InvalidAmount m3_InvalidAmount m5_InvalidAmount : Option Value}
    {nm_InvalidOrder qn_InvalidOrder : Str} {N_InvalidOrder : Addr} {bs_InvalidOrder : List Value} {sn_InvalidOrder : List Str} {su_InvalidOrder : List Value} {ab_InvalidOrder : Bool} {co_InvalidOrder : Option Bool} {dd_InvalidOrder : Option Addr} {m0_InvalidOrder m1_InvalidOrder m2_InvalidOrder m3_InvalidOrder m5_InvalidOrder : Option Value}
    {nm_InvalidWord qn_InvalidWord : Str} {N_InvalidWord : Addr} {bs_InvalidWord : List Value} {sn_InvalidWord : List Str} {su_InvalidWord : List Value} {ab_InvalidWord : Bool} {co_InvalidWord : Option Bool} {dd_InvalidWord : Option Addr} {m0_InvalidWord m1_InvalidWord m2_InvalidWord m3_InvalidWord m5_InvalidWord : Option Value}
    {nm_InvalidPlace qn_InvalidPlace : Str} {N_InvalidPlace : Addr} {bs_InvalidPlace : List Value} {sn_InvalidPlace : List Str} {su_InvalidPlace : List Value} {ab_InvalidPlace : Bool} {co_InvalidPlace : Option Bool} {dd_InvalidPlace : Option Addr} {m0_InvalidPlace m1_InvalidPlace m2_InvalidPlace m3_InvalidPlace m5_InvalidPlace : Option Value}
    {nm_InvalidClaim qn_InvalidClaim : Str} {N_InvalidClaim : Addr} {bs_InvalidClaim : List Value} {sn_InvalidClaim : List Str} {su_InvalidClaim : List Value} {ab_InvalidClaim : Bool} {co_InvalidClaim : Option Bool} {dd_InvalidClaim : Option Addr} {m0_InvalidClaim m1_InvalidClaim m2_InvalidClaim m3_InvalidClaim m5_InvalidClaim : Option Value}
    {nm_InvalidLine qn_InvalidLine : Str} {N_InvalidLine : Addr} {bs_InvalidLine : List Value} {sn_InvalidLine : List Str} {su_InvalidLine : List Value} {ab_InvalidLine : Bool} {co_InvalidLine : Option Bool} {dd_InvalidLine : Option Addr} {m0_InvalidLine m1_InvalidLine m2_InvalidLine m3_InvalidLine m5_InvalidLine : Option Value}
    {nm_UnknownPipe qn_UnknownPipe : Str} {N_UnknownPipe : Addr} {bs_UnknownPipe : List Value} {sn_UnknownPipe : List Str} {su_UnknownPipe : List Value} {ab_UnknownPipe : Bool} {co_UnknownPipe : Option Bool} {dd_UnknownPipe : Option Addr} {m0_UnknownPipe m1_UnknownPipe m2_UnknownPipe m3_UnknownPipe m5_UnknownPipe : Option Value}
    {nm_UnknownNode qn_UnknownNode : Str} {N_UnknownNode : Addr} {bs_UnknownNode : List Value} {sn_UnknownNode : List Str} {su_UnknownNode : List Value} {ab_UnknownNode : Bool} {co_UnknownNode : Option Bool} {dd_UnknownNode : Option Addr} {m0_UnknownNode m1_UnknownNode m2_UnknownNode m3_UnknownNode m5_UnknownNode : Option Value}
    {nm_UnknownPole qn_UnknownPole : Str} {N_UnknownPole : Addr} {bs_UnknownPole : List Value} {sn_UnknownPole : List Str} {su_UnknownPole : List Value} {ab_UnknownPole : Bool} {co_UnknownPole : Option Bool} {dd_UnknownPole : Option Addr} {m0_UnknownPole m1_UnknownPole m2_UnknownPole m3_UnknownPole m5_UnknownPole : Option Value}
    {nm_UnknownKind qn_UnknownKind : Str} {N_UnknownKind : Addr} {bs_UnknownKind : List Value} {sn_UnknownKind : List Str} {su_UnknownKind : List Value} {ab_UnknownKind : Bool} {co_UnknownKind : Option Bool} {dd_UnknownKind : Option Addr} {m0_UnknownKind m1_UnknownKind m2_UnknownKind m3_UnknownKind m5_UnknownKind : Option Value}
    {nm_UnknownReading qn_UnknownReading : Str} {N_UnknownReading : Addr} {bs_UnknownReading : List Value} {sn_UnknownReading : List Str} {su_UnknownReading : List Value} {ab_UnknownReading : Bool} {co_UnknownReading : Option Bool} {dd_UnknownReading : Option Addr} {m0_UnknownReading m1_UnknownReading m2_UnknownReading m3_UnknownReading m5_UnknownReading : Option Value}
    {nm_NotSure qn_NotSure : Str} {N_NotSure : Addr} {bs_NotSure : List Value} {sn_NotSure : List Str} {su_NotSure : List Value} {ab_NotSure : Bool} {co_NotSure : Option Bool} {dd_NotSure : Option Addr} {m0_NotSure m1_NotSure m2_NotSure m3_NotSure m5_NotSure : Option Value}
    {nm_InvalidPoints qn_InvalidPoints : Str} {N_InvalidPoints : Addr} {bs_InvalidPoints : List Value} {sn_InvalidPoints : List Str} {su_InvalidPoints : List Value} {ab_InvalidPoints : Bool} {co_InvalidPoints : Option Bool} {dd_InvalidPoints : Option Addr} {m0_InvalidPoints m1_InvalidPoints m2_InvalidPoints m3_InvalidPoints m5_InvalidPoints : Option Value}
    {nm_InvalidLevels qn_InvalidLevels : Str} {N_InvalidLevels : Addr} {bs_InvalidLevels : List Value} {sn_InvalidLevels : List Str} {su_InvalidLevels : List Value} {ab_InvalidLevels : Bool} {co_InvalidLevels : Option Bool} {dd_InvalidLevels : Option Addr} {m0_InvalidLevels m1_InvalidLevels m2_InvalidLevels m3_InvalidLevels m5_InvalidLevels : Option Value}
    {nm_InvalidReading qn_InvalidReading : Str} {N_InvalidReading : Addr} {bs_InvalidReading : List Value} {sn_InvalidReading : List Str} {su_InvalidReading : List Value} {ab_InvalidReading : Bool} {co_InvalidReading : Option Bool} {dd_InvalidReading : Option Addr} {m0_InvalidReading m1_InvalidReading m2_InvalidReading m3_InvalidReading m5_InvalidReading : Option Value}
    {nm_InvalidStates qn_InvalidStates : Str} {N_InvalidStates : Addr} {bs_InvalidStates : List Value} {sn_InvalidStates : List Str} {su_InvalidStates : List Value} {ab_InvalidStates : Bool} {co_InvalidStates : Option Bool} {dd_InvalidStates : Option Addr} {m0_InvalidStates m1_InvalidStates m2_InvalidStates m3_InvalidStates m5_InvalidStates : Option Value}
    {nm_NotConnected qn_NotConnected : Str} {N_NotConnected : Addr} {bs_NotConnected : List Value} {sn_NotConnected : List Str} {su_NotConnected : List Value} {ab_NotConnected : Bool} {co_NotConnected : Option Bool} {dd_NotConnected : Option Addr} {m0_NotConnected m1_NotConnected m2_NotConnected m3_NotConnected m5_NotConnected : Option Value}
    {nm_InvalidDemands qn_InvalidDemands : Str} {N_InvalidDemands : Addr} {bs_InvalidDemands : List Value} {sn_InvalidDemands : List Str} {su_InvalidDemands : List Value} {ab_InvalidDemands : Bool} {co_InvalidDemands : Option Bool} {dd_InvalidDemands : Option Addr} {m0_InvalidDemands m1_InvalidDemands m2_InvalidDemands m3_InvalidDemands m5_InvalidDemands : Option Value}
    {nm_InvalidPoles qn_InvalidPoles : Str} {N_InvalidPoles : Addr} {bs_InvalidPoles : List Value} {sn_InvalidPoles : List Str} {su_InvalidPoles : List Value} {ab_InvalidPoles : Bool} {co_InvalidPoles : Option Bool} {dd_InvalidPoles : Option Addr} {m0_InvalidPoles m1_InvalidPoles m2_InvalidPoles m3_InvalidPoles m5_InvalidPoles : Option Value}
    {nm_InvalidHeights qn_InvalidHeights : Str} {N_InvalidHeights : Addr} {bs_InvalidHeights : List Value} {sn_InvalidHeights : List Str} {su_InvalidHeights : List Value} {ab_InvalidHeights : Bool} {co_InvalidHeights : Option Bool} {dd_InvalidHeights : Option Addr} {m0_InvalidHeights m1_InvalidHeights m2_InvalidHeights m3_InvalidHeights m5_InvalidHeights : Option Value}
    {nm_InvalidConductances qn_InvalidConductances : Str} {N_InvalidConductances : Addr} {bs_InvalidConductances : List Value} {sn_InvalidConductances : List Str} {su_InvalidConductances : List Value} {ab_InvalidConductances : Bool} {co_InvalidConductances : Option Bool} {dd_InvalidConductances : Option Addr} {m0_InvalidConductances m1_InvalidConductances m2_InvalidConductances m3_InvalidConductances m5_InvalidConductances : Option Value}
    {nm_InvalidCurves qn_InvalidCurves : Str} {N_InvalidCurves : Addr} {bs_InvalidCurves : List Value} {sn_InvalidCurves : List Str} {su_InvalidCurves : List Value} {ab_InvalidCurves : Bool} {co_InvalidCurves : Option Bool} {dd_InvalidCurves : Option Addr} {m0_InvalidCurves m1_InvalidCurves m2_InvalidCurves m3_InvalidCurves m5_InvalidCurves : Option Value}
    {nm_InvalidFlows qn_InvalidFlows : Str} {N_InvalidFlows : Addr} {bs_InvalidFlows : List Value} {sn_InvalidFlows : List Str} {su_InvalidFlows : List Value} {ab_InvalidFlows : Bool} {co_InvalidFlows : Option Bool} {dd_InvalidFlows : Option Addr} {m0_InvalidFlows m1_InvalidFlows m2_InvalidFlows m3_InvalidFlows m5_InvalidFlows : Option Value}
    {nm_InvalidKinds qn_InvalidKinds : Str} {N_InvalidKinds : Addr} {bs_InvalidKinds : List Value} {sn_InvalidKinds : List Str} {su_InvalidKinds : List Value} {ab_InvalidKinds : Bool} {co_InvalidKinds : Option Bool} {dd_InvalidKinds : Option Addr} {m0_InvalidKinds m1_InvalidKinds m2_InvalidKinds m3_InvalidKinds m5_InvalidKinds : Option Value}
    {nm_IsBridge qn_IsBridge : Str} {N_IsBridge : Addr} {bs_IsBridge : List Value} {sn_IsBridge : List Str} {su_IsBridge : List Value} {ab_IsBridge : Bool} {co_IsBridge : Option Bool} {dd_IsBridge : Option Addr} {m0_IsBridge m1_IsBridge m2_IsBridge m3_IsBridge m5_IsBridge : Option Value}
    {nm_InvalidPipes qn_InvalidPipes : Str} {N_InvalidPipes : Addr} {bs_InvalidPipes : List Value} {sn_InvalidPipes : List Str} {su_InvalidPipes : List Value} {ab_InvalidPipes : Bool} {co_InvalidPipes : Option Bool} {dd_InvalidPipes : Option Addr} {m0_InvalidPipes m1_InvalidPipes m2_InvalidPipes m3_InvalidPipes m5_InvalidPipes : Option Value}
    {nm_Unbalanced qn_Unbalanced : Str} {N_Unbalanced : Addr} {bs_Unbalanced : List Value} {sn_Unbalanced : List Str} {su_Unbalanced : List Value} {ab_Unbalanced : Bool} {co_Unbalanced : Option Bool} {dd_Unbalanced : Option Addr} {m0_Unbalanced m1_Unbalanced m2_Unbalanced m3_Unbalanced m5_Unbalanced : Option Value}
    {nm_InvalidText qn_InvalidText : Str} {N_InvalidText : Addr} {bs_InvalidText : List Value} {sn_InvalidText : List Str} {su_InvalidText : List Value} {ab_InvalidText : Bool} {co_InvalidText : Option Bool} {dd_InvalidText : Option Addr} {m0_InvalidText m1_InvalidText m2_InvalidText m3_InvalidText m5_InvalidText : Option Value}
    {nm_TooMany qn_TooMany : Str} {N_TooMany : Addr} {bs_TooMany : List Value} {sn_TooMany : List Str} {su_TooMany : List Value} {ab_TooMany : Bool} {co_TooMany : Option Bool} {dd_TooMany : Option Addr} {m0_TooMany m1_TooMany m2_TooMany m3_TooMany m5_TooMany : Option Value}
    {nm_Barred qn_Barred : Str} {N_Barred : Addr} {bs_Barred : List Value} {sn_Barred : List Str} {su_Barred : List Value} {ab_Barred : Bool} {co_Barred : Option Bool} {dd_Barred : Option Addr} {m0_Barred m1_Barred m2_Barred m3_Barred m5_Barred : Option Value}
    {nm_NothingToUndo qn_NothingToUndo : Str} {N_NothingToUndo : Addr} {bs_NothingToUndo : List Value} {sn_NothingToUndo : List Str} {su_NothingToUndo : List Value} {ab_NothingToUndo : Bool} {co_NothingToUndo : Option Bool} {dd_NothingToUndo : Option Addr} {m0_NothingToUndo m1_NothingToUndo m2_NothingToUndo m3_NothingToUndo m5_NothingToUndo : Option Value}
    {qq : Program}
    {dd_right : PySem.DefRec}
    (aC_Amount : PySem.W.nsIn K mainGlobals "Amount" = some (some (.ref c_Amount)))
    (aC_InvalidInteger : PySem.W.nsIn K mainGlobals "InvalidInteger" = some (some (.ref c_InvalidInteger)))
    (aC_InvalidAmount : PySem.W.nsIn K mainGlobals "InvalidAmount" = some (some (.ref c_InvalidAmount)))
    (aC_InvalidOrder : PySem.W.nsIn K mainGlobals "InvalidOrder" = some (some (.ref c_InvalidOrder)))
    (aC_InvalidWord : PySem.W.nsIn K mainGlobals "InvalidWord" = some (some (.ref c_InvalidWord)))
    (aC_InvalidPlace : PySem.W.nsIn K mainGlobals "InvalidPlace" = some (some (.ref c_InvalidPlace)))
    (aC_InvalidClaim : PySem.W.nsIn K mainGlobals "InvalidClaim" = some (some (.ref c_InvalidClaim)))
    (aC_InvalidLine : PySem.W.nsIn K mainGlobals "InvalidLine" = some (some (.ref c_InvalidLine)))
    (aC_UnknownPipe : PySem.W.nsIn K mainGlobals "UnknownPipe" = some (some (.ref c_UnknownPipe)))
    (aC_UnknownNode : PySem.W.nsIn K mainGlobals "UnknownNode" = some (some (.ref c_UnknownNode)))
    (aC_UnknownPole : PySem.W.nsIn K mainGlobals "UnknownPole" = some (some (.ref c_UnknownPole)))
    (aC_UnknownKind : PySem.W.nsIn K mainGlobals "UnknownKind" = some (some (.ref c_UnknownKind)))
    (aC_UnknownReading : PySem.W.nsIn K mainGlobals "UnknownReading" = some (some (.ref c_UnknownReading)))
    (aC_NotSure : PySem.W.nsIn K mainGlobals "NotSure" = some (some (.ref c_NotSure)))
    (aC_InvalidPoints : PySem.W.nsIn K mainGlobals "InvalidPoints" = some (some (.ref c_InvalidPoints)))
    (aC_InvalidLevels : PySem.W.nsIn K mainGlobals "InvalidLevels" = some (some (.ref c_InvalidLevels)))
    (aC_InvalidReading : PySem.W.nsIn K mainGlobals "InvalidReading" = some (some (.ref c_InvalidReading)))
    (aC_InvalidStates : PySem.W.nsIn K mainGlobals "InvalidStates" = some (some (.ref c_InvalidStates)))
    (aC_NotConnected : PySem.W.nsIn K mainGlobals "NotConnected" = some (some (.ref c_NotConnected)))
    (aC_InvalidDemands : PySem.W.nsIn K mainGlobals "InvalidDemands" = some (some (.ref c_InvalidDemands)))
    (aC_InvalidPoles : PySem.W.nsIn K mainGlobals "InvalidPoles" = some (some (.ref c_InvalidPoles)))
    (aC_InvalidHeights : PySem.W.nsIn K mainGlobals "InvalidHeights" = some (some (.ref c_InvalidHeights)))
    (aC_InvalidConductances : PySem.W.nsIn K mainGlobals "InvalidConductances" = some (some (.ref c_InvalidConductances)))
    (aC_InvalidCurves : PySem.W.nsIn K mainGlobals "InvalidCurves" = some (some (.ref c_InvalidCurves)))
    (aC_InvalidFlows : PySem.W.nsIn K mainGlobals "InvalidFlows" = some (some (.ref c_InvalidFlows)))
    (aC_InvalidKinds : PySem.W.nsIn K mainGlobals "InvalidKinds" = some (some (.ref c_InvalidKinds)))
    (aC_IsBridge : PySem.W.nsIn K mainGlobals "IsBridge" = some (some (.ref c_IsBridge)))
    (aC_InvalidPipes : PySem.W.nsIn K mainGlobals "InvalidPipes" = some (some (.ref c_InvalidPipes)))
    (aC_Unbalanced : PySem.W.nsIn K mainGlobals "Unbalanced" = some (some (.ref c_Unbalanced)))
    (aC_InvalidText : PySem.W.nsIn K mainGlobals "InvalidText" = some (some (.ref c_InvalidText)))
    (aC_TooMany : PySem.W.nsIn K mainGlobals "TooMany" = some (some (.ref c_TooMany)))
    (aC_Barred : PySem.W.nsIn K mainGlobals "Barred" = some (some (.ref c_Barred)))
    (aC_NothingToUndo : PySem.W.nsIn K mainGlobals "NothingToUndo" = some (some (.ref c_NothingToUndo)))
    (aC_PipeError : PySem.W.nsIn K mainGlobals "PipeError" = some (some (.ref c_PipeError)))
    (aC_MissingError : PySem.W.nsIn K mainGlobals "MissingError" = some (some (.ref c_MissingError)))
    (aC_StateError : PySem.W.nsIn K mainGlobals "StateError" = some (some (.ref c_StateError)))
    (aC_LimitError : PySem.W.nsIn K mainGlobals "LimitError" = some (some (.ref c_LimitError)))
    (a_InvalidInteger_init_ : PySem.W.findIn K (.ref c_InvalidInteger) "__init__" = some (some (.ref f_InvalidInteger_init_)))
    (i_InvalidInteger_init_ : PySem.W.isFn K (.ref f_InvalidInteger_init_) = true)
    (l_InvalidInteger_init_ : K.lookup f_InvalidInteger_init_ = some ⟨oc_0, od_0, .func (PySem.W.fnOf "__init__" "InvalidInteger.__init__" (defArgs s_InvalidInteger_init_) (defBody s_InvalidInteger_init_) (defScope s_InvalidInteger_init_) .none kV_0 dc_0 pm_0 an_0 cd_0 ct_0), sl_0⟩)
    (k1_InvalidInteger_init_ : PySem.W.codeIn K cd_0 "InvalidInteger.__init__" = true)
    (k2_InvalidInteger_init_ : PySem.W.keepIn K (.ref f_InvalidInteger_init_) = true)
    (a_InvalidAmount_init_ : PySem.W.findIn K (.ref c_InvalidAmount) "__init__" = some (some (.ref f_InvalidAmount_init_)))
    (i_InvalidAmount_init_ : PySem.W.isFn K (.ref f_InvalidAmount_init_) = true)
    (l_InvalidAmount_init_ : K.lookup f_InvalidAmount_init_ = some ⟨oc_1, od_1, .func (PySem.W.fnOf "__init__" "InvalidAmount.__init__" (defArgs s_InvalidAmount_init_) (defBody s_InvalidAmount_init_) (defScope s_InvalidAmount_init_) .none kV_1 dc_1 pm_1 an_1 cd_1 ct_1), sl_1⟩)
    (k1_InvalidAmount_init_ : PySem.W.codeIn K cd_1 "InvalidAmount.__init__" = true)
    (k2_InvalidAmount_init_ : PySem.W.keepIn K (.ref f_InvalidAmount_init_) = true)
    (a_InvalidOrder_init_ : PySem.W.findIn K (.ref c_InvalidOrder) "__init__" = some (some (.ref f_InvalidOrder_init_)))
    (i_InvalidOrder_init_ : PySem.W.isFn K (.ref f_InvalidOrder_init_) = true)
    (l_InvalidOrder_init_ : K.lookup f_InvalidOrder_init_ = some ⟨oc_2, od_2, .func (PySem.W.fnOf "__init__" "InvalidOrder.__init__" (defArgs s_InvalidOrder_init_) (defBody s_InvalidOrder_init_) (defScope s_InvalidOrder_init_) .none kV_2 dc_2 pm_2 an_2 cd_2 ct_2), sl_2⟩)
    (k1_InvalidOrder_init_ : PySem.W.codeIn K cd_2 "InvalidOrder.__init__" = true)
    (k2_InvalidOrder_init_ : PySem.W.keepIn K (.ref f_InvalidOrder_init_) = true)
    (a_InvalidWord_init_ : PySem.W.findIn K (.ref c_InvalidWord) "__init__" = some (some (.ref f_InvalidWord_init_)))
    (i_InvalidWord_init_ : PySem.W.isFn K (.ref f_InvalidWord_init_) = true)
    (l_InvalidWord_init_ : K.lookup f_InvalidWord_init_ = some ⟨oc_3, od_3, .func (PySem.W.fnOf "__init__" "InvalidWord.__init__" (defArgs s_InvalidWord_init_) (defBody s_InvalidWord_init_) (defScope s_InvalidWord_init_) .none kV_3 dc_3 pm_3 an_3 cd_3 ct_3), sl_3⟩)
    (k1_InvalidWord_init_ : PySem.W.codeIn K cd_3 "InvalidWord.__init__" = true)
    (k2_InvalidWord_init_ : PySem.W.keepIn K (.ref f_InvalidWord_init_) = true)
    (a_InvalidPlace_init_ : PySem.W.findIn K (.ref c_InvalidPlace) "__init__" = some (some (.ref f_InvalidPlace_init_)))
    (i_InvalidPlace_init_ : PySem.W.isFn K (.ref f_InvalidPlace_init_) = true)
    (l_InvalidPlace_init_ : K.lookup f_InvalidPlace_init_ = some ⟨oc_4, od_4, .func (PySem.W.fnOf "__init__" "InvalidPlace.__init__" (defArgs s_InvalidPlace_init_) (defBody s_InvalidPlace_init_) (defScope s_InvalidPlace_init_) .none kV_4 dc_4 pm_4 an_4 cd_4 ct_4), sl_4⟩)
    (k1_InvalidPlace_init_ : PySem.W.codeIn K cd_4 "InvalidPlace.__init__" = true)
    (k2_InvalidPlace_init_ : PySem.W.keepIn K (.ref f_InvalidPlace_init_) = true)
    (a_InvalidClaim_init_ : PySem.W.findIn K (.ref c_InvalidClaim) "__init__" = some (some (.ref f_InvalidClaim_init_)))
    (i_InvalidClaim_init_ : PySem.W.isFn K (.ref f_InvalidClaim_init_) = true)
    (l_InvalidClaim_init_ : K.lookup f_InvalidClaim_init_ = some ⟨oc_5, od_5, .func (PySem.W.fnOf "__init__" "InvalidClaim.__init__" (defArgs s_InvalidClaim_init_) (defBody s_InvalidClaim_init_) (defScope s_InvalidClaim_init_) .none kV_5 dc_5 pm_5 an_5 cd_5 ct_5), sl_5⟩)
    (k1_InvalidClaim_init_ : PySem.W.codeIn K cd_5 "InvalidClaim.__init__" = true)
    (k2_InvalidClaim_init_ : PySem.W.keepIn K (.ref f_InvalidClaim_init_) = true)
    (a_InvalidLine_init_ : PySem.W.findIn K (.ref c_InvalidLine) "__init__" = some (some (.ref f_InvalidLine_init_)))
    (i_InvalidLine_init_ : PySem.W.isFn K (.ref f_InvalidLine_init_) = true)
    (l_InvalidLine_init_ : K.lookup f_InvalidLine_init_ = some ⟨oc_6, od_6, .func (PySem.W.fnOf "__init__" "InvalidLine.__init__" (defArgs s_InvalidLine_init_) (defBody s_InvalidLine_init_) (defScope s_InvalidLine_init_) .none kV_6 dc_6 pm_6 an_6 cd_6 ct_6), sl_6⟩)
    (k1_InvalidLine_init_ : PySem.W.codeIn K cd_6 "InvalidLine.__init__" = true)
    (k2_InvalidLine_init_ : PySem.W.keepIn K (.ref f_InvalidLine_init_) = true)
    (a_UnknownPipe_init_ : PySem.W.findIn K (.ref c_UnknownPipe) "__init__" = some (some (.ref f_UnknownPipe_init_)))
    (i_UnknownPipe_init_ : PySem.W.isFn K (.ref f_UnknownPipe_init_) = true)
    (l_UnknownPipe_init_ : K.lookup f_UnknownPipe_init_ = some ⟨oc_7, od_7, .func (PySem.W.fnOf "__init__" "UnknownPipe.__init__" (defArgs s_UnknownPipe_init_) (defBody s_UnknownPipe_init_) (defScope s_UnknownPipe_init_) .none kV_7 dc_7 pm_7 an_7 cd_7 ct_7), sl_7⟩)
    (k1_UnknownPipe_init_ : PySem.W.codeIn K cd_7 "UnknownPipe.__init__" = true)
    (k2_UnknownPipe_init_ : PySem.W.keepIn K (.ref f_UnknownPipe_init_) = true)
    (a_UnknownNode_init_ : PySem.W.findIn K (.ref c_UnknownNode) "__init__" = some (some (.ref f_UnknownNode_init_)))
    (i_UnknownNode_init_ : PySem.W.isFn K (.ref f_UnknownNode_init_) = true)
    (l_UnknownNode_init_ : K.lookup f_UnknownNode_init_ = some ⟨oc_8, od_8, .func (PySem.W.fnOf "__init__" "UnknownNode.__init__" (defArgs s_UnknownNode_init_) (defBody s_UnknownNode_init_) (defScope s_UnknownNode_init_) .none kV_8 dc_8 pm_8 an_8 cd_8 ct_8), sl_8⟩)
    (k1_UnknownNode_init_ : PySem.W.codeIn K cd_8 "UnknownNode.__init__" = true)
    (k2_UnknownNode_init_ : PySem.W.keepIn K (.ref f_UnknownNode_init_) = true)
    (a_UnknownPole_init_ : PySem.W.findIn K (.ref c_UnknownPole) "__init__" = some (some (.ref f_UnknownPole_init_)))
    (i_UnknownPole_init_ : PySem.W.isFn K (.ref f_UnknownPole_init_) = true)
    (l_UnknownPole_init_ : K.lookup f_UnknownPole_init_ = some ⟨oc_9, od_9, .func (PySem.W.fnOf "__init__" "UnknownPole.__init__" (defArgs s_UnknownPole_init_) (defBody s_UnknownPole_init_) (defScope s_UnknownPole_init_) .none kV_9 dc_9 pm_9 an_9 cd_9 ct_9), sl_9⟩)
    (k1_UnknownPole_init_ : PySem.W.codeIn K cd_9 "UnknownPole.__init__" = true)
    (k2_UnknownPole_init_ : PySem.W.keepIn K (.ref f_UnknownPole_init_) = true)
    (a_UnknownKind_init_ : PySem.W.findIn K (.ref c_UnknownKind) "__init__" = some (some (.ref f_UnknownKind_init_)))
    (i_UnknownKind_init_ : PySem.W.isFn K (.ref f_UnknownKind_init_) = true)
    (l_UnknownKind_init_ : K.lookup f_UnknownKind_init_ = some ⟨oc_10, od_10, .func (PySem.W.fnOf "__init__" "UnknownKind.__init__" (defArgs s_UnknownKind_init_) (defBody s_UnknownKind_init_) (defScope s_UnknownKind_init_) .none kV_10 dc_10 pm_10 an_10 cd_10 ct_10), sl_10⟩)
    (k1_UnknownKind_init_ : PySem.W.codeIn K cd_10 "UnknownKind.__init__" = true)
    (k2_UnknownKind_init_ : PySem.W.keepIn K (.ref f_UnknownKind_init_) = true)
    (a_UnknownReading_init_ : PySem.W.findIn K (.ref c_UnknownReading) "__init__" = some (some (.ref f_UnknownReading_init_)))
    (i_UnknownReading_init_ : PySem.W.isFn K (.ref f_UnknownReading_init_) = true)
    (l_UnknownReading_init_ : K.lookup f_UnknownReading_init_ = some ⟨oc_11, od_11, .func (PySem.W.fnOf "__init__" "UnknownReading.__init__" (defArgs s_UnknownReading_init_) (defBody s_UnknownReading_init_) (defScope s_UnknownReading_init_) .none kV_11 dc_11 pm_11 an_11 cd_11 ct_11), sl_11⟩)
    (k1_UnknownReading_init_ : PySem.W.codeIn K cd_11 "UnknownReading.__init__" = true)
    (k2_UnknownReading_init_ : PySem.W.keepIn K (.ref f_UnknownReading_init_) = true)
    (a_NotSure_init_ : PySem.W.findIn K (.ref c_NotSure) "__init__" = some (some (.ref f_NotSure_init_)))
    (i_NotSure_init_ : PySem.W.isFn K (.ref f_NotSure_init_) = true)
    (l_NotSure_init_ : K.lookup f_NotSure_init_ = some ⟨oc_12, od_12, .func (PySem.W.fnOf "__init__" "NotSure.__init__" (defArgs s_NotSure_init_) (defBody s_NotSure_init_) (defScope s_NotSure_init_) .none kV_12 dc_12 pm_12 an_12 cd_12 ct_12), sl_12⟩)
    (k1_NotSure_init_ : PySem.W.codeIn K cd_12 "NotSure.__init__" = true)
    (k2_NotSure_init_ : PySem.W.keepIn K (.ref f_NotSure_init_) = true)
    (a_InvalidPoints_init_ : PySem.W.findIn K (.ref c_InvalidPoints) "__init__" = some (some (.ref f_InvalidPoints_init_)))
    (i_InvalidPoints_init_ : PySem.W.isFn K (.ref f_InvalidPoints_init_) = true)
    (l_InvalidPoints_init_ : K.lookup f_InvalidPoints_init_ = some ⟨oc_13, od_13, .func (PySem.W.fnOf "__init__" "InvalidPoints.__init__" (defArgs s_InvalidPoints_init_) (defBody s_InvalidPoints_init_) (defScope s_InvalidPoints_init_) .none kV_13 dc_13 pm_13 an_13 cd_13 ct_13), sl_13⟩)
    (k1_InvalidPoints_init_ : PySem.W.codeIn K cd_13 "InvalidPoints.__init__" = true)
    (k2_InvalidPoints_init_ : PySem.W.keepIn K (.ref f_InvalidPoints_init_) = true)
    (a_InvalidLevels_init_ : PySem.W.findIn K (.ref c_InvalidLevels) "__init__" = some (some (.ref f_InvalidLevels_init_)))
    (i_InvalidLevels_init_ : PySem.W.isFn K (.ref f_InvalidLevels_init_) = true)
    (l_InvalidLevels_init_ : K.lookup f_InvalidLevels_init_ = some ⟨oc_14, od_14, .func (PySem.W.fnOf "__init__" "InvalidLevels.__init__" (defArgs s_InvalidLevels_init_) (defBody s_InvalidLevels_init_) (defScope s_InvalidLevels_init_) .none kV_14 dc_14 pm_14 an_14 cd_14 ct_14), sl_14⟩)
    (k1_InvalidLevels_init_ : PySem.W.codeIn K cd_14 "InvalidLevels.__init__" = true)
    (k2_InvalidLevels_init_ : PySem.W.keepIn K (.ref f_InvalidLevels_init_) = true)
    (a_InvalidReading_init_ : PySem.W.findIn K (.ref c_InvalidReading) "__init__" = some (some (.ref f_InvalidReading_init_)))
    (i_InvalidReading_init_ : PySem.W.isFn K (.ref f_InvalidReading_init_) = true)
    (l_InvalidReading_init_ : K.lookup f_InvalidReading_init_ = some ⟨oc_15, od_15, .func (PySem.W.fnOf "__init__" "InvalidReading.__init__" (defArgs s_InvalidReading_init_) (defBody s_InvalidReading_init_) (defScope s_InvalidReading_init_) .none kV_15 dc_15 pm_15 an_15 cd_15 ct_15), sl_15⟩)
    (k1_InvalidReading_init_ : PySem.W.codeIn K cd_15 "InvalidReading.__init__" = true)
    (k2_InvalidReading_init_ : PySem.W.keepIn K (.ref f_InvalidReading_init_) = true)
    (a_InvalidStates_init_ : PySem.W.findIn K (.ref c_InvalidStates) "__init__" = some (some (.ref f_InvalidStates_init_)))
    (i_InvalidStates_init_ : PySem.W.isFn K (.ref f_InvalidStates_init_) = true)
    (l_InvalidStates_init_ : K.lookup f_InvalidStates_init_ = some ⟨oc_16, od_16, .func (PySem.W.fnOf "__init__" "InvalidStates.__init__" (defArgs s_InvalidStates_init_) (defBody s_InvalidStates_init_) (defScope s_InvalidStates_init_) .none kV_16 dc_16 pm_16 an_16 cd_16 ct_16), sl_16⟩)
    (k1_InvalidStates_init_ : PySem.W.codeIn K cd_16 "InvalidStates.__init__" = true)
    (k2_InvalidStates_init_ : PySem.W.keepIn K (.ref f_InvalidStates_init_) = true)
    (a_NotConnected_init_ : PySem.W.findIn K (.ref c_NotConnected) "__init__" = some (some (.ref f_NotConnected_init_)))
    (i_NotConnected_init_ : PySem.W.isFn K (.ref f_NotConnected_init_) = true)
    (l_NotConnected_init_ : K.lookup f_NotConnected_init_ = some ⟨oc_17, od_17, .func (PySem.W.fnOf "__init__" "NotConnected.__init__" (defArgs s_NotConnected_init_) (defBody s_NotConnected_init_) (defScope s_NotConnected_init_) .none kV_17 dc_17 pm_17 an_17 cd_17 ct_17), sl_17⟩)
    (k1_NotConnected_init_ : PySem.W.codeIn K cd_17 "NotConnected.__init__" = true)
    (k2_NotConnected_init_ : PySem.W.keepIn K (.ref f_NotConnected_init_) = true)
    (a_InvalidDemands_init_ : PySem.W.findIn K (.ref c_InvalidDemands) "__init__" = some (some (.ref f_InvalidDemands_init_)))
    (i_InvalidDemands_init_ : PySem.W.isFn K (.ref f_InvalidDemands_init_) = true)
    (l_InvalidDemands_init_ : K.lookup f_InvalidDemands_init_ = some ⟨oc_18, od_18, .func (PySem.W.fnOf "__init__" "InvalidDemands.__init__" (defArgs s_InvalidDemands_init_) (defBody s_InvalidDemands_init_) (defScope s_InvalidDemands_init_) .none kV_18 dc_18 pm_18 an_18 cd_18 ct_18), sl_18⟩)
    (k1_InvalidDemands_init_ : PySem.W.codeIn K cd_18 "InvalidDemands.__init__" = true)
    (k2_InvalidDemands_init_ : PySem.W.keepIn K (.ref f_InvalidDemands_init_) = true)
    (a_InvalidPoles_init_ : PySem.W.findIn K (.ref c_InvalidPoles) "__init__" = some (some (.ref f_InvalidPoles_init_)))
    (i_InvalidPoles_init_ : PySem.W.isFn K (.ref f_InvalidPoles_init_) = true)
    (l_InvalidPoles_init_ : K.lookup f_InvalidPoles_init_ = some ⟨oc_19, od_19, .func (PySem.W.fnOf "__init__" "InvalidPoles.__init__" (defArgs s_InvalidPoles_init_) (defBody s_InvalidPoles_init_) (defScope s_InvalidPoles_init_) .none kV_19 dc_19 pm_19 an_19 cd_19 ct_19), sl_19⟩)
    (k1_InvalidPoles_init_ : PySem.W.codeIn K cd_19 "InvalidPoles.__init__" = true)
    (k2_InvalidPoles_init_ : PySem.W.keepIn K (.ref f_InvalidPoles_init_) = true)
    (a_InvalidHeights_init_ : PySem.W.findIn K (.ref c_InvalidHeights) "__init__" = some (some (.ref f_InvalidHeights_init_)))
    (i_InvalidHeights_init_ : PySem.W.isFn K (.ref f_InvalidHeights_init_) = true)
    (l_InvalidHeights_init_ : K.lookup f_InvalidHeights_init_ = some ⟨oc_20, od_20, .func (PySem.W.fnOf "__init__" "InvalidHeights.__init__" (defArgs s_InvalidHeights_init_) (defBody s_InvalidHeights_init_) (defScope s_InvalidHeights_init_) .none kV_20 dc_20 pm_20 an_20 cd_20 ct_20), sl_20⟩)
    (k1_InvalidHeights_init_ : PySem.W.codeIn K cd_20 "InvalidHeights.__init__" = true)
    (k2_InvalidHeights_init_ : PySem.W.keepIn K (.ref f_InvalidHeights_init_) = true)
    (a_InvalidConductances_init_ : PySem.W.findIn K (.ref c_InvalidConductances) "__init__" = some (some (.ref f_InvalidConductances_init_)))
    (i_InvalidConductances_init_ : PySem.W.isFn K (.ref f_InvalidConductances_init_) = true)
    (l_InvalidConductances_init_ : K.lookup f_InvalidConductances_init_ = some ⟨oc_21, od_21, .func (PySem.W.fnOf "__init__" "InvalidConductances.__init__" (defArgs s_InvalidConductances_init_) (defBody s_InvalidConductances_init_) (defScope s_InvalidConductances_init_) .none kV_21 dc_21 pm_21 an_21 cd_21 ct_21), sl_21⟩)
    (k1_InvalidConductances_init_ : PySem.W.codeIn K cd_21 "InvalidConductances.__init__" = true)
    (k2_InvalidConductances_init_ : PySem.W.keepIn K (.ref f_InvalidConductances_init_) = true)
    (a_InvalidCurves_init_ : PySem.W.findIn K (.ref c_InvalidCurves) "__init__" = some (some (.ref f_InvalidCurves_init_)))
    (i_InvalidCurves_init_ : PySem.W.isFn K (.ref f_InvalidCurves_init_) = true)
    (l_InvalidCurves_init_ : K.lookup f_InvalidCurves_init_ = some ⟨oc_22, od_22, .func (PySem.W.fnOf "__init__" "InvalidCurves.__init__" (defArgs s_InvalidCurves_init_) (defBody s_InvalidCurves_init_) (defScope s_InvalidCurves_init_) .none kV_22 dc_22 pm_22 an_22 cd_22 ct_22), sl_22⟩)
    (k1_InvalidCurves_init_ : PySem.W.codeIn K cd_22 "InvalidCurves.__init__" = true)
    (k2_InvalidCurves_init_ : PySem.W.keepIn K (.ref f_InvalidCurves_init_) = true)
    (a_InvalidFlows_init_ : PySem.W.findIn K (.ref c_InvalidFlows) "__init__" = some (some (.ref f_InvalidFlows_init_)))
    (i_InvalidFlows_init_ : PySem.W.isFn K (.ref f_InvalidFlows_init_) = true)
    (l_InvalidFlows_init_ : K.lookup f_InvalidFlows_init_ = some ⟨oc_23, od_23, .func (PySem.W.fnOf "__init__" "InvalidFlows.__init__" (defArgs s_InvalidFlows_init_) (defBody s_InvalidFlows_init_) (defScope s_InvalidFlows_init_) .none kV_23 dc_23 pm_23 an_23 cd_23 ct_23), sl_23⟩)
    (k1_InvalidFlows_init_ : PySem.W.codeIn K cd_23 "InvalidFlows.__init__" = true)
    (k2_InvalidFlows_init_ : PySem.W.keepIn K (.ref f_InvalidFlows_init_) = true)
    (a_InvalidKinds_init_ : PySem.W.findIn K (.ref c_InvalidKinds) "__init__" = some (some (.ref f_InvalidKinds_init_)))
    (i_InvalidKinds_init_ : PySem.W.isFn K (.ref f_InvalidKinds_init_) = true)
    (l_InvalidKinds_init_ : K.lookup f_InvalidKinds_init_ = some ⟨oc_24, od_24, .func (PySem.W.fnOf "__init__" "InvalidKinds.__init__" (defArgs s_InvalidKinds_init_) (defBody s_InvalidKinds_init_) (defScope s_InvalidKinds_init_) .none kV_24 dc_24 pm_24 an_24 cd_24 ct_24), sl_24⟩)
    (k1_InvalidKinds_init_ : PySem.W.codeIn K cd_24 "InvalidKinds.__init__" = true)
    (k2_InvalidKinds_init_ : PySem.W.keepIn K (.ref f_InvalidKinds_init_) = true)
    (a_IsBridge_init_ : PySem.W.findIn K (.ref c_IsBridge) "__init__" = some (some (.ref f_IsBridge_init_)))
    (i_IsBridge_init_ : PySem.W.isFn K (.ref f_IsBridge_init_) = true)
    (l_IsBridge_init_ : K.lookup f_IsBridge_init_ = some ⟨oc_25, od_25, .func (PySem.W.fnOf "__init__" "IsBridge.__init__" (defArgs s_IsBridge_init_) (defBody s_IsBridge_init_) (defScope s_IsBridge_init_) .none kV_25 dc_25 pm_25 an_25 cd_25 ct_25), sl_25⟩)
    (k1_IsBridge_init_ : PySem.W.codeIn K cd_25 "IsBridge.__init__" = true)
    (k2_IsBridge_init_ : PySem.W.keepIn K (.ref f_IsBridge_init_) = true)
    (a_InvalidPipes_init_ : PySem.W.findIn K (.ref c_InvalidPipes) "__init__" = some (some (.ref f_InvalidPipes_init_)))
    (i_InvalidPipes_init_ : PySem.W.isFn K (.ref f_InvalidPipes_init_) = true)
    (l_InvalidPipes_init_ : K.lookup f_InvalidPipes_init_ = some ⟨oc_26, od_26, .func (PySem.W.fnOf "__init__" "InvalidPipes.__init__" (defArgs s_InvalidPipes_init_) (defBody s_InvalidPipes_init_) (defScope s_InvalidPipes_init_) .none kV_26 dc_26 pm_26 an_26 cd_26 ct_26), sl_26⟩)
    (k1_InvalidPipes_init_ : PySem.W.codeIn K cd_26 "InvalidPipes.__init__" = true)
    (k2_InvalidPipes_init_ : PySem.W.keepIn K (.ref f_InvalidPipes_init_) = true)
    (a_Unbalanced_init_ : PySem.W.findIn K (.ref c_Unbalanced) "__init__" = some (some (.ref f_Unbalanced_init_)))
    (i_Unbalanced_init_ : PySem.W.isFn K (.ref f_Unbalanced_init_) = true)
    (l_Unbalanced_init_ : K.lookup f_Unbalanced_init_ = some ⟨oc_27, od_27, .func (PySem.W.fnOf "__init__" "Unbalanced.__init__" (defArgs s_Unbalanced_init_) (defBody s_Unbalanced_init_) (defScope s_Unbalanced_init_) .none kV_27 dc_27 pm_27 an_27 cd_27 ct_27), sl_27⟩)
    (k1_Unbalanced_init_ : PySem.W.codeIn K cd_27 "Unbalanced.__init__" = true)
    (k2_Unbalanced_init_ : PySem.W.keepIn K (.ref f_Unbalanced_init_) = true)
    (a_InvalidText_init_ : PySem.W.findIn K (.ref c_InvalidText) "__init__" = some (some (.ref f_InvalidText_init_)))
    (i_InvalidText_init_ : PySem.W.isFn K (.ref f_InvalidText_init_) = true)
    (l_InvalidText_init_ : K.lookup f_InvalidText_init_ = some ⟨oc_28, od_28, .func (PySem.W.fnOf "__init__" "InvalidText.__init__" (defArgs s_InvalidText_init_) (defBody s_InvalidText_init_) (defScope s_InvalidText_init_) .none kV_28 dc_28 pm_28 an_28 cd_28 ct_28), sl_28⟩)
    (k1_InvalidText_init_ : PySem.W.codeIn K cd_28 "InvalidText.__init__" = true)
    (k2_InvalidText_init_ : PySem.W.keepIn K (.ref f_InvalidText_init_) = true)
    (a_TooMany_init_ : PySem.W.findIn K (.ref c_TooMany) "__init__" = some (some (.ref f_TooMany_init_)))
    (i_TooMany_init_ : PySem.W.isFn K (.ref f_TooMany_init_) = true)
    (l_TooMany_init_ : K.lookup f_TooMany_init_ = some ⟨oc_29, od_29, .func (PySem.W.fnOf "__init__" "TooMany.__init__" (defArgs s_TooMany_init_) (defBody s_TooMany_init_) (defScope s_TooMany_init_) .none kV_29 dc_29 pm_29 an_29 cd_29 ct_29), sl_29⟩)
    (k1_TooMany_init_ : PySem.W.codeIn K cd_29 "TooMany.__init__" = true)
    (k2_TooMany_init_ : PySem.W.keepIn K (.ref f_TooMany_init_) = true)
    (a_Barred_init_ : PySem.W.findIn K (.ref c_Barred) "__init__" = some (some (.ref f_Barred_init_)))
    (i_Barred_init_ : PySem.W.isFn K (.ref f_Barred_init_) = true)
    (l_Barred_init_ : K.lookup f_Barred_init_ = some ⟨oc_30, od_30, .func (PySem.W.fnOf "__init__" "Barred.__init__" (defArgs s_Barred_init_) (defBody s_Barred_init_) (defScope s_Barred_init_) .none kV_30 dc_30 pm_30 an_30 cd_30 ct_30), sl_30⟩)
    (k1_Barred_init_ : PySem.W.codeIn K cd_30 "Barred.__init__" = true)
    (k2_Barred_init_ : PySem.W.keepIn K (.ref f_Barred_init_) = true)
    (a_NothingToUndo_init_ : PySem.W.findIn K (.ref c_NothingToUndo) "__init__" = some (some (.ref f_NothingToUndo_init_)))
    (i_NothingToUndo_init_ : PySem.W.isFn K (.ref f_NothingToUndo_init_) = true)
    (l_NothingToUndo_init_ : K.lookup f_NothingToUndo_init_ = some ⟨oc_31, od_31, .func (PySem.W.fnOf "__init__" "NothingToUndo.__init__" (defArgs s_NothingToUndo_init_) (defBody s_NothingToUndo_init_) (defScope s_NothingToUndo_init_) .none kV_31 dc_31 pm_31 an_31 cd_31 ct_31), sl_31⟩)
    (k1_NothingToUndo_init_ : PySem.W.codeIn K cd_31 "NothingToUndo.__init__" = true)
    (k2_NothingToUndo_init_ : PySem.W.keepIn K (.ref f_NothingToUndo_init_) = true)
    (a_is_integer : PySem.W.nsIn K mainGlobals "is_integer" = some (some (.ref f_is_integer)))
    (l_is_integer : K.lookup f_is_integer = some ⟨oc_32, od_32, .func (PySem.W.fnOf "is_integer" "is_integer" (defArgs s_is_integer) (defBody s_is_integer) (defScope s_is_integer) .none kV_32 dc_32 pm_32 an_32 cd_32 ct_32), sl_32⟩)
    (k1_is_integer : PySem.W.codeIn K cd_32 "is_integer" = true)
    (k2_is_integer : PySem.W.keepIn K (.ref f_is_integer) = true)
    (a_amount_of : PySem.W.nsIn K mainGlobals "amount_of" = some (some (.ref f_amount_of)))
    (l_amount_of : K.lookup f_amount_of = some ⟨oc_33, od_33, .func (PySem.W.fnOf "amount_of" "amount_of" (defArgs s_amount_of) (defBody s_amount_of) (defScope s_amount_of) .none kV_33 dc_33 pm_33 an_33 cd_33 ct_33), sl_33⟩)
    (k1_amount_of : PySem.W.codeIn K cd_33 "amount_of" = true)
    (k2_amount_of : PySem.W.keepIn K (.ref f_amount_of) = true)
    (a_Amount_init_ : PySem.W.findIn K (.ref c_Amount) "__init__" = some (some (.ref f_Amount_init_)))
    (i_Amount_init_ : PySem.W.isFn K (.ref f_Amount_init_) = true)
    (l_Amount_init_ : K.lookup f_Amount_init_ = some ⟨oc_34, od_34, .func (PySem.W.fnOf "__init__" "Amount.__init__" (defArgs s_Amount_init_) (defBody s_Amount_init_) (defScope s_Amount_init_) (.ref T_34) kV_34 dc_34 pm_34 an_34 cd_34 ct_34), sl_34⟩)
    (k1_Amount_init_ : PySem.W.codeIn K cd_34 "Amount.__init__" = true)
    (k2_Amount_init_ : PySem.W.keepIn K (.ref f_Amount_init_) = true)
    (dl_Amount_init_ : K.lookup T_34 = some o_34)
    (do_Amount_init_ : o_34.data = .seq its_34.toArray dn_34)
    (dv_Amount_init_ : Vals [.int 1] its_34)
    (a_Amount_eq_ : PySem.W.findIn K (.ref c_Amount) "__eq__" = some (some (.ref f_Amount_eq_)))
    (i_Amount_eq_ : PySem.W.isFn K (.ref f_Amount_eq_) = true)
    (l_Amount_eq_ : K.lookup f_Amount_eq_ = some ⟨oc_35, od_35, .func (PySem.W.fnOf "__eq__" "Amount.__eq__" (defArgs s_Amount_eq_) (defBody s_Amount_eq_) (defScope s_Amount_eq_) .none kV_35 dc_35 pm_35 an_35 cd_35 ct_35), sl_35⟩)
    (k1_Amount_eq_ : PySem.W.codeIn K cd_35 "Amount.__eq__" = true)
    (k2_Amount_eq_ : PySem.W.keepIn K (.ref f_Amount_eq_) = true)
    (a_pot : PySem.W.nsIn K mainGlobals "_law_pot" = some (some (.ref f_pot)))
    (l_pot : K.lookup f_pot = some ⟨oc_36, od_36, .func (PySem.W.fnOf "_law_pot" "_law_pot" (defArgs s_pot) (defBody s_pot) (defScope s_pot) .none kV_36 dc_36 pm_36 an_36 cd_36 ct_36), sl_36⟩)
    (k1_pot : PySem.W.codeIn K cd_36 "_law_pot" = true)
    (k2_pot : PySem.W.keepIn K (.ref f_pot) = true)
    (a_draw : PySem.W.nsIn K mainGlobals "_law_draw" = some (some (.ref f_draw)))
    (l_draw : K.lookup f_draw = some ⟨oc_37, od_37, .func (PySem.W.fnOf "_law_draw" "_law_draw" (defArgs s_draw) (defBody s_draw) (defScope s_draw) .none kV_37 dc_37 pm_37 an_37 cd_37 ct_37), sl_37⟩)
    (k1_draw : PySem.W.codeIn K cd_37 "_law_draw" = true)
    (k2_draw : PySem.W.keepIn K (.ref f_draw) = true)
    (a_choice : PySem.W.nsIn K mainGlobals "_law_choice" = some (some (.ref f_choice)))
    (l_choice : K.lookup f_choice = some ⟨oc_38, od_38, .func (PySem.W.fnOf "_law_choice" "_law_choice" (defArgs s_choice) (defBody s_choice) (defScope s_choice) .none kV_38 dc_38 pm_38 an_38 cd_38 ct_38), sl_38⟩)
    (k1_choice : PySem.W.codeIn K cd_38 "_law_choice" = true)
    (k2_choice : PySem.W.keepIn K (.ref f_choice) = true)
    (a_parts : PySem.W.nsIn K mainGlobals "_law_parts" = some (some (.ref f_parts)))
    (l_parts : K.lookup f_parts = some ⟨oc_39, od_39, .func (PySem.W.fnOf "_law_parts" "_law_parts" (defArgs s_parts) (defBody s_parts) (defScope s_parts) .none kV_39 dc_39 pm_39 an_39 cd_39 ct_39), sl_39⟩)
    (k1_parts : PySem.W.codeIn K cd_39 "_law_parts" = true)
    (k2_parts : PySem.W.keepIn K (.ref f_parts) = true)
    (a_with_value : PySem.W.nsIn K mainGlobals "_law_with_value" = some (some (.ref f_with_value)))
    (l_with_value : K.lookup f_with_value = some ⟨oc_40, od_40, .func (PySem.W.fnOf "_law_with_value" "_law_with_value" (defArgs s_with_value) (defBody s_with_value) (defScope s_with_value) .none kV_40 dc_40 pm_40 an_40 cd_40 ct_40), sl_40⟩)
    (k1_with_value : PySem.W.codeIn K cd_40 "_law_with_value" = true)
    (k2_with_value : PySem.W.keepIn K (.ref f_with_value) = true)
    (a_with_position : PySem.W.nsIn K mainGlobals "_law_with_position" = some (some (.ref f_with_position)))
    (l_with_position : K.lookup f_with_position = some ⟨oc_41, od_41, .func (PySem.W.fnOf "_law_with_position" "_law_with_position" (defArgs s_with_position) (defBody s_with_position) (defScope s_with_position) .none kV_41 dc_41 pm_41 an_41 cd_41 ct_41), sl_41⟩)
    (k1_with_position : PySem.W.codeIn K cd_41 "_law_with_position" = true)
    (k2_with_position : PySem.W.keepIn K (.ref f_with_position) = true)
    (a_with_node : PySem.W.nsIn K mainGlobals "_law_with_node" = some (some (.ref f_with_node)))
    (l_with_node : K.lookup f_with_node = some ⟨oc_42, od_42, .func (PySem.W.fnOf "_law_with_node" "_law_with_node" (defArgs s_with_node) (defBody s_with_node) (defScope s_with_node) .none kV_42 dc_42 pm_42 an_42 cd_42 ct_42), sl_42⟩)
    (k1_with_node : PySem.W.codeIn K cd_42 "_law_with_node" = true)
    (k2_with_node : PySem.W.keepIn K (.ref f_with_node) = true)
    (a_with_pipe : PySem.W.nsIn K mainGlobals "_law_with_pipe" = some (some (.ref f_with_pipe)))
    (l_with_pipe : K.lookup f_with_pipe = some ⟨oc_43, od_43, .func (PySem.W.fnOf "_law_with_pipe" "_law_with_pipe" (defArgs s_with_pipe) (defBody s_with_pipe) (defScope s_with_pipe) .none kV_43 dc_43 pm_43 an_43 cd_43 ct_43), sl_43⟩)
    (k1_with_pipe : PySem.W.codeIn K cd_43 "_law_with_pipe" = true)
    (k2_with_pipe : PySem.W.keepIn K (.ref f_with_pipe) = true)
    (a_others : PySem.W.nsIn K mainGlobals "_law_others" = some (some (.ref f_others)))
    (l_others : K.lookup f_others = some ⟨oc_44, od_44, .func (PySem.W.fnOf "_law_others" "_law_others" (defArgs s_others) (defBody s_others) (defScope s_others) .none kV_44 dc_44 pm_44 an_44 cd_44 ct_44), sl_44⟩)
    (k1_others : PySem.W.codeIn K cd_44 "_law_others" = true)
    (k2_others : PySem.W.keepIn K (.ref f_others) = true)
    (a_row : PySem.W.nsIn K mainGlobals "_law_row" = some (some (.ref f_row)))
    (l_row : K.lookup f_row = some ⟨oc_45, od_45, .func (PySem.W.fnOf "_law_row" "_law_row" (defArgs s_row) (defBody s_row) (defScope s_row) .none kV_45 dc_45 pm_45 an_45 cd_45 ct_45), sl_45⟩)
    (k1_row : PySem.W.codeIn K cd_45 "_law_row" = true)
    (k2_row : PySem.W.keepIn K (.ref f_row) = true)
    (a_marks : PySem.W.nsIn K mainGlobals "_law_marks" = some (some (.ref f_marks)))
    (l_marks : K.lookup f_marks = some ⟨oc_46, od_46, .func (PySem.W.fnOf "_law_marks" "_law_marks" (defArgs s_marks) (defBody s_marks) (defScope s_marks) .none kV_46 dc_46 pm_46 an_46 cd_46 ct_46), sl_46⟩)
    (k1_marks : PySem.W.codeIn K cd_46 "_law_marks" = true)
    (k2_marks : PySem.W.keepIn K (.ref f_marks) = true)
    (a_above_right : PySem.W.nsIn K mainGlobals "_law_above_right" = some (some (.ref f_above_right)))
    (l_above_right : K.lookup f_above_right = some ⟨oc_47, od_47, .func (PySem.W.fnOf "_law_above_right" "_law_above_right" (defArgs s_above_right) (defBody s_above_right) (defScope s_above_right) .none kV_47 dc_47 pm_47 an_47 cd_47 ct_47), sl_47⟩)
    (k1_above_right : PySem.W.codeIn K cd_47 "_law_above_right" = true)
    (k2_above_right : PySem.W.keepIn K (.ref f_above_right) = true)
    (a_parts_right : PySem.W.nsIn K mainGlobals "_law_parts_right" = some (some (.ref f_parts_right)))
    (l_parts_right : K.lookup f_parts_right = some ⟨oc_48, od_48, .func (PySem.W.fnOf "_law_parts_right" "_law_parts_right" (defArgs s_parts_right) (defBody s_parts_right) (defScope s_parts_right) .none kV_48 dc_48 pm_48 an_48 cd_48 ct_48), sl_48⟩)
    (k1_parts_right : PySem.W.codeIn K cd_48 "_law_parts_right" = true)
    (k2_parts_right : PySem.W.keepIn K (.ref f_parts_right) = true)
    (a_caught : PySem.W.nsIn K mainGlobals "_law_caught" = some (some (.ref f_caught)))
    (l_caught : K.lookup f_caught = some ⟨oc_49, od_49, .func (PySem.W.fnOf "_law_caught" "_law_caught" (defArgs s_caught) (defBody s_caught) (defScope s_caught) .none kV_49 dc_49 pm_49 an_49 cd_49 ct_49), sl_49⟩)
    (k1_caught : PySem.W.codeIn K cd_49 "_law_caught" = true)
    (k2_caught : PySem.W.keepIn K (.ref f_caught) = true)
    (a_raised : PySem.W.nsIn K mainGlobals "_law_raised" = some (some (.ref f_raised)))
    (l_raised : K.lookup f_raised = some ⟨oc_50, od_50, .func (PySem.W.fnOf "_law_raised" "_law_raised" (defArgs s_raised) (defBody s_raised) (defScope s_raised) .none kV_50 dc_50 pm_50 an_50 cd_50 ct_50), sl_50⟩)
    (k1_raised : PySem.W.codeIn K cd_50 "_law_raised" = true)
    (k2_raised : PySem.W.keepIn K (.ref f_raised) = true)
    (a_right : PySem.W.nsIn K mainGlobals "_law_right" = some (some (.ref f_right)))
    (l_right : K.lookup f_right = some ⟨oc_51, od_51, .func (PySem.W.fnOf "_law_right" "_law_right" (defArgs s_right) (defBody s_right) (defScope s_right) .none kV_51 dc_51 pm_51 an_51 (.ref cc_right) ct_51), sl_51⟩)
    (k1_right : PySem.W.codeIn K (.ref cc_right) "_law_right" = true)
    (k2_right : PySem.W.keepIn K (.ref f_right) = true)
    (a_law : PySem.W.nsIn K mainGlobals "law" = some (some (.ref f_law)))
    (l_law : K.lookup f_law = some ⟨oc_52, od_52, .func (PySem.W.fnOf "law" "law" (defArgs s_law) (defBody s_law) (defScope s_law) .none kV_52 dc_52 pm_52 an_52 cd_52 ct_52), sl_52⟩)
    (k1_law : PySem.W.codeIn K cd_52 "law" = true)
    (k2_law : PySem.W.keepIn K (.ref f_law) = true)
    (pgA : PySem.W.plainGet K c_Amount Str.empty = true)
    (hdA : PySem.W.hasDictIn K c_Amount = true)
    (poA : PySem.W.plainOver K c_Amount = true)
    (saA : PySem.W.findIn K (.ref c_Amount) "__setattr__" = some (some (.builtin "object.__setattr__")))
    (nTA : PySem.W.findIn K (.ref c_Amount) "_top" = some none)
    (nBA : PySem.W.findIn K (.ref c_Amount) "_bottom" = some none)
    (mkA_ : PySem.W.makesIn K c_Amount = true)
    (kcA : PySem.W.keepIn K (.ref c_Amount) = true)
    (gcd_ : PySem.W.nsIn K mainGlobals "gcd" = some (some (.builtin "math.gcd")))
    (ca_ : PySem.W.findIn K (.ref c_Amount) "__class__" = some (some (.builtin "object.__class__")))
    (cn_ : PySem.W.specialIn K (.builtin "object.__class__") "__get__" = some (some (.builtin "getset_descriptor.__get__")))
    (ct_ : PySem.W.takesIn K (.builtin "object.__class__") = some true)
    (cm_ : PySem.W.mroIn K c_Amount (.type "object") = some true)
    (ic_ : PySem.W.isClsIn K c_Amount = true)
    (it_ : PySem.W.typeIn K (.ref c_Amount) = some (.type "type"))
    (sb_NoneType : PySem.W.subIn K (.type "NoneType") (.ref c_Amount) = some false)
    (sb_bool : PySem.W.subIn K (.type "bool") (.ref c_Amount) = some false)
    (sb_int : PySem.W.subIn K (.type "int") (.ref c_Amount) = some false)
    (sb_str : PySem.W.subIn K (.type "str") (.ref c_Amount) = some false)
    (sb_list : PySem.W.subIn K (.type "list") (.ref c_Amount) = some false)
    (sb_tuple : PySem.W.subIn K (.type "tuple") (.ref c_Amount) = some false)
    (sb_dict : PySem.W.subIn K (.type "dict") (.ref c_Amount) = some false)
    (sI_ : PySem.W.subIn K (.ref c_Amount) (.type "int") = some false)
    (xL_InvalidInteger : K.lookup c_InvalidInteger = some (excClassObj nm_InvalidInteger qn_InvalidInteger c_InvalidInteger N_InvalidInteger bs_InvalidInteger [.ref c_PipeError, .type "ValueError", .type "Exception", .type "BaseException", .type "object"] true sn_InvalidInteger su_InvalidInteger ab_InvalidInteger co_InvalidInteger dd_InvalidInteger m0_InvalidInteger m1_InvalidInteger m2_InvalidInteger m3_InvalidInteger m5_InvalidInteger "ValueError.__new__"))
    (xsa_InvalidInteger : PySem.W.findIn K (.ref c_InvalidInteger) "__setattr__" = some (some (.builtin "object.__setattr__")))
    (xkC_InvalidInteger : PySem.W.keepIn K (.ref c_InvalidInteger) = true)
    (xga_InvalidInteger : PySem.W.findIn K (.ref c_InvalidInteger) "__getattribute__" = some (some (.builtin "BaseException.__getattribute__")))
    (xgg_InvalidInteger : PySem.W.findIn K (.ref c_InvalidInteger) "__getattr__" = some none)
    (xca_InvalidInteger : PySem.W.findIn K (.ref c_InvalidInteger) "__class__" = some (some (.builtin "object.__class__")))
    (xnInvalidInteger : PySem.W.findIn K (.ref c_InvalidInteger) "value" = some none)
    (xL_InvalidAmount : K.lookup c_InvalidAmount = some (excClassObj nm_InvalidAmount qn_InvalidAmount c_InvalidAmount N_InvalidAmount bs_InvalidAmount [.ref c_PipeError, .type "ValueError", .type "Exception", .type "BaseException", .type "object"] true sn_InvalidAmount su_InvalidAmount ab_InvalidAmount co_InvalidAmount dd_InvalidAmount m0_InvalidAmount m1_InvalidAmount m2_InvalidAmount m3_InvalidAmount m5_InvalidAmount "ValueError.__new__"))
    (xsa_InvalidAmount : PySem.W.findIn K (.ref c_InvalidAmount) "__setattr__" = some (some (.builtin "object.__setattr__")))
    (xkC_InvalidAmount : PySem.W.keepIn K (.ref c_InvalidAmount) = true)
    (xga_InvalidAmount : PySem.W.findIn K (.ref c_InvalidAmount) "__getattribute__" = some (some (.builtin "BaseException.__getattribute__")))
    (xgg_InvalidAmount : PySem.W.findIn K (.ref c_InvalidAmount) "__getattr__" = some none)
    (xca_InvalidAmount : PySem.W.findIn K (.ref c_InvalidAmount) "__class__" = some (some (.builtin "object.__class__")))
    (xnInvalidAmount : PySem.W.findIn K (.ref c_InvalidAmount) "value" = some none)
    (xL_InvalidOrder : K.lookup c_InvalidOrder = some (excClassObj nm_InvalidOrder qn_InvalidOrder c_InvalidOrder N_InvalidOrder bs_InvalidOrder [.ref c_PipeError, .type "ValueError", .type "Exception", .type "BaseException", .type "object"] true sn_InvalidOrder su_InvalidOrder ab_InvalidOrder co_InvalidOrder dd_InvalidOrder m0_InvalidOrder m1_InvalidOrder m2_InvalidOrder m3_InvalidOrder m5_InvalidOrder "ValueError.__new__"))
    (xsa_InvalidOrder : PySem.W.findIn K (.ref c_InvalidOrder) "__setattr__" = some (some (.builtin "object.__setattr__")))
    (xkC_InvalidOrder : PySem.W.keepIn K (.ref c_InvalidOrder) = true)
    (xga_InvalidOrder : PySem.W.findIn K (.ref c_InvalidOrder) "__getattribute__" = some (some (.builtin "BaseException.__getattribute__")))
    (xgg_InvalidOrder : PySem.W.findIn K (.ref c_InvalidOrder) "__getattr__" = some none)
    (xca_InvalidOrder : PySem.W.findIn K (.ref c_InvalidOrder) "__class__" = some (some (.builtin "object.__class__")))
    (xnInvalidOrder : PySem.W.findIn K (.ref c_InvalidOrder) "value" = some none)
    (xL_InvalidWord : K.lookup c_InvalidWord = some (excClassObj nm_InvalidWord qn_InvalidWord c_InvalidWord N_InvalidWord bs_InvalidWord [.ref c_PipeError, .type "ValueError", .type "Exception", .type "BaseException", .type "object"] true sn_InvalidWord su_InvalidWord ab_InvalidWord co_InvalidWord dd_InvalidWord m0_InvalidWord m1_InvalidWord m2_InvalidWord m3_InvalidWord m5_InvalidWord "ValueError.__new__"))
    (xsa_InvalidWord : PySem.W.findIn K (.ref c_InvalidWord) "__setattr__" = some (some (.builtin "object.__setattr__")))
    (xkC_InvalidWord : PySem.W.keepIn K (.ref c_InvalidWord) = true)
    (xga_InvalidWord : PySem.W.findIn K (.ref c_InvalidWord) "__getattribute__" = some (some (.builtin "BaseException.__getattribute__")))
    (xgg_InvalidWord : PySem.W.findIn K (.ref c_InvalidWord) "__getattr__" = some none)
    (xca_InvalidWord : PySem.W.findIn K (.ref c_InvalidWord) "__class__" = some (some (.builtin "object.__class__")))
    (xnInvalidWord : PySem.W.findIn K (.ref c_InvalidWord) "value" = some none)
    (xL_InvalidPlace : K.lookup c_InvalidPlace = some (excClassObj nm_InvalidPlace qn_InvalidPlace c_InvalidPlace N_InvalidPlace bs_InvalidPlace [.ref c_PipeError, .type "ValueError", .type "Exception", .type "BaseException", .type "object"] true sn_InvalidPlace su_InvalidPlace ab_InvalidPlace co_InvalidPlace dd_InvalidPlace m0_InvalidPlace m1_InvalidPlace m2_InvalidPlace m3_InvalidPlace m5_InvalidPlace "ValueError.__new__"))
    (xsa_InvalidPlace : PySem.W.findIn K (.ref c_InvalidPlace) "__setattr__" = some (some (.builtin "object.__setattr__")))
    (xkC_InvalidPlace : PySem.W.keepIn K (.ref c_InvalidPlace) = true)
    (xga_InvalidPlace : PySem.W.findIn K (.ref c_InvalidPlace) "__getattribute__" = some (some (.builtin "BaseException.__getattribute__")))
    (xgg_InvalidPlace : PySem.W.findIn K (.ref c_InvalidPlace) "__getattr__" = some none)
    (xca_InvalidPlace : PySem.W.findIn K (.ref c_InvalidPlace) "__class__" = some (some (.builtin "object.__class__")))
    (xnInvalidPlace : PySem.W.findIn K (.ref c_InvalidPlace) "value" = some none)
    (xL_InvalidClaim : K.lookup c_InvalidClaim = some (excClassObj nm_InvalidClaim qn_InvalidClaim c_InvalidClaim N_InvalidClaim bs_InvalidClaim [.ref c_PipeError, .type "ValueError", .type "Exception", .type "BaseException", .type "object"] true sn_InvalidClaim su_InvalidClaim ab_InvalidClaim co_InvalidClaim dd_InvalidClaim m0_InvalidClaim m1_InvalidClaim m2_InvalidClaim m3_InvalidClaim m5_InvalidClaim "ValueError.__new__"))
    (xsa_InvalidClaim : PySem.W.findIn K (.ref c_InvalidClaim) "__setattr__" = some (some (.builtin "object.__setattr__")))
    (xkC_InvalidClaim : PySem.W.keepIn K (.ref c_InvalidClaim) = true)
    (xga_InvalidClaim : PySem.W.findIn K (.ref c_InvalidClaim) "__getattribute__" = some (some (.builtin "BaseException.__getattribute__")))
    (xgg_InvalidClaim : PySem.W.findIn K (.ref c_InvalidClaim) "__getattr__" = some none)
    (xca_InvalidClaim : PySem.W.findIn K (.ref c_InvalidClaim) "__class__" = some (some (.builtin "object.__class__")))
    (xnInvalidClaim : PySem.W.findIn K (.ref c_InvalidClaim) "value" = some none)
    (xL_InvalidLine : K.lookup c_InvalidLine = some (excClassObj nm_InvalidLine qn_InvalidLine c_InvalidLine N_InvalidLine bs_InvalidLine [.ref c_PipeError, .type "ValueError", .type "Exception", .type "BaseException", .type "object"] true sn_InvalidLine su_InvalidLine ab_InvalidLine co_InvalidLine dd_InvalidLine m0_InvalidLine m1_InvalidLine m2_InvalidLine m3_InvalidLine m5_InvalidLine "ValueError.__new__"))
    (xsa_InvalidLine : PySem.W.findIn K (.ref c_InvalidLine) "__setattr__" = some (some (.builtin "object.__setattr__")))
    (xkC_InvalidLine : PySem.W.keepIn K (.ref c_InvalidLine) = true)
    (xga_InvalidLine : PySem.W.findIn K (.ref c_InvalidLine) "__getattribute__" = some (some (.builtin "BaseException.__getattribute__")))
    (xgg_InvalidLine : PySem.W.findIn K (.ref c_InvalidLine) "__getattr__" = some none)
    (xca_InvalidLine : PySem.W.findIn K (.ref c_InvalidLine) "__class__" = some (some (.builtin "object.__class__")))
    (xnInvalidLine : PySem.W.findIn K (.ref c_InvalidLine) "value" = some none)
    (xL_UnknownPipe : K.lookup c_UnknownPipe = some (excClassObj nm_UnknownPipe qn_UnknownPipe c_UnknownPipe N_UnknownPipe bs_UnknownPipe [.ref c_MissingError, .type "LookupError", .type "Exception", .type "BaseException", .type "object"] true sn_UnknownPipe su_UnknownPipe ab_UnknownPipe co_UnknownPipe dd_UnknownPipe m0_UnknownPipe m1_UnknownPipe m2_UnknownPipe m3_UnknownPipe m5_UnknownPipe "LookupError.__new__"))
    (xsa_UnknownPipe : PySem.W.findIn K (.ref c_UnknownPipe) "__setattr__" = some (some (.builtin "object.__setattr__")))
    (xkC_UnknownPipe : PySem.W.keepIn K (.ref c_UnknownPipe) = true)
    (xga_UnknownPipe : PySem.W.findIn K (.ref c_UnknownPipe) "__getattribute__" = some (some (.builtin "BaseException.__getattribute__")))
    (xgg_UnknownPipe : PySem.W.findIn K (.ref c_UnknownPipe) "__getattr__" = some none)
    (xca_UnknownPipe : PySem.W.findIn K (.ref c_UnknownPipe) "__class__" = some (some (.builtin "object.__class__")))
    (xnUnknownPipe : PySem.W.findIn K (.ref c_UnknownPipe) "value" = some none)
    (xL_UnknownNode : K.lookup c_UnknownNode = some (excClassObj nm_UnknownNode qn_UnknownNode c_UnknownNode N_UnknownNode bs_UnknownNode [.ref c_MissingError, .type "LookupError", .type "Exception", .type "BaseException", .type "object"] true sn_UnknownNode su_UnknownNode ab_UnknownNode co_UnknownNode dd_UnknownNode m0_UnknownNode m1_UnknownNode m2_UnknownNode m3_UnknownNode m5_UnknownNode "LookupError.__new__"))
    (xsa_UnknownNode : PySem.W.findIn K (.ref c_UnknownNode) "__setattr__" = some (some (.builtin "object.__setattr__")))
    (xkC_UnknownNode : PySem.W.keepIn K (.ref c_UnknownNode) = true)
    (xga_UnknownNode : PySem.W.findIn K (.ref c_UnknownNode) "__getattribute__" = some (some (.builtin "BaseException.__getattribute__")))
    (xgg_UnknownNode : PySem.W.findIn K (.ref c_UnknownNode) "__getattr__" = some none)
    (xca_UnknownNode : PySem.W.findIn K (.ref c_UnknownNode) "__class__" = some (some (.builtin "object.__class__")))
    (xnUnknownNode : PySem.W.findIn K (.ref c_UnknownNode) "value" = some none)
    (xL_UnknownPole : K.lookup c_UnknownPole = some (excClassObj nm_UnknownPole qn_UnknownPole c_UnknownPole N_UnknownPole bs_UnknownPole [.ref c_MissingError, .type "LookupError", .type "Exception", .type "BaseException", .type "object"] true sn_UnknownPole su_UnknownPole ab_UnknownPole co_UnknownPole dd_UnknownPole m0_UnknownPole m1_UnknownPole m2_UnknownPole m3_UnknownPole m5_UnknownPole "LookupError.__new__"))
    (xsa_UnknownPole : PySem.W.findIn K (.ref c_UnknownPole) "__setattr__" = some (some (.builtin "object.__setattr__")))
    (xkC_UnknownPole : PySem.W.keepIn K (.ref c_UnknownPole) = true)
    (xga_UnknownPole : PySem.W.findIn K (.ref c_UnknownPole) "__getattribute__" = some (some (.builtin "BaseException.__getattribute__")))
    (xgg_UnknownPole : PySem.W.findIn K (.ref c_UnknownPole) "__getattr__" = some none)
    (xca_UnknownPole : PySem.W.findIn K (.ref c_UnknownPole) "__class__" = some (some (.builtin "object.__class__")))
    (xnUnknownPole : PySem.W.findIn K (.ref c_UnknownPole) "value" = some none)
    (xL_UnknownKind : K.lookup c_UnknownKind = some (excClassObj nm_UnknownKind qn_UnknownKind c_UnknownKind N_UnknownKind bs_UnknownKind [.ref c_MissingError, .type "LookupError", .type "Exception", .type "BaseException", .type "object"] true sn_UnknownKind su_UnknownKind ab_UnknownKind co_UnknownKind dd_UnknownKind m0_UnknownKind m1_UnknownKind m2_UnknownKind m3_UnknownKind m5_UnknownKind "LookupError.__new__"))
    (xsa_UnknownKind : PySem.W.findIn K (.ref c_UnknownKind) "__setattr__" = some (some (.builtin "object.__setattr__")))
    (xkC_UnknownKind : PySem.W.keepIn K (.ref c_UnknownKind) = true)
    (xga_UnknownKind : PySem.W.findIn K (.ref c_UnknownKind) "__getattribute__" = some (some (.builtin "BaseException.__getattribute__")))
    (xgg_UnknownKind : PySem.W.findIn K (.ref c_UnknownKind) "__getattr__" = some none)
    (xca_UnknownKind : PySem.W.findIn K (.ref c_UnknownKind) "__class__" = some (some (.builtin "object.__class__")))
    (xnUnknownKind : PySem.W.findIn K (.ref c_UnknownKind) "value" = some none)
    (xL_UnknownReading : K.lookup c_UnknownReading = some (excClassObj nm_UnknownReading qn_UnknownReading c_UnknownReading N_UnknownReading bs_UnknownReading [.ref c_MissingError, .type "LookupError", .type "Exception", .type "BaseException", .type "object"] true sn_UnknownReading su_UnknownReading ab_UnknownReading co_UnknownReading dd_UnknownReading m0_UnknownReading m1_UnknownReading m2_UnknownReading m3_UnknownReading m5_UnknownReading "LookupError.__new__"))
    (xsa_UnknownReading : PySem.W.findIn K (.ref c_UnknownReading) "__setattr__" = some (some (.builtin "object.__setattr__")))
    (xkC_UnknownReading : PySem.W.keepIn K (.ref c_UnknownReading) = true)
    (xga_UnknownReading : PySem.W.findIn K (.ref c_UnknownReading) "__getattribute__" = some (some (.builtin "BaseException.__getattribute__")))
    (xgg_UnknownReading : PySem.W.findIn K (.ref c_UnknownReading) "__getattr__" = some none)
    (xca_UnknownReading : PySem.W.findIn K (.ref c_UnknownReading) "__class__" = some (some (.builtin "object.__class__")))
    (xnUnknownReading : PySem.W.findIn K (.ref c_UnknownReading) "value" = some none)
    (xL_NotSure : K.lookup c_NotSure = some (excClassObj nm_NotSure qn_NotSure c_NotSure N_NotSure bs_NotSure [.ref c_StateError, .type "RuntimeError", .type "Exception", .type "BaseException", .type "object"] true sn_NotSure su_NotSure ab_NotSure co_NotSure dd_NotSure m0_NotSure m1_NotSure m2_NotSure m3_NotSure m5_NotSure "RuntimeError.__new__"))
    (xsa_NotSure : PySem.W.findIn K (.ref c_NotSure) "__setattr__" = some (some (.builtin "object.__setattr__")))
    (xkC_NotSure : PySem.W.keepIn K (.ref c_NotSure) = true)
    (xga_NotSure : PySem.W.findIn K (.ref c_NotSure) "__getattribute__" = some (some (.builtin "BaseException.__getattribute__")))
    (xgg_NotSure : PySem.W.findIn K (.ref c_NotSure) "__getattr__" = some none)
    (xca_NotSure : PySem.W.findIn K (.ref c_NotSure) "__class__" = some (some (.builtin "object.__class__")))
    (xnNotSure : PySem.W.findIn K (.ref c_NotSure) "value" = some none)
    (xL_InvalidPoints : K.lookup c_InvalidPoints = some (excClassObj nm_InvalidPoints qn_InvalidPoints c_InvalidPoints N_InvalidPoints bs_InvalidPoints [.ref c_PipeError, .type "ValueError", .type "Exception", .type "BaseException", .type "object"] true sn_InvalidPoints su_InvalidPoints ab_InvalidPoints co_InvalidPoints dd_InvalidPoints m0_InvalidPoints m1_InvalidPoints m2_InvalidPoints m3_InvalidPoints m5_InvalidPoints "ValueError.__new__"))
    (xsa_InvalidPoints : PySem.W.findIn K (.ref c_InvalidPoints) "__setattr__" = some (some (.builtin "object.__setattr__")))
    (xkC_InvalidPoints : PySem.W.keepIn K (.ref c_InvalidPoints) = true)
    (xga_InvalidPoints : PySem.W.findIn K (.ref c_InvalidPoints) "__getattribute__" = some (some (.builtin "BaseException.__getattribute__")))
    (xgg_InvalidPoints : PySem.W.findIn K (.ref c_InvalidPoints) "__getattr__" = some none)
    (xca_InvalidPoints : PySem.W.findIn K (.ref c_InvalidPoints) "__class__" = some (some (.builtin "object.__class__")))
    (xnInvalidPoints : PySem.W.findIn K (.ref c_InvalidPoints) "position" = some none)
    (xL_InvalidLevels : K.lookup c_InvalidLevels = some (excClassObj nm_InvalidLevels qn_InvalidLevels c_InvalidLevels N_InvalidLevels bs_InvalidLevels [.ref c_PipeError, .type "ValueError", .type "Exception", .type "BaseException", .type "object"] true sn_InvalidLevels su_InvalidLevels ab_InvalidLevels co_InvalidLevels dd_InvalidLevels m0_InvalidLevels m1_InvalidLevels m2_InvalidLevels m3_InvalidLevels m5_InvalidLevels "ValueError.__new__"))
    (xsa_InvalidLevels : PySem.W.findIn K (.ref c_InvalidLevels) "__setattr__" = some (some (.builtin "object.__setattr__")))
    (xkC_InvalidLevels : PySem.W.keepIn K (.ref c_InvalidLevels) = true)
    (xga_InvalidLevels : PySem.W.findIn K (.ref c_InvalidLevels) "__getattribute__" = some (some (.builtin "BaseException.__getattribute__")))
    (xgg_InvalidLevels : PySem.W.findIn K (.ref c_InvalidLevels) "__getattr__" = some none)
    (xca_InvalidLevels : PySem.W.findIn K (.ref c_InvalidLevels) "__class__" = some (some (.builtin "object.__class__")))
    (xnInvalidLevels : PySem.W.findIn K (.ref c_InvalidLevels) "position" = some none)
    (xL_InvalidReading : K.lookup c_InvalidReading = some (excClassObj nm_InvalidReading qn_InvalidReading c_InvalidReading N_InvalidReading bs_InvalidReading [.ref c_PipeError, .type "ValueError", .type "Exception", .type "BaseException", .type "object"] true sn_InvalidReading su_InvalidReading ab_InvalidReading co_InvalidReading dd_InvalidReading m0_InvalidReading m1_InvalidReading m2_InvalidReading m3_InvalidReading m5_InvalidReading "ValueError.__new__"))
    (xsa_InvalidReading : PySem.W.findIn K (.ref c_InvalidReading) "__setattr__" = some (some (.builtin "object.__setattr__")))
    (xkC_InvalidReading : PySem.W.keepIn K (.ref c_InvalidReading) = true)
    (xga_InvalidReading : PySem.W.findIn K (.ref c_InvalidReading) "__getattribute__" = some (some (.builtin "BaseException.__getattribute__")))
    (xgg_InvalidReading : PySem.W.findIn K (.ref c_InvalidReading) "__getattr__" = some none)
    (xca_InvalidReading : PySem.W.findIn K (.ref c_InvalidReading) "__class__" = some (some (.builtin "object.__class__")))
    (xnInvalidReading : PySem.W.findIn K (.ref c_InvalidReading) "position" = some none)
    (xL_InvalidStates : K.lookup c_InvalidStates = some (excClassObj nm_InvalidStates qn_InvalidStates c_InvalidStates N_InvalidStates bs_InvalidStates [.ref c_PipeError, .type "ValueError", .type "Exception", .type "BaseException", .type "object"] true sn_InvalidStates su_InvalidStates ab_InvalidStates co_InvalidStates dd_InvalidStates m0_InvalidStates m1_InvalidStates m2_InvalidStates m3_InvalidStates m5_InvalidStates "ValueError.__new__"))
    (xsa_InvalidStates : PySem.W.findIn K (.ref c_InvalidStates) "__setattr__" = some (some (.builtin "object.__setattr__")))
    (xkC_InvalidStates : PySem.W.keepIn K (.ref c_InvalidStates) = true)
    (xga_InvalidStates : PySem.W.findIn K (.ref c_InvalidStates) "__getattribute__" = some (some (.builtin "BaseException.__getattribute__")))
    (xgg_InvalidStates : PySem.W.findIn K (.ref c_InvalidStates) "__getattr__" = some none)
    (xca_InvalidStates : PySem.W.findIn K (.ref c_InvalidStates) "__class__" = some (some (.builtin "object.__class__")))
    (xnInvalidStates : PySem.W.findIn K (.ref c_InvalidStates) "position" = some none)
    (xL_NotConnected : K.lookup c_NotConnected = some (excClassObj nm_NotConnected qn_NotConnected c_NotConnected N_NotConnected bs_NotConnected [.ref c_PipeError, .type "ValueError", .type "Exception", .type "BaseException", .type "object"] true sn_NotConnected su_NotConnected ab_NotConnected co_NotConnected dd_NotConnected m0_NotConnected m1_NotConnected m2_NotConnected m3_NotConnected m5_NotConnected "ValueError.__new__"))
    (xsa_NotConnected : PySem.W.findIn K (.ref c_NotConnected) "__setattr__" = some (some (.builtin "object.__setattr__")))
    (xkC_NotConnected : PySem.W.keepIn K (.ref c_NotConnected) = true)
    (xga_NotConnected : PySem.W.findIn K (.ref c_NotConnected) "__getattribute__" = some (some (.builtin "BaseException.__getattribute__")))
    (xgg_NotConnected : PySem.W.findIn K (.ref c_NotConnected) "__getattr__" = some none)
    (xca_NotConnected : PySem.W.findIn K (.ref c_NotConnected) "__class__" = some (some (.builtin "object.__class__")))
    (xnNotConnected : PySem.W.findIn K (.ref c_NotConnected) "node" = some none)
    (xL_InvalidDemands : K.lookup c_InvalidDemands = some (excClassObj nm_InvalidDemands qn_InvalidDemands c_InvalidDemands N_InvalidDemands bs_InvalidDemands [.ref c_PipeError, .type "ValueError", .type "Exception", .type "BaseException", .type "object"] true sn_InvalidDemands su_InvalidDemands ab_InvalidDemands co_InvalidDemands dd_InvalidDemands m0_InvalidDemands m1_InvalidDemands m2_InvalidDemands m3_InvalidDemands m5_InvalidDemands "ValueError.__new__"))
    (xsa_InvalidDemands : PySem.W.findIn K (.ref c_InvalidDemands) "__setattr__" = some (some (.builtin "object.__setattr__")))
    (xkC_InvalidDemands : PySem.W.keepIn K (.ref c_InvalidDemands) = true)
    (xga_InvalidDemands : PySem.W.findIn K (.ref c_InvalidDemands) "__getattribute__" = some (some (.builtin "BaseException.__getattribute__")))
    (xgg_InvalidDemands : PySem.W.findIn K (.ref c_InvalidDemands) "__getattr__" = some none)
    (xca_InvalidDemands : PySem.W.findIn K (.ref c_InvalidDemands) "__class__" = some (some (.builtin "object.__class__")))
    (xnInvalidDemands : PySem.W.findIn K (.ref c_InvalidDemands) "node" = some none)
    (xL_InvalidPoles : K.lookup c_InvalidPoles = some (excClassObj nm_InvalidPoles qn_InvalidPoles c_InvalidPoles N_InvalidPoles bs_InvalidPoles [.ref c_PipeError, .type "ValueError", .type "Exception", .type "BaseException", .type "object"] true sn_InvalidPoles su_InvalidPoles ab_InvalidPoles co_InvalidPoles dd_InvalidPoles m0_InvalidPoles m1_InvalidPoles m2_InvalidPoles m3_InvalidPoles m5_InvalidPoles "ValueError.__new__"))
    (xsa_InvalidPoles : PySem.W.findIn K (.ref c_InvalidPoles) "__setattr__" = some (some (.builtin "object.__setattr__")))
    (xkC_InvalidPoles : PySem.W.keepIn K (.ref c_InvalidPoles) = true)
    (xga_InvalidPoles : PySem.W.findIn K (.ref c_InvalidPoles) "__getattribute__" = some (some (.builtin "BaseException.__getattribute__")))
    (xgg_InvalidPoles : PySem.W.findIn K (.ref c_InvalidPoles) "__getattr__" = some none)
    (xca_InvalidPoles : PySem.W.findIn K (.ref c_InvalidPoles) "__class__" = some (some (.builtin "object.__class__")))
    (xnInvalidPoles : PySem.W.findIn K (.ref c_InvalidPoles) "node" = some none)
    (xL_InvalidHeights : K.lookup c_InvalidHeights = some (excClassObj nm_InvalidHeights qn_InvalidHeights c_InvalidHeights N_InvalidHeights bs_InvalidHeights [.ref c_PipeError, .type "ValueError", .type "Exception", .type "BaseException", .type "object"] true sn_InvalidHeights su_InvalidHeights ab_InvalidHeights co_InvalidHeights dd_InvalidHeights m0_InvalidHeights m1_InvalidHeights m2_InvalidHeights m3_InvalidHeights m5_InvalidHeights "ValueError.__new__"))
    (xsa_InvalidHeights : PySem.W.findIn K (.ref c_InvalidHeights) "__setattr__" = some (some (.builtin "object.__setattr__")))
    (xkC_InvalidHeights : PySem.W.keepIn K (.ref c_InvalidHeights) = true)
    (xga_InvalidHeights : PySem.W.findIn K (.ref c_InvalidHeights) "__getattribute__" = some (some (.builtin "BaseException.__getattribute__")))
    (xgg_InvalidHeights : PySem.W.findIn K (.ref c_InvalidHeights) "__getattr__" = some none)
    (xca_InvalidHeights : PySem.W.findIn K (.ref c_InvalidHeights) "__class__" = some (some (.builtin "object.__class__")))
    (xnInvalidHeights : PySem.W.findIn K (.ref c_InvalidHeights) "node" = some none)
    (xL_InvalidConductances : K.lookup c_InvalidConductances = some (excClassObj nm_InvalidConductances qn_InvalidConductances c_InvalidConductances N_InvalidConductances bs_InvalidConductances [.ref c_PipeError, .type "ValueError", .type "Exception", .type "BaseException", .type "object"] true sn_InvalidConductances su_InvalidConductances ab_InvalidConductances co_InvalidConductances dd_InvalidConductances m0_InvalidConductances m1_InvalidConductances m2_InvalidConductances m3_InvalidConductances m5_InvalidConductances "ValueError.__new__"))
    (xsa_InvalidConductances : PySem.W.findIn K (.ref c_InvalidConductances) "__setattr__" = some (some (.builtin "object.__setattr__")))
    (xkC_InvalidConductances : PySem.W.keepIn K (.ref c_InvalidConductances) = true)
    (xga_InvalidConductances : PySem.W.findIn K (.ref c_InvalidConductances) "__getattribute__" = some (some (.builtin "BaseException.__getattribute__")))
    (xgg_InvalidConductances : PySem.W.findIn K (.ref c_InvalidConductances) "__getattr__" = some none)
    (xca_InvalidConductances : PySem.W.findIn K (.ref c_InvalidConductances) "__class__" = some (some (.builtin "object.__class__")))
    (xnInvalidConductances : PySem.W.findIn K (.ref c_InvalidConductances) "pipe" = some none)
    (xL_InvalidCurves : K.lookup c_InvalidCurves = some (excClassObj nm_InvalidCurves qn_InvalidCurves c_InvalidCurves N_InvalidCurves bs_InvalidCurves [.ref c_PipeError, .type "ValueError", .type "Exception", .type "BaseException", .type "object"] true sn_InvalidCurves su_InvalidCurves ab_InvalidCurves co_InvalidCurves dd_InvalidCurves m0_InvalidCurves m1_InvalidCurves m2_InvalidCurves m3_InvalidCurves m5_InvalidCurves "ValueError.__new__"))
    (xsa_InvalidCurves : PySem.W.findIn K (.ref c_InvalidCurves) "__setattr__" = some (some (.builtin "object.__setattr__")))
    (xkC_InvalidCurves : PySem.W.keepIn K (.ref c_InvalidCurves) = true)
    (xga_InvalidCurves : PySem.W.findIn K (.ref c_InvalidCurves) "__getattribute__" = some (some (.builtin "BaseException.__getattribute__")))
    (xgg_InvalidCurves : PySem.W.findIn K (.ref c_InvalidCurves) "__getattr__" = some none)
    (xca_InvalidCurves : PySem.W.findIn K (.ref c_InvalidCurves) "__class__" = some (some (.builtin "object.__class__")))
    (xnInvalidCurves : PySem.W.findIn K (.ref c_InvalidCurves) "pipe" = some none)
    (xL_InvalidFlows : K.lookup c_InvalidFlows = some (excClassObj nm_InvalidFlows qn_InvalidFlows c_InvalidFlows N_InvalidFlows bs_InvalidFlows [.ref c_PipeError, .type "ValueError", .type "Exception", .type "BaseException", .type "object"] true sn_InvalidFlows su_InvalidFlows ab_InvalidFlows co_InvalidFlows dd_InvalidFlows m0_InvalidFlows m1_InvalidFlows m2_InvalidFlows m3_InvalidFlows m5_InvalidFlows "ValueError.__new__"))
    (xsa_InvalidFlows : PySem.W.findIn K (.ref c_InvalidFlows) "__setattr__" = some (some (.builtin "object.__setattr__")))
    (xkC_InvalidFlows : PySem.W.keepIn K (.ref c_InvalidFlows) = true)
    (xga_InvalidFlows : PySem.W.findIn K (.ref c_InvalidFlows) "__getattribute__" = some (some (.builtin "BaseException.__getattribute__")))
    (xgg_InvalidFlows : PySem.W.findIn K (.ref c_InvalidFlows) "__getattr__" = some none)
    (xca_InvalidFlows : PySem.W.findIn K (.ref c_InvalidFlows) "__class__" = some (some (.builtin "object.__class__")))
    (xnInvalidFlows : PySem.W.findIn K (.ref c_InvalidFlows) "pipe" = some none)
    (xL_InvalidKinds : K.lookup c_InvalidKinds = some (excClassObj nm_InvalidKinds qn_InvalidKinds c_InvalidKinds N_InvalidKinds bs_InvalidKinds [.ref c_PipeError, .type "ValueError", .type "Exception", .type "BaseException", .type "object"] true sn_InvalidKinds su_InvalidKinds ab_InvalidKinds co_InvalidKinds dd_InvalidKinds m0_InvalidKinds m1_InvalidKinds m2_InvalidKinds m3_InvalidKinds m5_InvalidKinds "ValueError.__new__"))
    (xsa_InvalidKinds : PySem.W.findIn K (.ref c_InvalidKinds) "__setattr__" = some (some (.builtin "object.__setattr__")))
    (xkC_InvalidKinds : PySem.W.keepIn K (.ref c_InvalidKinds) = true)
    (xga_InvalidKinds : PySem.W.findIn K (.ref c_InvalidKinds) "__getattribute__" = some (some (.builtin "BaseException.__getattribute__")))
    (xgg_InvalidKinds : PySem.W.findIn K (.ref c_InvalidKinds) "__getattr__" = some none)
    (xca_InvalidKinds : PySem.W.findIn K (.ref c_InvalidKinds) "__class__" = some (some (.builtin "object.__class__")))
    (xnInvalidKinds : PySem.W.findIn K (.ref c_InvalidKinds) "pipe" = some none)
    (xL_IsBridge : K.lookup c_IsBridge = some (excClassObj nm_IsBridge qn_IsBridge c_IsBridge N_IsBridge bs_IsBridge [.ref c_StateError, .type "RuntimeError", .type "Exception", .type "BaseException", .type "object"] true sn_IsBridge su_IsBridge ab_IsBridge co_IsBridge dd_IsBridge m0_IsBridge m1_IsBridge m2_IsBridge m3_IsBridge m5_IsBridge "RuntimeError.__new__"))
    (xsa_IsBridge : PySem.W.findIn K (.ref c_IsBridge) "__setattr__" = some (some (.builtin "object.__setattr__")))
    (xkC_IsBridge : PySem.W.keepIn K (.ref c_IsBridge) = true)
    (xga_IsBridge : PySem.W.findIn K (.ref c_IsBridge) "__getattribute__" = some (some (.builtin "BaseException.__getattribute__")))
    (xgg_IsBridge : PySem.W.findIn K (.ref c_IsBridge) "__getattr__" = some none)
    (xca_IsBridge : PySem.W.findIn K (.ref c_IsBridge) "__class__" = some (some (.builtin "object.__class__")))
    (xnIsBridge : PySem.W.findIn K (.ref c_IsBridge) "pipe" = some none)
    (xL_InvalidPipes : K.lookup c_InvalidPipes = some (excClassObj nm_InvalidPipes qn_InvalidPipes c_InvalidPipes N_InvalidPipes bs_InvalidPipes [.ref c_PipeError, .type "ValueError", .type "Exception", .type "BaseException", .type "object"] true sn_InvalidPipes su_InvalidPipes ab_InvalidPipes co_InvalidPipes dd_InvalidPipes m0_InvalidPipes m1_InvalidPipes m2_InvalidPipes m3_InvalidPipes m5_InvalidPipes "ValueError.__new__"))
    (xsa_InvalidPipes : PySem.W.findIn K (.ref c_InvalidPipes) "__setattr__" = some (some (.builtin "object.__setattr__")))
    (xkC_InvalidPipes : PySem.W.keepIn K (.ref c_InvalidPipes) = true)
    (xga_InvalidPipes : PySem.W.findIn K (.ref c_InvalidPipes) "__getattribute__" = some (some (.builtin "BaseException.__getattribute__")))
    (xgg_InvalidPipes : PySem.W.findIn K (.ref c_InvalidPipes) "__getattr__" = some none)
    (xca_InvalidPipes : PySem.W.findIn K (.ref c_InvalidPipes) "__class__" = some (some (.builtin "object.__class__")))
    (xnInvalidPipes : PySem.W.findIn K (.ref c_InvalidPipes) "name" = some none)
    (xL_Unbalanced : K.lookup c_Unbalanced = some (excClassObj nm_Unbalanced qn_Unbalanced c_Unbalanced N_Unbalanced bs_Unbalanced [.ref c_PipeError, .type "ValueError", .type "Exception", .type "BaseException", .type "object"] true sn_Unbalanced su_Unbalanced ab_Unbalanced co_Unbalanced dd_Unbalanced m0_Unbalanced m1_Unbalanced m2_Unbalanced m3_Unbalanced m5_Unbalanced "ValueError.__new__"))
    (xsa_Unbalanced : PySem.W.findIn K (.ref c_Unbalanced) "__setattr__" = some (some (.builtin "object.__setattr__")))
    (xkC_Unbalanced : PySem.W.keepIn K (.ref c_Unbalanced) = true)
    (xga_Unbalanced : PySem.W.findIn K (.ref c_Unbalanced) "__getattribute__" = some (some (.builtin "BaseException.__getattribute__")))
    (xgg_Unbalanced : PySem.W.findIn K (.ref c_Unbalanced) "__getattr__" = some none)
    (xca_Unbalanced : PySem.W.findIn K (.ref c_Unbalanced) "__class__" = some (some (.builtin "object.__class__")))
    (xnUnbalanced : PySem.W.findIn K (.ref c_Unbalanced) "total" = some none)
    (xL_InvalidText : K.lookup c_InvalidText = some (excClassObj nm_InvalidText qn_InvalidText c_InvalidText N_InvalidText bs_InvalidText [.ref c_PipeError, .type "ValueError", .type "Exception", .type "BaseException", .type "object"] true sn_InvalidText su_InvalidText ab_InvalidText co_InvalidText dd_InvalidText m0_InvalidText m1_InvalidText m2_InvalidText m3_InvalidText m5_InvalidText "ValueError.__new__"))
    (xsa_InvalidText : PySem.W.findIn K (.ref c_InvalidText) "__setattr__" = some (some (.builtin "object.__setattr__")))
    (xkC_InvalidText : PySem.W.keepIn K (.ref c_InvalidText) = true)
    (xga_InvalidText : PySem.W.findIn K (.ref c_InvalidText) "__getattribute__" = some (some (.builtin "BaseException.__getattribute__")))
    (xgg_InvalidText : PySem.W.findIn K (.ref c_InvalidText) "__getattr__" = some none)
    (xca_InvalidText : PySem.W.findIn K (.ref c_InvalidText) "__class__" = some (some (.builtin "object.__class__")))
    (xnInvalidText : PySem.W.findIn K (.ref c_InvalidText) "line" = some none)
    (xL_TooMany : K.lookup c_TooMany = some (excClassObj nm_TooMany qn_TooMany c_TooMany N_TooMany bs_TooMany [.ref c_LimitError, .type "ArithmeticError", .type "Exception", .type "BaseException", .type "object"] true sn_TooMany su_TooMany ab_TooMany co_TooMany dd_TooMany m0_TooMany m1_TooMany m2_TooMany m3_TooMany m5_TooMany "ArithmeticError.__new__"))
    (xsa_TooMany : PySem.W.findIn K (.ref c_TooMany) "__setattr__" = some (some (.builtin "object.__setattr__")))
    (xkC_TooMany : PySem.W.keepIn K (.ref c_TooMany) = true)
    (xga_TooMany : PySem.W.findIn K (.ref c_TooMany) "__getattribute__" = some (some (.builtin "BaseException.__getattribute__")))
    (xgg_TooMany : PySem.W.findIn K (.ref c_TooMany) "__getattr__" = some none)
    (xca_TooMany : PySem.W.findIn K (.ref c_TooMany) "__class__" = some (some (.builtin "object.__class__")))
    (xnTooMany : PySem.W.findIn K (.ref c_TooMany) "what" = some none)
    (xn2TooMany : PySem.W.findIn K (.ref c_TooMany) "limit" = some none)
    (xL_Barred : K.lookup c_Barred = some (excClassObj nm_Barred qn_Barred c_Barred N_Barred bs_Barred [.ref c_StateError, .type "RuntimeError", .type "Exception", .type "BaseException", .type "object"] true sn_Barred su_Barred ab_Barred co_Barred dd_Barred m0_Barred m1_Barred m2_Barred m3_Barred m5_Barred "RuntimeError.__new__"))
    (xsa_Barred : PySem.W.findIn K (.ref c_Barred) "__setattr__" = some (some (.builtin "object.__setattr__")))
    (xkC_Barred : PySem.W.keepIn K (.ref c_Barred) = true)
    (xga_Barred : PySem.W.findIn K (.ref c_Barred) "__getattribute__" = some (some (.builtin "BaseException.__getattribute__")))
    (xgg_Barred : PySem.W.findIn K (.ref c_Barred) "__getattr__" = some none)
    (xca_Barred : PySem.W.findIn K (.ref c_Barred) "__class__" = some (some (.builtin "object.__class__")))
    (xL_NothingToUndo : K.lookup c_NothingToUndo = some (excClassObj nm_NothingToUndo qn_NothingToUndo c_NothingToUndo N_NothingToUndo bs_NothingToUndo [.ref c_StateError, .type "RuntimeError", .type "Exception", .type "BaseException", .type "object"] true sn_NothingToUndo su_NothingToUndo ab_NothingToUndo co_NothingToUndo dd_NothingToUndo m0_NothingToUndo m1_NothingToUndo m2_NothingToUndo m3_NothingToUndo m5_NothingToUndo "RuntimeError.__new__"))
    (xsa_NothingToUndo : PySem.W.findIn K (.ref c_NothingToUndo) "__setattr__" = some (some (.builtin "object.__setattr__")))
    (xkC_NothingToUndo : PySem.W.keepIn K (.ref c_NothingToUndo) = true)
    (xga_NothingToUndo : PySem.W.findIn K (.ref c_NothingToUndo) "__getattribute__" = some (some (.builtin "BaseException.__getattribute__")))
    (xgg_NothingToUndo : PySem.W.findIn K (.ref c_NothingToUndo) "__getattr__" = some none)
    (xca_NothingToUndo : PySem.W.findIn K (.ref c_NothingToUndo) "__class__" = some (some (.builtin "object.__class__")))
    (qi_PipeError : PySem.W.isClsIn K c_PipeError = true)
    (qt_PipeError : PySem.W.typeIn K (.ref c_PipeError) = some (.type "type"))
    (qe_PipeError : PySem.W.subIn K (.ref c_PipeError) (.type "BaseException") = some true)
    (qi_MissingError : PySem.W.isClsIn K c_MissingError = true)
    (qt_MissingError : PySem.W.typeIn K (.ref c_MissingError) = some (.type "type"))
    (qe_MissingError : PySem.W.subIn K (.ref c_MissingError) (.type "BaseException") = some true)
    (qi_StateError : PySem.W.isClsIn K c_StateError = true)
    (qt_StateError : PySem.W.typeIn K (.ref c_StateError) = some (.type "type"))
    (qe_StateError : PySem.W.subIn K (.ref c_StateError) (.type "BaseException") = some true)
    (qi_LimitError : PySem.W.isClsIn K c_LimitError = true)
    (qt_LimitError : PySem.W.typeIn K (.ref c_LimitError) = some (.type "type"))
    (qe_LimitError : PySem.W.subIn K (.ref c_LimitError) (.type "BaseException") = some true)
    (nd_ : List.Nodup [c_InvalidInteger, c_InvalidAmount, c_InvalidOrder, c_InvalidWord, c_InvalidPlace, c_InvalidClaim, c_InvalidLine, c_UnknownPipe, c_UnknownNode, c_UnknownPole, c_UnknownKind, c_UnknownReading, c_NotSure, c_InvalidPoints, c_InvalidLevels, c_InvalidReading, c_InvalidStates, c_NotConnected, c_InvalidDemands, c_InvalidPoles, c_InvalidHeights, c_InvalidConductances, c_InvalidCurves, c_InvalidFlows, c_InvalidKinds, c_IsBridge, c_InvalidPipes, c_Unbalanced, c_InvalidText, c_TooMany, c_Barred, c_NothingToUndo, c_PipeError, c_MissingError, c_StateError, c_LimitError])
    (tb_right : PySem.W.tabIn K "_law_right" = some (cc_right, PP_right))
    (nk_right : K.lookup PP_right = none)
    (rc_right : (PyProof.Rows.recsOf qq).find? (fun e => e.name == ("_law_right" : Str)) = some dd_right)
    (z_len : PySem.W.nsIn K mainGlobals "len" = some none)
    (z_abs : PySem.W.nsIn K mainGlobals "abs" = some none)
    (z_max : PySem.W.nsIn K mainGlobals "max" = some none)
    (z_min : PySem.W.nsIn K mainGlobals "min" = some none)
    (z_int : PySem.W.nsIn K mainGlobals "int" = some none)
    (z_divmod : PySem.W.nsIn K mainGlobals "divmod" = some none)
    (z_all : PySem.W.nsIn K mainGlobals "all" = some none)
    (z_repr : PySem.W.nsIn K mainGlobals "repr" = some none)
    (z_isinstance : PySem.W.nsIn K mainGlobals "isinstance" = some none)
    (z_range : PySem.W.nsIn K mainGlobals "range" = some none)
    (z_enumerate : PySem.W.nsIn K mainGlobals "enumerate" = some none)
    (z_bool : PySem.W.nsIn K mainGlobals "bool" = some none)
    (z_ValueError : PySem.W.nsIn K mainGlobals "ValueError" = some none)
    (z_LookupError : PySem.W.nsIn K mainGlobals "LookupError" = some none)
    (z_RuntimeError : PySem.W.nsIn K mainGlobals "RuntimeError" = some none)
    (z_ArithmeticError : PySem.W.nsIn K mainGlobals "ArithmeticError" = some none) :
    ∃ (fd : FuncData) (cs : List (Addr × Addr)), (∀ p ∈ cs, ∃ (y : Str) (dd : PySem.DefRec), (PyProof.Rows.recsOf qq).find? (fun e => e.name == y) = some dd ∧ PySem.W.tabIn K y = some p) ∧ (∀ p ∈ cs, K.lookup p.2 = none) ∧
      (∀ (s : Shared) (u : Value), BindsTo s fd ⟨[u], []⟩ [("_law_script", u)]) ∧ ∀ base : Heap, K.In base → base.Ns mainGlobals mg → (∀ p ∈ cs, LamX.TabB base mg p.1 p.2) → FnG l.prog w K mg base CX0 9 fa fd ["_law_script"] (spL K cs) := by
  have e := (PySem.W.mg_of X G a_law).symm.trans hfa
  cases e
  have T : Txt K mg { f_InvalidInteger_init_ := f_InvalidInteger_init_, d_InvalidInteger_init_ := PySem.W.fnOf "__init__" "InvalidInteger.__init__" (defArgs s_InvalidInteger_init_) (defBody s_InvalidInteger_init_) (defScope s_InvalidInteger_init_) .none kV_0 dc_0 pm_0 an_0 cd_0 ct_0, f_InvalidAmount_init_ := f_InvalidAmount_init_, d_InvalidAmount_init_ := PySem.W.fnOf "__init__" "InvalidAmount.__init__" (defArgs s_InvalidAmount_init_) (defBody s_InvalidAmount_init_) (defScope s_InvalidAmount_init_) .none kV_1 dc_1 pm_1 an_1 cd_1 ct_1, f_InvalidOrder_init_ := f_InvalidOrder_init_, d_InvalidOrder_init_ := PySem.W.fnOf "__init__" "InvalidOrder.__init__" (defArgs s_InvalidOrder_init_) (defBody s_InvalidOrder_init_) (defScope s_InvalidOrder_init_) .none kV_2 dc_2 pm_2 an_2 cd_2 ct_2, f_InvalidWord_init_ := f_InvalidWord_init_, d_InvalidWord_init_ := PySem.W.fnOf "__init__" "InvalidWord.__init__" (defArgs s_InvalidWord_init_) (defBody s_InvalidWord_init_) (defScope s_InvalidWord_init_) .none kV_3 dc_3 pm_3 an_3 cd_3 ct_3, f_InvalidPlace_init_ := f_InvalidPlace_init_, d_InvalidPlace_init_ := PySem.W.fnOf "__init__" "InvalidPlace.__init__" (defArgs s_InvalidPlace_init_) (defBody s_InvalidPlace_init_) (defScope s_InvalidPlace_init_) .none kV_4 dc_4 pm_4 an_4 cd_4 ct_4, f_InvalidClaim_init_ := f_InvalidClaim_init_, d_InvalidClaim_init_ := PySem.W.fnOf "__init__" "InvalidClaim.__init__" (defArgs s_InvalidClaim_init_) (defBody s_InvalidClaim_init_) (defScope s_InvalidClaim_init_) .none kV_5 dc_5 pm_5 an_5 cd_5 ct_5, f_InvalidLine_init_ := f_InvalidLine_init_, d_InvalidLine_init_ := PySem.W.fnOf "__init__" "InvalidLine.__init__" (defArgs s_InvalidLine_init_) (defBody s_InvalidLine_init_) (defScope s_InvalidLine_init_) .none kV_6 dc_6 pm_6 an_6 cd_6 ct_6, f_UnknownPipe_init_ := f_UnknownPipe_init_, d_UnknownPipe_init_ := PySem.W.fnOf "__init__" "UnknownPipe.__init__" (defArgs s_UnknownPipe_init_) (defBody s_UnknownPipe_init_) (defScope s_UnknownPipe_init_) .none kV_7 dc_7 pm_7 an_7 cd_7 ct_7, f_UnknownNode_init_ := f_UnknownNode_init_, d_UnknownNode_init_ := PySem.W.fnOf "__init__" "UnknownNode.__init__" (defArgs s_UnknownNode_init_) (defBody s_UnknownNode_init_) (defScope s_UnknownNode_init_) .none kV_8 dc_8 pm_8 an_8 cd_8 ct_8, f_UnknownPole_init_ := f_UnknownPole_init_, d_UnknownPole_init_ := PySem.W.fnOf "__init__" "UnknownPole.__init__" (defArgs s_UnknownPole_init_) (defBody s_UnknownPole_init_) (defScope s_UnknownPole_init_) .none kV_9 dc_9 pm_9 an_9 cd_9 ct_9, f_UnknownKind_init_ := f_UnknownKind_init_, d_UnknownKind_init_ := PySem.W.fnOf "__init__" "UnknownKind.__init__" (defArgs s_UnknownKind_init_) (defBody s_UnknownKind_init_) (defScope s_UnknownKind_init_) .none kV_10 dc_10 pm_10 an_10 cd_10 ct_10, f_UnknownReading_init_ := f_UnknownReading_init_, d_UnknownReading_init_ := PySem.W.fnOf "__init__" "UnknownReading.__init__" (defArgs s_UnknownReading_init_) (defBody s_UnknownReading_init_) (defScope s_UnknownReading_init_) .none kV_11 dc_11 pm_11 an_11 cd_11 ct_11, f_NotSure_init_ := f_NotSure_init_, d_NotSure_init_ := PySem.W.fnOf "__init__" "NotSure.__init__" (defArgs s_NotSure_init_) (defBody s_NotSure_init_) (defScope s_NotSure_init_) .none kV_12 dc_12 pm_12 an_12 cd_12 ct_12, f_InvalidPoints_init_ := f_InvalidPoints_init_, d_InvalidPoints_init_ := PySem.W.fnOf "__init__" "InvalidPoints.__init__" (defArgs s_InvalidPoints_init_) (defBody s_InvalidPoints_init_) (defScope s_InvalidPoints_init_) .none kV_13 dc_13 pm_13 an_13 cd_13 ct_13, f_InvalidLevels_init_ := f_InvalidLevels_init_, d_InvalidLevels_init_ := PySem.W.fnOf "__init__" "InvalidLevels.__init__" (defArgs s_InvalidLevels_init_) (defBody s_InvalidLevels_init_) (defScope s_InvalidLevels_init_) .none kV_14 dc_14 pm_14 an_14 cd_14 ct_14, f_InvalidReading_init_ := f_InvalidReading_init_, d_InvalidReading_init_ := PySem.W.fnOf "__init__" "InvalidReading.__init__" (defArgs s_InvalidReading_init_) (defBody s_InvalidReading_init_) (defScope s_InvalidReading_init_) .none kV_15 dc_15 pm_15 an_15 cd_15 ct_15, f_InvalidStates_init_ := f_InvalidStates_init_, d_InvalidStates_init_ := PySem.W.fnOf "__init__" "InvalidStates.__init__" (defArgs s_InvalidStates_init_) (defBody s_InvalidStates_init_) (defScope s_InvalidStates_init_) .none kV_16 dc_16 pm_16 an_16 cd_16 ct_16, f_NotConnected_init_ := f_NotConnected_init_, d_NotConnected_init_ := PySem.W.fnOf "__init__" "NotConnected.__init__" (defArgs s_NotConnected_init_) (defBody s_NotConnected_init_) (defScope s_NotConnected_init_) .none kV_17 dc_17 pm_17 an_17 cd_17 ct_17, f_InvalidDemands_init_ := f_InvalidDemands_init_, d_InvalidDemands_init_ := PySem.W.fnOf "__init__" "InvalidDemands.__init__" (defArgs s_InvalidDemands_init_) (defBody s_InvalidDemands_init_) (defScope s_InvalidDemands_init_) .none kV_18 dc_18 pm_18 an_18 cd_18 ct_18, f_InvalidPoles_init_ := f_InvalidPoles_init_, d_InvalidPoles_init_ := PySem.W.fnOf "__init__" "InvalidPoles.__init__" (defArgs s_InvalidPoles_init_) (defBody s_InvalidPoles_init_) (defScope s_InvalidPoles_init_) .none kV_19 dc_19 pm_19 an_19 cd_19 ct_19, f_InvalidHeights_init_ := f_InvalidHeights_init_, d_InvalidHeights_init_ := PySem.W.fnOf "__init__" "InvalidHeights.__init__" (defArgs s_InvalidHeights_init_) (defBody s_InvalidHeights_init_) (defScope s_InvalidHeights_init_) .none kV_20 dc_20 pm_20 an_20 cd_20 ct_20, f_InvalidConductances_init_ := f_InvalidConductances_init_, d_InvalidConductances_init_ := PySem.W.fnOf "__init__" "InvalidConductances.__init__" (defArgs s_InvalidConductances_init_) (defBody s_InvalidConductances_init_) (defScope s_InvalidConductances_init_) .none kV_21 dc_21 pm_21 an_21 cd_21 ct_21, f_InvalidCurves_init_ := f_InvalidCurves_init_, d_InvalidCurves_init_ := PySem.W.fnOf "__init__" "InvalidCurves.__init__" (defArgs s_InvalidCurves_init_) (defBody s_InvalidCurves_init_) (defScope s_InvalidCurves_init_) .none kV_22 dc_22 pm_22 an_22 cd_22 ct_22, f_InvalidFlows_init_ := f_InvalidFlows_init_, d_InvalidFlows_init_ := PySem.W.fnOf "__init__" "InvalidFlows.__init__" (defArgs s_InvalidFlows_init_) (defBody s_InvalidFlows_init_) (defScope s_InvalidFlows_init_) .none kV_23 dc_23 pm_23 an_23 cd_23 ct_23, f_InvalidKinds_init_ := f_InvalidKinds_init_, d_InvalidKinds_init_ := PySem.W.fnOf "__init__" "InvalidKinds.__init__" (defArgs s_InvalidKinds_init_) (defBody s_InvalidKinds_init_) (defScope s_InvalidKinds_init_) .none kV_24 dc_24 pm_24 an_24 cd_24 ct_24, f_IsBridge_init_ := f_IsBridge_init_, d_IsBridge_init_ := PySem.W.fnOf "__init__" "IsBridge.__init__" (defArgs s_IsBridge_init_) (defBody s_IsBridge_init_) (defScope s_IsBridge_init_) .none kV_25 dc_25 pm_25 an_25 cd_25 ct_25, f_InvalidPipes_init_ := f_InvalidPipes_init_, d_InvalidPipes_init_ := PySem.W.fnOf "__init__" "InvalidPipes.__init__" (defArgs s_InvalidPipes_init_) (defBody s_InvalidPipes_init_) (defScope s_InvalidPipes_init_) .none kV_26 dc_26 pm_26 an_26 cd_26 ct_26, f_Unbalanced_init_ := f_Unbalanced_init_, d_Unbalanced_init_ := PySem.W.fnOf "__init__" "Unbalanced.__init__" (defArgs s_Unbalanced_init_) (defBody s_Unbalanced_init_) (defScope s_Unbalanced_init_) .none kV_27 dc_27 pm_27 an_27 cd_27 ct_27, f_InvalidText_init_ := f_InvalidText_init_, d_InvalidText_init_ := PySem.W.fnOf "__init__" "InvalidText.__init__" (defArgs s_InvalidText_init_) (defBody s_InvalidText_init_) (defScope s_InvalidText_init_) .none kV_28 dc_28 pm_28 an_28 cd_28 ct_28, f_TooMany_init_ := f_TooMany_init_, d_TooMany_init_ := PySem.W.fnOf "__init__" "TooMany.__init__" (defArgs s_TooMany_init_) (defBody s_TooMany_init_) (defScope s_TooMany_init_) .none kV_29 dc_29 pm_29 an_29 cd_29 ct_29, f_Barred_init_ := f_Barred_init_, d_Barred_init_ := PySem.W.fnOf "__init__" "Barred.__init__" (defArgs s_Barred_init_) (defBody s_Barred_init_) (defScope s_Barred_init_) .none kV_30 dc_30 pm_30 an_30 cd_30 ct_30, f_NothingToUndo_init_ := f_NothingToUndo_init_, d_NothingToUndo_init_ := PySem.W.fnOf "__init__" "NothingToUndo.__init__" (defArgs s_NothingToUndo_init_) (defBody s_NothingToUndo_init_) (defScope s_NothingToUndo_init_) .none kV_31 dc_31 pm_31 an_31 cd_31 ct_31, f_is_integer := f_is_integer, d_is_integer := PySem.W.fnOf "is_integer" "is_integer" (defArgs s_is_integer) (defBody s_is_integer) (defScope s_is_integer) .none kV_32 dc_32 pm_32 an_32 cd_32 ct_32, f_amount_of := f_amount_of, d_amount_of := PySem.W.fnOf "amount_of" "amount_of" (defArgs s_amount_of) (defBody s_amount_of) (defScope s_amount_of) .none kV_33 dc_33 pm_33 an_33 cd_33 ct_33, f_Amount_init_ := f_Amount_init_, d_Amount_init_ := PySem.W.fnOf "__init__" "Amount.__init__" (defArgs s_Amount_init_) (defBody s_Amount_init_) (defScope s_Amount_init_) (.ref T_34) kV_34 dc_34 pm_34 an_34 cd_34 ct_34, f_Amount_eq_ := f_Amount_eq_, d_Amount_eq_ := PySem.W.fnOf "__eq__" "Amount.__eq__" (defArgs s_Amount_eq_) (defBody s_Amount_eq_) (defScope s_Amount_eq_) .none kV_35 dc_35 pm_35 an_35 cd_35 ct_35, f_pot := f_pot, d_pot := PySem.W.fnOf "_law_pot" "_law_pot" (defArgs s_pot) (defBody s_pot) (defScope s_pot) .none kV_36 dc_36 pm_36 an_36 cd_36 ct_36, f_draw := f_draw, d_draw := PySem.W.fnOf "_law_draw" "_law_draw" (defArgs s_draw) (defBody s_draw) (defScope s_draw) .none kV_37 dc_37 pm_37 an_37 cd_37 ct_37, f_choice := f_choice, d_choice := PySem.W.fnOf "_law_choice" "_law_choice" (defArgs s_choice) (defBody s_choice) (defScope s_choice) .none kV_38 dc_38 pm_38 an_38 cd_38 ct_38, f_parts := f_parts, d_parts := PySem.W.fnOf "_law_parts" "_law_parts" (defArgs s_parts) (defBody s_parts) (defScope s_parts) .none kV_39 dc_39 pm_39 an_39 cd_39 ct_39, f_with_value := f_with_value, d_with_value := PySem.W.fnOf "_law_with_value" "_law_with_value" (defArgs s_with_value) (defBody s_with_value) (defScope s_with_value) .none kV_40 dc_40 pm_40 an_40 cd_40 ct_40, f_with_position := f_with_position, d_with_position := PySem.W.fnOf "_law_with_position" "_law_with_position" (defArgs s_with_position) (defBody s_with_position) (defScope s_with_position) .none kV_41 dc_41 pm_41 an_41 cd_41 ct_41, f_with_node := f_with_node, d_with_node := PySem.W.fnOf "_law_with_node" "_law_with_node" (defArgs s_with_node) (defBody s_with_node) (defScope s_with_node) .none kV_42 dc_42 pm_42 an_42 cd_42 ct_42, f_with_pipe := f_with_pipe, d_with_pipe := PySem.W.fnOf "_law_with_pipe" "_law_with_pipe" (defArgs s_with_pipe) (defBody s_with_pipe) (defScope s_with_pipe) .none kV_43 dc_43 pm_43 an_43 cd_43 ct_43, f_others := f_others, d_others := PySem.W.fnOf "_law_others" "_law_others" (defArgs s_others) (defBody s_others) (defScope s_others) .none kV_44 dc_44 pm_44 an_44 cd_44 ct_44, f_row := f_row, d_row := PySem.W.fnOf "_law_row" "_law_row" (defArgs s_row) (defBody s_row) (defScope s_row) .none kV_45 dc_45 pm_45 an_45 cd_45 ct_45, f_marks := f_marks, d_marks := PySem.W.fnOf "_law_marks" "_law_marks" (defArgs s_marks) (defBody s_marks) (defScope s_marks) .none kV_46 dc_46 pm_46 an_46 cd_46 ct_46, f_above_right := f_above_right, d_above_right := PySem.W.fnOf "_law_above_right" "_law_above_right" (defArgs s_above_right) (defBody s_above_right) (defScope s_above_right) .none kV_47 dc_47 pm_47 an_47 cd_47 ct_47, f_parts_right := f_parts_right, d_parts_right := PySem.W.fnOf "_law_parts_right" "_law_parts_right" (defArgs s_parts_right) (defBody s_parts_right) (defScope s_parts_right) .none kV_48 dc_48 pm_48 an_48 cd_48 ct_48, f_caught := f_caught, d_caught := PySem.W.fnOf "_law_caught" "_law_caught" (defArgs s_caught) (defBody s_caught) (defScope s_caught) .none kV_49 dc_49 pm_49 an_49 cd_49 ct_49, f_raised := f_raised, d_raised := PySem.W.fnOf "_law_raised" "_law_raised" (defArgs s_raised) (defBody s_raised) (defScope s_raised) .none kV_50 dc_50 pm_50 an_50 cd_50 ct_50, f_right := f_right, d_right := PySem.W.fnOf "_law_right" "_law_right" (defArgs s_right) (defBody s_right) (defScope s_right) .none kV_51 dc_51 pm_51 an_51 (.ref cc_right) ct_51, f_law := fa, d_law := PySem.W.fnOf "law" "law" (defArgs s_law) (defBody s_law) (defScope s_law) .none kV_52 dc_52 pm_52 an_52 cd_52 ct_52, c_Amount := c_Amount, c_InvalidInteger := c_InvalidInteger, c_InvalidAmount := c_InvalidAmount, c_InvalidOrder := c_InvalidOrder, c_InvalidWord := c_InvalidWord, c_InvalidPlace := c_InvalidPlace, c_InvalidClaim := c_InvalidClaim, c_InvalidLine := c_InvalidLine, c_UnknownPipe := c_UnknownPipe, c_UnknownNode := c_UnknownNode, c_UnknownPole := c_UnknownPole, c_UnknownKind := c_UnknownKind, c_UnknownReading := c_UnknownReading, c_NotSure := c_NotSure, c_InvalidPoints := c_InvalidPoints, c_InvalidLevels := c_InvalidLevels, c_InvalidReading := c_InvalidReading, c_InvalidStates := c_InvalidStates, c_NotConnected := c_NotConnected, c_InvalidDemands := c_InvalidDemands, c_InvalidPoles := c_InvalidPoles, c_InvalidHeights := c_InvalidHeights, c_InvalidConductances := c_InvalidConductances, c_InvalidCurves := c_InvalidCurves, c_InvalidFlows := c_InvalidFlows, c_InvalidKinds := c_InvalidKinds, c_IsBridge := c_IsBridge, c_InvalidPipes := c_InvalidPipes, c_Unbalanced := c_Unbalanced, c_InvalidText := c_InvalidText, c_TooMany := c_TooMany, c_Barred := c_Barred, c_NothingToUndo := c_NothingToUndo, c_PipeError := c_PipeError, c_MissingError := c_MissingError, c_StateError := c_StateError, c_LimitError := c_LimitError, cc_right := cc_right, PP_right := PP_right } := {
    F_InvalidInteger_init_ := fun_mk (st := s_InvalidInteger_init_) l_InvalidInteger_init_ k1_InvalidInteger_init_ k2_InvalidInteger_init_,
    F_InvalidAmount_init_ := fun_mk (st := s_InvalidAmount_init_) l_InvalidAmount_init_ k1_InvalidAmount_init_ k2_InvalidAmount_init_,
    F_InvalidOrder_init_ := fun_mk (st := s_InvalidOrder_init_) l_InvalidOrder_init_ k1_InvalidOrder_init_ k2_InvalidOrder_init_,
    F_InvalidWord_init_ := fun_mk (st := s_InvalidWord_init_) l_InvalidWord_init_ k1_InvalidWord_init_ k2_InvalidWord_init_,
    F_InvalidPlace_init_ := fun_mk (st := s_InvalidPlace_init_) l_InvalidPlace_init_ k1_InvalidPlace_init_ k2_InvalidPlace_init_,
    F_InvalidClaim_init_ := fun_mk (st := s_InvalidClaim_init_) l_InvalidClaim_init_ k1_InvalidClaim_init_ k2_InvalidClaim_init_,
    F_InvalidLine_init_ := fun_mk (st := s_InvalidLine_init_) l_InvalidLine_init_ k1_InvalidLine_init_ k2_InvalidLine_init_,
    F_UnknownPipe_init_ := fun_mk (st := s_UnknownPipe_init_) l_UnknownPipe_init_ k1_UnknownPipe_init_ k2_UnknownPipe_init_,
    F_UnknownNode_init_ := fun_mk (st := s_UnknownNode_init_) l_UnknownNode_init_ k1_UnknownNode_init_ k2_UnknownNode_init_,
    F_UnknownPole_init_ := fun_mk (st := s_UnknownPole_init_) l_UnknownPole_init_ k1_UnknownPole_init_ k2_UnknownPole_init_,
    F_UnknownKind_init_ := fun_mk (st := s_UnknownKind_init_) l_UnknownKind_init_ k1_UnknownKind_init_ k2_UnknownKind_init_,
    F_UnknownReading_init_ := fun_mk (st := s_UnknownReading_init_) l_UnknownReading_init_ k1_UnknownReading_init_ k2_UnknownReading_init_,
    F_NotSure_init_ := fun_mk (st := s_NotSure_init_) l_NotSure_init_ k1_NotSure_init_ k2_NotSure_init_,
    F_InvalidPoints_init_ := fun_mk (st := s_InvalidPoints_init_) l_InvalidPoints_init_ k1_InvalidPoints_init_ k2_InvalidPoints_init_,
    F_InvalidLevels_init_ := fun_mk (st := s_InvalidLevels_init_) l_InvalidLevels_init_ k1_InvalidLevels_init_ k2_InvalidLevels_init_,
    F_InvalidReading_init_ := fun_mk (st := s_InvalidReading_init_) l_InvalidReading_init_ k1_InvalidReading_init_ k2_InvalidReading_init_,
    F_InvalidStates_init_ := fun_mk (st := s_InvalidStates_init_) l_InvalidStates_init_ k1_InvalidStates_init_ k2_InvalidStates_init_,
    F_NotConnected_init_ := fun_mk (st := s_NotConnected_init_) l_NotConnected_init_ k1_NotConnected_init_ k2_NotConnected_init_,
    F_InvalidDemands_init_ := fun_mk (st := s_InvalidDemands_init_) l_InvalidDemands_init_ k1_InvalidDemands_init_ k2_InvalidDemands_init_,
    F_InvalidPoles_init_ := fun_mk (st := s_InvalidPoles_init_) l_InvalidPoles_init_ k1_InvalidPoles_init_ k2_InvalidPoles_init_,
    F_InvalidHeights_init_ := fun_mk (st := s_InvalidHeights_init_) l_InvalidHeights_init_ k1_InvalidHeights_init_ k2_InvalidHeights_init_,
    F_InvalidConductances_init_ := fun_mk (st := s_InvalidConductances_init_) l_InvalidConductances_init_ k1_InvalidConductances_init_ k2_InvalidConductances_init_,
    F_InvalidCurves_init_ := fun_mk (st := s_InvalidCurves_init_) l_InvalidCurves_init_ k1_InvalidCurves_init_ k2_InvalidCurves_init_,
    F_InvalidFlows_init_ := fun_mk (st := s_InvalidFlows_init_) l_InvalidFlows_init_ k1_InvalidFlows_init_ k2_InvalidFlows_init_,
    F_InvalidKinds_init_ := fun_mk (st := s_InvalidKinds_init_) l_InvalidKinds_init_ k1_InvalidKinds_init_ k2_InvalidKinds_init_,
    F_IsBridge_init_ := fun_mk (st := s_IsBridge_init_) l_IsBridge_init_ k1_IsBridge_init_ k2_IsBridge_init_,
    F_InvalidPipes_init_ := fun_mk (st := s_InvalidPipes_init_) l_InvalidPipes_init_ k1_InvalidPipes_init_ k2_InvalidPipes_init_,
    F_Unbalanced_init_ := fun_mk (st := s_Unbalanced_init_) l_Unbalanced_init_ k1_Unbalanced_init_ k2_Unbalanced_init_,
    F_InvalidText_init_ := fun_mk (st := s_InvalidText_init_) l_InvalidText_init_ k1_InvalidText_init_ k2_InvalidText_init_,
    F_TooMany_init_ := fun_mk (st := s_TooMany_init_) l_TooMany_init_ k1_TooMany_init_ k2_TooMany_init_,
    F_Barred_init_ := fun_mk (st := s_Barred_init_) l_Barred_init_ k1_Barred_init_ k2_Barred_init_,
    F_NothingToUndo_init_ := fun_mk (st := s_NothingToUndo_init_) l_NothingToUndo_init_ k1_NothingToUndo_init_ k2_NothingToUndo_init_,
    F_is_integer := fun_mk (st := s_is_integer) l_is_integer k1_is_integer k2_is_integer,
    m_is_integer := PySem.W.mg_of X G a_is_integer,
    F_amount_of := fun_mk (st := s_amount_of) l_amount_of k1_amount_of k2_amount_of,
    m_amount_of := PySem.W.mg_of X G a_amount_of,
    F_Amount_init_ := ⟨⟨_, _, _, _, _, _, _, _, _, _, rfl, l_Amount_init_, k1_Amount_init_, .inr ⟨by simp, _, _, _, _, rfl, dl_Amount_init_, do_Amount_init_, dv_Amount_init_⟩, .inl rfl⟩, k2_Amount_init_⟩,
    F_Amount_eq_ := fun_mk (st := s_Amount_eq_) l_Amount_eq_ k1_Amount_eq_ k2_Amount_eq_,
    F_pot := fun_mk (st := s_pot) l_pot k1_pot k2_pot,
    m_pot := PySem.W.mg_of X G a_pot,
    F_draw := fun_mk (st := s_draw) l_draw k1_draw k2_draw,
    m_draw := PySem.W.mg_of X G a_draw,
    F_choice := fun_mk (st := s_choice) l_choice k1_choice k2_choice,
    m_choice := PySem.W.mg_of X G a_choice,
    F_parts := fun_mk (st := s_parts) l_parts k1_parts k2_parts,
    m_parts := PySem.W.mg_of X G a_parts,
    F_with_value := fun_mk (st := s_with_value) l_with_value k1_with_value k2_with_value,
    m_with_value := PySem.W.mg_of X G a_with_value,
    F_with_position := fun_mk (st := s_with_position) l_with_position k1_with_position k2_with_position,
    m_with_position := PySem.W.mg_of X G a_with_position,
    F_with_node := fun_mk (st := s_with_node) l_with_node k1_with_node k2_with_node,
    m_with_node := PySem.W.mg_of X G a_with_node,
    F_with_pipe := fun_mk (st := s_with_pipe) l_with_pipe k1_with_pipe k2_with_pipe,
    m_with_pipe := PySem.W.mg_of X G a_with_pipe,
    F_others := fun_mk (st := s_others) l_others k1_others k2_others,
    m_others := PySem.W.mg_of X G a_others,
    F_row := fun_mk (st := s_row) l_row k1_row k2_row,
    m_row := PySem.W.mg_of X G a_row,
    F_marks := fun_mk (st := s_marks) l_marks k1_marks k2_marks,
    m_marks := PySem.W.mg_of X G a_marks,
    F_above_right := fun_mk (st := s_above_right) l_above_right k1_above_right k2_above_right,
    m_above_right := PySem.W.mg_of X G a_above_right,
    F_parts_right := fun_mk (st := s_parts_right) l_parts_right k1_parts_right k2_parts_right,
    m_parts_right := PySem.W.mg_of X G a_parts_right,
    F_caught := fun_mk (st := s_caught) l_caught k1_caught k2_caught,
    m_caught := PySem.W.mg_of X G a_caught,
    F_raised := fun_mk (st := s_raised) l_raised k1_raised k2_raised,
    m_raised := PySem.W.mg_of X G a_raised,
    F_right := fun_mk (st := s_right) l_right k1_right k2_right,
    m_right := PySem.W.mg_of X G a_right,
    F_law := fun_mk (st := s_law) l_law k1_law k2_law,
    m_law := PySem.W.mg_of X G a_law,
    cl := ⟨pgA, hdA, poA, saA⟩,
    nT := nTA,
    nB := nBA,
    mA := PySem.W.mg_of X G aC_Amount,
    mkA := ⟨mkA_, a_Amount_init_, i_Amount_init_, kcA⟩,
    m_gcd := PySem.W.mg_of X G gcd_,
    I := ⟨ca_, cn_, ct_, cm_, (kit_own ic_ it_ sb_NoneType).1, (kit_own ic_ it_ sb_bool).1, (kit_own ic_ it_ sb_int).1, (kit_own ic_ it_ sb_str).1, (kit_own ic_ it_ sb_list).1, (kit_own ic_ it_ sb_tuple).1, (kit_own ic_ it_ sb_dict).1, (kit_own ic_ it_ sb_NoneType).2, (kit_own ic_ it_ sb_bool).2, (kit_own ic_ it_ sb_int).2, (kit_own ic_ it_ sb_str).2, (kit_own ic_ it_ sb_list).2, (kit_own ic_ it_ sb_tuple).2, (kit_own ic_ it_ sb_dict).2⟩,
    sI := sI_,
    cEq := ⟨a_Amount_eq_, i_Amount_eq_⟩,
    C_right := rfl,
    bInvalidInteger := ⟨_, _, _, _, _, _, _, _, _, _, _, _, _, _, _, _, _, famVE, xL_InvalidInteger⟩,
    xInvalidInteger := ⟨PySem.W.mg_of X G aC_InvalidInteger, (show Lb.Abv K c_InvalidInteger c_PipeError Lb.veT from ⟨_, _, _, _, _, _, _, _, _, _, _, _, _, _, _, _, _, famVE, xL_InvalidInteger⟩).ox xsa_InvalidInteger xkC_InvalidInteger, ⟨xga_InvalidInteger, xgg_InvalidInteger, (show Lb.Abv K c_InvalidInteger c_PipeError Lb.veT from ⟨_, _, _, _, _, _, _, _, _, _, _, _, _, _, _, _, _, famVE, xL_InvalidInteger⟩).ex, (show Lb.Abv K c_InvalidInteger c_PipeError Lb.veT from ⟨_, _, _, _, _, _, _, _, _, _, _, _, _, _, _, _, _, famVE, xL_InvalidInteger⟩).hd, xca_InvalidInteger, cn_, ct_, (show Lb.Abv K c_InvalidInteger c_PipeError Lb.veT from ⟨_, _, _, _, _, _, _, _, _, _, _, _, _, _, _, _, _, famVE, xL_InvalidInteger⟩).mo⟩, a_InvalidInteger_init_, beq_iff_eq.mp i_InvalidInteger_init_⟩,
    nInvalidInteger := xnInvalidInteger,
    bInvalidAmount := ⟨_, _, _, _, _, _, _, _, _, _, _, _, _, _, _, _, _, famVE, xL_InvalidAmount⟩,
    xInvalidAmount := ⟨PySem.W.mg_of X G aC_InvalidAmount, (show Lb.Abv K c_InvalidAmount c_PipeError Lb.veT from ⟨_, _, _, _, _, _, _, _, _, _, _, _, _, _, _, _, _, famVE, xL_InvalidAmount⟩).ox xsa_InvalidAmount xkC_InvalidAmount, ⟨xga_InvalidAmount, xgg_InvalidAmount, (show Lb.Abv K c_InvalidAmount c_PipeError Lb.veT from ⟨_, _, _, _, _, _, _, _, _, _, _, _, _, _, _, _, _, famVE, xL_InvalidAmount⟩).ex, (show Lb.Abv K c_InvalidAmount c_PipeError Lb.veT from ⟨_, _, _, _, _, _, _, _, _, _, _, _, _, _, _, _, _, famVE, xL_InvalidAmount⟩).hd, xca_InvalidAmount, cn_, ct_, (show Lb.Abv K c_InvalidAmount c_PipeError Lb.veT from ⟨_, _, _, _, _, _, _, _, _, _, _, _, _, _, _, _, _, famVE, xL_InvalidAmount⟩).mo⟩, a_InvalidAmount_init_, beq_iff_eq.mp i_InvalidAmount_init_⟩,
    nInvalidAmount := xnInvalidAmount,
    bInvalidOrder := ⟨_, _, _, _, _, _, _, _, _, _, _, _, _, _, _, _, _, famVE, xL_InvalidOrder⟩,
    xInvalidOrder := ⟨PySem.W.mg_of X G aC_InvalidOrder, (show Lb.Abv K c_InvalidOrder c_PipeError Lb.veT from ⟨_, _, _, _, _, _, _, _, _, _, _, _, _, _, _, _, _, famVE, xL_InvalidOrder⟩).ox xsa_InvalidOrder xkC_InvalidOrder, ⟨xga_InvalidOrder, xgg_InvalidOrder, (show Lb.Abv K c_InvalidOrder c_PipeError Lb.veT from ⟨_, _, _, _, _, _, _, _, _, _, _, _, _, _, _, _, _, famVE, xL_InvalidOrder⟩).ex, (show Lb.Abv K c_InvalidOrder c_PipeError Lb.veT from ⟨_, _, _, _, _, _, _, _, _, _, _, _, _, _, _, _, _, famVE, xL_InvalidOrder⟩).hd, xca_InvalidOrder, cn_, ct_, (show Lb.Abv K c_InvalidOrder c_PipeError Lb.veT from ⟨_, _, _, _, _, _, _, _, _, _, _, _, _, _, _, _, _, famVE, xL_InvalidOrder⟩).mo⟩, a_InvalidOrder_init_, beq_iff_eq.mp i_InvalidOrder_init_⟩,
    nInvalidOrder := xnInvalidOrder,
    bInvalidWord := ⟨_, _, _, _, _, _, _, _, _, _, _, _, _, _, _, _, _, famVE, xL_InvalidWord⟩,
    xInvalidWord := ⟨PySem.W.mg_of X G aC_InvalidWord, (show Lb.Abv K c_InvalidWord c_PipeError Lb.veT from ⟨_, _, _, _, _, _, _, _, _, _, _, _, _, _, _, _, _, famVE, xL_InvalidWord⟩).ox xsa_InvalidWord xkC_InvalidWord, ⟨xga_InvalidWord, xgg_InvalidWord, (show Lb.Abv K c_InvalidWord c_PipeError Lb.veT from ⟨_, _, _, _, _, _, _, _, _, _, _, _, _, _, _, _, _, famVE, xL_InvalidWord⟩).ex, (show Lb.Abv K c_InvalidWord c_PipeError Lb.veT from ⟨_, _, _, _, _, _, _, _, _, _, _, _, _, _, _, _, _, famVE, xL_InvalidWord⟩).hd, xca_InvalidWord, cn_, ct_, (show Lb.Abv K c_InvalidWord c_PipeError Lb.veT from ⟨_, _, _, _, _, _, _, _, _, _, _, _, _, _, _, _, _, famVE, xL_InvalidWord⟩).mo⟩, a_InvalidWord_init_, beq_iff_eq.mp i_InvalidWord_init_⟩,
    nInvalidWord := xnInvalidWord,
    bInvalidPlace := ⟨_, _, _, _, _, _, _, _, _, _, _, _, _, _, _, _, _, famVE, xL_InvalidPlace⟩,
    xInvalidPlace := ⟨PySem.W.mg_of X G aC_InvalidPlace, (show Lb.Abv K c_InvalidPlace c_PipeError Lb.veT from ⟨_, _, _, _, _, _, _, _, _, _, _, _, _, _, _, _, _, famVE, xL_InvalidPlace⟩).ox xsa_InvalidPlace xkC_InvalidPlace, ⟨xga_InvalidPlace, xgg_InvalidPlace, (show Lb.Abv K c_InvalidPlace c_PipeError Lb.veT from ⟨_, _, _, _, _, _, _, _, _, _, _, _, _, _, _, _, _, famVE, xL_InvalidPlace⟩).ex, (show Lb.Abv K c_InvalidPlace c_PipeError Lb.veT from ⟨_, _, _, _, _, _, _, _, _, _, _, _, _, _, _, _, _, famVE, xL_InvalidPlace⟩).hd, xca_InvalidPlace, cn_, ct_, (show Lb.Abv K c_InvalidPlace c_PipeError Lb.veT from ⟨_, _, _, _, _, _, _, _, _, _, _, _, _, _, _, _, _, famVE, xL_InvalidPlace⟩).mo⟩, a_InvalidPlace_init_, beq_iff_eq.mp i_InvalidPlace_init_⟩,
    nInvalidPlace := xnInvalidPlace,
    bInvalidClaim := ⟨_, _, _, _, _, _, _, _, _, _, _, _, _, _, _, _, _, famVE, xL_InvalidClaim⟩,
    xInvalidClaim := ⟨PySem.W.mg_of X G aC_InvalidClaim, (show Lb.Abv K c_InvalidClaim c_PipeError Lb.veT from ⟨_, _, _, _, _, _, _, _, _, _, _, _, _, _, _, _, _, famVE, xL_InvalidClaim⟩).ox xsa_InvalidClaim xkC_InvalidClaim, ⟨xga_InvalidClaim, xgg_InvalidClaim, (show Lb.Abv K c_InvalidClaim c_PipeError Lb.veT from ⟨_, _, _, _, _, _, _, _, _, _, _, _, _, _, _, _, _, famVE, xL_InvalidClaim⟩).ex, (show Lb.Abv K c_InvalidClaim c_PipeError Lb.veT from ⟨_, _, _, _, _, _, _, _, _, _, _, _, _, _, _, _, _, famVE, xL_InvalidClaim⟩).hd, xca_InvalidClaim, cn_, ct_, (show Lb.Abv K c_InvalidClaim c_PipeError Lb.veT from ⟨_, _, _, _, _, _, _, _, _, _, _, _, _, _, _, _, _, famVE, xL_InvalidClaim⟩).mo⟩, a_InvalidClaim_init_, beq_iff_eq.mp i_InvalidClaim_init_⟩,
    nInvalidClaim := xnInvalidClaim,
    bInvalidLine := ⟨_, _, _, _, _, _, _, _, _, _, _, _, _, _, _, _, _, famVE, xL_InvalidLine⟩,
    xInvalidLine := ⟨PySem.W.mg_of X G aC_InvalidLine, (show Lb.Abv K c_InvalidLine c_PipeError Lb.veT from ⟨_, _, _, _, _, _, _, _, _, _, _, _, _, _, _, _, _, famVE, xL_InvalidLine⟩).ox xsa_InvalidLine xkC_InvalidLine, ⟨xga_InvalidLine, xgg_InvalidLine, (show Lb.Abv K c_InvalidLine c_PipeError Lb.veT from ⟨_, _, _, _, _, _, _, _, _, _, _, _, _, _, _, _, _, famVE, xL_InvalidLine⟩).ex, (show Lb.Abv K c_InvalidLine c_PipeError Lb.veT from ⟨_, _, _, _, _, _, _, _, _, _, _, _, _, _, _, _, _, famVE, xL_InvalidLine⟩).hd, xca_InvalidLine, cn_, ct_, (show Lb.Abv K c_InvalidLine c_PipeError Lb.veT from ⟨_, _, _, _, _, _, _, _, _, _, _, _, _, _, _, _, _, famVE, xL_InvalidLine⟩).mo⟩, a_InvalidLine_init_, beq_iff_eq.mp i_InvalidLine_init_⟩,
    nInvalidLine := xnInvalidLine,
    bUnknownPipe := ⟨_, _, _, _, _, _, _, _, _, _, _, _, _, _, _, _, _, famLE, xL_UnknownPipe⟩,
    xUnknownPipe := ⟨PySem.W.mg_of X G aC_UnknownPipe, (show Lb.Abv K c_UnknownPipe c_MissingError Lb.leT from ⟨_, _, _, _, _, _, _, _, _, _, _, _, _, _, _, _, _, famLE, xL_UnknownPipe⟩).ox xsa_UnknownPipe xkC_UnknownPipe, ⟨xga_UnknownPipe, xgg_UnknownPipe, (show Lb.Abv K c_UnknownPipe c_MissingError Lb.leT from ⟨_, _, _, _, _, _, _, _, _, _, _, _, _, _, _, _, _, famLE, xL_UnknownPipe⟩).ex, (show Lb.Abv K c_UnknownPipe c_MissingError Lb.leT from ⟨_, _, _, _, _, _, _, _, _, _, _, _, _, _, _, _, _, famLE, xL_UnknownPipe⟩).hd, xca_UnknownPipe, cn_, ct_, (show Lb.Abv K c_UnknownPipe c_MissingError Lb.leT from ⟨_, _, _, _, _, _, _, _, _, _, _, _, _, _, _, _, _, famLE, xL_UnknownPipe⟩).mo⟩, a_UnknownPipe_init_, beq_iff_eq.mp i_UnknownPipe_init_⟩,
    nUnknownPipe := xnUnknownPipe,
    bUnknownNode := ⟨_, _, _, _, _, _, _, _, _, _, _, _, _, _, _, _, _, famLE, xL_UnknownNode⟩,
    xUnknownNode := ⟨PySem.W.mg_of X G aC_UnknownNode, (show Lb.Abv K c_UnknownNode c_MissingError Lb.leT from ⟨_, _, _, _, _, _, _, _, _, _, _, _, _, _, _, _, _, famLE, xL_UnknownNode⟩).ox xsa_UnknownNode xkC_UnknownNode, ⟨xga_UnknownNode, xgg_UnknownNode, (show Lb.Abv K c_UnknownNode c_MissingError Lb.leT from ⟨_, _, _, _, _, _, _, _, _, _, _, _, _, _, _, _, _, famLE, xL_UnknownNode⟩).ex, (show Lb.Abv K c_UnknownNode c_MissingError Lb.leT from ⟨_, _, _, _, _, _, _, _, _, _, _, _, _, _, _, _, _, famLE, xL_UnknownNode⟩).hd, xca_UnknownNode, cn_, ct_, (show Lb.Abv K c_UnknownNode c_MissingError Lb.leT from ⟨_, _, _, _, _, _, _, _, _, _, _, _, _, _, _, _, _, famLE, xL_UnknownNode⟩).mo⟩, a_UnknownNode_init_, beq_iff_eq.mp i_UnknownNode_init_⟩,
    nUnknownNode := xnUnknownNode,
    bUnknownPole := ⟨_, _, _, _, _, _, _, _, _, _, _, _, _, _, _, _, _, famLE, xL_UnknownPole⟩,
    xUnknownPole := ⟨PySem.W.mg_of X G aC_UnknownPole, (show Lb.Abv K c_UnknownPole c_MissingError Lb.leT from ⟨_, _, _, _, _, _, _, _, _, _, _, _, _, _, _, _, _, famLE, xL_UnknownPole⟩).ox xsa_UnknownPole xkC_UnknownPole, ⟨xga_UnknownPole, xgg_UnknownPole, (show Lb.Abv K c_UnknownPole c_MissingError Lb.leT from ⟨_, _, _, _, _, _, _, _, _, _, _, _, _, _, _, _, _, famLE, xL_UnknownPole⟩).ex, (show Lb.Abv K c_UnknownPole c_MissingError Lb.leT from ⟨_, _, _, _, _, _, _, _, _, _, _, _, _, _, _, _, _, famLE, xL_UnknownPole⟩).hd, xca_UnknownPole, cn_, ct_, (show Lb.Abv K c_UnknownPole c_MissingError Lb.leT from ⟨_, _, _, _, _, _, _, _, _, _, _, _, _, _, _, _, _, famLE, xL_UnknownPole⟩).mo⟩, a_UnknownPole_init_, beq_iff_eq.mp i_UnknownPole_init_⟩,
    nUnknownPole := xnUnknownPole,
    bUnknownKind := ⟨_, _, _, _, _, _, _, _, _, _, _, _, _, _, _, _, _, famLE, xL_UnknownKind⟩,
    xUnknownKind := ⟨PySem.W.mg_of X G aC_UnknownKind, (show Lb.Abv K c_UnknownKind c_MissingError Lb.leT from ⟨_, _, _, _, _, _, _, _, _, _, _, _, _, _, _, _, _, famLE, xL_UnknownKind⟩).ox xsa_UnknownKind xkC_UnknownKind, ⟨xga_UnknownKind, xgg_UnknownKind, (show Lb.Abv K c_UnknownKind c_MissingError Lb.leT from ⟨_, _, _, _, _, _, _, _, _, _, _, _, _, _, _, _, _, famLE, xL_UnknownKind⟩).ex, (show Lb.Abv K c_UnknownKind c_MissingError Lb.leT from ⟨_, _, _, _, _, _, _, _, _, _, _, _, _, _, _, _, _, famLE, xL_UnknownKind⟩).hd, xca_UnknownKind, cn_, ct_, (show Lb.Abv K c_UnknownKind c_MissingError Lb.leT from ⟨_, _, _, _, _, _, _, _, _, _, _, _, _, _, _, _, _, famLE, xL_UnknownKind⟩).mo⟩, a_UnknownKind_init_, beq_iff_eq.mp i_UnknownKind_init_⟩,
    nUnknownKind := xnUnknownKind,
    bUnknownReading := ⟨_, _, _, _, _, _, _, _, _, _, _, _, _, _, _, _, _, famLE, xL_UnknownReading⟩,
    xUnknownReading := ⟨PySem.W.mg_of X G aC_UnknownReading, (show Lb.Abv K c_UnknownReading c_MissingError Lb.leT from ⟨_, _, _, _, _, _, _, _, _, _, _, _, _, _, _, _, _, famLE, xL_UnknownReading⟩).ox xsa_UnknownReading xkC_UnknownReading, ⟨xga_UnknownReading, xgg_UnknownReading, (show Lb.Abv K c_UnknownReading c_MissingError Lb.leT from ⟨_, _, _, _, _, _, _, _, _, _, _, _, _, _, _, _, _, famLE, xL_UnknownReading⟩).ex, (show Lb.Abv K c_UnknownReading c_MissingError Lb.leT from ⟨_, _, _, _, _, _, _, _, _, _, _, _, _, _, _, _, _, famLE, xL_UnknownReading⟩).hd, xca_UnknownReading, cn_, ct_, (show Lb.Abv K c_UnknownReading c_MissingError Lb.leT from ⟨_, _, _, _, _, _, _, _, _, _, _, _, _, _, _, _, _, famLE, xL_UnknownReading⟩).mo⟩, a_UnknownReading_init_, beq_iff_eq.mp i_UnknownReading_init_⟩,
    nUnknownReading := xnUnknownReading,
    bNotSure := ⟨_, _, _, _, _, _, _, _, _, _, _, _, _, _, _, _, _, famRE, xL_NotSure⟩,
    xNotSure := ⟨PySem.W.mg_of X G aC_NotSure, (show Lb.Abv K c_NotSure c_StateError Lb.reT from ⟨_, _, _, _, _, _, _, _, _, _, _, _, _, _, _, _, _, famRE, xL_NotSure⟩).ox xsa_NotSure xkC_NotSure, ⟨xga_NotSure, xgg_NotSure, (show Lb.Abv K c_NotSure c_StateError Lb.reT from ⟨_, _, _, _, _, _, _, _, _, _, _, _, _, _, _, _, _, famRE, xL_NotSure⟩).ex, (show Lb.Abv K c_NotSure c_StateError Lb.reT from ⟨_, _, _, _, _, _, _, _, _, _, _, _, _, _, _, _, _, famRE, xL_NotSure⟩).hd, xca_NotSure, cn_, ct_, (show Lb.Abv K c_NotSure c_StateError Lb.reT from ⟨_, _, _, _, _, _, _, _, _, _, _, _, _, _, _, _, _, famRE, xL_NotSure⟩).mo⟩, a_NotSure_init_, beq_iff_eq.mp i_NotSure_init_⟩,
    nNotSure := xnNotSure,
    bInvalidPoints := ⟨_, _, _, _, _, _, _, _, _, _, _, _, _, _, _, _, _, famVE, xL_InvalidPoints⟩,
    xInvalidPoints := ⟨PySem.W.mg_of X G aC_InvalidPoints, (show Lb.Abv K c_InvalidPoints c_PipeError Lb.veT from ⟨_, _, _, _, _, _, _, _, _, _, _, _, _, _, _, _, _, famVE, xL_InvalidPoints⟩).ox xsa_InvalidPoints xkC_InvalidPoints, ⟨xga_InvalidPoints, xgg_InvalidPoints, (show Lb.Abv K c_InvalidPoints c_PipeError Lb.veT from ⟨_, _, _, _, _, _, _, _, _, _, _, _, _, _, _, _, _, famVE, xL_InvalidPoints⟩).ex, (show Lb.Abv K c_InvalidPoints c_PipeError Lb.veT from ⟨_, _, _, _, _, _, _, _, _, _, _, _, _, _, _, _, _, famVE, xL_InvalidPoints⟩).hd, xca_InvalidPoints, cn_, ct_, (show Lb.Abv K c_InvalidPoints c_PipeError Lb.veT from ⟨_, _, _, _, _, _, _, _, _, _, _, _, _, _, _, _, _, famVE, xL_InvalidPoints⟩).mo⟩, a_InvalidPoints_init_, beq_iff_eq.mp i_InvalidPoints_init_⟩,
    nInvalidPoints := xnInvalidPoints,
    bInvalidLevels := ⟨_, _, _, _, _, _, _, _, _, _, _, _, _, _, _, _, _, famVE, xL_InvalidLevels⟩,
    xInvalidLevels := ⟨PySem.W.mg_of X G aC_InvalidLevels, (show Lb.Abv K c_InvalidLevels c_PipeError Lb.veT from ⟨_, _, _, _, _, _, _, _, _, _, _, _, _, _, _, _, _, famVE, xL_InvalidLevels⟩).ox xsa_InvalidLevels xkC_InvalidLevels, ⟨xga_InvalidLevels, xgg_InvalidLevels, (show Lb.Abv K c_InvalidLevels c_PipeError Lb.veT from ⟨_, _, _, _, _, _, _, _, _, _, _, _, _, _, _, _, _, famVE, xL_InvalidLevels⟩).ex, (show Lb.Abv K c_InvalidLevels c_PipeError Lb.veT from ⟨_, _, _, _, _, _, _, _, _, _, _, _, _, _, _, _, _, famVE, xL_InvalidLevels⟩).hd, xca_InvalidLevels, cn_, ct_, (show Lb.Abv K c_InvalidLevels c_PipeError Lb.veT from ⟨_, _, _, _, _, _, _, _, _, _, _, _, _, _, _, _, _, famVE, xL_InvalidLevels⟩).mo⟩, a_InvalidLevels_init_, beq_iff_eq.mp i_InvalidLevels_init_⟩,
    nInvalidLevels := xnInvalidLevels,
    bInvalidReading := ⟨_, _, _, _, _, _, _, _, _, _, _, _, _, _, _, _, _, famVE, xL_InvalidReading⟩,
    xInvalidReading := ⟨PySem.W.mg_of X G aC_InvalidReading, (show Lb.Abv K c_InvalidReading c_PipeError Lb.veT from ⟨_, _, _, _, _, _, _, _, _, _, _, _, _, _, _, _, _, famVE, xL_InvalidReading⟩).ox xsa_InvalidReading xkC_InvalidReading, ⟨xga_InvalidReading, xgg_InvalidReading, (show Lb.Abv K c_InvalidReading c_PipeError Lb.veT from ⟨_, _, _, _, _, _, _, _, _, _, _, _, _, _, _, _, _, famVE, xL_InvalidReading⟩).ex, (show Lb.Abv K c_InvalidReading c_PipeError Lb.veT from ⟨_, _, _, _, _, _, _, _, _, _, _, _, _, _, _, _, _, famVE, xL_InvalidReading⟩).hd, xca_InvalidReading, cn_, ct_, (show Lb.Abv K c_InvalidReading c_PipeError Lb.veT from ⟨_, _, _, _, _, _, _, _, _, _, _, _, _, _, _, _, _, famVE, xL_InvalidReading⟩).mo⟩, a_InvalidReading_init_, beq_iff_eq.mp i_InvalidReading_init_⟩,
    nInvalidReading := xnInvalidReading,
    bInvalidStates := ⟨_, _, _, _, _, _, _, _, _, _, _, _, _, _, _, _, _, famVE, xL_InvalidStates⟩,
    xInvalidStates := ⟨PySem.W.mg_of X G aC_InvalidStates, (show Lb.Abv K c_InvalidStates c_PipeError Lb.veT from ⟨_, _, _, _, _, _, _, _, _, _, _, _, _, _, _, _, _, famVE, xL_InvalidStates⟩).ox xsa_InvalidStates xkC_InvalidStates, ⟨xga_InvalidStates, xgg_InvalidStates, (show Lb.Abv K c_InvalidStates c_PipeError Lb.veT from ⟨_, _, _, _, _, _, _, _, _, _, _, _, _, _, _, _, _, famVE, xL_InvalidStates⟩).ex, (show Lb.Abv K c_InvalidStates c_PipeError Lb.veT from ⟨_, _, _, _, _, _, _, _, _, _, _, _, _, _, _, _, _, famVE, xL_InvalidStates⟩).hd, xca_InvalidStates, cn_, ct_, (show Lb.Abv K c_InvalidStates c_PipeError Lb.veT from ⟨_, _, _, _, _, _, _, _, _, _, _, _, _, _, _, _, _, famVE, xL_InvalidStates⟩).mo⟩, a_InvalidStates_init_, beq_iff_eq.mp i_InvalidStates_init_⟩,
    nInvalidStates := xnInvalidStates,
    bNotConnected := ⟨_, _, _, _, _, _, _, _, _, _, _, _, _, _, _, _, _, famVE, xL_NotConnected⟩,
    xNotConnected := ⟨PySem.W.mg_of X G aC_NotConnected, (show Lb.Abv K c_NotConnected c_PipeError Lb.veT from ⟨_, _, _, _, _, _, _, _, _, _, _, _, _, _, _, _, _, famVE, xL_NotConnected⟩).ox xsa_NotConnected xkC_NotConnected, ⟨xga_NotConnected, xgg_NotConnected, (show Lb.Abv K c_NotConnected c_PipeError Lb.veT from ⟨_, _, _, _, _, _, _, _, _, _, _, _, _, _, _, _, _, famVE, xL_NotConnected⟩).ex, (show Lb.Abv K c_NotConnected c_PipeError Lb.veT from ⟨_, _, _, _, _, _, _, _, _, _, _, _, _, _, _, _, _, famVE, xL_NotConnected⟩).hd, xca_NotConnected, cn_, ct_, (show Lb.Abv K c_NotConnected c_PipeError Lb.veT from ⟨_, _, _, _, _, _, _, _, _, _, _, _, _, _, _, _, _, famVE, xL_NotConnected⟩).mo⟩, a_NotConnected_init_, beq_iff_eq.mp i_NotConnected_init_⟩,
    nNotConnected := xnNotConnected,
    bInvalidDemands := ⟨_, _, _, _, _, _, _, _, _, _, _, _, _, _, _, _, _, famVE, xL_InvalidDemands⟩,
    xInvalidDemands := ⟨PySem.W.mg_of X G aC_InvalidDemands, (show Lb.Abv K c_InvalidDemands c_PipeError Lb.veT from ⟨_, _, _, _, _, _, _, _, _, _, _, _, _, _, _, _, _, famVE, xL_InvalidDemands⟩).ox xsa_InvalidDemands xkC_InvalidDemands, ⟨xga_InvalidDemands, xgg_InvalidDemands, (show Lb.Abv K c_InvalidDemands c_PipeError Lb.veT from ⟨_, _, _, _, _, _, _, _, _, _, _, _, _, _, _, _, _, famVE, xL_InvalidDemands⟩).ex, (show Lb.Abv K c_InvalidDemands c_PipeError Lb.veT from ⟨_, _, _, _, _, _, _, _, _, _, _, _, _, _, _, _, _, famVE, xL_InvalidDemands⟩).hd, xca_InvalidDemands, cn_, ct_, (show Lb.Abv K c_InvalidDemands c_PipeError Lb.veT from ⟨_, _, _, _, _, _, _, _, _, _, _, _, _, _, _, _, _, famVE, xL_InvalidDemands⟩).mo⟩, a_InvalidDemands_init_, beq_iff_eq.mp i_InvalidDemands_init_⟩,
    nInvalidDemands := xnInvalidDemands,
    bInvalidPoles := ⟨_, _, _, _, _, _, _, _, _, _, _, _, _, _, _, _, _, famVE, xL_InvalidPoles⟩,
    xInvalidPoles := ⟨PySem.W.mg_of X G aC_InvalidPoles, (show Lb.Abv K c_InvalidPoles c_PipeError Lb.veT from ⟨_, _, _, _, _, _, _, _, _, _, _, _, _, _, _, _, _, famVE, xL_InvalidPoles⟩).ox xsa_InvalidPoles xkC_InvalidPoles, ⟨xga_InvalidPoles, xgg_InvalidPoles, (show Lb.Abv K c_InvalidPoles c_PipeError Lb.veT from ⟨_, _, _, _, _, _, _, _, _, _, _, _, _, _, _, _, _, famVE, xL_InvalidPoles⟩).ex, (show Lb.Abv K c_InvalidPoles c_PipeError Lb.veT from ⟨_, _, _, _, _, _, _, _, _, _, _, _, _, _, _, _, _, famVE, xL_InvalidPoles⟩).hd, xca_InvalidPoles, cn_, ct_, (show Lb.Abv K c_InvalidPoles c_PipeError Lb.veT from ⟨_, _, _, _, _, _, _, _, _, _, _, _, _, _, _, _, _, famVE, xL_InvalidPoles⟩).mo⟩, a_InvalidPoles_init_, beq_iff_eq.mp i_InvalidPoles_init_⟩,
    nInvalidPoles := xnInvalidPoles,
    bInvalidHeights := ⟨_, _, _, _, _, _, _, _, _, _, _, _, _, _, _, _, _, famVE, xL_InvalidHeights⟩,
    xInvalidHeights := ⟨PySem.W.mg_of X G aC_InvalidHeights, (show Lb.Abv K c_InvalidHeights c_PipeError Lb.veT from ⟨_, _, _, _, _, _, _, _, _, _, _, _, _, _, _, _, _, famVE, xL_InvalidHeights⟩).ox xsa_InvalidHeights xkC_InvalidHeights, ⟨xga_InvalidHeights, xgg_InvalidHeights, (show Lb.Abv K c_InvalidHeights c_PipeError Lb.veT from ⟨_, _, _, _, _, _, _, _, _, _, _, _, _, _, _, _, _, famVE, xL_InvalidHeights⟩).ex, (show Lb.Abv K c_InvalidHeights c_PipeError Lb.veT from ⟨_, _, _, _, _, _, _, _, _, _, _, _, _, _, _, _, _, famVE, xL_InvalidHeights⟩).hd, xca_InvalidHeights, cn_, ct_, (show Lb.Abv K c_InvalidHeights c_PipeError Lb.veT from ⟨_, _, _, _, _, _, _, _, _, _, _, _, _, _, _, _, _, famVE, xL_InvalidHeights⟩).mo⟩, a_InvalidHeights_init_, beq_iff_eq.mp i_InvalidHeights_init_⟩,
    nInvalidHeights := xnInvalidHeights,
    bInvalidConductances := ⟨_, _, _, _, _, _, _, _, _, _, _, _, _, _, _, _, _, famVE, xL_InvalidConductances⟩,
    xInvalidConductances := ⟨PySem.W.mg_of X G aC_InvalidConductances, (show Lb.Abv K c_InvalidConductances c_PipeError Lb.veT from ⟨_, _, _, _, _, _, _, _, _, _, _, _, _, _, _, _, _, famVE, xL_InvalidConductances⟩).ox xsa_InvalidConductances xkC_InvalidConductances, ⟨xga_InvalidConductances, xgg_InvalidConductances, (show Lb.Abv K c_InvalidConductances c_PipeError Lb.veT from ⟨_, _, _, _, _, _, _, _, _, _, _, _, _, _, _, _, _, famVE, xL_InvalidConductances⟩).ex, (show Lb.Abv K c_InvalidConductances c_PipeError Lb.veT from ⟨_, _, _, _, _, _, _, _, _, _, _, _, _, _, _, _, _, famVE, xL_InvalidConductances⟩).hd, xca_InvalidConductances, cn_, ct_, (show Lb.Abv K c_InvalidConductances c_PipeError Lb.veT from ⟨_, _, _, _, _, _, _, _, _, _, _, _, _, _, _, _, _, famVE, xL_InvalidConductances⟩).mo⟩, a_InvalidConductances_init_, beq_iff_eq.mp i_InvalidConductances_init_⟩,
    nInvalidConductances := xnInvalidConductances,
    bInvalidCurves := ⟨_, _, _, _, _, _, _, _, _, _, _, _, _, _, _, _, _, famVE, xL_InvalidCurves⟩,
    xInvalidCurves := ⟨PySem.W.mg_of X G aC_InvalidCurves, (show Lb.Abv K c_InvalidCurves c_PipeError Lb.veT from ⟨_, _, _, _, _, _, _, _, _, _, _, _, _, _, _, _, _, famVE, xL_InvalidCurves⟩).ox xsa_InvalidCurves xkC_InvalidCurves, ⟨xga_InvalidCurves, xgg_InvalidCurves, (show Lb.Abv K c_InvalidCurves c_PipeError Lb.veT from ⟨_, _, _, _, _, _, _, _, _, _, _, _, _, _, _, _, _, famVE, xL_InvalidCurves⟩).ex, (show Lb.Abv K c_InvalidCurves c_PipeError Lb.veT from ⟨_, _, _, _, _, _, _, _, _, _, _, _, _, _, _, _, _, famVE, xL_InvalidCurves⟩).hd, xca_InvalidCurves, cn_, ct_, (show Lb.Abv K c_InvalidCurves c_PipeError Lb.veT from ⟨_, _, _, _, _, _, _, _, _, _, _, _, _, _, _, _, _, famVE, xL_InvalidCurves⟩).mo⟩, a_InvalidCurves_init_, beq_iff_eq.mp i_InvalidCurves_init_⟩,
    nInvalidCurves := xnInvalidCurves,
    bInvalidFlows := ⟨_, _, _, _, _, _, _, _, _, _, _, _, _, _, _, _, _, famVE, xL_InvalidFlows⟩,
    xInvalidFlows := ⟨PySem.W.mg_of X G aC_InvalidFlows, (show Lb.Abv K c_InvalidFlows c_PipeError Lb.veT from ⟨_, _, _, _, _, _, _, _, _, _, _, _, _, _, _, _, _, famVE, xL_InvalidFlows⟩).ox xsa_InvalidFlows xkC_InvalidFlows, ⟨xga_InvalidFlows, xgg_InvalidFlows, (show Lb.Abv K c_InvalidFlows c_PipeError Lb.veT from ⟨_, _, _, _, _, _, _, _, _, _, _, _, _, _, _, _, _, famVE, xL_InvalidFlows⟩).ex, (show Lb.Abv K c_InvalidFlows c_PipeError Lb.veT from ⟨_, _, _, _, _, _, _, _, _, _, _, _, _, _, _, _, _, famVE, xL_InvalidFlows⟩).hd, xca_InvalidFlows, cn_, ct_, (show Lb.Abv K c_InvalidFlows c_PipeError Lb.veT from ⟨_, _, _, _, _, _, _, _, _, _, _, _, _, _, _, _, _, famVE, xL_InvalidFlows⟩).mo⟩, a_InvalidFlows_init_, beq_iff_eq.mp i_InvalidFlows_init_⟩,
    nInvalidFlows := xnInvalidFlows,
    bInvalidKinds := ⟨_, _, _, _, _, _, _, _, _, _, _, _, _, _, _, _, _, famVE, xL_InvalidKinds⟩,
    xInvalidKinds := ⟨PySem.W.mg_of X G aC_InvalidKinds, (show Lb.Abv K c_InvalidKinds c_PipeError Lb.veT from ⟨_, _, _, _, _, _, _, _, _, _, _, _, _, _, _, _, _, famVE, xL_InvalidKinds⟩).ox xsa_InvalidKinds xkC_InvalidKinds, ⟨xga_InvalidKinds, xgg_InvalidKinds, (show Lb.Abv K c_InvalidKinds c_PipeError Lb.veT from ⟨_, _, _, _, _, _, _, _, _, _, _, _, _, _, _, _, _, famVE, xL_InvalidKinds⟩).ex, (show Lb.Abv K c_InvalidKinds c_PipeError Lb.veT from ⟨_, _, _, _, _, _, _, _, _, _, _, _, _, _, _, _, _, famVE, xL_InvalidKinds⟩).hd, xca_InvalidKinds, cn_, ct_, (show Lb.Abv K c_InvalidKinds c_PipeError Lb.veT from ⟨_, _, _, _, _, _, _, _, _, _, _, _, _, _, _, _, _, famVE, xL_InvalidKinds⟩).mo⟩, a_InvalidKinds_init_, beq_iff_eq.mp i_InvalidKinds_init_⟩,
    nInvalidKinds := xnInvalidKinds,
    bIsBridge := ⟨_, _, _, _, _, _, _, _, _, _, _, _, _, _, _, _, _, famRE, xL_IsBridge⟩,
    xIsBridge := ⟨PySem.W.mg_of X G aC_IsBridge, (show Lb.Abv K c_IsBridge c_StateError Lb.reT from ⟨_, _, _, _, _, _, _, _, _, _, _, _, _, _, _, _, _, famRE, xL_IsBridge⟩).ox xsa_IsBridge xkC_IsBridge, ⟨xga_IsBridge, xgg_IsBridge, (show Lb.Abv K c_IsBridge c_StateError Lb.reT from ⟨_, _, _, _, _, _, _, _, _, _, _, _, _, _, _, _, _, famRE, xL_IsBridge⟩).ex, (show Lb.Abv K c_IsBridge c_StateError Lb.reT from ⟨_, _, _, _, _, _, _, _, _, _, _, _, _, _, _, _, _, famRE, xL_IsBridge⟩).hd, xca_IsBridge, cn_, ct_, (show Lb.Abv K c_IsBridge c_StateError Lb.reT from ⟨_, _, _, _, _, _, _, _, _, _, _, _, _, _, _, _, _, famRE, xL_IsBridge⟩).mo⟩, a_IsBridge_init_, beq_iff_eq.mp i_IsBridge_init_⟩,
    nIsBridge := xnIsBridge,
    bInvalidPipes := ⟨_, _, _, _, _, _, _, _, _, _, _, _, _, _, _, _, _, famVE, xL_InvalidPipes⟩,
    xInvalidPipes := ⟨PySem.W.mg_of X G aC_InvalidPipes, (show Lb.Abv K c_InvalidPipes c_PipeError Lb.veT from ⟨_, _, _, _, _, _, _, _, _, _, _, _, _, _, _, _, _, famVE, xL_InvalidPipes⟩).ox xsa_InvalidPipes xkC_InvalidPipes, ⟨xga_InvalidPipes, xgg_InvalidPipes, (show Lb.Abv K c_InvalidPipes c_PipeError Lb.veT from ⟨_, _, _, _, _, _, _, _, _, _, _, _, _, _, _, _, _, famVE, xL_InvalidPipes⟩).ex, (show Lb.Abv K c_InvalidPipes c_PipeError Lb.veT from ⟨_, _, _, _, _, _, _, _, _, _, _, _, _, _, _, _, _, famVE, xL_InvalidPipes⟩).hd, xca_InvalidPipes, cn_, ct_, (show Lb.Abv K c_InvalidPipes c_PipeError Lb.veT from ⟨_, _, _, _, _, _, _, _, _, _, _, _, _, _, _, _, _, famVE, xL_InvalidPipes⟩).mo⟩, a_InvalidPipes_init_, beq_iff_eq.mp i_InvalidPipes_init_⟩,
    nInvalidPipes := xnInvalidPipes,
    bUnbalanced := ⟨_, _, _, _, _, _, _, _, _, _, _, _, _, _, _, _, _, famVE, xL_Unbalanced⟩,
    xUnbalanced := ⟨PySem.W.mg_of X G aC_Unbalanced, (show Lb.Abv K c_Unbalanced c_PipeError Lb.veT from ⟨_, _, _, _, _, _, _, _, _, _, _, _, _, _, _, _, _, famVE, xL_Unbalanced⟩).ox xsa_Unbalanced xkC_Unbalanced, ⟨xga_Unbalanced, xgg_Unbalanced, (show Lb.Abv K c_Unbalanced c_PipeError Lb.veT from ⟨_, _, _, _, _, _, _, _, _, _, _, _, _, _, _, _, _, famVE, xL_Unbalanced⟩).ex, (show Lb.Abv K c_Unbalanced c_PipeError Lb.veT from ⟨_, _, _, _, _, _, _, _, _, _, _, _, _, _, _, _, _, famVE, xL_Unbalanced⟩).hd, xca_Unbalanced, cn_, ct_, (show Lb.Abv K c_Unbalanced c_PipeError Lb.veT from ⟨_, _, _, _, _, _, _, _, _, _, _, _, _, _, _, _, _, famVE, xL_Unbalanced⟩).mo⟩, a_Unbalanced_init_, beq_iff_eq.mp i_Unbalanced_init_⟩,
    nUnbalanced := xnUnbalanced,
    bInvalidText := ⟨_, _, _, _, _, _, _, _, _, _, _, _, _, _, _, _, _, famVE, xL_InvalidText⟩,
    xInvalidText := ⟨PySem.W.mg_of X G aC_InvalidText, (show Lb.Abv K c_InvalidText c_PipeError Lb.veT from ⟨_, _, _, _, _, _, _, _, _, _, _, _, _, _, _, _, _, famVE, xL_InvalidText⟩).ox xsa_InvalidText xkC_InvalidText, ⟨xga_InvalidText, xgg_InvalidText, (show Lb.Abv K c_InvalidText c_PipeError Lb.veT from ⟨_, _, _, _, _, _, _, _, _, _, _, _, _, _, _, _, _, famVE, xL_InvalidText⟩).ex, (show Lb.Abv K c_InvalidText c_PipeError Lb.veT from ⟨_, _, _, _, _, _, _, _, _, _, _, _, _, _, _, _, _, famVE, xL_InvalidText⟩).hd, xca_InvalidText, cn_, ct_, (show Lb.Abv K c_InvalidText c_PipeError Lb.veT from ⟨_, _, _, _, _, _, _, _, _, _, _, _, _, _, _, _, _, famVE, xL_InvalidText⟩).mo⟩, a_InvalidText_init_, beq_iff_eq.mp i_InvalidText_init_⟩,
    nInvalidText := xnInvalidText,
    bTooMany := ⟨_, _, _, _, _, _, _, _, _, _, _, _, _, _, _, _, _, famAE, xL_TooMany⟩,
    xTooMany := ⟨PySem.W.mg_of X G aC_TooMany, (show Lb.Abv K c_TooMany c_LimitError Lb.arTail from ⟨_, _, _, _, _, _, _, _, _, _, _, _, _, _, _, _, _, famAE, xL_TooMany⟩).ox xsa_TooMany xkC_TooMany, ⟨xga_TooMany, xgg_TooMany, (show Lb.Abv K c_TooMany c_LimitError Lb.arTail from ⟨_, _, _, _, _, _, _, _, _, _, _, _, _, _, _, _, _, famAE, xL_TooMany⟩).ex, (show Lb.Abv K c_TooMany c_LimitError Lb.arTail from ⟨_, _, _, _, _, _, _, _, _, _, _, _, _, _, _, _, _, famAE, xL_TooMany⟩).hd, xca_TooMany, cn_, ct_, (show Lb.Abv K c_TooMany c_LimitError Lb.arTail from ⟨_, _, _, _, _, _, _, _, _, _, _, _, _, _, _, _, _, famAE, xL_TooMany⟩).mo⟩, a_TooMany_init_, beq_iff_eq.mp i_TooMany_init_⟩,
    nTooMany := xnTooMany,
    n2TooMany := xn2TooMany,
    bBarred := ⟨_, _, _, _, _, _, _, _, _, _, _, _, _, _, _, _, _, famRE, xL_Barred⟩,
    xBarred := ⟨PySem.W.mg_of X G aC_Barred, (show Lb.Abv K c_Barred c_StateError Lb.reT from ⟨_, _, _, _, _, _, _, _, _, _, _, _, _, _, _, _, _, famRE, xL_Barred⟩).ox xsa_Barred xkC_Barred, ⟨xga_Barred, xgg_Barred, (show Lb.Abv K c_Barred c_StateError Lb.reT from ⟨_, _, _, _, _, _, _, _, _, _, _, _, _, _, _, _, _, famRE, xL_Barred⟩).ex, (show Lb.Abv K c_Barred c_StateError Lb.reT from ⟨_, _, _, _, _, _, _, _, _, _, _, _, _, _, _, _, _, famRE, xL_Barred⟩).hd, xca_Barred, cn_, ct_, (show Lb.Abv K c_Barred c_StateError Lb.reT from ⟨_, _, _, _, _, _, _, _, _, _, _, _, _, _, _, _, _, famRE, xL_Barred⟩).mo⟩, a_Barred_init_, beq_iff_eq.mp i_Barred_init_⟩,
    bNothingToUndo := ⟨_, _, _, _, _, _, _, _, _, _, _, _, _, _, _, _, _, famRE, xL_NothingToUndo⟩,
    xNothingToUndo := ⟨PySem.W.mg_of X G aC_NothingToUndo, (show Lb.Abv K c_NothingToUndo c_StateError Lb.reT from ⟨_, _, _, _, _, _, _, _, _, _, _, _, _, _, _, _, _, famRE, xL_NothingToUndo⟩).ox xsa_NothingToUndo xkC_NothingToUndo, ⟨xga_NothingToUndo, xgg_NothingToUndo, (show Lb.Abv K c_NothingToUndo c_StateError Lb.reT from ⟨_, _, _, _, _, _, _, _, _, _, _, _, _, _, _, _, _, famRE, xL_NothingToUndo⟩).ex, (show Lb.Abv K c_NothingToUndo c_StateError Lb.reT from ⟨_, _, _, _, _, _, _, _, _, _, _, _, _, _, _, _, _, famRE, xL_NothingToUndo⟩).hd, xca_NothingToUndo, cn_, ct_, (show Lb.Abv K c_NothingToUndo c_StateError Lb.reT from ⟨_, _, _, _, _, _, _, _, _, _, _, _, _, _, _, _, _, famRE, xL_NothingToUndo⟩).mo⟩, a_NothingToUndo_init_, beq_iff_eq.mp i_NothingToUndo_init_⟩,
    qPipeError := ⟨qi_PipeError, qt_PipeError, qe_PipeError⟩,
    mPipeError := PySem.W.mg_of X G aC_PipeError,
    qMissingError := ⟨qi_MissingError, qt_MissingError, qe_MissingError⟩,
    mMissingError := PySem.W.mg_of X G aC_MissingError,
    qStateError := ⟨qi_StateError, qt_StateError, qe_StateError⟩,
    mStateError := PySem.W.mg_of X G aC_StateError,
    qLimitError := ⟨qi_LimitError, qt_LimitError, qe_LimitError⟩,
    mLimitError := PySem.W.mg_of X G aC_LimitError,
    nd := nd_,
    b_len := PySem.W.mg_none_of X G z_len,
    b_abs := PySem.W.mg_none_of X G z_abs,
    b_max := PySem.W.mg_none_of X G z_max,
    b_min := PySem.W.mg_none_of X G z_min,
    b_int := PySem.W.mg_none_of X G z_int,
    b_divmod := PySem.W.mg_none_of X G z_divmod,
    b_all := PySem.W.mg_none_of X G z_all,
    b_repr := PySem.W.mg_none_of X G z_repr,
    b_isinstance := PySem.W.mg_none_of X G z_isinstance,
    b_range := PySem.W.mg_none_of X G z_range,
    b_enumerate := PySem.W.mg_none_of X G z_enumerate,
    b_bool := PySem.W.mg_none_of X G z_bool,
    b_ValueError := PySem.W.mg_none_of X G z_ValueError,
    b_LookupError := PySem.W.mg_none_of X G z_LookupError,
    b_RuntimeError := PySem.W.mg_none_of X G z_RuntimeError,
    b_ArithmeticError := PySem.W.mg_none_of X G z_ArithmeticError }
  refine ⟨_, [(cc_right, PP_right)], (fun p hp => by
    simp only [List.mem_cons, List.not_mem_nil, or_false] at hp
    rcases hp with rfl
    · exact ⟨_, _, rc_right, tb_right⟩), (fun p hp => by
    simp only [List.mem_cons, List.not_mem_nil, or_false] at hp
    rcases hp with rfl
    · exact nk_right), fun s v => (BindsTo.of_eq rfl : BindsTo s (PySem.W.fnOf "law" "law" (defArgs s_law) (defBody s_law) (defScope s_law) .none kV_52 dc_52 pm_52 an_52 cd_52 ct_52) ⟨[v], []⟩ [("_law_script", v)]), fun base _ _ TB => law_imp (ok_law T (TB _ List.mem_cons_self))⟩
theorem walk {l : PySem.W.OpenLaw} {q : Program} {loose : List Str} {XP : (Str → Option Value) → Heap → Prop} {YP : World → Heap → Prop} {d : PySem.DefRec} {K : Params → PySem.W.Frag} (hn : l.most = some 63) (hdf : d.params.defaults = [])
    (hY : ∀ (w : World) (h : Heap), YP w h → (K w.params).In h)
    (F : ∀ (w : World) (mg : Str → Option Value) (fa : Addr) (h : Heap), (K w.params).In h → h.Ns mainGlobals mg → mg d.name = some (.ref fa) →
      ∃ (fd : FuncData) (cs : List (Addr × Addr)), (∀ p ∈ cs, ∃ (y : Str) (dd : PySem.DefRec), (PyProof.Rows.recsOf q).find? (fun e => e.name == y) = some dd ∧ PySem.W.tabIn (K w.params) y = some p) ∧ (∀ p ∈ cs, (K w.params).lookup p.2 = none) ∧
        (∀ (s : Shared) (u : Value), BindsTo s fd ⟨[u], []⟩ [("_law_script", u)]) ∧
        ∀ base : Heap, (K w.params).In base → base.Ns mainGlobals mg → (∀ p ∈ cs, LamX.TabB base mg p.1 p.2) → FnG l.prog w (K w.params) mg base CX0 9 fa fd ["_law_script"] (spL (K w.params) cs)) :
    PySem.W.WalkO q loose XP YP l.row.toRowW d [] (fun f vs => PySem.call f vs) :=
  Lb.walkTG (n := 63) (k := 9) (x := "_law_script") (sp := fun K cs => spL K cs) hn (by decide) hdf ⟨rfl, by decide, by decide⟩ hY F (fun K cs H a ns hl hH hS => ⟨a, ns, rfl, hS, hl, hH, fun _ => rfl⟩)
end K10

open PySem PySem.W PyProof.Rows in
set_option maxRecDepth 100000 in
set_option maxHeartbeats 0 in
theorem PySem.Challenge.cw_surepipes_k10_errors_made_holds : PySem.Challenge.rw_surepipes_k10_errors_made.Holds := by
  refine HRt.hd ?_
  k_fill
  refine K10.walk (l := PySem.Challenge.rw_surepipes_k10_errors_made) rfl rfl (fun w h Y => PySem.W.km_in_of Y) ?F
  case F =>
    intro w mg fa h KX G hmg
    refine' K10.all_mk KX G hmg ?aC_Amount ?aC_InvalidInteger ?aC_InvalidAmount ?aC_InvalidOrder ?aC_InvalidWord ?aC_InvalidPlace ?aC_InvalidClaim ?aC_InvalidLine ?aC_UnknownPipe ?aC_UnknownNode ?aC_UnknownPole ?aC_UnknownKind ?aC_UnknownReading ?aC_NotSure ?aC_InvalidPoints ?aC_InvalidLevels ?aC_InvalidReading ?aC_InvalidStates ?aC_NotConnected ?aC_InvalidDemands ?aC_InvalidPoles ?aC_InvalidHeights ?aC_InvalidConductances ?aC_InvalidCurves ?aC_InvalidFlows ?aC_InvalidKinds ?aC_IsBridge ?aC_InvalidPipes ?aC_Unbalanced ?aC_InvalidText ?aC_TooMany ?aC_Barred ?aC_NothingToUndo ?aC_PipeError ?aC_MissingError ?aC_StateError ?aC_LimitError ?a_InvalidInteger_init_ ?i_InvalidInteger_init_ ?l_InvalidInteger_init_ ?k1_InvalidInteger_init_ ?k2_InvalidInteger_init_ ?a_InvalidAmount_init_ ?i_InvalidAmount_init_ ?l_InvalidAmount_init_ ?k1_InvalidAmount_init_ ?k2_InvalidAmount_init_ ?a_InvalidOrder_init_ ?i_InvalidOrder_init_ ?l_InvalidOrder_init_ ?k1_InvalidOrder_init_ ?k2_InvalidOrder_init_ ?a_InvalidWord_init_ ?i_InvalidWord_init_ ?l_InvalidWord_init_ ?k1_InvalidWord_init_ ?k2_InvalidWord_init_ ?a_InvalidPlace_init_ ?i_InvalidPlace_init_ ?l_InvalidPlace_init_ ?k1_InvalidPlace_init_ ?k2_InvalidPlace_init_ ?a_InvalidClaim_init_ ?i_InvalidClaim_init_ ?l_InvalidClaim_init_ ?k1_InvalidClaim_init_ ?k2_InvalidClaim_init_ ?a_InvalidLine_init_ ?i_InvalidLine_init_ ?l_InvalidLine_init_ ?k1_InvalidLine_init_ ?k2_InvalidLine_init_ ?a_UnknownPipe_init_ ?i_UnknownPipe_init_ ?l_UnknownPipe_init_ ?k1_UnknownPipe_init_ ?k2_UnknownPipe_init_ ?a_UnknownNode_init_ ?i_UnknownNode_init_ ?l_UnknownNode_init_ ?k1_UnknownNode_init_ ?k2_UnknownNode_init_ ?a_UnknownPole_init_ ?i_UnknownPole_init_ ?l_UnknownPole_init_ ?k1_UnknownPole_init_ ?k2_UnknownPole_init_ ?a_UnknownKind_init_ ?i_UnknownKind_init_ ?l_UnknownKind_init_ ?k1_UnknownKind_init_ ?k2_UnknownKind_init_ ?a_UnknownReading_init_ ?i_UnknownReading_init_ ?l_UnknownReading_init_ ?k1_UnknownReading_init_ ?k2_UnknownReading_init_ ?a_NotSure_init_ ?i_NotSure_init_ ?l_NotSure_init_ ?k1_NotSure_init_ ?k2_NotSure_init_ ?a_InvalidPoints_init_ ?i_InvalidPoints_init_ ?l_InvalidPoints_init_ ?k1_InvalidPoints_init_ ?k2_InvalidPoints_init_ ?a_InvalidLevels_init_ ?i_InvalidLevels_init_ ?l_InvalidLevels_init_ ?k1_InvalidLevels_init_ ?k2_InvalidLevels_init_ ?a_InvalidReading_init_ ?i_InvalidReading_init_ ?l_InvalidReading_init_ ?k1_InvalidReading_init_ ?k2_InvalidReading_init_ ?a_InvalidStates_init_ ?i_InvalidStates_init_ ?l_InvalidStates_init_ ?k1_InvalidStates_init_ ?k2_InvalidStates_init_ ?a_NotConnected_init_ ?i_NotConnected_init_ ?l_NotConnected_init_ ?k1_NotConnected_init_ ?k2_NotConnected_init_ ?a_InvalidDemands_init_ ?i_InvalidDemands_init_ ?l_InvalidDemands_init_ ?k1_InvalidDemands_init_ ?k2_InvalidDemands_init_ ?a_InvalidPoles_init_ ?i_InvalidPoles_init_ ?l_InvalidPoles_init_ ?k1_InvalidPoles_init_ ?k2_InvalidPoles_init_ ?a_InvalidHeights_init_ ?i_InvalidHeights_init_ ?l_InvalidHeights_init_ ?k1_InvalidHeights_init_ ?k2_InvalidHeights_init_ ?a_InvalidConductances_init_ ?i_InvalidConductances_init_ ?l_InvalidConductances_init_ ?k1_InvalidConductances_init_ ?k2_InvalidConductances_init_ ?a_InvalidCurves_init_ ?i_InvalidCurves_init_ ?l_InvalidCurves_init_ ?k1_InvalidCurves_init_ ?k2_InvalidCurves_init_ ?a_InvalidFlows_init_ ?i_InvalidFlows_init_ ?l_InvalidFlows_init_ ?k1_InvalidFlows_init_ ?k2_InvalidFlows_init_ ?a_InvalidKinds_init_ ?i_InvalidKinds_init_ ?l_InvalidKinds_init_ ?k1_InvalidKinds_init_ ?k2_InvalidKinds_init_ ?a_IsBridge_init_ ?i_IsBridge_init_ ?l_IsBridge_init_ ?k1_IsBridge_init_ ?k2_IsBridge_init_ ?a_InvalidPipes_init_ ?i_InvalidPipes_init_ ?l_InvalidPipes_init_ ?k1_InvalidPipes_init_ ?k2_InvalidPipes_init_ ?a_Unbalanced_init_ ?i_Unbalanced_init_ ?l_Unbalanced_init_ ?k1_Unbalanced_init_ ?k2_Unbalanced_init_ ?a_InvalidText_init_ ?i_InvalidText_init_ ?l_InvalidText_init_ ?k1_InvalidText_init_ ?k2_InvalidText_init_ ?a_TooMany_init_ ?i_TooMany_init_ ?l_TooMany_init_ ?k1_TooMany_init_ ?k2_TooMany_init_ ?a_Barred_init_ ?i_Barred_init_ ?l_Barred_init_ ?k1_Barred_init_ ?k2_Barred_init_ ?a_NothingToUndo_init_ ?i_NothingToUndo_init_ ?l_NothingToUndo_init_ ?k1_NothingToUndo_init_ ?k2_NothingToUndo_init_ ?a_is_integer ?l_is_integer ?k1_is_integer ?k2_is_integer ?a_amount_of ?l_amount_of ?k1_amount_of ?k2_amount_of ?a_Amount_init_ ?i_Amount_init_ ?l_Amount_init_ ?k1_Amount_init_ ?k2_Amount_init_ ?dl_Amount_init_ ?do_Amount_init_ ?dv_Amount_init_ ?a_Amount_eq_ ?i_Amount_eq_ ?l_Amount_eq_ ?k1_Amount_eq_ ?k2_Amount_eq_ ?a_pot ?l_pot ?k1_pot ?k2_pot ?a_draw ?l_draw ?k1_draw ?k2_draw ?a_choice ?l_choice ?k1_choice ?k2_choice ?a_parts ?l_parts ?k1_parts ?k2_parts ?a_with_value ?l_with_value ?k1_with_value ?k2_with_value ?a_with_position ?l_with_position ?k1_with_position ?k2_with_position ?a_with_node ?l_with_node ?k1_with_node ?k2_with_node ?a_with_pipe ?l_with_pipe ?k1_with_pipe ?k2_with_pipe ?a_others ?l_others ?k1_others ?k2_others ?a_row ?l_row ?k1_row ?k2_row ?a_marks ?l_marks ?k1_marks ?k2_marks ?a_above_right ?l_above_right ?k1_above_right ?k2_above_right ?a_parts_right ?l_parts_right ?k1_parts_right ?k2_parts_right ?a_caught ?l_caught ?k1_caught ?k2_caught ?a_raised ?l_raised ?k1_raised ?k2_raised ?a_right ?l_right ?k1_right ?k2_right ?a_law ?l_law ?k1_law ?k2_law ?pgA ?hdA ?poA ?saA ?nTA ?nBA ?mkA_ ?kcA ?gcd_ ?ca_ ?cn_ ?ct_ ?cm_ ?ic_ ?it_ ?sb_NoneType ?sb_bool ?sb_int ?sb_str ?sb_list ?sb_tuple ?sb_dict ?sI_ ?xL_InvalidInteger ?xsa_InvalidInteger ?xkC_InvalidInteger ?xga_InvalidInteger ?xgg_InvalidInteger ?xca_InvalidInteger ?xnInvalidInteger ?xL_InvalidAmount ?xsa_InvalidAmount ?xkC_InvalidAmount ?xga_InvalidAmount ?xgg_InvalidAmount ?xca_InvalidAmount ?xnInvalidAmount ?xL_InvalidOrder ?xsa_InvalidOrder ?xkC_InvalidOrder ?xga_InvalidOrder ?xgg_InvalidOrder ?xca_InvalidOrder ?xnInvalidOrder ?xL_InvalidWord ?xsa_InvalidWord ?xkC_InvalidWord ?xga_InvalidWord ?xgg_InvalidWord ?xca_InvalidWord ?xnInvalidWord ?xL_InvalidPlace ?xsa_InvalidPlace ?xkC_InvalidPlace ?xga_InvalidPlace ?xgg_InvalidPlace ?xca_InvalidPlace ?xnInvalidPlace ?xL_InvalidClaim ?xsa_InvalidClaim ?xkC_InvalidClaim ?xga_InvalidClaim ?xgg_InvalidClaim ?xca_InvalidClaim ?xnInvalidClaim ?xL_InvalidLine ?xsa_InvalidLine ?xkC_InvalidLine ?xga_InvalidLine ?xgg_InvalidLine ?xca_InvalidLine ?xnInvalidLine ?xL_UnknownPipe ?xsa_UnknownPipe ?xkC_UnknownPipe ?xga_UnknownPipe ?xgg_UnknownPipe ?xca_UnknownPipe ?xnUnknownPipe ?xL_UnknownNode ?xsa_UnknownNode ?xkC_UnknownNode ?xga_UnknownNode ?xgg_UnknownNode ?xca_UnknownNode ?xnUnknownNode ?xL_UnknownPole ?xsa_UnknownPole ?xkC_UnknownPole ?xga_UnknownPole ?xgg_UnknownPole ?xca_UnknownPole ?xnUnknownPole ?xL_UnknownKind ?xsa_UnknownKind ?xkC_UnknownKind ?xga_UnknownKind ?xgg_UnknownKind ?xca_UnknownKind ?xnUnknownKind ?xL_UnknownReading ?xsa_UnknownReading ?xkC_UnknownReading ?xga_UnknownReading ?xgg_UnknownReading ?xca_UnknownReading ?xnUnknownReading ?xL_NotSure ?xsa_NotSure ?xkC_NotSure ?xga_NotSure ?xgg_NotSure ?xca_NotSure ?xnNotSure ?xL_InvalidPoints ?xsa_InvalidPoints ?xkC_InvalidPoints ?xga_InvalidPoints ?xgg_InvalidPoints ?xca_InvalidPoints ?xnInvalidPoints ?xL_InvalidLevels ?xsa_InvalidLevels ?xkC_InvalidLevels ?xga_InvalidLevels ?xgg_InvalidLevels ?xca_InvalidLevels ?xnInvalidLevels ?xL_InvalidReading ?xsa_InvalidReading ?xkC_InvalidReading ?xga_InvalidReading ?xgg_InvalidReading ?xca_InvalidReading ?xnInvalidReading ?xL_InvalidStates ?xsa_InvalidStates ?xkC_InvalidStates ?xga_InvalidStates ?xgg_InvalidStates ?xca_InvalidStates ?xnInvalidStates ?xL_NotConnected ?xsa_NotConnected ?xkC_NotConnected ?xga_NotConnected ?xgg_NotConnected ?xca_NotConnected ?xnNotConnected ?xL_InvalidDemands ?xsa_InvalidDemands ?xkC_InvalidDemands ?xga_InvalidDemands ?xgg_InvalidDemands ?xca_InvalidDemands ?xnInvalidDemands ?xL_InvalidPoles ?xsa_InvalidPoles ?xkC_InvalidPoles ?xga_InvalidPoles ?xgg_InvalidPoles ?xca_InvalidPoles ?xnInvalidPoles ?xL_InvalidHeights ?xsa_InvalidHeights ?xkC_InvalidHeights ?xga_InvalidHeights ?xgg_InvalidHeights ?xca_InvalidHeights ?xnInvalidHeights ?xL_InvalidConductances ?xsa_InvalidConductances ?xkC_InvalidConductances ?xga_InvalidConductances ?xgg_InvalidConductances ?xca_InvalidConductances ?xnInvalidConductances ?xL_InvalidCurves ?xsa_InvalidCurves ?xkC_InvalidCurves ?xga_InvalidCurves ?xgg_InvalidCurves ?xca_InvalidCurves ?xnInvalidCurves ?xL_InvalidFlows ?xsa_InvalidFlows ?xkC_InvalidFlows ?xga_InvalidFlows ?xgg_InvalidFlows ?xca_InvalidFlows ?xnInvalidFlows ?xL_InvalidKinds ?xsa_InvalidKinds ?xkC_InvalidKinds ?xga_InvalidKinds ?xgg_InvalidKinds ?xca_InvalidKinds ?xnInvalidKinds ?xL_IsBridge ?xsa_IsBridge ?xkC_IsBridge ?xga_IsBridge ?xgg_IsBridge ?xca_IsBridge ?xnIsBridge ?xL_InvalidPipes ?xsa_InvalidPipes ?xkC_InvalidPipes ?xga_InvalidPipes ?xgg_InvalidPipes ?xca_InvalidPipes ?xnInvalidPipes ?xL_Unbalanced ?xsa_Unbalanced ?xkC_Unbalanced ?xga_Unbalanced ?xgg_Unbalanced ?xca_Unbalanced ?xnUnbalanced ?xL_InvalidText ?xsa_InvalidText ?xkC_InvalidText ?xga_InvalidText ?xgg_InvalidText ?xca_InvalidText ?xnInvalidText ?xL_TooMany ?xsa_TooMany ?xkC_TooMany ?xga_TooMany ?xgg_TooMany ?xca_TooMany ?xnTooMany ?xn2TooMany ?xL_Barred ?xsa_Barred ?xkC_Barred ?xga_Barred ?xgg_Barred ?xca_Barred ?xL_NothingToUndo ?xsa_NothingToUndo ?xkC_NothingToUndo ?xga_NothingToUndo ?xgg_NothingToUndo ?xca_NothingToUndo ?qi_PipeError ?qt_PipeError ?qe_PipeError ?qi_MissingError ?qt_MissingError ?qe_MissingError ?qi_StateError ?qt_StateError ?qe_StateError ?qi_LimitError ?qt_LimitError ?qe_LimitError ?nd_ ?tb_right ?nk_right ?rc_right ?z_len ?z_abs ?z_max ?z_min ?z_int ?z_divmod ?z_all ?z_repr ?z_isinstance ?z_range ?z_enumerate ?z_bool ?z_ValueError ?z_LookupError ?z_RuntimeError ?z_ArithmeticError
    (case aC_Amount => k_is)
    (case aC_InvalidInteger => k_is)
    (case aC_InvalidAmount => k_is)
    (case aC_InvalidOrder => k_is)
    (case aC_InvalidWord => k_is)
    (case aC_InvalidPlace => k_is)
    (case aC_InvalidClaim => k_is)
    (case aC_InvalidLine => k_is)
    (case aC_UnknownPipe => k_is)
    (case aC_UnknownNode => k_is)
    (case aC_UnknownPole => k_is)
    (case aC_UnknownKind => k_is)
    (case aC_UnknownReading => k_is)
    (case aC_NotSure => k_is)
    (case aC_InvalidPoints => k_is)
    (case aC_InvalidLevels => k_is)
    (case aC_InvalidReading => k_is)
    (case aC_InvalidStates => k_is)
    (case aC_NotConnected => k_is)
    (case aC_InvalidDemands => k_is)
    (case aC_InvalidPoles => k_is)
    (case aC_InvalidHeights => k_is)
    (case aC_InvalidConductances => k_is)
    (case aC_InvalidCurves => k_is)
    (case aC_InvalidFlows => k_is)
    (case aC_InvalidKinds => k_is)
    (case aC_IsBridge => k_is)
    (case aC_InvalidPipes => k_is)
    (case aC_Unbalanced => k_is)
    (case aC_InvalidText => k_is)
    (case aC_TooMany => k_is)
    (case aC_Barred => k_is)
    (case aC_NothingToUndo => k_is)
    (case aC_PipeError => k_is)
    (case aC_MissingError => k_is)
    (case aC_StateError => k_is)
    (case aC_LimitError => k_is)
    (case a_InvalidInteger_init_ => k_is)
    (case i_InvalidInteger_init_ => k_is)
    (case l_InvalidInteger_init_ => k_is)
    (case k1_InvalidInteger_init_ => k_is)
    (case k2_InvalidInteger_init_ => k_is)
    (case a_InvalidAmount_init_ => k_is)
    (case i_InvalidAmount_init_ => k_is)
    (case l_InvalidAmount_init_ => k_is)
    (case k1_InvalidAmount_init_ => k_is)
    (case k2_InvalidAmount_init_ => k_is)
    (case a_InvalidOrder_init_ => k_is)
    (case i_InvalidOrder_init_ => k_is)
    (case l_InvalidOrder_init_ => k_is)
    (case k1_InvalidOrder_init_ => k_is)
    (case k2_InvalidOrder_init_ => k_is)
    (case a_InvalidWord_init_ => k_is)
    (case i_InvalidWord_init_ => k_is)
    (case l_InvalidWord_init_ => k_is)
    (case k1_InvalidWord_init_ => k_is)
    (case k2_InvalidWord_init_ => k_is)
    (case a_InvalidPlace_init_ => k_is)
    (case i_InvalidPlace_init_ => k_is)
    (case l_InvalidPlace_init_ => k_is)
    (case k1_InvalidPlace_init_ => k_is)
    (case k2_InvalidPlace_init_ => k_is)
    (case a_InvalidClaim_init_ => k_is)
    (case i_InvalidClaim_init_ => k_is)
    (case l_InvalidClaim_init_ => k_is)
    (case k1_InvalidClaim_init_ => k_is)
    (case k2_InvalidClaim_init_ => k_is)
    (case a_InvalidLine_init_ => k_is)
    (case i_InvalidLine_init_ => k_is)
    (case l_InvalidLine_init_ => k_is)
    (case k1_InvalidLine_init_ => k_is)
    (case k2_InvalidLine_init_ => k_is)
    (case a_UnknownPipe_init_ => k_is)
    (case i_UnknownPipe_init_ => k_is)
    (case l_UnknownPipe_init_ => k_is)
    (case k1_UnknownPipe_init_ => k_is)
    (case k2_UnknownPipe_init_ => k_is)
    (case a_UnknownNode_init_ => k_is)
    (case i_UnknownNode_init_ => k_is)
    (case l_UnknownNode_init_ => k_is)
    (case k1_UnknownNode_init_ => k_is)
    (case k2_UnknownNode_init_ => k_is)
    (case a_UnknownPole_init_ => k_is)
    (case i_UnknownPole_init_ => k_is)
    (case l_UnknownPole_init_ => k_is)
    (case k1_UnknownPole_init_ => k_is)
    (case k2_UnknownPole_init_ => k_is)
    (case a_UnknownKind_init_ => k_is)
    (case i_UnknownKind_init_ => k_is)
    (case l_UnknownKind_init_ => k_is)
    (case k1_UnknownKind_init_ => k_is)
    (case k2_UnknownKind_init_ => k_is)
    (case a_UnknownReading_init_ => k_is)
    (case i_UnknownReading_init_ => k_is)
    (case l_UnknownReading_init_ => k_is)
    (case k1_UnknownReading_init_ => k_is)
    (case k2_UnknownReading_init_ => k_is)
    (case a_NotSure_init_ => k_is)
    (case i_NotSure_init_ => k_is)
    (case l_NotSure_init_ => k_is)
    (case k1_NotSure_init_ => k_is)
    (case k2_NotSure_init_ => k_is)
    (case a_InvalidPoints_init_ => k_is)
    (case i_InvalidPoints_init_ => k_is)
    (case l_InvalidPoints_init_ => k_is)
    (case k1_InvalidPoints_init_ => k_is)
    (case k2_InvalidPoints_init_ => k_is)
    (case a_InvalidLevels_init_ => k_is)
    (case i_InvalidLevels_init_ => k_is)
    (case l_InvalidLevels_init_ => k_is)
    (case k1_InvalidLevels_init_ => k_is)
    (case k2_InvalidLevels_init_ => k_is)
    (case a_InvalidReading_init_ => k_is)
    (case i_InvalidReading_init_ => k_is)
    (case l_InvalidReading_init_ => k_is)
    (case k1_InvalidReading_init_ => k_is)
    (case k2_InvalidReading_init_ => k_is)
    (case a_InvalidStates_init_ => k_is)
    (case i_InvalidStates_init_ => k_is)
    (case l_InvalidStates_init_ => k_is)
    (case k1_InvalidStates_init_ => k_is)
    (case k2_InvalidStates_init_ => k_is)
    (case a_NotConnected_init_ => k_is)
    (case i_NotConnected_init_ => k_is)
    (case l_NotConnected_init_ => k_is)
    (case k1_NotConnected_init_ => k_is)
    (case k2_NotConnected_init_ => k_is)
    (case a_InvalidDemands_init_ => k_is)
    (case i_InvalidDemands_init_ => k_is)
    (case l_InvalidDemands_init_ => k_is)
    (case k1_InvalidDemands_init_ => k_is)
    (case k2_InvalidDemands_init_ => k_is)
    (case a_InvalidPoles_init_ => k_is)
    (case i_InvalidPoles_init_ => k_is)
    (case l_InvalidPoles_init_ => k_is)
    (case k1_InvalidPoles_init_ => k_is)
    (case k2_InvalidPoles_init_ => k_is)
    (case a_InvalidHeights_init_ => k_is)
    (case i_InvalidHeights_init_ => k_is)
    (case l_InvalidHeights_init_ => k_is)
    (case k1_InvalidHeights_init_ => k_is)
    (case k2_InvalidHeights_init_ => k_is)
    (case a_InvalidConductances_init_ => k_is)
    (case i_InvalidConductances_init_ => k_is)
    (case l_InvalidConductances_init_ => k_is)
    (case k1_InvalidConductances_init_ => k_is)
    (case k2_InvalidConductances_init_ => k_is)
    (case a_InvalidCurves_init_ => k_is)
    (case i_InvalidCurves_init_ => k_is)
    (case l_InvalidCurves_init_ => k_is)
    (case k1_InvalidCurves_init_ => k_is)
    (case k2_InvalidCurves_init_ => k_is)
    (case a_InvalidFlows_init_ => k_is)
    (case i_InvalidFlows_init_ => k_is)
    (case l_InvalidFlows_init_ => k_is)
    (case k1_InvalidFlows_init_ => k_is)
    (case k2_InvalidFlows_init_ => k_is)
    (case a_InvalidKinds_init_ => k_is)
    (case i_InvalidKinds_init_ => k_is)
    (case l_InvalidKinds_init_ => k_is)
    (case k1_InvalidKinds_init_ => k_is)
    (case k2_InvalidKinds_init_ => k_is)
    (case a_IsBridge_init_ => k_is)
    (case i_IsBridge_init_ => k_is)
    (case l_IsBridge_init_ => k_is)
    (case k1_IsBridge_init_ => k_is)
    (case k2_IsBridge_init_ => k_is)
    (case a_InvalidPipes_init_ => k_is)
    (case i_InvalidPipes_init_ => k_is)
    (case l_InvalidPipes_init_ => k_is)
    (case k1_InvalidPipes_init_ => k_is)
    (case k2_InvalidPipes_init_ => k_is)
    (case a_Unbalanced_init_ => k_is)
    (case i_Unbalanced_init_ => k_is)
    (case l_Unbalanced_init_ => k_is)
    (case k1_Unbalanced_init_ => k_is)
    (case k2_Unbalanced_init_ => k_is)
    (case a_InvalidText_init_ => k_is)
    (case i_InvalidText_init_ => k_is)
    (case l_InvalidText_init_ => k_is)
    (case k1_InvalidText_init_ => k_is)
    (case k2_InvalidText_init_ => k_is)
    (case a_TooMany_init_ => k_is)
    (case i_TooMany_init_ => k_is)
    (case l_TooMany_init_ => k_is)
    (case k1_TooMany_init_ => k_is)
    (case k2_TooMany_init_ => k_is)
    (case a_Barred_init_ => k_is)
    (case i_Barred_init_ => k_is)
    (case l_Barred_init_ => k_is)
    (case k1_Barred_init_ => k_is)
    (case k2_Barred_init_ => k_is)
    (case a_NothingToUndo_init_ => k_is)
    (case i_NothingToUndo_init_ => k_is)
    (case l_NothingToUndo_init_ => k_is)
    (case k1_NothingToUndo_init_ => k_is)
    (case k2_NothingToUndo_init_ => k_is)
    (case a_is_integer => k_is)
    (case l_is_integer => k_is)
    (case k1_is_integer => k_is)
    (case k2_is_integer => k_is)
    (case a_amount_of => k_is)
    (case l_amount_of => k_is)
    (case k1_amount_of => k_is)
    (case k2_amount_of => k_is)
    (case a_Amount_init_ => k_is)
    (case i_Amount_init_ => k_is)
    (case l_Amount_init_ => k_is)
    (case k1_Amount_init_ => k_is)
    (case k2_Amount_init_ => k_is)
    (case dl_Amount_init_ => k_is)
    (case do_Amount_init_ => rfl)
    (case dv_Amount_init_ => exact .cons ⟨_, rfl⟩ .nil)
    (case a_Amount_eq_ => k_is)
    (case i_Amount_eq_ => k_is)
    (case l_Amount_eq_ => k_is)
    (case k1_Amount_eq_ => k_is)
    (case k2_Amount_eq_ => k_is)
    (case a_pot => k_is)
    (case l_pot => k_is)
    (case k1_pot => k_is)
    (case k2_pot => k_is)
    (case a_draw => k_is)
    (case l_draw => k_is)
    (case k1_draw => k_is)
    (case k2_draw => k_is)
    (case a_choice => k_is)
    (case l_choice => k_is)
    (case k1_choice => k_is)
    (case k2_choice => k_is)
    (case a_parts => k_is)
    (case l_parts => k_is)
    (case k1_parts => k_is)
    (case k2_parts => k_is)
    (case a_with_value => k_is)
    (case l_with_value => k_is)
    (case k1_with_value => k_is)
    (case k2_with_value => k_is)
    (case a_with_position => k_is)
    (case l_with_position => k_is)
    (case k1_with_position => k_is)
    (case k2_with_position => k_is)
    (case a_with_node => k_is)
    (case l_with_node => k_is)
    (case k1_with_node => k_is)
    (case k2_with_node => k_is)
    (case a_with_pipe => k_is)
    (case l_with_pipe => k_is)
    (case k1_with_pipe => k_is)
    (case k2_with_pipe => k_is)
    (case a_others => k_is)
    (case l_others => k_is)
    (case k1_others => k_is)
    (case k2_others => k_is)
    (case a_row => k_is)
    (case l_row => k_is)
    (case k1_row => k_is)
    (case k2_row => k_is)
    (case a_marks => k_is)
    (case l_marks => k_is)
    (case k1_marks => k_is)
    (case k2_marks => k_is)
    (case a_above_right => k_is)
    (case l_above_right => k_is)
    (case k1_above_right => k_is)
    (case k2_above_right => k_is)
    (case a_parts_right => k_is)
    (case l_parts_right => k_is)
    (case k1_parts_right => k_is)
    (case k2_parts_right => k_is)
    (case a_caught => k_is)
    (case l_caught => k_is)
    (case k1_caught => k_is)
    (case k2_caught => k_is)
    (case a_raised => k_is)
    (case l_raised => k_is)
    (case k1_raised => k_is)
    (case k2_raised => k_is)
    (case a_right => k_is)
    (case l_right => k_is)
    (case k1_right => k_is)
    (case k2_right => k_is)
    (case a_law => k_is)
    (case l_law => k_is)
    (case k1_law => k_is)
    (case k2_law => k_is)
    (case pgA => k_is)
    (case hdA => k_is)
    (case poA => k_is)
    (case saA => k_is)
    (case nTA => k_is)
    (case nBA => k_is)
    (case mkA_ => k_is)
    (case kcA => k_is)
    (case gcd_ => k_is)
    (case ca_ => k_is)
    (case cn_ => k_is)
    (case ct_ => k_is)
    (case cm_ => k_is)
    (case ic_ => k_is)
    (case it_ => k_is)
    (case sb_NoneType => k_is)
    (case sb_bool => k_is)
    (case sb_int => k_is)
    (case sb_str => k_is)
    (case sb_list => k_is)
    (case sb_tuple => k_is)
    (case sb_dict => k_is)
    (case sI_ => k_is)
    (case xL_InvalidInteger => k_is)
    (case xsa_InvalidInteger => k_is)
    (case xkC_InvalidInteger => k_is)
    (case xga_InvalidInteger => k_is)
    (case xgg_InvalidInteger => k_is)
    (case xca_InvalidInteger => k_is)
    (case xnInvalidInteger => k_is)
    (case xL_InvalidAmount => k_is)
    (case xsa_InvalidAmount => k_is)
    (case xkC_InvalidAmount => k_is)
    (case xga_InvalidAmount => k_is)
    (case xgg_InvalidAmount => k_is)
    (case xca_InvalidAmount => k_is)
    (case xnInvalidAmount => k_is)
    (case xL_InvalidOrder => k_is)
    (case xsa_InvalidOrder => k_is)
    (case xkC_InvalidOrder => k_is)
    (case xga_InvalidOrder => k_is)
    (case xgg_InvalidOrder => k_is)
    (case xca_InvalidOrder => k_is)
    (case xnInvalidOrder => k_is)
    (case xL_InvalidWord => k_is)
    (case xsa_InvalidWord => k_is)
    (case xkC_InvalidWord => k_is)
    (case xga_InvalidWord => k_is)
    (case xgg_InvalidWord => k_is)
    (case xca_InvalidWord => k_is)
    (case xnInvalidWord => k_is)
    (case xL_InvalidPlace => k_is)
    (case xsa_InvalidPlace => k_is)
    (case xkC_InvalidPlace => k_is)
    (case xga_InvalidPlace => k_is)
    (case xgg_InvalidPlace => k_is)
    (case xca_InvalidPlace => k_is)
    (case xnInvalidPlace => k_is)
    (case xL_InvalidClaim => k_is)
    (case xsa_InvalidClaim => k_is)
    (case xkC_InvalidClaim => k_is)
    (case xga_InvalidClaim => k_is)
    (case xgg_InvalidClaim => k_is)
    (case xca_InvalidClaim => k_is)
    (case xnInvalidClaim => k_is)
    (case xL_InvalidLine => k_is)
    (case xsa_InvalidLine => k_is)
    (case xkC_InvalidLine => k_is)
    (case xga_InvalidLine => k_is)
    (case xgg_InvalidLine => k_is)
    (case xca_InvalidLine => k_is)
    (case xnInvalidLine => k_is)
    (case xL_UnknownPipe => k_is)
    (case xsa_UnknownPipe => k_is)
    (case xkC_UnknownPipe => k_is)
    (case xga_UnknownPipe => k_is)
    (case xgg_UnknownPipe => k_is)
    (case xca_UnknownPipe => k_is)
    (case xnUnknownPipe => k_is)
    (case xL_UnknownNode => k_is)
    (case xsa_UnknownNode => k_is)
    (case xkC_UnknownNode => k_is)
    (case xga_UnknownNode => k_is)
    (case xgg_UnknownNode => k_is)
    (case xca_UnknownNode => k_is)
    (case xnUnknownNode => k_is)
    (case xL_UnknownPole => k_is)
    (case xsa_UnknownPole => k_is)
    (case xkC_UnknownPole => k_is)
    (case xga_UnknownPole => k_is)
    (case xgg_UnknownPole => k_is)
    (case xca_UnknownPole => k_is)
    (case xnUnknownPole => k_is)
    (case xL_UnknownKind => k_is)
    (case xsa_UnknownKind => k_is)
    (case xkC_UnknownKind => k_is)
    (case xga_UnknownKind => k_is)
    (case xgg_UnknownKind => k_is)
    (case xca_UnknownKind => k_is)
    (case xnUnknownKind => k_is)
    (case xL_UnknownReading => k_is)
    (case xsa_UnknownReading => k_is)
    (case xkC_UnknownReading => k_is)
    (case xga_UnknownReading => k_is)
    (case xgg_UnknownReading => k_is)
    (case xca_UnknownReading => k_is)
    (case xnUnknownReading => k_is)
    (case xL_NotSure => k_is)
    (case xsa_NotSure => k_is)
    (case xkC_NotSure => k_is)
    (case xga_NotSure => k_is)
    (case xgg_NotSure => k_is)
    (case xca_NotSure => k_is)
    (case xnNotSure => k_is)
    (case xL_InvalidPoints => k_is)
    (case xsa_InvalidPoints => k_is)
    (case xkC_InvalidPoints => k_is)
    (case xga_InvalidPoints => k_is)
    (case xgg_InvalidPoints => k_is)
    (case xca_InvalidPoints => k_is)
    (case xnInvalidPoints => k_is)
    (case xL_InvalidLevels => k_is)
    (case xsa_InvalidLevels => k_is)
    (case xkC_InvalidLevels => k_is)
    (case xga_InvalidLevels => k_is)
    (case xgg_InvalidLevels => k_is)
    (case xca_InvalidLevels => k_is)
    (case xnInvalidLevels => k_is)
    (case xL_InvalidReading => k_is)
    (case xsa_InvalidReading => k_is)
    (case xkC_InvalidReading => k_is)
    (case xga_InvalidReading => k_is)
    (case xgg_InvalidReading => k_is)
    (case xca_InvalidReading => k_is)
    (case xnInvalidReading => k_is)
    (case xL_InvalidStates => k_is)
    (case xsa_InvalidStates => k_is)
    (case xkC_InvalidStates => k_is)
    (case xga_InvalidStates => k_is)
    (case xgg_InvalidStates => k_is)
    (case xca_InvalidStates => k_is)
    (case xnInvalidStates => k_is)
    (case xL_NotConnected => k_is)
    (case xsa_NotConnected => k_is)
    (case xkC_NotConnected => k_is)
    (case xga_NotConnected => k_is)
    (case xgg_NotConnected => k_is)
    (case xca_NotConnected => k_is)
    (case xnNotConnected => k_is)
    (case xL_InvalidDemands => k_is)
    (case xsa_InvalidDemands => k_is)
    (case xkC_InvalidDemands => k_is)
    (case xga_InvalidDemands => k_is)
    (case xgg_InvalidDemands => k_is)
    (case xca_InvalidDemands => k_is)
    (case xnInvalidDemands => k_is)
    (case xL_InvalidPoles => k_is)
    (case xsa_InvalidPoles => k_is)
    (case xkC_InvalidPoles => k_is)
    (case xga_InvalidPoles => k_is)
    (case xgg_InvalidPoles => k_is)
    (case xca_InvalidPoles => k_is)
    (case xnInvalidPoles => k_is)
    (case xL_InvalidHeights => k_is)
    (case xsa_InvalidHeights => k_is)
    (case xkC_InvalidHeights => k_is)
    (case xga_InvalidHeights => k_is)
    (case xgg_InvalidHeights => k_is)
    (case xca_InvalidHeights => k_is)
    (case xnInvalidHeights => k_is)
    (case xL_InvalidConductances => k_is)
    (case xsa_InvalidConductances => k_is)
    (case xkC_InvalidConductances => k_is)
    (case xga_InvalidConductances => k_is)
    (case xgg_InvalidConductances => k_is)
    (case xca_InvalidConductances => k_is)
    (case xnInvalidConductances => k_is)
    (case xL_InvalidCurves => k_is)
    (case xsa_InvalidCurves => k_is)
    (case xkC_InvalidCurves => k_is)
    (case xga_InvalidCurves => k_is)
    (case xgg_InvalidCurves => k_is)
    (case xca_InvalidCurves => k_is)
    (case xnInvalidCurves => k_is)
    (case xL_InvalidFlows => k_is)
    (case xsa_InvalidFlows => k_is)
    (case xkC_InvalidFlows => k_is)
    (case xga_InvalidFlows => k_is)
    (case xgg_InvalidFlows => k_is)
    (case xca_InvalidFlows => k_is)
    (case xnInvalidFlows => k_is)
    (case xL_InvalidKinds => k_is)
    (case xsa_InvalidKinds => k_is)
    (case xkC_InvalidKinds => k_is)
    (case xga_InvalidKinds => k_is)
    (case xgg_InvalidKinds => k_is)
    (case xca_InvalidKinds => k_is)
    (case xnInvalidKinds => k_is)
    (case xL_IsBridge => k_is)
    (case xsa_IsBridge => k_is)
    (case xkC_IsBridge => k_is)
    (case xga_IsBridge => k_is)
    (case xgg_IsBridge => k_is)
    (case xca_IsBridge => k_is)
    (case xnIsBridge => k_is)
    (case xL_InvalidPipes => k_is)
    (case xsa_InvalidPipes => k_is)
    (case xkC_InvalidPipes => k_is)
    (case xga_InvalidPipes => k_is)
    (case xgg_InvalidPipes => k_is)
    (case xca_InvalidPipes => k_is)
    (case xnInvalidPipes => k_is)
    (case xL_Unbalanced => k_is)
    (case xsa_Unbalanced => k_is)
    (case xkC_Unbalanced => k_is)
    (case xga_Unbalanced => k_is)
    (case xgg_Unbalanced => k_is)
    (case xca_Unbalanced => k_is)
    (case xnUnbalanced => k_is)
    (case xL_InvalidText => k_is)
    (case xsa_InvalidText => k_is)
    (case xkC_InvalidText => k_is)
    (case xga_InvalidText => k_is)
    (case xgg_InvalidText => k_is)
    (case xca_InvalidText => k_is)
    (case xnInvalidText => k_is)
    (case xL_TooMany => k_is)
    (case xsa_TooMany => k_is)
    (case xkC_TooMany => k_is)
    (case xga_TooMany => k_is)
    (case xgg_TooMany => k_is)
    (case xca_TooMany => k_is)
    (case xnTooMany => k_is)
    (case xn2TooMany => k_is)
    (case xL_Barred => k_is)
    (case xsa_Barred => k_is)
    (case xkC_Barred => k_is)
    (case xga_Barred => k_is)
    (case xgg_Barred => k_is)
    (case xca_Barred => k_is)
    (case xL_NothingToUndo => k_is)
    (case xsa_NothingToUndo => k_is)
    (case xkC_NothingToUndo => k_is)
    (case xga_NothingToUndo => k_is)
    (case xgg_NothingToUndo => k_is)
    (case xca_NothingToUndo => k_is)
    (case qi_PipeError => k_is)
    (case qt_PipeError => k_is)
    (case qe_PipeError => k_is)
    (case qi_MissingError => k_is)
    (case qt_MissingError => k_is)
    (case qe_MissingError => k_is)
    (case qi_StateError => k_is)
    (case qt_StateError => k_is)
    (case qe_StateError => k_is)
    (case qi_LimitError => k_is)
    (case qt_LimitError => k_is)
    (case qe_LimitError => k_is)
    (case nd_ => decide +kernel)
    (case tb_right => first | k_is | exact rfl)
    (case nk_right => first | k_is | exact rfl)
    (case rc_right => exact rfl)
    (case z_len => k_is)
    (case z_abs => k_is)
    (case z_max => k_is)
    (case z_min => k_is)
    (case z_int => k_is)
    (case z_divmod => k_is)
    (case z_all => k_is)
    (case z_repr => k_is)
    (case z_isinstance => k_is)
    (case z_range => k_is)
    (case z_enumerate => k_is)
    (case z_bool => k_is)
    (case z_ValueError => k_is)
    (case z_LookupError => k_is)
    (case z_RuntimeError => k_is)
    (case z_ArithmeticError => k_is)
#print axioms PySem.Challenge.cw_surepipes_k10_errors_made_holds

