import PyProof.Rows.All
import Wide.All
import OpenK.AllK
import Wide.FinOn
import HandS.ForMost
import HandS.OwnEq
import HandS.SlotsOwn
import HandS.Property
import HandS.Gcd
import HandS.WideBits
import HandS.Style
import HandS.FStr
import HandS.IsInst
import HandS.RaiseMore
import HandS.Codes
import HandS.Defaults
import KE.RegKCallOwn
import PyProof.ReprRoads
import HandS.ClsMeth
import HandS.Star
import HandS.MakeKwOnly
import HandS.MakeKw
import HandS.StrMore
import KE.GoesMore
import KE.GoesEnum
import HandS.Walk
import HandS.Zip
import KE.KDictZip
import HandS.TryOnly
import HandS.ExcInit
import HandS.ExcField
import HandS.WordsExc
import PyProof.ExcBaseAll.ArithmeticError
import KE.KExcInit
import HandS.TryMany
import HandS.ExcIs
import KE.KExcIs
import HandS.Dict
import HandS.Lambda
import HandS.EndTab
import HandS.HotCalls
import KE.KNest
import PyProof.ReprNest
import KE.KFmtOwn
import HandS.DictTup
import PyProof.Rows.StrFirst
import PyProof.Rows.StrItems
import PyProof.StrLawsChain
import PyProof.StrLawsTight
import PyProof.StrLawsAffix
import KE.IntTextLaws
import HandS.Text
import PySem.Challenge.RW_surepipes_k19_points_refused
import HandS.Deep
set_option Elab.async false
set_option linter.all false
set_option maxRecDepth 100000
set_option maxHeartbeats 4000000
namespace Lb
open PySem PySem.Spec PyProof.Rows L2
open SlX (cmpback)

/-! own operators of plain instances -/
section
variable {X : Cx} {CX : CXT} {pins : List (Addr × Obj)} {σ : L2.St} {H : Hp} {s : Shared} {a C dx p g : Addr} {f : Str} {n : Nat} {sp : Sp} {E : XK} {v : V} {u : Value}

/-- what a comparison sees as the type of a value -/
theorem looks_ty {x : V} {u t : Value} (I : Inv X pins σ H s) (rx : RelV x u) (ty : TyOf X.K H x t) : PySem.W.Looks (model X.prog X.w) s.heap (typeOf u) t := by
  obtain ⟨P, k, hp, _⟩ := kit_of I rx (.base ty)
  exact k.ty _ _ I.kIn hp

/-- the instance as the library takes it -/
theorem inst_at {fs : List (Str × V)} (I : Inv X pins σ H s) (e : H a = some (.ins C dx fs)) : ∃ od, PySem.W.InstAt s.heap a (PySem.W.instObj C dx) C (some od) := by
  obtain ⟨mA, O, _⟩ := ins_get I.hok e
  obtain ⟨od, J, _⟩ := O.look
  exact ⟨od, J⟩

/-- x OP y by the def of the class of x for OP -/
def rOwnOp (K : PySem.W.Frag) (C : Addr) (sp : Sp) (E : XK) : R2 := fun x y H Q =>
  ∃ a dx fs t, x = .ref a ∧ H a = some (.ins C dx fs) ∧ TyOf K H y t ∧ PySem.W.notFirst K C t = true ∧ sp [x, y] H Q E
theorem op_ownCmp {K : PySem.W.Frag} {op : CmpOp} (hK : X.K = K) (hop : ∀ a b, compareOp op a b = richCompare op a b)
    (hs : PySem.W.findIn K (.ref C) (cmpInfo op).2.1 = some (some (.ref g))) (hf : PySem.W.isFn K (.ref g) = true)
    (F : FnR X.prog X.w X.K X.mg X.base CX n g sp) (hr : Room n X.A) (hx : Passes CX X E) : OpR X (compareOp op) (rOwnOp K C sp E) := by
  subst hK
  intro pins s σ H x y v u Q I rx ry h
  obtain ⟨a, dx, fs, t, rfl, ha, ty, hn, q⟩ := h
  cases (show v = Value.ref a from rx)
  obtain ⟨od, J⟩ := inst_at I ha
  obtain ⟨m, hF⟩ := I.fr
  rw [hop]
  refine PySem.W.cmp_K (op := op) (tb := t) hr.units0 hF I.ok.mod.kin J (looks_ty I ry ty) hn hs hf ?_
  refine wpAny_mono (wpAny_call (SlX.run_at (us := [.ref a, u]) (ws := [.ref a, y]) F hr I.env0 hx I (.cons rfl (.cons ry .nil)) q)) (fun w s' z => ?_) fun _ _ x => x
  obtain ⟨z', H', I', rz, qz⟩ := z
  exact cmpback rz ⟨z', H', I', rz, qz⟩

/-- x != y where the class of x has __eq__ alone: its answer turned -/
theorem ne_try {K : PySem.W.Frag} {prog : Program} {w : World} {A : Around} {EE : Value → Shared → Prop} {s : Shared} {x C f : Addr} {ox : Obj} {od : Option Obj} {b : Value} {Q : Option Value → Shared → Prop}
    (hu : A.units + 1 < cLine) (KX : K.In s.heap) (J : PySem.W.InstAt s.heap x ox C od)
    (hne : PySem.W.findIn K (.ref C) "__ne__" = some (some (.builtin "object.__ne__"))) (hm : PySem.W.mroIn K C (.type "object") = some true)
    (he : PySem.W.findIn K (.ref C) "__eq__" = some (some (.ref f))) (hf : PySem.W.isFn K (.ref f) = true)
    (h : wpAny (model prog w) A.in1 (call (.ref f) [.ref x, b]) (fun v s' => ∃ k, v = .bool k ∧ Q (some (.bool (!k))) s') EE s) :
    wpAny (model prog w) A (tryCompare (.ref x) "__ne__" b) Q EE s := by
  have hb := PySem.F.cmp_object.ne.bind
  simp only [tryCompare, callSpecialIfBound?, bindSpecialIfBound?]
  refine wpAny_bind (wpAny_holding (wpAny_bind (wpAny_bind (wpAny_bind (J.type.here ((PySem.W.looks_findIn KX hne).here ?_))))))
  refine wpAny_bind (wpAny_askSetting (wpAny_ite ?_))
  have body : wpAny (model prog w) A (call (.builtin "object.__ne__") ([.ref x] ++ [b])) (fun v s' => ∃ k, v = .bool k ∧ Q (some (.bool k)) s') EE s := by
    refine wpAny_call (codeAny_call_builtin PySem.F.cmp_object.ne.plain PySem.F.cmpEntry_ne
      (PySem.W.check_slot PySem.F.cmpKind_ne PySem.F.cmpSplit_ne (J.type.andThen (PySem.W.looks_mroIn KX hm)) (PySem.F.cmpArgs_ne _ _) ?_))
    unfold Builtin.«object.__ne__»
    refine wpAny_bind (m := slotArgs "__ne__" 1 _) (wpAny_pure ?_)
    refine wpAny_bind (m := cRoomFor _ _) (wpAny_cRoomFor hu ?_)
    refine wpAny_bind (m := callSpecialIfBound? (.ref x) (Str.ofString "__eq__") [b]) (PySem.W.ifBound_K KX J he hf (wpAny_mono h (fun v s' z => ?_) fun _ _ e => e))
    obtain ⟨k, rfl, q⟩ := z
    refine wpAny_bind (wpAny_truthy_bool ?_)
    exact wpAny_pure ⟨!k, rfl, q⟩
  have fin : wpAny (model prog w) A (call (.builtin "object.__ne__") ([.ref x] ++ [b]) >>= fun v => pure (some v)) (fun r s' => ∃ k, r = some (.bool k) ∧ Q (some (.bool k)) s') EE s :=
    wpAny_bind (wpAny_mono body (fun v s' ⟨k, e, q⟩ => wpAny_pure ⟨k, by rw [e], q⟩) fun _ _ e => e)
  have fin2 : wpAny (model prog w) A (call (.builtin "object.__ne__") ([.ref x] ++ [b]) >>= fun v => pure (some v)) (fun r s' => wpAny (model prog w) A (match r with
      | some .notImplemented | none => pure none
      | some v => pure (some v)) Q EE s') EE s := wpAny_mono fin (fun r s' ⟨k, e, q⟩ => by subst e; exact wpAny_pure q) fun _ _ e => e
  split
  · exact wpAny_bind ((PySem.W.Looks.of_pure (hb _)).here (wpAny_pure (by exact fin2)))
  · exact wpAny_tryCatch (wpAny_bind ((PySem.W.Looks.of_pure (hb _)).here (wpAny_pure (by exact fin2))))

/-- how a promise at a bool is handed back -/
def rOwnNe (K : PySem.W.Frag) (C : Addr) (sp : Sp) (E : XK) : R2 := fun x y H Q =>
  ∃ a dx fs t, x = .ref a ∧ H a = some (.ins C dx fs) ∧ TyOf K H y t ∧ PySem.W.notFirst K C t = true ∧ sp [x, y] H (fun z H' => ∃ k, z = .bl k ∧ Q (.bl (!k)) H') E
theorem op_ownNe {K : PySem.W.Frag} (hK : X.K = K) (hne : PySem.W.findIn K (.ref C) "__ne__" = some (some (.builtin "object.__ne__"))) (hm : PySem.W.mroIn K C (.type "object") = some true)
    (hs : PySem.W.findIn K (.ref C) "__eq__" = some (some (.ref g))) (hf : PySem.W.isFn K (.ref g) = true)
    (F : FnR X.prog X.w X.K X.mg X.base CX n g sp) (hr : Room (n + 1) X.A) (hx : Passes CX X E) : OpR X (compareOp .NotEq) (rOwnNe K C sp E) := by
  subst hK
  intro pins s σ H x y v u Q I rx ry h
  obtain ⟨a, dx, fs, t, rfl, ha, ty, hn, q⟩ := h
  cases (show v = Value.ref a from rx)
  obtain ⟨od, J⟩ := inst_at I ha
  have KX := I.kIn
  have hb := looks_ty I ry ty
  have hu := hr.units
  have body : wpAny (model X.prog X.w) X.A.in1 (call (.ref g) [.ref a, u]) (fun v s' => ∃ k, v = .bool k ∧ EP X pins σ Q (.bool (!k)) s') X.xe s := by
    refine wpAny_mono (wpAny_call (SlX.run_at (us := [.ref a, u]) (ws := [.ref a, y]) F hr.in1 I.env0.in1 hx I (.cons rfl (.cons ry .nil)) q)) (fun w s' z => ?_) fun _ _ x => x
    obtain ⟨z', H', I', rz, k, ez, qz⟩ := z
    subst ez
    exact ⟨k, rz, .bl (!k), H', I', rfl, qz⟩
  have one : wpAny (model X.prog X.w) X.A (tryCompare (.ref a) "__ne__" u) (fun r s' => ∃ v, r = some v ∧ EP X pins σ Q v s') X.xe s :=
    ne_try (by omega) KX J hne hm hs hf (wpAny_mono body (fun v s' ⟨k, e, q⟩ => ⟨k, e, _, rfl, q⟩) fun _ _ e => e)
  show wpAny (model X.prog X.w) X.A (richCompare .NotEq (.ref a) u) (EP X pins σ Q) X.xe s
  unfold richCompare
  simp only [oneThing_ref]
  refine wpAny_holding (wpAny_bind (wpAny_cRoomFor hr.units0 ?_))
  refine wpAny_bind (J.type.here (wpAny_bind (hb.here ?_)))
  split
  · rename_i q'
    have e : PySem.W.subIn X.K t (.ref C) = some false := by
      rcases Bool.or_eq_true_iff.mp hn with e | e
      · rw [beq_iff_eq.mp e] at q'; simp at q'
      · exact beq_iff_eq.mp e
    refine wpAny_bind ((PySem.W.looks_subIn KX e).here ?_)
    simp only [Bool.false_eq_true, if_false]
    refine wpAny_bind (wpAny_mono one (fun r s' z => ?_) fun _ _ e => e)
    obtain ⟨v, rfl, hq⟩ := z
    exact wpAny_pure hq
  · refine wpAny_bind (wpAny_pure ?_)
    simp only [Bool.false_eq_true, if_false]
    refine wpAny_bind (wpAny_mono one (fun r s' z => ?_) fun _ _ e => e)
    obtain ⟨v, rfl, hq⟩ := z
    exact wpAny_pure hq

/-- str(x), x an instance whose class has __str__ -/
def rOwnTx (C : Addr) (sp : Sp) (E : XK) : List V → Hp → VK → Prop := fun xs H Q =>
  ∃ a dx fs, xs = [.ref a] ∧ H a = some (.ins C dx fs) ∧ sp xs H (fun z H' => ∃ y, z = .str y ∧ Q z H') E
theorem call_strOwn (hs : PySem.W.findIn X.K (.ref C) "__str__" = some (some (.ref g))) (hf : PySem.W.isFn X.K (.ref g) = true)
    (F : FnR X.prog X.w X.K X.mg X.base CX n g sp) (hr : Room (n + 2) X.A) (hx : Passes CX X E) : CallR X (.type "str") (rOwnTx C sp E) := by
  intro pins s σ H xs us Q I r h
  obtain ⟨a, dx, fs, rfl, ha, q⟩ := h
  obtain ⟨u, rfl, ru⟩ := vals1 r
  cases (show u = Value.ref a from ru)
  obtain ⟨od, J⟩ := inst_at I ha
  have hu := hr.units
  have hr2 : Room n X.A.in1.in1 := (show Room (n + 1) X.A.in1 from Room.in1 hr).in1
  refine PySem.W.kso_call (by show X.A.units + 1 + 1 < cLine; omega) I.kIn J hs hf ?_
  refine wpAny_mono (wpAny_call (SlX.run_at (us := [.ref a]) (ws := [.ref a]) F hr2 I.env0.in1.in1 hx I (.cons rfl .nil) q)) (fun w s' z => ?_) fun _ _ x => x
  obtain ⟨z', H', I', rz, y, ez, qz⟩ := z
  subst ez
  obtain ⟨t, rfl⟩ := (show ∃ t, w = Value.str y t from rz)
  exact ⟨.str y, H', I', ⟨t, rfl⟩, qz⟩
/-- repr(x), x an instance whose class has __repr__ -/
theorem call_reprOwn (hs : PySem.W.findIn X.K (.ref C) "__repr__" = some (some (.ref g))) (hf : PySem.W.isFn X.K (.ref g) = true)
    (F : FnR X.prog X.w X.K X.mg X.base CX n g sp) (hr : Room (n + 1) X.A) (hx : Passes CX X E) : CallR X (.builtin "repr") (rOwnTx C sp E) := by
  intro pins s σ H xs us Q I r h
  obtain ⟨a, dx, fs, rfl, ha, q⟩ := h
  obtain ⟨u, rfl, ru⟩ := vals1 r
  cases (show u = Value.ref a from ru)
  obtain ⟨od, J⟩ := inst_at I ha
  have hu := hr.units
  refine Calls.call_function_entry PySem.F.kind_repr PySem.F.plain_repr PySem.F.entry_repr (PySem.F.args_repr1 _) ?_
  unfold Builtin.«repr»
  refine wpAny_bind (m := oneArg "repr" _) (wpAny_pure ?_)
  refine wpAny_bind (m := cRoomFor _ _) (wpAny_cRoomFor (by show X.A.units + 1 < cLine; omega) ?_)
  refine wpAny_bind (wpAny_bind (J.type.here ((PySem.W.looks_findIn I.kIn hs).here ?_)))
  refine wpAny_bind (m := callSpecialIfBound? (.ref a) (Str.ofString "__repr__")) (PySem.W.ifBound_K I.kIn J hs hf ?_)
  refine wpAny_mono (wpAny_call (SlX.run_at (us := [.ref a]) (ws := [.ref a]) F hr.in1 I.env0.in1 hx I (.cons rfl .nil) q)) (fun w s' z => ?_) fun _ _ x => x
  obtain ⟨z', H', I', rz, y, ez, qz⟩ := z
  subst ez
  obtain ⟨t, rfl⟩ := (show ∃ t, w = Value.str y t from rz)
  refine wpAny_bind (wpAny_isInstance (T := "str") (b := true) rfl isSubtype_str_str ?_)
  exact wpAny_pure ⟨_, rfl, .str y, H', I', ⟨t, rfl⟩, qz⟩
end
end Lb

set_option Elab.async false
set_option linter.all false
set_option maxRecDepth 100000
set_option maxHeartbeats 4000000
namespace Lb
open PySem PySem.Spec PyProof.Rows L2
open SlX (cmpback)

/-! repr of data: wants that no repr is running -/
mutual
theorem dp_plain {K : PySem.W.Frag} {H : Hp} : ∀ (d : PyData) (v : V), Dp K H v d → d.hasDict = false
  | .none, _, _ => by simp only [PyData.hasDict]
  | .bool _, _, _ => by simp only [PyData.hasDict]
  | .int _, _, _ => by simp only [PyData.hasDict]
  | .str _, _, _ => by simp only [PyData.hasDict]
  | .list ds, _, h => by
    cases h with
    | lst _ q => simp only [PyData.hasDict]; exact dp_plains ds _ q
  | .tuple ds, _, h => by
    cases h with
    | tup _ q => simp only [PyData.hasDict]; exact dp_plains ds _ q
  | .dict _, _, h => by cases h
theorem dp_plains {K : PySem.W.Frag} {H : Hp} : ∀ (ds : List PyData) (vs : List V), DpAll K H vs ds → PyData.hasDictAll ds = false
  | [], _, _ => by simp only [PyData.hasDictAll]
  | d :: ds, _, h => by
    cases h with
    | cons h1 h2 => simp only [PyData.hasDictAll, dp_plain d _ h1, dp_plains ds _ h2, Bool.or_self]
end
section
variable {X : Cx}
def rRepr (K : PySem.W.Frag) : List V → Hp → VK → Prop := fun xs H Q =>
  ∃ x d, xs = [x] ∧ Dp K H x d ∧ d.showable = true ∧ d.shown.length ≤ sizeLine ∧ d.depth ≤ 60 ∧ Q (.str d.shown) H
theorem call_repr {K : PySem.W.Frag} (hK : X.K = K) (hg : X.A.guards = some []) (hu : X.A.units + 64 < cLine) : CallR X (.builtin "repr") (rRepr K) := by
  subst hK
  intro pins s σ H xs us Q I r h
  obtain ⟨x, d, rfl, hd, hs, hz, hdp, q⟩ := h
  obtain ⟨u, rfl, ru⟩ := vals1 r
  have hpl := dp_plain d x hd
  obtain ⟨as, rd⟩ := Dp.reads I d x u hd ru
  cases x with
  | non =>
    cases hd
    cases (show u = Value.none from ru)
    exact PySem.P.repr_of_none ⟨.str _, H, I.tok _, ⟨_, rfl⟩, q⟩
  | bl b =>
    cases hd
    cases (show u = Value.bool b from ru)
    exact PySem.P.repr_of_bool ⟨.str _, H, I.tok _, ⟨_, rfl⟩, q⟩
  | int i =>
    cases hd
    obtain ⟨t, rfl⟩ := (show ∃ t, u = Value.int i t from ru)
    have hi : i.natAbs.log2 < 1920 := of_decide_eq_true (by simpa only [PyData.showable] using hs)
    exact PySem.P.repr_of_int hi ⟨.str _, H, I.tok _, ⟨_, rfl⟩, q⟩
  | str y =>
    cases hd
    obtain ⟨t, rfl⟩ := (show ∃ t, u = Value.str y t from ru)
    exact PySem.P.repr_of_str ⟨.str _, H, I.tok _, ⟨_, rfl⟩, q⟩ hz
  | byt y => cases hd
  | flt y => cases hd
  | ty y => cases hd
  | ref a =>
    cases (show u = Value.ref a from ru)
    refine PySem.repr_of_reads' rd hs (PyData.noDict_hsm hpl) hg (by omega) (fun _ _ e => e) (fun h' w tk k => ?_) hz
    exact ⟨.str _, H, I.kept k, ⟨_, rfl⟩, q⟩

/-! the layer's rules with the written part told apart (within a comprehension the context is another) -/
variable {K : PySem.W.Frag}
theorem ix_listK (hK : X.K = K) : IxR X (rIxL K) := by subst hK; exact ix_list
theorem ix_tupK (hK : X.K = K) : IxR X (rIxT K) := by subst hK; exact ix_tup
theorem sl_listK (hK : X.K = K) : SlR X (rSlL K) := by subst hK; exact sl_list
theorem call_lenK (hK : X.K = K) : CallR X (.builtin "len") (fun xs H Q => ∃ p ys, xs = [.ref p] ∧ (SqL K H p ys ∨ SqT K H p ys) ∧ Q (.int ys.length) H) := by subst hK; exact call_len_seq
theorem call_isiK' (hK : X.K = K) : CallR X (.builtin "isinstance") (rIsi K) := by subst hK; exact call_isi
theorem cr_allK (hK : X.K = K) (hc : X.calm = true) : CallR X (.builtin "all") (rAll K) := by subst hK; exact cr_all hc
theorem cr_anyK (hK : X.K = K) (hc : X.calm = true) : CallR X (.builtin "any") (rAny K) := by subst hK; exact cr_any hc
theorem pe_fldK {e : Expr} {f : Str} {pos : Pos} {ta : TE} (hK : X.K = K) (he : PE X e ta) (hb : attributeBase e f X.env (eval e X.env) = eval e X.env) : PE X (.Attribute e f pos) (tFld K ta f) := by subst hK; exact pe_fld he hb
theorem ps_fldK {o value : Expr} {f : Str} {pos pos' : Pos} {ta tv : TE} (hK : X.K = K) (ha : PE X o ta) (hv : PE X value tv) (hs : swapsWith value (some (.Attribute o f pos')) pos.line X.env = pure false) :
    PS X (.Assign [.Attribute o f pos'] value pos) (sFld K ta tv f) := by subst hK; exact ps_fld ha hv hs
theorem pg_tupK {pos : Pos} {es : List Expr} {k : Nat} {t : TGs} {n : Nat} (hK : X.K = K) (hc : X.calm = true) (h : PGs X es t)
    (hn : (assignEach es X.env).length = n := by rfl) (hst : (assignEach es X.env).findIdx? (·.1) = none := by rfl) : PG X (.Tuple es k pos) (gTup K n t) := by subst hK; exact pg_tup hc h hn hst
theorem pi_listK {tg l : Expr} {tl : TE} (hK : X.K = K) (hl : PE X l tl) : PI X tg l (iList K tl) := by subst hK; exact pi_list hl
end
end Lb

set_option Elab.async false
set_option linter.all false
set_option maxRecDepth 100000
set_option maxHeartbeats 4000000
namespace Lb
open PySem PySem.Spec PyProof.Rows L2

/-! defs that may show data (repr): they are called where no repr runs -/
structure FnG (P : Program) (w : World) (K : PySem.W.Frag) (mg : Str → Option Value) (base : Heap) (CX : CXT)
    (k : Nat) (f : Addr) (fd : FuncData) (ps : List Str) (sp : Sp) : Prop where
  len : ∀ vs H Q E, sp vs H Q E → vs.length = ps.length
  run : ∀ (A : Around) (outer : List Env) (s : Shared) (H : Hp) (args : Args) (us : List Value) (vs : List V) (Q : VK) (E : XK),
    A.guards = some [] → Room k A → Env0 P w K mg base A outer s H → BindsTo s fd args (ps.zip us) → Vals vs us → sp vs H Q E →
    codeAny (model P w) A (.call (.ref f) args) (CR CX outer P w H s Q E) s

section
variable {P : Program} {w : World} {K : PySem.W.Frag} {mg : Str → Option Value} {base : Heap} {CX : CXT} {k j : Nat} {f : Addr} {fd : FuncData} {ps : List Str} {sp : Sp}
theorem FnG.of (F : FnOk P w K mg base CX k f fd ps sp) : FnG P w K mg base CX k f fd ps sp :=
  ⟨F.len, fun A outer s H args us vs Q E _ hr e0 hb r hs => F.run A outer s H args us vs Q E hr e0 hb r hs⟩
theorem FnG.mono (F : FnG P w K mg base CX j f fd ps sp) (h : j ≤ k) : FnG P w K mg base CX k f fd ps sp :=
  ⟨F.len, fun A outer s H args us vs Q E g hr => F.run A outer s H args us vs Q E g (hr.mono h)⟩
/-- the rule for the body of such a def -/
theorem okG {x qual : Str} {st : Stmt} {N : List Str} (F : Fun K x qual st f fd) (S : FnScope N ps (defScope st))
    (len : ∀ vs H Q E, sp vs H Q E → vs.length = ps.length)
    (hbody : ∀ (cdv : Value) (A : Around) (outer : List Env) (s : Shared) (H : Hp) (vs : List V) (Q : VK) (E : XK),
      (A.deeper (envOfC qual (defScope st) s.heap.objs.size f cdv)).guards = some [] →
      Room k (A.deeper (envOfC qual (defScope st) s.heap.objs.size f cdv)) → sp vs H Q E →
      ∃ t, PSs (cxOf CX P w K mg base N qual (defScope st) f cdv A outer s H E).nox (defBody st) t ∧
        t { nx := fun _ H' => Q .non H', rt := Q } (start N vs) H) :
    FnG P w K mg base CX (k + 1) f fd ps sp := by
  obtain ⟨oc, od, kV, doc, pm, an, cdv, ct, osl, rfl, lk, hcd⟩ := F.ex
  refine ⟨len, fun A outer s H args us vs Q E hgu hr e0 hb r hsp => ?_⟩
  have hl := len vs H Q E hsp
  have KX : K.In s.heap := e0.mod.kin.keeps fun b o e => (e0.bs b o e).1
  have lim : s.heap.NoLimit := e0.mod.nolimit.keeps fun b o e => (e0.bs b o e).1
  have hkind : ∀ y ∈ ps.zip us, (defScope st).names.lookup y.1 = some .local ∨
      ((defScope st).names.lookup y.1 = some .cell ∧ ((cellsFrom (s.heap.objs.size + 1) (defScope st).names []).lookup y.1).isSome = true) := by
    rintro ⟨n, v⟩ hy
    rcases S.par n (List.of_mem_zip hy).1 with q | q
    · exact .inl q
    · exact .inr ⟨q, PySem.W.cellsFrom_some _ _ _ (.inl q)⟩
  refine codeAny_call_function hr.depth (KX _ _ lk) rfl S.co S.gen rfl (PySem.W.codeRec_of KX hcd) (hb _ _ _ _ ?_)
  refine wpAny_newFunctionEnv_cells S.kind hkind fun env he s1 y => ?_
  subst he
  refine ⟨lim.keeps y.toInCall.keep, codeAny_func ?_⟩
  have hgd : (A.deeper (envOfC qual (defScope st) s.heap.objs.size f cdv)).guards = some [] := by
    first
      | exact hgu
      | simpa [Around.deeper] using hgu
  obtain ⟨t, ht, hq⟩ := hbody cdv A outer s H vs Q E hgd (hr.deeper _) hsp
  have I := inv_start (CX := CX) (E := E) S hr.hd e0 hl r y
  have fin : ∀ {σ' : L2.St} {H' : Hp} {s' : Shared} {v : V} {u : Value},
      Inv (cxOf CX P w K mg base N qual (defScope st) f cdv A outer s H E) [] σ' H' s' → RelV v u → Q v H' → CE outer P w H s Q u s' :=
    fun {σ' H' s' v u} J rv q => ⟨v, H', J.os, J.bare, J.base, J.hok, rv, q⟩
  refine wpAny_mono (ht.nox.run [] s1 (start N vs) H _ I hq) (fun fl s' hs => ?_) fun _ _ hs => hs
  cases fl with
  | ret u =>
    obtain ⟨v, σ', H', J, rv, q⟩ := hs
    exact fin J rv q
  | next =>
    obtain ⟨σ', H', J, q⟩ := hs
    exact fin (v := V.non) (u := Value.none) J rfl q
  | brk => exact hs.elim fun _ h => h.elim fun _ h => h.2.elim
  | cont => exact hs.elim fun _ h => h.elim fun _ h => h.2.elim
end

section
variable {X : Cx} {CX : CXT} {k : Nat} {f : Addr} {fd : FuncData} {ps : List Str} {sp : Sp} {dvs : List V} {ds : List Value} {E : XK} {x : Str} {p pos : Pos} {e : Expr} {es : List Expr} {t : TA}
theorem run_fnG {pins : List (Addr × Obj)} {σ : L2.St} {H : Hp} {s : Shared} {Q : VK} {us : List Value} {vs : List V} (F : FnG X.prog X.w X.K X.mg X.base CX k f fd ps sp) (gu : X.A.guards = some [])
    (hr : Room k X.A) (hb : Binds X.K fd ps ds) (hd : Vals dvs ds) (hx : Passes CX X E) (I : Inv X pins σ H s) (r : Vals vs us) (h : sp (vs ++ dvs) H Q E) :
    wpAny (model X.prog X.w) X.A (call (.ref f) us) (EP X pins σ Q) X.xe s := by
  have r2 := r.append hd
  have hl : (us ++ ds).length = ps.length := r2.length ▸ F.len _ H Q E h
  have code := F.run X.A X.stack s H ⟨us, []⟩ (us ++ ds) (vs ++ dvs) Q E gu hr I.env0 (hb s us I.kIn hl) r2 h
  refine wpAny_call (codeAny_mono code fun r s' hq => ?_)
  rcases r with er | fl
  · first | exact hx pins σ H s er s' I hq | (cases er <;> first | exact I.after hq | exact hq.elim)
  · first | (cases fl <;> first | exact I.after hq | exact hq.elim) | exact hx pins σ H s fl s' I hq
theorem pe_callG (F : FnG X.prog X.w X.K X.mg X.base CX k f fd ps sp) (gu : X.A.guards = some []) (hr : Room k X.A) (hg : Gl X x) (hm : X.mg x = some (.ref f))
    (hk : PySem.W.keepIn X.K (.ref f) = true) (hb : Binds X.K fd ps ds) (hd : Vals dvs ds) (hx : Passes CX X E) (ha : PA X (e :: es) t)
    (hdb : (x == ("__debug__" : Str)) = false := by decide) (he : starEach (e :: es) X.env = (false, eval e X.env) :: starEach es X.env := by rfl)
    (hpl : (backTo pos (starEach es X.env)).any (·.1) = false := by rfl) : PE X (.Call (.Name x p) (e :: es) [] pos) (tCall sp dvs E t) := by
  refine ⟨fun pins s σ H Q I h => wpAny_Call_Name_kw (ld_glob I hg hm ?_ hdb)⟩
  refine PySem.W.callWith_K (h₀ := X.base) I.ok.mod.kin hk (thn (ha.run pos pins s σ H _ I h) fun us s1 q => ?_) he hpl
  obtain ⟨vs, H1, I1, r, q⟩ := q
  exact ⟨I1.kIn, run_fnG F gu hr hb hd hx I1 r q⟩
theorem pe_call0G (F : FnG X.prog X.w X.K X.mg X.base CX k f fd ps sp) (gu : X.A.guards = some []) (hr : Room k X.A) (hg : Gl X x) (hm : X.mg x = some (.ref f))
    (hk : PySem.W.keepIn X.K (.ref f) = true) (hb : Binds X.K fd ps ds) (hd : Vals dvs ds) (hx : Passes CX X E)
    (hdb : (x == ("__debug__" : Str)) = false := by decide) : PE X (.Call (.Name x p) [] [] pos) (tCall sp dvs E tNil) :=
  ⟨fun pins s σ H Q I h => wpAny_Call_Name_kw (ld_glob I hg hm (PySem.W.callWith_K0 I.kIn hk (run_fnG (us := []) F gu hr hb hd hx I .nil h)) hdb)⟩
end

/-- the law's call: like the layer's own end, for such a def -/
theorem law_callG {P : Program} {w : World} {K : PySem.W.Frag} {mg mb : Str → Option Value} {CX : CXT} {k : Nat} {fa a : Addr} {fd : FuncData} {x : Str} {sp : Sp} {s1 : Shared} {vs : List Value} {ns : List Int}
    (KX : K.In s1.heap) (hns : s1.heap.Ns mainGlobals mg) (hb : s1.heap.Ns builtinsNs mb) (hbb : ∀ x : Str, x ≠ "__name__" → mb x = bootBuiltins x) (hlim : s1.heap.NoLimit) (hg : s1.gens = #[])
    (ha : s1.heap.get? a = some { cls := .type "list", data := .seq vs.toArray }) (hi : IntsAre vs ns) (hl : ns.length ≤ sizeLine) (hr : Room k callerA)
    (F : ∀ base : Heap, K.In base → base.Ns mainGlobals mg → FnG P w K mg base CX k fa fd [x] sp) (hbind : ∀ (s : Shared) (u : Value), BindsTo s fd ⟨[u], []⟩ [(x, u)])
    (hsp : ∀ H : Hp, Only H → SqL K H a (ns.map V.int) → sp [.ref a] H (fun v _ => v = .bl true) fun _ _ _ => False)
    (hCX : ∀ H e s', CX [] H s1 (fun _ _ _ => False) e s' → False) :
    codeAny (model P w) callerA (.call (.ref fa) ⟨[.ref a], []⟩) (fun r s' => r = .ok (.ret (.bool true)) ∧ OldK s1.heap s'.heap ∧ s'.os = s1.os ∧ AllBare s'.gens) s1 := by
  have rv := vals_ints hi
  have core : ∀ H : Hp, Only H → SqL K H a (ns.map V.int) → HOk P w H s1.heap → (∀ b u, H b = some u → b = a) → (∀ u, H a = some u → K.lookup a = none) →
      codeAny (model P w) callerA (.call (.ref fa) ⟨[.ref a], []⟩) (fun r s' => r = .ok (.ret (.bool true)) ∧ OldK s1.heap s'.heap ∧ s'.os = s1.os ∧ AllBare s'.gens) s1 := by
    intro H hO hS hok hA hK
    have free_of : ∀ {b : Addr} {o : Obj}, s1.heap.get? b = some o → (∀ z : Data, o.data = z → ∃ es ep, z = .dict es ep) → H b = none := by
      intro b o e d
      cases q : H b with
      | none => rfl
      | some u =>
        cases hA b u q
        rw [ha] at e
        cases e
        obtain ⟨es, ep, z⟩ := d _ rfl
        cases z
    have nsK : ∀ {b : Addr} {m : Str → Option Value}, s1.heap.Ns b m → (hidT s1.heap H).Ns b m := by
      rintro b m ⟨o, es, ep, e, d, r⟩
      exact ⟨o, es, ep, hidT_get e (free_of e fun z hz => ⟨es, ep, hz ▸ d⟩), d, r⟩
    have hKb : K.In (hidT s1.heap H) := by
      intro b o e
      refine hidT_get (KX b o e) ?_
      cases q : H b with
      | none => rfl
      | some u =>
        cases hA b u q
        rw [hK u q] at e
        cases e
    have hM : Mod K mg (hidT s1.heap H) := by
      obtain ⟨mc, c1, c2⟩ := hlim
      exact ⟨hKb, nsK hns, ⟨mb, nsK hb, hbb⟩, ⟨mc, nsK c1, c2⟩⟩
    have e0 : Env0 P w K mg (hidT s1.heap H) callerA [] s1 H :=
      ⟨rfl, hM, fun b o e => of_hidT e, Nat.le_of_eq (hidT_size _ _), trivial, fun b hb => (List.not_mem_nil hb).elim, hok, .of_eq hg⟩
    have code := (F _ hKb (nsK hns)).run callerA [] s1 H ⟨[.ref a], []⟩ [.ref a] [.ref a] _ _ rfl hr e0 (hbind s1 (.ref a)) (.cons rfl .nil) (hsp H hO hS)
    refine codeAny_mono code fun r s' h => ?_
    cases r with
    | error e => exact (hCX H e s' h).elim
    | ok fl =>
      cases fl with
      | ret u =>
        obtain ⟨v, H', os, bare, un, hok', r', q⟩ := h
        cases (show v = .bl true from q)
        cases (show u = Value.bool true from r')
        refine ⟨rfl, .of_keep fun b o e => ?_, os, bare⟩
        rcases hO b with z | ⟨ob, xs, z⟩
        · exact un.keep b o e z (fun z => List.not_mem_nil z) (fun z => List.not_mem_nil z)
        · obtain ⟨e1, _⟩ := hok b _ z
          obtain ⟨e2, _⟩ := hok' b _ (un.frzs b ob _ z)
          rw [e] at e1
          cases e1
          exact e2
      | next => exact h.elim
      | brk => exact h.elim
      | cont => exact h.elim
  cases hk : K.lookup a with
  | some o =>
    have e := KX a o hk
    rw [ha] at e
    cases e
    refine core (fun _ => none) (fun _ => .inl rfl) (.inr ⟨_, vs.toArray, _, hk, rfl, rfl, rfl, ?_, ?_⟩) (fun b u z => nomatch (show (none : Option HO) = some u from z)) (fun b u z => nomatch (show (none : Option HO) = some u from z)) (fun u z => nomatch (show (none : Option HO) = some u from z))
    · rw [List.size_toArray, hi.length]
      exact hl
    · simpa using rv
  | none =>
    have at_ : ∀ {b : Addr} {u : HO}, (if b = a then some (HO.frz { cls := .type "list", data := .seq vs.toArray } (.lst (ns.map V.int))) else none) = some u →
        b = a ∧ u = HO.frz { cls := .type "list", data := .seq vs.toArray } (.lst (ns.map V.int)) := by
      intro b u e
      by_cases hb : b = a
      · rw [if_pos hb] at e
        exact ⟨hb, (Option.some.inj e).symm⟩
      · rw [if_neg hb] at e
        cases e
    refine core (fun b => if b = a then some (.frz { cls := .type "list", data := .seq vs.toArray } (.lst (ns.map V.int))) else none) (fun b => ?_)
      (.inl (.inr ⟨{ cls := .type "list", data := .seq vs.toArray }, if_pos rfl⟩)) (fun b u e => ?_) (fun b u e => (at_ e).1) (fun _ _ => hk)
    · by_cases hb : b = a
      · exact .inr ⟨_, _, if_pos hb⟩
      · exact .inl (if_neg hb)
    · obtain ⟨rfl, rfl⟩ := at_ e
      exact ⟨ha, by rw [List.length_map]; exact hl, vs, _, rv, ha⟩

theorem walkG {l : PySem.W.OpenLaw} {n k : Nat} {q : Program} {loose : List Str} {XP : (Str → Option Value) → Heap → Prop} {YP : World → Heap → Prop} {d : DefRec} {K : Params → PySem.W.Frag} {sp : PySem.W.Frag → Sp} {x : Str}
    (hn : l.most = some n) (hn2 : n ≤ sizeLine) (hdf : d.params.defaults = []) (hr : Room k callerA)
    (hY : ∀ (w : World) (h : Heap), YP w h → (K w.params).In h)
    (F : ∀ (w : World) (mg : Str → Option Value) (fa : Addr) (h : Heap), (K w.params).In h → h.Ns mainGlobals mg → mg d.name = some (.ref fa) →
      ∃ fd : FuncData, (∀ (s : Shared) (u : Value), BindsTo s fd ⟨[u], []⟩ [(x, u)]) ∧
        ∀ base : Heap, (K w.params).In base → base.Ns mainGlobals mg → FnG l.prog w (K w.params) mg base CX0 k fa fd [x] (sp (K w.params)))
    (hsp : ∀ (K : PySem.W.Frag) (H : Hp) (a : Addr) (ns : List Int), ns.length ≤ n → Only H → SqL K H a (ns.map V.int) → sp K [.ref a] H (fun v _ => v = .bl true) fun _ _ _ => False) :
    PySem.W.WalkO q loose XP YP l.row.toRowW d [] (fun f vs => PySem.call f vs) := by
  refine Att.attach_call hn hdf fun w s0 s1 mg mb fa o pm cd doc a vs ns G Y ho hd hcd hmg hobj hints hlen hg => ?_
  obtain ⟨fd, hb, hF⟩ := F w mg fa _ (hY w _ Y) G.T.g hmg
  exact law_callG (hY w _ Y) G.T.g G.T.b G.T.builtins G.T.nolimit hg hobj hints (Nat.le_trans hlen hn2) hr hF hb (fun H hO hS => hsp _ H a ns hlen hO hS) fun _ _ _ z => z
end Lb

set_option Elab.async false
set_option linter.all false
set_option maxRecDepth 100000
set_option maxHeartbeats 4000000
namespace Lb
open PySem PySem.Spec PyProof.Rows L2

/-! sizes of ints -/
/-- fewer than n bits -/
def Bd (n : Nat) (x : Int) : Prop := x.natAbs < 2 ^ n
theorem Bd.mono {n m : Nat} {x : Int} (h : Bd n x) (k : n ≤ m) : Bd m x := Nat.lt_of_lt_of_le h (Nat.pow_le_pow_right (by decide) k)
theorem Bd.mul {n m : Nat} {x y : Int} (h : Bd n x) (k : Bd m y) : Bd (n + m) (x * y) := by
  unfold Bd at *
  rw [Int.natAbs_mul, Nat.pow_add]
  exact Nat.mul_lt_mul'' h k
theorem Bd.add {n : Nat} {x y : Int} (h : Bd n x) (k : Bd n y) : Bd (n + 1) (x + y) := by
  unfold Bd at *
  have := Int.natAbs_add_le x y
  rw [Nat.pow_succ]
  omega
theorem Bd.neg {n : Nat} {x : Int} (h : Bd n x) : Bd n (-x) := by
  unfold Bd at *
  rw [Int.natAbs_neg]
  exact h
theorem Bd.sub {n : Nat} {x y : Int} (h : Bd n x) (k : Bd n y) : Bd (n + 1) (x - y) := by
  rw [Int.sub_eq_add_neg]
  exact h.add k.neg
theorem Bd.le {n : Nat} {x y : Int} (h : Bd n x) (k : y.natAbs ≤ x.natAbs) : Bd n y := Nat.lt_of_le_of_lt k h
theorem Bd.of {n : Nat} {x : Int} (h : x.natAbs < 2 ^ n) : Bd n x := h
theorem Bd.cm {n m : Nat} {x y : Int} (h : Bd n x) (k : Bd m y) (l : n + m ≤ 134217728) : CMulX x y := mulx_ok h k l
theorem Bd.log {n : Nat} {x : Int} (h : Bd n x) (p : 0 < n) : x.natAbs.log2 < n := PySem.Flt.log2_lt_of p h
theorem Bd.cd {n : Nat} {x y : Int} (h : Bd n y) (p : 0 < y) (l : n ≤ 8999) : CDivW x y := wide_div p (h.mono (Nat.le_succ n)) (Nat.succ_pos n) (by omega)
/-- a divisor of few bits is divided by C itself -/
theorem divp_small {i j : Int} (p : 0 < j) (h : Bd 8000 j) : CDivP i j := by
  refine ⟨p, ?_⟩
  have hj : (j == 0) = false := by simpa using (show j ≠ 0 by omega)
  have hl := h.log (by decide)
  have h1 : (j.natAbs.log2) / 30 + 1 ≤ 300 := by omega
  show (decide ((if j == 0 then 0 else j.natAbs.log2 / 30 + 1) > 300) && _) = false
  rw [hj]
  simp only [Bool.false_eq_true, if_false]
  rw [decide_eq_false (by omega), Bool.false_and]

/-! the pot: two ints, turned by each draw -/
def PotAt (H : Hp) (p : Addr) : Prop := ∃ a b : Int, H p = some (.lst [.int a, .int b]) ∧ 0 ≤ a ∧ 0 ≤ b ∧ b ≤ 2147483629
/-- all but p is kept -/
structure Mov (p : Addr) (H H' : Hp) : Prop where
  keep : ∀ b o, b ≠ p → H b = some o → H' b = some o
  pot : PotAt H' p
theorem Mov.trans {p : Addr} {H H1 H2 : Hp} (a : Mov p H H1) (b : Mov p H1 H2) : Mov p H H2 := ⟨fun c o n e => b.keep c o n (a.keep c o n e), b.pot⟩
theorem Mov.same {p : Addr} {H H1 H2 : Hp} (a : Mov p H H1) (b : Same H1 H2) : Mov p H H2 :=
  ⟨fun c o n e => b _ _ (a.keep c o n e), let ⟨x, y, e, r⟩ := a.pot; ⟨x, y, b _ _ e, r⟩⟩
theorem Same.mov {p : Addr} {H H1 : Hp} (a : Same H H1) (q : PotAt H p) : Mov p H H1 :=
  ⟨fun c o _ e => a _ _ e, let ⟨x, y, e, r⟩ := q; ⟨x, y, a _ _ e, r⟩⟩
theorem Mov.refl {p : Addr} {H : Hp} (q : PotAt H p) : Mov p H H := ⟨fun _ _ _ e => e, q⟩
theorem Mov.tup {p b : Addr} {H H1 : Hp} {xs : List V} (a : Mov p H H1) (q : PotAt H p) (e : H b = some (.tup xs)) : H1 b = some (.tup xs) :=
  a.keep _ _ (let ⟨_, _, e', _⟩ := q; ne_of e e' (fun z => nomatch z)) e
theorem Mov.ins {p b C dx : Addr} {H H1 : Hp} {fs : List (Str × V)} (a : Mov p H H1) (q : PotAt H p) (e : H b = some (.ins C dx fs)) : H1 b = some (.ins C dx fs) :=
  a.keep _ _ (let ⟨_, _, e', _⟩ := q; ne_of e e' (fun z => nomatch z)) e
theorem Mov.free {p b : Addr} {H H1 : Hp} (a : Mov p H H1) (q : PotAt H p) (e : H1 b = none) : H b = none := by
  cases z : H b with
  | none => rfl
  | some o =>
    by_cases hb : b = p
    · subst hb
      obtain ⟨_, _, e', _⟩ := a.pot
      rw [e] at e'
      cases e'
    · rw [a.keep b o hb z] at e
      cases e
theorem Same.upd {H : Hp} {p : Addr} {o : HO} (h : H p = none) : Same H (upd H p o) := fun a u e => by
  rw [upd_ne (ne_of_none e h)]
  exact e
theorem SqL.mov {K : PySem.W.Frag} {p a : Addr} {H H1 : Hp} {xs : List V} (m : Mov p H H1) (n : a ≠ p) (h : SqL K H a xs) : SqL K H1 a xs := by
  rcases h with (h | ⟨o, h⟩) | h
  · exact .inl (.inl (m.keep _ _ n h))
  · exact .inl (.inr ⟨o, m.keep _ _ n h⟩)
  · exact .inr h
theorem SqT.same {K : PySem.W.Frag} {a : Addr} {H H1 : Hp} {xs : List V} (m : Same H H1) (h : SqT K H a xs) : SqT K H1 a xs := by
  rcases h with (h | ⟨o, h⟩) | h
  · exact .inl (.inl (m _ _ h))
  · exact .inl (.inr ⟨o, m _ _ h⟩)
  · exact .inr h
/-- a written list's size -/
theorem sz {n : Nat} (h : Nat.ble n 1000 = true := by rfl) : n ≤ sizeLine :=
  Nat.le_trans (Nat.le_of_ble_eq_true h) (by decide)
theorem szlt {n : Nat} (k : n ≤ 10000) : n < sizeLine := Nat.lt_of_le_of_lt k (by decide)
theorem szle {n : Nat} (k : n ≤ 10000) : n ≤ sizeLine := Nat.le_of_lt (szlt k)
end Lb

set_option Elab.async false
set_option linter.all false
set_option maxRecDepth 100000
set_option maxHeartbeats 4000000
namespace Lb
open PySem PySem.Spec PyProof.Rows L2

/-- // by any divisor but 0, of few bits -/
def CDivX (_ j : Int) : Prop := j ≠ 0 ∧ j.natAbs.log2 < 9000
theorem op_fdivX {X : Cx} : OpR X (binaryOp .FloorDiv) (rI CDivX fun i j => .int (i.fdiv j)) :=
  opI fun i j _ _ _ _ _ hc q => floordiv_int hc.1 q (.inl (PyProof.noPylong_of_log2 hc.2))
theorem Bd.cx {n : Nat} {x y : Int} (h : Bd n y) (p : y ≠ 0) (l : n ≤ 8999) : CDivX x y :=
  ⟨p, Nat.lt_of_lt_of_le ((h.mono (Nat.le_succ n)).log (Nat.succ_pos n)) (by omega)⟩

/-! two lists, item by item -/
theorem Paired.imp {α β : Type} {F G : α → β → Prop} : ∀ {xs : List α} {ys : List β}, Paired F xs ys → (∀ a b, F a b → G a b) → Paired G xs ys
  | _, _, .nil, _ => .nil
  | _, _, .cons r t, f => .cons (f _ _ r) (Paired.imp t f)
theorem Paired.snoc {α β : Type} {F : α → β → Prop} {a : α} {b : β} (h : F a b) : ∀ {xs : List α} {ys : List β}, Paired F xs ys → Paired F (xs ++ [a]) (ys ++ [b])
  | _, _, .nil => .cons h .nil
  | _, _, .cons r t => .cons r (Paired.snoc h t)
theorem Paired.at_ {α β : Type} {F : α → β → Prop} : ∀ {xs : List α} {ys : List β} {i : Nat} {a : α}, Paired F xs ys → xs[i]? = some a → ∃ b, ys[i]? = some b ∧ F a b
  | _, _, i, _, .nil, e => by simp at e
  | _, _, 0, a, .cons r t, e => by simp at e; subst e; exact ⟨_, rfl, r⟩
  | _, _, i + 1, a, .cons r t, e => by
    obtain ⟨b, h1, h2⟩ := Paired.at_ (i := i) (a := a) t (by simpa using e)
    exact ⟨b, by simpa using h1, h2⟩
theorem Paired.at_r {α β : Type} {F : α → β → Prop} : ∀ {xs : List α} {ys : List β} {i : Nat} {b : β}, Paired F xs ys → ys[i]? = some b → ∃ a, xs[i]? = some a ∧ F a b
  | _, _, i, _, .nil, e => by simp at e
  | _, _, 0, a, .cons r t, e => by simp at e; subst e; exact ⟨_, rfl, r⟩
  | _, _, i + 1, a, .cons r t, e => by
    obtain ⟨b, h1, h2⟩ := Paired.at_r (i := i) (b := a) t (by simpa using e)
    exact ⟨b, by simpa using h1, h2⟩
theorem Paired.len {α β : Type} {F : α → β → Prop} : ∀ {xs : List α} {ys : List β}, Paired F xs ys → xs.length = ys.length
  | _, _, .nil => rfl
  | _, _, .cons _ t => congrArg Nat.succ (Paired.len t)
/-- a tuple of two ints -/
def Fr (H : Hp) (q : Addr) (t b : Int) : Prop := H q = some (.tup [.int t, .int b])
abbrev Rows (H : Hp) (as : List Addr) (fr : List (Int × Int)) : Prop := Paired (fun a x => Fr H a x.1 x.2) as fr
theorem Rows.same {H H' : Hp} {as : List Addr} {fr : List (Int × Int)} (r : Rows H as fr) (s : Same H H') : Rows H' as fr := Paired.imp r fun _ _ h => s _ _ h
theorem Rows.mov {p : Addr} {H H' : Hp} {as : List Addr} {fr : List (Int × Int)} (r : Rows H as fr) (m : Mov p H H') (hp : PotAt H p) : Rows H' as fr := Paired.imp r fun _ _ h => m.tup hp h
/-- a test with a known answer -/
theorem iteP {c A B : Prop} [Decidable c] (hc : c) (h : A) : if c then A else B := by rw [if_pos hc]; exact h
theorem iteN {c A B : Prop} [Decidable c] (hc : ¬ c) (h : B) : if c then A else B := by rw [if_neg hc]; exact h
theorem al3 {H H2 : Hp} {p : Addr} {o : HO} (e : upd H p o = H2) (h : H p = none) : Same H H2 ∧ H2 p = some o := by
  subst e
  exact ⟨Lb.Same.upd h, upd_same⟩
theorem Rows.snoc {H : Hp} {as : List Addr} {fr : List (Int × Int)} {q : Addr} {t b : Int} (r : Rows H as fr) (f : H q = some (.tup [.int t, .int b])) : Rows H (as ++ [q]) (fr ++ [(t, b)]) := Paired.snoc (F := fun (a : Addr) (x : Int × Int) => Fr H a x.1 x.2) (b := (t, b)) f r
theorem Rows.nil {H : Hp} : Rows H [] [] := Paired.nil
theorem Mov.ne {p l : Addr} {H H1 : Hp} (m : Mov p H H1) (h : H1 l = none) : l ≠ p := by
  obtain ⟨_, _, e, _⟩ := m.pot
  exact (ne_of_none e h).symm
/-- a list of another length is not the pot -/
theorem PotAt.ne {p l : Addr} {H : Hp} {xs : List V} (m : PotAt H p) (h : H l = some (.lst xs)) (n : xs.length ≠ 2) : l ≠ p := by
  rintro rfl
  obtain ⟨_, _, e, _⟩ := m
  rw [h] at e
  injection e with e
  injection e with e
  rw [e] at n
  exact n rfl
/-- a new object is changed -/
theorem Same.updl {H H2 : Hp} {l : Addr} {o : HO} (s : L2.Same H H2) (hl : H l = none) : L2.Same H (L2.upd H2 l o) := fun b u e => by
  rw [upd_ne (ne_of_none e hl)]
  exact s _ _ e
/-- what isinstance and the comparisons ask of the class at C -/
structure Inst (K : PySem.W.Frag) (C : Addr) : Prop where
  ca : PySem.W.findIn K (.ref C) "__class__" = some (some (.builtin "object.__class__"))
  cn : PySem.W.specialIn K (.builtin "object.__class__") "__get__" = some (some (.builtin "getset_descriptor.__get__"))
  ct : PySem.W.takesIn K (.builtin "object.__class__") = some true
  cm : PySem.W.mroIn K C (.type "object") = some true
  kNone : PySem.W.kitOne K (.type "NoneType") (.ref C) = some false
  kBool : PySem.W.kitOne K (.type "bool") (.ref C) = some false
  kInt : PySem.W.kitOne K (.type "int") (.ref C) = some false
  kStr : PySem.W.kitOne K (.type "str") (.ref C) = some false
  kList : PySem.W.kitOne K (.type "list") (.ref C) = some false
  kTup : PySem.W.kitOne K (.type "tuple") (.ref C) = some false
  kDict : PySem.W.kitOne K (.type "dict") (.ref C) = some false
  nNone : PySem.W.notFirst K C (.type "NoneType") = true
  nBool : PySem.W.notFirst K C (.type "bool") = true
  nInt : PySem.W.notFirst K C (.type "int") = true
  nStr : PySem.W.notFirst K C (.type "str") = true
  nList : PySem.W.notFirst K C (.type "list") = true
  nTup : PySem.W.notFirst K C (.type "tuple") = true
  nDict : PySem.W.notFirst K C (.type "dict") = true
theorem Inst.kSelf {K : PySem.W.Frag} {C : Addr} : PySem.W.kitOne K (.ref C) (.ref C) = some true := by
  unfold PySem.W.kitOne
  rw [if_pos (beq_self_eq_true _)]
theorem Inst.nSelf {K : PySem.W.Frag} {C : Addr} : PySem.W.notFirst K C (.ref C) = true := by
  unfold PySem.W.notFirst
  rw [beq_self_eq_true, Bool.true_or]
theorem Inst.ty {K : PySem.W.Frag} {C x dx : Addr} {H : Hp} {fs : List (Str × V)} (I : Inst K C) (cl : Cls K C) (e : H x = some (.ins C dx fs)) : TyOf K H (.ref x) (.ref C) := .ins e cl I.ca I.cn I.ct I.cm
theorem kit_own {K : PySem.W.Frag} {C : Addr} {T : String} (h1 : PySem.W.isClsIn K C = true) (h2 : PySem.W.typeIn K (.ref C) = some (.type "type")) (h3 : PySem.W.subIn K (.type T) (.ref C) = some false) :
    PySem.W.kitOne K (.type T) (.ref C) = some false ∧ PySem.W.notFirst K C (.type T) = true := by
  have ne : (Value.type T == Value.ref C) = false := Bool.eq_false_iff.mpr fun q => nomatch beq_iff_eq.mp q
  constructor
  · unfold PySem.W.kitOne
    rw [ne, if_neg (by decide)]
    unfold PySem.W.kitCls
    have h1' : (PySem.W.clsIn K C).isSome = true := h1
    dsimp only
    rw [h1', h2]
    rw [if_pos (by simp)]
    exact h3
  · unfold PySem.W.notFirst
    rw [h3]
    simp
/-- a def of the class by its special name -/
structure OwnM (K : PySem.W.Frag) (C : Addr) (x : Str) (f : Addr) : Prop where
  at_ : PySem.W.findIn K (.ref C) x = some (some (.ref f))
  fn : PySem.W.isFn K (.ref f) = true
/-- a value that is plainly no instance of the class at C: how isinstance and the comparisons see it -/
def NotC (K : PySem.W.Frag) (C : Addr) (H : Hp) (y : V) : Prop := ∃ t, TyOf K H y t ∧ PySem.W.kitOne K t (.ref C) = some false ∧ PySem.W.notFirst K C t = true
end Lb

set_option Elab.async false
set_option linter.all false
set_option maxRecDepth 100000
set_option maxHeartbeats 4000000
namespace Lb
open PySem PySem.Spec PyProof.Rows L2

/-! lists of bools, shown -/
theorem dp_bools {K : PySem.W.Frag} {H : Hp} : ∀ bs : List Bool, DpAll K H (bs.map V.bl) (bs.map PyData.bool)
  | [] => .nil
  | b :: r => .cons (.bl b) (dp_bools r)
theorem show_bools : ∀ bs : List Bool, PyData.showableAll (bs.map PyData.bool) = true
  | [] => by simp only [List.map_nil, PyData.showableAll]
  | b :: r => by simp only [List.map_cons, PyData.showableAll, PyData.showable, show_bools r, Bool.and_self]
theorem depth_bools : ∀ bs : List Bool, PyData.depthAll (bs.map PyData.bool) ≤ 1
  | [] => by simp only [List.map_nil, PyData.depthAll]; omega
  | b :: r => by
    have := depth_bools r
    simp only [List.map_cons, PyData.depthAll, PyData.depth]
    omega
theorem len_bools : ∀ bs : List Bool, ((PyData.shownAll (bs.map PyData.bool)).map (·.length)).sum ≤ 5 * bs.length ∧ (PyData.shownAll (bs.map PyData.bool)).length = bs.length
  | [] => by simp only [List.map_nil, PyData.shownAll]; exact ⟨Nat.le_refl _, rfl⟩
  | b :: r => by
    obtain ⟨h1, h2⟩ := len_bools r
    simp only [List.map_cons, PyData.shownAll, List.sum_cons, List.length_cons, h2]
    refine ⟨?_, trivial⟩
    have : (PyData.shown (.bool b)).length ≤ 5 := by
      simp only [PyData.shown]
      cases b <;> decide +kernel
    omega
theorem bools_ok (bs : List Bool) (n : bs.length ≤ 1000) : (PyData.list (bs.map PyData.bool)).showable = true ∧ (PyData.list (bs.map PyData.bool)).shown.length ≤ sizeLine ∧ (PyData.list (bs.map PyData.bool)).depth ≤ 60 := by
  refine ⟨?_, ?_, ?_⟩
  · simp only [PyData.showable, show_bools]
  · have e := listText_len_le (PyData.shownAll (bs.map PyData.bool))
    obtain ⟨h1, h2⟩ := len_bools bs
    simp only [PyData.shown]
    have : sizeLine = 16777216 := by decide
    omega
  · have := depth_bools bs
    simp only [PyData.depth]
    omega
theorem TyOf.same {K : PySem.W.Frag} {H H' : Hp} {y : V} {t : Value} (s : L2.Same H H') (h : TyOf K H y t) : TyOf K H' y t := by
  cases h with
  | non => exact .non
  | bl x => exact .bl x
  | int i => exact .int i
  | str x => exact .str x
  | flt x => exact .flt x
  | lst e => exact .lst (s _ _ e)
  | frz e => exact .frz (s _ _ e)
  | tup e => exact .tup (s _ _ e)
  | dK e => exact .dK (s _ _ e)
  | dT e => exact .dT (s _ _ e)
  | ins e cl a b c d => exact .ins (s _ _ e) cl a b c d
theorem NotC.same {K : PySem.W.Frag} {C : Addr} {H H' : Hp} {y : V} (s : L2.Same H H') (h : NotC K C H y) : NotC K C H' y := by
  obtain ⟨t, a, b, c⟩ := h
  exact ⟨t, TyOf.same s a, b, c⟩
theorem map_replicate_bl (n : Nat) (b : Bool) : (List.replicate n b).map V.bl = List.replicate n (V.bl b) := by simp
theorem all_replicate_true (n : Nat) : (List.replicate n true).all id = true := by simp
end Lb

set_option Elab.async false
set_option linter.all false
set_option maxRecDepth 100000
set_option maxHeartbeats 4000000
namespace Lb
open PySem PySem.Spec PyProof.Rows L2

/-- for i, x in enumerate(xs) -/
theorem for_enum {K : PySem.W.Frag} {a : Addr} {xs : List V} {g : TG} {tb : TS} {D : Ends} {σ : L2.St} {H : Hp} (Pv : Nat → L2.St → Hp → Prop) (h0 : Pv 0 σ H) (hq : ∀ i σ H, Pv i σ H → SqL K H a xs)
    (hs : ∀ (i : Nat) (x : V) (T : Addr) (σ : L2.St) (H : Hp), xs[i]? = some x → Pv i σ H → H T = none → g (.ref T) σ (L2.upd H T (.tup [.int (i : Nat), x])) fun σ2 H2 => tb { D with nx := Pv (i + 1), ct := Pv (i + 1), bk := D.nx } σ2 H2)
    (hd : ∀ σ H, Pv xs.length σ H → D.nx σ H) :
    ∃ W : Nat → Nat → L2.St → Hp → Prop, (∃ m, W 0 m σ H) ∧ ∀ i m σ H, W i m σ H →
      ((Ite K a).stop i H ∧ D.nx σ H) ∨ ((Ite K a).go i H ∧ ∃ N : L2.St → Hp → Prop, (∀ σ' H', N σ' H' → ∃ m', m' < m ∧ W (i + 1) m' σ' H') ∧
        ∀ v H', (Ite K a).yld i H v H' → g v σ H' fun σ2 H2 => tb { D with nx := N, ct := N, bk := D.nx } σ2 H2) := by
  refine ⟨fun i m σ H => m = xs.length - i ∧ i ≤ xs.length ∧ Pv i σ H, ⟨xs.length, rfl, Nat.zero_le _, h0⟩, ?_⟩
  rintro i m σ H ⟨rfl, hi, p⟩
  have q := hq i σ H p
  rcases Nat.lt_or_ge i xs.length with h | h
  · have hx : xs[i]? = some xs[i] := List.getElem?_eq_getElem h
    refine .inr ⟨⟨xs, _, q, hx⟩, Pv (i + 1), fun σ' H' p' => ⟨xs.length - (i + 1), by omega, rfl, h, p'⟩, ?_⟩
    rintro v H' ⟨T, x, rfl, hT, rfl, f⟩
    exact hs i x T σ H (f xs q) p hT
  · have e : i = xs.length := by omega
    subst e
    exact .inl ⟨⟨xs, q, Nat.le_refl _⟩, hd σ H p⟩

/-! a list that is being made at D, above the heap H0 -/
structure Blt {α : Type} (R : Hp → Addr → α → Prop) (H0 : Hp) (D : Addr) (done : List α) (H : Hp) : Prop where
  same : L2.Same H0 H
  ex : ∃ bs : List Addr, H D = some (.lst (bs.map V.ref)) ∧ Paired (R H) bs done
theorem Blt.start {α : Type} {R : Hp → Addr → α → Prop} {H0 : Hp} {D : Addr} (h : H0 D = none) : Blt R H0 D [] (L2.upd H0 D (.lst [])) :=
  ⟨Lb.Same.upd h, [], upd_same, .nil⟩
/-- one more item, made on the way from H to H2 -/
theorem Blt.step {α : Type} {R : Hp → Addr → α → Prop} {H0 H H2 : Hp} {D r : Addr} {done : List α} {x : α} (b : Blt R H0 D done H) (hD : H0 D = none) (s : L2.Same H H2)
    (keep : ∀ H H' a x, R H a x → (∀ o, H a = some o → H' a = some o) → R H' a x) (nl : ∀ H a x l, R H a x → H a = some (.lst l) → False) (hr : R H2 r x) :
    ∃ acc, H2 D = some (.lst acc) ∧ acc.length = done.length ∧ Blt R H0 D (done ++ [x]) (L2.upd H2 D (.lst (acc ++ [V.ref r]))) := by
  obtain ⟨s0, bs, e, p⟩ := b
  have e2 := s _ _ e
  have ch : ∀ a y, R H2 a y → R (L2.upd H2 D (.lst (bs.map V.ref ++ [V.ref r]))) a y := by
    intro a y h
    refine keep _ _ a y h fun o ho => ?_
    have na : a ≠ D := by
      rintro rfl
      exact nl _ _ _ _ h e2
    rw [upd_ne na]
    exact ho
  refine ⟨_, e2, by rw [List.length_map, Paired.len p], Same.updl (s0.trans s) hD, bs ++ [r], by rw [upd_same, List.map_append]; rfl, ?_⟩
  exact Paired.snoc (ch _ _ hr) (Paired.imp p fun a y h => ch _ _ (keep _ _ a y h fun o ho => s _ _ ho))

/-! an element of a list of ints -/
theorem inV_ints (z : Int) : ∀ ns : List Int, inV (.int z) (ns.map V.int) = decide (z ∈ ns)
  | [] => by simp [inV]
  | n :: r => by
    have ih := inV_ints z r
    unfold inV at ih ⊢
    rw [List.map_cons, List.any_cons, ih]
    have : eqV (.int n) (.int z) = decide (z = n) := by
      by_cases h : z = n
      · subst h; simp [eqV]
      · have h' : ¬ n = z := fun e => h e.symm
        simp [eqV, h, h']
    rw [this]
    by_cases h : z = n <;> simp [h]
theorem flat_ints : ∀ ns : List Int, (ns.map V.int).all flatV = true
  | [] => rfl
  | n :: r => by rw [List.map_cons, List.all_cons, flat_ints r]; rfl
end Lb

set_option Elab.async false
set_option linter.all false
set_option maxRecDepth 100000
set_option maxHeartbeats 4000000
namespace Lb
open PySem PySem.Spec PyProof.Rows L2
open SlX (cmpback)

/-! own operators between an instance and an int, or two instances -/
/-- what the text holds of an operator of a class beside ints: its def at g, the turned one at r -/
structure OwnBin (K : PySem.W.Frag) (C : Addr) (op : Operator) (g r : Addr) : Prop where
  first : PySem.W.selfFirst K C = true
  at_ : PySem.W.findIn K (.ref C) (PySem.dunder op.info.2) = some (some (.ref g))
  fn : PySem.W.isFn K (.ref g) = true
  rat : PySem.W.findIn K (.ref C) (dunderR op.info.2) = some (some (.ref r))
  rfn : PySem.W.isFn K (.ref r) = true
  i1 : ∃ fo, PySem.W.findIn K (.type "int") (PySem.dunder op.info.2) = some fo
  i2 : ∃ ro, PySem.W.findIn K (.type "int") (dunderR op.info.2) = some ro
  ss1 : PySem.W.subIn K (.type "int") (.ref C) = some false
  ss2 : PySem.W.subIn K (.ref C) (.type "int") = some false
  tyC : ∀ T, Value.type T ≠ .ref C := by intro T z; cases z

section
variable {X : Cx} {pins : List (Addr × Obj)} {σ : L2.St} {H : Hp} {s : Shared} {a C dx p g r : Addr} {f : Str} {n : Nat} {sp : Sp} {E : XK} {v : V} {u : Value} {op : Operator}

/-- a def that raises nothing, run in an expression -/
theorem run_at0 {A : Around} {Q : VK} {us : List Value} {ws : List V} (F : FnR X.prog X.w X.K X.mg X.base CX0 n g sp) (hr : Room n A) (e0 : Env0 X.prog X.w X.K X.mg X.base A X.stack s H) (I : Inv X pins σ H s) (r : Vals ws us) (h : sp ws H Q E) :
    codeAny (model X.prog X.w) A (.call (.ref g) ⟨us, []⟩) (fun r s' => match r with | .ok (.ret v) => EP X pins σ Q v s' | _ => False) s := by
  refine codeAny_mono (F A X.stack s H us ws Q E hr e0 r h) fun r s' hq => ?_
  cases r with
  | error e => exact False.elim hq
  | ok fl =>
    cases fl with
    | ret u => exact I.after hq
    | next => exact False.elim hq
    | brk => exact False.elim hq
    | cont => exact False.elim hq
theorem call_at0 {A : Around} {Ex : Value → Shared → Prop} {Q : VK} {us : List Value} {ws : List V} (F : FnR X.prog X.w X.K X.mg X.base CX0 n g sp) (hr : Room n A) (e0 : Env0 X.prog X.w X.K X.mg X.base A X.stack s H) (I : Inv X pins σ H s) (r : Vals ws us) (h : sp ws H Q E) :
    wpAny (model X.prog X.w) A (call (.ref g) us) (EP X pins σ Q) Ex s := by
  refine wpAny_call (codeAny_mono (run_at0 F hr e0 I r h) fun r s' hq => ?_)
  cases r with
  | error e => exact False.elim hq
  | ok fl => cases fl <;> first | exact hq | exact False.elim hq
/-- an operator, wherever it is run -/
def OpRA (X : Cx) (A : Around) (f : Value → Value → Sem Value) (r : R2) : Prop :=
  ∀ (pins : List (Addr × Obj)) (s : Shared) (σ : L2.St) (H : Hp) (x y : V) (v u : Value) (Q : VK) (Ex : Value → Shared → Prop), Inv X pins σ H s → Env0 X.prog X.w X.K X.mg X.base A X.stack s H → RelV x v → RelV y u → r x y H Q →
    wpAny (model X.prog X.w) A (f v u) (EP X pins σ Q) Ex s
theorem OpRA.here {f : Value → Value → Sem Value} {r : R2} (h : OpRA X X.A f r) : OpR X f r := fun pins s σ H x y v u Q I rx ry q => h pins s σ H x y v u Q _ I I.env0 rx ry q
theorem OpRA.or {A : Around} {f : Value → Value → Sem Value} {r r' : R2} (h : OpRA X A f r) (h' : OpRA X A f r') : OpRA X A f (fun x y H Q => r x y H Q ∨ r' x y H Q) := fun pins s σ H x y v u Q Ex I e0 rx ry q =>
  q.elim (h pins s σ H x y v u Q Ex I e0 rx ry) (h' pins s σ H x y v u Q Ex I e0 rx ry)
/-- x OP y, x an instance, y an int or an instance of its class -/
def rBin (C : Addr) (sp : Sp) (E : XK) : R2 := fun x y H Q =>
  ∃ a dx fs, x = .ref a ∧ H a = some (.ins C dx fs) ∧ ((∃ m, y = .int m) ∨ ∃ b dy fy, y = .ref b ∧ H b = some (.ins C dy fy)) ∧ sp [x, y] H Q E
theorem ownBin_at {K : PySem.W.Frag} {A : Around} (hK : X.K = K) (B : OwnBin K C op g r) (F : FnR X.prog X.w X.K X.mg X.base CX0 n g sp) (hr : Room n A) : OpRA X A (binaryOp op) (rBin C sp E) := by
  subst hK
  intro pins s σ H x y v u Q Ex I e0 rx ry h
  obtain ⟨a, dx, fs, rfl, ha, hy, q⟩ := h
  cases (show v = Value.ref a from rx)
  obtain ⟨od, J⟩ := inst_at I ha
  obtain ⟨m, hF⟩ := I.fr
  have one : wpAny (model X.prog X.w) A (call (.ref g) [.ref a, u]) (PySem.W.CmpBack (EP X pins σ Q)) Ex s := by
    refine wpAny_mono (call_at0 (us := [.ref a, u]) (ws := [.ref a, y]) F hr e0 I (.cons rfl (.cons ry .nil)) q) (fun w s' z => ?_) fun _ _ x => x
    obtain ⟨z', H', I', rz, qz⟩ := z
    exact cmpback rz ⟨z', H', I', rz, qz⟩
  rcases hy with ⟨k, rfl⟩ | ⟨b, dy, fy, rfl, hb⟩
  · obtain ⟨t, rfl⟩ := ry
    obtain ⟨fo, h1⟩ := B.i1
    obtain ⟨ro, h2⟩ := B.i2
    exact PySem.W.ksp_binT (T := "int") hF I.ok.mod.kin J rfl B.first B.at_ B.fn B.rat (.inr ⟨_, rfl⟩) h1 h2 B.ss1 one
  · cases (show u = Value.ref b from ry)
    obtain ⟨od', J'⟩ := inst_at I hb
    exact PySem.W.binop_K hF I.ok.mod.kin J J'.type B.first B.at_ B.fn one
/-- n OP y, y an instance: its turned def, where the int's own says nothing -/
def rBinR (C : Addr) (sp : Sp) (E : XK) : R2 := fun x y H Q =>
  ∃ m b dy fy, x = .int m ∧ y = .ref b ∧ H b = some (.ins C dy fy) ∧ sp [y, x] H Q E
/-- what the library says of an int's own operator -/
structure IntBin (op : Operator) (id : String) (nm : String) (f : Int → Int → Sem Fin) : Prop where
  fills : fillsNumberSlot (.type "int") op.info.2 = pure true
  slot : Slot "int" (PySem.dunder op.info.2) id
  entry : entryFor table id = some (Builtin.Int.intBinary nm f)
  args : ∀ x y, argsOk id ⟨[x, y], []⟩
theorem int_no {M : Model} {A : Around} {Ex : Value → Shared → Prop} {Q : Fin → Shared → Prop} {k : Int} {t : Tok} {b : Addr} {nm : String} {fI : Int → Int → Sem Fin} (J : s.heap.get? b = some (PySem.W.instObj C dx))
    (h : Q (.done (.ret .notImplemented)) s) : wpAny M A (Builtin.Int.intBinary nm fI false ⟨[.int k t, .ref b], []⟩) Q Ex s := by
  unfold Builtin.Int.intBinary
  refine wpAny_bind (m := slotArgs _ _ _) (wpAny_pure ?_)
  refine wpAny_bind (m := Builtin.Int.intOfSelf _) (wpAny_pure ?_)
  refine wpAny_bind (m := asInt? _) (wpAny_bind (wpAny_load J (wpAny_pure ?_)))
  exact wpAny_bind (wpAny_rule (wpAny_pure h))
theorem int_add : IntBin .Add "int.__add__" "__add__" (fun x y => retInt (x + y)) := ⟨F.fills_int_add, F.slot_int_add, F.entry_int_add, F.args_int_add_2⟩
theorem int_sub : IntBin .Sub "int.__sub__" "__sub__" (fun x y => retInt (x - y)) := ⟨F.fills_int_sub, F.slot_int_sub, F.entry_int_sub, F.args_int_sub_2⟩
theorem int_mul : IntBin .Mult "int.__mul__" "__mul__" (fun x y => Builtin.intProduct "__mul__" x y) := ⟨F.fills_int_mul, F.slot_int_mul, F.entry_int_mul, F.args_int_mul_2⟩
theorem ownBinR_at {K : PySem.W.Frag} {A : Around} {id nm : String} {fI : Int → Int → Sem Fin} (hK : X.K = K) (L : IntBin op id nm fI) (B : OwnBin K C op g r) (F : FnR X.prog X.w X.K X.mg X.base CX0 n r sp) (hr : Room n A) : OpRA X A (binaryOp op) (rBinR C sp E) := by
  subst hK
  intro pins s σ H x y v u Q Ex I e0 rx ry h
  obtain ⟨k, b, dy, fy, rfl, rfl, hb, q⟩ := h
  obtain ⟨t, rfl⟩ := rx
  cases (show u = Value.ref b from ry)
  obtain ⟨od, J⟩ := inst_at I hb
  have KX := I.kIn
  obtain ⟨cd, rest, hcd, hm⟩ := PySem.W.ksp_first B.first
  have L4 : PySem.W.Looks (model X.prog X.w) s.heap (fillsNumberSlot (.ref C) op.info.2) true := PySem.W.fills_K KX hcd hm B.at_
  have L5 : PySem.W.Looks (model X.prog X.w) s.heap (isSubtype (.ref C) (.type "int")) false := PySem.W.looks_subIn KX B.ss2
  have two : wpAny (model X.prog X.w) A (call (.ref r) [.ref b, .int k t]) (PySem.W.CmpBack (EP X pins σ Q)) Ex s := by
    refine wpAny_mono (call_at0 (us := [.ref b, .int k t]) (ws := [.ref b, .int k]) F hr e0 I (.cons rfl (.cons ⟨t, rfl⟩ .nil)) q) (fun w s' z => ?_) fun _ _ x => x
    obtain ⟨z', H', I', rz, qz⟩ := z
    exact cmpback rz ⟨z', H', I', rz, qz⟩
  have rt := B.rat
  have fl := L.fills
  have sl := L.slot
  rcases hi : op.info with ⟨sym, nm'⟩
  rw [hi] at L4 rt fl sl
  dsimp only at L4 rt fl sl
  have hne : (Value.type "int" == Value.ref C) = false := Bool.eq_false_iff.mpr fun q => by cases beq_iff_eq.mp q
  simp only [binaryOp, hi]
  refine wpAny_holding (wpAny_bind ?_)
  unfold binaryOp1
  refine wpAny_bind (wpAny_of_eq (show typeOf (.int k t) = pure (.type "int") from rfl) (wpAny_bind (J.type.here (wpAny_bind (wpAny_of_eq fl ?_)))))
  simp only [hne, Bool.false_eq_true, if_false]
  refine wpAny_bind (L4.here ?_)
  simp only [Bool.and_self, if_true]
  refine wpAny_bind (L5.here ?_)
  have hpy : numberSlotInPython (.type "int") nm' = pure false := rfl
  simp only [Bool.false_eq_true, if_false, pure_bind, Bool.not_false, Bool.and_self, if_true, hpy]
  simp only [tryMethod]
  refine wpAny_bind (wpAny_bind (wpAny_callSpecial?_slot (typeIs_int _ _ _) sl (wpAny_call_entry sl (typeIs_int _ _ _) L.entry ?_ (L.args _ _))))
  refine int_no J.at_ ⟨_, rfl, ?_⟩
  refine wpAny_pure ?_
  refine wpAny_bind (wpAny_bind (PySem.W.special_fn KX J rt (beq_iff_eq.mp B.rfn) (wpAny_mono two (fun v s' hv => ?_) fun _ _ e => e)))
  cases v <;> first | exact hv.elim | exact wpAny_pure (wpAny_bind (wpAny_rule (wpAny_pure (wpAny_pure hv))))
theorem op_ownBin {K : PySem.W.Frag} (hK : X.K = K) (B : OwnBin K C op g r) (F : FnR X.prog X.w X.K X.mg X.base CX0 n g sp) (hr : Room n X.A) : OpR X (binaryOp op) (rBin C sp E) := (ownBin_at hK B F hr).here
theorem op_ownBinR {K : PySem.W.Frag} {id nm : String} {fI : Int → Int → Sem Fin} (hK : X.K = K) (L : IntBin op id nm fI) (B : OwnBin K C op g r) (F : FnR X.prog X.w X.K X.mg X.base CX0 n r sp) (hr : Room n X.A) : OpR X (binaryOp op) (rBinR C sp E) := (ownBinR_at hK L B F hr).here
/-! -x, abs(x), bool(x) of an instance -/
def rUnOwn (C : Addr) (sp : Sp) (E : XK) : V → Hp → VK → Prop := fun x H Q => ∃ a dx fs, x = .ref a ∧ H a = some (.ins C dx fs) ∧ sp [x] H Q E
theorem un_ownNeg {K : PySem.W.Frag} (hK : X.K = K) (hs : PySem.W.findIn K (.ref C) "__neg__" = some (some (.ref g))) (hf : PySem.W.isFn K (.ref g) = true) (F : FnR X.prog X.w X.K X.mg X.base CX0 n g sp) (hr : Room n X.A) :
    UnR X (unaryOp .USub) (rUnOwn C sp E) := by
  subst hK
  intro pins s σ H x v Q I rx h
  obtain ⟨a, dx, fs, rfl, ha, q⟩ := h
  cases (show v = Value.ref a from rx)
  obtain ⟨od, J⟩ := inst_at I ha
  obtain ⟨m, hF⟩ := I.fr
  exact PySem.W.ksp_neg hF I.ok.mod.kin J hs hf (call_at0 (us := [.ref a]) (ws := [.ref a]) F hr I.env0 I (.cons rfl .nil) q)
def rCallOwn (C : Addr) (sp : Sp) (E : XK) : List V → Hp → VK → Prop := fun xs H Q => ∃ a dx fs, xs = [.ref a] ∧ H a = some (.ins C dx fs) ∧ sp xs H Q E
theorem call_absOwn (hs : PySem.W.findIn X.K (.ref C) "__abs__" = some (some (.ref g))) (hf : PySem.W.isFn X.K (.ref g) = true) (F : FnR X.prog X.w X.K X.mg X.base CX0 n g sp) (hr : Room (n + 1) X.A) :
    CallR X (.builtin "abs") (rCallOwn C sp E) := by
  intro pins s σ H xs us Q I r h
  obtain ⟨a, dx, fs, rfl, ha, q⟩ := h
  obtain ⟨u, rfl, ru⟩ := vals1 r
  cases (show u = Value.ref a from ru)
  obtain ⟨od, J⟩ := inst_at I ha
  refine Calls.call_function_entry kind_abs plain_abs entry_abs (args_abs _) ?_
  unfold Builtin.«abs»
  refine wpAny_bind (m := oneArg "abs" _) (wpAny_pure ?_)
  refine wpAny_bind (PySem.W.special_fn I.kIn J hs (beq_iff_eq.mp hf) ?_)
  refine wpAny_mono (call_at0 (us := [.ref a]) (ws := [.ref a]) F hr.in1 I.env0.in1 I (.cons rfl .nil) q) (fun w s' z => ?_) fun _ _ x => x
  exact wpAny_pure ⟨_, rfl, z⟩
end
/-! sum of a list of instances -/
/-- how the sum goes: N i v H, the sum v of the first i -/
structure SumG (K : PySem.W.Frag) (add : R2) (l : Addr) (as : List Addr) (N : Nat → V → Hp → Prop) : Prop where
  zero : ∀ v H, N 0 v H → v = .int 0
  more : ∀ i v H, N (i + 1) v H → ∃ a, v = .ref a
  list : ∀ i v H, N i v H → SqL K H l (as.map V.ref)
  step : ∀ i v a H, as[i]? = some a → N i v H → add v (.ref a) H (N (i + 1))
theorem turn_fp {X : Cx} {pins : List (Addr × Obj)} {σ : L2.St} {H : Hp} {s : Shared} {it : Addr} {h' : Heap} {t' : Nat} (I : Inv X pins σ H s) (f : FpOk X pins H it) (k : ∀ b o, b ≠ it → s.heap.get? b = some o → h'.get? b = some o) : Inv X pins σ H { s with heap := h', toks := t' } := by
  obtain ⟨f0, f1, f2, f3, f4, f5⟩ := f
  exact I.turned k f0 f1 f3 f4 f5
section
variable {X : Cx} {pins : List (Addr × Obj)} {σ : L2.St} {add : R2} {l : Addr} {as : List Addr} {N : Nat → V → Hp → Prop} {Q : VK}
theorem sum_loop (hc : X.calm = true) (hadd : OpRA X X.A.in1 (binaryOp .Add) add) (G : SumG X.K add l as N) (hQ : ∀ v H, N as.length v H → Q v H) (it S : Addr) (hne : S ≠ it) :
    ∀ (k i : Nat) (s : Shared) (H : Hp) (v : V) (u : Value) (c : Nat) (st : Int), as.length - i = k → i ≤ as.length → Inv X pins σ H s → N i v H → RelV v u → ((st = 0 ∧ ∃ t, u = .int 0 t) ∨ (st = 2 ∧ ∃ a, u = .ref a)) →
      s.heap.IsListIter it l i → s.heap.get? S = some { cls := .type "list", dict := none, data := .seq #[u] c, slots := #[] } → FpOk X pins H it → FpOk X pins H S →
      codeAny (model X.prog X.w) X.A (.builtin "sum.loop" ⟨[.ref it, .ref S, rawInt st, rawInt 0], []⟩) (fun r s' => match r with | .ok (.ret v) => EP X pins σ Q v s' | _ => False) s := by
  intro k
  induction k with
  | zero =>
    intro i s H v u c st hk hi I n rv hu hit hS fi fS
    obtain ⟨its, rl, pl, hsz⟩ := I.list (G.list _ _ _ n)
    have hlen : its.length = as.length := by rw [← rl.length, List.length_map]
    have hin : i = as.length := by omega
    refine codeAny_builtin F.entry_sum_loop ?_
    rw [Around.under_plainId F.plain_sum_loop _]
    show wpAny _ X.A.in1 (seqItems? (.ref S) >>= _) _ _ s
    refine wpAny_bind (wpAny_seqItems hS rfl ?_)
    show wpAny _ X.A.in1 (tryCatch (pyNext (.ref it)) _ >>= _) _ _ s
    refine wpAny_bind (wpAny_tryCatch (wpAny_pyNext_list_end (I.ok.hd hc) hit pl.isList (by rw [List.getElem?_toArray, List.getElem?_eq_none (by omega)]) fun h' he => ?_))
    have I' := turn_fp (t' := s.toks) I fi he
    have q : Q v H := hQ _ _ (hin ▸ n)
    rcases hu with ⟨_, t, rfl⟩ | ⟨_, a, rfl⟩
    · exact wpAny_pure ⟨v, H, I', rv, q⟩
    · exact wpAny_pure ⟨v, H, I', rv, q⟩
  | succ k ih =>
    intro i s H v u c st hk hi I n rv hu hit hS fi fS
    obtain ⟨its, rl, pl, hsz⟩ := I.list (G.list _ _ _ n)
    have hlen : its.length = as.length := by rw [← rl.length, List.length_map]
    have hlt : i < as.length := by omega
    obtain ⟨u2, hu2, rx⟩ := rl.get (i := i) (x := .ref as[i]) (by rw [List.getElem?_map, List.getElem?_eq_getElem hlt]; rfl)
    cases (show u2 = Value.ref as[i] from rx)
    refine codeAny_builtin F.entry_sum_loop ?_
    rw [Around.under_plainId F.plain_sum_loop _]
    show wpAny _ X.A.in1 (seqItems? (.ref S) >>= _) _ _ s
    refine wpAny_bind (wpAny_seqItems hS rfl ?_)
    show wpAny _ X.A.in1 (tryCatch (pyNext (.ref it)) _ >>= _) _ _ s
    refine wpAny_bind (wpAny_tryCatch (wpAny_pyNext_list_item hit pl.isList (x := .ref as[i]) (by rw [List.getElem?_toArray]; exact hu2) fun h' hit' hs => ?_))
    have I' := turn_fp (t' := s.toks) I fi hs.extBut
    have hS' : h'.get? S = some { cls := .type "list", dict := none, data := .seq #[u] c, slots := #[] } := hs.extBut S _ hne hS
    -- both kept while the operator runs
    have fps : ∀ b ∈ [it, S], FpOk X pins H b := by
      intro b hb
      rcases List.mem_cons.mp hb with e | hb
      · exact e ▸ fi
      · exact (List.mem_singleton.mp hb) ▸ fS
    obtain ⟨oi, hoi, hci, hdi⟩ := id hit'
    have IP := I'.pinned (fp := [it, S]) fps (by
      intro b hb
      rcases List.mem_cons.mp hb with e | hb
      · exact ⟨oi, by rw [e]; exact hoi, fun v z => by rw [hdi] at z; cases z⟩
      · exact ⟨_, by rw [List.mem_singleton.mp hb]; exact hS', fun v z => by cases z⟩)
    have main : ∀ (Ex : Value → Shared → Prop), wpAny (model X.prog X.w) X.A.in1 (binaryOp .Add u (.ref as[i])) (fun r s' => ∃ a v' H', r = .ref a ∧ v' = .ref a ∧ Inv X pins σ H' s' ∧ N (i + 1) v' H' ∧ s'.heap.IsListIter it l (i + 1) ∧
        s'.heap.get? S = some { cls := .type "list", dict := none, data := .seq #[u] c, slots := #[] } ∧ FpOk X pins H' it ∧ FpOk X pins H' S) Ex { s with heap := h' } := fun Ex => by
      refine wpAny_mono (hadd _ _ σ H v (.ref as[i]) u (.ref as[i]) (N (i + 1)) Ex IP IP.env0.in1 rv rfl (G.step _ _ _ _ (List.getElem?_eq_getElem hlt) n)) (fun r s' z => ?_) fun _ _ e => e
      obtain ⟨v', H', I2, r2, n2⟩ := z
      obtain ⟨a, rfl⟩ := G.more _ _ _ n2
      have p1 := I2.pin (it, oi) (List.mem_append_right _ (List.mem_append_right _ (mem_pinsAt (by simp) hoi)))
      have p2 := I2.pin (S, _) (List.mem_append_right _ (List.mem_append_right _ (mem_pinsAt (by simp) hS')))
      exact ⟨a, _, H', r2, rfl, I2.unpinned, n2, ⟨oi, p1.1, hci, hdi⟩, p2.1, ⟨p1.2.1, fi.2⟩, ⟨p2.2.1, fS.2⟩⟩
    -- the sum is set
    have last : ∀ (s' : Shared) (H' : Hp) (a : Addr), Inv X pins σ H' s' → N (i + 1) (.ref a) H' → s'.heap.IsListIter it l (i + 1) → s'.heap.get? S = some { cls := .type "list", dict := none, data := .seq #[u] c, slots := #[] } → FpOk X pins H' it → FpOk X pins H' S →
        wpAny (model X.prog X.w) X.A.in1 (updateSeq S (fun _ => #[.ref a]) >>= fun _ => letGo [u, .ref as[i]] [] >>= fun _ => updateSeq S (fun _ => #[.ref a]) >>= fun _ => again (.builtin "sum.loop" ⟨[.ref it, .ref S, rawInt 2, rawInt 0], []⟩))
          (fun fin s' => match fin with | .done f => (match (Except.ok f : Result) with | .ok (.ret v) => EP X pins σ Q v s' | _ => False) | .again c' => c'.quiet = true ∧ codeAny (model X.prog X.w) X.A c' (fun r s' => match r with | .ok (.ret v) => EP X pins σ Q v s' | _ => False) s') (fun _ _ => False) s' := by
      intro s' H' a I2 n2 hit2 hS2 fi2 fS2
      refine wpAny_bind (wpAny_updateSeq hS2 rfl ?_)
      have hS3 := Heap.get?_update_self (Obj.mapSeq fun _ => #[Value.ref a]) hS2 rfl
      refine wpAny_bind (wpAny_letGo ?_)
      refine wpAny_bind (wpAny_updateSeq hS3 rfl ?_)
      have hS4 := Heap.get?_update_self (Obj.mapSeq fun _ => #[Value.ref a]) hS3 rfl
      have keep : ∀ b o, b ≠ S → s'.heap.get? b = some o → ((s'.heap.update S (Obj.mapSeq fun _ => #[Value.ref a])).update S (Obj.mapSeq fun _ => #[Value.ref a])).get? b = some o := fun b o nb e =>
        (Heap.get?_update_other _ _ (Ne.symm nb)).trans ((Heap.get?_update_other _ _ (Ne.symm nb)).trans e)
      have I3 := turn_fp (t' := s'.toks) I2 fS2 keep
      refine wpAny_pure ⟨plainId_quiet F.plain_sum_loop _, ih (i + 1) _ H' (.ref a) (.ref a) _ 2 (by omega) hlt I3 n2 rfl (.inr ⟨rfl, _, rfl⟩) ?_ hS4 fi2 fS2⟩
      obtain ⟨o, e, x, y⟩ := hit2
      exact ⟨o, keep _ _ (Ne.symm hne) e, x, y⟩
    rcases hu with ⟨rfl, t, rfl⟩ | ⟨rfl, a0, rfl⟩
    · refine wpAny_bind (wpAny_rule ?_)
      refine wpAny_bind (wpAny_attempt (wpAny_holding (wpAny_mono (main _) (fun r s' z => ?_) fun _ _ e => e)))
      obtain ⟨a, v', H', rfl, rfl, I2, n2, hit2, hS2, fi2, fS2⟩ := z
      exact last s' H' a I2 n2 hit2 hS2 fi2 fS2
    · refine wpAny_bind (wpAny_attempt (wpAny_holding (wpAny_mono (main _) (fun r s' z => ?_) fun _ _ e => e)))
      obtain ⟨a, v', H', rfl, rfl, I2, n2, hit2, hS2, fi2, fS2⟩ := z
      exact last s' H' a I2 n2 hit2 hS2 fi2 fS2
/-- sum(xs), xs a list of instances -/
def rSumOwn (K : PySem.W.Frag) (add : R2) : List V → Hp → VK → Prop := fun vs H Q => ∃ (l : Addr) (as : List Addr) (N : Nat → V → Hp → Prop), vs = [.ref l] ∧ SumG K add l as N ∧ N 0 (.int 0) H ∧ ∀ v H', N as.length v H' → Q v H'
theorem cr_sumOwn {K : PySem.W.Frag} (hK : X.K = K) (hc : X.calm = true) (hadd : OpRA X X.A.in1 (binaryOp .Add) add) : CallR X (.builtin "sum") (rSumOwn K add) := by
  subst hK
  intro pins s σ H xs us Q I r h
  obtain ⟨l, as, N, rfl, G, n0, q⟩ := h
  obtain ⟨u, rfl, ru⟩ := vals1 r
  cases (show u = Value.ref l from ru)
  obtain ⟨its, rl, pl, hsz⟩ := I.list (G.list _ _ _ n0)
  refine call_function_tree F.kind_sum F.plain_sum F.entry_sum (F.args_sum1 _) ?_
  unfold Builtin.«sum»
  simp only [List.length_cons, List.length_nil]
  rw [if_neg (by decide)]
  refine wpAny_bind (wpAny_of_eq (show Builtin.Builtins.bindParams "sum" ["start"] 0 { } = pure [none] from rfl) ?_)
  refine wpAny_bind (wpAny_pyIter_list pl.isList ?_)
  refine wpAny_bind (wpAny_mkInt ?_)
  refine wpAny_bind (wpAny_pure ?_)
  simp only [List.forIn_cons, List.forIn_nil]
  refine wpAny_bind (wpAny_bind (wpAny_bind (wpAny_isInstance (T := "int") (b := false) (typeIs_int _ _ _) PySem.sub_int_str ?_)))
  simp only [Bool.false_eq_true, if_false]
  refine wpAny_pure (wpAny_bind (wpAny_bind (wpAny_isInstance (T := "int") (b := false) (typeIs_int _ _ _) PySem.sub_int_bytes ?_)))
  simp only [Bool.false_eq_true, if_false]
  refine wpAny_pure (wpAny_bind (wpAny_bind (wpAny_isInstance (T := "int") (b := false) (typeIs_int _ _ _) PySem.sub_int_bytearray ?_)))
  simp only [Bool.false_eq_true, if_false]
  refine wpAny_pure (wpAny_pure ?_)
  refine wpAny_bind (wpAny_newObj_type ?_)
  have k1 : ∀ b o, s.heap.get? b = some o → ((s.heap.push ({ cls := .type "list_iterator", data := .fields #[.ref l, .int 0 0] } : Obj)).push ({ cls := .type "list", dict := none, data := .seq #[Value.int 0 s.toks] } : Obj)).get? b = some o := fun b o e => Heap.get?_push_of_some _ (Heap.get?_push_of_some _ e)
  have e1 : (s.heap.push ({ cls := .type "list_iterator", data := .fields #[.ref l, .int 0 0] } : Obj)).objs.size = s.heap.objs.size + 1 := Heap.size_push ..
  have I1 := I.kept (t' := s.toks + 1) k1
  have n1 : H (s.heap.push ({ cls := .type "list_iterator", data := .fields #[.ref l, .int 0 0] } : Obj)).objs.size = none := I.hok.fresh (by rw [e1]; exact Nat.le_succ _)
  have n2 : H s.heap.objs.size = none := I.hok.fresh (Nat.le_refl _)
  have f1 : FpOk X pins H s.heap.objs.size := I.fpOk (Nat.le_refl _) n2
  have f2 : FpOk X pins H (s.heap.push ({ cls := .type "list_iterator", data := .fields #[.ref l, .int 0 0] } : Obj)).objs.size := I.fpOk (by rw [e1]; exact Nat.le_succ _) n1
  refine wpAny_pure ⟨plainId_quiet F.plain_sum_loop _, codeAny_mono (sum_loop (N := N) (Q := Q) hc hadd G q s.heap.objs.size (s.heap.push ({ cls := .type "list_iterator", data := .fields #[.ref l, .int 0 0] } : Obj)).objs.size (by rw [e1]; exact Nat.succ_ne_self _) as.length 0 _ H (.int 0) (.int 0 s.toks) 0 0 (by omega) (Nat.zero_le _) I1 n0 ⟨_, rfl⟩ (.inl ⟨rfl, _, rfl⟩) ?_ ?_ f1 f2) ?_⟩
  · exact ⟨_, Heap.get?_push_of_some _ (Heap.get?_push_size _ rfl), rfl, rfl⟩
  · exact Heap.get?_push_size _ rfl
  · intro r s' z
    cases r with
    | error e => exact False.elim z
    | ok fl => cases fl <;> first | exact z | exact False.elim z
end
end Lb

set_option Elab.async false
set_option linter.all false
set_option maxRecDepth 100000
set_option maxHeartbeats 4000000
namespace Lb
open PySem PySem.Spec PyProof.Rows L2
section
variable {X : Cx} {CX : CXT} {k : Nat} {f C p g : Addr} {fd : FuncData} {ps ks : List Str} {sp : Sp} {E : XK} {x m : Str} {pos np apos : Pos} {o : Expr} {kws : List Keyword} {ta : TE} {tk : TA} {gf : List Value → List Value → List Value} {gV : List V → List V → List V}
theorem run_kbn {n : Nat} {pins : List (Addr × Obj)} {σ : L2.St} {H : Hp} {s : Shared} {Q : VK} {us ws : List Value} {vs zs : List V} (F : FnOk X.prog X.w X.K X.mg X.base CX k f fd ps sp) (hr : Room k X.A) (hb : KBn X.K fd ps n ks gf gV) (hx : Passes CX X E)
    (I : Inv X pins σ H s) (r : Vals vs us) (rz : Vals zs ws) (l1 : vs.length = n) (l2 : zs.length = ks.length) (h : sp (gV vs zs) H Q E) : wpAny (model X.prog X.w) X.A (call (.ref f) us (ks.zip ws)) (EP X pins σ Q) X.xe s := by
  refine wpAny_call (codeAny_mono (F.run X.A X.stack s H ⟨us, ks.zip ws⟩ (gf us ws) (gV vs zs) Q E hr I.env0 (hb.to s us ws I.kIn (r.length.symm.trans l1) (rz.length.symm.trans l2)) (hb.rel r rz) h) fun r s' hq => ?_)
  cases r with
  | error e => exact hx pins σ H s e s' I hq
  | ok fl =>
    cases fl with
    | ret u => exact I.after hq
    | next => exact False.elim hq
    | brk => exact False.elim hq
    | cont => exact False.elim hq
/-- f(k = v, ..) -/
def tCallK0 (m : Nat) (sp : Sp) (gV : List V → List V → List V) (E : XK) (tk : TA) : TE := fun σ H Q => tk σ H fun zs H2 => zs.length = m ∧ sp (gV [] zs) H2 Q E
theorem pe_callK0 (F : FnOk X.prog X.w X.K X.mg X.base CX k f fd ps sp) (hr : Room k X.A) (hg : Gl X x) (hm : X.mg x = some (.ref f)) (hk : PySem.W.keepIn X.K (.ref f) = true) (hb : KBn X.K fd ps 0 ks gf gV) (hx : Passes CX X E) (hkw : PK X kws tk)
    (hall : (backToKw pos (keywordEach kws X.env)).all (·.1.isSome) = true := by rfl) (hks : (backToKw pos (keywordEach kws X.env)).filterMap (·.1) = ks := by rfl) (hdb : (x == ("__debug__" : Str)) = false := by decide)
    (hpl : ((backTo pos (starEach [] X.env)).any (·.1) || (backToKw pos (keywordEach kws X.env)).any (·.1.isNone)) = false := by rfl) :
    PE X (.Call (.Name x np) [] kws pos) (tCallK0 ks.length sp gV E tk) := by
  refine ⟨fun pins s σ H Q I h => ?_⟩
  refine wpAny_Call_Name_kw (ld_glob I hg hm ?_ hdb)
  refine PySem.W.callWith_KW0 (h₀ := X.base) I.ok.mod.kin hk hall ?_ hpl
  refine thn (hkw.run pos pins s σ H _ I h) fun ws s2 ⟨zs, H2, I2, rz, l2, q2⟩ => ⟨I2.kIn, ?_⟩
  rw [hks]
  exact run_kbn (us := []) (vs := []) F hr hb hx I2 .nil rz rfl l2 q2
/-- o.m(k = v, ..) -/
def tMethK0 (C : Addr) (m : Str) (nk : Nat) (sp : Sp) (gV : List V → List V → List V) (E : XK) (ta : TE) (tk : TA) : TE := fun σ H Q => ta σ H fun x H1 => ∃ a dx fs, x = .ref a ∧ H1 a = some (.ins C dx fs) ∧ fs.lookup m = none ∧ tk σ H1 fun zs H2 => zs.length = nk ∧ sp (gV [.ref a] zs) H2 Q E
theorem pe_methK0 {pl : Sem Bool} (he : PE X o ta) (c : Cls X.K C) (hm : Meth X.K C m f) (F : FnOk X.prog X.w X.K X.mg X.base CX k f fd ps sp) (hr : Room k X.A) (hb : KBn X.K fd ps 1 ks gf gV) (hx : Passes CX X E) (hkw : PK X kws tk)
    (hall : (backToKw pos (keywordEach kws X.env)).all (·.1.isSome) = true := by rfl) (hks : (backToKw pos (keywordEach kws X.env)).filterMap (·.1) = ks := by rfl)
    (hpl : ((backTo pos (starEach [] X.env)).any (·.1) || (backToKw pos (keywordEach kws X.env)).any (·.1.isNone)) = false := by rfl)
    (ht : eval (.Call (.Attribute o m apos) [] kws pos) X.env = (do
      let ov ← eval o X.env
      standAt apos.atName
      let (f, first) ← holding [ov] (getMethod ov m pl)
      callWith pos f first (backTo pos (starEach [] X.env)) (backToKw pos (keywordEach kws X.env))) := by rfl) :
    PE X (.Call (.Attribute o m apos) [] kws pos) (tMethK0 C m ks.length sp gV E ta tk) := by
  refine ⟨fun pins s σ H Q I h => ?_⟩
  refine PySem.W.methodCall_KW (pl := pl) (thn (he.run pins s σ H _ I h) fun u s1 ⟨x, H1, I1, rx, a, dx, fs, ex, ea, l, q⟩ => ?_) ht
  subst ex
  obtain rfl : u = Value.ref a := rx
  refine getmeth_ok I1 ea c hm l ?_
  refine PySem.W.callWith_KW0 (first := [.ref a]) (h₀ := X.base) I.ok.mod.kin hm.kp hall ?_ hpl
  refine thn (hkw.run pos pins s1 σ H1 _ I1 q) fun ws s2 ⟨zs, H2, I2, rz, l2, q2⟩ => ⟨I2.kIn, ?_⟩
  rw [hks]
  exact run_kbn (us := [.ref a]) (vs := [.ref a]) F hr hb hx I2 (.cons rfl .nil) rz rfl l2 q2
/-- C.m(), m a classmethod -/
theorem pe_cmeth0 {mc : Value} {pl : Sem Bool} (he : PE X o ta) (r : ClX.CRead X.K C mc) (c : ClX.CMet X.K C mc m p g) (F : FnR X.prog X.w X.K X.mg X.base CX k g sp) (hr : Room k X.A) (hx : Passes CX X E)
    (ht : eval (.Call (.Attribute o m apos) [] [] pos) X.env = (do
      let ov ← eval o X.env
      standAt apos.atName
      let (f, first) ← holding [ov] (getMethod ov m pl)
      callWith pos f first (backTo pos (starEach [] X.env)) (backToKw pos (keywordEach [] X.env))) := by rfl) :
    PE X (.Call (.Attribute o m apos) [] [] pos) (ClX.tCMeth C sp E ta tNil) := by
  refine ⟨fun pins s σ H Q I h => ?_⟩
  refine PySem.W.methodCall_KW (pl := pl) (thn (he.run pins s σ H _ I h) fun u s1 ⟨x, H1, I1, rx, ex, q⟩ => ?_) ht
  subst ex
  obtain rfl : u = Value.ref C := rx
  refine ClX.getmethcm_ok I1 r c fun s2 I2 => ?_
  have hb := ClX.base_none I1 (Nat.le_refl _)
  refine PySem.W.callWith_M0 (K := X.K) (first := []) ⟨ClX.pin_at I2, I2.kIn⟩ c.fi ?_
  exact ClX.run_cm (us := []) (vs := []) F hr hx I2 .nil q
/-- x(e, ..), x a local that holds a class -/
def tMakeL (i : Nat) (C : Addr) (sp : Sp) (dvs : List V) (E : XK) (t : TA) : TE := fun σ H Q => σ[i]? = some (some (.ref C)) ∧ tMake C sp dvs E t σ H Q
theorem pe_makeL {i : Nat} {e : Expr} {es : List Expr} {t : TA} {ds : List Value} {dvs : List V} (M : Mk X.K C f) (F : FnOk X.prog X.w X.K X.mg X.base CX k f fd ps sp) (hr : Room (k + 1) X.A) (hN : X.N[i]? = some x) (hv : Vis X.env.scope x) (hb : Binds X.K fd ps ds) (hd : Vals dvs ds) (hx : Passes CX X E)
    (ha : PA X (e :: es) t) (hdb : (x == ("__debug__" : Str)) = false := by decide) (hcd : (x == ("__classdict__" : Str)) = false := by decide) (he : starEach (e :: es) X.env = (false, eval e X.env) :: starEach es X.env := by rfl) (hpl : (backTo pos (starEach es X.env)).any (·.1) = false := by rfl) :
    PE X (.Call (.Name x np) (e :: es) [] pos) (tMakeL i C sp dvs E t) := by
  refine ⟨fun pins s σ H Q I h => ?_⟩
  obtain ⟨hs, ht⟩ := h
  refine wpAny_Call_Name_kw (thn ((pe_var (pos := np) hN hv hdb hcd).run pins s σ H (fun v H1 => v = .ref C ∧ H1 = H) I ⟨.ref C, hs, rfl, rfl⟩) fun u s1 ⟨v, H1, I1, r1, q1⟩ => ?_)
  obtain ⟨rfl, rfl⟩ := q1
  cases r1
  refine PySem.W.callWith_K (h₀ := X.base) I.ok.mod.kin M.kp (thn (ha.run pos pins s1 σ _ _ I1 ht) fun us s2 ⟨vs, H2, I2, r, q⟩ => ⟨I2.kIn, ?_⟩) he hpl
  exact run_make M F hr hb hd hx I2 r q
/-! bool(x) -/
theorem call_boolOwn {n : Nat} (hs : PySem.W.findIn X.K (.ref C) "__bool__" = some (some (.ref g))) (hf : PySem.W.isFn X.K (.ref g) = true) (F : FnR X.prog X.w X.K X.mg X.base CX0 n g sp) (hr : Room (n + 2) X.A) :
    CallR X (.type "bool") (fun xs H Q => ∃ a dx fs, xs = [.ref a] ∧ H a = some (.ins C dx fs) ∧ sp xs H (fun z H' => ∃ b, z = .bl b ∧ Q z H') E) := by
  intro pins s σ H xs us Q I r h
  obtain ⟨a, dx, fs, rfl, ha, q⟩ := h
  obtain ⟨u, rfl, ru⟩ := vals1 r
  cases (show u = Value.ref a from ru)
  obtain ⟨od, J⟩ := inst_at I ha
  obtain ⟨m, hF⟩ := I.fr
  have hr2 : Room n X.A.in1.in1 := (show Room (n + 1) X.A.in1 from Room.in1 hr).in1
  have one : wpAny (model X.prog X.w) X.A.in1.in1 (truthy (.ref a)) (fun b s' => EP X pins σ Q (.bool b) s') X.xe s := by
    refine PySem.W.truthy_K hF I.ok.mod.kin J hs hf (wpAny_mono (call_at0 (us := [.ref a]) (ws := [.ref a]) F hr2 I.env0.in1.in1 I (.cons rfl .nil) q) (fun w s' z => ?_) fun _ _ x => x)
    obtain ⟨z', H', I', rz, b, ez, qz⟩ := z
    subst ez
    cases (show w = Value.bool b from rz)
    exact ⟨.bl b, H', I', rfl, qz⟩
  refine callType_codes (T := "bool") (Bi := Builtin.«object.__init__») (Q₁ := fun r s₁ => ∃ b, r = .bool b ∧ EP X pins σ Q r s₁) PySem.F.called_bool (PySem.F.typeCall_bool_1 _) PySem.F.entry_object_init ?_ ?_
  · refine codeAny_call_builtin (by decide +kernel) PySem.F.entry_bool_new (wpAny_of_eq (PySem.F.newCall_bool_1 _) ?_)
    unfold Builtin.«bool.__new__»
    refine wpAny_bind (wpAny_of_eq (show isType (.type "bool") = pure true from rfl) ?_)
    simp only [Bool.not_true, Bool.false_eq_true, if_false]
    refine wpAny_bind (wpAny_of_eq PySem.F.conv_sub_bool ?_)
    simp only [Bool.not_true, Bool.false_eq_true, if_false]
    refine wpAny_bind (m := someArgs _ _ _ _) (wpAny_pure ?_)
    refine wpAny_bind (wpAny_mono one (fun b s₁ z => ?_) fun _ _ e => e)
    exact wpAny_pure ⟨b, rfl, z⟩
  · rintro obj s₁ ⟨b, rfl, hq⟩
    exact ⟨PySem.typeIs_bool _ _, PySem.F.args_object_init_2 _ _, object_init_meets PySem.F.called_bool.init.lookup PySem.F.called_bool.made PySem.F.newNe_bool X.prog X.w X.A.in1 _ s₁ ⟨PySem.typeIs_bool _ _, rfl, hq⟩⟩
end
/-! how a def binds -/
theorem kbn_of {K : PySem.W.Frag} {x qual : Str} {st : Stmt} {f : Addr} {fd : FuncData} {ps ks : List Str} {n : Nat} (F : Fun K x qual st f fd)
    (h : ∀ (kV doc pm : Value) (an : Option Addr) (cdv ct : Value) (us ws : List Value), us.length = n → ws.length = ks.length → bindArgs (PySem.W.fnOf x qual (defArgs st) (defBody st) (defScope st) .none kV doc pm an cdv ct) ⟨us, ks.zip ws⟩ = pure (ps.zip (us ++ ws))) :
    KBn K fd ps n ks (fun us ws => us ++ ws) (fun vs zs => vs ++ zs) := by
  obtain ⟨oc, od, kV, doc, pm, an, cdv, ct, osl, rfl, lk, hcd⟩ := F.ex
  exact ⟨fun s us ws X l1 l2 => BindsTo.of_eq (h kV doc pm an cdv ct us ws l1 l2), fun r1 r2 => r1.append r2⟩
/-- def f(a, *v) that raises nothing -/
theorem star_ok {P : Program} {w : World} {K : PySem.W.Frag} {mg : Str → Option Value} {base : Heap} {x qual : Str} {st : Stmt} {f : Addr} {fd : FuncData} {N ps : List Str} {pv : Str} {k : Nat} {sp : Sp} (F : Fun K x qual st f fd) (S : FnScope N (ps ++ [pv]) (defScope st))
    (hb : ∀ (kV doc pm : Value) (an : Option Addr) (cdv ct : Value) (us rest : List Value), us.length = ps.length → bindArgs (PySem.W.fnOf x qual (defArgs st) (defBody st) (defScope st) .none kV doc pm an cdv ct) ⟨us ++ rest, []⟩ = (newTuple rest >>= fun t => pure (ps.zip us ++ [(pv, t)])))
    (hbody : ∀ (cdv : Value) (A : Around) (outer : List Env) (s : Shared) (H : Hp) (vs : List V) (Q : VK) (E : XK), Room k (A.deeper (envOfC qual (defScope st) s.heap.objs.size f cdv)) → sp vs H Q E →
      ∃ t, PSs (cxOf CX0 P w K mg base N qual (defScope st) f cdv A outer s H E).nox (defBody st) t ∧ t { nx := fun _ H' => Q .non H', rt := Q } (start N vs) H) :
    FnR P w K mg base CX0 (k + 1) f (fun vs H Q E => ∃ ws rest, vs = ws ++ rest ∧ ws.length = ps.length ∧ rest.length ≤ sizeLine ∧ ∀ p, H p = Option.none → sp (ws ++ [V.ref p]) (upd H p (.tup rest)) Q E) := by
  obtain ⟨oc, od, kV, doc, pm, an, cdv, ct, osl, rfl, lk, hcd⟩ := F.ex
  exact StX.fn_star lk hcd S StX.cxUp_none (fun us rest l => hb kV doc pm an cdv ct us rest l) (fun A outer s H vs Q E hr h => let ⟨t, h1, q⟩ := hbody cdv A outer s H vs Q E hr h; ⟨t, h1.nox, q⟩)
end Lb

set_option Elab.async false
set_option linter.all false
set_option maxRecDepth 100000
set_option maxHeartbeats 4000000
namespace Lb
open PySem

/-! the digits of a number, cut -/
def pad : Nat → Nat → List Char
  | 0, _ => []
  | k + 1, r => pad k (r / 10) ++ [Nat.digitChar (r % 10)]
theorem digits_cut {n : Nat} (hn : 0 < n) : ∀ (k r : Nat), r < 10 ^ k → Nat.toDigits 10 (n * 10 ^ k + r) = Nat.toDigits 10 n ++ pad k r
  | 0, r, h => by
    have : r = 0 := by simpa using h
    subst this
    simp [pad]
  | k + 1, r, h => by
    have h1 : r / 10 < 10 ^ k := by
      rw [Nat.pow_succ] at h
      omega
    have ih := digits_cut hn k (r / 10) h1
    have e : n * 10 ^ (k + 1) + r = 10 * (n * 10 ^ k + r / 10) + r % 10 := by
      rw [Nat.pow_succ]
      have := Nat.div_add_mod r 10
      rw [← Nat.mul_assoc]
      omega
    have p : 0 < n * 10 ^ k + r / 10 := Nat.add_pos_left (Nat.mul_pos hn (Nat.pow_pos (by decide))) _
    rw [e, ← Nat.toDigits_append_toDigits (by decide) p (Nat.mod_lt _ (by decide)), ih, Nat.toDigits_of_lt_base (Nat.mod_lt _ (by decide))]
    simp [pad]
theorem pad_zero : ∀ k, pad k 0 = List.replicate k '0'
  | 0 => rfl
  | k + 1 => by
    rw [pad, pad_zero k, List.replicate_succ']
    rfl
theorem pad_eq : ∀ (k r : Nat), 1 ≤ k → r < 10 ^ k → pad k r = List.replicate (k - (Nat.toDigits 10 r).length) '0' ++ Nat.toDigits 10 r
  | 1, r, _, h => by
    have h : r < 10 := by simpa using h
    rw [Nat.toDigits_of_lt_base h]
    simp [pad, Nat.mod_eq_of_lt h]
  | k + 2, r, _, h => by
    have h1 : r / 10 < 10 ^ (k + 1) := by
      rw [Nat.pow_succ] at h
      omega
    have ih := pad_eq (k + 1) (r / 10) (by omega) h1
    rw [pad]
    by_cases h0 : r < 10
    · have : r / 10 = 0 := by omega
      rw [this, pad_zero, Nat.toDigits_of_lt_base h0, Nat.mod_eq_of_lt h0]
      rfl
    · have e : Nat.toDigits 10 r = Nat.toDigits 10 (r / 10) ++ [Nat.digitChar (r % 10)] := by
        rw [← Nat.toDigits_of_lt_base (Nat.mod_lt r (by decide : 10 > 0)), Nat.toDigits_append_toDigits (by decide) (by omega) (Nat.mod_lt _ (by decide)), Nat.div_add_mod]
      rw [ih, e, List.length_append]
      rw [show k + 1 + 1 - ((Nat.toDigits 10 (r / 10)).length + [Nat.digitChar (r % 10)].length) = k + 1 - (Nat.toDigits 10 (r / 10)).length by simp only [List.length_cons, List.length_nil]; omega]
      simp
/-- the text of digits -/
def chS (l : List Char) : Str := ⟨(l.map Char.toNat).toArray⟩
theorem chS_append (a b : List Char) : chS (a ++ b) = chS a ++ chS b := by
  show Str.mk _ = Str.mk _
  congr 1
  simp [chS]
theorem toS (n : Nat) : ((toString (n : Int) : String) : Str) = chS (Nat.toDigits 10 n) := by
  rw [show ((toString (n : Int) : String) : Str) = Str.ofString (toString (n : Int)) from rfl, Str.ofString_eq_toList]
  unfold chS
  congr 3
  show (Int.repr (n : Int)).toList = _
  simp [Int.repr, Nat.repr]
theorem zf {k r : Nat} (hk : 1 ≤ k) (hr : r < 10 ^ k) : Txt.zfill (chS (Nat.toDigits 10 r)) (k : Nat) = chS (pad k r) := by
  have hlen : (chS (Nat.toDigits 10 r)).length = (Nat.toDigits 10 r).length := by
    show (chS (Nat.toDigits 10 r)).cps.size = _
    simp [chS]
  rw [pad_eq k r hk hr]
  unfold Txt.zfill
  rw [hlen]
  by_cases h : ((k : Nat) : Int) ≤ ((Nat.toDigits 10 r).length : Nat)
  · rw [if_pos h, show k - (Nat.toDigits 10 r).length = 0 by omega]
    simp
  · rw [if_neg h]
    have e0 : (chS (Nat.toDigits 10 r)).cps[0]? = ((Nat.toDigits 10 r)[0]?).map Char.toNat := by simp [chS]
    have key : (chS (Nat.toDigits 10 r)).cps[0]? ≠ some 43 ∧ (chS (Nat.toDigits 10 r)).cps[0]? ≠ some 45 := by
      rw [e0]
      cases hd : (Nat.toDigits 10 r)[0]? with
      | none => simp
      | some c =>
        have hc := Nat.isDigit_of_mem_toDigits (by decide) (by decide) (List.mem_of_getElem? hd)
        have : 48 ≤ c.toNat := by
          have := hc
          simp only [Char.isDigit, Bool.and_eq_true, decide_eq_true_eq] at this
          exact UInt32.le_iff_toNat_le.mp this.1
        simp only [Option.map_some, ne_eq, Option.some.injEq]
        omega
    have e : zfilled (chS (Nat.toDigits 10 r)) (Int.toNat k - (Nat.toDigits 10 r).length) = Builtin.Str.padded (chS (Nat.toDigits 10 r)) (Int.toNat k - (Nat.toDigits 10 r).length) 0 48 := by
      unfold zfilled
      split
      · rename_i q; exact absurd q key.1
      · rename_i q; exact absurd q key.2
      · rfl
    rw [e, chS_append]
    unfold Builtin.Str.padded
    show Str.mk _ = Str.mk _
    congr 1
    simp [chS]
def cat : List Str → Str
  | [] => Str.empty
  | x :: r => x ++ cat r
theorem empty_add (x : Str) : Str.empty ++ x = x := by
  show Str.mk _ = Str.mk _
  simp [Str.empty]
theorem add_empty (x : Str) : x ++ Str.empty = x := by
  show Str.mk _ = Str.mk _
  simp [Str.empty]
theorem cat_append (a b : List Str) : cat (a ++ b) = cat a ++ cat b := by
  induction a with
  | nil => exact (empty_add _).symm
  | cons x r ih => rw [List.cons_append, cat, cat, ih, Str.append_assoc]
theorem cat_foldl : ∀ (l : List Str) (x : Str), (⟨l.foldl (fun acc p => acc ++ Str.empty.cps ++ p.cps) x.cps⟩ : Str) = x ++ cat l
  | [], x => (add_empty x).symm
  | y :: r, x => by
    rw [List.foldl_cons]
    have e : x.cps ++ Str.empty.cps ++ y.cps = (x ++ y).cps := by
      show _ = x.cps ++ y.cps
      simp [Str.empty]
    rw [e, cat_foldl r (x ++ y), cat, Str.append_assoc]
theorem join_empty : ∀ l : List Str, Txt.join Str.empty l = cat l
  | [] => rfl
  | x :: r => cat_foldl r x
theorem cat_length : ∀ l : List Str, (cat l).length = (l.map (·.length)).sum
  | [] => rfl
  | x :: r => by rw [cat, Str.length_append, cat_length r, List.map_cons, List.sum_cons]
theorem chS_length (l : List Char) : (chS l).length = l.length := by
  show (chS l).cps.size = _
  simp [chS]
theorem pad_length : ∀ k r, (pad k r).length = k
  | 0, _ => rfl
  | k + 1, r => by rw [pad, List.length_append, pad_length k]; rfl
/-- one turn: the last sixty digits are cut off -/
theorem turn60 {n : Nat} (h : 10 ^ 60 ≤ n) : ((toString (n : Int) : String) : Str) = ((toString ((n / 10 ^ 60 : Nat) : Int) : String) : Str) ++ Txt.zfill ((toString ((n % 10 ^ 60 : Nat) : Int) : String) : Str) (60 : Nat) ∧
    (Txt.zfill ((toString ((n % 10 ^ 60 : Nat) : Int) : String) : Str) (60 : Nat)).length = 60 := by
  have q : 0 < n / 10 ^ 60 := Nat.div_pos h (Nat.pow_pos (by decide))
  have r : n % 10 ^ 60 < 10 ^ 60 := Nat.mod_lt _ (Nat.pow_pos (by decide))
  rw [toS, toS, toS, zf (by decide) r]
  refine ⟨?_, by rw [chS_length, pad_length]⟩
  conv => lhs; rw [← Nat.div_add_mod n (10 ^ 60), Nat.mul_comm]
  rw [digits_cut q 60 _ r, chS_append]
end Lb
namespace Lb
open PySem L2
theorem vals_rev : ∀ {vs : List V} {us : List Value}, Vals vs us → Vals vs.reverse us.reverse
  | [], _, .nil => .nil
  | _ :: _, _, .cons r t => by
    rw [List.reverse_cons, List.reverse_cons]
    exact (vals_rev t).append (.cons r .nil)
theorem kit_of_own {K : PySem.W.Frag} {C : Addr} {T : String} (hm : PySem.W.kitMeta T = true) (h : PySem.W.subIn K (.ref C) (.type T) = some false) : PySem.W.kitOne K (.ref C) (.type T) = some false := by
  have ne : (Value.ref C == Value.type T) = false := Bool.eq_false_iff.mpr fun q => nomatch beq_iff_eq.mp q
  unfold PySem.W.kitOne
  rw [ne, if_neg (by decide)]
  unfold PySem.W.kitCls
  dsimp only
  rw [if_pos hm]
  exact h
end Lb

set_option Elab.async false
set_option linter.all false
set_option maxRecDepth 100000
set_option maxHeartbeats 4000000
set_option exponentiation.threshold 10000
namespace Lb
open PySem L2

/-! fractions in lowest terms -/
abbrev Q2 := Int × Int
theorem bd_one {n : Nat} : Bd (n + 1) 1 := by
  show 1 < 2 ^ (n + 1)
  exact Nat.one_lt_two_pow (Nat.succ_ne_zero n)
def rdD (t b : Int) : Int := if b < 0 then -((Nat.gcd t.natAbs b.natAbs : Nat) : Int) else ((Nat.gcd t.natAbs b.natAbs : Nat) : Int)
def rdT (t b : Int) : Int := t.fdiv (rdD t b)
def rdB (t b : Int) : Int := b.fdiv (rdD t b)
theorem rdT_one (t : Int) : rdT t 1 = t := by
  unfold rdT rdD
  simp [Int.fdiv_one]
theorem rdB_one (t : Int) : rdB t 1 = 1 := by
  unfold rdB rdD
  simp [Int.fdiv_one]
/-- a fraction in lowest terms, its parts below a power of two -/
structure Low (n : Nat) (x : Q2) : Prop where
  t : Bd n x.1
  b : Bd n x.2
  pos : 0 < x.2
  g : x.1.gcd x.2 = 1
theorem Low.mono {n m : Nat} {x : Q2} (h : Low n x) (k : n ≤ m) : Low m x := ⟨h.t.mono k, h.b.mono k, h.pos, h.g⟩
def rd (t b : Int) : Q2 := (rdT t b, rdB t b)
theorem rd_spec {t b : Int} (hb : b ≠ 0) : 0 < rdB t b ∧ (rdT t b).gcd (rdB t b) = 1 ∧ t = (rdD t b) * rdT t b ∧ b = (rdD t b) * rdB t b := by
  have hg : 0 < t.gcd b := Int.gcd_pos_of_ne_zero_right t hb
  obtain ⟨t1, ht⟩ := Int.gcd_dvd_left t b
  obtain ⟨b1, hb1⟩ := Int.gcd_dvd_right t b
  have g1 : t1.gcd b1 = 1 := by
    have h := Int.gcd_mul_left (t.gcd b : Int) t1 b1
    rw [← ht, ← hb1] at h
    have h' : t.gcd b * 1 = t.gcd b * t1.gcd b1 := by simpa using h
    exact (Nat.eq_of_mul_eq_mul_left hg h').symm
  have key : ∀ D x y : Int, D ≠ 0 → t = D * x → b = D * y → t.fdiv D = x ∧ b.fdiv D = y := fun D x y hD h1 h2 => by
    rw [h1, h2]
    exact ⟨Int.mul_fdiv_cancel_left _ hD, Int.mul_fdiv_cancel_left _ hD⟩
  have eg : ((Nat.gcd t.natAbs b.natAbs : Nat) : Int) = (t.gcd b : Int) := rfl
  unfold rdT rdB
  by_cases h : b < 0
  · have eD : rdD t b = -(t.gcd b : Int) := by unfold rdD; rw [if_pos h, eg]
    obtain ⟨e1, e2⟩ := key (rdD t b) (-t1) (-b1) (by omega) (by rw [eD, Int.neg_mul_neg]; exact ht) (by rw [eD, Int.neg_mul_neg]; exact hb1)
    rw [e1, e2]
    have hb2 : b1 < 0 := by
      have : (t.gcd b : Int) * b1 < (t.gcd b : Int) * 0 := by omega
      exact Int.lt_of_mul_lt_mul_left this (by omega)
    refine ⟨by omega, ?_, by rw [eD, Int.neg_mul_neg]; exact ht, by rw [eD, Int.neg_mul_neg]; exact hb1⟩
    rw [Int.neg_gcd, Int.gcd_neg]
    exact g1
  · have eD : rdD t b = (t.gcd b : Int) := by unfold rdD; rw [if_neg h, eg]
    obtain ⟨e1, e2⟩ := key (rdD t b) t1 b1 (by omega) (by rw [eD]; exact ht) (by rw [eD]; exact hb1)
    rw [e1, e2]
    have hb2 : 0 < b1 := by
      have : (t.gcd b : Int) * 0 < (t.gcd b : Int) * b1 := by omega
      exact Int.lt_of_mul_lt_mul_left this (by omega)
    exact ⟨hb2, g1, by rw [eD]; exact ht, by rw [eD]; exact hb1⟩
theorem rd_low {n : Nat} {t b : Int} (hb : b ≠ 0) (h1 : Bd n t) (h2 : Bd n b) : Low n (rd t b) := by
  obtain ⟨p, g, e3, e4⟩ := rd_spec (t := t) (b := b) hb
  have hD : 1 ≤ (rdD t b).natAbs := by
    rcases Nat.eq_zero_or_pos (rdD t b).natAbs with e | e
    · have := Int.natAbs_eq_zero.mp e
      rw [this, Int.zero_mul] at e4
      exact absurd e4 hb
    · exact e
  have le : ∀ z : Int, z.natAbs ≤ (rdD t b * z).natAbs := fun z => by
    rw [Int.natAbs_mul]
    exact Nat.le_mul_of_pos_left _ hD
  exact ⟨h1.le (by conv => rhs; rw [e3]
                   exact le _), h2.le (by conv => rhs; rw [e4]
                                          exact le _), p, g⟩
theorem rd_self {t b : Int} (p : 0 < b) (g : t.gcd b = 1) : rdT t b = t ∧ rdB t b = b := by
  have e : rdD t b = 1 := by
    unfold rdD
    rw [if_neg (by omega)]
    show ((t.gcd b : Nat) : Int) = 1
    omega
  unfold rdT rdB
  rw [e, Int.fdiv_one, Int.fdiv_one]
  exact ⟨rfl, rfl⟩

theorem mul_pos_ne {x y : Int} (h : 0 < x) (k : 0 < y) : x * y ≠ 0 := by
  have := Int.mul_pos h k
  omega
/-- the number -/
def val (x : Q2) : Rat := (x.1 : Rat) / (x.2 : Rat)
theorem ne_cast {b : Int} (h : b ≠ 0) : (b : Rat) ≠ 0 := fun z => h (Rat.intCast_inj.mp (z.trans Rat.intCast_zero.symm))
theorem pos_cast {b : Int} (h : 0 < b) : (0 : Rat) < (b : Rat) := by
  have := Rat.intCast_lt_intCast.mpr h
  simpa using this
theorem val_rd {t b : Int} (hb : b ≠ 0) : val (rd t b) = (t : Rat) / (b : Rat) := by
  obtain ⟨p, g, e3, e4⟩ := rd_spec (t := t) (b := b) hb
  have hD : rdD t b ≠ 0 := fun z => by
    rw [z, Int.zero_mul] at e4
    exact hb e4
  have h1 : (t : Rat) = (rdD t b : Rat) * (rdT t b : Rat) := by
    rw [← Rat.intCast_mul, ← e3]
  have h2 : (b : Rat) = (rdD t b : Rat) * (rdB t b : Rat) := by
    rw [← Rat.intCast_mul, ← e4]
  have h3 := ne_cast hD
  have h4 := ne_cast (show rdB t b ≠ 0 by omega)
  show (rdT t b : Rat) / (rdB t b : Rat) = _
  rw [h1, h2]
  grind
theorem val_lt {x y : Q2} (hx : 0 < x.2) (hy : 0 < y.2) : (x.1 * y.2 < y.1 * x.2) ↔ val x < val y := by
  have px := pos_cast hx
  have py := pos_cast hy
  have e1 : val x * ((x.2 : Rat) * y.2) = (x.1 : Rat) * y.2 := by unfold val; grind
  have e2 : val y * ((x.2 : Rat) * y.2) = (y.1 : Rat) * x.2 := by unfold val; grind
  have pp : (0 : Rat) < (x.2 : Rat) * y.2 := Rat.mul_pos px py
  rw [← Rat.intCast_lt_intCast, Rat.intCast_mul, Rat.intCast_mul, ← e1, ← e2]
  constructor
  · intro h
    exact Rat.lt_of_mul_lt_mul_right h (Rat.le_of_lt pp)
  · intro h
    exact Rat.mul_lt_mul_of_pos_right h pp
theorem val_le {x y : Q2} (hx : 0 < x.2) (hy : 0 < y.2) : (x.1 * y.2 ≤ y.1 * x.2) ↔ val x ≤ val y := by
  rw [← Int.not_lt, val_lt hy hx, Rat.not_lt]
theorem low_eq {t b t' b' : Int} (hb : 0 < b) (hb' : 0 < b') (g : t.gcd b = 1) (g' : t'.gcd b' = 1) (h : t * b' = t' * b) : t = t' ∧ b = b' := by
  have d1 : b ∣ b' := by
    have : b ∣ (b.gcd t : Int) * b' := Int.dvd_gcd_mul_iff_dvd_mul.mpr ⟨t', by grind⟩
    rw [Int.gcd_comm, g] at this
    simpa using this
  have d2 : b' ∣ b := by
    have : b' ∣ (b'.gcd t' : Int) * b := Int.dvd_gcd_mul_iff_dvd_mul.mpr ⟨t, by grind⟩
    rw [Int.gcd_comm, g'] at this
    simpa using this
  have e : b = b' := by
    have h1 := Int.le_of_dvd hb' d1
    have h2 := Int.le_of_dvd hb d2
    omega
  subst e
  refine ⟨?_, rfl⟩
  have : (t - t') * b = 0 := by grind
  rcases Int.mul_eq_zero.mp this with e | e <;> omega
theorem val_inj {n m : Nat} {x y : Q2} (hx : Low n x) (hy : Low m y) (h : val x = val y) : x = y := by
  have px := ne_cast (show x.2 ≠ 0 from by have := hx.pos; omega)
  have py := ne_cast (show y.2 ≠ 0 from by have := hy.pos; omega)
  have e : (x.1 : Rat) * y.2 = (y.1 : Rat) * x.2 := by
    unfold val at h
    grind
  rw [← Rat.intCast_mul, ← Rat.intCast_mul, Rat.intCast_inj] at e
  obtain ⟨h1, h2⟩ := low_eq hx.pos hy.pos hx.g hy.g e
  exact Prod.ext h1 h2
theorem val_add {x y : Q2} (hx : 0 < x.2) (hy : 0 < y.2) : val (rd (x.1 * y.2 + y.1 * x.2) (x.2 * y.2)) = val x + val y := by
  have px := ne_cast (show x.2 ≠ 0 by omega)
  have py := ne_cast (show y.2 ≠ 0 by omega)
  rw [val_rd (mul_pos_ne hx hy), Rat.intCast_add, Rat.intCast_mul, Rat.intCast_mul, Rat.intCast_mul]
  unfold val
  grind
theorem val_sub {x y : Q2} (hx : 0 < x.2) (hy : 0 < y.2) : val (rd (x.1 * y.2 - y.1 * x.2) (x.2 * y.2)) = val x - val y := by
  have px := ne_cast (show x.2 ≠ 0 by omega)
  have py := ne_cast (show y.2 ≠ 0 by omega)
  rw [val_rd (mul_pos_ne hx hy), Rat.intCast_sub, Rat.intCast_mul, Rat.intCast_mul, Rat.intCast_mul]
  unfold val
  grind
theorem val_mul {x y : Q2} (hx : 0 < x.2) (hy : 0 < y.2) : val (rd (x.1 * y.1) (x.2 * y.2)) = val x * val y := by
  have px := ne_cast (show x.2 ≠ 0 by omega)
  have py := ne_cast (show y.2 ≠ 0 by omega)
  rw [val_rd (mul_pos_ne hx hy), Rat.intCast_mul, Rat.intCast_mul]
  unfold val
  grind
theorem val_div {x y : Q2} (hx : 0 < x.2) (hy : 0 < y.2) (h0 : y.1 ≠ 0) : val (rd (x.1 * y.2) (x.2 * y.1)) = val x / val y := by
  have px := ne_cast (show x.2 ≠ 0 by omega)
  have py := ne_cast (show y.2 ≠ 0 by omega)
  have p0 := ne_cast h0
  rw [val_rd (Int.mul_ne_zero (by omega) h0), Rat.intCast_mul, Rat.intCast_mul]
  unfold val
  grind
theorem val_neg (x : Q2) : val (-x.1, x.2) = - val x := by
  show ((-x.1 : Int) : Rat) / x.2 = - ((x.1 : Rat) / x.2)
  rw [Rat.intCast_neg]
  grind
theorem val_zero : val (0, 1) = 0 := by
  show ((0 : Int) : Rat) / ((1 : Int) : Rat) = 0
  rw [Rat.intCast_zero]
  grind
theorem val_eq0 {x : Q2} (hx : 0 < x.2) : x.1 = 0 ↔ val x = 0 := by
  have px := ne_cast (show x.2 ≠ 0 by omega)
  constructor
  · intro h
    unfold val
    rw [h, Rat.intCast_zero]
    grind
  · intro h
    refine Classical.byContradiction fun k => ?_
    have := ne_cast k
    unfold val at h
    grind
theorem val_pos {x : Q2} (hx : 0 < x.2) : 0 < x.1 ↔ 0 < val x := by
  have h := val_lt (x := (0, 1)) (y := x) (by decide) hx
  rw [val_zero] at h
  rw [← h]
  simp
theorem val_negl {x : Q2} (hx : 0 < x.2) : x.1 < 0 ↔ val x < 0 := by
  have h := val_lt (x := x) (y := (0, 1)) hx (by decide)
  rw [val_zero] at h
  rw [← h]
  simp
end Lb

set_option Elab.async false
set_option linter.all false
set_option maxRecDepth 100000
set_option maxHeartbeats 4000000
namespace Lb
open PySem PySem.Spec PyProof.Rows L2
section
variable {X : Cx} {CX : CXT} {k : Nat} {f C p g : Addr} {fd : FuncData} {ps ks : List Str} {sp : Sp} {E : XK} {x m : Str} {pos np apos : Pos} {o fe e : Expr} {es : List Expr} {kws : List Keyword} {ta tf : TE} {t tk : TA} {gf : List Value → List Value → List Value} {gV : List V → List V → List V}
/-! an instance is called -/
def tCallI (C : Addr) (sp : Sp) (E : XK) (tf : TE) (t : TA) : TE := fun σ H Q => tf σ H fun y H1 => ∃ a, y = V.ref a ∧ t σ H1 fun vs H2 => (∃ dx fs, H2 a = some (.ins C dx fs)) ∧ sp (V.ref a :: vs) H2 Q E
theorem pe_callI (hf : PE X fe tf) (c : StX.CallO X.K C g) (F : FnR X.prog X.w X.K X.mg X.base CX k g sp) (hr : Room k X.A) (hx : Passes CX X E) (ha : PA X (e :: es) t)
    (ht : eval (.Call fe (e :: es) [] pos) X.env = (do callWith pos (← eval fe X.env) [] (backTo pos (starEach (e :: es) X.env)) (backToKw pos (keywordEach [] X.env))) := by rfl)
    (he : starEach (e :: es) X.env = (false, eval e X.env) :: starEach es X.env := by rfl) (hpl : (backTo pos (starEach es X.env)).any (·.1) = false := by rfl) : PE X (.Call fe (e :: es) [] pos) (tCallI C sp E tf t) := by
  refine ⟨fun pins s σ H Q I h => ?_⟩
  refine Call_ (thn (hf.run pins s σ H _ I h) fun u s1 ⟨y, H1, I1, ry, a, ey, q⟩ => ?_) ht
  subst ey
  obtain rfl : u = Value.ref a := ry
  refine StX.callO_with (thn (ha.run pos pins s1 σ H1 _ I1 q) fun us s2 ⟨vs, H2, I2, r, ⟨dx, fs, hi⟩, q2⟩ => ?_) he hpl
  obtain ⟨ox, od, J, hd⟩ := StX.insC_at I2 (X := X) (.inr ⟨dx, fs, hi⟩)
  exact ⟨⟨C, ox, od, J, hd⟩, StX.run_callO c F hr hx I2 (.inr ⟨dx, fs, hi⟩) r q2⟩
/-! C.m(e, ..), m a staticmethod -/
structure SMet (K : PySem.W.Frag) (C : Addr) (m : Str) (p g : Addr) : Prop where
  ty : PySem.W.typeIn K (.ref C) = some (.type "type")
  rd : PySem.W.readsIn K C (.type "type") = true
  ga : PySem.W.specialIn K (.ref C) "__getattribute__" = some (some (.builtin "type.__getattribute__"))
  at_ : PySem.W.findCls K (.ref C) (.type "type") m = some (.get (.builtin "staticmethod.__get__") (.ref p) .none (.ref C))
  rc : ∃ rest, PySem.W.recIn K p "staticmethod" = some (.ref g :: rest)
  kp : PySem.W.keepIn K (.ref g) = true
def tSMeth (C : Addr) (sp : Sp) (E : XK) (ta : TE) (t : TA) : TE := fun σ H Q => ta σ H fun x H1 => x = .ref C ∧ t σ H1 fun vs H2 => sp vs H2 Q E
theorem getsm_ok {pins : List (Addr × Obj)} {σ : L2.St} {H : Hp} {s : Shared} {A : Around} {Ex : Value → Shared → Prop} {pl : Sem Bool} {Q : Value × List Value → Shared → Prop} (I : Inv X pins σ H s) (c : SMet X.K C m p g)
    (h : ∀ s', Inv X pins σ H s' → Q (.ref g, []) s') : wpAny (model X.prog X.w) A (getMethod (.ref C) m pl) Q Ex s := by
  obtain ⟨rest, hp⟩ := c.rc
  obtain ⟨mm, F⟩ := I.fr
  exact PySem.W.method_cls I.kIn c.ga (PySem.W.cls_sm F I.ok.mod.kin c.ty c.rd c.at_ hp rfl (h _ (I.tok _)))
theorem pe_smeth {pl : Sem Bool} {ds : List Value} {dvs : List V} (he : PE X o ta) (c : SMet X.K C m p g) (F : FnOk X.prog X.w X.K X.mg X.base CX k g fd ps sp) (hr : Room k X.A) (hb : Binds X.K fd ps ds) (hd : Vals dvs ds) (hx : Passes CX X E) (ha : PA X (e :: es) t)
    (hst : starEach (e :: es) X.env = (false, eval e X.env) :: starEach es X.env := by rfl) (hpl : (backTo pos (starEach es X.env)).any (·.1) = false := by rfl)
    (ht : eval (.Call (.Attribute o m apos) (e :: es) [] pos) X.env = (do
      let ov ← eval o X.env
      standAt apos.atName
      let (f, first) ← holding [ov] (getMethod ov m pl)
      callWith pos f first (backTo pos (starEach (e :: es) X.env)) (backToKw pos (keywordEach [] X.env))) := by rfl) :
    PE X (.Call (.Attribute o m apos) (e :: es) [] pos) (tSMeth C (fun vs H Q E => sp (vs ++ dvs) H Q E) E ta t) := by
  refine ⟨fun pins s σ H Q I h => ?_⟩
  refine PySem.W.methodCall_KW (pl := pl) (thn (he.run pins s σ H _ I h) fun u s1 ⟨x, H1, I1, rx, ex, q⟩ => ?_) ht
  subst ex
  obtain rfl : u = Value.ref C := rx
  refine getsm_ok I1 c fun s2 I2 => ?_
  refine PySem.W.callWith_K (first := []) (h₀ := X.base) I.ok.mod.kin c.kp (thn (ha.run pos pins s2 σ H1 _ I2 q) fun us s3 ⟨vs, H2, I3, rv, q2⟩ => ⟨I3.kIn, ?_⟩) hst hpl
  exact run_fn F hr hb hd hx I3 rv q2
/-! an instance is called with keywords alone -/
abbrev KeptBy (s : Shared) (o : Addr) : Prop := ∃ D y z, PySem.W.InstAt s.heap o y D z ∧ y.data = .plain
theorem inst_kw {M : Model} {A : Around} {Bad : Value → Shared → Prop} {Fin : Value → Shared → Prop} {t : Shared} {o : Addr} {pos : Pos} {us : List (Bool × Sem Value)} {ns : List (Option Str × Sem Value)} (no : (us.any (·.1) || ns.any (·.1.isNone)) = false)
    (run : wpAny M A (evalArgs (.ref o) true us ns) (fun got t' => KeptBy t' o ∧ wpAny M A (call (.ref o) got.pos got.kw) Fin Bad t') Bad t) :
    wpAny M A (callWith pos (.ref o) [] us ns) Fin Bad t := by
  have last : ∀ {go : Sem Value} {t' : Shared}, wpAny M A go Fin Bad t' → wpAny M A (go >>= fun v => holding [v] point >>= fun _ => pure v) Fin Bad t' := by
    intro go t' g
    apply wpAny_bind
    refine wpAny_mono g ?_ fun _ _ b => b
    intro v t2 fin
    exact wpAny_bind (wpAny_holding (wpAny_point (wpAny_pure fin)))
  unfold callWith
  apply wpAny_bind
  apply wpAny_holding
  refine wpAny_mono run ?_ fun _ _ b => b
  rintro got t' ⟨⟨D, y, z, inst, dat⟩, go⟩
  apply wpAny_bind
  apply wpAny_standAt
  have keeper := PySem.W.kco_keeper (M := M) inst dat
  simp only [no]
  apply wpAny_bind
  apply keeper.here
  exact last (wpAny_operateT go)
def tCallIK (nk : Nat) (C : Addr) (sp : Sp) (gV : List V → List V → List V) (E : XK) (tf : TE) (tk : TA) : TE := fun σ H Q => tf σ H fun y H1 => ∃ a, y = V.ref a ∧ tk σ H1 fun zs H2 => (∃ dx fs, H2 a = some (.ins C dx fs)) ∧ zs.length = nk ∧ sp (gV [.ref a] zs) H2 Q E
theorem pe_callIK (hf : PE X fe tf) (c : StX.CallO X.K C g) (F : FnOk X.prog X.w X.K X.mg X.base CX k g fd ps sp) (hr : Room k X.A) (hb : KBn X.K fd ps 1 ks gf gV) (hx : Passes CX X E) (hkw : PK X kws tk)
    (hall : (backToKw pos (keywordEach kws X.env)).all (·.1.isSome) = true := by rfl) (hks : (backToKw pos (keywordEach kws X.env)).filterMap (·.1) = ks := by rfl)
    (hpl : ((backTo pos (starEach [] X.env)).any (·.1) || (backToKw pos (keywordEach kws X.env)).any (·.1.isNone)) = false := by rfl)
    (ht : eval (.Call fe [] kws pos) X.env = (do callWith pos (← eval fe X.env) [] (backTo pos (starEach [] X.env)) (backToKw pos (keywordEach kws X.env))) := by rfl) : PE X (.Call fe [] kws pos) (tCallIK ks.length C sp gV E tf tk) := by
  refine ⟨fun pins s σ H Q I h => ?_⟩
  rw [ht]
  refine wpAny_bind (thn (hf.run pins s σ H _ I h) fun u s1 ⟨y, H1, I1, ry, a, ey, q⟩ => ?_)
  subst ey
  obtain rfl : u = Value.ref a := ry
  refine inst_kw hpl (evalArgs_kw2_nil hall ?_)
  refine thn (hkw.run pos pins s1 σ H1 _ I1 q) fun ws s2 ⟨zs, H2, I2, rz, ⟨dx, fs, hi⟩, l2, q2⟩ => ?_
  obtain ⟨ox, od, J, hd⟩ := StX.insC_at I2 (X := X) (.inr ⟨dx, fs, hi⟩)
  refine ⟨⟨C, ox, od, J, hd⟩, ?_⟩
  rw [hks]
  refine wpAny_call (PySem.W.kco_code I2.kIn J hd c.at_ c.fn c.fi ?_)
  refine codeAny_mono (F.run X.A X.stack s2 H2 ⟨[.ref a], ks.zip ws⟩ (gf [.ref a] ws) (gV [.ref a] zs) Q E hr I2.env0 (hb.to s2 [.ref a] ws I2.kIn rfl (rz.length.symm.trans l2)) (hb.rel (.cons rfl .nil) rz) q2) fun r s' hq => ?_
  cases r with
  | error e => exact hx pins σ H2 s2 e s' I2 hq
  | ok fl =>
    cases fl with
    | ret u => exact I2.after hq
    | next => exact False.elim hq
    | brk => exact False.elim hq
    | cont => exact False.elim hq
end
end Lb

set_option Elab.async false
set_option linter.all false
set_option maxRecDepth 100000
set_option maxHeartbeats 4000000
namespace Lb
open PySem PySem.Spec PyProof.Rows L2
/-! enumerate of whatever iter() turns into a new object, with one argument -/
abbrev EnO (k : Nat) : Obj := { cls := .type "enumerate", data := .fields #[.none, .bool false, .ref k, rawInt 0, .none, .none] }
theorem made_enum {v : Value} {o : Obj} {Z : Heap → Prop} (B : Begins v o Z) :
    Meets (Builtin.«enumerate.__new__» ⟨[.type "enumerate", v], []⟩) (fun _ R s => Z s.heap ∧ R (.ok (.ret (.ref (s.heap.push o).objs.size))) { s with heap := (s.heap.push o).push (EnO s.heap.objs.size) }) := by
  refine .of_wp fun P w A R s ⟨z, fin⟩ => ?_
  obtain ⟨hp, gl, od, tk, out⟩ := s
  have sb := sub_enumerate
  have it : ∀ {A' : Around} {Bad Q : Value → Shared → Prop}, Q (.ref hp.objs.size) ⟨hp.push o, gl, od, tk, out⟩ → wpAny (model P w) A' (pyIter v) Q Bad ⟨hp, gl, od, tk, out⟩ := fun q => B.iter P w _ _ ⟨hp, gl, od, tk, out⟩ _ z q
  wp_walk using it
  refine wpAny_stack_any fun _ => wpAny_pure ?_
  split
  · rename_i cc _ _ _ _ _
    cases (cc == Value.type "enumerate") <;> (wp_walk using it; exact ⟨_, rfl, fin⟩)
  · wp_walk using it
    exact ⟨_, rfl, fin⟩
theorem enum_called {P : Program} {w : World} {A : Around} {Bad : Value → Shared → Prop} {s : Shared} {v : Value} {o : Obj} {Z : Heap → Prop} {Q : Value → Shared → Prop} (B : Begins v o Z) (z : Z s.heap)
    (fin : ∀ h2, IsEnum h2 (s.heap.objs.size + 1) s.heap.objs.size 0 .none → h2.get? s.heap.objs.size = some o → (∀ b ob, s.heap.get? b = some ob → h2.get? b = some ob) → Q (.ref (s.heap.objs.size + 1)) { s with heap := h2 }) :
    wpAny (model P w) A (call (.type "enumerate") [v]) Q Bad s := by
  refine callType_new F.called_enumerate (by decide) (F.typeCall_enumerate_1 _) (F.newCall_enumerate_1 _) (fun ob => F.args_object_init_2 ob _) F.entry_enumerate_new (made_enum B) ⟨z, ?_⟩
  have n1 : (s.heap.push o).objs.size = s.heap.objs.size + 1 := Heap.size_push ..
  have top : ((s.heap.push o).push (EnO s.heap.objs.size)).get? (s.heap.push o).objs.size = some (EnO s.heap.objs.size) := Heap.get?_push_size _ rfl
  rw [n1] at top
  show _ ∧ _
  rw [n1]
  exact ⟨⟨_, top, rfl⟩, fin _ top (Heap.get?_push_of_some _ (Heap.get?_push_size _ B.free)) fun b ob q => Heap.get?_push_of_some _ (Heap.get?_push_of_some _ q)⟩
/-- the tuple at a, each item in a new pair with its place -/
def IteT (K : PySem.W.Frag) (a : Addr) : It where
  go i H := ∃ (xs : List V) (x : V), SqT K H a xs ∧ xs[i]? = some x
  yld i H v H' := ∃ T x, v = .ref T ∧ H T = none ∧ H' = L2.upd H T (.tup [.int (i : Nat), x]) ∧ ∀ xs, SqT K H a xs → xs[i]? = some x
  stop i H := ∃ xs : List V, SqT K H a xs ∧ xs.length ≤ i
theorem enum_turn {P : Program} {w : World} {K : PySem.W.Frag} {elts : List Expr} {kk : Nat} {tpos : Pos} (a e it : Addr) :
    Turn P w K (.Tuple elts kk tpos) (IteT K a) [e, it] e (fun i h => (∃ old, IsEnum h e it ((i : Nat) : Int) old) ∧ h.IsTupleIter it a i ∧ e ≠ it) where
  mem := List.mem_cons_self
  self := fun A i s Q E st h => by
    obtain ⟨⟨_, he⟩, _⟩ := st
    exact wpAny_pyIter_enum he h
  obj := by
    rintro i h ⟨⟨old, he⟩, ⟨o, ho, hc, hd⟩, _⟩ b hb
    rw [List.mem_cons, List.mem_singleton] at hb
    rcases hb with rfl | rfl
    · exact ⟨_, he, fun v q => nomatch q⟩
    · exact ⟨o, ho, fun v q => by rw [hd] at q; cases q⟩
  keep := by
    rintro i h h' ⟨⟨old, he⟩, hi, ne⟩ k
    exact ⟨⟨old, k e (by simp) _ he⟩, hi.at fun o q => k it (by simp) o q, ne⟩
  item := by
    rintro X rfl rfl rfl hc i pins s σ H E I hf ⟨⟨old, he⟩, hi, ne⟩ ⟨xs, x, hq, hx⟩
    obtain ⟨its, rv, ⟨ot, hot, cot, rt⟩, hz⟩ := I.tuple hq
    obtain ⟨u, hu, ru⟩ := rv.get hx
    have ai : a ≠ it := by
      rintro rfl
      obtain ⟨o, ho, hc', _⟩ := id hi
      have := hot.symm.trans ho
      injection this with this
      rw [← this, cot] at hc'
      exact absurd hc' (by decide)
    have ae : e ≠ a := by
      rintro rfl
      have := hot.symm.trans he
      injection this with this
      rw [this] at cot
      injection cot with cot
      exact absurd cot (by decide)
    have D := Draws.tuple (prog := X.prog) (w := X.w) (A := X.A.in1) (I.ok.hd hc) it a ai its.toArray
    have li := rv.length
    have lt : i < its.toArray.size := by
      have := (List.getElem?_eq_some_iff.mp hu).1
      simpa using this
    have be : e < s.heap.objs.size := Heap.lt_size he
    have bi : it < s.heap.objs.size := by obtain ⟨_, q, _⟩ := id hi; exact Heap.lt_size q
    refine wpAny_pyNext_enum_itemD D he ⟨hi, ⟨ot, hot, cot, rt⟩⟩ lt ne (by simp [ne, ae]) fun y h' tk py ho st' hT _ hk => ?_
    obtain rfl : y = u := by
      have : its.toArray[i]? = some u := by simpa using hu
      exact Option.some.inj (py.symm.trans this)
    refine ⟨_, rfl, wpAny_letOwnedTupleGo_enum (s := { s with heap := h', toks := tk + 1 }) ho fun h2 he2 sb => ?_⟩
    have new : ObjOk X.prog X.w (L2.upd H s.heap.objs.size (.tup [.int (i : Nat), x])) h2 s.heap.objs.size (.tup [.int (i : Nat), x]) :=
      ⟨by show 2 ≤ sizeLine; decide, [.int i tk, y], .cons ⟨_, rfl⟩ (.cons ru .nil), ⟨_, (sb.2 _ (Nat.ne_of_gt be)).trans hT, rfl, _, rfl⟩⟩
    have I1 : Inv X pins σ (L2.upd H s.heap.objs.size (.tup [.int (i : Nat), x])) { s with heap := h2, toks := tk + 1 } := by
      refine I.turnedNew (ch := [e, it]) (fun b ob hb q => ?_) hf (Nat.le_refl _) new
      simp only [List.mem_cons, List.not_mem_nil, or_false, not_or] at hb
      exact (sb.2 b hb.1).trans (hk b ob hb.1 hb.2 q)
    refine ⟨.ref s.heap.objs.size, _, I1, rfl, ⟨_, x, rfl, I.hok.fresh (Nat.le_refl _), rfl, fun ys hy => by rw [I.tuple_inj hy hq]; exact hx⟩, ⟨⟨y, ?_⟩, st'.1.at fun o q => (sb.2 it (Ne.symm ne)).trans q, ne⟩, fun b hb => ?_⟩
    · rw [show ((i + 1 : Nat) : Int) = (i : Int) + 1 by omega]
      exact he2
    · have : b < s.heap.objs.size := by
        rw [List.mem_cons, List.mem_singleton] at hb
        rcases hb with rfl | rfl
        · exact be
        · exact bi
      rw [upd_ne (Nat.ne_of_lt this)]
      exact (hf b hb).1
  done := by
    rintro X rfl rfl rfl hc i pins s σ H E I hf ⟨⟨old, he⟩, hi, ne⟩ ⟨xs, hq, hx⟩
    obtain ⟨its, rv, ⟨ot, hot, cot, rt⟩, hz⟩ := I.tuple hq
    have ll := rv.length
    have out : its.toArray[i]? = none := by
      rw [Array.getElem?_eq_none_iff]
      show its.length ≤ i
      omega
    have D : Draws X.prog X.w X.A.in1 it [it, a] 0 (fun _ _ => True) (fun _ h => h.IsTupleIter it a i ∧ h.IsTuple a its.toArray) :=
      { live := fun _ _ st => by
          obtain ⟨⟨o, ho, _⟩, _⟩ := st
          exact ⟨o, ho⟩
        frame := fun _ _ _ st k => ⟨st.1.at fun o q => k it (by simp) o q, st.2.at fun o q => k a (by simp) o q⟩
        item := fun j _ _ _ lt => absurd lt (Nat.not_lt_zero _)
        done := fun t Q E' st q => wpAny_nextOf_tuple_end (I.ok.hd hc) st.1 st.2 out q }
    obtain ⟨f0, f1, f2, f3, f4, f5⟩ := hf it (by simp)
    exact wpAny_pyNext_enum_endD D he ⟨hi, ⟨ot, hot, cot, rt⟩⟩ fun h2 eb => ⟨rfl, I.turned (t' := s.toks) (fun b o nb q => eb b o nb q) f0 f1 f3 f4 f5⟩
def iEnumT (K : PySem.W.Frag) (ta : TA) : TI := fun σ H R => ta σ H fun vs H1 => ∃ a xs, vs = [.ref a] ∧ SqT K H1 a xs ∧ R (IteT K a) H1
theorem pi_enumT {X : Cx} {e : Expr} {ta : TA} {p pos tpos : Pos} {elts : List Expr} {kk : Nat} (hg : Gl X "enumerate") (hm : X.mg "enumerate" = none) (ha : PA X [e] ta) (hs : starEach [e] X.env = [(false, eval e X.env)] := by rfl) :
    PI X (.Tuple elts kk tpos) (.Call (.Name "enumerate" p) [e] [] pos) (iEnumT X.K ta) := by
  constructor
  intro pins s σ H R I h
  refine Call_ (ld_blt I hg hm boot_enumerate (PyProof.Rows.callWith_type1 (thn (ha.run pos pins s σ H _ I h) ?_) hs rfl))
  rintro us s1 ⟨vs, H1, I1, r1, a, xs, rfl, hq, q⟩
  obtain ⟨u, rfl⟩ : ∃ u, us = [u] := by
    cases r1 with
    | cons r rr => cases rr; exact ⟨_, rfl⟩
  obtain rfl : u = Value.ref a := by
    cases r1 with
    | cons r rr => exact r
  obtain ⟨its, rv, tt, hz⟩ := I1.tuple hq
  refine enum_called (begins_tuple a its.toArray) tt fun h2 he hi hk => wpAny_pyIter_enum he ?_
  have I2 : Inv X pins σ H1 { s1 with heap := h2 } := I1.kept (t' := s1.toks) hk
  refine ⟨_, [s1.heap.objs.size + 1, s1.heap.objs.size], _, _, H1, rfl, I2, enum_turn a _ s1.heap.objs.size, ⟨⟨.none, he⟩, ⟨_, hi, rfl, rfl⟩, Nat.succ_ne_self _⟩, fun b hb => ?_, q⟩
  have nb : s1.heap.objs.size ≤ b := by
    rw [List.mem_cons, List.mem_singleton] at hb
    rcases hb with z | z
    · rw [z]
      exact Nat.le_succ _
    · rw [z]
      exact Nat.le_refl _
  exact I1.fpOk nb (I1.hok.fresh nb)
/-- for i, x in enumerate(a tuple) -/
theorem for_enumT {K : PySem.W.Frag} {a : Addr} {xs : List V} {g : TG} {tb : TS} {D : Ends} {σ : L2.St} {H : Hp} (Pv : Nat → L2.St → Hp → Prop) (h0 : Pv 0 σ H) (hq : ∀ i σ H, Pv i σ H → SqT K H a xs)
    (hs : ∀ (i : Nat) (x : V) (T : Addr) (σ : L2.St) (H : Hp), xs[i]? = some x → Pv i σ H → H T = none → g (.ref T) σ (L2.upd H T (.tup [.int (i : Nat), x])) fun σ2 H2 => tb { D with nx := Pv (i + 1), ct := Pv (i + 1), bk := D.nx } σ2 H2)
    (hd : ∀ σ H, Pv xs.length σ H → D.nx σ H) :
    ∃ W : Nat → Nat → L2.St → Hp → Prop, (∃ m, W 0 m σ H) ∧ ∀ i m σ H, W i m σ H →
      ((IteT K a).stop i H ∧ D.nx σ H) ∨ ((IteT K a).go i H ∧ ∃ N : L2.St → Hp → Prop, (∀ σ' H', N σ' H' → ∃ m', m' < m ∧ W (i + 1) m' σ' H') ∧
        ∀ v H', (IteT K a).yld i H v H' → g v σ H' fun σ2 H2 => tb { D with nx := N, ct := N, bk := D.nx } σ2 H2) := by
  refine ⟨fun i m σ H => m = xs.length - i ∧ i ≤ xs.length ∧ Pv i σ H, ⟨xs.length, rfl, Nat.zero_le _, h0⟩, ?_⟩
  rintro i m σ H ⟨rfl, hi, p⟩
  have q := hq i σ H p
  by_cases h : i < xs.length
  · refine .inr ⟨⟨xs, xs[i], q, List.getElem?_eq_getElem h⟩, Pv (i + 1), fun σ' H' p' => ⟨xs.length - (i + 1), by omega, rfl, h, p'⟩, ?_⟩
    rintro v H' ⟨T, x, rfl, hT, rfl, f⟩
    exact hs i x T σ H (f xs q) p hT
  · obtain rfl : i = xs.length := by omega
    exact .inl ⟨⟨xs, q, Nat.le_refl _⟩, hd σ H p⟩
theorem pi_tupK {X : Cx} {K : PySem.W.Frag} {tg l : Expr} {tl : TE} (hK : X.K = K) (hl : PE X l tl) : PI X tg l (iTup K tl) := by subst hK; exact pi_tup hl
end Lb

set_option Elab.async false
set_option linter.all false
set_option maxRecDepth 100000
set_option maxHeartbeats 4000000
namespace Lb
open PySem L2
/-- all but lists is kept -/
def NL (H H' : Hp) : Prop := ∀ b o, (∀ l, o ≠ HO.lst l) → H b = some o → H' b = some o
theorem NL.trans {H H1 H2 : Hp} (h : NL H H1) (k : NL H1 H2) : NL H H2 := fun b o n e => k b o n (h b o n e)
theorem NL.of {H H1 : Hp} (h : L2.Same H H1) : NL H H1 := fun b o _ e => h b o e
theorem NL.refl {H : Hp} : NL H H := fun _ _ _ e => e
theorem NL.mov {p : Addr} {H H1 : Hp} (m : Mov p H H1) (hp : PotAt H p) : NL H H1 := fun b o n e => m.keep b o (fun z => by
  obtain ⟨x, y, q, _⟩ := hp
  rw [z, q] at e
  exact n _ (Option.some.inj e).symm) e
theorem NL.upd {H : Hp} {l : Addr} {ys : List V} {o : HO} (h : H l = some (.lst ys)) : NL H (L2.upd H l o) := fun b u n e => by
  have : b ≠ l := fun z => by
    rw [z, h] at e
    exact n _ (Option.some.inj e).symm
  rw [upd_ne this]
  exact e
theorem Mov.updl {p l : Addr} {H H' : Hp} {o : HO} (m : Mov p H H') (h : H l = none) (n : l ≠ p) : Mov p H (L2.upd H' l o) := by
  refine ⟨fun b u nb e => ?_, ?_⟩
  · rw [upd_ne (ne_of_none e h)]
    exact m.keep b u nb e
  · obtain ⟨x, y, q, z⟩ := m.pot
    exact ⟨x, y, by rw [upd_ne (Ne.symm n)]; exact q, z⟩
theorem Same.free {H H' : Hp} {b : Addr} (s : L2.Same H H') (h : H' b = none) : H b = none := by
  cases z : H b with
  | none => rfl
  | some o =>
    rw [s b o z] at h
    cases h
theorem Fr.nl {p : Addr} {H H' : Hp} {t b : Int} (h : Fr H p t b) (s : NL H H') : Fr H' p t b := s _ _ (fun _ z => nomatch z) h
theorem eqv2 (x y : Int) : PyData.eqv (.list [.int x, .int y]) (.list [.int 0, .int 0]) = (decide (x = 0) && decide (y = 0)) := by
  simp only [PyData.eqv, PyData.eqvAll, Bool.and_true]
  rfl
end Lb

set_option Elab.async false
set_option linter.all false
set_option maxRecDepth 100000
set_option maxHeartbeats 4000000
/-! == of lists and tuples whose items have an own ==: either answer -/
namespace LbE
open PySem PySem.SeqAt
open AutoSeq1 (wpAny_loadPart')
open MeetsSeq MeetsSeq2 MeetsSeq3 SeqRoads2
open GQ (FinOf call_here)
section
variable {prog : Program} {w : World} {A : Around} {R : Result → Shared → Prop}
/-- at each moment the two lists are read anew: N items each; how the i-th two compare -/
def ListB (prog : Program) (w : World) (A : Around) (E : Value → Shared → Prop) (l b : Addr) (N : Nat) (e : Nat → Bool) (I : Shared → Prop) : Prop :=
  ∀ s, I s → ∃ (items items2 : Array Value) (n n2 : Nat), s.heap.get? l = some { cls := .type "list", data := .seq items n } ∧ s.heap.get? b = some { cls := .type "list", data := .seq items2 n2 } ∧ items.size = N ∧ items2.size = N ∧
    ∀ (i : Nat) (h1 : i < items.size) (h2 : i < items2.size), wpAny (model prog w) A.in1 (eqBool items[i] items2[i]) (fun r s' => r = e i ∧ I s') E s
theorem eq_loopB (l b : Addr) (N : Nat) (e : Nat → Bool) (I : Shared → Prop) (hl : ListB prog w A (fun e s' => R (.error e) s') l b N e I) (k : Nat) :
    ∀ i : Nat, N - i = k → i ≤ N → (∀ s, I s → R (.ok (.ret (.bool (((List.range N).drop i).all e)))) s) → ∀ s, I s →
      wpAny (model prog w) A.in1 (Builtin.«list.__eq__.loop» ⟨[.ref l, .ref b, rawInt i, rawInt 2], []⟩) (FinOf prog w A R) (fun e s' => R (.error e) s') s := by
  induction k with
  | zero =>
    intro i hk hi fin s h
    obtain ⟨items, items2, n, n2, hl1, hb1, hs1, hs2, _⟩ := hl _ h
    have hi' : i = N := by omega
    have hd : (List.range N).drop i = [] := by simp; omega
    have hR := fin s h
    rw [hd] at hR
    obtain ⟨hp, g, d, tk, os⟩ := s
    wp_walk using wpAny_loadPart' hl1, wpAny_loadPart' hb1
    have hi1 : items[((i : Nat) : Int).toNat]? = none := by simp; omega
    have hi2 : items2[((i : Nat) : Int).toNat]? = none := by simp; omega
    rw [hi1, hi2]
    wp_walk using wpAny_loadPart' hl1, wpAny_loadPart' hb1
    show R (.ok (.ret (.bool (items.size == items2.size)))) _
    rw [hs1, hs2]
    simpa using hR
  | succ k ih =>
    intro i hk hi fin s h
    obtain ⟨items, items2, n, n2, hl1, hb1, hs1, hs2, turn⟩ := hl _ h
    have hlt : i < items.size := by omega
    have hlt2 : i < items2.size := by omega
    have ht := turn i hlt hlt2
    have hd : (List.range N).drop i = i :: (List.range N).drop (i + 1) := by
      rw [List.drop_eq_getElem_cons (by rw [List.length_range]; omega)]
      simp
    rw [hd] at fin
    obtain ⟨hp, g, d, tk, os⟩ := s
    wp_walk using wpAny_loadPart' hl1, wpAny_loadPart' hb1
    have hi1 : items[((i : Nat) : Int).toNat]? = some items[i] := by simp [hlt]
    have hi2 : items2[((i : Nat) : Int).toNat]? = some items2[i] := by simp [hlt2]
    have hc : ((i : Int) + 1) = ((i + 1 : Nat) : Int) := by omega
    rw [hi1, hi2]
    refine wpAny_bind (wpAny_mono ht (fun r s2 h2 => ?_) fun _ _ x => x)
    obtain ⟨hr, h2⟩ := h2
    subst hr
    cases hb' : e i with
    | true =>
      have hrec := ih (i + 1) (by omega) (by omega) (fun s hs => by
        have := fin s hs
        rw [List.all_cons, hb'] at this
        simpa using this) s2 h2
      obtain ⟨hp2, g2, d2, tk2, os2⟩ := s2
      wp_walk
      rw [hc]
      exact ⟨plainId_quiet plain_eq_loop _, codeAny_builtin entry_eq_loop (by
        rw [Around.under_plainId plain_eq_loop _]
        exact hrec)⟩
    | false =>
      have hR := fin s2 h2
      rw [List.all_cons, hb'] at hR
      obtain ⟨items3, items4, n3, n4, hl3, hb3, hs3, hs4, _⟩ := hl _ h2
      obtain ⟨hp2, g2, d2, tk2, os2⟩ := s2
      wp_walk using wpAny_loadPart' hl3, wpAny_loadPart' hb3
      have hi3 : items3[((i : Nat) : Int).toNat]? = some (items3[i]'(by omega)) := by simp [show i < items3.size by omega]
      have hi4 : items4[((i : Nat) : Int).toNat]? = some (items4[i]'(by omega)) := by simp [show i < items4.size by omega]
      rw [hi3, hi4]
      wp_walk
      simpa using hR
theorem list_eqB (l b : Addr) (N : Nat) (e : Nat → Bool) (I : Shared → Prop) (hl : ListB prog w A (fun e s' => R (.error e) s') l b N e I)
    (fin : ∀ s, I s → R (.ok (.ret (.bool ((List.range N).all e)))) s) {s : Shared} (h : I s) :
    wpAny (model prog w) A.in1 (Builtin.«list.__eq__» ⟨[.ref l, .ref b], []⟩) (FinOf prog w A R) (fun e s' => R (.error e) s') s := by
  obtain ⟨items, items2, n, n2, hl1, hb1, hs1, hs2, _⟩ := hl _ h
  have hrec := eq_loopB (A := A) (R := R) l b N e I hl _ 0 rfl (Nat.zero_le _) (by simpa using fin) s h
  obtain ⟨hp, g, d, tk, os⟩ := s
  have f3 := AutoSeq1.sub_list_list
  have hne : ¬ (items.size != items2.size) = true := by simp [hs1, hs2]
  wp_walk using wpAny_loadPart' hl1, wpAny_loadPart' hb1
  exact ⟨plainId_quiet plain_eq_loop _, codeAny_builtin entry_eq_loop (by
    rw [Around.under_plainId plain_eq_loop _]
    exact hrec)⟩
theorem list_neB (l b : Addr) {items items2 : Array Value} {n n2 : Nat} {s : Shared} (hl1 : s.heap.get? l = some { cls := .type "list", data := .seq items n }) (hb1 : s.heap.get? b = some { cls := .type "list", data := .seq items2 n2 }) (hs : items.size ≠ items2.size)
    (fin : R (.ok (.ret (.bool false))) s) :
    wpAny (model prog w) A.in1 (Builtin.«list.__eq__» ⟨[.ref l, .ref b], []⟩) (FinOf prog w A R) (fun e s' => R (.error e) s') s := by
  obtain ⟨hp, g, d, tk, os⟩ := s
  have f3 := AutoSeq1.sub_list_list
  have hne : (items.size != items2.size) = true := by simp [hs]
  wp_walk using wpAny_loadPart' hl1, wpAny_loadPart' hb1
  exact fin
theorem tuple_eqB (l b : Addr) (items items2 : Array Value) (n n2 : Nat) (dd dd2 : Option Addr) (sl sl2 : Array (Option Value)) (hsz : items.size = items2.size) (e : Nat → Bool) (I : Shared → Prop)
    (turn : ∀ i (h1 : i < items.size) (h2 : i < items2.size) s, I s → wpAny (model prog w) A.in1 (eqBool items[i] items2[i]) (fun r s' => r = e i ∧ I s') (fun e s' => R (.error e) s') s)
    (fin : ∀ s, I s → R (.ok (.ret (.bool ((List.range items.size).all e)))) s) {s : Shared} (hl1 : s.heap.get? l = some { cls := .type "tuple", dict := dd, data := .seq items n, slots := sl }) (hb1 : s.heap.get? b = some { cls := .type "tuple", dict := dd2, data := .seq items2 n2, slots := sl2 }) (h : I s) :
    wpAny (model prog w) A.in1 (Builtin.«tuple.__eq__» ⟨[.ref l, .ref b], []⟩) (FinOf prog w A R) (fun e s' => R (.error e) s') s := by
  have f2 := AutoSeq1.sub_tuple_tuple
  have hZ : (items.toList.zip items2.toList).length = items.size := by simp [hsz]
  have h0 := h
  obtain ⟨hp, g, d, tk, os⟩ := s
  wp_walk using wpAny_loadPart' hl1, wpAny_loadPart' hb1, wpAny_forIn_list _ (fun rest b s' => I s' ∧ ∃ i, i ≤ items.size ∧ ((b.1 = none ∧ rest = (items.toList.zip items2.toList).drop i ∧ ((List.range items.size).take i).all e = true))) _
  case turn =>
    rintro ⟨y, x⟩ rest b s' ⟨hI, i, hi, hb', hz, hall⟩
    have hlt : i < (items.toList.zip items2.toList).length := by
      rcases Nat.lt_or_ge i (items.toList.zip items2.toList).length with h' | h'
      · exact h'
      · rw [List.drop_of_length_le h'] at hz; cases hz
    have h1 : i < items.size := hZ ▸ hlt
    have h2 : i < items2.size := hsz ▸ h1
    rw [List.drop_eq_getElem_cons hlt] at hz
    injection hz with hyx hrest
    have hy : y = items[i] := by have := congrArg Prod.fst hyx; simpa using this
    have hx : x = items2[i] := by have := congrArg Prod.snd hyx; simpa using this
    subst hy hx
    refine wpAny_bind (wpAny_mono (turn i h1 h2 s' hI) (fun r s2 q2 => ?_) fun _ _ x => x)
    obtain ⟨hr, q2⟩ := q2
    subst hr
    cases he : e i with
    | true =>
      wp_walk
      refine ⟨q2, i + 1, h1, rfl, hrest, ?_⟩
      rw [List.take_succ, List.all_append, hall, List.getElem?_range h1]
      simp [he]
    | false =>
      have hR : R (.ok (.ret (.bool false))) s2 := by
        have := fin s2 q2
        have e1 : (List.range items.size).all e = false := List.all_eq_false.mpr ⟨i, List.mem_range.mpr h1, by simp [he]⟩
        rw [e1] at this
        exact this
      wp_walk
      exact hR
  case fin =>
    rintro ⟨b1, b2⟩ s' ⟨hI, i, hi, hb', hz, hall⟩
    simp only at hb'
    subst hb'
    have hge : items.size ≤ i := by
      rcases Nat.lt_or_ge i (items.toList.zip items2.toList).length with h' | h'
      · rw [List.drop_eq_getElem_cons h'] at hz; cases hz
      · exact hZ ▸ h'
    have hi' : i = items.size := by omega
    have e1 : (List.range items.size).all e = true := by
      rw [hi', List.take_of_length_le (by simp)] at hall
      exact hall
    have hR : R (.ok (.ret (.bool true))) s' := by
      have := fin s' hI
      rw [e1] at this
      exact this
    wp_walk
    simpa [Builtin.Tuple.tupleCompareSizes, hsz] using hR
  case h =>
    exact ⟨h0, 0, Nat.zero_le _, rfl, rfl, rfl⟩
end
section
variable {prog : Program} {w : World} {A : Around} {E : Value → Shared → Prop} {s : Shared}
theorem rc_listB {l b : Addr} {N : Nat} {e : Nat → Bool} {Q : Value → Shared → Prop} (hu : A.units < cLine) (I : Shared → Prop) (hl : ListB prog w A E l b N e I)
    (fin : ∀ s, I s → Q (.bool ((List.range N).all e)) s) (h : I s) : wpAny (model prog w) A (richCompare .Eq (.ref l) (.ref b)) Q E s := by
  obtain ⟨items, items2, n, n2, hl1, hb1, _, _, _⟩ := hl _ h
  refine wpAny_richCompare_same_room (op := .Eq) ⟨_, hl1, rfl⟩ ⟨_, hb1, rfl⟩ F.slot_list_eq (call_here F.slot_list_eq ⟨_, hl1, rfl⟩ F.entry_list_eq (F.args_list_eq_2 _ _) ?_) hu
  exact list_eqB (R := wants (fun v s' => v ≠ .notImplemented ∧ Q v s') E) l b N e I hl (fun s' q => ⟨(fun x => nomatch x), fin s' q⟩) h
theorem rc_listN {l b : Addr} {items items2 : Array Value} {n n2 : Nat} {Q : Value → Shared → Prop} (hu : A.units < cLine) (hl1 : s.heap.get? l = some { cls := .type "list", data := .seq items n }) (hb1 : s.heap.get? b = some { cls := .type "list", data := .seq items2 n2 }) (hs : items.size ≠ items2.size)
    (fin : Q (.bool false) s) : wpAny (model prog w) A (richCompare .Eq (.ref l) (.ref b)) Q E s := by
  refine wpAny_richCompare_same_room (op := .Eq) ⟨_, hl1, rfl⟩ ⟨_, hb1, rfl⟩ F.slot_list_eq (call_here F.slot_list_eq ⟨_, hl1, rfl⟩ F.entry_list_eq (F.args_list_eq_2 _ _) ?_) hu
  exact list_neB (R := wants (fun v s' => v ≠ .notImplemented ∧ Q v s') E) l b hl1 hb1 hs ⟨(fun x => nomatch x), fin⟩
theorem rc_tupB {l b : Addr} {items items2 : Array Value} {Q : Value → Shared → Prop} {e : Nat → Bool} (hsz : items.size = items2.size) (hu : A.units < cLine) (I : Shared → Prop)
    (hl : s.heap.IsTuple l items) (hb : s.heap.IsTuple b items2)
    (turn : ∀ i (h1 : i < items.size) (h2 : i < items2.size) s, I s → wpAny (model prog w) A.in1 (eqBool items[i] items2[i]) (fun r s' => r = e i ∧ I s') E s)
    (fin : ∀ s, I s → Q (.bool ((List.range items.size).all e)) s) (h : I s) : wpAny (model prog w) A (richCompare .Eq (.ref l) (.ref b)) Q E s := by
  obtain ⟨⟨cls, dd, data, sl⟩, ho, hc, n, hd⟩ := id hl
  obtain ⟨⟨cls2, dd2, data2, sl2⟩, ho2, hc2, n2, hd2⟩ := id hb
  simp only at hc hd hc2 hd2
  subst hc hd hc2 hd2
  refine wpAny_richCompare_same_room (op := .Eq) ⟨_, ho, rfl⟩ ⟨_, ho2, rfl⟩ F.slot_tuple_eq (call_here F.slot_tuple_eq ⟨_, ho, rfl⟩ F.entry_tuple_eq (F.args_tuple_eq_2 _ _) ?_) hu
  exact tuple_eqB (R := wants (fun v s' => v ≠ .notImplemented ∧ Q v s') E) l b items items2 n n2 dd dd2 sl sl2 hsz e I turn (fun s' q => ⟨(fun x => nomatch x), fin s' q⟩) ho ho2 h
end
end LbE
namespace Lb
open PySem PySem.Spec PyProof.Rows L2
/-- how two values compare, by the abstract heap -/
abbrev EqvB := V → V → Hp → Bool → Prop
def MonB (D : EqvB) : Prop := ∀ x y H H' c, Ext H H' → D x y H c → D x y H' c
def EqGB (X : Cx) (n : Nat) (D : EqvB) : Prop :=
  ∀ (A : Around) (pins : List (Addr × Obj)) (s : Shared) (σ : L2.St) (H : Hp) (x y : V) (u v : Value) (c : Bool), L2.Sub X n A → Inv X pins σ H s → RelV x u → RelV y v → D x y H c →
    wpAny (model X.prog X.w) A (eqBool u v) (fun r s' => r = c ∧ ∃ H', Inv X pins σ H' s' ∧ Ext H H') X.xe s
def RcGB (X : Cx) (n : Nat) (D : EqvB) : Prop :=
  ∀ (A : Around) (pins : List (Addr × Obj)) (s : Shared) (σ : L2.St) (H : Hp) (x y : V) (u v : Value) (c : Bool), L2.Sub X n A → Inv X pins σ H s → RelV x u → RelV y v → D x y H c →
    wpAny (model X.prog X.w) A (richCompare .Eq u v) (fun r s' => r = .bool c ∧ ∃ H', Inv X pins σ H' s' ∧ Ext H H') X.xe s
section
variable {X : Cx} {n m : Nat} {D D' : EqvB}
theorem EqGB.mono (h : EqGB X n D) (hn : n ≤ m) : EqGB X m D := fun A pins s σ H x y u v c sb => h A pins s σ H x y u v c (sb.mono hn)
theorem EqGB.or (h : EqGB X n D) (h' : EqGB X n D') : EqGB X n (fun x y H c => D x y H c ∨ D' x y H c) := fun A pins s σ H x y u v c sb I rx ry d => by
  rcases d with d | d
  · exact h A pins s σ H x y u v c sb I rx ry d
  · exact h' A pins s σ H x y u v c sb I rx ry d
theorem MonB.or (h : MonB D) (h' : MonB D') : MonB (fun x y H c => D x y H c ∨ D' x y H c) := fun x y H H' c e d => d.elim (fun d => .inl (h x y H H' c e d)) fun d => .inr (h' x y H H' c e d)
/-- item by item -/
structure PrsB (D : EqvB) (xs ys : List V) (H : Hp) (e : Nat → Bool) : Prop where
  len : xs.length = ys.length
  at_ : ∀ (i : Nat) x y, xs[i]? = some x → ys[i]? = some y → D x y H (e i)
theorem PrsB.mon (hD : MonB D) {xs ys : List V} {H H' : Hp} {c : Nat → Bool} (e : Ext H H') (p : PrsB D xs ys H c) : PrsB D xs ys H' c := ⟨p.len, fun i x y h1 h2 => hD x y H H' _ e (p.at_ i x y h1 h2)⟩
theorem turnB (hD : MonB D) (h : EqGB X n D) {A : Around} (sb : L2.Sub X (n + 1) A) {pins : List (Addr × Obj)} {σ : L2.St} {H : Hp} {xs ys : List V} {its its2 : List Value} {e : Nat → Bool} (p : PrsB D xs ys H e) (r : Vals xs its) (r2 : Vals ys its2)
    (i : Nat) (h1 : i < its.toArray.size) (h2 : i < its2.toArray.size) (s' : Shared) (l : LoopI X pins σ H s') :
    wpAny (model X.prog X.w) A.in1 (eqBool its.toArray[i] its2.toArray[i]) (fun r s2 => r = e i ∧ LoopI X pins σ H s2) X.xe s' := by
  obtain ⟨H1, I1, e1⟩ := l
  have g1 : its[i]? = some its.toArray[i] := by
    have h1' : i < its.length := by simpa using h1
    rw [List.getElem?_eq_getElem h1'] <;> simp
  have g2 : its2[i]? = some its2.toArray[i] := by
    have h2' : i < its2.length := by simpa using h2
    rw [List.getElem?_eq_getElem h2'] <;> simp
  have k1 : i < xs.length := by rw [r.length]; simpa using h1
  have k2 : i < ys.length := by rw [r2.length]; simpa using h2
  obtain ⟨u, hu, ru⟩ := r.get (List.getElem?_eq_getElem k1)
  obtain ⟨v, hv, rv⟩ := r2.get (List.getElem?_eq_getElem k2)
  rw [g1] at hu
  rw [g2] at hv
  rw [Option.some.inj hu, Option.some.inj hv]
  refine wpAny_mono (h A.in1 pins s' σ H1 _ _ u v _ sb.in1 I1 ru rv (hD _ _ _ _ _ e1 (p.at_ i _ _ (List.getElem?_eq_getElem k1) (List.getElem?_eq_getElem k2)))) (fun r s2 q => ?_) fun _ _ x => x
  obtain ⟨hr, H2, I2, e2⟩ := q
  exact ⟨hr, H2, I2, e1.trans e2⟩
def DListB (D : EqvB) : EqvB := fun x y H c => ∃ a b xs ys, x = .ref a ∧ y = .ref b ∧ H a = some (.lst xs) ∧ H b = some (.lst ys) ∧ ((xs.length ≠ ys.length ∧ c = false) ∨ ∃ e, PrsB D xs ys H e ∧ c = (List.range xs.length).all e)
def DTupB (K : PySem.W.Frag) (D : EqvB) : EqvB := fun x y H c => ∃ a b xs ys e, x = .ref a ∧ y = .ref b ∧ SqT K H a xs ∧ SqT K H b ys ∧ PrsB D xs ys H e ∧ c = (List.range xs.length).all e
theorem mon_listB (hD : MonB D) : MonB (DListB D) := fun x y H H' c e d => by
  obtain ⟨a, b, xs, ys, hx, hy, h1, h2, p⟩ := d
  exact ⟨a, b, xs, ys, hx, hy, e _ _ h1, e _ _ h2, p.imp id fun ⟨f, p, q⟩ => ⟨f, p.mon hD e, q⟩⟩
theorem mon_tupB {K : PySem.W.Frag} (hD : MonB D) : MonB (DTupB K D) := fun x y H H' c e d => by
  obtain ⟨a, b, xs, ys, f, hx, hy, h1, h2, p, q⟩ := d
  exact ⟨a, b, xs, ys, f, hx, hy, L2.SqT.ext h1 e, L2.SqT.ext h2 e, p.mon hD e, q⟩
theorem rcGB_list (hD : MonB D) (h : EqGB X n D) : RcGB X (n + 1) (DListB D) := by
  intro A pins s σ H x y u v c sb I rx ry d
  obtain ⟨a, b, xs, ys, rfl, rfl, ha, hb, p⟩ := d
  cases rx
  cases ry
  rcases p with ⟨hne, rfl⟩ | ⟨f, p, rfl⟩
  · obtain ⟨z, its, k, r, e⟩ := I.hok a _ ha
    obtain ⟨z2, its2, k2, r2, e2⟩ := I.hok b _ hb
    refine LbE.rc_listN sb.room.units0 e e2 ?_ ⟨rfl, H, I, Ext.rfl'⟩
    rw [List.size_toArray, List.size_toArray, ← r.length, ← r2.length]
    exact hne
  · refine LbE.rc_listB (N := xs.length) (e := f) sb.room.units0 (fun s' => LoopI X pins σ H s') (fun s' q => ?_) (fun s' q => ⟨rfl, q⟩) ⟨H, I, Ext.rfl'⟩
    obtain ⟨H1, I1, e1⟩ := id q
    obtain ⟨z, its, k, r, e⟩ := I1.hok a _ (e1 _ _ ha)
    obtain ⟨z2, its2, k2, r2, e2⟩ := I1.hok b _ (e1 _ _ hb)
    refine ⟨its.toArray, its2.toArray, k, k2, e, e2, by rw [List.size_toArray, ← r.length], by rw [List.size_toArray, ← r2.length, ← p.len], fun i h1 h2 => ?_⟩
    exact turnB hD h sb p r r2 i h1 h2 s' q
theorem rcGB_tup (hD : MonB D) (h : EqGB X n D) : RcGB X (n + 1) (DTupB X.K D) := by
  intro A pins s σ H x y u v c sb I rx ry d
  obtain ⟨a, b, xs, ys, f, rfl, rfl, ha, hb, p, rfl⟩ := d
  cases rx
  cases ry
  obtain ⟨its, r, e, z⟩ := I.tuple ha
  obtain ⟨its2, r2, e2, z2⟩ := I.tuple hb
  have hsz : its.toArray.size = its2.toArray.size := by rw [List.size_toArray, List.size_toArray, ← r.length, ← r2.length]; exact p.len
  refine LbE.rc_tupB (e := f) hsz sb.room.units0 (fun s' => LoopI X pins σ H s') e e2 (fun i h1 h2 s' q => turnB hD h sb p r r2 i h1 h2 s' q) (fun s' q => ?_) ⟨H, I, Ext.rfl'⟩
  rw [List.size_toArray, ← r.length]
  exact ⟨rfl, q⟩
/-- from a rich comparison of references to == inside a list or tuple: the same object is equal to itself -/
theorem RcGB.eqG (h : RcGB X n D) (hr : ∀ x y H c, D x y H c → ∃ a b, x = .ref a ∧ y = .ref b ∧ (a = b → c = true)) : EqGB X n D := by
  intro A pins s σ H x y u v c sb I rx ry d
  obtain ⟨a, b, rfl, rfl, hs⟩ := hr _ _ _ _ d
  cases rx
  cases ry
  by_cases hab : a = b
  · obtain rfl := hs hab
    subst hab
    exact SeqAt.EqAt.same (A := A) (s := s) (.ref a) X.prog X.w X.xe _ ⟨rfl, H, I, Ext.rfl'⟩
  · refine GQ.eqBool_refG hab (wpAny_mono (h A pins s σ H (.ref a) (.ref b) _ _ c sb I rfl rfl d) (fun r s' q => ?_) fun _ _ x => x)
    obtain ⟨hr', q⟩ := q
    exact ⟨c, hr', rfl, q⟩
/-- instances of the class at C with the text's own == -/
def DInsB (C : Addr) (R : Addr → Addr → Hp → Bool → Prop) : EqvB := fun x y H c => ∃ a b dx dy fs gs, x = .ref a ∧ y = .ref b ∧ H a = some (.ins C dx fs) ∧ H b = some (.ins C dy gs) ∧ R a b H c
theorem mon_insB {C : Addr} {R : Addr → Addr → Hp → Bool → Prop} (hR : ∀ a b H H' c, Ext H H' → R a b H c → R a b H' c) : MonB (DInsB C R) := fun x y H H' c e d => by
  obtain ⟨a, b, dx, dy, fs, gs, hx, hy, h1, h2, r⟩ := d
  exact ⟨a, b, dx, dy, fs, gs, hx, hy, e _ _ h1, e _ _ h2, hR a b H H' c e r⟩
theorem rcGB_ins {CX : CXT} {C f : Addr} {fd : FuncData} {ps : List Str} {sp : Sp} {R : Addr → Addr → Hp → Bool → Prop} {E : XK} (F : FnOk X.prog X.w X.K X.mg X.base CX n f fd ps sp)
    (hR : ∀ a b H c, R a b H c → ∀ Q : VK, (∀ H', Ext H H' → Q (.bl c) H') → sp [.ref a, .ref b] H Q E)
    (hs : PySem.W.findIn X.K (.ref C) "__eq__" = some (some (.ref f))) (hf : PySem.W.isFn X.K (.ref f) = true) (hb : Binds X.K fd ps []) (hx : Passes CX X E) : RcGB X n (DInsB C R) := by
  intro A pins s σ H x y u v c sb I rx ry d
  obtain ⟨a, b, dx, dy, fs, gs, rfl, rfl, ha, hb', hr⟩ := d
  cases rx
  cases ry
  obtain ⟨mA, J, _⟩ := ins_get I.hok ha
  obtain ⟨mB, J', _⟩ := ins_get I.hok hb'
  obtain ⟨od, J, _⟩ := J.look
  obtain ⟨od', J', _⟩ := J'.look
  obtain ⟨m, hF⟩ := I.fr
  refine PySem.W.cmp_K (op := .Eq) (tb := .ref C) sb.room.units0 hF I.ok.mod.kin J J'.type (by simp [PySem.W.notFirst]) hs hf ?_
  have hsp := hR a b H c hr (fun v H' => v = .bl c ∧ Ext H H') fun H' e => ⟨rfl, e⟩
  have e0 : Env0 X.prog X.w X.K X.mg X.base A X.stack s H := by
    have e := I.env0
    exact ⟨by rw [sb.fr]; exact e.frames, e.mod, e.bs, e.bsz, e.funs, e.frf, e.hok, e.bare⟩
  have hl := F.len _ _ _ _ hsp
  have r2 : Vals [V.ref a, V.ref b] [Value.ref a, Value.ref b] := .cons rfl (.cons rfl .nil)
  refine wpAny_call (codeAny_mono (F.run A X.stack s H ⟨[.ref a, .ref b], []⟩ [.ref a, .ref b] [.ref a, .ref b] _ E sb.room e0 (by
    have := hb s [.ref a, .ref b] I.kIn (by simpa using hl)
    simpa using this) r2 hsp) fun r s' hq => ?_)
  cases r with
  | error e => exact hx pins σ H s e s' I hq
  | ok fl =>
    cases fl with
    | ret w =>
      obtain ⟨z, H', I', rz, ez, ex⟩ := I.after hq
      subst ez
      cases rz
      exact ⟨rfl, H', I', ex⟩
    | next => exact False.elim hq
    | brk => exact False.elim hq
    | cont => exact False.elim hq
/-- x == y as an expression -/
def rEqGB (D : EqvB) : R2 := fun x y H Q => ∃ c, D x y H c ∧ ∀ H', Ext H H' → Q (.bl c) H'
theorem op_eqGB (h : RcGB X n D) (hr : Room n X.A) : OpR X (compareOp .Eq) (rEqGB D) := by
  intro pins s σ H x y v u Q I rx ry hq
  obtain ⟨c, d, q⟩ := hq
  show wpAny (model X.prog X.w) X.A (richCompare .Eq v u) (EP X pins σ Q) X.xe s
  refine wpAny_mono (h X.A pins s σ H x y v u c ⟨hr, rfl⟩ I rx ry d) (fun r s' z => ?_) fun _ _ x => x
  obtain ⟨hr', H', I', e⟩ := z
  subst hr'
  exact ⟨.bl c, H', I', rfl, q H' e⟩
end
end Lb

set_option Elab.async false
set_option linter.all false
set_option maxRecDepth 100000
set_option maxHeartbeats 4000000
/-! list(zip(a, b)): a, b two tuples or two lists -/
namespace LbZ
open PySem PyProof.Rows

section
variable {prog : Program} {w : World} {A : Around} {E : Value → Shared → Prop} {s : Shared}
/-- one step of a zip of tuples whose last pair is still held -/
theorem heldT_item {z TI TO T i1 i2 l1 l2 : Addr} {f : Bool} {oT : Obj} {k : Nat} {xs ys : Array Value} {x y : Value} {Q : Option Value → Shared → Prop} (D : ZipApart z TI TO i1 i2 l1 l2)
    (hz : IsZipHeld s.heap z TI TO T f) (hT : s.heap.get? T = some oT) (hTI : IsPair s.heap TI (.ref i1) (.ref i2))
    (j1 : s.heap.IsTupleIter i1 l1 k) (j2 : s.heap.IsTupleIter i2 l2 k) (t1 : s.heap.IsTuple l1 xs) (t2 : s.heap.IsTuple l2 ys) (hx : xs[k]? = some x) (hy : ys[k]? = some y)
    (go : ∀ h', IsZipHeld h' z TI TO T true → h'.IsTupleIter i1 l1 (k + 1) → h'.IsTupleIter i2 l2 (k + 1) → IsPair h' s.heap.objs.size x y →
      (∀ c o, c ≠ z → c ≠ i1 → c ≠ i2 → s.heap.get? c = some o → h'.get? c = some o) → Q (some (.ref s.heap.objs.size)) { s with heap := h' }) :
    wpAny (model prog w) A (pyNext (.ref z)) Q E s := by
  have ty : s.TypeIs (.ref z) "zip" := ⟨_, hz, rfl⟩
  unfold pyNext
  refine wpAny_bind (wpAny_attempt (wpAny_callSpecial?_slot (name := Str.ofString "__next__") ty F.slot_zip_next (wpAny_call_entry F.slot_zip_next ty F.entry_zip_next ?_ (F.args_zip_next_1 _))))
  show wpAny _ _ (field (.ref z) 2 >>= _) _ _ _
  refine wpAny_bind (wpAny_field hz rfl (x := .bool false) rfl ?_)
  show wpAny _ _ (field (.ref z) 3 >>= _) _ _ _
  refine wpAny_bind (wpAny_field hz rfl (x := .ref TI) rfl (wpAny_bind (wpAny_seqItems hTI rfl ?_)))
  show wpAny _ _ (Builtin.SmallTypes.ownedTupleIsFree (.ref z) >>= _) _ _ _
  refine wpAny_bind (wpAny_tupleHeld_zip hz hT fun ha za sa => ?_)
  simp only [Bool.false_eq_true, if_false]
  refine wpAny_bind ?_
  rw [← Array.forIn_toList]
  simp only [List.forIn_cons, List.forIn_nil]
  refine wpAny_bind (wpAny_bind (wpAny_holding ?_))
  show wpAny _ _ (Builtin.SmallTypes.nextOf (.ref i1) >>= _) _ _ _
  refine wpAny_bind (RZ.nextOf_tuple_item (s := { s with heap := ha }) (j1.extBut sa.extBut D.i1z) (t1.extBut sa.extBut D.l1z) hx fun hb j1b sb => wpAny_pure (wpAny_pure ?_))
  refine wpAny_bind (wpAny_bind (wpAny_holding ?_))
  show wpAny _ _ (Builtin.SmallTypes.nextOf (.ref i2) >>= _) _ _ _
  refine wpAny_bind (RZ.nextOf_tuple_item (s := { s with heap := hb }) ((j2.extBut sa.extBut D.i2z).extBut sb.extBut D.i12.symm) ((t2.extBut sa.extBut D.l2z).extBut sb.extBut D.l2i1) hy fun hc j2c sc => wpAny_pure (wpAny_pure (wpAny_pure ?_)))
  show wpAny _ _ (newTuple [x, y] >>= _) _ _ _
  refine wpAny_bind (wpAny_newTuple (wpAny_pure ⟨_, rfl, wpAny_pure ?_⟩))
  have sz : hc.objs.size = s.heap.objs.size := by rw [sc.1, sb.1, sa.1]
  have zc : IsZipHeld hc z TI TO T true := sc.extBut _ _ D.i2z.symm (sb.extBut _ _ D.i1z.symm za)
  have j1c : hc.IsTupleIter i1 l1 (k + 1) := j1b.extBut sc.extBut D.i12
  have pr : IsPair (hc.push { cls := .type "tuple", data := .seq #[x, y] }) hc.objs.size x y := Heap.get?_push_size _ rfl
  show Q (some (.ref hc.objs.size)) _
  rw [sz] at pr ⊢
  exact go _ (Heap.get?_push_of_some _ zc) (j1c.at fun o e => Heap.get?_push_of_some _ e) (j2c.at fun o e => Heap.get?_push_of_some _ e) pr
    fun c o n1 n2 n3 e => Heap.get?_push_of_some _ (sc.extBut _ _ n3 (sb.extBut _ _ n2 (sa.extBut _ _ n1 e)))
theorem heldT_end {z TI TO T i1 i2 l1 l2 : Addr} {f : Bool} {oT : Obj} {k : Nat} {xs ys : Array Value} {Q : Option Value → Shared → Prop} (hh : A.handled = none) (D : ZipApart z TI TO i1 i2 l1 l2)
    (hz : IsZipHeld s.heap z TI TO T f) (hT : s.heap.get? T = some oT) (hTI : IsPair s.heap TI (.ref i1) (.ref i2))
    (j1 : s.heap.IsTupleIter i1 l1 k) (j2 : s.heap.IsTupleIter i2 l2 k) (t1 : s.heap.IsTuple l1 xs) (t2 : s.heap.IsTuple l2 ys) (over : xs[k]? = none ∨ ys[k]? = none)
    (go : ∀ h', (∀ c o, c ≠ z → c ≠ i1 → c ≠ i2 → s.heap.get? c = some o → h'.get? c = some o) → Q none { s with heap := h' }) : wpAny (model prog w) A (pyNext (.ref z)) Q E s := by
  have ty : s.TypeIs (.ref z) "zip" := ⟨_, hz, rfl⟩
  have out : ∀ h' e, (∀ c o, c ≠ z → c ≠ i1 → c ≠ i2 → s.heap.get? c = some o → h'.get? c = some o) → (∃ o, h'.get? e = some o ∧ o.cls = .type "StopIteration") →
      wpAny (model prog w) A (do if ← isInstance (.ref e) (.type "StopIteration") then pure (none : Option Value) else throw (.ref e)) Q E { s with heap := h' } := fun h' e hk ⟨o, ho, hc⟩ =>
    wpAny_bind (wpAny_isInstance (T := "StopIteration") (b := true) ⟨o, ho, hc⟩ isSubtype_stop (wpAny_pure (go _ hk)))
  unfold pyNext
  refine wpAny_bind (wpAny_attempt (wpAny_callSpecial?_slot (name := Str.ofString "__next__") ty F.slot_zip_next (wpAny_call_entry F.slot_zip_next ty F.entry_zip_next ?_ (F.args_zip_next_1 _))))
  show wpAny _ _ (field (.ref z) 2 >>= _) _ _ _
  refine wpAny_bind (wpAny_field hz rfl (x := .bool false) rfl ?_)
  show wpAny _ _ (field (.ref z) 3 >>= _) _ _ _
  refine wpAny_bind (wpAny_field hz rfl (x := .ref TI) rfl (wpAny_bind (wpAny_seqItems hTI rfl ?_)))
  show wpAny _ _ (Builtin.SmallTypes.ownedTupleIsFree (.ref z) >>= _) _ _ _
  refine wpAny_bind (wpAny_tupleHeld_zip hz hT fun ha za sa => ?_)
  simp only [Bool.false_eq_true, if_false]
  refine wpAny_bind ?_
  rw [← Array.forIn_toList]
  simp only [List.forIn_cons, List.forIn_nil]
  refine wpAny_bind (wpAny_bind (wpAny_holding ?_))
  show wpAny _ _ (Builtin.SmallTypes.nextOf (.ref i1) >>= _) _ _ _
  cases hx : xs[k]? with
  | none =>
    refine wpAny_bind (RZ.nextOf_tuple_end (s := { s with heap := ha }) hh (j1.extBut sa.extBut D.i1z) (t1.extBut sa.extBut D.l1z) hx fun hb e sb he => ?_)
    exact out hb e (fun c o n1 n2 _ q => sb _ _ n2 (sa.extBut _ _ n1 q)) he
  | some x =>
    have hy : ys[k]? = none := by
      rcases over with h | h
      · rw [hx] at h; cases h
      · exact h
    refine wpAny_bind (RZ.nextOf_tuple_item (s := { s with heap := ha }) (j1.extBut sa.extBut D.i1z) (t1.extBut sa.extBut D.l1z) hx fun hb j1b sb => wpAny_pure (wpAny_pure ?_))
    refine wpAny_bind (wpAny_bind (wpAny_holding ?_))
    show wpAny _ _ (Builtin.SmallTypes.nextOf (.ref i2) >>= _) _ _ _
    refine wpAny_bind (RZ.nextOf_tuple_end (s := { s with heap := hb }) hh ((j2.extBut sa.extBut D.i2z).extBut sb.extBut D.i12.symm) ((t2.extBut sa.extBut D.l2z).extBut sb.extBut D.l2i1) hy fun hc e sc he => ?_)
    exact out hc e (fun c o n1 n2 n3 q => sc _ _ n3 (sb.extBut _ _ n2 (sa.extBut _ _ n1 q))) he
end
end LbZ
namespace LbZ
open PySem
theorem zip_no_len : typeLookup (.type "zip") "__len__" = pure none := am_miss_of_fast (by decide +kernel)
theorem zip_no_hint : typeLookup (.type "zip") "__length_hint__" = pure none := am_miss_of_fast (by decide +kernel)
end LbZ
namespace Lb
open PySem PySem.Spec PyProof.Rows L2
/-- how a zip of the tuples at a and b stands before its turn i -/
structure ZSt (H : Hp) (h : Heap) (z TI TO i1 i2 a b : Addr) (i : Nat) : Prop where
  zip : IsZip h z TI TO .none ∨ ∃ T fl ys, IsZipHeld h z TI TO T fl ∧ H T = some (.tup ys)
  ti : IsPair h TI (.ref i1) (.ref i2)
  to : ∃ x y, IsPair h TO x y
  j1 : h.IsTupleIter i1 a i
  j2 : h.IsTupleIter i2 b i
theorem ZSt.live {H : Hp} {h : Heap} {z TI TO i1 i2 a b c : Addr} {i : Nat} (st : ZSt H h z TI TO i1 i2 a b i) (hc : c ∈ [z, TI, TO, i1, i2]) : ∃ o, h.get? c = some o := by
  simp only [List.mem_cons, List.not_mem_nil, or_false] at hc
  rcases hc with rfl | rfl | rfl | rfl | rfl
  · rcases st.zip with h | ⟨_, _, _, h, _⟩
    · exact ⟨_, h⟩
    · exact ⟨_, h⟩
  · exact ⟨_, st.ti⟩
  · obtain ⟨_, _, e⟩ := st.to
    exact ⟨_, e⟩
  · obtain ⟨o, e, _⟩ := st.j1
    exact ⟨o, e⟩
  · obtain ⟨o, e, _⟩ := st.j2
    exact ⟨o, e⟩
section
variable {X : Cx} {pins : List (Addr × Obj)} {σ : L2.St} {H : Hp} {s : Shared} {z TI TO i1 i2 a b q : Addr} {i : Nat} {xs ys : List V} {A : Around} {E : Value → Shared → Prop}
theorem FpOk.other {H' : Hp} {c : Addr} (f : FpOk X pins H c) (h : H' c = none) : FpOk X pins H' c := ⟨h, f.2⟩
abbrev Chain (X : Cx) (pins : List (Addr × Obj)) (H : Hp) (z TI TO i1 i2 : Addr) : Prop := ∀ c ∈ [z, TI, TO, i1, i2], FpOk X pins H c
theorem zip_turn {x y : V} (D : ZipApart z TI TO i1 i2 a b) (I : Inv X pins σ H s) (hf : Chain X pins H z TI TO i1 i2) (st : ZSt H s.heap z TI TO i1 i2 a b i)
    (qx : SqT X.K H a xs) (qy : SqT X.K H b ys) (hx : xs[i]? = some x) (hy : ys[i]? = some y) :
    wpAny (model X.prog X.w) A (pyNext (.ref z)) (fun r s' => ∃ T, r = some (.ref T) ∧ H T = none ∧ Inv X pins σ (L2.upd H T (.tup [x, y])) s' ∧ ZSt (L2.upd H T (.tup [x, y])) s'.heap z TI TO i1 i2 a b (i + 1) ∧ Chain X pins (L2.upd H T (.tup [x, y])) z TI TO i1 i2) E s := by
  obtain ⟨its, rv, p, _⟩ := I.tuple qx
  obtain ⟨its2, rv2, p2, _⟩ := I.tuple qy
  obtain ⟨u, hu, ru⟩ := rv.get hx
  obtain ⟨u2, hu2, ru2⟩ := rv2.get hy
  have fr : H s.heap.objs.size = none := I.hok.fresh (Nat.le_refl _)
  have chain : Chain X pins (L2.upd H s.heap.objs.size (.tup [x, y])) z TI TO i1 i2 := fun c hc =>
    let ⟨o, e⟩ := st.live hc
    FpOk.other (hf c hc) (by rw [upd_ne (Nat.ne_of_lt (Heap.lt_size e))]; exact (hf c hc).1)
  have new : ∀ {h' : Heap}, IsPair h' s.heap.objs.size u u2 → ObjOk X.prog X.w (L2.upd H s.heap.objs.size (.tup [x, y])) h' s.heap.objs.size (.tup [x, y]) := fun hT =>
    ⟨by show 2 ≤ sizeLine; decide, [u, u2], .cons ru (.cons ru2 .nil), ⟨_, hT, rfl, _, rfl⟩⟩
  obtain ⟨v, w, hTO⟩ := st.to
  rcases st.zip with hz | ⟨T, fl, zs, hz, hT⟩
  · refine RZ.pyNext_zipT_item D hz st.ti hTO st.j1 st.j2 p p2 (x := u) (y := u2) (by simpa using hu) (by simpa using hu2) fun h' z' TO' k1 k2 hN _ hk => ?_
    have I1 : Inv X pins σ (L2.upd H s.heap.objs.size (.tup [x, y])) { s with heap := h' } :=
      I.turnedNew (t' := s.toks) (ch := [z, TI, TO, i1, i2]) (fun c o hb e => hk c o (fun e' => hb (by simp [e'])) (fun e' => hb (by simp [e'])) (fun e' => hb (by simp [e'])) (fun e' => hb (by simp [e'])) e) hf (Nat.le_refl _) (new hN)
    exact ⟨_, rfl, fr, I1, ⟨.inr ⟨_, false, _, z', upd_same⟩, hk _ _ D.TIz D.TITO D.TIi1 D.TIi2 st.ti, ⟨_, _, TO'⟩, k1, k2⟩, chain⟩
  · obtain ⟨_, _, _, oT, hoT, _⟩ := I.hok T _ hT
    refine LbZ.heldT_item D hz hoT st.ti st.j1 st.j2 p p2 (x := u) (y := u2) (by simpa using hu) (by simpa using hu2) fun h' z' k1 k2 hN hk => ?_
    have I1 : Inv X pins σ (L2.upd H s.heap.objs.size (.tup [x, y])) { s with heap := h' } :=
      I.turnedNew (t' := s.toks) (ch := [z, TI, TO, i1, i2]) (fun c o hb e => hk c o (fun e' => hb (by simp [e'])) (fun e' => hb (by simp [e'])) (fun e' => hb (by simp [e'])) e) hf (Nat.le_refl _) (new hN)
    exact ⟨_, rfl, fr, I1, ⟨.inr ⟨T, true, zs, z', by rw [upd_ne (ne_of_none hT fr)]; exact hT⟩, hk _ _ D.TIz D.TIi1 D.TIi2 st.ti, ⟨_, _, hk _ _ D.TOz D.TOi1 D.TOi2 hTO⟩, k1, k2⟩, chain⟩
theorem zip_over (hh : A.handled = none) (D : ZipApart z TI TO i1 i2 a b) (I : Inv X pins σ H s) (hf : Chain X pins H z TI TO i1 i2) (st : ZSt H s.heap z TI TO i1 i2 a b i)
    (qx : SqT X.K H a xs) (qy : SqT X.K H b ys) (over : xs.length ≤ i ∨ ys.length ≤ i) :
    wpAny (model X.prog X.w) A (pyNext (.ref z)) (fun r s' => r = none ∧ Inv X pins σ H s') E s := by
  obtain ⟨its, rv, p, _⟩ := I.tuple qx
  obtain ⟨its2, rv2, p2, _⟩ := I.tuple qy
  have l1 := rv.length
  have l2 := rv2.length
  have he : its.toArray[i]? = none ∨ its2.toArray[i]? = none := by
    rcases over with q | q
    · exact .inl (by simp; omega)
    · exact .inr (by simp; omega)
  obtain ⟨v, w, hTO⟩ := st.to
  rcases st.zip with hz | ⟨T, fl, zs, hz, hT⟩
  · exact RZ.pyNext_zipT_end hh D hz st.ti hTO st.j1 st.j2 p p2 he fun h' hk => ⟨rfl, I.turnedL (t' := s.toks) (ch := [z, TI, TO, i1, i2]) (fun c o hb e =>
      hk c o (fun e' => hb (by simp [e'])) (fun e' => hb (by simp [e'])) (fun e' => hb (by simp [e'])) (fun e' => hb (by simp [e'])) e) hf⟩
  · obtain ⟨_, _, _, oT, hoT, _⟩ := I.hok T _ hT
    exact LbZ.heldT_end hh D hz hoT st.ti st.j1 st.j2 p p2 he fun h' hk => ⟨rfl, I.turnedL (t' := s.toks) (ch := [z, TI, TO, i1, i2]) (fun c o hb e =>
      hk c o (fun e' => hb (by simp [e'])) (fun e' => hb (by simp [e'])) (fun e' => hb (by simp [e'])) e) hf⟩
/-- a new pair -/
def PairAt (H : Hp) (T : Addr) (p : V × V) : Prop := H T = some (.tup [p.1, p.2])
theorem zip_loop {Rs : Result → Shared → Prop} {A1 : Around} {H0 : Hp} (hh : A1.in1.handled = none) (D : ZipApart z TI TO i1 i2 a b) (l1 : xs.length ≤ 10000) (qa : a ≠ q) (qb : b ≠ q)
    (hdone : ∀ H' s' ts, Inv X pins σ H' s' → H' q = some (.lst (ts.map V.ref)) → Paired (PairAt H') ts (xs.zip ys) → (∀ c o, c ≠ q → H0 c = some o → H' c = some o) → Rs (.ok (.ret .none)) s') (herr : ∀ e s, X.xe e s → Rs (.error e) s) (qx0 : SqT X.K H0 a xs) (qy0 : SqT X.K H0 b ys) :
    ∀ (m i : Nat) (H : Hp) (s : Shared) (ts : List Addr), min xs.length ys.length - i = m → i ≤ min xs.length ys.length → Inv X pins σ H s → Chain X pins H z TI TO i1 i2 → ZSt H s.heap z TI TO i1 i2 a b i →
      H q = some (.lst (ts.map V.ref)) → Paired (PairAt H) ts ((xs.zip ys).take i) → (∀ c o, c ≠ q → H0 c = some o → H c = some o) →
      codeAny (model X.prog X.w) A1 (.builtin "list.extend.loop" ⟨[.ref q, .ref z, .none], []⟩) Rs s := by
  have sqk : ∀ {H : Hp} {c : Addr} {zs : List V}, c ≠ q → (∀ c o, c ≠ q → H0 c = some o → H c = some o) → SqT X.K H0 c zs → SqT X.K H c zs := fun n k h =>
    h.elim (fun h => .inl (h.elim (fun h => .inl (k _ _ n h)) fun ⟨o, h⟩ => .inr ⟨o, k _ _ n h⟩)) fun h => .inr h
  intro m
  induction m with
  | zero =>
    intro i H s ts hm hi I hf st hq pt kp
    refine codeAny_builtin PySem.F.entry_extend_loop ?_
    rw [Around.under_plainId PySem.F.plain_extend_loop _]
    show wpAny _ A1.in1 (pyNext (.ref z) >>= _) _ _ s
    refine wpAny_bind (wpAny_mono (zip_over hh D I hf st (sqk qa kp qx0) (sqk qb kp qy0) (by omega)) (fun r s' hr => ?_) fun e s' he => herr e s' he)
    obtain ⟨rfl, I'⟩ := hr
    rw [List.take_of_length_le (by rw [List.length_zip]; omega)] at pt
    exact wpAny_pure (hdone H s' ts I' hq pt kp)
  | succ m ih =>
    intro i H s ts hm hi I hf st hq pt kp
    refine codeAny_builtin PySem.F.entry_extend_loop ?_
    rw [Around.under_plainId PySem.F.plain_extend_loop _]
    show wpAny _ A1.in1 (pyNext (.ref z) >>= _) _ _ s
    have h1 : i < xs.length := by omega
    have h2 : i < ys.length := by omega
    have hx := List.getElem?_eq_getElem h1
    have hy := List.getElem?_eq_getElem h2
    refine wpAny_bind (wpAny_mono (zip_turn D I hf st (sqk qa kp qx0) (sqk qb kp qy0) hx hy) (fun r s' hr => ?_) fun e s' he => herr e s' he)
    obtain ⟨T, rfl, hT, I', st', hf'⟩ := hr
    show wpAny _ A1.in1 (updateSeq q (·.push (.ref T)) >>= _) _ _ _
    have hq' : (L2.upd H T (.tup [xs[i], ys[i]])) q = some (.lst (ts.map V.ref)) := by rw [upd_ne (ne_of_none hq hT)]; exact hq
    have ht : ts.length = i := by
      have := Paired.len pt
      rw [List.length_take, List.length_zip] at this
      omega
    obtain ⟨zz, its, k, r2, hl, e⟩ := I'.lstM hq'
    have hl' : its.length = i := by rw [← hl, List.length_map, ht]
    have sl : sizeLine = 16777216 := by decide
    refine wpAny_bind (wpAny_updateSeq e rfl (wpAny_pure ⟨plainId_quiet PySem.F.plain_extend_loop _, ?_⟩) (by rw [List.size_toArray]; omega) (by show (its.toArray.push (.ref T)).size ≤ sizeLine + 1; rw [Array.size_push, List.size_toArray]; omega))
    have I2 := I'.lset (f := (·.push (.ref T))) (its' := its ++ [.ref T]) (ys := (ts ++ [T]).map V.ref) (t' := s'.toks) hq' e (by simp) (by rw [List.map_append]; exact r2.append (.cons rfl .nil)) (by rw [List.length_map, List.length_append]; show ts.length + 1 ≤ _; omega)
    have nc : ∀ c ∈ [z, TI, TO, i1, i2], c ≠ q := fun c hc e' => by
      have := (hf c hc).1
      rw [e', hq] at this
      cases this
    have keep : ∀ c o, c ≠ q → s'.heap.get? c = some o → (s'.heap.update q (Obj.mapSeq (·.push (.ref T)))).get? c = some o := fun c o n e' => (Heap.get?_update_other _ _ (Ne.symm n)).trans e'
    have st2 : ZSt (L2.upd (L2.upd H T (.tup [xs[i], ys[i]])) q (.lst ((ts ++ [T]).map V.ref))) (s'.heap.update q (Obj.mapSeq (·.push (.ref T)))) z TI TO i1 i2 a b (i + 1) := by
      refine ⟨?_, keep _ _ (nc TI (by simp)) st'.ti, let ⟨v, w, e'⟩ := st'.to; ⟨v, w, keep _ _ (nc TO (by simp)) e'⟩, st'.j1.at fun o e' => keep _ _ (nc i1 (by simp)) e', st'.j2.at fun o e' => keep _ _ (nc i2 (by simp)) e'⟩
      rcases st'.zip with hz | ⟨T1, fl, zs, hz, h1'⟩
      · exact .inl (keep _ _ (nc z (by simp)) hz)
      · refine .inr ⟨T1, fl, zs, keep _ _ (nc z (by simp)) hz, ?_⟩
        have : T1 ≠ q := fun e' => by
          rw [e', hq'] at h1'
          cases h1'
        rw [upd_ne this]
        exact h1'
    have up2 : ∀ c o, c ≠ q → H c = some o → (L2.upd (L2.upd H T (.tup [xs[i], ys[i]])) q (.lst ((ts ++ [T]).map V.ref))) c = some o := fun c o n e' => by
      rw [upd_ne n, upd_ne (ne_of_none e' hT)]
      exact e'
    have nT : T ≠ q := fun e' => by
      rw [e', hq] at hT
      cases hT
    refine ih (i + 1) _ _ (ts ++ [T]) (by omega) (by omega) I2 (fun c hc => FpOk.other (hf' c hc) (by rw [upd_ne (nc c hc)]; exact (hf' c hc).1)) st2 upd_same ?_ (fun c o n e' => up2 c o n (kp c o n e'))
    have hz : (xs.zip ys)[i]? = some (xs[i], ys[i]) := by
      rw [List.getElem?_zip_eq_some]
      exact ⟨hx, hy⟩
    rw [List.take_succ, hz]
    refine Paired.snoc (F := PairAt _) ?_ (Paired.imp pt fun t p h => up2 _ _ (fun e' => ?_) h)
    · show (L2.upd (L2.upd H T (.tup [xs[i], ys[i]])) q (.lst ((ts ++ [T]).map V.ref))) T = _
      rw [upd_ne nT, upd_same]
    · have h : H t = some (.tup [p.1, p.2]) := h
      rw [e', hq] at h
      cases h
/-- list(zip(a, b)) of two tuples -/
def tListZip (K : PySem.W.Frag) (ta : TA) : TE := fun σ H Q => ta σ H fun vs H1 => ∃ a b xs ys, vs = [.ref a, .ref b] ∧ SqT K H1 a xs ∧ SqT K H1 b ys ∧ xs.length ≤ 10000 ∧
  ∀ H' q ts, L2.Same H1 H' → H1 q = none → H' q = some (.lst (ts.map V.ref)) → Paired (PairAt H') ts (xs.zip ys) → Q (.ref q) H'
theorem call_zip_it {Q : VK} (hh : X.A.handled = none) (D : ZipApart z TI TO i1 i2 a b) (l1 : xs.length ≤ 10000) (I : Inv X pins σ H s) (hf : Chain X pins H z TI TO i1 i2) (hz0 : IsZip s.heap z TI TO .none) (st : ZSt H s.heap z TI TO i1 i2 a b 0)
    (qx : SqT X.K H a xs) (qy : SqT X.K H b ys) (go : ∀ H' q ts, L2.Same H H' → H q = none → H' q = some (.lst (ts.map V.ref)) → Paired (PairAt H') ts (xs.zip ys) → Q (.ref q) H') :
    wpAny (model X.prog X.w) X.A (call (.type "list") [.ref z]) (EP X pins σ Q) X.xe s := by
  refine callType_codes (Q₁ := fun obj s₁ => obj = .ref s.heap.objs.size ∧ s₁ = { s with heap := s.heap.push { cls := .type "list", data := .seq #[] } }) PySem.F.called_list (PySem.F.typeCall_list_1 _) PySem.F.entry_list_init
    (code_list_new _ ⟨rfl, rfl⟩) fun obj s₁ h₁ => ?_
  obtain ⟨rfl, rfl⟩ := h₁
  have hS : (s.heap.push { cls := .type "list", data := .seq #[] }).get? s.heap.objs.size = some { cls := .type "list", data := .seq #[] } := Heap.get?_push_size _ rfl
  refine ⟨⟨_, hS, rfl⟩, PySem.F.args_list_init_2 _ _, ?_⟩
  have fr : H s.heap.objs.size = none := I.hok.fresh (Nat.le_refl _)
  have ns : ∀ c ∈ [z, TI, TO, i1, i2], c ≠ s.heap.objs.size := fun c hc => let ⟨o, e⟩ := st.live hc; Nat.ne_of_lt (Heap.lt_size e)
  have la : a ≠ s.heap.objs.size ∧ b ≠ s.heap.objs.size := by
    obtain ⟨its, rv, ⟨o, e, _⟩, _⟩ := I.tuple qx
    obtain ⟨its2, rv2, ⟨o2, e2, _⟩, _⟩ := I.tuple qy
    exact ⟨Nat.ne_of_lt (Heap.lt_size e), Nat.ne_of_lt (Heap.lt_size e2)⟩
  have I1 : Inv X pins σ (L2.upd H s.heap.objs.size (.lst [])) { s with heap := s.heap.push { cls := .type "list", data := .seq #[] } } := I.lnew (its := []) (t' := s.toks) .nil (Nat.zero_le _)
  generalize hq : s.heap.objs.size = q at *
  show wpAny _ _ (do let old ← Builtin.List.listItems (.ref q); Builtin.List.listUpdate (.ref q) (fun _ => #[]); letGo old.toList.reverse; Builtin.List.listExtendWith (.ref q) (.ref z) .none) _ _ _
  refine wpAny_bind ?_
  unfold Builtin.List.listItems
  refine wpAny_bind (wpAny_seqItems hS rfl (wpAny_pure ?_))
  show wpAny _ _ (updateSeq q (fun _ => #[]) >>= fun _ => letGo (#[] : Array Value).toList.reverse >>= fun _ => Builtin.List.listExtendWith (.ref q) (.ref z) .none) _ _ _
  refine wpAny_bind (wpAny_updateSeq hS rfl ?_)
  have I2 := I1.lset (f := fun _ => #[]) (its := []) (its' := []) (ys := []) (t' := s.toks) upd_same hS rfl .nil (Nat.zero_le _)
  rw [upd_upd] at I2
  refine wpAny_bind (wpAny_letGo ?_)
  have nz : z ≠ q := ns z (by simp)
  unfold Builtin.List.listExtendWith
  have keep2 : ∀ c o, c ≠ q → s.heap.get? c = some o → ((s.heap.push { cls := .type "list", data := .seq #[] }).update q (Obj.mapSeq fun _ => #[])).get? c = some o := fun c o n e => (Heap.get?_update_other _ _ (Ne.symm n)).trans (Heap.get?_push_of_some _ e)
  have zty : Shared.TypeIs { s with heap := (s.heap.push { cls := .type "list", data := .seq #[] }).update q (Obj.mapSeq fun _ => #[]) } (.ref z) "zip" := ⟨_, keep2 _ _ nz hz0, rfl⟩
  refine wpAny_bind (wpAny_typeOf zty ?_)
  have g1 : Builtin.List.listSameRef (.ref q) (.ref z) = false := by simp [Builtin.List.listSameRef, nz.symm]
  have g2 : (Value.type "zip" == Value.type "list") = false := by decide
  have g3 : (Value.type "zip" == Value.type "tuple") = false := by decide
  simp only [g1, g2, g3, Bool.or_false, Bool.false_eq_true, if_false]
  refine wpAny_bind (wpAny_pyIter_zip (keep2 _ _ nz hz0) ?_)
  refine wpAny_bind (wpAny_holding ?_)
  unfold Builtin.List.listLengthHint
  refine wpAny_bind (wpAny_specialOf zty LbZ.zip_no_len ?_)
  show wpAny _ _ (specialOf (Value.ref z) (Str.ofString "__length_hint__") >>= _) _ _ _
  refine wpAny_bind (wpAny_specialOf zty LbZ.zip_no_hint (wpAny_pure ?_))
  obtain ⟨_, its3, k3, r3, _, e3⟩ := I2.lstM upd_same
  cases r3
  show wpAny _ _ (rule "list.extend.makes-room" >>= fun _ => Builtin.List.listTouch (.ref q) >>= fun _ => again (.builtin "list.extend.loop" ⟨[.ref q, .ref z, .none], []⟩)) _ _ _
  refine wpAny_bind (wpAny_rule (wpAny_bind ?_))
  show wpAny _ _ (updateSeq q (·.push .none) >>= fun _ => updateSeq q (·.pop)) _ _ _
  refine wpAny_bind (wpAny_updateSeq e3 rfl ?_)
  have I3 := I2.lset (f := (·.push Value.none)) (its' := [Value.none]) (ys := [.non]) (t' := s.toks) upd_same e3 (by simp) (.cons rfl .nil) (by decide)
  obtain ⟨_, its4, k4, r4, _, e4⟩ := I3.lstM upd_same
  obtain ⟨u4, rfl, _⟩ := r4.one
  refine wpAny_updateSeq e4 rfl ?_ (by show 1 ≤ sizeLine; decide) (by show 0 ≤ sizeLine + 1; exact Nat.zero_le _)
  have I4 := I3.lset (f := (·.pop)) (its := [u4]) (its' := []) (ys := []) (t' := s.toks) upd_same e4 (by rfl) .nil (Nat.zero_le _)
  rw [upd_upd, upd_upd] at I4
  have keep4 : ∀ c o, c ≠ q → s.heap.get? c = some o → ((((s.heap.push { cls := .type "list", data := .seq #[] }).update q (Obj.mapSeq fun _ => #[])).update q (Obj.mapSeq (·.push Value.none))).update q (Obj.mapSeq (·.pop))).get? c = some o := fun c o n e =>
    (Heap.get?_update_other _ _ (Ne.symm n)).trans ((Heap.get?_update_other _ _ (Ne.symm n)).trans (keep2 c o n e))
  have st4 : ZSt (L2.upd H q (.lst [])) ((((s.heap.push { cls := .type "list", data := .seq #[] }).update q (Obj.mapSeq fun _ => #[])).update q (Obj.mapSeq (·.push Value.none))).update q (Obj.mapSeq (·.pop))) z TI TO i1 i2 a b 0 :=
    ⟨.inl (keep4 _ _ nz hz0), keep4 _ _ (ns TI (by simp)) st.ti, let ⟨v, w, e⟩ := st.to; ⟨v, w, keep4 _ _ (ns TO (by simp)) e⟩, st.j1.at fun o e => keep4 _ _ (ns i1 (by simp)) e, st.j2.at fun o e => keep4 _ _ (ns i2 (by simp)) e⟩
  have S0 : L2.Same H (L2.upd H q (.lst [])) := Lb.Same.upd fr
  refine wpAny_pure ⟨plainId_quiet PySem.F.plain_extend_loop _, zip_loop (q := q) (H0 := L2.upd H q (.lst [])) (A1 := X.A.in1) (Rs := wants (fun r s₂ => r = .none ∧ EP X pins σ Q (.ref q) s₂) X.xe) hh D l1 la.1 la.2 ?_ (fun e s' he => he) (SqT.same S0 qx) (SqT.same S0 qy) _ 0 _ _ [] rfl (Nat.zero_le _) I4
    (fun c hc => FpOk.other (hf c hc) (by rw [upd_ne (ns c hc)]; exact (hf c hc).1)) st4 upd_same ?_ (fun c o n e => e)⟩
  · intro H' s' ts I' e pt kp
    exact ⟨rfl, .ref q, H', I', rfl, go H' q ts (fun c o e' => kp c o (ne_of_none e' fr) (by rw [upd_ne (ne_of_none e' fr)]; exact e')) fr e pt⟩
  · rw [List.take_zero]
    exact .nil
theorem pe_listZip {e e2 : Expr} {ta : TA} {p p2 pos pos2 : Pos} (hcalm : X.calm = true) (hg : Gl X "list") (hm : X.mg "list" = none) (hg2 : Gl X "zip") (hm2 : X.mg "zip" = none) (ha : PA X [e, e2] ta)
    (hs : starEach [e, e2] X.env = (false, eval e X.env) :: starEach [e2] X.env := by rfl) (hpl : (backTo pos2 (starEach [e2] X.env)).any (·.1) = false := by rfl)
    (hs2 : starEach [.Call (.Name "zip" p2) [e, e2] [] pos2] X.env = (false, eval (.Call (.Name "zip" p2) [e, e2] [] pos2) X.env) :: starEach [] X.env := by rfl) :
    PE X (.Call (.Name "list" p) [.Call (.Name "zip" p2) [e, e2] [] pos2] [] pos) (tListZip X.K ta) := by
  refine ⟨fun pins s σ H Q I h => ?_⟩
  refine wpAny_Call_Name_kw (ld_blt I hg hm (by decide +kernel : bootBuiltins "list" = some (.type "list")) ?_)
  refine PyProof.Rows.callWith_type1 ?_ hs2 rfl
  rw [hs2]
  refine Calls.spliced_cons ?_
  refine wpAny_Call_Name_kw (ld_blt I hg2 hm2 PyProof.Rows.boot_zip ?_)
  refine PyProof.Rows.callWith_type1 (thn (ha.run pos2 pins s σ H _ I h) fun us s1 ⟨vs, H1, I1, r1, q1⟩ => ?_) hs hpl
  obtain ⟨a, b, xs, ys, rfl, qx, qy, l1, go⟩ := q1
  cases r1 with
  | cons r rr =>
    cases rr with
    | cons r' rr =>
      cases rr
      cases r
      cases r'
      obtain ⟨its, rv, p1, _⟩ := I1.tuple qx
      obtain ⟨its2, rv2, p2, _⟩ := I1.tuple qy
      obtain ⟨o1, ho1, _⟩ := id p1
      obtain ⟨o2, ho2, _⟩ := id p2
      refine RZ.call_zipT (xs := its.toArray) (ys := its2.toArray) p1 p2 fun h' hz hTI hTO k1 k2 _ hk => ?_
      have I2 : Inv X pins σ H1 { s1 with heap := h' } := I1.kept (t' := s1.toks) hk
      have chain : Chain X pins H1 (s1.heap.objs.size + 4) (s1.heap.objs.size + 2) (s1.heap.objs.size + 3) s1.heap.objs.size (s1.heap.objs.size + 1) := fun c hc => by
        have hle : s1.heap.objs.size ≤ c := by
          simp only [List.mem_cons, List.not_mem_nil, or_false] at hc
          rcases hc with h | h | h | h | h <;> (rw [h]; first | exact Nat.le_add_right _ _ | exact Nat.le_refl _)
        exact I1.fpOk hle (I1.hok.fresh hle)
      show wpAny _ _ (pure []) _ _ _
      refine wpAny_pure ?_
      exact call_zip_it (I1.ok.hd hcalm) (PySem.W.ktu_apart s1.heap.objs.size a b (Heap.lt_size ho1) (Heap.lt_size ho2)) l1 I2 chain hz ⟨.inl hz, hTI, ⟨_, _, hTO⟩, k1, k2⟩ qx qy go
end
end Lb

set_option Elab.async false
set_option linter.all false
set_option maxRecDepth 100000
set_option maxHeartbeats 4000000
namespace Lb
open PySem PySem.Spec PyProof.Rows L2
/-- a thing is equal to itself -/
def ReflB (D : EqvB) : Prop := ∀ x H c, D x x H c → c = true
def DTupH (D : EqvB) : EqvB := fun x y H c => ∃ a b xs ys e, x = .ref a ∧ y = .ref b ∧ H a = some (.tup xs) ∧ H b = some (.tup ys) ∧ PrsB D xs ys H e ∧ c = (List.range xs.length).all e
section
variable {X : Cx} {n : Nat} {D : EqvB}
theorem RcGB.imp {D' : EqvB} (h : RcGB X n D) (k : ∀ x y H c, D' x y H c → D x y H c) : RcGB X n D' := fun A pins s σ H x y u v c sb I rx ry d => h A pins s σ H x y u v c sb I rx ry (k _ _ _ _ d)
theorem rcGB_tupH (hD : MonB D) (h : EqGB X n D) : RcGB X (n + 1) (DTupH D) :=
  (rcGB_tup hD h).imp fun _ _ _ _ ⟨a, b, xs, ys, e, h1, h2, h3, h4, h5, h6⟩ => ⟨a, b, xs, ys, e, h1, h2, SqT.of h3, SqT.of h4, h5, h6⟩
theorem mon_tupH (hD : MonB D) : MonB (DTupH D) := fun x y H H' c e d => by
  obtain ⟨a, b, xs, ys, f, hx, hy, h1, h2, p, q⟩ := d
  exact ⟨a, b, xs, ys, f, hx, hy, e _ _ h1, e _ _ h2, p.mon hD e, q⟩
theorem prs_refl (hD : ReflB D) {xs : List V} {H : Hp} {e : Nat → Bool} (p : PrsB D xs xs H e) : (List.range xs.length).all e = true := by
  rw [List.all_eq_true]
  intro i hi
  have hi := List.mem_range.mp hi
  have hx := List.getElem?_eq_getElem hi
  exact hD _ _ _ (p.at_ i _ _ hx hx)
theorem refl_tupH (hD : ReflB D) : ReflB (DTupH D) := by
  rintro x H c ⟨a, b, xs, ys, e, h1, h2, h3, h4, p, rfl⟩
  rw [h1] at h2
  cases h2
  rw [h3] at h4
  cases h4
  exact prs_refl hD p
theorem refl_list (hD : ReflB D) : ReflB (DListB D) := by
  rintro x H c ⟨a, b, xs, ys, h1, h2, h3, h4, p⟩
  rw [h1] at h2
  cases h2
  rw [h3] at h4
  cases h4
  rcases p with ⟨h, _⟩ | ⟨e, p, rfl⟩
  · exact absurd rfl h
  · exact prs_refl hD p
theorem eqGB_tupH (hD : MonB D) (hR : ReflB D) (h : EqGB X n D) : EqGB X (n + 1) (DTupH D) :=
  (rcGB_tupH hD h).eqG fun x y H c d => by
    obtain ⟨a, b, xs, ys, e, h1, h2, h3, h4, p, h5⟩ := id d
    refine ⟨a, b, h1, h2, fun q => ?_⟩
    subst q
    rw [← h2] at h1
    subst h1
    exact refl_tupH hR _ _ _ d
theorem eqGB_list (hD : MonB D) (hR : ReflB D) (h : EqGB X n D) : EqGB X (n + 1) (DListB D) :=
  (rcGB_list hD h).eqG fun x y H c d => by
    obtain ⟨a, b, xs, ys, h1, h2, h3, h4, p⟩ := id d
    refine ⟨a, b, h1, h2, fun q => ?_⟩
    subst q
    rw [← h2] at h1
    subst h1
    exact refl_list hR _ _ _ d
end
/-- item by item, by a decidable equality -/
theorem all_range_eq {α : Type} [DecidableEq α] (d : α) : ∀ {xs ys : List α}, xs.length = ys.length → (List.range xs.length).all (fun i => decide (xs.getD i d = ys.getD i d)) = decide (xs = ys) := by
  intro xs ys h
  rw [Bool.eq_iff_iff, List.all_eq_true, decide_eq_true_eq]
  constructor
  · intro k
    refine List.ext_getElem h fun i h1 h2 => ?_
    have := of_decide_eq_true (k i (List.mem_range.mpr h1))
    rw [List.getD_eq_getElem?_getD, List.getD_eq_getElem?_getD, List.getElem?_eq_getElem h1, List.getElem?_eq_getElem h2] at this
    exact this
  · rintro rfl i _
    exact decide_eq_true rfl
theorem atI_last2 {α : Type} {xs : List α} {j : Nat} (h : xs.length = j + 2) : atI xs (-2) = xs[j]? := by
  unfold atI ixN
  rw [if_neg (by decide), if_pos (by omega)]
  show xs[(_ : Int).toNat]? = _
  congr 1
  omega
end Lb

set_option Elab.async false
set_option linter.all false
set_option maxRecDepth 100000
set_option maxHeartbeats 4000000
namespace Lb
open PySem PySem.Spec PyProof.Rows L2
section
variable {X : Cx} {K : PySem.W.Frag}
theorem pg_lstK {pos : Pos} {es : List Expr} {k : Nat} {t : TGs} {n : Nat} (hK : X.K = K) (hc : X.calm = true) (h : PGs X es t)
    (hn : (assignEach es X.env).length = n := by rfl) (hst : (assignEach es X.env).findIdx? (·.1) = none := by rfl) : PG X (.Tuple es k pos) (gLst K n t) := by subst hK; exact pg_lst hc h hn hst
theorem pi_zipAK {e e2 : Expr} {ta : TA} {p pos tpos : Pos} {elts : List Expr} {kk : Nat} (hK : X.K = K) (hg : Gl X "zip") (hm : X.mg "zip" = none) (ha : PA X [e, e2] ta)
    (hs : starEach [e, e2] X.env = (false, eval e X.env) :: starEach [e2] X.env := by rfl) (hpl : (backTo pos (starEach [e2] X.env)).any (·.1) = false := by rfl) :
    PI X (.Tuple elts kk tpos) (.Call (.Name "zip" p) [e, e2] [] pos) (RZ.iZipA K ta) := by subst hK; exact RZ.pi_zipA hg hm ha hs hpl
end
theorem walk_zipT {K : PySem.W.Frag} {a b : Addr} {xs ys : List V} {n : Nat} (hn : n = min xs.length ys.length) : Walk (RZ.ItzT K a b) n (fun H => SqT K H a xs ∧ SqT K H b ys) (YPair (fun i => xs[i]?) (fun i => ys[i]?)) := by
  subst hn
  refine ⟨fun i _ hi q => ?_, fun _ q => ⟨xs, ys, q.1, q.2, by omega⟩, fun i H v H' _ q y => ?_⟩
  · have h1 : i < xs.length := by omega
    have h2 : i < ys.length := by omega
    exact ⟨xs, ys, xs[i], ys[i], q.1, q.2, by simp [h1], by simp [h2]⟩
  · obtain ⟨T, x, z, h1, h2, h3, h4, h5⟩ := y
    exact ⟨T, x, z, h1, h2, h3, h4 xs q.1, h5 ys q.2⟩
/-! data of whole numbers -/
def q2D (x : Q2) : PyData := .tuple [.int x.1, .int x.2]
def ptD (z : Q2 × Q2) : PyData := .tuple [q2D z.1, q2D z.2]
theorem eqv_q2 (x y : Q2) : PyData.eqv (q2D x) (q2D y) = decide (x = y) := by
  unfold q2D
  simp only [PyData.eqv, PyData.eqvAll, Bool.and_true]
  rw [Bool.eq_iff_iff]
  simp [Prod.ext_iff]
theorem eqv_pt (x y : Q2 × Q2) : PyData.eqv (ptD x) (ptD y) = decide (x = y) := by
  unfold ptD
  simp only [PyData.eqv, PyData.eqvAll, Bool.and_true, eqv_q2]
  rw [Bool.eq_iff_iff]
  simp [Prod.ext_iff]
theorem eqvAll_map {α : Type} [DecidableEq α] {f : α → PyData} (h : ∀ x y, PyData.eqv (f x) (f y) = decide (x = y)) : ∀ xs ys : List α, PyData.eqvAll (xs.map f) (ys.map f) = decide (xs = ys)
  | [], [] => by simp [PyData.eqvAll]
  | [], _ :: _ => by simp [PyData.eqvAll]
  | _ :: _, [] => by simp [PyData.eqvAll]
  | x :: xs, y :: ys => by
    simp only [List.map_cons, PyData.eqvAll, h, eqvAll_map h xs ys]
    rw [Bool.eq_iff_iff]
    simp
theorem eqv_list {α : Type} [DecidableEq α] {f : α → PyData} (h : ∀ x y, PyData.eqv (f x) (f y) = decide (x = y)) (xs ys : List α) : PyData.eqv (.list (xs.map f)) (.list (ys.map f)) = decide (xs = ys) := by
  simp only [PyData.eqv]
  exact eqvAll_map h xs ys
theorem lay_q2 (x : Q2) : PyData.canLay0 (q2D x) = true := by simp [q2D, PyData.canLay0, PyData.canLayAll0]
theorem lay_pt (z : Q2 × Q2) : PyData.canLay0 (ptD z) = true := by simp [ptD, PyData.canLay0, PyData.canLayAll0, lay_q2]
theorem dep_q2 (x : Q2) : PyData.depth (q2D x) = 1 := by simp [q2D, PyData.depth, PyData.depthAll]
theorem dep_pt (z : Q2 × Q2) : PyData.depth (ptD z) = 2 := by simp [ptD, PyData.depth, PyData.depthAll, dep_q2]
theorem lay_map {α : Type} {f : α → PyData} (h : ∀ x, PyData.canLay0 (f x) = true) : ∀ xs : List α, PyData.canLayAll0 (xs.map f) = true
  | [] => by simp [PyData.canLayAll0]
  | x :: xs => by simp [PyData.canLayAll0, h, lay_map h xs]
theorem dep_map {α : Type} {f : α → PyData} {k : Nat} (h : ∀ x, PyData.depth (f x) ≤ k) : ∀ xs : List α, PyData.depthAll (xs.map f) ≤ k
  | [] => by simp [PyData.depthAll]
  | x :: xs => by
    have h1 := h x
    have h2 := dep_map h xs
    simp only [List.map_cons, PyData.depthAll]
    omega
theorem shaped_of {d : PyData} (h : PyData.canLay0 d = true) (k : PyData.depth d ≤ 60) : SeqAt.shaped d = true := by
  unfold SeqAt.shaped
  rw [h, decide_eq_true (by omega)]
  rfl
theorem lay_list {α : Type} {f : α → PyData} (h : ∀ x, PyData.canLay0 (f x) = true) (xs : List α) : PyData.canLay0 (.list (xs.map f)) = true := by
  simp only [PyData.canLay0]
  exact lay_map h xs
theorem dep_list {α : Type} {f : α → PyData} {k : Nat} (h : ∀ x, PyData.depth (f x) ≤ k) (xs : List α) : PyData.depth (.list (xs.map f)) ≤ k + 1 := by
  simp only [PyData.depth]
  have := dep_map h xs
  omega
theorem rd_lt {t t' b : Int} (hb : 0 < b) (h : t < t') : val (rd t b) < val (rd t' b) := by
  rw [val_rd (by omega), val_rd (by omega), Rat.div_def, Rat.div_def]
  exact Rat.mul_lt_mul_of_pos_right (Rat.intCast_lt_intCast.mpr h) (Rat.inv_pos.mpr (pos_cast hb))
theorem rd_zero {b : Int} (hb : 0 < b) : rd 0 b = (0, 1) := by
  have h1 : Low (b.natAbs + 1) (rd 0 b) := rd_low (by omega) (show (0 : Nat) < _ from Nat.pow_pos (by decide)) (show b.natAbs < _ from Nat.lt_of_lt_of_le Nat.lt_two_pow_self (Nat.pow_le_pow_right (by decide) (Nat.le_succ _)))
  refine val_inj (m := 1) h1 ⟨by unfold Bd; decide, by unfold Bd; decide, by decide, by decide⟩ ?_
  rw [val_rd (by omega), val_zero, Rat.intCast_zero]
  grind
end Lb

set_option Elab.async false
set_option linter.all false
/-! a comprehension within one; tuple(list) within one -/
namespace Lb
open PySem L2
theorem blkOk_any {N : List Str} {sc scope : Scope} {own : List (Str × Nat)} (h : blkC N { kind := .function, names := [], isGenerator := false, isCoroutine := false } scope own = true) : BlkOk N sc scope own :=
  let b := blkOk_by h
  ⟨b.kind, b.uniq, b.ix, fun y hy e => (b.free y hy e).elim (fun q => nomatch q) (fun q => nomatch q), b.own⟩
section
variable {X : Cx} {K : PySem.W.Frag}
theorem call_tuple_ofK (hK : X.K = K) : CallR X (.type "tuple") (fun xs H Q => ∃ p ys, xs = [.ref p] ∧ ((SqL K H p ys ∧ ∀ l, H l = none → Q (.ref l) (upd H l (.tup ys))) ∨ (SqT K H p ys ∧ Q (.ref p) H))) := by subst hK; exact call_tuple_of
end
theorem kit_two {K : PySem.W.Frag} {A C : Addr} (h1 : PySem.W.isClsIn K C = true) (h2 : PySem.W.typeIn K (.ref C) = some (.type "type")) (h3 : PySem.W.subIn K (.ref A) (.ref C) = some false) (h4 : PySem.W.subIn K (.ref C) (.ref C) = some true) :
    PySem.W.kitOne K (.ref A) (.ref C) = some false ∧ PySem.W.notFirst K C (.ref A) = true := by
  have ne : (Value.ref A == Value.ref C) = false := Bool.eq_false_iff.mpr fun q => by
    have e := beq_iff_eq.mp q
    cases e
    rw [h3] at h4
    cases h4
  constructor
  · unfold PySem.W.kitOne
    rw [ne, if_neg (by decide)]
    unfold PySem.W.kitCls
    have h1' : (PySem.W.clsIn K C).isSome = true := h1
    dsimp only
    rw [h1', h2]
    rw [if_pos (by simp)]
    exact h3
  · unfold PySem.W.notFirst
    rw [h3]
    simp
end Lb

set_option Elab.async false
set_option linter.all false
set_option maxRecDepth 100000
set_option maxHeartbeats 2000000
/-! own exceptions with an own __init__ that keeps one value: made, raised -/
namespace Lb
open PySem L2
/-- the class and its __init__ -/
structure Exq (K : PySem.W.Frag) (mg : Str → Option Value) (x : Str) (C f : Addr) : Prop where
  mC : mg x = some (.ref C)
  ox : OexC K C
  xf : XfC K C
  iC : PySem.W.findIn K (.ref C) "__init__" = some (some (.ref f))
  tI : PySem.W.typeIn K (.ref f) = some (.type "function")
  te : PySem.W.exmOne K (.ref C) (.ref C) = some true
/-- __init__(self, value): self.f = value -/
def sp_exq (K : PySem.W.Frag) (C : Addr) (f : Str) : Sp := fun vs H Q _ => ∃ (q : Addr) (y : V), vs = [.ref q, y] ∧ H q = some (exo q C none) ∧
  ∀ dx, H dx = none → dx ≠ q → Q .non (upd (upd H dx (exd dx [(f, y)])) q (exo q C (some dx)))
/-- what is known behind such a raise -/
theorem exq_way {H : Hp} {q C : Addr} {f : Str} {y : V} {Q : XK} (hq : H q = none) (k : ∀ H' d, Same H H' → H d = none → H' d = some (.xd [(f, y)]) → Q (.ref C) (some d) H') :
    ∀ dx, (upd H q (exo q C none)) dx = none → dx ≠ q → ∃ (d : Addr) (fs : List (Str × V)), (upd (upd (upd H q (exo q C none)) dx (exd dx [(f, y)])) q (exo q C (some dx))) q = some (exo q C (some d)) ∧
      (upd (upd (upd H q (exo q C none)) dx (exd dx [(f, y)])) q (exo q C (some dx))) d = some (exd d fs) ∧ H d = none ∧ Q (.ref C) (some d) (upd (del (upd (upd (upd H q (exo q C none)) dx (exd dx [(f, y)])) q (exo q C (some dx))) q) d (.xd fs)) := by
  intro dx hdx ne
  have hd : H dx = none := by rw [upd_ne ne] at hdx; exact hdx
  refine ⟨dx, [(f, y)], upd_same, by rw [upd_ne ne, upd_same], hd, k _ dx (fun b o e => ?_) hd upd_same⟩
  have bq : b ≠ q := ne_of_none e hq
  have bd : b ≠ dx := ne_of_none e hd
  rw [upd_ne bd, del_ne bq, upd_ne bq, upd_ne bd, upd_ne bq]
  exact e
/-- a def that may raise, called where nothing is raised -/
theorem passF {X : Cx} : Passes (L2.CX X.prog X.w) X E0 := fun _ _ _ _ _ _ _ h => by
  obtain ⟨_, _, _, _, _, _, _, _, _, _, _, _, h⟩ := h
  exact h.elim
end Lb

set_option Elab.async false
set_option linter.all false
set_option maxRecDepth 100000
set_option maxHeartbeats 4000000
/-! own exceptions below an own class over ArithmeticError, whose own __init__ keeps values: made, raised, their fields set -/
namespace Lb
open PySem L2
abbrev arTail : List Value := [.type "ArithmeticError", .type "Exception", .type "BaseException", .type "object"]
/-- what the written part says of such a class: one own class stands above it -/
structure OexA (K : PySem.W.Frag) (C : Addr) : Prop where
  cls : ∃ nm q N bs L sn sub ab col dd k0 k1 k2 k3 k5, K.lookup C = some (excClassObj nm q C N bs (.ref L :: arTail) true sn sub ab col dd k0 k1 k2 k3 k5 "ArithmeticError.__new__")
  sa : PySem.W.findIn K (.ref C) "__setattr__" = some (some (.builtin "object.__setattr__"))
  exC : PySem.W.subIn K (.ref C) (.type "BaseException") = some true
  tyC : PySem.W.typeIn K (.ref C) = some (.type "type")
  kC : PySem.W.keepIn K (.ref C) = true
/-- the class and its __init__ -/
structure ExqA (K : PySem.W.Frag) (mg : Str → Option Value) (x : Str) (C f : Addr) : Prop where
  mC : mg x = some (.ref C)
  ox : OexA K C
  xf : XfC K C
  iC : PySem.W.findIn K (.ref C) "__init__" = some (some (.ref f))
  tI : PySem.W.typeIn K (.ref f) = some (.type "function")
  te : PySem.W.exmOne K (.ref C) (.ref C) = some true
theorem ar_con (L : Addr) (Y : String) : (Value.ref L :: arTail).contains (.type Y) = arTail.contains (.type Y) := by
  rw [List.contains_cons]
  rfl
section
open Builtin Builtin.ObjectAttr
variable {prog : Program} {w : World} {A : Around} {E : Value → Shared → Prop} {R : Result → Shared → Prop} {hp : Heap} {g : Array GenState} {d : Drawn} {t : Nat} {os : OsState}
/-- as far as the store into the own dict -/
theorem ar_store {K : PySem.W.Frag} {name : Str} {tk : Tok} {v : Value} {x C L : Addr} {ox : Obj} {od : Option Obj} {cd : ClassData}
    (X : K.In hp) (I : PySem.W.InstAt hp x ox C od) (hcd : PySem.W.clsIn K C = some cd) (hm : cd.mro = .ref C :: .ref L :: arTail) (ha : PySem.W.findIn K (.ref C) name = some none)
    (hq : wpAny (model prog w) A.in1 (storeInOwnDict (.ref x) (.ref C) (.str name tk) name v false)
      (fun fin s' => match fin with | .done f => R (.ok f) s' | .again c' => c'.quiet = true ∧ codeAny (model prog w) A c' R s') (fun e s' => R (.error e) s') ⟨hp, g, d, t, os⟩) :
    codeAny (model prog w) A (.call (.builtin "object.__setattr__") ⟨[.ref x, .str name tk, v], []⟩) R ⟨hp, g, d, t, os⟩ := by
  have SF := F.store_object
  have hob : PySem.W.mroIn K C (.type "object") = some true := by
    unfold PySem.W.mroIn
    rw [hcd, Option.bind_some, hm, if_neg (show ¬ (List.isEmpty (Value.ref C :: .ref L :: arTail) = true) from Bool.false_ne_true), List.contains_cons, ar_con]
    exact congrArg some ((congrArg (_ || ·) (show arTail.contains (.type "object") = true by decide +kernel)).trans (Bool.or_true _))
  have sub : PySem.W.Looks (model prog w) hp (isInstance (.ref x) (.type "object")) true := I.type.andThen (PySem.W.looks_mroIn X hob)
  have hmr : PySem.W.Looks (model prog w) hp (mroOf (.ref C)) cd.mro := (PySem.W.looks_clsIn X hcd).andThen .now
  have L3 : PySem.W.Looks (model prog w) hp (storeTaker? none) none := .now
  have hpass : refuseLoop (.ref x) "__setattr__" cd.mro = pure () := by
    rw [hm, refuseLoop_ref, refuseLoop_ref]
    exact F.store_ArithmeticError.passes _
  refine codeAny_call_builtin SF.slot.plain SF.entry (@PySem.W.check_slot (model prog w) _ _ ⟨hp, g, d, t, os⟩ "object.__setattr__" "object" "__setattr__" (.ref x) [.str name tk, v] [] _ SF.kind SF.split sub (SF.args (.ref x) (.str name tk) v) ?_)
  rw [PySem.W.osa_eq, refuse_eq]
  refine wpAny_bind (wpAny_bind (I.type.at (wpAny_bind (hmr.at ?_))))
  rw [hpass]
  exact wpAny_pure (wpAny_bind (I.type.at (wpAny_bind ((PySem.W.looks_findIn X ha).at (wpAny_bind (L3.at hq))))))
end
section
variable {X : Cx} {pins : List (Addr × Obj)} {σ : L2.St} {H : Hp} {s : Shared} {a C dx : Addr} {f : Str} {y : V} {u : Value} {fs : List (Str × V)} {Q : Unit → Shared → Prop} {E : Value → Shared → Prop} {A : Around}
theorem ar_new (T : OexA X.K C) (I : Inv X pins σ H s) (e : H a = some (exo a C none)) (hno : PySem.W.findIn X.K (.ref C) f = some none) (ry : RelV y u)
    (h : ∀ dx s', H dx = none → dx ≠ a → Inv X pins σ (upd (upd H dx (exd dx [(f, y)])) a (exo a C (some dx))) s' → Q () s') : wpAny (model X.prog X.w) A (setAttr (.ref a) f u) Q E s := by
  obtain ⟨nm, q, N, bs, L, sn, sub, ab, col, dd, k0, k1, k2, k3, k5, hC⟩ := T.cls
  have hcl : PySem.W.clsIn X.K C = some { name := nm, bases := bs, mro := .ref C :: .ref L :: arTail, ns := N, qualname := q, hasDict := true, slotNames := sn, subclasses := sub, abstract := ab, collection := col, hasDel := false } := by unfold PySem.W.clsIn; rw [hC] <;> rfl
  obtain ⟨t1, ho⟩ := exo_at I.hok e
  obtain ⟨hp, g, d, t, os⟩ := s
  have hcls := PySem.W.looks_clsIn (M := model X.prog X.w) I.kIn hcl
  have hxs : a ≠ hp.objs.size := Nat.ne_of_lt (Heap.lt_size ho)
  refine PySem.W.set_plain I.kIn (ox := { cls := .ref C, dict := none, data := .fields #[.ref t1, .none, .none, .none, .bool false, .none] }) (od := none) ⟨ho, rfl, rfl, trivial⟩ T.sa ?_
  refine ar_store (od := none) I.kIn ⟨ho, rfl, rfl, trivial⟩ hcl rfl hno ?_
  unfold Builtin.ObjectAttr.storeInOwnDict Builtin.ObjectAttr.ownDictForStores
  repeat (first | with_reducible refine PySem.HandSPX.store_in_new ?_ ?_ | with_reducible refine wpAny_loadPart_at ho ?_ | with_reducible refine hcls.at ?_ | wp_step)
  · exact ⟨_, #[], _, (Heap.get?_update_ne _ _ _ _ hxs.symm).trans (Heap.get?_push_at rfl rfl), rfl, fun e he => absurd he (by simp), fun _ => rfl⟩
  intro h' tk' hn hs
  have k : ∀ b o, b ≠ a → hp.get? b = some o → h'.get? b = some o := fun b o hb q => (hs.2 b (Nat.ne_of_lt (Heap.lt_size q))).trans ((Heap.get?_update_ne _ _ _ _ hb).trans (Heap.get?_push_of_some _ q))
  have hx : h'.get? a = some { cls := .ref C, dict := some hp.objs.size, data := .fields #[.ref t1, .none, .none, .none, .bool false, .none] } :=
    (hs.2 a hxs).trans (Heap.get?_update_self _ (Heap.get?_push_of_some _ ho) rfl)
  have hnd : H hp.objs.size = none := I.hok.fresh (Nat.le_refl _)
  have na : ∀ {b : Addr}, H b = none → b ≠ a := fun {b} n z => by
    rw [z, e] at n
    cases n
  have nd : ∀ {b : Addr} {o : Obj}, hp.get? b = some o → b ≠ hp.objs.size := fun q => Nat.ne_of_lt (Heap.lt_size q)
  have U : Un X.fs [] H (upd (upd H hp.objs.size (exd hp.objs.size [(f, y)])) a (exo a C (some hp.objs.size))) hp h' := {
    keep := fun b o q n _ _ => k b o (na n) q
    slot := fun b o q n _ _ => ⟨o.slots, k b o (na n) q⟩
    free := fun b o q n _ => by rw [upd_ne (na n), upd_ne (nd q)]; exact n
    there := fun b o q _ => by
      by_cases hb : b = a
      · exact ⟨_, by rw [hb]; exact hx⟩
      · exact ⟨o, k b o hb q⟩
    tups := fun b xs q => by rw [upd_ne (at_ne e q exo_tup), upd_ne (ne_of_none q hnd)]; exact q
    frzs := fun b o v q => by rw [upd_ne (at_ne e q exo_frz), upd_ne (ne_of_none q hnd)]; exact q
    tbls := fun b ps q => ⟨#[], by rw [upd_ne (at_ne e q exo_tbl), upd_ne (ne_of_none q hnd), q]; simp⟩ }
  refine h _ _ hnd hxs.symm (I.un (t' := tk') U fun b o q => ?_)
  by_cases hb : b = a
  · subst hb
    rw [upd_same] at q
    cases q
    exact exo_ok hx
  rw [upd_ne hb] at q
  by_cases hd : b = hp.objs.size
  · subst hd
    rw [upd_same] at q
    cases q
    exact exd_ok hn (relO_put (fs := []) ry fun g => True.intro)
  rw [upd_ne hd] at q
  refine (I.hok b o q).stay (fun c v hc z => k c v ?_ z) (fun c hc => ?_) (fun c xs hc => ?_)
  · rcases hc with rfl | hc
    · exact hb
    · exact at_ne e hc exo_own
  · rw [upd_ne (at_ne e hc exo_own), upd_ne (ne_of_none hc hnd)]
    exact hc
  · rw [upd_ne (at_ne e hc exo_tup), upd_ne (ne_of_none hc hnd)]
    exact hc
theorem ar_old (T : OexA X.K C) (I : Inv X pins σ H s) (e : H a = some (exo a C (some dx))) (ed : H dx = some (exd dx fs)) (hl : fs.length ≤ 900) (hno : PySem.W.findIn X.K (.ref C) f = some none) (ry : RelV y u)
    (h : ∀ s', Inv X pins σ (upd H dx (exd dx ((f, y) :: fs))) s' → Q () s') : wpAny (model X.prog X.w) A (setAttr (.ref a) f u) Q E s := by
  obtain ⟨nm, q, N, bs, L, sn, sub, ab, col, dd, k0, k1, k2, k3, k5, hC⟩ := T.cls
  have hcl : PySem.W.clsIn X.K C = some { name := nm, bases := bs, mro := .ref C :: .ref L :: arTail, ns := N, qualname := q, hasDict := true, slotNames := sn, subclasses := sub, abstract := ab, collection := col, hasDel := false } := by unfold PySem.W.clsIn; rw [hC] <;> rfl
  obtain ⟨t1, ho⟩ := exo_at I.hok e
  obtain ⟨mA, hns, rel⟩ := exd_at I.hok ed
  have hw := within_of rel
  obtain ⟨hp, g, d, t, os⟩ := s
  obtain ⟨oD, _, _, hoD, _, _⟩ := hns.count hw
  have hcls := PySem.W.looks_clsIn (M := model X.prog X.w) I.kIn hcl
  have hz : (fs.map (·.1)).length ≤ 1000 := by rw [List.length_map]; omega
  refine PySem.W.set_plain I.kIn (ox := { cls := .ref C, dict := some dx, data := .fields #[.ref t1, .none, .none, .none, .bool false, .none] }) (od := some oD) ⟨ho, rfl, rfl, hoD⟩ T.sa ?_
  refine ar_store (od := some oD) I.kIn ⟨ho, rfl, rfl, hoD⟩ hcl rfl hno ?_
  unfold Builtin.ObjectAttr.storeInOwnDict Builtin.ObjectAttr.ownDictForStores
  repeat (first | with_reducible refine PySem.OEX.store_in_old hns hw hz ?_ | with_reducible refine wpAny_loadPart_at ho ?_ | with_reducible refine hcls.at ?_ | wp_step)
  intro h' tk' hn hs
  have hd : ∃ o, h'.get? dx = some o := by
    obtain ⟨o, _, _, e', _⟩ := hn
    exact ⟨o, e'⟩
  exact h _ (I.write (t' := tk') (x := dx) (e := dx) (o := exd dx ((f, y) :: fs)) (by rw [ed]; exact True.intro) (.inl rfl) (fun b o hb q => (hs.2 b hb).trans q) hd (exd_ok hn (relO_put ry rel)))
end
/-- self.f = e -/
def tOstA (K : PySem.W.Frag) (f : Str) (to te : TE) : TS := fun D σ H => te σ H fun y H1 => to σ H1 fun x H2 => ∃ a C : Addr, x = .ref a ∧ OexA K C ∧ PySem.W.findIn K (.ref C) f = some none ∧
  ((H2 a = some (exo a C none) ∧ ∀ dx, H2 dx = none → dx ≠ a → D.nx σ (upd (upd H2 dx (exd dx [(f, y)])) a (exo a C (some dx)))) ∨
    ∃ (dx : Addr) (fs : List (Str × V)), H2 a = some (exo a C (some dx)) ∧ H2 dx = some (exd dx fs) ∧ fs.length ≤ 900 ∧ D.nx σ (upd H2 dx (exd dx ((f, y) :: fs))))
section
variable {X : Cx} {o e : Expr} {es : List Expr} {to te : TE} {ta : TA} {f : Str} {p p' pos : Pos}
theorem ps_ostA (ho : PE X o to) (he : PE X e te) (hs : swapsWith e (some (.Attribute o f p')) pos.line X.env = pure false := by rfl) : PS X (.Assign [.Attribute o f p'] e pos) (tOstA X.K f to te) := by
  refine ⟨fun pins s σ H D I h => plainObj_wpAny_Assign_Attribute (thn (he.run pins s σ H _ I h) fun v s1 ⟨y, H1, I1, r1, q1⟩ => thn (ho.run pins s1 σ H1 _ I1 q1) fun u s2 ⟨x, H2, I2, r2, a, C, ex, T, hno, q⟩ => ?_) hs⟩
  subst ex
  obtain rfl : u = Value.ref a := r2
  rcases q with ⟨ea, q⟩ | ⟨dx, fs, ea, ed, hl, q⟩
  · exact ar_new T I2 ea hno r1 fun dx s' n ne J => ⟨σ, _, J, q dx n ne⟩
  · exact ar_old T I2 ea ed hl hno r1 fun s' J => ⟨σ, _, J, q⟩
theorem pmk_oexA {CX : CXT} {x : Str} {C fI : Addr} {k : Nat} {fd : FuncData} {ps : List Str} {sp : Sp} {ds : List Value} {dvs : List V} (T : OexA X.K C) (iC : PySem.W.findIn X.K (.ref C) "__init__" = some (some (.ref fI))) (tI : PySem.W.typeIn X.K (.ref fI) = some (.type "function"))
    (F1 : FnOk X.prog X.w X.K X.mg X.base CX k fI fd ps sp) (hr : Room (k + 1) X.A) (hb : Binds X.K fd ps ds) (hd : Vals dvs ds) (hx : Passes CX X (fun _ _ _ => False)) (hg : Gl X x) (hm : X.mg x = some (.ref C)) (ha : PA X (e :: es) ta)
    (hdb : (x == ("__debug__" : Str)) = false := by decide) (he : starEach (e :: es) X.env = (false, eval e X.env) :: starEach es X.env := by rfl) (hpl : (backTo pos (starEach es X.env)).any (·.1) = false := by rfl) :
    PMk X (.Call (.Name x p) (e :: es) [] pos) (tMkO C sp dvs ta) := by
  intro pins s σ H Q I h
  obtain ⟨nm, q, N, bs, L, sn, sub, ab, col, dd, k0, k1, k2, k3, k5, hC⟩ := T.cls
  refine wpAny_Call_Name_kw (ld_glob I hg hm ?_ hdb)
  refine PySem.W.callWith_K (h₀ := X.base) I.ok.mod.kin T.kC (thn (ha.run pos pins s σ H _ I h) fun us s1 ⟨vs, H1, I1, r1, hz, q1⟩ => ⟨I1.kIn, ?_⟩) he hpl
  show wpAny _ _ (call (.ref C) us) _ _ _
  obtain ⟨hp, g, dr, tk, os⟩ := s1
  have hsz : hp.objs.size ≤ hp.objs.size + 1 := Nat.le_succ _
  have hq := q1 _ (I1.hok.fresh hsz)
  have kk : ∀ b o, hp.get? b = some o → ((hp.push (PySem.W.kdv_tup us)).push (PySem.HandSPX.excO C hp.objs.size)).get? b = some o := fun b o e => Heap.get?_push_of_some _ (Heap.get?_push_of_some _ e)
  have I2 : Inv X pins σ (upd H1 (hp.objs.size + 1) (exo (hp.objs.size + 1) C none)) ⟨(hp.push (PySem.W.kdv_tup us)).push (PySem.HandSPX.excO C hp.objs.size), g, dr, tk, os⟩ :=
    I1.laid (t' := tk) (a := hp.objs.size + 1) (o := exo (hp.objs.size + 1) C none) (h' := (hp.push (PySem.W.kdv_tup us)).push (PySem.HandSPX.excO C hp.objs.size)) kk hsz (exo_ok (t1 := hp.objs.size) (by heap_get))
  have r2 : Vals (V.ref (hp.objs.size + 1) :: (vs ++ dvs)) (Value.ref (hp.objs.size + 1) :: (us ++ ds)) := .cons rfl (r1.append hd)
  have hl : (Value.ref (hp.objs.size + 1) :: us ++ ds).length = ps.length := r2.length.symm.trans (F1.len _ _ _ _ hq)
  have hus : us.length ≤ sizeLine := by
    rw [← Paired.length r1, sizeLine_eq]
    omega
  refine wpAny_call (PySem.HandSPX.call_own F.excBase_ArithmeticError (ar_con L) (I1.kIn _ _ hC) (PySem.W.looks_findIn I1.kIn iC) (fun self => PySem.W.bind_fn I1.kIn self tI) hus
    (codeAny_mono (F1.run _ X.stack _ _ ⟨Value.ref (hp.objs.size + 1) :: us, []⟩ (Value.ref (hp.objs.size + 1) :: (us ++ ds)) _ _ (fun _ _ _ => False) (hr.make C us []) (I2.env0.make C us []) (hb _ (Value.ref (hp.objs.size + 1) :: us) I2.kIn hl) r2 hq) fun r s' hq' => ?_))
  match r, hq' with
  | .error er, hq' => exact hx pins σ _ _ er s' I2 hq'
  | .ok (.ret u), hq' =>
    obtain ⟨v, H2, os2, bare2, un2, hok2, rv, ev, d, fs, ea, ed, hd1, q2⟩ := hq'
    subst ev
    obtain ⟨h2, g2, d2, t2, os'⟩ := s'
    exact ⟨rv, mk_end (raises_own T.exC T.tyC) I1 hsz kk un2 hok2 os2 bare2 ea ed hd1 q2⟩
  | .ok .next, hq' => exact hq'.elim
  | .ok .brk, hq' => exact hq'.elim
  | .ok .cont, hq' => exact hq'.elim
end
end Lb

set_option Elab.async false
set_option linter.all false
set_option maxRecDepth 100000
set_option maxHeartbeats 4000000
/-! try with several clauses that each give the exception a name -/
namespace Lb
open PySem PySem.Spec PyProof.Rows L2
/-- one clause: its class, the name's place, its suite -/
abbrev Clause := Value × Nat × (Addr → Value → Option Addr → TS)
/-- what is asked of an exception, clause by clause -/
def wNamed (K : PySem.W.Frag) (Wo : WX) (D : Ends) : List Clause → WX
  | [] => Wo
  | (c, i, ts) :: more => fun k dd τ G => ∃ yes, PySem.W.exmOne K k c = some yes ∧ (yes = false → wNamed K Wo D more k dd τ G) ∧
      (yes = true → ∀ e, G e = none → ts e k dd ⟨fun τ' G' => D.nx (τ'.set i none) G', D.rt, fun τ' G' => D.bk (τ'.set i none) G', fun τ' G' => D.ct (τ'.set i none) G'⟩ (τ.set i (some (.ref e))) G)
/-- the clauses and their readings -/
inductive HdsN (X : Cx) : List ExceptHandler → List Clause → Prop
  | nil : HdsN X [] []
  | cons {x n : Str} {i : Nat} {c : Value} {ts : Addr → Value → Option Addr → TS} {st : Stmt} {sts : List Stmt} {p q : Pos} {hds : List ExceptHandler} {l : List Clause} (nm : Names X x c) (at_ : X.N[i]? = some n) (lo : X.env.kindOf n = some .local)
      (su : ∀ (e : Addr) (oe : Obj) (k : Value) (dd : Option Addr) (pn : List (Addr × Obj)), Zc k dd oe → (∃ vs, oe.data = .fields vs) → PSs (X.suite e ((e, oe) :: pn)) (st :: sts) (ts e k dd)) (more : HdsN X hds l) :
      HdsN X (.ExceptHandler (some (.Name x p)) (some n) (st :: sts) q :: hds) ((c, i, ts) :: l)
section
variable {X : Cx} {body : List Stmt} {h0 : ExceptHandler} {hds : List ExceptHandler} {l : List Clause} {pos : Pos} {tb : WX → TS} {Wo : WX}
/-- an exception that has landed stands in no frame -/
theorem out_of_frames {bs h : Heap} {st : List Env} {e : Addr} {o : Obj} {vs : Array Value} (ff : h.FunFrames bs st) (at_ : h.get? e = some o) (fd : o.data = .fields vs) : e ∉ frs st := fun m => by
  obtain ⟨_, u, at2, no⟩ := ff.mem m
  cases at_.symm.trans at2
  exact no _ fd
variable {pins : List (Addr × Obj)} {τ : L2.St} {G : Hp} {D : Ends} {e : Addr} {bs h3 : Heap} {s0 s1 : Shared} {k : Value} {dd : Option Addr}
/-- the clauses are gone through, the exception being at e -/
theorem handle_named (st : X.stack = X.env :: X.outer) (fr : X.env.frame = some X.env.locals) (nd : X.N.Nodup) (tk : Takes X Wo) (ok : X.Ok) (jj : Inv X pins τ G s0) (nb : ∀ b o, s0.heap.get? b = some o → b ∉ frs X.stack → bs.get? b = some o)
    (up : s0.heap.UpToSlots s1.heap) (os : s1.os = s0.os) (ag : AllBare s1.gens) (na : G e = none) (u3 : s1.heap.UpToSlots h3) (fl : HandSPX.FlyingZ bs (X.env :: X.outer) e (Zc k dd) h3) :
    ∀ {hs : List ExceptHandler} {l : List Clause}, HdsN X hs l → wNamed X.K Wo D l k dd τ G → wpAny (model X.prog X.w) X.A (handleBy (.ref e) X.env hs) (SP X pins D) X.xe { s1 with heap := h3 } := by
  have here : Inv X pins τ G { s1 with heap := h3 } := jj.landed nb fl.1 (up.trans u3) os ag
  obtain ⟨o3, f3, at3, z3, d3⟩ := fl.there
  have out := out_of_frames fl.2.2.1 at3 d3
  have outL : e ≠ X.env.locals := fun q => out (List.mem_filterMap.mpr ⟨X.env, List.mem_cons_self, by rw [fr, q]⟩)
  have outF : e ∉ X.fs := fun m => by
    obtain ⟨env, m1, m2⟩ := List.mem_filterMap.mp m
    exact out (List.mem_filterMap.mpr ⟨env, List.mem_cons_of_mem _ m1, m2⟩)
  have inS := here.suite at3 d3 na outL outF
  intro hs l hk
  induction hk with
  | nil =>
    intro w
    have away : wpAny (model X.prog X.w) X.A (setFlight (.ref e) X.env.frame) (fun _ s4 => wpAny (model X.prog X.w) X.A (throw (.ref e) : Sem Flow) (SP X pins D) X.xe s4) X.xe { s1 with heap := h3 } := by
      rw [fr]
      exact HandSPX.setFlight_upZ fl fun h4 held u4 => wpAny_throw (tk _ _ ⟨e, bs, s0, pins, τ, G, k, dd, rfl, jj, nb, (up.trans u3).trans u4, .inr (.inr (by rw [st]; exact held)), na, os, ag, w⟩)
    obtain ⟨_, _, _, oe, vs, T, oT, _, ate, _, dte, first_, _⟩ := id fl
    refine wpAny_handleBy_nil ?_
    unfold PySem.passOn
    refine wpAny_bind (wpAny_field ate dte first_ ?_)
    rw [if_neg (by simp : ¬ ((Value.ref T == Value.none) = true))]
    first
      | exact wpAny_bind away
      | exact wpAny_bind (wpAny_pure (wpAny_bind away))
  | @cons x n i c ts st1 sts p q hds2 l2 nm pl lo su more ih =>
    rintro ⟨yes, ans, no, go⟩
    refine wpAny_handleBy_cons (codeAny_handlers_test ?_) (fun z => by cases z)
    have cl : PySem.W.Looks (model X.prog X.w) h3 (typeOf (.ref e)) k := fun A Q E s keep done => wpAny_typeOf_ref (keep _ _ at3) (by rw [z3.1]; exact done)
    have told := PySem.W.exm_one (M := model X.prog X.w) here.kIn cl ans
    have name : ∀ {Q E : Value → Shared → Prop}, Q c { s1 with heap := h3 } → wpAny (model X.prog X.w) (X.A.mark (some (.ref e))) (eval (.Name x p) X.env) Q E { s1 with heap := h3 } := fun {Q E} done => by
      obtain ⟨g1, g2, g3 | ⟨g3, g4, g5⟩⟩ := nm
      · exact ld_glob (X := X.suite e ((e, o3) :: (X.pn ++ pins))) inS g1 g3 done g2
      · exact ld_blt (X := X.suite e ((e, o3) :: (X.pn ++ pins))) inS g1 g3 g4 done g5 g2
    refine name (told.here ?_)
    cases yes with
    | false =>
      show wpAny _ X.A (handleBy (.ref e) X.env hds2) _ _ _
      exact ih (no rfl)
    | true =>
      refine codeAny_handlers_suite_as (HandSPX.lands_againZ fl fun h4 fl4 u4 => ?_)
      have here4 : Inv X pins τ G { s1 with heap := h4 } := jj.landed nb fl4.1 ((up.trans u3).trans u4) os ag
      obtain ⟨o4, f4, at4, z4, d4⟩ := fl4.there
      refine store_ok (X := X.suite e ((e, o4) :: (X.pn ++ pins))) (v := .ref e) (here4.suite at4 d4 na outL outF) nd pl (.inl lo) rfl (fun s5 in5 => ?_) (.inr lo)
      have clear : ∀ {σ6 : L2.St} {H6 : Hp} {s6 : Shared} {Q : Shared → Prop}, Inv (X.suite e ((e, o4) :: (X.pn ++ pins))) [] σ6 H6 s6 → (∀ s7, Inv X pins (σ6.set i none) H6 s7 → Q s7) →
          wpAny (model X.prog X.w) X.A (do bindName X.env n .none; unbindBehindTheSuite X.env n q) (fun _ s7 => Q s7) X.xe s6 := fun in6 then_ => gone_ok (in6.unsuite ok) nd pl lo then_
      refine wpAny_mono ((su e o4 k dd (X.pn ++ pins) z4 ⟨_, d4⟩).run [] s5 _ G _ in5 (go rfl e na)) (fun f s6 end_ => ?_) (fun _ _ z => z.elim)
      cases f with
      | ret u =>
        obtain ⟨v6, _, _, in6, rel, fin⟩ := end_
        exact clear in6 fun s7 in7 => ⟨_, _, _, in7, rel, fin⟩
      | next =>
        obtain ⟨_, _, in6, fin⟩ := end_
        exact clear in6 fun s7 in7 => ⟨_, _, in7, fin⟩
      | brk =>
        obtain ⟨_, _, in6, fin⟩ := end_
        exact clear in6 fun s7 in7 => ⟨_, _, in7, fin⟩
      | cont =>
        obtain ⟨_, _, in6, fin⟩ := end_
        exact clear in6 fun s7 in7 => ⟨_, _, in7, fin⟩
theorem ps_try_named (st : X.stack = X.env :: X.outer) (fr : X.env.frame = some X.env.locals) (nd : X.N.Nodup) (tk : Takes X Wo)
    (bd : ∀ (W : WX) (pn : List (Addr × Obj)) (xe : Value → Shared → Prop), Takes (X.tr pn xe) W → PassesOwn (model X.prog X.w) X.A X.env xe → PSs (X.tr pn xe) body (tb W)) (cs : HdsN X (h0 :: hds) l) :
    PS X (.Try body (h0 :: hds) [] [] pos) (fun D σ H => tb (wNamed X.K Wo D l) D σ H) := by
  refine ⟨fun pins s σ H D I way => ?_⟩
  have ok := I.ok
  have seen : X.A.frames = some (X.env :: X.outer) := by rw [ok.frames, st]
  refine wpAny_Try_except ?_
  refine wpAny_mono ((bd (wNamed X.K Wo D l) (X.pn ++ pins) (fun u s₁ => wpAny (model X.prog X.w) X.A (noteFrame u X.env) (fun _ s₂ => wpAny (model X.prog X.w) X.A (setFlight u none)
    (fun _ s₃ => wpAny (model X.prog X.w) X.A (handleBy u X.env (h0 :: hds)) (SP X pins D) X.xe s₃) X.xe s₂) X.xe s₁) (fun u s' flies => ?_) PassesOwn.looking).run [] s σ H D (I.toTry _) way) (fun f s1 fin => ?_) (fun u s1 away => away)
  · obtain ⟨e, bs, s0, pp, τ, G, k, dd, rfl, jj, nb, up, sky, na, os, ag, w⟩ := flies
    refine Sky.land Zc.steady seen fr (by rw [← st]; exact sky) fun h3 fl u3 => ?_
    exact handle_named st fr nd tk ok (jj.ofTry ok) nb up os ag na u3 fl cs w
  · cases f with
    | ret u =>
      obtain ⟨v, _, _, j, rel, way2⟩ := fin
      exact ⟨v, _, _, j.ofTry ok, rel, way2⟩
    | next =>
      obtain ⟨_, _, j, way2⟩ := fin
      exact wpAny_execs_nil ⟨_, _, j.ofTry ok, way2⟩
    | brk =>
      obtain ⟨_, _, j, way2⟩ := fin
      exact ⟨_, _, j.ofTry ok, way2⟩
    | cont =>
      obtain ⟨_, _, j, way2⟩ := fin
      exact ⟨_, _, j.ofTry ok, way2⟩
end
end Lb

set_option Elab.async false
set_option linter.all false
set_option maxRecDepth 100000
set_option maxHeartbeats 4000000
/-! isinstance of a caught exception that has an own dict -/
namespace Lb
open PySem PySem.Spec PyProof.Rows L2
/-- isinstance(e, c), e held by the suite at a, an instance of D with the dict dd -/
def rIsX (K : PySem.W.Frag) (D a : Addr) (k : Value) (d : Option Addr) : List V → Hp → VK → Prop := fun xs H Q =>
  ∃ (c : V) (u : Value) (b : Bool) (dd : Addr) (fs : List (Str × V)), xs = [.ref a, c] ∧ k = .ref D ∧ d = some dd ∧ H dd = some (.xd fs) ∧ (∀ v, RelV c v → v = u) ∧ PySem.W.kitOne K (.ref D) u = some b ∧ Q (.bl b) H
theorem call_isX {X : Cx} {a D : Addr} {oe : Obj} {k : Value} {d : Option Addr} {pn : List (Addr × Obj)} (C : ExcC X.K D) (z : Zc k d oe) (f : ∃ vs, oe.data = .fields vs) : CallR (X.suite a ((a, oe) :: pn)) (.builtin "isinstance") (rIsX X.K D a k d) := by
  intro pins s σ H xs us Q I r h
  obtain ⟨c, u, b, dd, fs, rfl, rfl, rfl, ed, only, ans, q⟩ := h
  obtain ⟨u1, u2, rfl, r1, r2⟩ := vals2 r
  cases r1
  cases only _ r2
  obtain ⟨at_, _⟩ := I.pin (a, oe) (List.mem_append_left _ List.mem_cons_self)
  obtain ⟨mA, hns, _⟩ : ObjOk X.prog X.w H s.heap dd (.xd fs) := I.hok dd _ ed
  obtain ⟨od, ho, _⟩ := lookIn_ns hns
  obtain ⟨vs, hd⟩ := f
  have J : PySem.W.InstAt s.heap a oe D (some od) := ⟨at_, z.1, by unfold PySem.W.notCls; rw [hd] <;> rfl, by rw [z.2]; exact ho⟩
  have cl : (PySem.W.clsIn X.K D).isSome = true := by
    obtain ⟨cd, hc, _⟩ := PySem.W.any_some C.hd
    rw [hc]
    rfl
  exact PySem.W.kia_one (PySem.W.kitx_exc cl C.hg C.hk C.hs C.ha C.hn C.ht C.hm) I.kIn J ans (fun z => nomatch z) fun tk => ⟨.bl b, H, I.kept (t' := tk) fun _ _ z => z, rfl, q⟩
end Lb

set_option Elab.async false
set_option linter.all false
set_option maxRecDepth 100000
set_option maxHeartbeats 4000000
/-! C.m(e, ..), m a staticmethod that may raise, in the body of a try -/
namespace Lb
open PySem PySem.Spec PyProof.Rows L2
section
variable {X : Cx} {CX : CXT} {k : Nat} {C p g : Addr} {fd : FuncData} {ps : List Str} {sp : Sp} {E : L2.St → XK} {m : Str} {pos apos : Pos} {o e : Expr} {es : List Expr} {ta : TE} {t : TA}
def tSMethS (C : Addr) (sp : Sp) (E : L2.St → XK) (ta : TE) (t : TA) : TE := fun σ H Q => ta σ H fun x H1 => x = .ref C ∧ t σ H1 fun vs H2 => sp vs H2 Q (E σ)
theorem pe_smethS {pl : Sem Bool} (he : PE X o ta) (c : SMet X.K C m p g) (F : FnOk X.prog X.w X.K X.mg X.base CX k g fd ps sp) (hr : Room k X.A) (hb : Binds X.K fd ps []) (hx : ∀ σ, PassesAt CX X σ (E σ)) (ha : PA X (e :: es) t)
    (hst : starEach (e :: es) X.env = (false, eval e X.env) :: starEach es X.env := by rfl) (hpl : (backTo pos (starEach es X.env)).any (·.1) = false := by rfl)
    (ht : eval (.Call (.Attribute o m apos) (e :: es) [] pos) X.env = (do
      let ov ← eval o X.env
      standAt apos.atName
      let (f, first) ← holding [ov] (getMethod ov m pl)
      callWith pos f first (backTo pos (starEach (e :: es) X.env)) (backToKw pos (keywordEach [] X.env))) := by rfl) :
    PE X (.Call (.Attribute o m apos) (e :: es) [] pos) (tSMethS C sp E ta t) := by
  refine ⟨fun pins s σ H Q I h => ?_⟩
  refine PySem.W.methodCall_KW (pl := pl) (thn (he.run pins s σ H _ I h) fun u s1 ⟨x, H1, I1, rx, ex, q⟩ => ?_) ht
  subst ex
  obtain rfl : u = Value.ref C := rx
  refine getsm_ok I1 c fun s2 I2 => ?_
  refine PySem.W.callWith_K (first := []) (h₀ := X.base) I.ok.mod.kin c.kp (thn (ha.run pos pins s2 σ H1 _ I2 q) fun us s3 ⟨vs, H2, I3, rv, q2⟩ => ⟨I3.kIn, ?_⟩) hst hpl
  exact run_fnS F hr hb (hx σ) I3 rv q2
end
end Lb

set_option Elab.async false
set_option linter.all false
set_option maxRecDepth 100000
set_option maxHeartbeats 4000000
/-! C.m(k = v, ..), m a staticmethod that may raise, in the body of a try -/
namespace Lb
open PySem PySem.Spec PyProof.Rows L2
section
variable {X : Cx} {CX : CXT} {k : Nat} {f C p g : Addr} {fd : FuncData} {ps ks : List Str} {sp : Sp} {E : L2.St → XK} {m : Str} {pos apos : Pos} {o : Expr} {kws : List Keyword} {ta : TE} {tk : TA} {gf : List Value → List Value → List Value} {gV : List V → List V → List V}
theorem run_kbnS {n : Nat} {pins : List (Addr × Obj)} {σ : L2.St} {H : Hp} {s : Shared} {Q : VK} {us ws : List Value} {vs zs : List V} (F : FnOk X.prog X.w X.K X.mg X.base CX k f fd ps sp) (hr : Room k X.A) (hb : KBn X.K fd ps n ks gf gV) (hx : PassesAt CX X σ (E σ))
    (I : Inv X pins σ H s) (r : Vals vs us) (rz : Vals zs ws) (l1 : vs.length = n) (l2 : zs.length = ks.length) (h : sp (gV vs zs) H Q (E σ)) : wpAny (model X.prog X.w) X.A (call (.ref f) us (ks.zip ws)) (EP X pins σ Q) X.xe s := by
  refine wpAny_call (codeAny_mono (F.run X.A X.stack s H ⟨us, ks.zip ws⟩ (gf us ws) (gV vs zs) Q (E σ) hr I.env0 (hb.to s us ws I.kIn (r.length.symm.trans l1) (rz.length.symm.trans l2)) (hb.rel r rz) h) fun r s' hq => ?_)
  cases r with
  | error e => exact hx pins H s e s' I hq
  | ok fl =>
    cases fl with
    | ret u => exact I.after hq
    | next => exact False.elim hq
    | brk => exact False.elim hq
    | cont => exact False.elim hq
def tSMethKS (C : Addr) (nk : Nat) (sp : Sp) (gV : List V → List V → List V) (E : L2.St → XK) (ta : TE) (tk : TA) : TE := fun σ H Q => ta σ H fun x H1 => x = .ref C ∧ tk σ H1 fun zs H2 => zs.length = nk ∧ sp (gV [] zs) H2 Q (E σ)
theorem pe_smethKS {pl : Sem Bool} (he : PE X o ta) (c : SMet X.K C m p g) (F : FnOk X.prog X.w X.K X.mg X.base CX k g fd ps sp) (hr : Room k X.A) (hb : KBn X.K fd ps 0 ks gf gV) (hx : ∀ σ, PassesAt CX X σ (E σ)) (hkw : PK X kws tk)
    (hall : (backToKw pos (keywordEach kws X.env)).all (·.1.isSome) = true := by rfl) (hks : (backToKw pos (keywordEach kws X.env)).filterMap (·.1) = ks := by rfl)
    (hpl : ((backTo pos (starEach [] X.env)).any (·.1) || (backToKw pos (keywordEach kws X.env)).any (·.1.isNone)) = false := by rfl)
    (ht : eval (.Call (.Attribute o m apos) [] kws pos) X.env = (do
      let ov ← eval o X.env
      standAt apos.atName
      let (f, first) ← holding [ov] (getMethod ov m pl)
      callWith pos f first (backTo pos (starEach [] X.env)) (backToKw pos (keywordEach kws X.env))) := by rfl) :
    PE X (.Call (.Attribute o m apos) [] kws pos) (tSMethKS C ks.length sp gV E ta tk) := by
  refine ⟨fun pins s σ H Q I h => ?_⟩
  refine PySem.W.methodCall_KW (pl := pl) (thn (he.run pins s σ H _ I h) fun u s1 ⟨x, H1, I1, rx, ex, q⟩ => ?_) ht
  subst ex
  obtain rfl : u = Value.ref C := rx
  refine getsm_ok I1 c fun s2 I2 => ?_
  refine PySem.W.callWith_KW0 (first := []) (h₀ := X.base) I.ok.mod.kin c.kp hall ?_ hpl
  refine thn (hkw.run pos pins s2 σ H1 _ I2 q) fun ws s3 ⟨zs, H2, I3, rz, l2, q2⟩ => ⟨I3.kIn, ?_⟩
  rw [hks]
  exact run_kbnS (us := []) (vs := []) F hr hb (hx σ) I3 .nil rz rfl l2 q2
end
end Lb

set_option Elab.async false
set_option linter.all false
set_option maxRecDepth 100000
set_option maxHeartbeats 2000000
/-! own error classes: what except and isinstance say -/
namespace Lb
open PySem L2
theorem exm_sub {K : PySem.W.Frag} {S C : Addr} (h1 : PySem.W.subIn K (.ref S) (.type "BaseException") = some true) (e1 : PySem.W.subIn K (.ref C) (.type "BaseException") = some true) (h2 : PySem.W.isClsIn K C = true) (h3 : PySem.W.typeIn K (.ref C) = some (.type "type")) (h4 : PySem.W.subIn K (.ref S) (.ref C) = some b) :
    PySem.W.exmOne K (.ref S) (.ref C) = some b := by
  have e1 : (PySem.W.subIn K (.ref C) (.type "BaseException") == some true) = true := by rw [e1] <;> rfl
  have e2 : ((PySem.W.clsIn K C).isSome && PySem.W.typeIn K (.ref C) == some (.type "type")) = true := by
    have h2' : (PySem.W.clsIn K C).isSome = true := h2
    rw [h2', h3] <;> rfl
  show (if (PySem.W.subIn K (.ref C) (.type "BaseException") == some true) = true then (if ((PySem.W.clsIn K C).isSome && PySem.W.typeIn K (.ref C) == some (.type "type")) = true then PySem.W.subIn K (.ref S) (.ref C) else none) else none) = some b
  rw [if_pos e1, if_pos e2]
  exact h4
theorem kit_sub {K : PySem.W.Frag} {A C : Addr} (h1 : PySem.W.isClsIn K C = true) (h2 : PySem.W.typeIn K (.ref C) = some (.type "type")) (h3 : PySem.W.subIn K (.ref A) (.ref C) = some true) :
    PySem.W.kitOne K (.ref A) (.ref C) = some true := by
  unfold PySem.W.kitOne
  split
  · rfl
  · unfold PySem.W.kitCls
    have h1' : (PySem.W.clsIn K C).isSome = true := h1
    dsimp only
    rw [h1', h2]
    rw [if_pos (by simp)]
    exact h3
end Lb

set_option Elab.async false
set_option linter.all false
set_option maxRecDepth 100000
set_option maxHeartbeats 4000000
/-! repr of what is told in one of several ways; repr of a dict of plain data -/
namespace Lb
open PySem PySem.Spec PyProof.Rows L2
theorem callR_or {X : Cx} {f : Value} {r1 r2 : List V → Hp → VK → Prop} (h1 : CallR X f r1) (h2 : CallR X f r2) : CallR X f (fun xs H Q => r1 xs H Q ∨ r2 xs H Q) := by
  intro pins s σ H xs us Q I r h
  rcases h with h | h
  · exact h1 pins s σ H xs us Q I r h
  · exact h2 pins s σ H xs us Q I r h
/-- a call that is never reached -/
theorem callR_never {X : Cx} {f : Value} : CallR X f (fun _ _ _ => False) := fun _ _ _ _ _ _ _ _ _ h => h.elim
def keyD : Key → PyData
  | .inl i => .int i
  | .inr x => .str x
mutual
def flatD : PyData → Bool
  | .list _ => false
  | .dict _ => false
  | .tuple ds => flatDs ds
  | _ => true
def flatDs : List PyData → Bool
  | [] => true
  | d :: ds => flatD d && flatDs ds
end
mutual
theorem reads_flat {h : Heap} : ∀ {v : Value} {d : PyData} {as : List Addr}, Reads h v d as → flatD d = true → as = []
  | _, _, _, .none, _ => rfl
  | _, _, _, .bool _, _ => rfl
  | _, _, _, .int _ _, _ => rfl
  | _, _, _, .str _ _, _ => rfl
  | _, _, _, .list _ _ _ _, f => by simp [flatD] at f
  | _, _, _, .tuple _ _ _ r, f => reads_flats r (by simpa [flatD] using f)
  | _, _, _, .dict _ _ _ _ _, f => by simp [flatD] at f
theorem reads_flats {h : Heap} : ∀ {vs : List Value} {ds : List PyData} {as : List Addr}, ReadsAll h vs ds as → flatDs ds = true → as = []
  | _, _, _, .nil, _ => rfl
  | _, _, _, .cons r1 r2, f => by
    simp only [flatDs, Bool.and_eq_true] at f
    rw [reads_flat r1 f.1, reads_flats r2 f.2]
    rfl
end
theorem dpAll_len {K : PySem.W.Frag} {H : Hp} : ∀ {vs : List V} {ds : List PyData}, DpAll K H vs ds → vs.length = ds.length
  | _, _, .nil => rfl
  | _, _, .cons _ h => by rw [List.length_cons, List.length_cons, dpAll_len h]
theorem keys_flat : ∀ kvs : List (Key × V), flatDs (kvs.map fun q => keyD q.1) = true
  | [] => rfl
  | (k, _) :: r => by
    simp only [List.map_cons, flatDs, keys_flat r, Bool.and_true]
    cases k <;> rfl
section
variable {X : Cx} {pins : List (Addr × Obj)} {σ : L2.St} {H : Hp} {s : Shared}
theorem keys_read {P : Program} {w : World} {h : Heap} : ∀ {kvs : List (Key × V)} {vs : List (Key × Value)} {es : List DictEntry}, KV kvs vs → Pairs (mixKind P w) es vs → ∃ as, ReadsAll h (es.map (·.key)) (kvs.map fun q => keyD q.1) as := by
  intro kvs vs es r
  induction r generalizing es with
  | nil =>
    intro h3
    cases h3
    exact ⟨_, .nil⟩
  | @cons p q ps qs h1 _ ih =>
    intro h3
    cases h3 with
    | @cons e _ es2 _ hk hval hv =>
      obtain ⟨as, r2⟩ := ih hv
      have r1 : Reads h e.key (keyD p.1) [] := by
        rw [h1.1]
        rcases keyIs_shape (show keyIs _ _ = true from hk) with ⟨i, t, e1, e2⟩ | ⟨x, t, e1, e2⟩
        · rw [e1, e2]; exact .int i t
        · rw [e1, e2]; exact .str x t
      exact ⟨_, .cons r1 r2⟩
theorem vals_kv : ∀ {kvs : List (Key × V)} {vs : List (Key × Value)}, KV kvs vs → Vals (kvs.map (·.2)) (vs.map (·.2)) := by
  intro kvs vs r
  induction r with
  | nil => exact .nil
  | cons h1 _ ih => exact .cons h1.2 ih
theorem vals_es {P : Program} {w : World} : ∀ {vs : List (Key × Value)} {es : List DictEntry}, Pairs (mixKind P w) es vs → es.map (·.val) = vs.map (·.2) := by
  intro vs es h
  induction h with
  | nil => rfl
  | cons _ hv _ ih => rw [List.map_cons, List.map_cons, ih, hv]
/-- a tracked dict of plain data reads as such -/
theorem dict_reads (I : Inv X pins σ H s) {a : Addr} {kvs : List (Key × V)} {ds : List PyData} (e : H a = some (.dK kvs)) (hd : DpAll X.K H (kvs.map (·.2)) ds) (f : flatDs ds = true) :
    Reads s.heap (.ref a) (.dict ((kvs.map fun q => keyD q.1).zip ds)) [a] ∧ sysModules ≠ a := by
  obtain ⟨_, hsm, vs, r, o, es, ep, h1, h2, h3, _, h5, _⟩ := dk_of I.hok e
  obtain ⟨as, r1⟩ := keys_read (h := s.heap) r h5
  have ve : es.toList.map (·.val) = vs.map (·.2) := vals_es h5
  obtain ⟨bs, r2⟩ := Dp.readsAll I ds _ _ hd (vals_kv r)
  have e1 := reads_flats r1 (keys_flat kvs)
  have e2 := reads_flats r2 f
  subst e1
  subst e2
  have ln : (kvs.map fun q => keyD q.1).length = ds.length := by
    have := dpAll_len hd
    rw [List.length_map] at this ⊢
    exact this
  refine ⟨?_, fun z => ?_⟩
  · have q := Reads.dict (as := []) (bs := []) (kvs := (kvs.map fun q => keyD q.1).zip ds) h1 h2.1 h3 (by rw [List.map_fst_zip (Nat.le_of_eq ln)]; exact r1) (by rw [List.map_snd_zip (Nat.le_of_eq ln.symm), ve]; exact r2)
    exact q
  · rw [z] at hsm
    simp at hsm
end
section
variable {X : Cx}
/-- repr(d), d a tracked dict of plain data -/
def rReprDc (K : PySem.W.Frag) : List V → Hp → VK → Prop := fun xs H Q =>
  ∃ a kvs ds, xs = [.ref a] ∧ H a = some (.dK kvs) ∧ DpAll K H (kvs.map (·.2)) ds ∧ flatDs ds = true ∧ (PyData.dict ((kvs.map fun q => keyD q.1).zip ds)).showable = true ∧ (PyData.dict ((kvs.map fun q => keyD q.1).zip ds)).shown.length ≤ sizeLine ∧
    (PyData.dict ((kvs.map fun q => keyD q.1).zip ds)).depth ≤ 60 ∧ Q (.str (PyData.dict ((kvs.map fun q => keyD q.1).zip ds)).shown) H
theorem call_reprDc {K : PySem.W.Frag} (hK : X.K = K) (hg : X.A.guards = some []) (hu : X.A.units + 64 < cLine) : CallR X (.builtin "repr") (rReprDc K) := by
  subst hK
  intro pins s σ H xs us Q I r h
  obtain ⟨a, kvs, ds, rfl, e, hd, f, sh, hz, dp, q⟩ := h
  obtain ⟨u, rfl, ru⟩ := vals1 r
  cases (show u = Value.ref a from ru)
  obtain ⟨rd, ne⟩ := dict_reads I e hd f
  refine PySem.repr_of_reads' rd sh (fun _ z => ne (List.mem_singleton.mp z)) hg (by omega) (fun _ _ e => e) (fun h' w tk k => ?_) hz
  exact ⟨.str _, H, I.kept k, ⟨_, rfl⟩, q⟩
end
end Lb

set_option Elab.async false
set_option linter.all false
set_option maxRecDepth 100000
set_option maxHeartbeats 4000000
/-! defs that raise nothing, called while an exception is handled -/
namespace Lb
open PySem PySem.Spec PyProof.Rows L2
open L2H (RoomH PinOk cxH inv_startH)
structure FnQ (P : Program) (w : World) (K : PySem.W.Frag) (mg : Str → Option Value) (base : Heap) (k : Nat) (f : Addr) (fd : FuncData) (ps : List Str) (sp : Sp) : Prop where
  len : ∀ vs H Q E, sp vs H Q E → vs.length = ps.length
  run : ∀ (A : Around) (outer : List Env) (s : Shared) (H : Hp) (args : Args) (us : List Value) (vs : List V) (Q : VK) (p : Addr × Obj), RoomH k A → PinOk outer H s p → Env0 P w K mg base A outer s H →
    BindsTo s fd args (ps.zip us) → Vals vs us → sp vs H Q E0 → codeAny (model P w) A (.call (.ref f) args) (CR CX0 outer P w H s Q E0) s
section
variable {P : Program} {w : World} {K : PySem.W.Frag} {mg : Str → Option Value} {base : Heap} {k j : Nat} {f : Addr} {fd : FuncData} {ps : List Str} {sp : Sp}
theorem FnQ.mono (F : FnQ P w K mg base j f fd ps sp) (h : j ≤ k) : FnQ P w K mg base k f fd ps sp :=
  ⟨F.len, fun A outer s H args us vs Q p hr => F.run A outer s H args us vs Q p (hr.mono h)⟩
theorem okQ {x qual : Str} {st : Stmt} {N : List Str} (F : Fun K x qual st f fd) (S : FnScope N ps (defScope st)) (len : ∀ vs H Q E, sp vs H Q E → vs.length = ps.length)
    (hbody : ∀ (cdv : Value) (A : Around) (outer : List Env) (s : Shared) (H : Hp) (vs : List V) (Q : VK) (p : Addr × Obj), RoomH k (A.deeper (envOfC qual (defScope st) s.heap.objs.size f cdv)) → sp vs H Q E0 →
      ∃ t, PSs (cxH CX0 P w K mg base N qual (defScope st) f cdv A outer s H E0 p) (defBody st) t ∧ t { nx := fun _ H' => Q .non H', rt := Q } (start N vs) H) :
    FnQ P w K mg base (k + 1) f fd ps sp := by
  obtain ⟨oc, od, kV, doc, pm, an, cdv, ct, osl, rfl, lk, hcd⟩ := F.ex
  refine ⟨len, fun A outer s H args us vs Q p room pin e0 bnd r way => ?_⟩
  have same_len := len vs H Q E0 way
  have inK : K.In s.heap := e0.mod.kin.keeps fun b o e => (e0.bs b o e).1
  have noLim : s.heap.NoLimit := e0.mod.nolimit.keeps fun b o e => (e0.bs b o e).1
  refine codeAny_call_function room.depth (inK _ _ lk) rfl S.co S.gen rfl (PySem.W.codeRec_of inK hcd) (bnd _ _ _ _ ?_)
  refine wpAny_newFunctionEnv_cells S.kind ?_ fun env he s1 y => ?_
  · rintro ⟨n, v⟩ hy
    rcases S.par n (List.of_mem_zip hy).1 with q | q
    · exact .inl q
    · exact .inr ⟨q, PySem.W.cellsFrom_some _ _ _ (.inl q)⟩
  · subst he
    refine ⟨noLim.keeps y.toInCall.keep, codeAny_func ?_⟩
    obtain ⟨t, ht, hq⟩ := hbody cdv A outer s H vs Q p (room.deeper _) way
    have I := inv_startH (CX := CX0) (E := E0) S pin e0 same_len r y
    refine wpAny_mono (ht.run [] s1 (start N vs) H _ I hq) (fun fl s' hs => ?_) fun _ _ hs => hs
    cases fl with
    | ret u => exact let ⟨v, _, H', J, rv, q⟩ := hs; ⟨v, H', J.os, J.bare, J.base, J.hok, rv, q⟩
    | next => exact let ⟨_, H', J, q⟩ := hs; ⟨V.non, H', J.os, J.bare, J.base, J.hok, rfl, q⟩
    | brk => exact hs.elim fun _ h => h.elim fun _ h => h.2.elim
    | cont => exact hs.elim fun _ h => h.elim fun _ h => h.2.elim
end
section
variable {X : Cx} {k : Nat} {f C g : Addr} {fd : FuncData} {ps : List Str} {sp : Sp} {x m : Str} {q pos apos : Pos} {e o : Expr} {es : List Expr} {ta : TE} {t : TA}
theorem run_atQ {pins : List (Addr × Obj)} {σ : L2.St} {H : Hp} {s : Shared} {A : Around} {Q : VK} {us : List Value} {vs : List V} (F : FnQ X.prog X.w X.K X.mg X.base k f fd ps sp) (hr : RoomH k A) (hc : ∃ p, p ∈ X.pn) (e0 : Env0 X.prog X.w X.K X.mg X.base A X.stack s H)
    (hb : Binds X.K fd ps []) (I : Inv X pins σ H s) (r : Vals vs us) (h : sp vs H Q E0) :
    codeAny (model X.prog X.w) A (.call (.ref f) ⟨us, []⟩) (fun r s' => match r with | .ok (.ret v) => EP X pins σ Q v s' | .ok _ => False | .error e => X.xe e s') s := by
  obtain ⟨p, hp⟩ := hc
  have ln : us.length = ps.length := by rw [← r.length]; exact F.len _ _ _ _ h
  have b := hb s us I.kIn (by rw [List.append_nil]; exact ln)
  rw [List.append_nil] at b
  have here := I.pin p (List.mem_append_left _ hp)
  have pin : PinOk X.stack H s p := ⟨here.1, here.2.1, fun z => (List.mem_cons.mp (I.stkSub p.1 z)).elim here.2.2.1 here.2.2.2.1, here.2.2.2.2⟩
  refine codeAny_mono (F.run A X.stack s H ⟨us, []⟩ us vs Q p hr pin e0 b r h) fun r s' z => ?_
  rcases r with er | fl
  · first | exact z.elim | (cases er <;> first | exact I.after z | exact z.elim)
  · first | (cases fl <;> first | exact I.after z | exact z.elim) | exact z.elim
theorem pe_callQ (F : FnQ X.prog X.w X.K X.mg X.base k f fd ps sp) (hr : RoomH k X.A) (hc : ∃ p, p ∈ X.pn) (hg : Gl X x) (hm : X.mg x = some (.ref f)) (hk : PySem.W.keepIn X.K (.ref f) = true) (hb : Binds X.K fd ps []) (ha : PA X (e :: es) t)
    (hdb : (x == ("__debug__" : Str)) = false := by decide) (he : starEach (e :: es) X.env = (false, eval e X.env) :: starEach es X.env := by rfl) (hpl : (backTo pos (starEach es X.env)).any (·.1) = false := by rfl) :
    PE X (.Call (.Name x q) (e :: es) [] pos) (tCall sp [] E0 t) := by
  refine ⟨fun pins s σ H Q I h => wpAny_Call_Name_kw (ld_glob I hg hm ?_ hdb)⟩
  refine PySem.W.callWith_K (h₀ := X.base) I.ok.mod.kin hk (thn (ha.run pos pins s σ H _ I h) fun us s1 z => ?_) he hpl
  obtain ⟨vs, H1, I1, r, z⟩ := z
  rw [List.append_nil] at z
  refine ⟨I1.kIn, wpAny_call (codeAny_mono (run_atQ F hr hc I1.env0 hb I1 r z) fun r s' y => ?_)⟩
  rcases r with er | fl
  · exact y
  · cases fl <;> first | exact y | exact y.elim
/-- repr(x) there, x an instance whose class has __repr__ -/
theorem call_reprQ (hs : PySem.W.findIn X.K (.ref C) "__repr__" = some (some (.ref g))) (hf : PySem.W.isFn X.K (.ref g) = true)
    (F : FnQ X.prog X.w X.K X.mg X.base k g fd ["self"] sp) (hr : RoomH (k + 1) X.A) (hc : ∃ p, p ∈ X.pn) (hb : Binds X.K fd ["self"] []) : CallR X (.builtin "repr") (rOwnTx C sp E0) := by
  intro pins s σ H xs us Q I r h
  obtain ⟨a, dx, fs, rfl, ha, z⟩ := h
  obtain ⟨u, rfl, ru⟩ := vals1 r
  cases (show u = Value.ref a from ru)
  obtain ⟨od, J⟩ := inst_at I ha
  have hu := hr.un
  have hr1 : RoomH k X.A.in1 := ⟨by have := hr.dp; show X.A.depth + 3 * k + 5 < _; omega, by show X.A.units + 1 + 16 * k + 200 < _; omega⟩
  refine Calls.call_function_entry PySem.F.kind_repr PySem.F.plain_repr PySem.F.entry_repr (PySem.F.args_repr1 _) ?_
  unfold Builtin.«repr»
  refine wpAny_bind (m := oneArg "repr" _) (wpAny_pure ?_)
  refine wpAny_bind (m := cRoomFor _ _) (wpAny_cRoomFor (by show X.A.units + 1 < cLine; omega) ?_)
  refine wpAny_bind (wpAny_bind (J.type.here ((PySem.W.looks_findIn I.kIn hs).here ?_)))
  refine wpAny_bind (m := callSpecialIfBound? (.ref a) (Str.ofString "__repr__")) (PySem.W.ifBound_K I.kIn J hs hf ?_)
  refine wpAny_mono (wpAny_call (codeAny_mono (run_atQ (us := [.ref a]) (vs := [.ref a]) F hr1 hc I.env0.in1 hb I (.cons rfl .nil) z) fun r s' y => y)) (fun w s' z => ?_) fun _ _ x => x
  obtain ⟨z', H', I', rz, y, ez, qz⟩ := z
  subst ez
  obtain ⟨t, rfl⟩ := (show ∃ t, w = Value.str y t from rz)
  refine wpAny_bind (wpAny_isInstance (T := "str") (b := true) rfl isSubtype_str_str ?_)
  exact wpAny_pure ⟨_, rfl, .str y, H', I', ⟨t, rfl⟩, qz⟩
end
end Lb

set_option Elab.async false
set_option linter.all false
set_option maxRecDepth 100000
set_option maxHeartbeats 4000000
/-! lambdas: the maker's rule, the law's call with tables of code objects -/
namespace Lb
open PySem PySem.Spec PyProof.Rows L2
open LamX (TabB Tabs TabS CodeO ExtN)
/-- σ has its length wherever an exception is taken -/
theorem takes_len {X : Cx} {W : WX} (t : Takes X W) : Takes X (fun c d σ H => σ.length = X.N.length → W c d σ H) := fun u s' ⟨a, B, sI, pins, σ, H, cls, d, e, I, nb, up, sky, na, os, ag, w⟩ =>
  t u s' ⟨a, B, sI, pins, σ, H, cls, d, e, I, nb, up, sky, na, os, ag, w I.len⟩
/-- a def that makes lambdas: its code object is known -/
theorem okGL {P : Program} {w : World} {K : PySem.W.Frag} {mg : Str → Option Value} {base : Heap} {CX : CXT} {k : Nat} {f c : Addr} {fd : FuncData} {ps : List Str} {sp : Sp} {x qual : Str} {st : Stmt} {N : List Str} (F : Fun K x qual st f fd) (hcode : fd.code = .ref c) (S : FnScope N ps (defScope st))
    (len : ∀ vs H Q E, sp vs H Q E → vs.length = ps.length)
    (hbody : ∀ (A : Around) (outer : List Env) (s : Shared) (H : Hp) (vs : List V) (Q : VK) (E : XK),
      (A.deeper (envOfC qual (defScope st) s.heap.objs.size f (.ref c))).guards = some [] → Room k (A.deeper (envOfC qual (defScope st) s.heap.objs.size f (.ref c))) → sp vs H Q E →
      ∃ t, PSs (cxOf CX P w K mg base N qual (defScope st) f (.ref c) A outer s H E).nox (defBody st) t ∧ t { nx := fun _ H' => Q .non H', rt := Q } (start N vs) H) :
    FnG P w K mg base CX (k + 1) f fd ps sp := by
  obtain ⟨oc, od, kV, doc, pm, an, cdv, ct, osl, rfl, lk, hcd⟩ := F.ex
  obtain rfl : cdv = .ref c := hcode
  refine ⟨len, fun A outer s H args us vs Q E hgu room e0 bnd r way => ?_⟩
  have same_len := len vs H Q E way
  have inK : K.In s.heap := e0.mod.kin.keeps fun b o e => (e0.bs b o e).1
  have noLim : s.heap.NoLimit := e0.mod.nolimit.keeps fun b o e => (e0.bs b o e).1
  refine codeAny_call_function room.depth (inK _ _ lk) rfl S.co S.gen rfl (PySem.W.codeRec_of inK hcd) (bnd _ _ _ _ ?_)
  refine wpAny_newFunctionEnv_cells S.kind ?_ fun env he s1 y => ?_
  · rintro ⟨n, v⟩ hy
    rcases S.par n (List.of_mem_zip hy).1 with q | q
    · exact .inl q
    · exact .inr ⟨q, PySem.W.cellsFrom_some _ _ _ (.inl q)⟩
  · subst he
    refine ⟨noLim.keeps y.toInCall.keep, codeAny_func ?_⟩
    have gd : (A.deeper (envOfC qual (defScope st) s.heap.objs.size f (.ref c))).guards = some [] := by
      first
        | exact hgu
        | simpa [Around.deeper] using hgu
    obtain ⟨t, ht, hq⟩ := hbody A outer s H vs Q E gd (room.deeper _) way
    have I := inv_start (CX := CX) (E := E) S room.hd e0 same_len r y
    refine wpAny_mono (ht.nox.run [] s1 (start N vs) H _ I hq) (fun fl s' hs => ?_) fun _ _ hs => hs
    cases fl with
    | ret u => exact let ⟨v, _, H', J, rv, q⟩ := hs; ⟨v, H', J.os, J.bare, J.base, J.hok, rv, q⟩
    | next => exact let ⟨_, H', J, q⟩ := hs; ⟨V.non, H', J.os, J.bare, J.base, J.hok, rfl, q⟩
    | brk => exact hs.elim fun _ h => h.elim fun _ h => h.2.elim
    | cont => exact hs.elim fun _ h => h.elim fun _ h => h.2.elim
/-- what is tracked when the law is called: the script, the empty tables -/
def StartH (a : Addr) (cs : List (Addr × Addr)) (H : Hp) : Prop := ∀ b u, H b = some u → (b = a ∧ ∃ o xs, u = .frz o (.lst xs)) ∨ (b ∈ cs.map (·.2) ∧ u = .tbl #[])
theorem law_callTG {P : Program} {w : World} {K : PySem.W.Frag} {mg mb : Str → Option Value} {k : Nat} {fa a : Addr} {cs : List (Addr × Addr)} {fd : FuncData} {x : Str} {sp : Sp} {s1 : Shared} {vs : List Value} {ns : List Int}
    (KX : K.In s1.heap) (hns : s1.heap.Ns mainGlobals mg) (hb : s1.heap.Ns builtinsNs mb) (hbb : ∀ x : Str, x ≠ "__name__" → mb x = bootBuiltins x) (hlim : s1.heap.NoLimit) (hg : s1.gens = #[])
    (tabs : ∀ p ∈ cs, PySem.W.CodeHd s1.heap p.1 p.2 ∧ s1.heap.get? p.2 = some (PySem.W.tabObj #[])) (nK : ∀ p ∈ cs, K.lookup p.2 = none)
    (bmain : ∃ (bm : Addr) (ob : Obj), mg "__builtins__" = some (.ref bm) ∧ bm ≠ builtinsNs ∧ s1.heap.get? bm = some ob ∧ ob.cls = .type "module" ∧ ob.dict = some builtinsNs ∧ ob.data = .plain)
    (ha : s1.heap.get? a = some { cls := .type "list", data := .seq vs.toArray }) (hi : IntsAre vs ns) (hl : ns.length ≤ sizeLine) (hr : Room k callerA)
    (F : ∀ base : Heap, K.In base → base.Ns mainGlobals mg → (∀ p ∈ cs, TabB base mg p.1 p.2) → FnG P w K mg base CX0 k fa fd [x] sp) (hbind : ∀ (s : Shared) (u : Value), BindsTo s fd ⟨[u], []⟩ [(x, u)])
    (hsp : ∀ H : Hp, (∀ p ∈ cs, H p.2 = some (.tbl #[])) → SqL K H a (ns.map V.int) → sp [.ref a] H (fun v _ => v = .bl true) fun _ _ _ => False) :
    codeAny (model P w) callerA (.call (.ref fa) ⟨[.ref a], []⟩) (fun r s' => r = .ok (.ret (.bool true)) ∧ OldK s1.heap s'.heap ∧ s'.os = s1.os ∧ AllBare s'.gens) s1 := by
  have rv := vals_ints hi
  have isTab : ∀ b, b ∈ cs.map (·.2) → ∃ p ∈ cs, p.2 = b := fun b hb => List.mem_map.mp hb
  have apart : a ∉ cs.map (·.2) := fun z => by
    obtain ⟨p, hp, e⟩ := isTab a z
    have q := (tabs p hp).2
    rw [e, ha] at q
    exact nomatch (congrArg Obj.cls (Option.some.inj q))
  have core : ∀ H : Hp, StartH a cs H → (∀ p ∈ cs, H p.2 = some (.tbl #[])) → SqL K H a (ns.map V.int) → HOk P w H s1.heap → (∀ u, H a = some u → K.lookup a = none) →
      codeAny (model P w) callerA (.call (.ref fa) ⟨[.ref a], []⟩) (fun r s' => r = .ok (.ret (.bool true)) ∧ OldK s1.heap s'.heap ∧ s'.os = s1.os ∧ AllBare s'.gens) s1 := by
    intro H hO hH hS hok hK
    -- what is neither a list nor an empty table is not tracked
    have free_of : ∀ {b : Addr} {o : Obj}, s1.heap.get? b = some o → o.cls ≠ .type "list" → o.data ≠ .fields #[] → H b = none := by
      intro b o e n1 n2
      cases q : H b with
      | none => rfl
      | some u =>
        exfalso
        rcases hO b u q with ⟨rfl, _⟩ | ⟨hm, _⟩
        · rw [ha] at e
          cases e
          exact n1 rfl
        · obtain ⟨p, hp, rfl⟩ := isTab b hm
          rw [(tabs p hp).2] at e
          cases e
          exact n2 rfl
    have nsK : ∀ {b : Addr} {m : Str → Option Value}, s1.heap.Ns b m → (hidT s1.heap H).Ns b m := by
      rintro b m ⟨o, es, ep, e, d, r⟩
      refine ⟨o, es, ep, hidT_get e ?_, d, r⟩
      cases q : H b with
      | none => rfl
      | some u =>
        exfalso
        rcases hO b u q with ⟨rfl, _⟩ | ⟨hm, _⟩
        · rw [ha] at e
          cases e
          cases d
        · obtain ⟨p, hp, rfl⟩ := isTab b hm
          rw [(tabs p hp).2] at e
          cases e
          cases d
    have hKb : K.In (hidT s1.heap H) := by
      intro b o e
      refine hidT_get (KX b o e) ?_
      cases q : H b with
      | none => rfl
      | some u =>
        exfalso
        rcases hO b u q with ⟨rfl, _⟩ | ⟨hm, _⟩
        · rw [hK u q] at e
          cases e
        · obtain ⟨p, hp, rfl⟩ := isTab b hm
          rw [nK p hp] at e
          cases e
    have hM : Mod K mg (hidT s1.heap H) := by
      obtain ⟨mc, c1, c2⟩ := hlim
      exact ⟨hKb, nsK hns, ⟨mb, nsK hb, hbb⟩, ⟨mc, nsK c1, c2⟩⟩
    have TB : ∀ p ∈ cs, TabB (hidT s1.heap H) mg p.1 p.2 := by
      intro p hp
      obtain ⟨cd, tb⟩ := tabs p hp
      refine ⟨?_, ?_, fun z => ?_⟩
      · obtain ⟨o, us, fl, tf, fg, tg, inF, tx, tt, e1, e2, e3, e4, more⟩ := cd
        refine ⟨o, us, fl, tf, fg, tg, inF, tx, tt, hidT_get e1 (free_of e1 (fun z => ?_) fun z => ?_), e2, e3, e4, more⟩
        · rw [e2] at z
          injection z with z
          exact absurd z (by decide)
        · rw [e3] at z
          cases z
          cases e4
      · obtain ⟨bm, ob, b1, b2, b3, b4, b5, b6⟩ := bmain
        refine ⟨bm, ob, b1, b2, fun q => ?_, fun q => ?_, hidT_get b3 (free_of b3 (fun z => ?_) fun z => ?_), b4, b5, b6⟩
        · obtain ⟨o, es, ep, e, hd, _⟩ := hns
          rw [q, e] at b3
          cases b3
          rw [hd] at b6
          cases b6
        · rw [q, tb] at b3
          cases b3
          cases b6
        · rw [b4] at z
          injection z with z
          exact absurd z (by decide)
        · rw [b6] at z
          cases z
      · obtain ⟨o, es, ep, e, hd, _⟩ := hns
        rw [z, tb] at e
        cases e
        cases hd
    have e0 : Env0 P w K mg (hidT s1.heap H) callerA [] s1 H :=
      ⟨rfl, hM, fun b o e => of_hidT e, Nat.le_of_eq (hidT_size _ _), trivial, fun b hb => (List.not_mem_nil hb).elim, hok, .of_eq hg⟩
    have code := (F _ hKb (nsK hns) TB).run callerA [] s1 H ⟨[.ref a], []⟩ [.ref a] [.ref a] _ _ rfl hr e0 (hbind s1 (.ref a)) (.cons rfl .nil) (hsp H hH hS)
    refine codeAny_mono code fun r s' h => ?_
    cases r with
    | error e => exact h.elim
    | ok fl =>
      cases fl with
      | ret u =>
        obtain ⟨v, H', os, bare, un, hok', r', q⟩ := h
        cases (show v = .bl true from q)
        cases (show u = Value.bool true from r')
        -- what was there is as it was, but for the tables, which grow
        have stays : ∀ b o, b ∉ cs.map (·.2) → s1.heap.get? b = some o → s'.heap.get? b = some o := by
          intro b o nb e
          cases z : H b with
          | none => exact un.keep b o e z (fun z => List.not_mem_nil z) (fun z => List.not_mem_nil z)
          | some v =>
            rcases hO b v z with ⟨_, ob, xs, rfl⟩ | ⟨hm, _⟩
            · obtain ⟨e1, _⟩ := hok b _ z
              obtain ⟨e2, _⟩ := hok' b _ (un.frzs b ob _ z)
              rw [e] at e1
              cases e1
              exact e2
            · exact absurd hm nb
        have grows : ∀ p ∈ cs, ∃ more, s'.heap.get? p.2 = some (PySem.W.tabObj more) := by
          intro p hp
          obtain ⟨more, z⟩ := un.tbls p.2 _ (hH p hp)
          exact ⟨_, hok' p.2 _ z⟩
        refine ⟨rfl, ⟨fun b o e => ?_, fun b o e => ?_⟩, os, bare⟩
        · by_cases hm : b ∈ cs.map (·.2)
          · obtain ⟨p, hp, rfl⟩ := isTab b hm
            obtain ⟨more, z⟩ := grows p hp
            obtain ⟨cd, tb⟩ := tabs p hp
            rw [tb] at e
            cases e
            exact .inr (.inl ⟨(cd.tab tb).isCodeTable, rfl, #[], more, rfl, by rw [Array.empty_append]; exact z⟩)
          · exact .inl (stays b o hm e)
        · by_cases hm : b ∈ cs.map (·.2)
          · obtain ⟨p, hp, rfl⟩ := isTab b hm
            obtain ⟨more, z⟩ := grows p hp
            exact ⟨_, z⟩
          · exact ⟨o, stays b o hm e⟩
      | next => exact h.elim
      | brk => exact h.elim
      | cont => exact h.elim
  -- the heap to begin with
  have begin_ : ∀ (own : Bool), (own = true → K.lookup a = none) → (own = false → SqL K (fun b => if b ∈ cs.map (·.2) then some (.tbl #[]) else none) a (ns.map V.int)) →
      codeAny (model P w) callerA (.call (.ref fa) ⟨[.ref a], []⟩) (fun r s' => r = .ok (.ret (.bool true)) ∧ OldK s1.heap s'.heap ∧ s'.os = s1.os ∧ AllBare s'.gens) s1 := by
    intro own h1 h2
    have atA : ∀ {b : Addr} {u : HO}, (if b = a ∧ own = true then some (HO.frz { cls := .type "list", data := .seq vs.toArray } (.lst (ns.map V.int))) else if b ∈ cs.map (·.2) then some (.tbl #[]) else none) = some u →
        (b = a ∧ own = true ∧ u = HO.frz { cls := .type "list", data := .seq vs.toArray } (.lst (ns.map V.int))) ∨ (b ∈ cs.map (·.2) ∧ u = .tbl #[]) := by
      intro b u e
      by_cases c1 : b = a ∧ own = true
      · rw [if_pos c1] at e
        exact .inl ⟨c1.1, c1.2, (Option.some.inj e).symm⟩
      · rw [if_neg c1] at e
        by_cases c2 : b ∈ cs.map (·.2)
        · rw [if_pos c2] at e
          exact .inr ⟨c2, (Option.some.inj e).symm⟩
        · rw [if_neg c2] at e
          cases e
    refine core (fun b => if b = a ∧ own = true then some (.frz { cls := .type "list", data := .seq vs.toArray } (.lst (ns.map V.int))) else if b ∈ cs.map (·.2) then some (.tbl #[]) else none) (fun b u e => ?_) (fun p hp => ?_) ?_ (fun b u e => ?_) (fun u e => ?_)
    · rcases atA e with ⟨c1, _, rfl⟩ | c2
      · exact .inl ⟨c1, _, _, rfl⟩
      · exact .inr c2
    · have hm : p.2 ∈ cs.map (·.2) := List.mem_map.mpr ⟨p, hp, rfl⟩
      have ne : ¬ (p.2 = a ∧ own = true) := fun z => apart (z.1 ▸ hm)
      show (if p.2 = a ∧ own = true then _ else if p.2 ∈ cs.map (·.2) then _ else _) = _
      rw [if_neg ne, if_pos hm]
    · cases own with
      | true => exact .inl (.inr ⟨{ cls := .type "list", data := .seq vs.toArray }, if_pos ⟨rfl, rfl⟩⟩)
      | false =>
        have q := h2 rfl
        have e : (fun b => if b = a ∧ false = true then some (HO.frz { cls := .type "list", data := .seq vs.toArray } (.lst (ns.map V.int))) else if b ∈ cs.map (·.2) then some (HO.tbl #[]) else none) = (fun b => if b ∈ cs.map (·.2) then some (HO.tbl #[]) else none) := by
          funext b
          rw [if_neg (fun z => Bool.noConfusion z.2)]
        rw [e]
        exact q
    · rcases atA e with ⟨rfl, _, rfl⟩ | ⟨hm, rfl⟩
      · exact ⟨ha, by rw [List.length_map]; exact hl, vs, _, rv, ha⟩
      · obtain ⟨p, hp, rfl⟩ := isTab b hm
        exact (tabs p hp).2
    · rcases atA e with ⟨_, o1, _⟩ | ⟨hm, _⟩
      · exact h1 o1
      · exact absurd hm apart
  cases hk : K.lookup a with
  | none => exact begin_ true (fun _ => hk) (fun z => Bool.noConfusion z)
  | some o =>
    have e := KX a o hk
    rw [ha] at e
    cases e
    refine begin_ false (fun z => Bool.noConfusion z) (fun _ => .inr ⟨_, vs.toArray, _, hk, rfl, rfl, rfl, ?_, ?_⟩)
    · rw [List.size_toArray, hi.length]
      exact hl
    · simpa using rv
/-- the end: the promise is told of the makers' code objects and tables -/
theorem walkTG {l : PySem.W.OpenLaw} {n k : Nat} {q : Program} {loose : List Str} {XP : (Str → Option Value) → Heap → Prop} {YP : World → Heap → Prop} {d : DefRec} {K : Params → PySem.W.Frag} {sp : PySem.W.Frag → List (Addr × Addr) → Sp} {x : Str}
    (hn : l.most = some n) (hn2 : n ≤ sizeLine) (hdf : d.params.defaults = []) (hr : Room k callerA) (hY : ∀ (w : World) (h : Heap), YP w h → (K w.params).In h)
    (F : ∀ (w : World) (mg : Str → Option Value) (fa : Addr) (h : Heap), (K w.params).In h → h.Ns mainGlobals mg → mg d.name = some (.ref fa) →
      ∃ (fd : FuncData) (cs : List (Addr × Addr)), (∀ p ∈ cs, ∃ (y : Str) (dd : DefRec), (recsOf q).find? (fun e => e.name == y) = some dd ∧ PySem.W.tabIn (K w.params) y = some p) ∧ (∀ p ∈ cs, (K w.params).lookup p.2 = none) ∧
        (∀ (s : Shared) (u : Value), BindsTo s fd ⟨[u], []⟩ [(x, u)]) ∧
        ∀ base : Heap, (K w.params).In base → base.Ns mainGlobals mg → (∀ p ∈ cs, TabB base mg p.1 p.2) → FnG l.prog w (K w.params) mg base CX0 k fa fd [x] (sp (K w.params) cs))
    (hsp : ∀ (K : PySem.W.Frag) (cs : List (Addr × Addr)) (H : Hp) (a : Addr) (ns : List Int), ns.length ≤ n → (∀ p ∈ cs, H p.2 = some (.tbl #[])) → SqL K H a (ns.map V.int) → sp K cs [.ref a] H (fun v _ => v = .bl true) fun _ _ _ => False) :
    PySem.W.WalkO q loose XP YP l.row.toRowW d [] (fun f vs => PySem.call f vs) := by
  refine Att.attach_call hn hdf fun w s0 s1 mg mb fa o pm cd doc a vs ns G Y ho hd hcd hmg hobj hints hlen hg => ?_
  obtain ⟨fd, cs, hT, nK, hb, hF⟩ := F w mg fa _ (hY w _ Y) G.T.g hmg
  refine law_callTG (cs := cs) (hY w _ Y) G.T.g G.T.b G.T.builtins G.T.nolimit hg (fun p hp => ?_) nK G.T.bmain hobj hints (Nat.le_trans hlen hn2) hr hF hb (fun H hH hS => hsp _ cs H a ns hlen hH hS)
  obtain ⟨y, dd, e1, e2⟩ := hT p hp
  exact PySem.W.tab_of G.T (hY w _ Y) e1 e2
end Lb

set_option Elab.async false
set_option linter.all false
set_option maxRecDepth 100000
set_option maxHeartbeats 4000000
/-! def f(a, *v) that may raise; one contract of two -/
namespace Lb
open PySem PySem.Spec PyProof.Rows L2
theorem FnOk.up {P : Program} {w : World} {K : PySem.W.Frag} {mg : Str → Option Value} {base : Heap} {CX : CXT} {k : Nat} {f : Addr} {fd : FuncData} {ps : List Str} {sp : Sp} (F : L2.FnOk P w K mg base CX0 k f fd ps sp) : L2.FnOk P w K mg base CX k f fd ps sp :=
  ⟨F.len, fun A outer s H args us vs Q E hr e0 hb r h => codeAny_mono (F.run A outer s H args us vs Q E hr e0 hb r h) fun r s' z => by
    rcases r with er | fl
    · exact False.elim z
    · cases fl <;> exact z⟩
theorem FnOk.either {P : Program} {w : World} {K : PySem.W.Frag} {mg : Str → Option Value} {base : Heap} {CX : CXT} {k : Nat} {f : Addr} {fd : FuncData} {ps : List Str} {sp sq : Sp} (F : L2.FnOk P w K mg base CX k f fd ps sp) (G : L2.FnOk P w K mg base CX k f fd ps sq) :
    L2.FnOk P w K mg base CX k f fd ps (fun vs H Q E => sp vs H Q E ∨ sq vs H Q E) :=
  ⟨fun vs H Q E h => h.elim (F.len vs H Q E) (G.len vs H Q E), fun A outer s H args us vs Q E hr e0 hb r h => h.elim (F.run A outer s H args us vs Q E hr e0 hb r) (G.run A outer s H args us vs Q E hr e0 hb r)⟩
theorem star_okX {P : Program} {w : World} {K : PySem.W.Frag} {mg : Str → Option Value} {base : Heap} {x qual : Str} {st : Stmt} {f : Addr} {fd : FuncData} {N ps : List Str} {pv : Str} {k : Nat} {sp : Sp} (F : Fun K x qual st f fd) (S : FnScope N (ps ++ [pv]) (defScope st))
    (hb : ∀ (kV doc pm : Value) (an : Option Addr) (cdv ct : Value) (us rest : List Value), us.length = ps.length → bindArgs (PySem.W.fnOf x qual (defArgs st) (defBody st) (defScope st) .none kV doc pm an cdv ct) ⟨us ++ rest, []⟩ = (newTuple rest >>= fun t => pure (ps.zip us ++ [(pv, t)])))
    (hbody : ∀ (cdv : Value) (A : Around) (outer : List Env) (s : Shared) (H : Hp) (vs : List V) (Q : VK) (E : XK), Room k (A.deeper (envOfC qual (defScope st) s.heap.objs.size f cdv)) → sp vs H Q E →
      ∃ t, PSs (cxOf (L2.CX P w) P w K mg base N qual (defScope st) f cdv A outer s H E) (defBody st) t ∧ t { nx := fun _ H' => Q .non H', rt := Q } (start N vs) H) :
    FnR P w K mg base (L2.CX P w) (k + 1) f (fun vs H Q E => ∃ ws rest, vs = ws ++ rest ∧ ws.length = ps.length ∧ rest.length ≤ sizeLine ∧ ∀ p, H p = Option.none → sp (ws ++ [V.ref p]) (upd H p (.tup rest)) Q E) := by
  obtain ⟨oc, od, kV, doc, pm, an, cdv, ct, osl, rfl, lk, hcd⟩ := F.ex
  exact StX.fn_star lk hcd S StX.cxUp (fun us rest l => hb kV doc pm an cdv ct us rest l) fun A outer s H vs Q E hr h => hbody cdv A outer s H vs Q E hr h
end Lb

set_option Elab.async false
set_option linter.all false
set_option maxRecDepth 100000
set_option maxHeartbeats 4000000
/-! repr of lists and tuples, one within another, that hold instances of own classes -/
namespace Lb
open PySem PySem.Spec PyProof.Rows L2
/-- what is shown: a plain value, an instance, a list, a tuple -/
inductive Tr where
  | lf (t : Str) | ow (t : Str) | ls (l : List Tr) | tp (l : List Tr)
mutual
def Tr.text : Tr → Str
  | .lf t => t
  | .ow t => t
  | .ls l => listText (Tr.texts l)
  | .tp l => tupleText (Tr.texts l)
def Tr.texts : List Tr → List Str
  | [] => []
  | t :: r => t.text :: Tr.texts r
end
mutual
def Tr.sz : Tr → Nat
  | .lf _ => 0
  | .ow _ => 0
  | .ls l => Tr.szs l + 1
  | .tp l => Tr.szs l + 1
def Tr.szs : List Tr → Nat
  | [] => 0
  | t :: r => t.sz + Tr.szs r
end
mutual
def Tr.dep : Tr → Nat
  | .lf _ => 0
  | .ow _ => 0
  | .ls l => Tr.deps l + 1
  | .tp l => Tr.deps l + 1
def Tr.deps : List Tr → Nat
  | [] => 0
  | t :: r => max t.dep (Tr.deps r)
end
/-- a value that is no object, and its text -/
def Lf : V → Str → Prop
  | .non, t => t = "None"
  | .bl true, t => t = "True"
  | .bl false, t => t = "False"
  | .int i, t => i.natAbs.log2 < 1920 ∧ t = (toString i : String)
  | .str x, t => t = reprText x
  | _, _ => False
mutual
def Sh (K : PySem.W.Frag) (O : Addr → Hp → Str → Prop) (H : Hp) : Tr → V → Prop
  | .lf t, v => Lf v t
  | .ow t, v => ∃ a, v = .ref a ∧ O a H t
  | .ls l, v => ∃ a xs, v = .ref a ∧ SqL K H a xs ∧ Shs K O H l xs
  | .tp l, v => ∃ a xs, v = .ref a ∧ SqT K H a xs ∧ Shs K O H l xs
def Shs (K : PySem.W.Frag) (O : Addr → Hp → Str → Prop) (H : Hp) : List Tr → List V → Prop
  | [], xs => xs = []
  | t :: ts, xs => ∃ x r, xs = x :: r ∧ Sh K O H t x ∧ Shs K O H ts r
end
section
variable {K : PySem.W.Frag} {O : Addr → Hp → Str → Prop} {H H' : Hp}
theorem texts_map : ∀ l : List Tr, Tr.texts l = l.map Tr.text
  | [] => rfl
  | t :: r => by simp only [Tr.texts, List.map_cons, texts_map r]
theorem texts_len (l : List Tr) : (Tr.texts l).length = l.length := by rw [texts_map, List.length_map]
theorem texts_get {l : List Tr} {i : Nat} {T : Tr} (h : l[i]? = some T) : (Tr.texts l)[i]? = some T.text := by rw [texts_map, List.getElem?_map, h]; rfl
theorem sz_le : ∀ {l : List Tr} {T : Tr}, T ∈ l → T.sz ≤ Tr.szs l
  | t :: r, T, h => by
    simp only [Tr.szs]
    rcases List.mem_cons.mp h with e | h
    · rw [e]; omega
    · have := sz_le h; omega
theorem dep_le : ∀ {l : List Tr} {T : Tr}, T ∈ l → T.dep ≤ Tr.deps l
  | t :: r, T, h => by
    simp only [Tr.deps]
    rcases List.mem_cons.mp h with e | h
    · rw [e]; omega
    · have := dep_le h; omega
theorem Shs.get : ∀ {l : List Tr} {xs : List V} {i : Nat} {T : Tr}, Shs K O H l xs → l[i]? = some T → ∃ x, xs[i]? = some x ∧ Sh K O H T x
  | [], _, _, _, _, e => by simp at e
  | t :: r, xs, i, T, h, e => by
    simp only [Shs] at h
    obtain ⟨x, q, rfl, h1, h2⟩ := h
    cases i with
    | zero => simp at e; subst e; exact ⟨x, rfl, h1⟩
    | succ i =>
      obtain ⟨y, e1, e2⟩ := Shs.get h2 (i := i) (by simpa using e)
      exact ⟨y, by simpa using e1, e2⟩
theorem Shs.len : ∀ {l : List Tr} {xs : List V}, Shs K O H l xs → xs.length = l.length
  | [], _, h => by simp only [Shs] at h; rw [h]; rfl
  | t :: r, xs, h => by
    simp only [Shs] at h
    obtain ⟨x, q, rfl, h1, h2⟩ := h
    simp only [List.length_cons, Shs.len h2]
mutual
theorem Sh.same (hO : ∀ a t, O a H t → O a H' t) (e : Same H H') : ∀ (T : Tr) (v : V), Sh K O H T v → Sh K O H' T v
  | .lf _, _, h => by simp only [Sh] at h ⊢; exact h
  | .ow _, _, h => by simp only [Sh] at h ⊢; obtain ⟨a, q, o⟩ := h; exact ⟨a, q, hO _ _ o⟩
  | .ls l, _, h => by simp only [Sh] at h ⊢; obtain ⟨a, xs, q, o, z⟩ := h; exact ⟨a, xs, q, e.seq o, Shs.same hO e l xs z⟩
  | .tp l, _, h => by simp only [Sh] at h ⊢; obtain ⟨a, xs, q, o, z⟩ := h; exact ⟨a, xs, q, SqT.ext o e, Shs.same hO e l xs z⟩
theorem Shs.same (hO : ∀ a t, O a H t → O a H' t) (e : Same H H') : ∀ (l : List Tr) (xs : List V), Shs K O H l xs → Shs K O H' l xs
  | [], _, h => by simp only [Shs] at h ⊢; exact h
  | t :: r, _, h => by simp only [Shs] at h ⊢; obtain ⟨x, q, w, h1, h2⟩ := h; exact ⟨x, q, w, Sh.same hO e t x h1, Shs.same hO e r q h2⟩
end
end
/-- what is asked of the texts of other objects: they stay while what is known stays, and are those of instances or dicts -/
structure OwnT (O : Addr → Hp → Str → Prop) : Prop where
  mono : ∀ a H H' t, Same H H' → O a H t → O a H' t
  ins : ∀ a H t, O a H t → (∃ C dx fs, H a = some (.ins C dx fs)) ∨ ∃ kvs, H a = some (.dK kvs)
section
variable {X : Cx} {O : Addr → Hp → Str → Prop} {pins : List (Addr × Obj)} {σ : L2.St} {H : Hp} {s : Shared}
theorem at_list (I : Inv X pins σ H s) {a : Addr} {xs : List V} (h : SqL X.K H a xs) : ∃ (its : List Value) (o : Obj) (n : Nat), Vals xs its ∧ s.heap.get? a = some o ∧ o.cls = .type "list" ∧ o.data = .seq its.toArray n := by
  obtain ⟨its, r, ⟨o, n, e, c, _, d⟩, _⟩ := I.list h
  exact ⟨its, o, n, r, e, c, d⟩
theorem at_tup (I : Inv X pins σ H s) {a : Addr} {xs : List V} (h : SqT X.K H a xs) : ∃ (its : List Value) (o : Obj) (n : Nat), Vals xs its ∧ s.heap.get? a = some o ∧ o.cls = .type "tuple" ∧ o.data = .seq its.toArray n := by
  rcases h with h | ⟨o, its, n, hk, hc, hd, hs, r⟩
  · obtain ⟨_, its, r, o, e, c, n, d⟩ := h.ok I.hok
    exact ⟨its, o, n, r, e, c, d⟩
  · exact ⟨its.toList, o, n, r, I.kIn a o hk, hc, by simpa using hd⟩
theorem cls_list (I : Inv X pins σ H s) {a : Addr} {xs : List V} (h : SqL X.K H a xs) : ∃ o, s.heap.get? a = some o ∧ o.cls = .type "list" :=
  let ⟨_, o, _, _, e, c, _⟩ := at_list I h
  ⟨o, e, c⟩
theorem cls_tup (I : Inv X pins σ H s) {a : Addr} {xs : List V} (h : SqT X.K H a xs) : ∃ o, s.heap.get? a = some o ∧ o.cls = .type "tuple" :=
  let ⟨_, o, _, _, e, c, _⟩ := at_tup I h
  ⟨o, e, c⟩
theorem cls_own (I : Inv X pins σ H s) (hO : OwnT O) {a : Addr} {t : Str} (h : O a H t) : ∃ o, s.heap.get? a = some o ∧ o.cls ≠ .type "list" ∧ o.cls ≠ .type "tuple" := by
  rcases hO.ins _ _ _ h with ⟨C, dx, fs, e⟩ | ⟨kvs, e⟩
  · obtain ⟨_, _, _, g, _⟩ := I.hok a _ e
    exact ⟨_, g, by simp [PySem.W.instObj], by simp [PySem.W.instObj]⟩
  · obtain ⟨_, _, _, _, o, _, _, g, h2, _⟩ := dk_of I.hok e
    exact ⟨o, g, by rw [h2.1]; decide, by rw [h2.1]; decide⟩
theorem list_one (I : Inv X pins σ H s) {a : Addr} {xs ys : List V} (h : SqL X.K H a xs) (h' : SqL X.K H a ys) : xs = ys := by
  obtain ⟨its, o, n, r, e, _, d⟩ := at_list I h
  obtain ⟨its', o', n', r', e', _, d'⟩ := at_list I h'
  rw [e] at e'
  cases e'
  rw [d] at d'
  cases d'
  exact r.inj r'
theorem tup_one (I : Inv X pins σ H s) {a : Addr} {xs ys : List V} (h : SqT X.K H a xs) (h' : SqT X.K H a ys) : xs = ys := by
  obtain ⟨its, o, n, r, e, _, d⟩ := at_tup I h
  obtain ⟨its', o', n', r', e', _, d'⟩ := at_tup I h'
  rw [e] at e'
  cases e'
  rw [d] at d'
  cases d'
  exact r.inj r'
theorem apartC {h : Heap} {a : Addr} {c d : Value} (h1 : ∃ o, h.get? a = some o ∧ o.cls = c) (h2 : ∃ o, h.get? a = some o ∧ o.cls = d) : c = d := by
  obtain ⟨o, e, z⟩ := h1
  obtain ⟨o', e', z'⟩ := h2
  rw [e] at e'
  cases e'
  rw [← z, ← z']
mutual
theorem sz_one (I : Inv X pins σ H s) (hO : OwnT O) : ∀ (T T' : Tr) (v : V), Sh X.K O H T v → Sh X.K O H T' v → T.sz = T'.sz
  | .lf _, .lf _, _, _, _ => by simp only [Tr.sz]
  | .lf _, .ow _, _, _, _ => by simp only [Tr.sz]
  | .ow _, .lf _, _, _, _ => by simp only [Tr.sz]
  | .ow _, .ow _, _, _, _ => by simp only [Tr.sz]
  | .lf _, .ls _, _, h, h' => by simp only [Sh] at h h'; obtain ⟨a, xs, rfl, _⟩ := h'; exact h.elim
  | .lf _, .tp _, _, h, h' => by simp only [Sh] at h h'; obtain ⟨a, xs, rfl, _⟩ := h'; exact h.elim
  | .ls _, .lf _, _, h', h => by simp only [Sh] at h h'; obtain ⟨a, xs, rfl, _⟩ := h'; exact h.elim
  | .tp _, .lf _, _, h', h => by simp only [Sh] at h h'; obtain ⟨a, xs, rfl, _⟩ := h'; exact h.elim
  | .ow _, .ls _, _, h, h' => by
    simp only [Sh] at h h'
    obtain ⟨a, rfl, o⟩ := h
    obtain ⟨b, xs, e, q, _⟩ := h'
    cases e
    obtain ⟨o1, e1, c1, c2⟩ := cls_own I hO o
    exact absurd (apartC ⟨o1, e1, rfl⟩ (cls_list I q)) c1
  | .ow _, .tp _, _, h, h' => by
    simp only [Sh] at h h'
    obtain ⟨a, rfl, o⟩ := h
    obtain ⟨b, xs, e, q, _⟩ := h'
    cases e
    obtain ⟨o1, e1, c1, c2⟩ := cls_own I hO o
    exact absurd (apartC ⟨o1, e1, rfl⟩ (cls_tup I q)) c2
  | .ls _, .ow _, _, h', h => by
    simp only [Sh] at h h'
    obtain ⟨a, rfl, o⟩ := h
    obtain ⟨b, xs, e, q, _⟩ := h'
    cases e
    obtain ⟨o1, e1, c1, c2⟩ := cls_own I hO o
    exact absurd (apartC ⟨o1, e1, rfl⟩ (cls_list I q)) c1
  | .tp _, .ow _, _, h', h => by
    simp only [Sh] at h h'
    obtain ⟨a, rfl, o⟩ := h
    obtain ⟨b, xs, e, q, _⟩ := h'
    cases e
    obtain ⟨o1, e1, c1, c2⟩ := cls_own I hO o
    exact absurd (apartC ⟨o1, e1, rfl⟩ (cls_tup I q)) c2
  | .ls _, .tp _, _, h, h' => by
    simp only [Sh] at h h'
    obtain ⟨a, xs, rfl, o, _⟩ := h
    obtain ⟨b, ys, e, q, _⟩ := h'
    cases e
    exact absurd (apartC (cls_list I o) (cls_tup I q)) (by simp)
  | .tp _, .ls _, _, h', h => by
    simp only [Sh] at h h'
    obtain ⟨a, xs, rfl, o, _⟩ := h
    obtain ⟨b, ys, e, q, _⟩ := h'
    cases e
    exact absurd (apartC (cls_list I o) (cls_tup I q)) (by simp)
  | .ls l, .ls l', _, h, h' => by
    simp only [Sh] at h h'
    obtain ⟨a, xs, rfl, o, z⟩ := h
    obtain ⟨b, ys, e, q, z'⟩ := h'
    cases e
    have := list_one I o q
    subst this
    simp only [Tr.sz, szs_one I hO l l' xs z z']
  | .tp l, .tp l', _, h, h' => by
    simp only [Sh] at h h'
    obtain ⟨a, xs, rfl, o, z⟩ := h
    obtain ⟨b, ys, e, q, z'⟩ := h'
    cases e
    have := tup_one I o q
    subst this
    simp only [Tr.sz, szs_one I hO l l' xs z z']
theorem szs_one (I : Inv X pins σ H s) (hO : OwnT O) : ∀ (l l' : List Tr) (xs : List V), Shs X.K O H l xs → Shs X.K O H l' xs → Tr.szs l = Tr.szs l'
  | [], [], _, _, _ => rfl
  | [], _ :: _, _, h, h' => by
    simp only [Shs] at h h'
    obtain ⟨x, r, e, _⟩ := h'
    rw [h] at e
    cases e
  | _ :: _, [], _, h', h => by
    simp only [Shs] at h h'
    obtain ⟨x, r, e, _⟩ := h'
    rw [h] at e
    cases e
  | t :: l, t' :: l', _, h, h' => by
    simp only [Shs] at h h'
    obtain ⟨x, r, rfl, h1, h2⟩ := h
    obtain ⟨y, q, e, h3, h4⟩ := h'
    cases e
    simp only [Tr.szs, sz_one I hO t t' x h1 h3, szs_one I hO l l' r h2 h4]
end
end
end Lb

set_option Elab.async false
set_option linter.all false
set_option maxRecDepth 100000
set_option maxHeartbeats 4000000
/-! .. how it runs -/
namespace Lb
open PySem PySem.Spec PyProof.Rows L2
open PySem.Builtin
/-- where a repr runs: within m others -/
structure AtR (X : Cx) (A : Around) (g : List Code) (m : Nat) : Prop where
  gd : A.guards = some g
  fr : A.frames = X.A.frames
  hd : A.handled = X.A.handled
  dp : A.depth ≤ X.A.depth + m
  un : A.units ≤ X.A.units + m
theorem AtR.loop {X : Cx} {A : Around} {g : List Code} {m : Nat} (h : AtR X A g m) (args : Args) : AtR X (A.under (.builtin "list.__repr__.loop" args)) (.builtin "list.__repr__.loop" args :: g) (m + 1) := by
  have w1 : (Code.builtin "list.__repr__.loop" args).weight ≤ 1 := by
    simp [Code.weight, Code.isCreation, Code.isGuard, Code.isCaller, Code.frames, Code.isFrame, guardIds]
  have h1 := h.dp
  have h2 := h.un
  refine ⟨guards_under_guard (isGuard_list_loop _) h.gd, ?_, h.hd, ?_, ?_⟩
  · have : (A.under (.builtin "list.__repr__.loop" args)).frames = A.frames := by simp [Around.under, Code.envs, Code.isFrame, pushEnvs]
    rw [this]
    exact h.fr
  · show A.depth + _ ≤ _
    omega
  · rw [units_under_list_loop]
    omega
theorem AtR.tup {X : Cx} {A : Around} {g : List Code} {m : Nat} (h : AtR X A g m) {id : String} {args : Args} (hi : id = "tuple.__repr__" ∨ id = "tuple.__repr__.under") : AtR X (A.under (.builtin id args)) (.builtin id args :: g) (m + 1) := by
  have w1 : (Code.builtin id args).weight ≤ 1 := by
    rcases hi with rfl | rfl <;> simp [Code.weight, Code.isCreation, Code.isGuard, Code.isCaller, Code.frames, Code.isFrame, guardIds]
  have hcg : (Code.builtin id args).isGuard = true := by
    rcases hi with rfl | rfl
    · exact isGuard_tuple_repr _
    · exact isGuard_tuple_repr_under _
  have hcu : (A.under (.builtin id args)).units = A.units + 1 := by
    rcases hi with rfl | rfl
    · exact units_under_tuple_repr _ _
    · exact units_under_tuple_repr_under _ _
  have h1 := h.dp
  have h2 := h.un
  refine ⟨guards_under_guard hcg h.gd, ?_, h.hd, ?_, ?_⟩
  · have : (A.under (.builtin id args)).frames = A.frames := by
      rcases hi with rfl | rfl <;> simp [Around.under, Code.envs, Code.isFrame, pushEnvs]
    rw [this]
    exact h.fr
  · show A.depth + _ ≤ _
    omega
  · rw [hcu]
    omega
/-- what is being shown is greater than n -/
def Above (K : PySem.W.Frag) (O : Addr → Hp → Str → Prop) (H : Hp) (g : List Code) (n : Nat) : Prop :=
  ∀ id v rest kw, Code.builtin id ⟨v :: rest, kw⟩ ∈ g → ∃ c T, v = .ref c ∧ Sh K O H T (.ref c) ∧ n < T.sz
section
variable {X : Cx} {O : Addr → Hp → Str → Prop} {pins : List (Addr × Obj)} {σ : L2.St} {H : Hp} {s : Shared} {D : Nat}
theorem Above.same {K : PySem.W.Frag} {H H' : Hp} {g : List Code} {n : Nat} (hO : OwnT O) (e : Same H H') (h : Above K O H g n) : Above K O H' g n := fun id v rest kw m =>
  let ⟨c, T, q, z, l⟩ := h id v rest kw m
  ⟨c, T, q, Sh.same (fun a t o => hO.mono _ _ _ _ e o) e T _ z, l⟩
theorem Above.le {K : PySem.W.Frag} {H : Hp} {g : List Code} {n k : Nat} (h : Above K O H g n) (l : k ≤ n) : Above K O H g k := fun id v rest kw m =>
  let ⟨c, T, q, z, x⟩ := h id v rest kw m
  ⟨c, T, q, z, by omega⟩
theorem Above.clear {g : List Code} {T : Tr} {b : Addr} (I : Inv X pins σ H s) (hO : OwnT O) (h : Above X.K O H g T.sz) (hT : Sh X.K O H T (.ref b)) : Clear g b := fun id v rest kw m e => by
  obtain ⟨c, T', q, z, l⟩ := h id v rest kw m
  rw [q] at e
  cases e
  have := sz_one I hO T T' _ hT z
  omega
theorem Above.cons {K : PySem.W.Frag} {g : List Code} {n : Nat} {id : String} {a : Addr} {rest : List Value} {kw : List (Str × Value)} {T : Tr} (h : Above K O H g n) (hT : Sh K O H T (.ref a)) (l : n < T.sz) :
    Above K O H (.builtin id ⟨.ref a :: rest, kw⟩ :: g) n := fun id' v rest' kw' m => by
  rcases List.mem_cons.mp m with e | m
  · cases e
    exact ⟨a, T, rfl, hT, l⟩
  · exact h _ _ _ _ m
/-- a tree is shown -/
def RpT (X : Cx) (O : Addr → Hp → Str → Prop) (D : Nat) (T : Tr) : Prop :=
  ∀ (base : Nat) (A : Around) (g : List Code) (m : Nat) (pins : List (Addr × Obj)) (σ : L2.St) (H : Hp) (s : Shared) (x : V) (u : Value) (Q : Str → Shared → Prop), Sh X.K O H T x → base + T.text.length ≤ sizeLine → AtR X A g m → m + T.dep ≤ D →
    Above X.K O H g T.sz → Inv X pins σ H s → RelV x u → (∀ s' H2, Same H H2 → Inv X pins σ H2 s' → Q T.text s') → wpAny (model X.prog X.w) A (pyReprUnder base u) Q X.xe s
theorem strs_of : ∀ {ts : List Str} {its : List Value}, Vals (ts.map V.str) its → ∃ l : List (Str × Tok), its = strValues l ∧ l.map (·.1) = ts
  | [], _, h => by
    cases h
    exact ⟨[], rfl, rfl⟩
  | t :: r, _, h => by
    cases h with
    | cons h1 h2 =>
      obtain ⟨k, rfl⟩ := (show ∃ k, _ = Value.str t k from h1)
      obtain ⟨l, e1, e2⟩ := strs_of h2
      exact ⟨(t, k) :: l, by rw [e1]; rfl, by rw [← e2]; rfl⟩
theorem upd_same_hp {G H : Hp} {P : Addr} {o : HO} (h : Same G H) (hP : G P = none) : Same G (upd H P o) := fun b u e => by
  have : b ≠ P := fun z => by rw [z, hP] at e; cases e
  rw [upd_ne this]
  exact h b u e
theorem loopT {m base : Nat} {a P : Addr} {l : List Tr} {xs : List V} {A : Around} {g : List Code} {G : Hp} {R : Result → Shared → Prop} (hO : OwnT O)
    (hT : ∀ T ∈ l, RpT X O D T) (hA : AtR X A g m) (hd : ∀ T ∈ l, m + 1 + T.dep ≤ D) (hL : SqL X.K G a xs) (hS : Shs X.K O G l xs) (hab : Above X.K O G g (Tr.szs l + 1)) (hP : G P = none)
    (hsz : base + (listText (Tr.texts l)).length ≤ sizeLine) (hE : ∀ e s', X.xe e s' → R (.error e) s') (hR : ∀ H' s' u, Same G H' → Inv X pins σ H' s' → R (.ok (.ret (.str (listText (Tr.texts l)) u))) s') :
    ∀ (k i : Nat) (s : Shared) (H : Hp), l.length - i = k → i ≤ l.length → Same G H → H P = some (.lst (((Tr.texts l).take i).map V.str)) → Inv X pins σ H s →
    codeAny (model X.prog X.w) A (.builtin "list.__repr__.loop" ⟨[.ref a, rawInt i, .ref P, rawInt ((base + piled ((Tr.texts l).take i) : Nat) : Int)], []⟩) R s := by
  have hX : (listText (Tr.texts l)).length = (textFrom 0 "[" (Tr.texts l)).length + 1 := by
    show (textFrom 0 "[" (Tr.texts l) ++ "]").length = _
    rw [strLen_append]; rfl
  have hLn := textFrom_len (Tr.texts l) 0 "["
  have hln := texts_len l
  have hsz1 : l.length ≤ sizeLine := by
    have h1 := hLn.1
    rw [if_neg (Nat.lt_irrefl 0), hln] at h1
    omega
  have hsz2 : ∀ t ∈ Tr.texts l, t.length ≤ sizeLine := fun t ht => by
    have h2 := hLn.2.1 t ht
    omega
  have hsz3 : (listText (Tr.texts l)).length ≤ sizeLine := by omega
  have hp3 := piled_le_listText (Tr.texts l)
  have hSl := hS.len
  have hShT : Sh X.K O G (.ls l) (.ref a) := by
    simp only [Sh]
    exact ⟨a, xs, rfl, hL, hS⟩
  intro k
  induction k with
  | zero =>
    intro i s H hk hi e hPl I
    have hin : i = l.length := by omega
    obtain ⟨its, o, n, r, ea, _, da⟩ := at_list I (e.seq hL)
    obtain ⟨_, pts, pn, pr, _, ep⟩ := I.lstM hPl
    refine codeAny_builtin F.entry_list_repr_loop ?_
    show wpAny _ _ («list.__repr__.loop» ⟨[.ref a, .int i 0, .ref P, .int ((base + piled ((Tr.texts l).take i) : Nat) : Int) 0], []⟩) _ _ s
    rw [repr_loop_tree]
    refine wpAny_bind (wpAny_listItems ea da ?_)
    have hnone : its.toArray[(i : Int).toNat]? = none := by
      have := r.length
      simp only [Int.toNat_natCast, List.getElem?_toArray]
      exact List.getElem?_eq_none_iff.mpr (by omega)
    simp only [hnone]
    unfold reprEnd
    refine wpAny_bind (wpAny_listItems ep rfl ?_)
    obtain ⟨done, rfl, hdone⟩ := strs_of pr
    rw [List.toList_toArray, repr_fold]
    refine wpAny_bind (wpAny_pure ?_)
    have hall : done.map (·.1) = Tr.texts l := by rw [hdone, hin, ← hln, List.take_length]
    rw [hall]
    exact wpAny_bind (wpAny_mkStr (wpAny_pure (hR H _ _ e (I.tok _))) hsz3)
  | succ k ih =>
    intro i s H hk hi e hPl I
    have hlt : i < l.length := by omega
    have hget : l[i]? = some l[i] := by simp [hlt]
    obtain ⟨x, hx, hshx⟩ := hS.get hget
    have ht := texts_get hget
    have hp1 := piled_take_succ ht
    have hp2 := piled_take_le (Tr.texts l) (i + 1)
    have hmem : l[i] ∈ l := List.getElem_mem hlt
    obtain ⟨its, o, n, r, ea, _, da⟩ := at_list I (e.seq hL)
    obtain ⟨u, hu, ru⟩ := r.get hx
    refine codeAny_builtin F.entry_list_repr_loop ?_
    show wpAny _ _ («list.__repr__.loop» ⟨[.ref a, .int i 0, .ref P, .int ((base + piled ((Tr.texts l).take i) : Nat) : Int) 0], []⟩) _ _ s
    rw [repr_loop_tree]
    refine wpAny_bind (wpAny_listItems ea da ?_)
    have hsome : its.toArray[(i : Int).toNat]? = some u := by
      simp only [Int.toNat_natCast, List.getElem?_toArray]
      exact hu
    simp only [hsome]
    rw [Int.toNat_natCast]
    have hszT := sz_le hmem
    have mono : ∀ b t, O b G t → O b H t := fun b t z => hO.mono _ _ _ _ e z
    refine wpAny_bind (wpAny_holding (wpAny_mono (hT _ hmem (base + piled ((Tr.texts l).take i) + 1) _ _ (m + 1) pins σ H s x u _ (Sh.same mono e _ _ hshx) (by omega) (hA.loop _) (by have := hd _ hmem; omega)
      (((hab.le (by omega)).same hO e).cons (Sh.same mono e _ _ hShT) (by simp only [Tr.sz]; omega)) I ru fun s' H2 e2 I2 => ?_) (fun _ _ z => z) fun _ _ z => hE _ _ z))
    refine wpAny_bind (wpAny_mkStr ?_ (hsz2 _ (List.mem_of_getElem? ht)))
    refine wpAny_bind ?_
    show wpAny _ _ (updateSeq P _) _ _ _
    have hP2 := e2 _ _ hPl
    obtain ⟨zz, pts, pn, pr, pl, ep⟩ := I2.lstM hP2
    rw [List.length_map] at zz pl
    refine wpAny_updateSeq ep rfl (wpAny_pure ⟨F.quiet_list_repr_loop _, ?_⟩) (by simp only [List.size_toArray]; omega)
    have e1 : ((i : Int) + 1) = ((i + 1 : Nat) : Int) := by omega
    have e3 : base + piled ((Tr.texts l).take i) + ((l[i]).text.length + 2) = base + piled ((Tr.texts l).take (i + 1)) := by omega
    rw [e1, e3]
    have htk : (Tr.texts l).take (i + 1) = (Tr.texts l).take i ++ [(l[i]).text] := by simp [List.take_add_one, ht]
    refine ih (i + 1) _ (upd H2 P (.lst (((Tr.texts l).take (i + 1)).map V.str))) (by omega) hlt (upd_same_hp (e.trans e2) hP) upd_same ?_
    refine I2.lset hP2 ep (its' := pts ++ [.str (l[i]).text s'.toks]) (by simp) ?_ ?_
    · rw [htk, List.map_append]
      exact pr.append (.cons ⟨_, rfl⟩ .nil)
    · rw [List.length_map, List.length_take]
      omega
end
end Lb

set_option Elab.async false
set_option linter.all false
set_option maxRecDepth 100000
set_option maxHeartbeats 4000000
/-! .. the whole, and repr(x) of it -/
namespace Lb
open PySem PySem.Spec PyProof.Rows L2
open PySem.Builtin
section
variable {X : Cx} {O : Addr → Hp → Str → Prop} {pins : List (Addr × Obj)} {σ : L2.St} {H : Hp} {s : Shared} {D : Nat}
/-- the body of list.__repr__, the list not empty -/
theorem bodyL {m base : Nat} {a : Addr} {t0 : Tr} {l0 : List Tr} {xs : List V} {A : Around} {g : List Code} {R : Result → Shared → Prop} (hO : OwnT O)
    (hT : ∀ T ∈ t0 :: l0, RpT X O D T) (hA : AtR X A g m) (hd : ∀ T ∈ t0 :: l0, m + 1 + T.dep ≤ D) (hL : SqL X.K H a xs) (hS : Shs X.K O H (t0 :: l0) xs) (hab : Above X.K O H g (Tr.ls (t0 :: l0)).sz)
    (hsz : base + (listText (Tr.texts (t0 :: l0))).length ≤ sizeLine) (I : Inv X pins σ H s) (hE : ∀ e s', X.xe e s' → R (.error e) s')
    (hR : ∀ H' s' u, Same H H' → Inv X pins σ H' s' → R (.ok (.ret (.str (listText (Tr.texts (t0 :: l0))) u))) s') :
    wpAny (model X.prog X.w) A.in1 (Builtin.listReprAt base ⟨[.ref a], []⟩) (fun fin s' => match fin with | .done f => R (.ok f) s' | .again c' => c'.quiet = true ∧ codeAny (model X.prog X.w) A c' R s') (fun e s' => R (.error e) s') s := by
  have hSh : Sh X.K O H (.ls (t0 :: l0)) (.ref a) := by
    simp only [Sh]
    exact ⟨a, xs, rfl, hL, hS⟩
  have hcl := hab.clear I hO hSh
  obtain ⟨its, o, n, r, ea, _, da⟩ := at_list I hL
  have ln := hS.len
  have ln2 := r.length
  cases its with
  | nil =>
    rw [ln] at ln2
    simp at ln2
  | cons u us =>
    refine wpAny_list_repr_head (A := A.in1) hA.gd (fun v rest kw hm => listSameRef_of_ne (hcl _ _ _ _ hm)) ea da ?_
    refine wpAny_bind (m := newList []) (wpAny_newObj_type ?_)
    refine wpAny_pure ⟨F.quiet_list_repr_loop _, ?_⟩
    have I2 := I.lnew (its := []) (ys := []) (t' := s.toks) .nil (by simp)
    exact loopT hO hT hA hd hL hS (hab.le (by simp only [Tr.sz]; omega)) I.fresh hsz hE hR _ 0 _ _ rfl (Nat.zero_le _) (upd_same_hp (Same.refl H) I.fresh) upd_same I2
theorem tupT {m : Nat} {A : Around} {g : List Code} {Y : Hp} (hO : OwnT O) (hA : AtR X A g m) (hab0 : ∀ T', Tr.sz T' ≤ Tr.sz T' ) : ∀ (l : List Tr) (us : List Value) (xs : List V) (acc : Array Str) (n : Nat) (s : Shared) (H : Hp) (Q : (Array Str × Nat) → Shared → Prop),
    (∀ T ∈ l, RpT X O D T) → (∀ T ∈ l, m + T.dep ≤ D) → (∀ T ∈ l, Above X.K O H g T.sz) → Shs X.K O H l xs → Vals xs us → n + piled (Tr.texts l) ≤ sizeLine → Inv X pins σ H s →
    (∀ s' H2, Same H H2 → Inv X pins σ H2 s' → Q ⟨acc ++ (Tr.texts l).toArray, n + piled (Tr.texts l)⟩ s') → wpAny (model X.prog X.w) A (forIn us (⟨acc, n⟩ : (Array Str × Nat)) tupBody) Q X.xe s := by
  intro l
  induction l with
  | nil =>
    intro us xs acc n s H Q hT hd hab hS r hn I h
    simp only [Shs] at hS
    subst hS
    cases r
    have h0 := h s H (Same.refl H) I
    simp only [List.forIn_nil]
    exact wpAny_pure (by simpa [piled, Tr.texts] using h0)
  | cons T l ih =>
    intro us xs acc n s H Q hT hd hab hS r hn I h
    simp only [Shs] at hS
    obtain ⟨x, xs', rfl, hx, hxs⟩ := hS
    cases r with
    | @cons _ u _ us' ru rus =>
      simp only [Tr.texts] at hn h
      rw [piled_cons] at hn
      rw [List.forIn_cons]
      refine wpAny_bind (wpAny_bind (hT T List.mem_cons_self (n + 1) A g m pins σ H s x u _ hx (by omega) hA (hd T List.mem_cons_self) (hab T List.mem_cons_self) I ru fun s1 H1 e1 I1 => wpAny_pure ?_))
      refine ih us' xs' (acc.push T.text) (n + (T.text.length + 2)) s1 H1 Q (fun T' m' => hT T' (List.mem_cons_of_mem _ m')) (fun T' m' => hd T' (List.mem_cons_of_mem _ m')) (fun T' m' => (hab T' (List.mem_cons_of_mem _ m')).same hO e1) (Shs.same (fun a t z => hO.mono _ _ _ _ e1 z) e1 _ _ hxs) rus (by omega) I1 fun s2 H2 e2 I2 => ?_
      have h1 := h s2 H2 (e1.trans e2) I2
      have e : n + piled (T.text :: Tr.texts l) = n + (T.text.length + 2) + piled (Tr.texts l) := by rw [piled_cons]; omega
      rw [e] at h1
      simpa using h1
/-- the body of tuple.__repr__ -/
theorem bodyT {m base : Nat} {a : Addr} {l : List Tr} {xs : List V} {A : Around} {g : List Code} {R : Result → Shared → Prop} {id : String} {rest : List Value} (hi : id = "tuple.__repr__" ∨ id = "tuple.__repr__.under") (hO : OwnT O)
    (hT : ∀ T ∈ l, RpT X O D T) (hA : AtR X A g m) (hd : ∀ T ∈ l, m + 1 + T.dep ≤ D) (hL : SqT X.K H a xs) (hS : Shs X.K O H l xs) (hab : Above X.K O H g (Tr.tp l).sz)
    (hsz : base + (tupleText (Tr.texts l)).length ≤ sizeLine) (I : Inv X pins σ H s) (hE : ∀ e s', X.xe e s' → R (.error e) s')
    (hR : ∀ H' s' u, Same H H' → Inv X pins σ H' s' → R (.ok (.ret (.str (tupleText (Tr.texts l)) u))) s') :
    wpOwn (model X.prog X.w) A (.builtin id ⟨.ref a :: rest, []⟩) (Builtin.tupleReprAt base ⟨[.ref a], []⟩) (fun fin s' => match fin with | .done f => R (.ok f) s' | .again c' => c'.quiet = true ∧ codeAny (model X.prog X.w) A c' R s') (fun e s' => R (.error e) s') s := by
  have hSh : Sh X.K O H (.tp l) (.ref a) := by
    simp only [Sh]
    exact ⟨a, xs, rfl, hL, hS⟩
  have hcl := hab.clear I hO hSh
  obtain ⟨its, o, n, r, ea, _, da⟩ := at_tup I hL
  have ln := hS.len
  have ln2 := r.length
  have ln3 := texts_len l
  have hlen : (Tr.texts l).length = its.length := by omega
  have hp := piled_le_tupleText (Tr.texts l)
  have hsz0 : (tupleText (Tr.texts l)).length ≤ sizeLine := by omega
  rw [tuple_repr_tree, tupleReprUnderWay_eq]
  refine wpOwn_bind (wpOwn_stackTailAny hA.gd (tupGuardF_off _) (tupGuardF_pos _) ?_)
  have hn : (g.any fun c => tupGuardF (.ref a) (c, default)) = false := by
    rw [List.any_eq_false]
    intro c hcm
    rw [tupGuardF_of_clear hcl c hcm]
    exact Bool.false_ne_true
  rw [hn]
  refine wpOwn_of_wpAny ?_
  show wpAny _ _ (tupleReprRest base (.ref a)) _ _ s
  unfold tupleReprRest Builtin.Tuple.tupleItemsOf
  refine wpAny_bind (wpAny_bind (wpAny_seqItems ea da (wpAny_pure ?_)))
  rw [← Array.forIn_toList, List.toList_toArray]
  refine wpAny_bind (wpAny_mono (tupT (m := m + 1) (Y := H) hO (hA.tup hi) (fun _ => Nat.le_refl _) l its xs _ _ s H _ hT hd (fun T hm => (hab.le (by have := sz_le hm; simp only [Tr.sz]; omega)).cons hSh (by have := sz_le hm; simp only [Tr.sz]; omega)) hS r (by omega) I fun s' H2 e2 I2 => ?_) (fun _ _ z => z) fun _ _ z => hE _ _ z)
  refine wpAny_bind (wpAny_mkStr (wpAny_pure ?_) (by simpa [tupleText, hlen] using hsz0))
  have h1 := hR H2 _ s'.toks e2 (I2.tok (s'.toks + 1))
  simpa [tupleText, hlen] using h1
theorem rp_leaf {t : Str} : RpT X O D (.lf t) := by
  intro base A g m pins σ H s x u Q hS hz hA hd hab I r hQ
  simp only [Sh] at hS
  simp only [Tr.text] at hz hQ
  cases x with
  | non =>
    cases (show u = Value.none from r)
    rw [show t = ("None" : Str) from hS] at hz hQ
    exact ReprIs.none base hz A _ s Q fun tk => hQ _ H (Same.refl H) (I.tok tk)
  | bl b =>
    cases (show u = Value.bool b from r)
    cases b with
    | true =>
      rw [show t = ("True" : Str) from hS] at hz hQ
      exact ReprIs.bool (prog := X.prog) (w := X.w) true base hz A _ s Q fun tk => hQ _ H (Same.refl H) (I.tok tk)
    | false =>
      rw [show t = ("False" : Str) from hS] at hz hQ
      exact ReprIs.bool (prog := X.prog) (w := X.w) false base hz A _ s Q fun tk => hQ _ H (Same.refl H) (I.tok tk)
  | int i =>
    obtain ⟨k, rfl⟩ := (show ∃ k, u = Value.int i k from r)
    obtain ⟨hi, e⟩ := (show i.natAbs.log2 < 1920 ∧ t = (toString i : String) from hS)
    rw [e] at hz hQ
    exact ReprIs.int k hi base hz A _ s Q fun tk => hQ _ H (Same.refl H) (I.tok tk)
  | str y =>
    obtain ⟨k, rfl⟩ := (show ∃ k, u = Value.str y k from r)
    rw [show t = reprText y from hS] at hz hQ
    exact ReprIs.str y k (by omega) base hz A _ s Q fun tk => hQ _ H (Same.refl H) (I.tok tk)
  | byt y => exact hS.elim
  | flt y => exact hS.elim
  | ty y => exact hS.elim
  | ref a => exact hS.elim
theorem rp_list {l : List Tr} (hu : X.A.units + D + 64 < cLine) (hO : OwnT O) (hT : ∀ T ∈ l, RpT X O D T) : RpT X O D (.ls l) := by
  intro base A g m pins σ H s x u Q hS hz hA hd hab I r hQ
  have hS' := hS
  simp only [Sh] at hS
  simp only [Tr.text] at hz hQ
  simp only [Tr.dep] at hd
  obtain ⟨a, xs, rfl, hL, hSs⟩ := hS
  cases (show u = Value.ref a from r)
  obtain ⟨its, o, n, rv, ea, ca, da⟩ := at_list I hL
  have hun := hA.un
  have hTy : s.TypeIs (.ref a) "list" := ⟨o, ea, ca⟩
  refine wpAny_pyReprUnder_ref (by omega) ?_
  cases l with
  | nil =>
    simp only [Shs] at hSs
    subst hSs
    cases rv
    exact wpAny_pyReprObjUnder_list_empty hTy (by omega) ea da ⟨_, _, rfl, hQ _ H (Same.refl H) (I.tok _)⟩
  | cons t0 l0 =>
    refine wpAny_pyReprObjUnder_twin (twin := "list.__repr__.under") hTy F.slot_list_repr.toG rfl (by omega) ?_
    refine call_twin_plain F.plain_list_repr_under F.entry_list_repr_under F.check_list_repr_under hTy F.slot_list_repr.toG (F.args_list_repr_1 _) ?_
    exact bodyL (R := callEnd _ _) hO hT hA (fun T hm => by have := dep_le hm; omega) hL hSs hab hz I (fun e s' z => z) fun H' s' k e I' => ⟨⟨_, _, rfl⟩, _, _, rfl, hQ _ H' e I'⟩
theorem rp_tup {l : List Tr} (hu : X.A.units + D + 64 < cLine) (hO : OwnT O) (hT : ∀ T ∈ l, RpT X O D T) : RpT X O D (.tp l) := by
  intro base A g m pins σ H s x u Q hS hz hA hd hab I r hQ
  simp only [Sh] at hS
  simp only [Tr.text] at hz hQ
  simp only [Tr.dep] at hd
  obtain ⟨a, xs, rfl, hL, hSs⟩ := hS
  cases (show u = Value.ref a from r)
  obtain ⟨its, o, n, rv, ea, ca, da⟩ := at_tup I hL
  have hun := hA.un
  have hTy : s.TypeIs (.ref a) "tuple" := ⟨o, ea, ca⟩
  refine wpAny_pyReprUnder_ref (by omega) ?_
  refine wpAny_pyReprObjUnder_twin (twin := "tuple.__repr__.under") hTy F.slot_tuple_repr rfl (by omega) ?_
  refine call_twin_own (F.quiet_tuple_repr_under _) F.entry_tuple_repr_under F.check_tuple_repr_under hTy F.slot_tuple_repr (F.args_tuple_repr_1 _) ?_
  exact bodyT (R := callEnd _ _) (.inr rfl) hO hT hA (fun T hm => by have := dep_le hm; omega) hL hSs hab hz I (fun e s' z => z) fun H' s' k e I' => ⟨⟨_, _, rfl⟩, _, _, rfl, hQ _ H' e I'⟩
/-- another object is shown -/
def OwR (X : Cx) (D : Nat) (O : Addr → Hp → Str → Prop) : Prop :=
  ∀ (t : Str) (base : Nat) (A : Around) (g : List Code) (m : Nat) (pins : List (Addr × Obj)) (σ : L2.St) (H : Hp) (s : Shared) (a : Addr) (Q : Str → Shared → Prop), O a H t → base + t.length ≤ sizeLine → AtR X A g m → m ≤ D →
    Clear g a → Inv X pins σ H s → (∀ s' H2, Same H H2 → Inv X pins σ H2 s' → Q t s') → wpAny (model X.prog X.w) A (pyReprUnder base (.ref a)) Q X.xe s
theorem OwR.or {O' : Addr → Hp → Str → Prop} (h : OwR X D O) (h' : OwR X D O') : OwR X D (fun a H t => O a H t ∨ O' a H t) :=
  fun t base A g m pins σ H s a Q ho => ho.elim (fun z => h t base A g m pins σ H s a Q z) fun z => h' t base A g m pins σ H s a Q z
theorem OwnT.or {O O' : Addr → Hp → Str → Prop} (h : OwnT O) (h' : OwnT O') : OwnT (fun a H t => O a H t ∨ O' a H t) :=
  ⟨fun a H H' t e z => z.elim (fun z => .inl (h.mono _ _ _ _ e z)) fun z => .inr (h'.mono _ _ _ _ e z), fun a H t z => z.elim (h.ins a H t) (h'.ins a H t)⟩
theorem rp_ow (hO : OwnT O) (h : OwR X D O) (t : Str) : RpT X O D (.ow t) := by
  intro base A g m pins σ H s x u Q hS hz hA hd hab I r hQ
  have hS' := hS
  simp only [Sh] at hS
  simp only [Tr.text] at hz hQ
  obtain ⟨a, rfl, o⟩ := hS
  cases (show u = Value.ref a from r)
  exact h t base A g m pins σ H s a Q o hz hA (by omega) (hab.clear I hO hS') I hQ
mutual
theorem rp (hu : X.A.units + D + 64 < cLine) (hO : OwnT O) (hI : OwR X D O) : ∀ T : Tr, RpT X O D T
  | .lf t => rp_leaf
  | .ow t => rp_ow hO hI t
  | .ls l => rp_list hu hO (rps hu hO hI l)
  | .tp l => rp_tup hu hO (rps hu hO hI l)
theorem rps (hu : X.A.units + D + 64 < cLine) (hO : OwnT O) (hI : OwR X D O) : ∀ l : List Tr, ∀ T ∈ l, RpT X O D T
  | [], _, h => nomatch h
  | t :: r, T, h => by
    rcases List.mem_cons.mp h with e | h
    · rw [e]
      exact rp hu hO hI t
    · exact rps hu hO hI r T h
end
theorem top_list {A : Around} {l : List Tr} {a : Addr} {xs : List V} {Q : Option Value → Shared → Prop} (hu : X.A.units + D + 64 < cLine) (hO : OwnT O) (hT : ∀ T ∈ l, RpT X O D T) (hA : AtR X A [] 1) (hd : Tr.deps l + 2 ≤ D)
    (hL : SqL X.K H a xs) (hS : Shs X.K O H l xs) (hz : (listText (Tr.texts l)).length ≤ sizeLine) (I : Inv X pins σ H s) (hQ : ∀ k s' H2, Same H H2 → Inv X pins σ H2 s' → Q (some (.str (listText (Tr.texts l)) k)) s') :
    wpAny (model X.prog X.w) A (callSpecialIfBound? (.ref a) (Str.ofString "__repr__")) Q X.xe s := by
  obtain ⟨its, o, n, rv, ea, ca, da⟩ := at_list I hL
  have hTy : s.TypeIs (.ref a) "list" := ⟨o, ea, ca⟩
  refine wpAny_callSpecialIfBound?_slot (name := Str.ofString "__repr__") hTy F.slot_list_repr ?_
  cases l with
  | nil =>
    simp only [Shs] at hS
    subst hS
    cases rv
    exact call_list_repr_empty hTy ea da (hQ _ _ H (Same.refl H) (I.tok _))
  | cons t0 l0 =>
    refine wpAny_call (codeAny_call_builtin F.slot_list_repr.plain F.entry_list_repr (F.slot_list_repr.check _ _ _ _ _ _ _ _ hTy (F.args_list_repr_1 _) ?_))
    exact bodyL (base := 0) (R := callEnd _ _) hO hT hA (fun T hm => by have := dep_le hm; omega) hL hS (fun _ _ _ _ z => nomatch z) (by omega) I (fun e s' z => z) fun H' s' k e I' => hQ _ _ H' e I'
theorem top_tup {A : Around} {l : List Tr} {a : Addr} {xs : List V} {Q : Option Value → Shared → Prop} (hu : X.A.units + D + 64 < cLine) (hO : OwnT O) (hT : ∀ T ∈ l, RpT X O D T) (hA : AtR X A [] 1) (hd : Tr.deps l + 2 ≤ D)
    (hL : SqT X.K H a xs) (hS : Shs X.K O H l xs) (hz : (tupleText (Tr.texts l)).length ≤ sizeLine) (I : Inv X pins σ H s) (hQ : ∀ k s' H2, Same H H2 → Inv X pins σ H2 s' → Q (some (.str (tupleText (Tr.texts l)) k)) s') :
    wpAny (model X.prog X.w) A (callSpecialIfBound? (.ref a) (Str.ofString "__repr__")) Q X.xe s := by
  obtain ⟨its, o, n, rv, ea, ca, da⟩ := at_tup I hL
  have hTy : s.TypeIs (.ref a) "tuple" := ⟨o, ea, ca⟩
  refine wpAny_callSpecialIfBound?_slotG (name := Str.ofString "__repr__") hTy F.slot_tuple_repr ?_
  refine wpAny_call (codeAny_call_builtin_own (Code.quiet_builtin _ (by decide +kernel)) F.entry_tuple_repr (F.slot_tuple_repr.check _ _ _ _ _ _ _ _ hTy (F.args_tuple_repr_1 _) ?_))
  exact bodyT (base := 0) (R := callEnd _ _) (.inl rfl) hO hT hA (fun T hm => by have := dep_le hm; omega) hL hS (fun _ _ _ _ z => nomatch z) (by omega) I (fun e s' z => z) fun H' s' k e I' => hQ _ _ H' e I'
/-- repr(x), x a list or a tuple of such -/
def rShow (K : PySem.W.Frag) (O : Addr → Hp → Str → Prop) (D : Nat) : List V → Hp → VK → Prop := fun xs H Q =>
  ∃ x T, xs = [x] ∧ Sh K O H T x ∧ (∃ l, T = .ls l ∨ T = .tp l) ∧ T.text.length ≤ sizeLine ∧ T.dep + 1 ≤ D ∧ ∀ H', Same H H' → Q (.str T.text) H'
theorem call_show {K : PySem.W.Frag} (hK : X.K = K) (hg : X.A.guards = some []) (hu : X.A.units + D + 64 < cLine) (hO : OwnT O) (hI : OwR X D O) : CallR X (.builtin "repr") (rShow K O D) := by
  subst hK
  intro pins s σ H xs us Q I r h
  obtain ⟨x, T, rfl, hS, ⟨l, hk⟩, hz, hd, q⟩ := h
  obtain ⟨u, rfl, ru⟩ := vals1 r
  have hA : AtR X X.A.in1 [] 1 := ⟨hg, rfl, rfl, Nat.le_succ _, Nat.le_refl _⟩
  refine Calls.call_function_entry PySem.F.kind_repr PySem.F.plain_repr PySem.F.entry_repr (PySem.F.args_repr1 _) ?_
  unfold Builtin.«repr»
  refine wpAny_bind (m := oneArg "repr" _) (wpAny_pure ?_)
  refine wpAny_bind (m := cRoomFor _ _) (wpAny_cRoomFor (by show X.A.units + 1 < cLine; omega) ?_)
  rcases hk with rfl | rfl
  · simp only [Sh] at hS
    simp only [Tr.text] at hz q
    simp only [Tr.dep] at hd
    obtain ⟨a, xs, rfl, hL, hSs⟩ := hS
    cases (show u = Value.ref a from ru)
    obtain ⟨its, o, n, rv, ea, ca, da⟩ := at_list I hL
    have hTy : s.TypeIs (.ref a) "list" := ⟨o, ea, ca⟩
    refine wpAny_bind (wpAny_specialOf (name := Str.ofString "__repr__") hTy F.slot_list_repr.lookup ?_)
    refine wpAny_bind (m := callSpecialIfBound? (.ref a) (Str.ofString "__repr__")) (top_list hu hO (rps hu hO hI l) hA (by omega) hL hSs hz I fun k s' H2 e I2 => ?_)
    exact wpAny_bind (wpAny_isInstance (T := "str") (b := true) rfl isSubtype_str_str (wpAny_pure ⟨_, rfl, .str _, H2, I2, ⟨_, rfl⟩, q H2 e⟩))
  · simp only [Sh] at hS
    simp only [Tr.text] at hz q
    simp only [Tr.dep] at hd
    obtain ⟨a, xs, rfl, hL, hSs⟩ := hS
    cases (show u = Value.ref a from ru)
    obtain ⟨its, o, n, rv, ea, ca, da⟩ := at_tup I hL
    have hTy : s.TypeIs (.ref a) "tuple" := ⟨o, ea, ca⟩
    refine wpAny_bind (wpAny_specialOf (name := Str.ofString "__repr__") hTy F.slot_tuple_repr.lookup ?_)
    refine wpAny_bind (m := callSpecialIfBound? (.ref a) (Str.ofString "__repr__")) (top_tup hu hO (rps hu hO hI l) hA (by omega) hL hSs hz I fun k s' H2 e I2 => ?_)
    exact wpAny_bind (wpAny_isInstance (T := "str") (b := true) rfl isSubtype_str_str (wpAny_pure ⟨_, rfl, .str _, H2, I2, ⟨_, rfl⟩, q H2 e⟩))
end
end Lb

set_option Elab.async false
set_option linter.all false
set_option maxRecDepth 100000
set_option maxHeartbeats 4000000
/-! instances of own classes: shown within lists, in f-strings, asked with `in` -/
namespace Lb
open PySem PySem.Spec PyProof.Rows L2
section
variable {X : Cx} {D : Nat} {C g : Addr} {sp : Sp} {E : XK} {CX : CXT} {n : Nat}
theorem ifBoundBy_own {M : Model} {A : Around} {E : Value → Shared → Prop} {s : Shared} {K : PySem.W.Frag} {x C f : Addr} {ox : Obj} {od : Option Obj} {base : Nat} {Q : Option Value → Shared → Prop} (X : K.In s.heap) (I : PySem.W.InstAt s.heap x ox C od)
    (hs : PySem.W.findIn K (.ref C) "__repr__" = some (some (.ref f))) (hf : PySem.W.isFn K (.ref f) = true) (h : wpAny M A (call (.ref f) [.ref x]) (fun v => Q (some v)) E s) :
    wpAny M A (callSpecialIfBoundBy? (fun g first => match reprUnder? g, first with
      | some twin, [self] => call twin [self, rawInt base]
      | _, _ => call g (first ++ [])) (.ref x) (Str.ofString "__repr__")) Q E s := by
  simp only [callSpecialIfBoundBy?, bindSpecialIfBound?]
  refine wpAny_holding (wpAny_bind (wpAny_bind (wpAny_bind (I.type.here ((PySem.W.looks_findIn X hs).here ?_)))))
  refine wpAny_bind (wpAny_askSetting (wpAny_ite ?_))
  have fin : wpAny M A (call (.ref f) ([.ref x] ++ []) >>= fun v => pure (some v)) Q E s := wpAny_bind (wpAny_mono h (fun v s' h' => wpAny_pure h') fun _ _ h' => h')
  split
  · exact wpAny_bind ((PySem.W.bind_fn X _ (beq_iff_eq.mp hf)).here (wpAny_pure (by exact fin)))
  · exact wpAny_tryCatch (wpAny_bind ((PySem.W.bind_fn X _ (beq_iff_eq.mp hf)).here (wpAny_pure (by exact fin))))
/-- an instance whose class has __repr__ -/
theorem ow_repr {O : Addr → Hp → Str → Prop} (hs : PySem.W.findIn X.K (.ref C) "__repr__" = some (some (.ref g))) (hf : PySem.W.isFn X.K (.ref g) = true) (F : FnR X.prog X.w X.K X.mg X.base CX n g sp) (hr : Room (n + D) X.A) (hx : Passes CX X E)
    (hO : ∀ a H t, O a H t → (∃ dx fs, H a = some (.ins C dx fs)) ∧ ∀ Q : VK, (∀ H', Same H H' → Q (.str t) H') → sp [.ref a] H Q E) : OwR X D O := by
  intro t base A gs m pins σ H s a Q o hz hA hm hcl I hQ
  obtain ⟨⟨dx, fs, ha⟩, hsp⟩ := hO _ _ _ o
  obtain ⟨od, J⟩ := inst_at I ha
  have h1 := hA.dp
  have h2 := hA.un
  have hr1 := hr.dp
  have hr2 := hr.un
  refine wpAny_pyReprUnder_ref (by omega) ?_
  unfold pyReprObjUnder pyReprObjBy
  refine wpAny_bind (wpAny_cRoomFor (by omega) ?_)
  refine wpAny_bind (wpAny_bind (J.type.here ((PySem.W.looks_findIn I.kIn hs).here ?_)))
  have hrA : Room n A := ⟨by rw [hA.hd]; exact hr.hd, by omega, by omega⟩
  have e0 : Env0 X.prog X.w X.K X.mg X.base A X.stack s H := ⟨by rw [hA.fr]; exact I.env0.frames, I.env0.mod, I.env0.bs, I.env0.bsz, I.env0.funs, I.env0.frf, I.env0.hok, I.env0.bare⟩
  refine wpAny_bind (ifBoundBy_own I.kIn J hs hf ?_)
  refine wpAny_mono (wpAny_call (SlX.run_at (us := [.ref a]) (ws := [.ref a]) (Q := fun v H' => v = .str t ∧ Same H H') F hrA e0 hx I (.cons rfl .nil) (hsp _ fun H' e => ⟨rfl, e⟩))) (fun w s' z => ?_) fun _ _ x => x
  obtain ⟨z', H', I', rz, ez, e⟩ := z
  subst ez
  obtain ⟨k, rfl⟩ := (show ∃ k, w = Value.str t k from rz)
  exact wpAny_bind (wpAny_isInstance (T := "str") (b := true) rfl isSubtype_str_str (wpAny_pure ⟨_, _, rfl, hQ _ H' e I'⟩))
/-- an empty dict -/
def OEmpty : Addr → Hp → Str → Prop := fun a H t => H a = some (.dK []) ∧ t = "{}"
theorem own_empty : OwnT OEmpty := ⟨fun a H H' t e h => ⟨e _ _ h.1, h.2⟩, fun a H t h => .inr ⟨_, h.1⟩⟩
theorem ow_empty (hu : X.A.units + D + 64 < cLine) : OwR X D OEmpty := by
  intro t base A gs m pins σ H s a Q o hz hA hm hcl I hQ
  obtain ⟨e, rfl⟩ := o
  obtain ⟨_, hsm, vs, r, o, es, ep, h1, h2, h3, _, h5, _⟩ := dk_of I.hok e
  cases r
  have he : es = #[] := by
    cases es with
    | mk l =>
      cases (show Pairs _ l [] from h5)
      rfl
  subst he
  have h2' := hA.un
  have hk : ReprK X.prog X.w [a] s.heap 1 (.ref a) (dictText []) := ReprK.dict (d := 0) (as := []) h1 h2.1 h3 hsm (by simp) .nil
  exact hk base hz A gs X.xe s Q hA.gd (fun b hb => by rw [List.mem_singleton.mp hb]; exact hcl) (by omega) (fun _ _ z => z) fun h' tk k => hQ _ H (Same.refl H) (I.kept k)
/-- {x} of an instance whose class has __str__ -/
def tFmtOwn (C : Addr) (sp : Sp) (E : XK) (te : TE) : TE := fun σ H Q => te σ H fun x H1 => ∃ a dx fs, x = .ref a ∧ H1 a = some (.ins C dx fs) ∧ sp [x] H1 (fun z H' => ∃ y, z = .str y ∧ Q (.str y) H') E
theorem pe_fmtOwn {e : Expr} {te : TE} {pos : Pos} (hfm : PySem.W.findIn X.K (.ref C) "__format__" = some (some (.builtin "object.__format__"))) (hm : PySem.W.mroIn X.K C (.type "object") = some true)
    (hs : PySem.W.findIn X.K (.ref C) "__str__" = some (some (.ref g))) (hf : PySem.W.isFn X.K (.ref g) = true) (F : FnR X.prog X.w X.K X.mg X.base CX n g sp) (hr : Room (n + 1) X.A) (hx : Passes CX X E) (he : PE X e te) :
    PE X (.FormattedValue e (-1) none pos) (tFmtOwn C sp E te) := by
  refine ⟨fun pins s σ H Q I h => ?_⟩
  refine wpAny_FormattedValue_plain (thn (he.run pins s σ H _ I h) fun v s1 hv => ?_)
  obtain ⟨x, H1, I1, r1, a, dx, fs, rfl, ha, q⟩ := hv
  cases (show v = Value.ref a from r1)
  obtain ⟨od, J⟩ := inst_at I1 ha
  have hu := hr.un
  refine PySem.W.kfo_fieldS (by show X.A.units + 1 < cLine; omega) I1.kIn J hfm hm hs hf ?_
  refine wpAny_mono (wpAny_call (SlX.run_at (us := [.ref a]) (ws := [.ref a]) F hr.in1 (I1.tok (s1.toks + 1)).env0.in1 hx (I1.tok (s1.toks + 1)) (.cons rfl .nil) q)) (fun w s' z => ?_) fun _ _ x => x
  obtain ⟨z', H', I', rz, y, ez, qz⟩ := z
  subst ez
  obtain ⟨t, rfl⟩ := (show ∃ t, w = Value.str y t from rz)
  exact ⟨.str y, H', I', ⟨t, rfl⟩, qz⟩
/-- {x!r} of an instance whose class has __repr__ -/
def tFmtOwnR (C : Addr) (sp : Sp) (E : XK) (te : TE) : TE := fun σ H Q => te σ H fun x H1 => ∃ a dx fs, x = .ref a ∧ H1 a = some (.ins C dx fs) ∧ sp [x] H1 (fun z H' => ∃ y, z = .str y ∧ y.length ≤ sizeLine ∧ Q (.str y) H') E
theorem pe_fmtOwnR {e : Expr} {te : TE} {pos : Pos} (hs : PySem.W.findIn X.K (.ref C) "__repr__" = some (some (.ref g))) (hf : PySem.W.isFn X.K (.ref g) = true) (F : FnR X.prog X.w X.K X.mg X.base CX n g sp) (hr : Room (n + 1) X.A) (hx : Passes CX X E) (he : PE X e te) :
    PE X (.FormattedValue e 114 none pos) (tFmtOwnR C sp E te) := by
  refine ⟨fun pins s σ H Q I h => ?_⟩
  refine wpAny_FormattedValue_repr (thn (he.run pins s σ H _ I h) fun v s1 hv => ?_)
  obtain ⟨x, H1, I1, r1, a, dx, fs, rfl, ha, q⟩ := hv
  cases (show v = Value.ref a from r1)
  obtain ⟨od, J⟩ := inst_at I1 ha
  have hu := hr.un
  unfold pyReprObj
  refine wpAny_bind (wpAny_cRoomFor (by omega) ?_)
  refine wpAny_bind (wpAny_bind (J.type.here ((PySem.W.looks_findIn I1.kIn hs).here ?_)))
  refine wpAny_bind (m := callSpecialIfBound? (.ref a) (Str.ofString "__repr__")) (PySem.W.ifBound_K I1.kIn J hs hf ?_)
  refine wpAny_mono (wpAny_call (SlX.run_at (us := [.ref a]) (ws := [.ref a]) F (hr.mono (Nat.le_succ _)) I1.env0 hx I1 (.cons rfl .nil) q)) (fun w s' z => ?_) fun _ _ x => x
  obtain ⟨z', H', I', rz, y, ez, hz, qz⟩ := z
  subst ez
  obtain ⟨t, rfl⟩ := (show ∃ t, w = Value.str y t from rz)
  refine wpAny_bind (wpAny_isInstance (T := "str") (b := true) rfl isSubtype_str_str (wpAny_pure ?_))
  exact wpAny_formatField_str ⟨.str y, H', I', ⟨t, rfl⟩, qz⟩ ⟨.str y, H', I'.tok _, ⟨_, rfl⟩, qz⟩ hz
/-- v in x, x an instance whose class has __contains__, which answers True or False -/
def rInOwn (C : Addr) (sp : Sp) (E : XK) : R2 := fun v x H Q => ∃ a dx fs, x = .ref a ∧ H a = some (.ins C dx fs) ∧ sp [x, v] H (fun z H' => ∃ b, z = .bl b ∧ Q (.bl b) H') E
theorem op_inOwn {K : PySem.W.Frag} (hK : X.K = K) (hs : PySem.W.findIn K (.ref C) "__contains__" = some (some (.ref g))) (hf : PySem.W.isFn K (.ref g) = true) (F : FnR X.prog X.w X.K X.mg X.base CX n g sp) (hr : Room n X.A) (hx : Passes CX X E) :
    OpR X (compareOp .In) (rInOwn C sp E) := by
  subst hK
  intro pins s σ H x y v u Q I rx ry h
  obtain ⟨a, dx, fs, rfl, ha, q⟩ := h
  cases (show u = Value.ref a from ry)
  obtain ⟨od, J⟩ := inst_at I ha
  obtain ⟨m, hF⟩ := I.fr
  refine PySem.W.in_K hF I.ok.mod.kin J hs hf ?_
  refine wpAny_mono (wpAny_call (SlX.run_at (us := [.ref a, v]) (ws := [.ref a, x]) F hr I.env0 hx I (.cons rfl (.cons rx .nil)) q)) (fun w s' z => ?_) fun _ _ x => x
  obtain ⟨z', H', I', rz, b, ez, qz⟩ := z
  subst ez
  cases (show w = Value.bool b from rz)
  exact wpAny_truthy_bool ⟨.bl b, H', I', rfl, qz⟩
end
end Lb

set_option Elab.async false
set_option linter.all false
set_option maxRecDepth 100000
set_option maxHeartbeats 4000000
/-! [f(x) for x in ..], each of it found from one of the other's -/
namespace Lb
open PySem PySem.Spec PyProof.Rows L2
theorem paired_mono {α β : Type} {F G : α → β → Prop} (h : ∀ a b, F a b → G a b) : ∀ {l : List α} {m : List β}, Paired F l m → Paired G l m
  | _, _, .nil => .nil
  | _, _, .cons r t => .cons (h _ _ r) (paired_mono h t)
theorem paired_snoc {α β : Type} {F : α → β → Prop} {x : α} {y : β} (r : F x y) : ∀ {l : List α} {m : List β}, Paired F l m → Paired F (l ++ [x]) (m ++ [y])
  | _, _, .nil => .cons r .nil
  | _, _, .cons q t => .cons q (paired_snoc r t)
/-- what is known after i steps -/
def MapP (R : V → V → Hp → Prop) (H1 : Hp) (D : Addr) (xs : List V) (i : Nat) (H : Hp) : Prop :=
  Same H1 H ∧ ∃ acc, H D = some (.lst acc) ∧ acc.length = i ∧ Paired (fun x y => R x y H) (xs.take i) acc
section
variable {K : PySem.W.Frag} {a D : Addr} {xs : List V} {g : TG} {te : TE} {vs : List Nat} {σ : L2.St} {H1 : Hp} {Qd : Hp → Prop} (R : V → V → Hp → Prop)
theorem mapP (hR : ∀ x y H H', Same H H' → R x y H → R x y H') (hU : ∀ x y H acc o, H D = some (.lst acc) → R x y H → R x y (upd H D o)) (hD : H1 D = none) (hlen : xs.length ≤ 1000)
    (hs : ∀ (i : Nat) (x : V) (H : Hp), xs[i]? = some x → Same H1 H → ∀ Q' : VK, (∀ y H4, Same H H4 → R x y H4 → Q' y H4) → g x (wipe σ vs) H fun σ2 H2 => wipe σ2 vs = wipe σ vs ∧ te σ2 H2 Q') (i : Nat) (x : V) (H : Hp) (e : xs[i]? = some x)
    (p : MapP R H1 D xs i H) :
    g x (wipe σ vs) H fun σ2 H2 => wipe σ2 vs = wipe σ vs ∧ tYes σ2 H2 fun b H3 =>
      if b = true then te σ2 H3 fun y H4 => ∃ acc, H4 D = some (.lst acc) ∧ acc.length < sizeLine ∧ MapP R H1 D xs (i + 1) (upd H4 D (.lst (acc ++ [y]))) else MapP R H1 D xs (i + 1) H3 := by
  obtain ⟨s, acc, ed, el, pr⟩ := p
  have hi : i < xs.length := by
    rcases Nat.lt_or_ge i xs.length with h | h
    · exact h
    · rw [List.getElem?_eq_none h] at e
      cases e
  refine hs i x H e s (fun y H4 => ∃ acc, H4 D = some (.lst acc) ∧ acc.length < sizeLine ∧ MapP R H1 D xs (i + 1) (upd H4 D (.lst (acc ++ [y])))) fun y H4 s4 r4 => ?_
  refine ⟨acc, s4 _ _ ed, szlt (by omega), fun b o eb => ?_, _, upd_same, by simp [el], ?_⟩
  · have nb : b ≠ D := ne_of_none eb hD
    rw [upd_ne nb]
    exact s4 _ _ (s _ _ eb)
  · have et : xs.take (i + 1) = xs.take i ++ [x] := by simp [List.take_add_one, e]
    rw [et]
    exact paired_snoc (F := fun u z => R u z (upd H4 D (.lst (acc ++ [y])))) (hU _ _ _ _ _ (s4 _ _ ed) r4) (paired_mono (fun x y r => hU _ _ _ _ _ (s4 _ _ ed) (hR _ _ _ _ s4 r)) pr)
/-- over a tuple -/
theorem map_tup (hR : ∀ x y H H', Same H H' → R x y H → R x y H') (hU : ∀ x y H acc o, H D = some (.lst acc) → R x y H → R x y (upd H D o)) (hD : H1 D = none) (hlen : xs.length ≤ 1000) (hS : SqT K H1 a xs)
    (hs : ∀ (i : Nat) (x : V) (H : Hp), xs[i]? = some x → Same H1 H → ∀ Q' : VK, (∀ y H4, Same H H4 → R x y H4 → Q' y H4) → g x (wipe σ vs) H fun σ2 H2 => wipe σ2 vs = wipe σ vs ∧ te σ2 H2 Q')
    (hd : ∀ H ys, Same H1 H → H D = some (.lst ys) → Paired (fun x y => R x y H) xs ys → Qd H) :
    ∃ W : Nat → Nat → Hp → Prop, (∃ m, W 0 m (upd H1 D (.lst []))) ∧ ∀ i m H, W i m H →
      ((Itt K a).stop i H ∧ Qd H) ∨ ((Itt K a).go i H ∧ ∃ Nx : Hp → Prop, (∀ H', Nx H' → ∃ m', m' < m ∧ W (i + 1) m' H') ∧ ∀ x H', (Itt K a).yld i H x H' → g x (wipe σ vs) H' fun σ2 H2 => wipe σ2 vs = wipe σ vs ∧ tYes σ2 H2 fun b H3 =>
        if b = true then te σ2 H3 fun y H4 => ∃ acc, H4 D = some (.lst acc) ∧ acc.length < sizeLine ∧ Nx (upd H4 D (.lst (acc ++ [y]))) else Nx H3) :=
  lc_tup (Qd := Qd) (MapP R H1 D xs) ⟨upd_same_hp (Same.refl H1) hD, [], upd_same, rfl, .nil⟩ (fun i H _ p => SqT.ext hS p.1) (fun i x H e p => mapP R hR hU hD hlen hs i x H e p)
    fun H p => let ⟨s, acc, ed, el, pr⟩ := p; hd H acc s ed (by rw [List.take_length] at pr; exact pr)
/-- over a list -/
theorem map_lst (hR : ∀ x y H H', Same H H' → R x y H → R x y H') (hU : ∀ x y H acc o, H D = some (.lst acc) → R x y H → R x y (upd H D o)) (hD : H1 D = none) (hlen : xs.length ≤ 1000) (hS : SqL K H1 a xs)
    (hs : ∀ (i : Nat) (x : V) (H : Hp), xs[i]? = some x → Same H1 H → ∀ Q' : VK, (∀ y H4, Same H H4 → R x y H4 → Q' y H4) → g x (wipe σ vs) H fun σ2 H2 => wipe σ2 vs = wipe σ vs ∧ te σ2 H2 Q')
    (hd : ∀ H ys, Same H1 H → H D = some (.lst ys) → Paired (fun x y => R x y H) xs ys → Qd H) :
    ∃ W : Nat → Nat → Hp → Prop, (∃ m, W 0 m (upd H1 D (.lst []))) ∧ ∀ i m H, W i m H →
      ((Itl K a).stop i H ∧ Qd H) ∨ ((Itl K a).go i H ∧ ∃ Nx : Hp → Prop, (∀ H', Nx H' → ∃ m', m' < m ∧ W (i + 1) m' H') ∧ ∀ x H', (Itl K a).yld i H x H' → g x (wipe σ vs) H' fun σ2 H2 => wipe σ2 vs = wipe σ vs ∧ tYes σ2 H2 fun b H3 =>
        if b = true then te σ2 H3 fun y H4 => ∃ acc, H4 D = some (.lst acc) ∧ acc.length < sizeLine ∧ Nx (upd H4 D (.lst (acc ++ [y]))) else Nx H3) :=
  lc_list (Qd := Qd) (MapP R H1 D xs) ⟨upd_same_hp (Same.refl H1) hD, [], upd_same, rfl, .nil⟩ (fun i H _ p => Same.seq p.1 hS) (fun i x H e p => mapP R hR hU hD hlen hs i x H e p)
    fun H p => let ⟨s, acc, ed, el, pr⟩ := p; hd H acc s ed (by rw [List.take_length] at pr; exact pr)
end
end Lb

set_option Elab.async false
set_option linter.all false
set_option maxRecDepth 100000
set_option maxHeartbeats 1000000
/-! x(lambda: body, y): a def that is given a lambda and a value -/
namespace Lb
open PySem PySem.Spec PyProof.Rows L2 LamX
def GivesTo2 (X : Cx) (Ng : List Str) (x : Str) (sg : Scope) (g : Addr) (cdg : Value) (bg : List Stmt) (a : Str) (q : Str) (TT : V → (XK → Hp → VK → Prop) → Hp → VK → Prop) : Prop :=
  ∀ (f c' : Addr) (s : Shared) (H : Hp) (Q : VK) (tl : XK → Hp → VK → Prop) (v : V),
    (∀ (W : WX) (pn : List (Addr × Obj)) (xe : Value → Shared → Prop) (E : XK) (σ0 : List (Option V)) (p1 p2 : Pos), Takes ((cxOf C8.CX0 X.prog X.w X.K X.mg X.base Ng x sg g cdg X.A X.stack s H C8.E0).tr pn xe) W → (∀ cls d H', E cls d H' → W cls d σ0 H') →
      PE ((cxOf C8.CX0 X.prog X.w X.K X.mg X.base Ng x sg g cdg X.A X.stack s H C8.E0).tr pn xe) (.Call (.Name a p1) [] [] p2) (fun σZ HZ Q => σZ = σ0 ∧ σZ[0]? = some (some (.ref f)) ∧ HZ c' = some (CodeO c' q) ∧ tl E HZ Q)) →
    H c' = some (CodeO c' q) → TT v tl H Q →
    ∃ t, PSs (cxOf C8.CX0 X.prog X.w X.K X.mg X.base Ng x sg g cdg X.A X.stack s H C8.E0).nox bg t ∧ t { nx := fun _ H' => Q .non H', rt := Q } (L2.start Ng [.ref f, v]) H
def tLam2 (T : List (Addr × Str)) (j : Nat) (TT : V → (XK → Hp → VK → Prop) → Hp → VK → Prop) (t : XK → TE) : TE := fun σ H Q => ∃ v, σ[j]? = some (some v) ∧ Tabs T H ∧ ∀ H1, ExtN H H1 → Tabs T H1 → TT v (fun E H' Q' => t E σ H' Q') H1 Q
section
variable {X : Cx} {pins : List (Addr × Obj)} {σ : List (Option V)} {H : Hp} {s : Shared}
/-- the lambda's run, from the body that calls it -/
theorem lam_run {A : Around} {outer : List Env} {f c' : Addr} {q : Str} {pm ctv : Value} {params : Arguments} {body : Expr} {scope : Scope} {k : Nat} {E : XK} {tb : TE} {HZ : Hp} {sZ : Shared} {Q : VK}
    (I : Inv X pins σ H s) (L : LamS X.env.scope scope) (of1 : sZ.heap.get? f = some (PySem.W.kla_obj "<lambda>" (X.env.qual ++ "<lambda>") params body scope (cloFrom X.env.cells scope.names []) pm c' ctv)) (hc : HZ c' = some (CodeO c' q))
    (hbind : bindArgs (PySem.W.kla_fn "<lambda>" (X.env.qual ++ "<lambda>") params body scope (cloFrom X.env.cells scope.names []) pm (.ref c') ctv) ⟨[], []⟩ = pure []) (hq : q = X.env.qual ++ "<lambda>") (hr : Room (k + 1) A) (e0 : Env0 X.prog X.w X.K X.mg X.base A outer sZ HZ) (lim : sZ.heap.NoLimit)
    (un : Un (frs X.stack) [] H HZ s.heap sZ.heap) (hbody : ∀ (A : Around) (outer : List Env) (s : Shared) (H : Hp), Room k (A.deeper (lamEnv X scope s.heap.objs.size f c')) → PE (lamCx X A outer s H E scope f c') body tb) (ht : tb σ HZ Q) :
    codeAny (model X.prog X.w) A (.call (.ref f) ⟨[], []⟩) (CR (L2.CX X.prog X.w) outer X.prog X.w HZ sZ Q E) sZ := by
  subst hq
  obtain ⟨⟨oc, vs, t, hoc, hdc, hvc⟩, _, _⟩ := e0.hok c' _ hc
  refine PySem.W.kla_callFunE hr.depth of1 rfl L.co L.gen rfl ⟨c', oc, vs, t, rfl, hoc, hdc, hvc⟩ ?_
  rw [hbind]
  refine wpAny_pure (wpAny_newFunctionEnv (fun y hy => (L.own y hy).2) (fun y hy => absurd hy (by simp)) (fun h₁ hns hsb => ⟨lim.fresh _ hsb, ?_⟩) L.kind)
  show codeAny _ _ (.expr body (lamEnv X scope sZ.heap.objs.size f c')) _ _
  refine PySem.W.kla_codeExpr (wpAny_mono ((hbody A outer sZ HZ (hr.deeper _)).run [] _ _ HZ Q (lam_start2 I L e0 hr.hd un hns fun b o e => hsb.extBut b o (Nat.ne_of_lt (Heap.lt_size e)) (Heap.get?_push_of_some _ e)) ht) (fun v s' z => ?_) fun e s' z => z)
  obtain ⟨w', H', J', rv, z⟩ := z
  exact ⟨w', H', J'.os, J'.bare, J'.base, J'.hok, rv, z⟩
/-- x(), in the def that got the lambda, the frame's values known -/
theorem pe_act2 {CXg : CXT} {Eg : XK} {Ng : List Str} {qg : Str} {sg : Scope} {g f c' : Addr} {cdg pm ctv : Value} {params : Arguments} {body : Expr} {scope : Scope} {k i : Nat} {a : Str} {pn : List (Addr × Obj)} {xe : Value → Shared → Prop} {W : WX} {E : XK} {tb : TE} {σ0 : List (Option V)} {p1 p2 : Pos}
    (I : Inv X pins σ H s) (L : LamS X.env.scope scope) (hf : s.heap.get? f = some (PySem.W.kla_obj "<lambda>" (X.env.qual ++ "<lambda>") params body scope (cloFrom X.env.cells scope.names []) pm c' ctv)) (hfn : H f = none) (hfr : f ∉ frs X.stack)
    (hbind : bindArgs (PySem.W.kla_fn "<lambda>" (X.env.qual ++ "<lambda>") params body scope (cloFrom X.env.cells scope.names []) pm (.ref c') ctv) ⟨[], []⟩ = pure [])
    (tk : Takes ((cxOf CXg X.prog X.w X.K X.mg X.base Ng qg sg g cdg X.A X.stack s H Eg).tr pn xe) W) (hW : ∀ cls d H', E cls d H' → W cls d σ0 H') (hr : Room (k + 1) (X.A.deeper (envOfC qg sg s.heap.objs.size g cdg)))
    (hbody : ∀ (A : Around) (outer : List Env) (s : Shared) (H : Hp), Room k (A.deeper (lamEnv X scope s.heap.objs.size f c')) → PE (lamCx X A outer s H E scope f c') body tb)
    (hN : Ng[i]? = some a) (hv : Vis sg a) (hd : (a == ("__debug__" : Str)) = false := by decide) (hcd : (a == ("__classdict__" : Str)) = false := by decide) :
    PE ((cxOf CXg X.prog X.w X.K X.mg X.base Ng qg sg g cdg X.A X.stack s H Eg).tr pn xe) (.Call (.Name a p1) [] [] p2)
      (fun σZ HZ Q => σZ = σ0 ∧ σZ[i]? = some (some (.ref f)) ∧ HZ c' = some (CodeO c' (X.env.qual ++ "<lambda>")) ∧ tb σ HZ Q) := by
  refine ⟨fun pinsZ sZ σZ HZ Q IZ h => ?_⟩
  obtain ⟨rfl, hs, hc, ht⟩ := h
  refine wpAny_Call_Name_kw (thn ((pe_var (pos := p1) (i := i) hN hv hd hcd).run pinsZ sZ σZ HZ (fun v H1 => v = .ref f ∧ H1 = HZ) IZ ⟨.ref f, hs, rfl, rfl⟩) fun u s1 ⟨v, H1, I1, r1, q1⟩ => ?_)
  obtain ⟨ev, eH⟩ := q1
  subst ev
  rw [eH] at I1
  obtain rfl : u = Value.ref f := r1
  have of1 : s1.heap.get? f = some (PySem.W.kla_obj "<lambda>" (X.env.qual ++ "<lambda>") params body scope (cloFrom X.env.cells scope.names []) pm c' ctv) := I1.base.keep f _ hf hfn hfr (fun z => nomatch (show f ∈ ([] : List Addr) from z))
  refine PySem.W.callWith_F0 ⟨_, _, _, _, of1⟩ ?_
  have lim : s1.heap.NoLimit := I1.nolimit
  have un : Un (frs X.stack) [] H HZ s.heap s1.heap := I1.base
  have e0 : Env0 X.prog X.w X.K X.mg X.base (X.A.deeper (envOfC qg sg s.heap.objs.size g cdg)) (envOfC qg sg s.heap.objs.size g cdg :: X.stack) s1 HZ := I1.env0
  have rc := lam_run (X := X) (E := E) (Q := Q) I L of1 hc hbind rfl hr e0 lim un hbody ht
  refine wpAny_call (codeAny_mono rc fun r s' z => ?_)
  cases r with
  | error er => exact tk er s' (XE.of_call I1 (fun cls d H' h => hW cls d H' h) z)
  | ok fl =>
    cases fl with
    | ret u => exact I1.after z
    | next => exact False.elim z
    | brk => exact False.elim z
    | cont => exact False.elim z
theorem pe_lamcall2 {T : List (Addr × Str)} {TT : V → (XK → Hp → VK → Prop) → Hp → VK → Prop} {x a b : Str} {g c P : Addr} {k j : Nat} {pg : Arguments} {bg : List Stmt} {sg : Scope} {dV kV doc pm cdv ct oc : Value} {an od : Option Addr} {osl : Array (Option Value)} {Ng : List Str}
    {params : Arguments} {body e2 : Expr} {scope : Scope} {t : XK → TE} {p lpos pos : Pos} (hg : Gl X x) (hm : X.mg x = some (.ref g)) (hk : PySem.W.keepIn X.K (.ref g) = true)
    (lk : X.K.lookup g = some ⟨oc, od, .func (PySem.W.fnOf x x pg bg sg dV kV doc pm an cdv ct), osl⟩) (hcg : PySem.W.codeIn X.K cdv x = true) (hb : L2.Binds X.K (PySem.W.fnOf x x pg bg sg dV kV doc pm an cdv ct) [a, b] []) (Sg : FnScope Ng [a, b] sg) (hNg : Ng[0]? = some a) (hva : Vis sg a)
    (hG : GivesTo2 X Ng x sg g cdv bg a (X.env.qual ++ "<lambda>") TT) (he2 : PE X e2 (tVar j))
    (TB : TabB X.base X.mg c P) (hcode : X.env.code = .ref c) (hmT : (P, X.env.qual ++ "<lambda>") ∈ T) (hu : ∀ p ∈ T, p.1 = P → p.2 = X.env.qual ++ "<lambda>") (hr : Room (k + 2) X.A) (L : LamS X.env.scope scope) (hdef : defaultsOf params X.env = ([], []))
    (hbind : ∀ (q : Str) (cl : List (Str × Addr)) (pm cv ctv : Value), bindArgs (PySem.W.kla_fn "<lambda>" q params body scope cl pm cv ctv) ⟨[], []⟩ = pure [])
    (hbody : ∀ (A : Around) (outer : List Env) (s : Shared) (H : Hp) (E : XK) (f c' : Addr), Room k (A.deeper (lamEnv X scope s.heap.objs.size f c')) → PE (lamCx X A outer s H E scope f c') body (t E))
    (hs2 : starEach [e2] X.env = (false, eval e2 X.env) :: starEach [] X.env := by rfl)
    (hdb : (x == ("__debug__" : Str)) = false := by decide) (hd : (a == ("__debug__" : Str)) = false := by decide) (hcd : (a == ("__classdict__" : Str)) = false := by decide) :
    PE X (.Call (.Name x p) [.Lambda params body scope lpos, e2] [] pos) (tLam2 T j TT t) := by
  refine ⟨fun pins s σ H Q I h => ?_⟩
  obtain ⟨v2, hv2, hT, h⟩ := h
  refine wpAny_Call_Name_kw (ld_glob I hg hm ?_ hdb)
  refine PySem.W.callWith_K (h₀ := X.base) I.ok.mod.kin hk ?_ (by rfl) (by rw [hs2]; rfl)
  show wpAny _ _ (spliced ((false, eval (.Lambda params body scope lpos) X.env) :: backTo pos (starEach [e2] X.env))) _ _ s
  refine Calls.spliced_cons (lam_make2 I TB hcode hmT hu hT hdef (L.has I.ok) fun f c' pm' ctv H1 s' I1 eN T1 hf hfn hfr hco => ?_)
  rw [hs2]
  show wpAny _ _ (spliced ((false, eval e2 X.env) :: backTo pos (starEach [] X.env))) _ _ s'
  have fd : ∀ {b : Addr} {o : Obj} {es ep}, s'.heap.get? b = some o → o.data = .dict es ep → f ≠ b := fun {b o es ep} e d z => by
    rw [← z, hf] at e
    cases e
    cases d
  have nL : f ≠ X.env.locals := by
    obtain ⟨m, ⟨o, es, ep, ho, hd', _⟩, _⟩ := I1.loc
    exact fd ho hd'
  have nF : f ∉ X.fs := fun hb => by
    refine hfr ?_
    rcases I1.ok.stk with e | ⟨e, hfm⟩
    · rw [e]
      exact hb
    · rw [e]
      unfold frs
      rw [List.filterMap_cons, hfm]
      exact List.mem_cons_of_mem _ hb
  have I1p : Inv X ((f, PySem.W.kla_obj "<lambda>" (X.env.qual ++ "<lambda>") params body scope (cloFrom X.env.cells scope.names []) pm' c' ctv) :: pins) σ H1 s' :=
    ⟨I1.ok, I1.os, I1.bare, I1.base, I1.loc, I1.cell, I1.free, I1.freeC, fun p hp => by
        rcases List.mem_append.mp hp with hp | hp
        · exact I1.pin p (List.mem_append_left _ hp)
        · rcases List.mem_cons.mp hp with rfl | hp
          · exact ⟨hf, hfn, nL, nF, fun v z => nomatch z⟩
          · exact I1.pin p (List.mem_append_right _ hp), I1.hok, I1.len⟩
  refine Calls.spliced_cons (thn (he2.run _ s' σ H1 (fun v H2 => v = v2 ∧ H2 = H1) I1p ⟨v2, hv2, rfl, rfl⟩) fun u s2 ⟨v, H2, I2, r2, q2⟩ => ?_)
  obtain ⟨rfl, rfl⟩ := q2
  have hf2 := (I2.pin _ (List.mem_append_right _ List.mem_cons_self)).1
  have I2' : Inv X pins σ H2 s2 := ⟨I2.ok, I2.os, I2.bare, I2.base, I2.loc, I2.cell, I2.free, I2.freeC, fun p hp => I2.pin p (by
    rcases List.mem_append.mp hp with hp | hp
    · exact List.mem_append_left _ hp
    · exact List.mem_append_right _ (List.mem_cons_of_mem _ hp)), I2.hok, I2.len⟩
  refine Calls.spliced_nil ⟨I2'.kIn, ?_⟩
  have rc : codeAny (model X.prog X.w) X.A (.call (.ref g) ⟨[.ref f, u], []⟩) (CR C8.CX0 X.stack X.prog X.w H2 s2 Q C8.E0) s2 := by
    refine run_ofS (N := Ng) (ps := [a, b]) (us := [.ref f, u]) (vs := [.ref f, v]) lk hcg Sg hr I2'.env0 (hb s2 [.ref f, u] I2'.kIn rfl) (.cons rfl (.cons r2 .nil)) rfl fun hr' => ?_
    obtain ⟨t', ht', hq'⟩ := hG f c' s2 H2 Q (fun E H' Q' => t E σ H' Q') v (fun W pn xe E σ0 p1 p2 tk hW => pe_act2 (i := 0) I2' L hf2 hfn hfr (hbind _ _ _ _ _) tk hW hr' (fun A outer s H hr2 => hbody A outer s H E f c' hr2) hNg hva hd hcd) hco (h H2 eN T1)
    exact ⟨t', ht'.nox, hq'⟩
  refine wpAny_call (codeAny_mono rc fun r s3 hq => ?_)
  cases r with
  | error e => exact (show False from hq).elim
  | ok fl =>
    cases fl with
    | ret u => exact I2'.after hq
    | next => exact False.elim hq
    | brk => exact False.elim hq
    | cont => exact False.elim hq
end
end Lb

set_option Elab.async false
set_option linter.all false
set_option maxRecDepth 100000
set_option maxHeartbeats 4000000
/-! a dict with one pair, whose key is a tuple: its display, its repr -/
namespace Lb
open PySem PySem.Spec PyProof.Rows L2
def tDispT (tk tv : TE) : TE := fun σ H Q => ∀ p, H p = none → tk σ (upd H p (.dT [])) fun x H1 => tv σ H1 fun y H2 => H2 p = some (.dT []) ∧ ∃ b ks, x = .ref b ∧ H2 b = some (.tup (List.map kV ks)) ∧ Q (.ref p) (upd H2 p (.dT [(ks, y)]))
theorem pe_dispT {X : Cx} {k v : Expr} {tk tv : TE} {pos : Pos} (hu : X.A.units + 1 < cLine) (hk : PE X k tk) (hv : PE X v tv) : PE X (.Dict [some k] [v] pos) (tDispT tk tv) := by
  refine ⟨fun pins s σ H Q I q => ?_⟩
  have hn := I.hok.fresh (Nat.le_refl s.heap.objs.size)
  have I1 := I.laid (a := s.heap.objs.size) (o := .dT []) (h' := s.heap.push { cls := .type "dict", data := .dict #[] }) (t' := s.toks) (fun _ _ q => Heap.get?_push_of_some _ q) (Nat.le_refl _) (dt_empty s.heap I.big)
  refine wpAny_Dict_any rfl rfl (by simp) (by show 1 ≤ 15; decide) ?_
  refine pairTrees_cons_walk (thn (hk.run pins _ σ _ _ I1 (q _ hn)) fun u s1 ⟨x, H1, I2, rx, q1⟩ => thn (hv.run pins s1 σ H1 _ I2 q1) fun w2 s2 ⟨y, H2, I3, ry, e, b, ks, ex, eb, q2⟩ => pairTrees_nil_walk ?_)
  subst ex
  cases (show u = Value.ref b from rx)
  obtain ⟨z, hd, xs, rel, dd⟩ := dt_of I3.hok e
  cases rel
  unfold storeAll
  rw [List.forIn_cons]
  refine wpAny_bind (wpAny_bind (wpAny_dictSet_heap (hsz := Nat.zero_le _) (knd := tupleKind (mixKind X.prog X.w)) (by show X.A.units < cLine; omega) (key_of I3.hok eb) dd fun h' dd' hs => wpAny_pure ?_))
  refine wpAny_pure ?_
  obtain ⟨q', es, ep, hq, h2, h3, h4, _, h5⟩ := dd'
  refine ⟨.ref s.heap.objs.size, _, d_write (ob := .dT [(ks, y)]) I3 (by rw [e]; exact True.intro) hs ⟨q', hq⟩ ⟨(by show 1 ≤ sizeLine; decide), hd, _, .cons ⟨rfl, ?_, ry⟩ .nil, q', es, ep, hq, h2, h3, h4, h5⟩, rfl, q2⟩
  rw [upd_ne (ne_of eb e (fun z => nomatch z))]
  exact eb
def keyT (ks : List Key) : PyData := .tuple (ks.map keyD)
theorem dp_key {K : PySem.W.Frag} {H : Hp} : ∀ ks : List Key, DpAll K H (ks.map kV) (ks.map keyD)
  | [] => .nil
  | .inl i :: r => .cons (.int i) (dp_key r)
  | .inr x :: r => .cons (.str x) (dp_key r)
theorem key_flat : ∀ ks : List Key, flatDs (ks.map keyD) = true
  | [] => rfl
  | .inl _ :: r => by simp only [List.map_cons, flatDs, key_flat r, keyD, flatD, Bool.and_true]
  | .inr _ :: r => by simp only [List.map_cons, flatDs, key_flat r, keyD, flatD, Bool.and_true]
section
variable {X : Cx} {pins : List (Addr × Obj)} {σ : L2.St} {H : Hp} {s : Shared}
theorem keys_readT (I : Inv X pins σ H s) : ∀ {kvs : List (List Key × V)} {xs : List (List Key × Addr × Value)}, KT H kvs xs → ReadsAll s.heap ((xs.map (entryOfKey (tupleKind (mixKind X.prog X.w)))).map (·.key)) (kvs.map fun q => keyT q.1) [] := by
  intro kvs xs r
  induction r with
  | nil => exact .nil
  | @cons p q ps qs h1 _ ih =>
    obtain ⟨as, r1⟩ := Dp.readsAll I [keyT p.1] [.ref q.2.1] [.ref q.2.1] (.cons (.tup (SqT.of h1.2.1) (dp_key p.1)) .nil) (.cons rfl .nil)
    have e1 := reads_flats r1 (by simp only [flatDs, keyT, flatD, key_flat, Bool.and_true])
    subst e1
    have inv : ∀ {zz : List Addr}, ReadsAll s.heap [Value.ref q.2.1] [keyT p.1] zz → ∃ as bs, as ++ bs = zz ∧ Reads s.heap (Value.ref q.2.1) (keyT p.1) as := by
      intro zz r
      cases r with
      | cons r2 r3 => exact ⟨_, _, rfl, r2⟩
    obtain ⟨as, bs, e, r2⟩ := inv r1
    have ea := (List.append_eq_nil_iff.mp e).1
    subst ea
    exact .cons (as := []) (bs := []) r2 ih
end
end Lb

set_option Elab.async false
set_option linter.all false
set_option maxRecDepth 100000
set_option maxHeartbeats 4000000
/-! texts cut at a sign: partition, split, removeprefix -/
namespace Lb
open PySem PyProof.Rows
/-- the text of these signs -/
def tx (l : List Nat) : Str := ⟨l.toArray⟩
theorem tx_list (l : List Nat) : (tx l).cps.toList = l := rfl
theorem tx_of (x : Str) : tx x.cps.toList = x := by
  cases x
  rfl
theorem tx_inj {a b : List Nat} (h : tx a = tx b) : a = b := by
  have := congrArg (fun x : Str => x.cps.toList) h
  exact this
theorem tx_app (a b : List Nat) : tx (a ++ b) = tx a ++ tx b := by
  show (⟨(a ++ b).toArray⟩ : Str) = ⟨a.toArray ++ b.toArray⟩
  simp
theorem tx_len (l : List Nat) : (tx l).length = l.length := List.size_toArray
/-- pieces put together -/
def glue (c : Nat) : List (List Nat) → List Nat
  | [] => []
  | [p] => p
  | p :: q :: r => p ++ c :: glue c (q :: r)
theorem glue_join (c : Nat) : ∀ ps : List Str, Str.join (tx [c]) ps = tx (glue c (ps.map fun p => p.cps.toList))
  | [] => rfl
  | [p] => (tx_of p).symm
  | p :: q :: r => by
    show p ++ tx [c] ++ Str.join (tx [c]) (q :: r) = tx (p.cps.toList ++ c :: glue c ((q :: r).map fun p => p.cps.toList))
    rw [glue_join c (q :: r), show p.cps.toList ++ c :: glue c ((q :: r).map fun p => p.cps.toList) = (p.cps.toList ++ [c]) ++ glue c ((q :: r).map fun p => p.cps.toList) by simp, tx_app, tx_app, tx_of]
theorem head_cut {c : Nat} : ∀ {a b x y : List Nat}, c ∉ a → c ∉ b → a ++ c :: x = b ++ c :: y → a = b ∧ x = y
  | [], [], _, _, _, _, h => ⟨rfl, (List.cons.inj h).2⟩
  | [], d :: b, _, _, _, hb, h => absurd (by rw [(List.cons.inj h).1]; simp) hb
  | d :: a, [], _, _, ha, _, h => absurd (by rw [← (List.cons.inj h).1]; simp) ha
  | d :: a, e :: b, x, y, ha, hb, h => by
    obtain ⟨h1, h2⟩ := List.cons.inj h
    obtain ⟨h3, h4⟩ := head_cut (fun m => ha (List.mem_cons_of_mem _ m)) (fun m => hb (List.mem_cons_of_mem _ m)) h2
    exact ⟨by rw [h1, h3], h4⟩
theorem glue_inj {c : Nat} : ∀ {ps qs : List (List Nat)}, ps ≠ [] → qs ≠ [] → (∀ p ∈ ps, c ∉ p) → (∀ p ∈ qs, c ∉ p) → glue c ps = glue c qs → ps = qs
  | [], _, h, _, _, _, _ => absurd rfl h
  | _, [], _, h, _, _, _ => absurd rfl h
  | [p], [q], _, _, _, _, h => by rw [show p = q from h]
  | [p], q :: r :: s, _, _, hp, _, h => absurd (by rw [show p = q ++ c :: glue c (r :: s) from h]; simp) (hp p (by simp))
  | p :: r :: s, [q], _, _, _, hq, h => absurd (by rw [show q = p ++ c :: glue c (r :: s) from h.symm]; simp) (hq q (by simp))
  | p :: p2 :: ps, q :: q2 :: qs, _, _, hp, hq, h => by
    obtain ⟨h1, h2⟩ := head_cut (hp p (by simp)) (hq q (by simp)) (show p ++ c :: glue c (p2 :: ps) = q ++ c :: glue c (q2 :: qs) from h)
    rw [h1, glue_inj (by simp) (by simp) (fun p h => hp p (List.mem_cons_of_mem _ h)) (fun p h => hq p (List.mem_cons_of_mem _ h)) h2]
/-- split tells the pieces -/
theorem split_pieces {c : Nat} {ps : List (List Nat)} (hn : ps ≠ []) (hf : ∀ p ∈ ps, c ∉ p) : Txt.split (tx (glue c ps)) (tx [c]) = ps.map tx := by
  have e := StrLaws.join_split (tx (glue c ps)) (tx [c])
  rw [glue_join] at e
  have e2 := tx_inj e
  have ne : Txt.split (tx (glue c ps)) (tx [c]) ≠ [] := fun z => by
    have := split_pos (tx (glue c ps)) (tx [c])
    rw [z] at this
    exact absurd this (by decide)
  have e3 := glue_inj (c := c) (by simpa using ne) hn (fun p hp => by
    obtain ⟨q, hq, rfl⟩ := List.mem_map.mp hp
    exact StrLaws.split_free (tx (glue c ps)) c q hq) hf e2
  have e4 := congrArg (List.map tx) e3
  rw [List.map_map] at e4
  have id_ : (tx ∘ fun p : Str => p.cps.toList) = id := funext tx_of
  rw [id_, List.map_id] at e4
  exact e4
/-- each text has its pieces -/
theorem pieces_of (c : Nat) : ∀ x : List Nat, ∃ ps : List (List Nat), ps ≠ [] ∧ (∀ p ∈ ps, c ∉ p) ∧ x = glue c ps
  | [] => ⟨[[]], by simp, by simp, rfl⟩
  | d :: x => by
    obtain ⟨ps, hn, hf, e⟩ := pieces_of c x
    by_cases h : d = c
    · subst h
      refine ⟨[] :: ps, by simp, fun p hp => ?_, ?_⟩
      · rcases List.mem_cons.mp hp with h | h
        · rw [h]; simp
        · exact hf p h
      · cases ps with
        | nil => exact absurd rfl hn
        | cons p r => rw [e]; rfl
    · cases ps with
      | nil => exact absurd rfl hn
      | cons p r =>
        refine ⟨(d :: p) :: r, by simp, fun q hq => ?_, ?_⟩
        · rcases List.mem_cons.mp hq with hq | hq
          · rw [hq]
            intro m
            rcases List.mem_cons.mp m with m | m
            · exact h m.symm
            · exact hf p (by simp) m
          · exact hf q (List.mem_cons_of_mem _ hq)
        · rw [e]
          cases r <;> rfl
theorem at_of {x : List Nat} {c i : Nat} : StrLaws.At (tx x) (tx [c]) (tx x).length i ↔ x[i]? = some c := by
  unfold StrLaws.At
  rw [StrLaws.subAt_eq]
  show (i + 1 ≤ (tx x).length ∧ ((x.drop i).take 1 == [c]) = true) ↔ _
  rw [tx_len]
  constructor
  · rintro ⟨h1, h2⟩
    have h2 := beq_iff_eq.mp h2
    have h3 : (x.drop i)[0]? = some c := by
      have := congrArg (fun l : List Nat => l[0]?) h2
      simpa using this
    simpa using h3
  · intro h
    have hi := (List.getElem?_eq_some_iff.mp h).1
    refine ⟨by omega, beq_iff_eq.mpr ?_⟩
    obtain ⟨_, e⟩ := List.getElem?_eq_some_iff.mp h
    rw [List.drop_eq_getElem_cons hi, e]
    rfl
/-- partition where the sign stands nowhere, and where it stands -/
theorem partition_none {x : List Nat} {c : Nat} (h : c ∉ x) : Txt.partition (tx x) (tx [c]) = (tx x, Str.empty, Str.empty) := by
  unfold Txt.partition
  rcases StrLaws.occ_head (tx x) (tx [c]) 1 (Nat.le_refl 1) with ⟨h0, _⟩ | ⟨i, r, _, hi, _⟩
  · rw [h0]
  · exact absurd (List.mem_of_getElem? (at_of.mp hi)) h
theorem partition_some {a b : List Nat} {c : Nat} (h : c ∉ a) : Txt.partition (tx (a ++ c :: b)) (tx [c]) = (tx a, tx [c], tx b) := by
  have ha : (a ++ c :: b)[a.length]? = some c := by simp
  unfold Txt.partition
  rcases StrLaws.occ_head (tx (a ++ c :: b)) (tx [c]) 1 (Nat.le_refl 1) with ⟨_, hn⟩ | ⟨i, r, h0, hi, hf⟩
  · exact absurd (at_of.mpr ha) (hn a.length)
  · have e : i = a.length := by
      rcases Nat.lt_trichotomy i a.length with q | q | q
      · have := at_of.mp hi
        rw [List.getElem?_append_left q] at this
        exact absurd (List.mem_of_getElem? this) h
      · exact q
      · exact absurd (at_of.mpr ha) (hf _ q)
    subst e
    rw [h0]
    show (Builtin.Str.strSub _ 0 a.length, tx [c], Builtin.Str.strSub _ (a.length + 1) _) = _
    rw [strSub_mk, strSub_mk, tx_list]
    have e1 : ((a ++ c :: b).drop 0).take (a.length - 0) = a := by simp
    have e2 : ((a ++ c :: b).drop (a.length + 1)).take ((tx (a ++ c :: b)).length - (a.length + 1)) = b := by
      rw [tx_len]
      simp
      rw [show a.length + (b.length + 1) - (a.length + 1) = b.length by omega, List.take_length]
    rw [e1, e2]
    rfl
/-- removeprefix of one sign -/
theorem removeprefix_one {x : List Nat} {c : Nat} : Txt.removeprefix (tx x) (tx [c]) = match x with
    | [] => tx []
    | d :: r => if d = c then tx r else tx (d :: r) := by
  rw [StrLaws.removeprefix_eq, StrLaws.subAt_eq, tx_len, tx_len]
  cases x with
  | nil => rfl
  | cons d r =>
    by_cases h : d = c
    · subst h
      simp [tx]
    · show (if (decide (0 + 1 ≤ (d :: r).length) && (List.take 1 (d :: r) == [c])) = true then _ else tx (d :: r)) = if d = c then tx r else tx (d :: r)
      rw [if_neg (by simp [h]), if_neg h]
end Lb

set_option Elab.async false
set_option linter.all false
set_option maxRecDepth 100000
set_option maxHeartbeats 4000000
/-! numbers written: which texts are written as the program writes them -/
namespace Lb
open PySem L2 NumText TL
theorem numL_head : ∀ n : Nat, 0 < n → (numL n).head? ≠ some 48 := by
  intro n
  induction n using Nat.strongRecOn with
  | ind n ih =>
    intro h
    by_cases h10 : n < 10
    · rw [numL_lt h10]
      intro z
      have := Option.some.inj z
      omega
    · rw [numL_step (by omega)]
      have ih := ih (n / 10) (by omega) (by omega)
      have ne := numL_ne (n / 10)
      cases e : numL (n / 10) with
      | nil => exact absurd e ne
      | cons d r =>
        rw [e] at ih
        exact ih
/-- no nought ahead -/
def canon (w : List Nat) : Prop := w = [48] ∨ w.head? ≠ some 48
instance (w : List Nat) : Decidable (canon w) := inferInstanceAs (Decidable (_ ∨ _))
theorem val_snoc (w : List Nat) (d : Nat) : digitsVal (w ++ [d]) = digitsVal w * 10 + (d - 48) := by
  unfold digitsVal
  rw [List.foldl_append]
  rfl
theorem numL_back : ∀ (k : Nat) (w : List Nat), w.length = k → AllDigits w → w ≠ [] → w.head? ≠ some 48 → 0 < digitsVal w ∧ numL (digitsVal w) = w
  | 0, w, hl, _, hn, _ => absurd (List.eq_nil_of_length_eq_zero hl) hn
  | k + 1, w, hl, hd, hn, hh => by
    obtain ⟨r, d, rfl⟩ : ∃ r d, w = r ++ [d] := ⟨w.dropLast, w.getLast hn, (List.dropLast_concat_getLast hn).symm⟩
    have hd1 : 48 ≤ d ∧ d ≤ 57 := hd d (by simp)
    rw [val_snoc]
    by_cases hr : r = []
    · subst hr
      have h48 : d ≠ 48 := fun z => hh (by rw [z]; rfl)
      have e0 : digitsVal [] = 0 := rfl
      rw [e0, Nat.zero_mul, Nat.zero_add, numL_lt (by omega)]
      refine ⟨by omega, ?_⟩
      rw [List.nil_append, show 48 + (d - 48) = d by omega]
    · have hr0 : r.head? ≠ some 48 := by
        cases r with
        | nil => exact absurd rfl hr
        | cons c s => exact hh
      obtain ⟨p, e⟩ := numL_back k r (by rw [List.length_append, List.length_singleton] at hl; omega) (fun c hc => hd c (List.mem_append_left _ hc)) hr hr0
      refine ⟨by omega, ?_⟩
      rw [numL_step (by omega), show (digitsVal r * 10 + (d - 48)) / 10 = digitsVal r by omega, show (digitsVal r * 10 + (d - 48)) % 10 = d - 48 by omega, e, show 48 + (d - 48) = d by omega]
theorem canon_iff {w : List Nat} (hd : AllDigits w) (hn : w ≠ []) : numL (digitsVal w) = w ↔ canon w := by
  constructor
  · intro e
    by_cases h : digitsVal w = 0
    · left
      rw [h] at e
      rw [← e]
      rfl
    · right
      rw [← e]
      exact numL_head _ (by omega)
  · rintro (h | h)
    · subst h
      rfl
    · exact (numL_back w.length w rfl hd hn h).2
/-- a whole number, written -/
def decL (t : Int) : List Nat := if t < 0 then 45 :: numL t.natAbs else numL t.natAbs
def shownL (t b : Int) : List Nat := if b = 1 then decL t else decL t ++ 47 :: decL b
def sgnI (neg : Bool) (n : Nat) : Int := if neg = true then -(n : Int) else (n : Int)
def preL (neg : Bool) : List Nat := if neg = true then [45] else []
theorem dig_no {w : List Nat} {c : Nat} (hd : AllDigits w) (h : c < 48 ∨ 57 < c) : c ∉ w := fun m => by
  have := hd c m
  omega
theorem val48 {w : List Nat} (hd : AllDigits w) (hn : w ≠ []) (hc : canon w) (h0 : digitsVal w = 0) : w = [48] := by
  rw [← (canon_iff hd hn).mpr hc, h0]
  rfl
theorem one_iff {neg : Bool} {w : List Nat} (hd : AllDigits w) (hn : w ≠ []) : decL (sgnI neg (digitsVal w)) = preL neg ++ w ↔ (canon w ∧ ¬ (neg = true ∧ w = [48])) := by
  unfold decL sgnI preL
  cases neg with
  | false =>
    simp only [Bool.false_eq_true, if_false, List.nil_append, false_and, not_false_eq_true, and_true]
    rw [if_neg (by omega), Int.natAbs_natCast]
    exact canon_iff hd hn
  | true =>
    simp only [if_true, true_and, Int.natAbs_neg, Int.natAbs_natCast]
    by_cases h0 : digitsVal w = 0
    · rw [h0, if_neg (by simp)]
      constructor
      · intro e
        exfalso
        have : (numL 0).head? = some 45 := by rw [e]; rfl
        revert this
        decide
      · rintro ⟨hc, h1⟩
        exact absurd (val48 hd hn hc h0) h1
    · rw [if_pos (by omega)]
      constructor
      · intro e
        have e := (List.cons.inj e).2
        refine ⟨(canon_iff hd hn).mp e, fun z => h0 ?_⟩
        rw [z]
        rfl
      · rintro ⟨hc, _⟩
        rw [(canon_iff hd hn).mpr hc]
        rfl
theorem dec_no47 (t : Int) : 47 ∉ decL t := by
  unfold decL
  split
  · intro m
    rcases List.mem_cons.mp m with m | m
    · exact absurd m (by decide)
    · exact numL_free (.inl (by decide)) m
  · exact numL_free (.inl (by decide))
theorem pre_no47 {neg : Bool} {w : List Nat} (hd : AllDigits w) : 47 ∉ preL neg ++ w := by
  intro m
  rcases List.mem_append.mp m with m | m
  · unfold preL at m
    split at m
    · exact absurd (List.mem_singleton.mp m) (by decide)
    · exact absurd m List.not_mem_nil
  · exact dig_no hd (.inl (by decide)) m
theorem two_iff {neg : Bool} {w v : List Nat} {t b : Int} (hd : AllDigits w) (hn : w ≠ []) (hdv : AllDigits v) (hnv : v ≠ []) (hm : 0 < digitsVal v) (hb : 0 < b) (hg : t.gcd b = 1) (e : sgnI neg (digitsVal w) * b = t * (digitsVal v : Int)) :
    (shownL t b = preL neg ++ w ++ 47 :: v ↔ (canon w ∧ canon v ∧ 2 ≤ digitsVal v ∧ Nat.gcd (digitsVal w) (digitsVal v) = 1)) ∧ (shownL t b = preL neg ++ w ++ 47 :: v → t = sgnI neg (digitsVal w) ∧ b = (digitsVal v : Int)) := by
  have gs : ∀ n m : Nat, (sgnI neg n).gcd (m : Int) = Nat.gcd n m := by
    intro n m
    unfold sgnI Int.gcd
    split <;> simp
  have fwd : shownL t b = preL neg ++ w ++ 47 :: v → (canon w ∧ canon v ∧ 2 ≤ digitsVal v ∧ Nat.gcd (digitsVal w) (digitsVal v) = 1) ∧ t = sgnI neg (digitsVal w) ∧ b = (digitsVal v : Int) := by
    intro h
    unfold shownL at h
    by_cases hb1 : b = 1
    · rw [if_pos hb1] at h
      exact absurd (by rw [h]; simp) (dec_no47 t)
    · rw [if_neg hb1] at h
      obtain ⟨h1, h2⟩ := head_cut (dec_no47 t) (pre_no47 hd) h
      have h2' : numL b.natAbs = v := by
        unfold decL at h2
        rw [if_neg (by omega)] at h2
        exact h2
      have vb : digitsVal v = b.natAbs := by rw [← h2', numL_val]
      have eb : b = (digitsVal v : Int) := by omega
      have et : t = sgnI neg (digitsVal w) := by
        rw [← eb] at e
        exact (Int.eq_of_mul_eq_mul_right (by omega) e).symm
      have cv : canon v := (canon_iff hdv hnv).mp (by rw [vb]; exact h2')
      rw [et] at h1 hg
      rw [eb, gs] at hg
      exact ⟨⟨((one_iff hd hn).mp h1).1, cv, by omega, hg⟩, et, eb⟩
  refine ⟨⟨fun h => (fwd h).1, ?_⟩, fun h => (fwd h).2⟩
  rintro ⟨cw, cv, h2, hg1⟩
  have lo := low_eq (t := sgnI neg (digitsVal w)) (b := (digitsVal v : Int)) (t' := t) (b' := b) (by omega) hb (by rw [gs]; exact hg1) hg e
  obtain ⟨et, eb⟩ := lo
  unfold shownL
  rw [← et, ← eb, if_neg (by omega)]
  have e1 : decL (sgnI neg (digitsVal w)) = preL neg ++ w := (one_iff hd hn).mpr ⟨cw, fun ⟨_, z⟩ => by
    rw [z] at hg1
    have : Nat.gcd (digitsVal [48]) (digitsVal v) = digitsVal v := Nat.gcd_zero_left _
    omega⟩
  have e2 : decL ((digitsVal v : Nat) : Int) = v := by
    unfold decL
    rw [if_neg (by omega), Int.natAbs_natCast]
    exact (canon_iff hdv hnv).mpr cv
  rw [e1, e2]
end Lb

set_option Elab.async false
set_option linter.all false
set_option maxRecDepth 100000
set_option maxHeartbeats 4000000
namespace K19
open PySem L2 Lb
def top (i : Nat) : Stmt := PySem.Challenge.pw_surepipes_k19_points_refused.main.body.getD i (.Pass ⟨0, 0, 0, 0⟩)
abbrev s_InvalidPoints_init_ : Stmt := (inClass (top 6) 0)
theorem sc_InvalidPoints_init_ : FnScope ["self", "position"] ["self", "position"] (defScope s_InvalidPoints_init_) := ⟨rfl, rfl, rfl, by decide +kernel, rfl, by decide +kernel, by decide +kernel⟩
abbrev s_TooMany_init_ : Stmt := (inClass (top 9) 0)
theorem sc_TooMany_init_ : FnScope ["self", "what", "limit"] ["self", "what", "limit"] (defScope s_TooMany_init_) := ⟨rfl, rfl, rfl, by decide +kernel, rfl, by decide +kernel, by decide +kernel⟩
abbrev s_is_integer : Stmt := (top 14)
theorem sc_is_integer : FnScope ["value"] ["value"] (defScope s_is_integer) := ⟨rfl, rfl, rfl, by decide +kernel, rfl, by decide +kernel, by decide +kernel⟩
abbrev s_is_amount_p : Stmt := (top 15)
theorem sc_is_amount_p : FnScope ["value"] ["value"] (defScope s_is_amount_p) := ⟨rfl, rfl, rfl, by decide +kernel, rfl, by decide +kernel, by decide +kernel⟩
abbrev s_amount_of : Stmt := (top 16)
theorem sc_amount_of : FnScope ["value"] ["value"] (defScope s_amount_of) := ⟨rfl, rfl, rfl, by decide +kernel, rfl, by decide +kernel, by decide +kernel⟩
abbrev s_decimal : Stmt := (top 17)
theorem sc_decimal : FnScope ["number", "parts", "part"] ["number"] (defScope s_decimal) := ⟨rfl, rfl, rfl, by decide +kernel, rfl, by decide +kernel, by decide +kernel⟩
abbrev s_Amount_init_ : Stmt := (inClass (top 21) 0)
theorem sc_Amount_init_ : FnScope ["self", "top", "bottom", "divisor"] ["self", "top", "bottom"] (defScope s_Amount_init_) := ⟨rfl, rfl, rfl, by decide +kernel, rfl, by decide +kernel, by decide +kernel⟩
abbrev s_Amounttop : Stmt := (inClass (top 21) 1)
theorem sc_Amounttop : FnScope ["self"] ["self"] (defScope s_Amounttop) := ⟨rfl, rfl, rfl, by decide +kernel, rfl, by decide +kernel, by decide +kernel⟩
abbrev s_Amountbottom : Stmt := (inClass (top 21) 2)
theorem sc_Amountbottom : FnScope ["self"] ["self"] (defScope s_Amountbottom) := ⟨rfl, rfl, rfl, by decide +kernel, rfl, by decide +kernel, by decide +kernel⟩
abbrev s_Amountsign : Stmt := (inClass (top 21) 3)
theorem sc_Amountsign : FnScope ["self"] ["self"] (defScope s_Amountsign) := ⟨rfl, rfl, rfl, by decide +kernel, rfl, by decide +kernel, by decide +kernel⟩
abbrev s_Amount_add_ : Stmt := (inClass (top 21) 4)
theorem sc_Amount_add_ : FnScope ["self", "other", "right"] ["self", "other"] (defScope s_Amount_add_) := ⟨rfl, rfl, rfl, by decide +kernel, rfl, by decide +kernel, by decide +kernel⟩
abbrev s_Amount_radd_ : Stmt := (inClass (top 21) 5)
theorem sc_Amount_radd_ : FnScope ["self", "other"] ["self", "other"] (defScope s_Amount_radd_) := ⟨rfl, rfl, rfl, by decide +kernel, rfl, by decide +kernel, by decide +kernel⟩
abbrev s_Amount_sub_ : Stmt := (inClass (top 21) 6)
theorem sc_Amount_sub_ : FnScope ["self", "other", "right"] ["self", "other"] (defScope s_Amount_sub_) := ⟨rfl, rfl, rfl, by decide +kernel, rfl, by decide +kernel, by decide +kernel⟩
abbrev s_Amount_rsub_ : Stmt := (inClass (top 21) 7)
theorem sc_Amount_rsub_ : FnScope ["self", "other"] ["self", "other"] (defScope s_Amount_rsub_) := ⟨rfl, rfl, rfl, by decide +kernel, rfl, by decide +kernel, by decide +kernel⟩
abbrev s_Amount_mul_ : Stmt := (inClass (top 21) 8)
theorem sc_Amount_mul_ : FnScope ["self", "other", "right"] ["self", "other"] (defScope s_Amount_mul_) := ⟨rfl, rfl, rfl, by decide +kernel, rfl, by decide +kernel, by decide +kernel⟩
abbrev s_Amount_rmul_ : Stmt := (inClass (top 21) 9)
theorem sc_Amount_rmul_ : FnScope ["self", "other"] ["self", "other"] (defScope s_Amount_rmul_) := ⟨rfl, rfl, rfl, by decide +kernel, rfl, by decide +kernel, by decide +kernel⟩
abbrev s_Amountover : Stmt := (inClass (top 21) 10)
theorem sc_Amountover : FnScope ["self", "other", "right"] ["self", "other"] (defScope s_Amountover) := ⟨rfl, rfl, rfl, by decide +kernel, rfl, by decide +kernel, by decide +kernel⟩
abbrev s_Amount_neg_ : Stmt := (inClass (top 21) 11)
theorem sc_Amount_neg_ : FnScope ["self"] ["self"] (defScope s_Amount_neg_) := ⟨rfl, rfl, rfl, by decide +kernel, rfl, by decide +kernel, by decide +kernel⟩
abbrev s_Amount_lt_ : Stmt := (inClass (top 21) 15)
theorem sc_Amount_lt_ : FnScope ["self", "other"] ["self", "other"] (defScope s_Amount_lt_) := ⟨rfl, rfl, rfl, by decide +kernel, rfl, by decide +kernel, by decide +kernel⟩
abbrev s_Amount_le_ : Stmt := (inClass (top 21) 16)
theorem sc_Amount_le_ : FnScope ["self", "other"] ["self", "other"] (defScope s_Amount_le_) := ⟨rfl, rfl, rfl, by decide +kernel, rfl, by decide +kernel, by decide +kernel⟩
abbrev s_Amount_repr_ : Stmt := (inClass (top 21) 20)
theorem sc_Amount_repr_ : FnScope ["self"] ["self"] (defScope s_Amount_repr_) := ⟨rfl, rfl, rfl, by decide +kernel, rfl, by decide +kernel, by decide +kernel⟩
abbrev s_is_point : Stmt := (top 26)
theorem sc_is_point : FnScope ["value"] ["value"] (defScope s_is_point) := ⟨rfl, rfl, rfl, by decide +kernel, rfl, by decide +kernel, by decide +kernel⟩
abbrev s_is_origin : Stmt := (top 27)
theorem sc_is_origin : FnScope ["value"] ["value"] (defScope s_is_origin) := ⟨rfl, rfl, rfl, by decide +kernel, rfl, by decide +kernel, by decide +kernel⟩
abbrev s_checked : Stmt := (top 28)
theorem sc_checked : FnScope ["points", "point", "rows", "position", "row"] ["points"] (defScope s_checked) := ⟨rfl, rfl, rfl, by decide +kernel, rfl, by decide +kernel, by decide +kernel⟩
abbrev s_rises : Stmt := (top 29)
theorem sc_rises : FnScope ["low", "high"] ["low", "high"] (defScope s_rises) := ⟨rfl, rfl, rfl, by decide +kernel, rfl, by decide +kernel, by decide +kernel⟩
abbrev s_with_origin : Stmt := (top 30)
theorem sc_with_origin : FnScope ["rows", "below", "row", "above"] ["rows"] (defScope s_with_origin) := ⟨rfl, rfl, rfl, by decide +kernel, rfl, by decide +kernel, by decide +kernel⟩
abbrev s_piece : Stmt := (top 31)
theorem sc_piece : FnScope ["points", "side", "amount", "first", "last", "middle"] ["points", "side", "amount"] (defScope s_piece) := ⟨rfl, rfl, rfl, by decide +kernel, rfl, by decide +kernel, by decide +kernel⟩
abbrev s_across : Stmt := (top 32)
theorem sc_across : FnScope ["points", "side", "amount", "start", "low", "high", "share"] ["points", "side", "amount"] (defScope s_across) := ⟨rfl, rfl, rfl, by decide +kernel, rfl, by decide +kernel, by decide +kernel⟩
abbrev s_Curve_init_ : Stmt := (inClass (top 39) 0)
theorem sc_Curve_init_ : FnScope ["self", "points"] ["self", "points"] (defScope s_Curve_init_) := ⟨rfl, rfl, rfl, by decide +kernel, rfl, by decide +kernel, by decide +kernel⟩
abbrev s_Curve_call_ : Stmt := (inClass (top 39) 1)
theorem sc_Curve_call_ : FnScope ["self", "flow"] ["self", "flow"] (defScope s_Curve_call_) := ⟨rfl, rfl, rfl, by decide +kernel, rfl, by decide +kernel, by decide +kernel⟩
abbrev s_Curveback : Stmt := (inClass (top 39) 2)
theorem sc_Curveback : FnScope ["self", "drop"] ["self", "drop"] (defScope s_Curveback) := ⟨rfl, rfl, rfl, by decide +kernel, rfl, by decide +kernel, by decide +kernel⟩
abbrev s_Curvepoints : Stmt := (inClass (top 39) 3)
theorem sc_Curvepoints : FnScope ["self"] ["self"] (defScope s_Curvepoints) := ⟨rfl, rfl, rfl, by decide +kernel, rfl, by decide +kernel, by decide +kernel⟩
abbrev s_pot : Stmt := (top 41)
theorem sc_pot : FnScope ["_law_script", "_law_k", "_law_cell"] ["_law_script", "_law_k"] (defScope s_pot) := ⟨rfl, rfl, rfl, by decide +kernel, rfl, by decide +kernel, by decide +kernel⟩
abbrev s_draw : Stmt := (top 42)
theorem sc_draw : FnScope ["_law_pot_here", "_law_many", "_law_digit"] ["_law_pot_here", "_law_many"] (defScope s_draw) := ⟨rfl, rfl, rfl, by decide +kernel, rfl, by decide +kernel, by decide +kernel⟩
abbrev s_pick : Stmt := (top 43)
theorem sc_pick : FnScope ["_law_pot_here", "_law_some"] ["_law_pot_here", "_law_some"] (defScope s_pick) := ⟨rfl, rfl, rfl, by decide +kernel, rfl, by decide +kernel, by decide +kernel⟩
abbrev s_low : Stmt := (top 44)
theorem sc_low : FnScope ["_law_top", "_law_bottom", "_law_here", "_law_there"] ["_law_top", "_law_bottom"] (defScope s_low) := ⟨rfl, rfl, rfl, by decide +kernel, rfl, by decide +kernel, by decide +kernel⟩
abbrev s_minus : Stmt := (top 45)
theorem sc_minus : FnScope ["_law_one", "_law_other"] ["_law_one", "_law_other"] (defScope s_minus) := ⟨rfl, rfl, rfl, by decide +kernel, rfl, by decide +kernel, by decide +kernel⟩
abbrev s_amount : Stmt := (top 46)
theorem sc_amount : FnScope ["_law_part_here"] ["_law_part_here"] (defScope s_amount) := ⟨rfl, rfl, rfl, by decide +kernel, rfl, by decide +kernel, by decide +kernel⟩
abbrev s_read : Stmt := (top 47)
theorem sc_read : FnScope ["_law_told_here"] ["_law_told_here"] (defScope s_read) := ⟨rfl, rfl, rfl, by decide +kernel, rfl, by decide +kernel, by decide +kernel⟩
abbrev s_step : Stmt := (top 48)
theorem sc_step : FnScope ["_law_pot_here"] ["_law_pot_here"] (defScope s_step) := ⟨rfl, rfl, rfl, by decide +kernel, rfl, by decide +kernel, by decide +kernel⟩
abbrev s_points : Stmt := (top 49)
theorem sc_points : FnScope ["_law_pot_here", "_law_sides", "_law_found", "_law_wide", "_law_high", "_law_part_here", "_law_turn", "_law_x", "_law_y"] ["_law_pot_here"] (defScope s_points) := ⟨rfl, rfl, rfl, by decide +kernel, rfl, by decide +kernel, by decide +kernel⟩
abbrev s_passed : Stmt := (top 50)
theorem sc_passed : FnScope ["_law_pot_here", "_law_line", "_law_found", "_law_is_bare", "_law_x", "_law_y"] ["_law_pot_here", "_law_line"] (defScope s_passed) := ⟨rfl, rfl, rfl, by decide +kernel, rfl, by decide +kernel, by decide +kernel⟩
abbrev s_is_amount : Stmt := (top 51)
theorem sc_is_amount : FnScope ["_law_value"] ["_law_value"] (defScope s_is_amount) := ⟨rfl, rfl, rfl, by decide +kernel, rfl, by decide +kernel, by decide +kernel⟩
abbrev s_part : Stmt := (top 52)
theorem sc_part : FnScope ["_law_value"] ["_law_value"] (defScope s_part) := ⟨rfl, rfl, rfl, by decide +kernel, rfl, by decide +kernel, by decide +kernel⟩
abbrev s_sign : Stmt := (top 53)
theorem sc_sign : FnScope ["_law_part_here"] ["_law_part_here"] (defScope s_sign) := ⟨rfl, rfl, rfl, by decide +kernel, rfl, by decide +kernel, by decide +kernel⟩
abbrev s_pair : Stmt := (top 54)
theorem sc_pair : FnScope ["_law_thing", "_law_one", "_law_pair_here"] ["_law_thing"] (defScope s_pair) := ⟨rfl, rfl, rfl, by decide +kernel, rfl, by decide +kernel, by decide +kernel⟩
abbrev s_is_behind : Stmt := (top 55)
theorem sc_is_behind : FnScope ["_law_pair_here", "_law_ahead", "_law_one", "_law_less"] ["_law_pair_here", "_law_ahead"] (defScope s_is_behind) := ⟨rfl, rfl, rfl, by decide +kernel, rfl, by decide +kernel, by decide +kernel⟩
abbrev s_due : Stmt := (top 56)
theorem sc_due : FnScope ["_law_value", "_law_pairs", "_law_thing", "_law_pair_here", "_law_at", "_law_low_here"] ["_law_value"] (defScope s_due) := ⟨rfl, rfl, rfl, by decide +kernel, rfl, by decide +kernel, by decide +kernel⟩
abbrev s_has : Stmt := (top 57)
theorem sc_has : FnScope ["_law_made", "_law_pairs", "_law_x", "_law_y", "_law_one", "_law_other", "_law_far", "_law_near", "_law_last"] ["_law_made", "_law_pairs"] (defScope s_has) := ⟨rfl, rfl, rfl, by decide +kernel, rfl, by decide +kernel, by decide +kernel⟩
abbrev s_told : Stmt := (top 58)
theorem sc_told : FnScope ["_law_value", "_law_is_named", "_law_told_here", "_law_made", "_law_pairs", "_law_part_here", "_law_pair_here", "e"] ["_law_value", "_law_is_named"] (defScope s_told) := ⟨rfl, rfl, rfl, by decide +kernel, rfl, by decide +kernel, by decide +kernel⟩
abbrev s_odd : Stmt := (top 59)
theorem sc_odd : FnScope ["_law_pot_here", "_law_things", "_law_at", "_law_x", "_law_y", "_law_some"] ["_law_pot_here", "_law_things"] (defScope s_odd) := ⟨rfl, rfl, rfl, by decide +kernel, rfl, by decide +kernel, by decide +kernel⟩
abbrev s_spoilt : Stmt := (top 60)
theorem sc_spoilt : FnScope ["_law_pot_here", "_law_things", "_law_way", "_law_at", "_law_found", "_law_one"] ["_law_pot_here", "_law_things"] (defScope s_spoilt) := ⟨rfl, rfl, rfl, by decide +kernel, rfl, by decide +kernel, by decide +kernel⟩
abbrev s_long : Stmt := (top 61)
theorem sc_long : FnScope ["_law_pot_here", "_law_many", "_law_first", "_law_found", "_law_at"] ["_law_pot_here", "_law_many"] (defScope s_long) := ⟨rfl, rfl, rfl, by decide +kernel, rfl, by decide +kernel, by decide +kernel⟩
abbrev s_right : Stmt := (top 62)
theorem sc_right : FnScope ["_law_pot_here", "_law_some", "_law_odd_here", "_law_thing", "_law_shown", "_law_is_named"] ["_law_pot_here"] (defScope s_right) := ⟨rfl, rfl, rfl, by decide +kernel, rfl, by decide +kernel, by decide +kernel⟩
abbrev s_law : Stmt := (top 63)
theorem sc_law : FnScope ["_law_script", "_law_k", "_law_pot_here", "_law_turn"] ["_law_script"] (defScope s_law) := ⟨rfl, rfl, rfl, by decide +kernel, rfl, by decide +kernel, by decide +kernel⟩
structure Ad where
  f_InvalidPoints_init_ : Addr
  d_InvalidPoints_init_ : FuncData
  f_TooMany_init_ : Addr
  d_TooMany_init_ : FuncData
  f_is_integer : Addr
  d_is_integer : FuncData
  f_is_amount_p : Addr
  d_is_amount_p : FuncData
  f_amount_of : Addr
  d_amount_of : FuncData
  f_decimal : Addr
  d_decimal : FuncData
  f_Amount_init_ : Addr
  d_Amount_init_ : FuncData
  f_Amounttop : Addr
  d_Amounttop : FuncData
  f_Amountbottom : Addr
  d_Amountbottom : FuncData
  f_Amountsign : Addr
  d_Amountsign : FuncData
  f_Amount_add_ : Addr
  d_Amount_add_ : FuncData
  f_Amount_radd_ : Addr
  d_Amount_radd_ : FuncData
  f_Amount_sub_ : Addr
  d_Amount_sub_ : FuncData
  f_Amount_rsub_ : Addr
  d_Amount_rsub_ : FuncData
  f_Amount_mul_ : Addr
  d_Amount_mul_ : FuncData
  f_Amount_rmul_ : Addr
  d_Amount_rmul_ : FuncData
  f_Amountover : Addr
  d_Amountover : FuncData
  f_Amount_neg_ : Addr
  d_Amount_neg_ : FuncData
  f_Amount_lt_ : Addr
  d_Amount_lt_ : FuncData
  f_Amount_le_ : Addr
  d_Amount_le_ : FuncData
  f_Amount_repr_ : Addr
  d_Amount_repr_ : FuncData
  f_is_point : Addr
  d_is_point : FuncData
  f_is_origin : Addr
  d_is_origin : FuncData
  f_checked : Addr
  d_checked : FuncData
  f_rises : Addr
  d_rises : FuncData
  f_with_origin : Addr
  d_with_origin : FuncData
  f_piece : Addr
  d_piece : FuncData
  f_across : Addr
  d_across : FuncData
  f_Curve_init_ : Addr
  d_Curve_init_ : FuncData
  f_Curve_call_ : Addr
  d_Curve_call_ : FuncData
  f_Curveback : Addr
  d_Curveback : FuncData
  f_Curvepoints : Addr
  d_Curvepoints : FuncData
  f_pot : Addr
  d_pot : FuncData
  f_draw : Addr
  d_draw : FuncData
  f_pick : Addr
  d_pick : FuncData
  f_low : Addr
  d_low : FuncData
  f_minus : Addr
  d_minus : FuncData
  f_amount : Addr
  d_amount : FuncData
  f_read : Addr
  d_read : FuncData
  f_step : Addr
  d_step : FuncData
  f_points : Addr
  d_points : FuncData
  f_passed : Addr
  d_passed : FuncData
  f_is_amount : Addr
  d_is_amount : FuncData
  f_part : Addr
  d_part : FuncData
  f_sign : Addr
  d_sign : FuncData
  f_pair : Addr
  d_pair : FuncData
  f_is_behind : Addr
  d_is_behind : FuncData
  f_due : Addr
  d_due : FuncData
  f_has : Addr
  d_has : FuncData
  f_told : Addr
  d_told : FuncData
  f_odd : Addr
  d_odd : FuncData
  f_spoilt : Addr
  d_spoilt : FuncData
  f_long : Addr
  d_long : FuncData
  f_right : Addr
  d_right : FuncData
  f_law : Addr
  d_law : FuncData
  c_Amount : Addr
  c_Curve : Addr
  c_InvalidPoints : Addr
  c_TooMany : Addr
  c_PipeError : Addr
  c_LimitError : Addr
  p_top : Addr
  p_bottom : Addr
  p_sign : Addr
structure Txt (K : PySem.W.Frag) (mg : Str → Option Value) (a : Ad) : Prop where
  F_InvalidPoints_init_ : Fun K "__init__" "InvalidPoints.__init__" s_InvalidPoints_init_ a.f_InvalidPoints_init_ a.d_InvalidPoints_init_
  F_TooMany_init_ : Fun K "__init__" "TooMany.__init__" s_TooMany_init_ a.f_TooMany_init_ a.d_TooMany_init_
  F_is_integer : Fun K "is_integer" "is_integer" s_is_integer a.f_is_integer a.d_is_integer
  m_is_integer : mg "is_integer" = some (.ref a.f_is_integer)
  F_is_amount_p : Fun K "is_amount" "is_amount" s_is_amount_p a.f_is_amount_p a.d_is_amount_p
  m_is_amount_p : mg "is_amount" = some (.ref a.f_is_amount_p)
  F_amount_of : Fun K "amount_of" "amount_of" s_amount_of a.f_amount_of a.d_amount_of
  m_amount_of : mg "amount_of" = some (.ref a.f_amount_of)
  F_decimal : Fun K "_decimal" "_decimal" s_decimal a.f_decimal a.d_decimal
  m_decimal : mg "_decimal" = some (.ref a.f_decimal)
  F_Amount_init_ : FunD K "__init__" "Amount.__init__" (defArgs s_Amount_init_) (defBody s_Amount_init_) (defScope s_Amount_init_) [.int 1] [] a.f_Amount_init_ a.d_Amount_init_
  F_Amounttop : Fun K "top" "Amount.top" s_Amounttop a.f_Amounttop a.d_Amounttop
  F_Amountbottom : Fun K "bottom" "Amount.bottom" s_Amountbottom a.f_Amountbottom a.d_Amountbottom
  F_Amountsign : Fun K "sign" "Amount.sign" s_Amountsign a.f_Amountsign a.d_Amountsign
  F_Amount_add_ : Fun K "__add__" "Amount.__add__" s_Amount_add_ a.f_Amount_add_ a.d_Amount_add_
  F_Amount_radd_ : Fun K "__radd__" "Amount.__radd__" s_Amount_radd_ a.f_Amount_radd_ a.d_Amount_radd_
  F_Amount_sub_ : Fun K "__sub__" "Amount.__sub__" s_Amount_sub_ a.f_Amount_sub_ a.d_Amount_sub_
  F_Amount_rsub_ : Fun K "__rsub__" "Amount.__rsub__" s_Amount_rsub_ a.f_Amount_rsub_ a.d_Amount_rsub_
  F_Amount_mul_ : Fun K "__mul__" "Amount.__mul__" s_Amount_mul_ a.f_Amount_mul_ a.d_Amount_mul_
  F_Amount_rmul_ : Fun K "__rmul__" "Amount.__rmul__" s_Amount_rmul_ a.f_Amount_rmul_ a.d_Amount_rmul_
  F_Amountover : Fun K "over" "Amount.over" s_Amountover a.f_Amountover a.d_Amountover
  F_Amount_neg_ : Fun K "__neg__" "Amount.__neg__" s_Amount_neg_ a.f_Amount_neg_ a.d_Amount_neg_
  F_Amount_lt_ : Fun K "__lt__" "Amount.__lt__" s_Amount_lt_ a.f_Amount_lt_ a.d_Amount_lt_
  F_Amount_le_ : Fun K "__le__" "Amount.__le__" s_Amount_le_ a.f_Amount_le_ a.d_Amount_le_
  F_Amount_repr_ : Fun K "__repr__" "Amount.__repr__" s_Amount_repr_ a.f_Amount_repr_ a.d_Amount_repr_
  F_is_point : Fun K "_is_point" "_is_point" s_is_point a.f_is_point a.d_is_point
  m_is_point : mg "_is_point" = some (.ref a.f_is_point)
  F_is_origin : Fun K "_is_origin" "_is_origin" s_is_origin a.f_is_origin a.d_is_origin
  m_is_origin : mg "_is_origin" = some (.ref a.f_is_origin)
  F_checked : Fun K "_checked" "_checked" s_checked a.f_checked a.d_checked
  m_checked : mg "_checked" = some (.ref a.f_checked)
  F_rises : Fun K "_rises" "_rises" s_rises a.f_rises a.d_rises
  m_rises : mg "_rises" = some (.ref a.f_rises)
  F_with_origin : Fun K "_with_origin" "_with_origin" s_with_origin a.f_with_origin a.d_with_origin
  m_with_origin : mg "_with_origin" = some (.ref a.f_with_origin)
  F_piece : Fun K "_piece" "_piece" s_piece a.f_piece a.d_piece
  m_piece : mg "_piece" = some (.ref a.f_piece)
  F_across : Fun K "_across" "_across" s_across a.f_across a.d_across
  m_across : mg "_across" = some (.ref a.f_across)
  F_Curve_init_ : Fun K "__init__" "Curve.__init__" s_Curve_init_ a.f_Curve_init_ a.d_Curve_init_
  F_Curve_call_ : Fun K "__call__" "Curve.__call__" s_Curve_call_ a.f_Curve_call_ a.d_Curve_call_
  F_Curveback : Fun K "back" "Curve.back" s_Curveback a.f_Curveback a.d_Curveback
  F_Curvepoints : Fun K "points" "Curve.points" s_Curvepoints a.f_Curvepoints a.d_Curvepoints
  F_pot : Fun K "_law_pot" "_law_pot" s_pot a.f_pot a.d_pot
  m_pot : mg "_law_pot" = some (.ref a.f_pot)
  F_draw : Fun K "_law_draw" "_law_draw" s_draw a.f_draw a.d_draw
  m_draw : mg "_law_draw" = some (.ref a.f_draw)
  F_pick : Fun K "_law_pick" "_law_pick" s_pick a.f_pick a.d_pick
  m_pick : mg "_law_pick" = some (.ref a.f_pick)
  F_low : Fun K "_law_low" "_law_low" s_low a.f_low a.d_low
  m_low : mg "_law_low" = some (.ref a.f_low)
  F_minus : Fun K "_law_minus" "_law_minus" s_minus a.f_minus a.d_minus
  m_minus : mg "_law_minus" = some (.ref a.f_minus)
  F_amount : Fun K "_law_amount" "_law_amount" s_amount a.f_amount a.d_amount
  m_amount : mg "_law_amount" = some (.ref a.f_amount)
  F_read : Fun K "_law_read" "_law_read" s_read a.f_read a.d_read
  m_read : mg "_law_read" = some (.ref a.f_read)
  F_step : Fun K "_law_step" "_law_step" s_step a.f_step a.d_step
  m_step : mg "_law_step" = some (.ref a.f_step)
  F_points : Fun K "_law_points" "_law_points" s_points a.f_points a.d_points
  m_points : mg "_law_points" = some (.ref a.f_points)
  F_passed : Fun K "_law_passed" "_law_passed" s_passed a.f_passed a.d_passed
  m_passed : mg "_law_passed" = some (.ref a.f_passed)
  F_is_amount : Fun K "_law_is_amount" "_law_is_amount" s_is_amount a.f_is_amount a.d_is_amount
  m_is_amount : mg "_law_is_amount" = some (.ref a.f_is_amount)
  F_part : Fun K "_law_part" "_law_part" s_part a.f_part a.d_part
  m_part : mg "_law_part" = some (.ref a.f_part)
  F_sign : Fun K "_law_sign" "_law_sign" s_sign a.f_sign a.d_sign
  m_sign : mg "_law_sign" = some (.ref a.f_sign)
  F_pair : Fun K "_law_pair" "_law_pair" s_pair a.f_pair a.d_pair
  m_pair : mg "_law_pair" = some (.ref a.f_pair)
  F_is_behind : Fun K "_law_is_behind" "_law_is_behind" s_is_behind a.f_is_behind a.d_is_behind
  m_is_behind : mg "_law_is_behind" = some (.ref a.f_is_behind)
  F_due : Fun K "_law_due" "_law_due" s_due a.f_due a.d_due
  m_due : mg "_law_due" = some (.ref a.f_due)
  F_has : Fun K "_law_has" "_law_has" s_has a.f_has a.d_has
  m_has : mg "_law_has" = some (.ref a.f_has)
  F_told : Fun K "_law_told" "_law_told" s_told a.f_told a.d_told
  m_told : mg "_law_told" = some (.ref a.f_told)
  F_odd : Fun K "_law_odd" "_law_odd" s_odd a.f_odd a.d_odd
  m_odd : mg "_law_odd" = some (.ref a.f_odd)
  F_spoilt : Fun K "_law_spoilt" "_law_spoilt" s_spoilt a.f_spoilt a.d_spoilt
  m_spoilt : mg "_law_spoilt" = some (.ref a.f_spoilt)
  F_long : Fun K "_law_long" "_law_long" s_long a.f_long a.d_long
  m_long : mg "_law_long" = some (.ref a.f_long)
  F_right : Fun K "_law_right" "_law_right" s_right a.f_right a.d_right
  m_right : mg "_law_right" = some (.ref a.f_right)
  F_law : Fun K "law" "law" s_law a.f_law a.d_law
  m_law : mg "law" = some (.ref a.f_law)
  cl : Cls K a.c_Amount
  nT : NoAttr K a.c_Amount "_top"
  nB : NoAttr K a.c_Amount "_bottom"
  mA : mg "Amount" = some (.ref a.c_Amount)
  mkA : Mk K a.c_Amount a.f_Amount_init_
  m_gcd : mg "gcd" = some (.builtin "math.gcd")
  I : Inst K a.c_Amount
  p_top : PropOf K a.c_Amount "top" a.p_top a.f_Amounttop
  p_bottom : PropOf K a.c_Amount "bottom" a.p_bottom a.f_Amountbottom
  p_sign : PropOf K a.c_Amount "sign" a.p_sign a.f_Amountsign
  gPart : ∃ t, mg "PART" = some (.int (10 ^ 60) t)
  gLen : ∃ t, mg "PART_LENGTH" = some (.int 60 t)
  gFlow : ∃ t, mg "FLOW" = some (.int 0 t)
  gDrop : ∃ t, mg "DROP" = some (.int 1 t)
  gMost : ∃ t, mg "MOST_POINTS" = some (.int 80 t)
  oAdd : OwnBin K a.c_Amount .Add a.f_Amount_add_ a.f_Amount_radd_
  oSub : OwnBin K a.c_Amount .Sub a.f_Amount_sub_ a.f_Amount_rsub_
  oMul : OwnBin K a.c_Amount .Mult a.f_Amount_mul_ a.f_Amount_rmul_
  cLt : OwnM K a.c_Amount "__lt__" a.f_Amount_lt_
  cLe : OwnM K a.c_Amount "__le__" a.f_Amount_le_
  cRe : OwnM K a.c_Amount "__repr__" a.f_Amount_repr_
  cNg : OwnM K a.c_Amount "__neg__" a.f_Amount_neg_
  mOver : Meth K a.c_Amount "over" a.f_Amountover
  cl2 : Cls K a.c_Curve
  nP : NoAttr K a.c_Curve "_points"
  mC : mg "Curve" = some (.ref a.c_Curve)
  mkC : Mk K a.c_Curve a.f_Curve_init_
  mBack : Meth K a.c_Curve "back" a.f_Curveback
  mPts : Meth K a.c_Curve "points" a.f_Curvepoints
  cCall : StX.CallO K a.c_Curve a.f_Curve_call_
  kAt : PySem.W.kitOne K (.ref a.c_Amount) (.type "tuple") = some false
  kAl : PySem.W.kitOne K (.ref a.c_Amount) (.type "list") = some false
  kAb : PySem.W.kitOne K (.ref a.c_Amount) (.type "bool") = some false
  mP : mg "PipeError" = some (.ref a.c_PipeError)
  mL : mg "LimitError" = some (.ref a.c_LimitError)
  xInvalidPoints : Exq K mg "InvalidPoints" a.c_InvalidPoints a.f_InvalidPoints_init_
  nInvalidPoints : PySem.W.findIn K (.ref a.c_InvalidPoints) "position" = some none
  eInvalidPoints : ExcC K a.c_InvalidPoints
  kInvalidPoints : PySem.W.kitOne K (.ref a.c_InvalidPoints) (.ref a.c_PipeError) = some true
  xTooMany : ExqA K mg "TooMany" a.c_TooMany a.f_TooMany_init_
  nTooMany : PySem.W.findIn K (.ref a.c_TooMany) "what" = some none
  n2TooMany : PySem.W.findIn K (.ref a.c_TooMany) "limit" = some none
  eTooMany : ExcC K a.c_TooMany
  kTooMany : PySem.W.kitOne K (.ref a.c_TooMany) (.ref a.c_LimitError) = some true
  xx1 : PySem.W.exmOne K (.ref a.c_TooMany) (.ref a.c_InvalidPoints) = some false
  b_len : mg "len" = none
  b_abs : mg "abs" = none
  b_max : mg "max" = none
  b_min : mg "min" = none
  b_int : mg "int" = none
  b_divmod : mg "divmod" = none
  b_all : mg "all" = none
  b_repr : mg "repr" = none
  b_isinstance : mg "isinstance" = none
  b_str : mg "str" = none
  b_range : mg "range" = none
  b_bool : mg "bool" = none
  b_list : mg "list" = none
  b_tuple : mg "tuple" = none
  b_enumerate : mg "enumerate" = none
  b_zip : mg "zip" = none
  b_ValueError : mg "ValueError" = none
theorem b_InvalidPoints_init_ {K : PySem.W.Frag} {mg : Str → Option Value} {a : Ad} (T : Txt K mg a) : Binds K a.d_InvalidPoints_init_ ["self", "position"] [] := T.F_InvalidPoints_init_.binds (ps := ["self", "position"]) fun _ _ _ _ _ _ us hl => match us, hl with | [_, _], _ => rfl
theorem b_TooMany_init_ {K : PySem.W.Frag} {mg : Str → Option Value} {a : Ad} (T : Txt K mg a) : Binds K a.d_TooMany_init_ ["self", "what", "limit"] [] := T.F_TooMany_init_.binds (ps := ["self", "what", "limit"]) fun _ _ _ _ _ _ us hl => match us, hl with | [_, _, _], _ => rfl
theorem b_is_integer {K : PySem.W.Frag} {mg : Str → Option Value} {a : Ad} (T : Txt K mg a) : Binds K a.d_is_integer ["value"] [] := T.F_is_integer.binds (ps := ["value"]) fun _ _ _ _ _ _ us hl => match us, hl with | [_], _ => rfl
theorem b_is_amount_p {K : PySem.W.Frag} {mg : Str → Option Value} {a : Ad} (T : Txt K mg a) : Binds K a.d_is_amount_p ["value"] [] := T.F_is_amount_p.binds (ps := ["value"]) fun _ _ _ _ _ _ us hl => match us, hl with | [_], _ => rfl
theorem b_amount_of {K : PySem.W.Frag} {mg : Str → Option Value} {a : Ad} (T : Txt K mg a) : Binds K a.d_amount_of ["value"] [] := T.F_amount_of.binds (ps := ["value"]) fun _ _ _ _ _ _ us hl => match us, hl with | [_], _ => rfl
theorem b_decimal {K : PySem.W.Frag} {mg : Str → Option Value} {a : Ad} (T : Txt K mg a) : Binds K a.d_decimal ["number"] [] := T.F_decimal.binds (ps := ["number"]) fun _ _ _ _ _ _ us hl => match us, hl with | [_], _ => rfl
theorem b_Amount_init_ {K : PySem.W.Frag} {mg : Str → Option Value} {a : Ad} (T : Txt K mg a) : Binds K a.d_Amount_init_ ["self", "top", "bottom"] [] := by
  obtain ⟨ds, r, b⟩ := T.F_Amount_init_.binds1 (ps := ["self", "top", "bottom"]) 3 1 (by simp) rfl (fun _ _ _ _ _ _ _ us its h1 h2 => match us, its, h1, h2 with | [_, _, _], [_], _, _ => ⟨_, rfl, rfl⟩)
  cases r
  exact b
theorem b_Amounttop {K : PySem.W.Frag} {mg : Str → Option Value} {a : Ad} (T : Txt K mg a) : Binds K a.d_Amounttop ["self"] [] := T.F_Amounttop.binds (ps := ["self"]) fun _ _ _ _ _ _ us hl => match us, hl with | [_], _ => rfl
theorem b_Amountbottom {K : PySem.W.Frag} {mg : Str → Option Value} {a : Ad} (T : Txt K mg a) : Binds K a.d_Amountbottom ["self"] [] := T.F_Amountbottom.binds (ps := ["self"]) fun _ _ _ _ _ _ us hl => match us, hl with | [_], _ => rfl
theorem b_Amountsign {K : PySem.W.Frag} {mg : Str → Option Value} {a : Ad} (T : Txt K mg a) : Binds K a.d_Amountsign ["self"] [] := T.F_Amountsign.binds (ps := ["self"]) fun _ _ _ _ _ _ us hl => match us, hl with | [_], _ => rfl
theorem b_Amount_add_ {K : PySem.W.Frag} {mg : Str → Option Value} {a : Ad} (T : Txt K mg a) : Binds K a.d_Amount_add_ ["self", "other"] [] := T.F_Amount_add_.binds (ps := ["self", "other"]) fun _ _ _ _ _ _ us hl => match us, hl with | [_, _], _ => rfl
theorem b_Amount_radd_ {K : PySem.W.Frag} {mg : Str → Option Value} {a : Ad} (T : Txt K mg a) : Binds K a.d_Amount_radd_ ["self", "other"] [] := T.F_Amount_radd_.binds (ps := ["self", "other"]) fun _ _ _ _ _ _ us hl => match us, hl with | [_, _], _ => rfl
theorem b_Amount_sub_ {K : PySem.W.Frag} {mg : Str → Option Value} {a : Ad} (T : Txt K mg a) : Binds K a.d_Amount_sub_ ["self", "other"] [] := T.F_Amount_sub_.binds (ps := ["self", "other"]) fun _ _ _ _ _ _ us hl => match us, hl with | [_, _], _ => rfl
theorem b_Amount_rsub_ {K : PySem.W.Frag} {mg : Str → Option Value} {a : Ad} (T : Txt K mg a) : Binds K a.d_Amount_rsub_ ["self", "other"] [] := T.F_Amount_rsub_.binds (ps := ["self", "other"]) fun _ _ _ _ _ _ us hl => match us, hl with | [_, _], _ => rfl
theorem b_Amount_mul_ {K : PySem.W.Frag} {mg : Str → Option Value} {a : Ad} (T : Txt K mg a) : Binds K a.d_Amount_mul_ ["self", "other"] [] := T.F_Amount_mul_.binds (ps := ["self", "other"]) fun _ _ _ _ _ _ us hl => match us, hl with | [_, _], _ => rfl
theorem b_Amount_rmul_ {K : PySem.W.Frag} {mg : Str → Option Value} {a : Ad} (T : Txt K mg a) : Binds K a.d_Amount_rmul_ ["self", "other"] [] := T.F_Amount_rmul_.binds (ps := ["self", "other"]) fun _ _ _ _ _ _ us hl => match us, hl with | [_, _], _ => rfl
theorem b_Amountover {K : PySem.W.Frag} {mg : Str → Option Value} {a : Ad} (T : Txt K mg a) : Binds K a.d_Amountover ["self", "other"] [] := T.F_Amountover.binds (ps := ["self", "other"]) fun _ _ _ _ _ _ us hl => match us, hl with | [_, _], _ => rfl
theorem b_Amount_neg_ {K : PySem.W.Frag} {mg : Str → Option Value} {a : Ad} (T : Txt K mg a) : Binds K a.d_Amount_neg_ ["self"] [] := T.F_Amount_neg_.binds (ps := ["self"]) fun _ _ _ _ _ _ us hl => match us, hl with | [_], _ => rfl
theorem b_Amount_lt_ {K : PySem.W.Frag} {mg : Str → Option Value} {a : Ad} (T : Txt K mg a) : Binds K a.d_Amount_lt_ ["self", "other"] [] := T.F_Amount_lt_.binds (ps := ["self", "other"]) fun _ _ _ _ _ _ us hl => match us, hl with | [_, _], _ => rfl
theorem b_Amount_le_ {K : PySem.W.Frag} {mg : Str → Option Value} {a : Ad} (T : Txt K mg a) : Binds K a.d_Amount_le_ ["self", "other"] [] := T.F_Amount_le_.binds (ps := ["self", "other"]) fun _ _ _ _ _ _ us hl => match us, hl with | [_, _], _ => rfl
theorem b_Amount_repr_ {K : PySem.W.Frag} {mg : Str → Option Value} {a : Ad} (T : Txt K mg a) : Binds K a.d_Amount_repr_ ["self"] [] := T.F_Amount_repr_.binds (ps := ["self"]) fun _ _ _ _ _ _ us hl => match us, hl with | [_], _ => rfl
theorem b_is_point {K : PySem.W.Frag} {mg : Str → Option Value} {a : Ad} (T : Txt K mg a) : Binds K a.d_is_point ["value"] [] := T.F_is_point.binds (ps := ["value"]) fun _ _ _ _ _ _ us hl => match us, hl with | [_], _ => rfl
theorem b_is_origin {K : PySem.W.Frag} {mg : Str → Option Value} {a : Ad} (T : Txt K mg a) : Binds K a.d_is_origin ["value"] [] := T.F_is_origin.binds (ps := ["value"]) fun _ _ _ _ _ _ us hl => match us, hl with | [_], _ => rfl
theorem b_checked {K : PySem.W.Frag} {mg : Str → Option Value} {a : Ad} (T : Txt K mg a) : Binds K a.d_checked ["points"] [] := T.F_checked.binds (ps := ["points"]) fun _ _ _ _ _ _ us hl => match us, hl with | [_], _ => rfl
theorem b_rises {K : PySem.W.Frag} {mg : Str → Option Value} {a : Ad} (T : Txt K mg a) : Binds K a.d_rises ["low", "high"] [] := T.F_rises.binds (ps := ["low", "high"]) fun _ _ _ _ _ _ us hl => match us, hl with | [_, _], _ => rfl
theorem b_with_origin {K : PySem.W.Frag} {mg : Str → Option Value} {a : Ad} (T : Txt K mg a) : Binds K a.d_with_origin ["rows"] [] := T.F_with_origin.binds (ps := ["rows"]) fun _ _ _ _ _ _ us hl => match us, hl with | [_], _ => rfl
theorem b_piece {K : PySem.W.Frag} {mg : Str → Option Value} {a : Ad} (T : Txt K mg a) : Binds K a.d_piece ["points", "side", "amount"] [] := T.F_piece.binds (ps := ["points", "side", "amount"]) fun _ _ _ _ _ _ us hl => match us, hl with | [_, _, _], _ => rfl
theorem b_across {K : PySem.W.Frag} {mg : Str → Option Value} {a : Ad} (T : Txt K mg a) : Binds K a.d_across ["points", "side", "amount"] [] := T.F_across.binds (ps := ["points", "side", "amount"]) fun _ _ _ _ _ _ us hl => match us, hl with | [_, _, _], _ => rfl
theorem b_Curve_init_ {K : PySem.W.Frag} {mg : Str → Option Value} {a : Ad} (T : Txt K mg a) : Binds K a.d_Curve_init_ ["self", "points"] [] := T.F_Curve_init_.binds (ps := ["self", "points"]) fun _ _ _ _ _ _ us hl => match us, hl with | [_, _], _ => rfl
theorem b_Curve_call_ {K : PySem.W.Frag} {mg : Str → Option Value} {a : Ad} (T : Txt K mg a) : Binds K a.d_Curve_call_ ["self", "flow"] [] := T.F_Curve_call_.binds (ps := ["self", "flow"]) fun _ _ _ _ _ _ us hl => match us, hl with | [_, _], _ => rfl
theorem b_Curveback {K : PySem.W.Frag} {mg : Str → Option Value} {a : Ad} (T : Txt K mg a) : Binds K a.d_Curveback ["self", "drop"] [] := T.F_Curveback.binds (ps := ["self", "drop"]) fun _ _ _ _ _ _ us hl => match us, hl with | [_, _], _ => rfl
theorem b_Curvepoints {K : PySem.W.Frag} {mg : Str → Option Value} {a : Ad} (T : Txt K mg a) : Binds K a.d_Curvepoints ["self"] [] := T.F_Curvepoints.binds (ps := ["self"]) fun _ _ _ _ _ _ us hl => match us, hl with | [_], _ => rfl
theorem b_pot {K : PySem.W.Frag} {mg : Str → Option Value} {a : Ad} (T : Txt K mg a) : Binds K a.d_pot ["_law_script", "_law_k"] [] := T.F_pot.binds (ps := ["_law_script", "_law_k"]) fun _ _ _ _ _ _ us hl => match us, hl with | [_, _], _ => rfl
theorem b_draw {K : PySem.W.Frag} {mg : Str → Option Value} {a : Ad} (T : Txt K mg a) : Binds K a.d_draw ["_law_pot_here", "_law_many"] [] := T.F_draw.binds (ps := ["_law_pot_here", "_law_many"]) fun _ _ _ _ _ _ us hl => match us, hl with | [_, _], _ => rfl
theorem b_pick {K : PySem.W.Frag} {mg : Str → Option Value} {a : Ad} (T : Txt K mg a) : Binds K a.d_pick ["_law_pot_here", "_law_some"] [] := T.F_pick.binds (ps := ["_law_pot_here", "_law_some"]) fun _ _ _ _ _ _ us hl => match us, hl with | [_, _], _ => rfl
theorem b_low {K : PySem.W.Frag} {mg : Str → Option Value} {a : Ad} (T : Txt K mg a) : Binds K a.d_low ["_law_top", "_law_bottom"] [] := T.F_low.binds (ps := ["_law_top", "_law_bottom"]) fun _ _ _ _ _ _ us hl => match us, hl with | [_, _], _ => rfl
theorem b_minus {K : PySem.W.Frag} {mg : Str → Option Value} {a : Ad} (T : Txt K mg a) : Binds K a.d_minus ["_law_one", "_law_other"] [] := T.F_minus.binds (ps := ["_law_one", "_law_other"]) fun _ _ _ _ _ _ us hl => match us, hl with | [_, _], _ => rfl
theorem b_amount {K : PySem.W.Frag} {mg : Str → Option Value} {a : Ad} (T : Txt K mg a) : Binds K a.d_amount ["_law_part_here"] [] := T.F_amount.binds (ps := ["_law_part_here"]) fun _ _ _ _ _ _ us hl => match us, hl with | [_], _ => rfl
theorem b_read {K : PySem.W.Frag} {mg : Str → Option Value} {a : Ad} (T : Txt K mg a) : Binds K a.d_read ["_law_told_here"] [] := T.F_read.binds (ps := ["_law_told_here"]) fun _ _ _ _ _ _ us hl => match us, hl with | [_], _ => rfl
theorem b_step {K : PySem.W.Frag} {mg : Str → Option Value} {a : Ad} (T : Txt K mg a) : Binds K a.d_step ["_law_pot_here"] [] := T.F_step.binds (ps := ["_law_pot_here"]) fun _ _ _ _ _ _ us hl => match us, hl with | [_], _ => rfl
theorem b_points {K : PySem.W.Frag} {mg : Str → Option Value} {a : Ad} (T : Txt K mg a) : Binds K a.d_points ["_law_pot_here"] [] := T.F_points.binds (ps := ["_law_pot_here"]) fun _ _ _ _ _ _ us hl => match us, hl with | [_], _ => rfl
theorem b_passed {K : PySem.W.Frag} {mg : Str → Option Value} {a : Ad} (T : Txt K mg a) : Binds K a.d_passed ["_law_pot_here", "_law_line"] [] := T.F_passed.binds (ps := ["_law_pot_here", "_law_line"]) fun _ _ _ _ _ _ us hl => match us, hl with | [_, _], _ => rfl
theorem b_is_amount {K : PySem.W.Frag} {mg : Str → Option Value} {a : Ad} (T : Txt K mg a) : Binds K a.d_is_amount ["_law_value"] [] := T.F_is_amount.binds (ps := ["_law_value"]) fun _ _ _ _ _ _ us hl => match us, hl with | [_], _ => rfl
theorem b_part {K : PySem.W.Frag} {mg : Str → Option Value} {a : Ad} (T : Txt K mg a) : Binds K a.d_part ["_law_value"] [] := T.F_part.binds (ps := ["_law_value"]) fun _ _ _ _ _ _ us hl => match us, hl with | [_], _ => rfl
theorem b_sign {K : PySem.W.Frag} {mg : Str → Option Value} {a : Ad} (T : Txt K mg a) : Binds K a.d_sign ["_law_part_here"] [] := T.F_sign.binds (ps := ["_law_part_here"]) fun _ _ _ _ _ _ us hl => match us, hl with | [_], _ => rfl
theorem b_pair {K : PySem.W.Frag} {mg : Str → Option Value} {a : Ad} (T : Txt K mg a) : Binds K a.d_pair ["_law_thing"] [] := T.F_pair.binds (ps := ["_law_thing"]) fun _ _ _ _ _ _ us hl => match us, hl with | [_], _ => rfl
theorem b_is_behind {K : PySem.W.Frag} {mg : Str → Option Value} {a : Ad} (T : Txt K mg a) : Binds K a.d_is_behind ["_law_pair_here", "_law_ahead"] [] := T.F_is_behind.binds (ps := ["_law_pair_here", "_law_ahead"]) fun _ _ _ _ _ _ us hl => match us, hl with | [_, _], _ => rfl
theorem b_due {K : PySem.W.Frag} {mg : Str → Option Value} {a : Ad} (T : Txt K mg a) : Binds K a.d_due ["_law_value"] [] := T.F_due.binds (ps := ["_law_value"]) fun _ _ _ _ _ _ us hl => match us, hl with | [_], _ => rfl
theorem b_has {K : PySem.W.Frag} {mg : Str → Option Value} {a : Ad} (T : Txt K mg a) : Binds K a.d_has ["_law_made", "_law_pairs"] [] := T.F_has.binds (ps := ["_law_made", "_law_pairs"]) fun _ _ _ _ _ _ us hl => match us, hl with | [_, _], _ => rfl
theorem b_told {K : PySem.W.Frag} {mg : Str → Option Value} {a : Ad} (T : Txt K mg a) : Binds K a.d_told ["_law_value", "_law_is_named"] [] := T.F_told.binds (ps := ["_law_value", "_law_is_named"]) fun _ _ _ _ _ _ us hl => match us, hl with | [_, _], _ => rfl
theorem b_odd {K : PySem.W.Frag} {mg : Str → Option Value} {a : Ad} (T : Txt K mg a) : Binds K a.d_odd ["_law_pot_here", "_law_things"] [] := T.F_odd.binds (ps := ["_law_pot_here", "_law_things"]) fun _ _ _ _ _ _ us hl => match us, hl with | [_, _], _ => rfl
theorem b_spoilt {K : PySem.W.Frag} {mg : Str → Option Value} {a : Ad} (T : Txt K mg a) : Binds K a.d_spoilt ["_law_pot_here", "_law_things"] [] := T.F_spoilt.binds (ps := ["_law_pot_here", "_law_things"]) fun _ _ _ _ _ _ us hl => match us, hl with | [_, _], _ => rfl
theorem b_long {K : PySem.W.Frag} {mg : Str → Option Value} {a : Ad} (T : Txt K mg a) : Binds K a.d_long ["_law_pot_here", "_law_many"] [] := T.F_long.binds (ps := ["_law_pot_here", "_law_many"]) fun _ _ _ _ _ _ us hl => match us, hl with | [_, _], _ => rfl
theorem b_right {K : PySem.W.Frag} {mg : Str → Option Value} {a : Ad} (T : Txt K mg a) : Binds K a.d_right ["_law_pot_here"] [] := T.F_right.binds (ps := ["_law_pot_here"]) fun _ _ _ _ _ _ us hl => match us, hl with | [_], _ => rfl
theorem b_law {K : PySem.W.Frag} {mg : Str → Option Value} {a : Ad} (T : Txt K mg a) : Binds K a.d_law ["_law_script"] [] := T.F_law.binds (ps := ["_law_script"]) fun _ _ _ _ _ _ us hl => match us, hl with | [_], _ => rfl
end K19

set_option Elab.async false
set_option linter.all false
set_option maxRecDepth 100000
set_option maxHeartbeats 4000000
namespace K19
open PySem L2 Lb
open C8 (pss_cut)
theorem b1_Amount_init_ {K : PySem.W.Frag} {mg : Str → Option Value} {a : Ad} (T : Txt K mg a) : ∃ ds, Vals [V.int 1] ds ∧ Binds K a.d_Amount_init_ ["self", "top", "bottom"] ds := by
  obtain ⟨ds, r, b⟩ := T.F_Amount_init_.binds1 (ps := ["self", "top", "bottom"]) 2 0 (by simp) rfl (fun _ _ _ _ _ _ _ us its h1 h2 => match us, its, h1, h2 with | [_, _], [_], _, _ => ⟨_, rfl, rfl⟩)
  exact ⟨ds, r, b⟩
theorem kb_Amount_init_ {K : PySem.W.Frag} {mg : Str → Option Value} {a : Ad} (T : Txt K mg a) : ∃ its : List Value, KBn K a.d_Amount_init_ ["self", "top", "bottom"] 1 ["bottom", "top"] (fun us ws => us ++ ws.reverse) (fun vs zs => vs ++ zs.reverse) := by
  obtain ⟨its, h⟩ := T.F_Amount_init_.kbindsD (ps := ["self", "top", "bottom"]) 1 ["bottom", "top"] (fun us _ ws => us ++ ws.reverse) (by simp) (fun r1 _ r3 => r1.append (vals_rev r3))
    (fun _ _ _ _ _ _ _ us its ws h1 h2 h3 => match us, its, ws, h1, h2, h3 with | [_], [_], [_, _], _, _, _ => ⟨_, rfl, rfl⟩)
  exact ⟨its, h⟩
theorem kb_amount_of {K : PySem.W.Frag} {mg : Str → Option Value} {a : Ad} (T : Txt K mg a) : KBn K a.d_amount_of ["value"] 0 ["value"] (fun us ws => us ++ ws) (fun vs zs => vs ++ zs) :=
  kbn_of T.F_amount_of fun _ _ _ _ _ _ us ws h1 h2 => match us, ws, h1, h2 with | [], [_], _, _ => rfl
theorem tb_ : ¬ (("_bottom" : Str) = "_top") := by decide +kernel
theorem bt_ : ¬ (("_top" : Str) = "_bottom") := by decide +kernel
def am (t b : Int) : List (Str × V) := putF "_bottom" (.int b) (putF "_top" (.int t) [])
theorem am_top (t b : Int) : (am t b).lookup ("_top" : Str) = some (.int t) := by
  unfold am
  rw [lookup_putF, if_neg bt_, lookup_putF, if_pos rfl]
theorem am_bot (t b : Int) : (am t b).lookup ("_bottom" : Str) = some (.int b) := by
  unfold am
  rw [lookup_putF, if_pos rfl]
theorem am_no (t b : Int) {m : Str} (h1 : ¬ m = "_bottom") (h2 : ¬ m = "_top") : (am t b).lookup m = none := by
  unfold am
  rw [lookup_putF, if_neg h1, lookup_putF, if_neg h2]
  all_goals rfl
def AmAt (C : Addr) (H : Hp) (q : Addr) (t b : Int) : Prop := ∃ dx, H q = some (.ins C dx (am t b))
theorem AmAt.same {C p : Addr} {H H' : Hp} {t b : Int} (h : AmAt C H p t b) (s : Same H H') : AmAt C H' p t b := let ⟨dx, e⟩ := h; ⟨dx, s _ _ e⟩
/-- what is passed: an int or an amount -/
def IsP (C : Addr) (H : Hp) (v : V) (t b : Int) : Prop := (v = .int t ∧ b = 1) ∨ ∃ q, v = .ref q ∧ AmAt C H q t b
theorem IsP.same {C : Addr} {v : V} {H H' : Hp} {t b : Int} (h : IsP C H v t b) (s : Same H H') : IsP C H' v t b := by
  rcases h with h | ⟨q, e, h⟩
  · exact .inl h
  · exact .inr ⟨q, e, h.same s⟩
theorem IsP.bin {C : Addr} {v : V} {H : Hp} {t b : Int} (h : IsP C H v t b) : (∃ m, v = V.int m) ∨ ∃ q dy fy, v = V.ref q ∧ H q = some (.ins C dy fy) := by
  rcases h with ⟨e, _⟩ | ⟨q, e, dx, h⟩
  · exact .inl ⟨_, e⟩
  · exact .inr ⟨q, dx, _, e, h⟩
def sp_is_integer (C : Addr) : Sp := fun vs H Q _ => ∃ v t b, vs = [v] ∧ IsP C H v t b ∧ (v = .int t → Q (.bl true) H) ∧ ((∃ q, v = .ref q) → Q (.bl false) H)
def sp_is_amount (C : Addr) : Sp := fun vs H Q _ => ∃ v t b, vs = [v] ∧ IsP C H v t b ∧ Q (.bl true) H
def sp_amount_of (C : Addr) : Sp := fun vs H Q _ => ∃ v t b, vs = [v] ∧ IsP C H v t b ∧ Bd 8000 t ∧ ∀ H' q, Same H H' → AmAt C H' q t b → Q (.ref q) H'
def sp_Amount_init_ (C : Addr) : Sp := fun vs H Q _ => ∃ (q dx : Addr) (t b : Int), vs = [.ref q, .int t, .int b] ∧ b ≠ 0 ∧ Bd 8000 t ∧ Bd 8000 b ∧ H q = some (.ins C dx []) ∧
  ∀ H', (∀ x o, x ≠ q → H x = some o → H' x = some o) → H' q = some (.ins C dx (am (rdT t b) (rdB t b))) → Q .non H'
/-- what C(t, b) gives -/
theorem made_am {C : Addr} {H : Hp} {x dx : Addr} {H' : Hp} {t b : Int} (h1 : H x = none) (h2 : H dx = none) (ne : dx ≠ x) (k : ∀ y o, y ≠ x → (upd (upd H dx (.own x)) x (.ins C dx [])) y = some o → H' y = some o) (e : H' x = some (.ins C dx (am t b))) :
    Same H H' ∧ AmAt C H' x t b := by
  refine ⟨fun y o hy => k y o (ne_of_none hy h1) ?_, dx, e⟩
  rw [upd_ne (ne_of_none hy h1), upd_ne (ne_of_none hy h2)]
  exact hy
section
variable {P : Program} {w : World} {K : PySem.W.Frag} {mg : Str → Option Value} {base : Heap} {a : Ad}
theorem ok_is_integer (T : Txt K mg a) : FnOk P w K mg base CX0 1 a.f_is_integer a.d_is_integer ["value"] (sp_is_integer a.c_Amount) := by
  refine T.F_is_integer.ok sc_is_integer (fun vs H Q E h => ?_) (fun cdv A outer s H vs Q E hr h => ?_)
  · obtain ⟨v, t, b, rfl, _⟩ := h
    rfl
  · obtain ⟨v, t, b, rfl, hv, k1, k2⟩ := h
    refine ⟨_, (pss_one (ps_ret (pe_and (pe_callB (call_isiK' (K := K) rfl) (by rfl) T.b_isinstance (by decide +kernel) (pa_cons (pv 0) (pa_cons (pe_bltn (v := .ty "int") (by rfl) T.b_int (by decide +kernel) rfl) pa_nil))) (pe_one (pe_not (pe_callB (call_isiK' (K := K) rfl) (by rfl) T.b_isinstance (by decide +kernel) (pa_cons (pv 0) (pa_cons (pe_bltn (v := .ty "bool") (by rfl) T.b_bool (by decide +kernel) rfl) pa_nil)))))))), ?_⟩
    rcases hv with ⟨rfl, _⟩ | ⟨q, rfl, dx, hq⟩
    · refine ⟨_, rfl, _, _, _, _, true, rfl, .ty _, .base (.int _), kit_ty (by decide +kernel), true, rfl, iteT ?_⟩
      exact ⟨_, rfl, _, _, _, _, false, rfl, .ty _, .base (.int _), kit_ty (by decide +kernel), false, rfl, k1 rfl⟩
    · refine ⟨_, rfl, _, _, _, _, false, rfl, .ty _, .base (T.I.ty T.cl hq), kit_of_own (by decide +kernel) T.oAdd.ss2, false, rfl, iteF ?_⟩
      exact k2 ⟨q, rfl⟩
theorem ok_is_amount_p (T : Txt K mg a) : FnOk P w K mg base CX0 2 a.f_is_amount_p a.d_is_amount_p ["value"] (sp_is_amount a.c_Amount) := by
  refine T.F_is_amount_p.ok sc_is_amount_p (fun vs H Q E h => ?_) (fun cdv A outer s H vs Q E hr h => ?_)
  · obtain ⟨v, t, b, rfl, _⟩ := h
    rfl
  · obtain ⟨v, t, b, rfl, hv, k⟩ := h
    refine ⟨_, (pss_one (ps_ret (pe_or (pe_call (ok_is_integer T) (hr.mono (by decide)) (by rfl) T.m_is_integer T.F_is_integer.kp (b_is_integer T) .nil pass0 (pa_cons (pv 0) pa_nil)) (pe_one (pe_callB (call_isiK' (K := K) rfl) (by rfl) T.b_isinstance (by decide +kernel) (pa_cons (pv 0) (pa_cons (pe_glob (v := .ref a.c_Amount) rfl T.mA rfl) pa_nil))))))), ?_⟩
    refine ⟨_, rfl, v, t, b, rfl, hv, fun e => ⟨true, rfl, iteT k⟩, fun ⟨q, e⟩ => ⟨false, rfl, iteF ?_⟩⟩
    subst e
    rcases hv with ⟨e, _⟩ | ⟨q', e, dx, hq⟩
    · cases e
    · cases e
      exact ⟨_, rfl, _, _, _, _, true, rfl, .own _, .base (T.I.ty T.cl hq), Inst.kSelf, k⟩
theorem ok_Amount_init_ (T : Txt K mg a) : FnOk P w K mg base CX0 2 a.f_Amount_init_ a.d_Amount_init_ ["self", "top", "bottom"] (sp_Amount_init_ a.c_Amount) := by
  refine T.F_Amount_init_.ok sc_Amount_init_ (fun vs H Q E h => ?_) (fun cdv A outer s H vs Q E hr h => ?_)
  · obtain ⟨q, dx, t, b, rfl, _⟩ := h
    rfl
  · obtain ⟨q, dx, t, b, rfl, hb, bt, bb, hq, k⟩ := h
    refine ⟨_, (pss_cons (ps_if (pt_not (pt_val (pe_call (ok_is_integer T) (hr.mono (by decide)) (by rfl) T.m_is_integer T.F_is_integer.kp (b_is_integer T) .nil pass0 (pa_cons (pv 1) pa_nil)))) (pss_one ps_never) pss_nil)
 (pss_cons (ps_if (PW.pt (pw_or (pt_not (pt_val (pe_call (ok_is_integer T) (hr.mono (by decide)) (by rfl) T.m_is_integer T.F_is_integer.kp (b_is_integer T) .nil pass0 (pa_cons (pv 2) pa_nil)))) (pw_or1 (pt_cmpR op_eq (pv 2) pe_int (nomark _))))) (pss_one ps_never) pss_nil)
 (pss_cons (ps_set (i := 3) sc_Amount_init_.nd rfl (by first | exact Or.inl rfl | exact Or.inr rfl) (pe_callBfun cr_gcd (by rfl) T.m_gcd (pa_cons (pv 1) (pa_cons (pv 2) pa_nil))))
 (pss_cut (ps_if (pt_cmpR op_lt (pv 2) pe_int (nomark _)) (pss_one (ps_set (i := 3) sc_Amount_init_.nd rfl (by first | exact Or.inl rfl | exact Or.inr rfl) (pe_un un_neg (pv 3)))) pss_nil)
 (pss_cons (ps_fldK (K := K) rfl (pv 0) (pe_op op_fdivX (pv 1) (pv 3)) rfl)
 (pss_one (ps_fldK (K := K) rfl (pv 0) (pe_op op_fdivX (pv 2) (pv 3)) rfl))))))), ?_⟩
    refine ⟨_, rfl, _, t, 1, rfl, .inl ⟨rfl, rfl⟩, fun _ => ⟨true, rfl, iteF ?_⟩, fun ⟨_, e⟩ => nomatch e⟩
    refine ⟨_, rfl, _, b, 1, rfl, .inl ⟨rfl, rfl⟩, fun _ => ⟨true, rfl, iteF ?_⟩, fun ⟨_, e⟩ => nomatch e⟩
    refine ⟨_, rfl, rfl, _, rfl, iteN ?_ ?_⟩
    · intro z
      have z := of_decide_eq_true z
      injection z with z
      exact hb z
    refine ⟨_, rfl, _, rfl, _, _, rfl, ?_⟩
    refine ⟨fun σ H' => H' = H ∧ σ = [some (.ref q), some (.int t), some (.int b), some (.int (rdD t b))], ?_, ?_⟩
    · refine ⟨_, rfl, _, _, rfl, rfl, _, rfl, ?_⟩
      refine ite2 (fun h1 => ?_) (fun h1 => ?_)
      · have h1 : b < 0 := by simpa using h1
        refine ⟨_, rfl, _, rfl, rfl, ?_⟩
        unfold rdD
        rw [if_pos h1]
        rfl
      · have h1 : ¬ b < 0 := by simpa using h1
        refine ⟨rfl, ?_⟩
        unfold rdD
        rw [if_neg h1]
        rfl
    rintro σ H' ⟨rfl, rfl⟩
    have hd : rdD t b ≠ 0 := by
      have : 0 < Nat.gcd t.natAbs b.natAbs := Nat.gcd_pos_of_pos_right _ (by omega)
      unfold rdD
      split <;> omega
    have bd : Bd 8000 (rdD t b) := by
      have : Nat.gcd t.natAbs b.natAbs ≤ b.natAbs := Nat.gcd_le_right _ (by omega)
      refine bb.le ?_
      unfold rdD
      split <;> omega
    refine ⟨_, rfl, _, rfl, _, _, rfl, rfl, bd.cx hd (by decide), _, rfl, q, _, dx, _, rfl, hq, T.cl, T.nT, (by show 0 < 1000; decide), ?_⟩
    refine ⟨_, rfl, _, rfl, _, _, rfl, rfl, bd.cx hd (by decide), _, rfl, q, _, dx, _, rfl, upd_same, T.cl, T.nB, (by show 1 < 1000; decide), ?_⟩
    refine k _ (fun x o n e => ?_) ?_
    · rw [upd_ne n, upd_ne n]
      exact e
    · rw [upd_same]
      rfl
theorem ok_amount_of (T : Txt K mg a) : FnOk P w K mg base CX0 4 a.f_amount_of a.d_amount_of ["value"] (sp_amount_of a.c_Amount) := by
  refine T.F_amount_of.ok sc_amount_of (fun vs H Q E h => ?_) (fun cdv A outer s H vs Q E hr h => ?_)
  · obtain ⟨v, t, b, rfl, _⟩ := h
    rfl
  · obtain ⟨v, t, b, rfl, hv, bt, k⟩ := h
    refine ⟨_, (pss_cons (ps_if (pt_val (pe_callB (call_isiK' (K := K) rfl) (by rfl) T.b_isinstance (by decide +kernel) (pa_cons (pv 0) (pa_cons (pe_glob (v := .ref a.c_Amount) rfl T.mA rfl) pa_nil)))) (pss_one (ps_ret (pv 0))) pss_nil)
 (pss_cons (ps_if (pt_val (pe_call (ok_is_integer T) (hr.mono (by decide)) (by rfl) T.m_is_integer T.F_is_integer.kp (b_is_integer T) .nil pass0 (pa_cons (pv 0) pa_nil))) (pss_one (ps_ret (pe_make T.mkA (ok_Amount_init_ T) (hr.mono (by decide)) (by rfl) T.mA (b1_Amount_init_ T).choose_spec.2 (b1_Amount_init_ T).choose_spec.1 pass0 (pa_cons (pv 0) pa_nil)))) pss_nil)
 (pss_one ps_never))), ?_⟩
    rcases id hv with ⟨rfl, rfl⟩ | ⟨q, rfl, dx, hq⟩
    · refine ⟨_, rfl, _, _, _, _, false, rfl, .own _, .base (.int _), T.I.kInt, false, rfl, iteF ?_⟩
      refine ⟨_, rfl, _, t, 1, rfl, hv, fun _ => ⟨true, rfl, iteT ?_⟩, fun ⟨_, e⟩ => nomatch e⟩
      refine ⟨_, rfl, fun x dx hx hdx ne => ⟨x, dx, t, 1, rfl, by decide, bt, bd_one, upd_same, fun H' kp e => ⟨rfl, ?_⟩⟩⟩
      rw [rdT_one, rdB_one] at e
      obtain ⟨s, m⟩ := made_am hx hdx ne kp e
      exact k _ _ s m
    · refine ⟨_, rfl, _, _, _, _, true, rfl, .own _, .base (T.I.ty T.cl hq), Inst.kSelf, true, rfl, iteT ?_⟩
      exact ⟨_, rfl, k _ _ (Same.refl _) ⟨dx, hq⟩⟩
end
end K19

set_option Elab.async false
set_option linter.all false
set_option maxRecDepth 100000
set_option maxHeartbeats 4000000
set_option exponentiation.threshold 10000
namespace K19
open PySem L2 Lb
abbrev I4 := Int → Int → Int → Int → Int
def sp_bin (C : Addr) (f g : I4) : Sp := fun vs H Q _ => ∃ p v t b t' b', vs = [.ref p, v] ∧ AmAt C H p t b ∧ IsP C H v t' b' ∧ Bd 3000 t ∧ Bd 3000 b ∧ Bd 3000 t' ∧ Bd 3000 b' ∧ g t b t' b' ≠ 0 ∧
  ∀ H' q, Same H H' → AmAt C H' q (rdT (f t b t' b') (g t b t' b')) (rdB (f t b t' b') (g t b t' b')) → Q (.ref q) H'
def fAdd : I4 := fun t b t' b' => t * b' + t' * b
def gBot : I4 := fun _ b _ b' => b * b'
def fSub : I4 := fun t b t' b' => t * b' - t' * b
def fMul : I4 := fun t _ t' _ => t * t'
def fOver : I4 := fun t _ _ b' => t * b'
def gOver : I4 := fun _ b t' _ => b * t'
def sw (f : I4) : I4 := fun t b t' b' => f t' b' t b
def sp_un (C : Addr) (f : Int → Int) : Sp := fun vs H Q _ => ∃ p t b, vs = [.ref p] ∧ AmAt C H p t b ∧ Bd 3000 t ∧ Bd 3000 b ∧ b ≠ 0 ∧
  ∀ H' q, Same H H' → AmAt C H' q (rdT (f t) b) (rdB (f t) b) → Q (.ref q) H'
def sp_get (C : Addr) (f : Int → Int → V) : Sp := fun vs H Q _ => ∃ p t b, vs = [.ref p] ∧ AmAt C H p t b ∧ Q (f t b) H
def sg (t : Int) : Int := if t = 0 then 0 else if t > 0 then 1 else -1
section
variable {P : Program} {w : World} {K : PySem.W.Frag} {mg : Str → Option Value} {base : Heap} {a : Ad}
theorem ok_Amounttop (T : Txt K mg a) : FnOk P w K mg base CX0 1 a.f_Amounttop a.d_Amounttop ["self"] (sp_get a.c_Amount fun t _ => .int t) := by
  refine T.F_Amounttop.ok sc_Amounttop (fun vs H Q E h => ?_) (fun cdv A outer s H vs Q E hr h => ?_)
  · obtain ⟨p, t, b, rfl, _⟩ := h
    rfl
  · obtain ⟨p, t, b, rfl, ⟨dx, hp⟩, k⟩ := h
    refine ⟨_, (pss_one (ps_ret (pe_fldK (K := K) rfl (pv 0) rfl))), ?_⟩
    exact ⟨_, rfl, p, _, dx, _, _, rfl, hp, T.cl, T.nT, am_top _ _, k⟩
theorem ok_Amountbottom (T : Txt K mg a) : FnOk P w K mg base CX0 1 a.f_Amountbottom a.d_Amountbottom ["self"] (sp_get a.c_Amount fun _ b => .int b) := by
  refine T.F_Amountbottom.ok sc_Amountbottom (fun vs H Q E h => ?_) (fun cdv A outer s H vs Q E hr h => ?_)
  · obtain ⟨p, t, b, rfl, _⟩ := h
    rfl
  · obtain ⟨p, t, b, rfl, ⟨dx, hp⟩, k⟩ := h
    refine ⟨_, (pss_one (ps_ret (pe_fldK (K := K) rfl (pv 0) rfl))), ?_⟩
    exact ⟨_, rfl, p, _, dx, _, _, rfl, hp, T.cl, T.nB, am_bot _ _, k⟩
theorem ok_Amountsign (T : Txt K mg a) : FnOk P w K mg base CX0 1 a.f_Amountsign a.d_Amountsign ["self"] (sp_get a.c_Amount fun t _ => .int (sg t)) := by
  refine T.F_Amountsign.ok sc_Amountsign (fun vs H Q E h => ?_) (fun cdv A outer s H vs Q E hr h => ?_)
  · obtain ⟨p, t, b, rfl, _⟩ := h
    rfl
  · obtain ⟨p, t, b, rfl, ⟨dx, hp⟩, k⟩ := h
    refine ⟨_, (pss_cons (ps_if (pt_cmpR op_eq (pe_fldK (K := K) rfl (pv 0) rfl) pe_int (nomark _)) (pss_one (ps_ret pe_int)) pss_nil)
 (pss_one (ps_ret (pe_ifExp (pt_cmpR op_gt (pe_fldK (K := K) rfl (pv 0) rfl) pe_int (nomark _)) pe_int (pe_un un_neg pe_int))))), ?_⟩
    unfold sg at k
    dsimp only at k
    refine ⟨_, rfl, p, _, dx, _, _, rfl, hp, T.cl, T.nT, am_top _ _, rfl, _, rfl, ite2 (fun h1 => ?_) (fun h1 => ?_)⟩
    · rw [if_pos (by simpa using h1)] at k
      exact k
    · rw [if_neg (by simpa using h1)] at k
      refine ⟨_, rfl, p, _, dx, _, _, rfl, hp, T.cl, T.nT, am_top _ _, _, _, rfl, rfl, _, rfl, ite2 (fun h2 => ?_) (fun h2 => ?_)⟩
      · rw [if_pos (by simpa using h2)] at k
        exact k
      · rw [if_neg (by simpa using h2)] at k
        exact ⟨_, rfl, k⟩
theorem ok_Amount_add_ (T : Txt K mg a) : FnOk P w K mg base CX0 5 a.f_Amount_add_ a.d_Amount_add_ ["self", "other"] (sp_bin a.c_Amount fAdd gBot) := by
  refine T.F_Amount_add_.ok sc_Amount_add_ (fun vs H Q E h => ?_) (fun cdv A outer s H vs Q E hr h => ?_)
  · obtain ⟨p, v, t, b, t', b', rfl, _⟩ := h
    rfl
  · obtain ⟨p, v, t, b, t', b', rfl, ⟨dx, hp⟩, hv, bt, bb, bt', bb', g0, k⟩ := h
    refine ⟨_, (pss_cons (ps_if (pt_not (pt_val (pe_call (ok_is_amount_p T) (hr.mono (by decide)) (by rfl) T.m_is_amount_p T.F_is_amount_p.kp (b_is_amount_p T) .nil pass0 (pa_cons (pv 1) pa_nil)))) (pss_one ps_never) pss_nil)
 (pss_cons (ps_set (i := 2) sc_Amount_add_.nd rfl (by first | exact Or.inl rfl | exact Or.inr rfl) (pe_call (ok_amount_of T) (hr.mono (by decide)) (by rfl) T.m_amount_of T.F_amount_of.kp (b_amount_of T) .nil pass0 (pa_cons (pv 1) pa_nil)))
 (pss_one (ps_ret (pe_make T.mkA (ok_Amount_init_ T) (hr.mono (by decide)) (by rfl) T.mA (b_Amount_init_ T) .nil pass0 (pa_cons (pe_op op_add (pe_op op_mulX (pe_fldK (K := K) rfl (pv 0) rfl) (pe_fldK (K := K) rfl (pv 2) rfl)) (pe_op op_mulX (pe_fldK (K := K) rfl (pv 2) rfl) (pe_fldK (K := K) rfl (pv 0) rfl))) (pa_cons (pe_op op_mulX (pe_fldK (K := K) rfl (pv 0) rfl) (pe_fldK (K := K) rfl (pv 2) rfl)) pa_nil))))))), ?_⟩
    refine ⟨_, rfl, v, t', b', rfl, hv, true, rfl, iteF ?_⟩
    refine ⟨_, rfl, v, t', b', rfl, hv, bt'.mono (by decide), fun H1 q s1 ⟨dy, hq⟩ => ?_⟩
    have hp := s1 _ _ hp
    refine ⟨_, rfl, p, _, dx, _, _, rfl, hp, T.cl, T.nT, am_top _ _, _, rfl, q, _, dy, _, _, rfl, hq, T.cl, T.nB, am_bot _ _, _, _, rfl, rfl, bt.cm bb' (by decide), ?_⟩
    refine ⟨_, rfl, q, _, dy, _, _, rfl, hq, T.cl, T.nT, am_top _ _, _, rfl, p, _, dx, _, _, rfl, hp, T.cl, T.nB, am_bot _ _, _, _, rfl, rfl, bt'.cm bb (by decide), _, _, rfl, rfl, ?_⟩
    refine ⟨_, rfl, p, _, dx, _, _, rfl, hp, T.cl, T.nB, am_bot _ _, _, rfl, q, _, dy, _, _, rfl, hq, T.cl, T.nB, am_bot _ _, _, _, rfl, rfl, bb.cm bb' (by decide), ?_⟩
    refine fun x dz hx hdx ne => ⟨x, dz, _, _, rfl, g0, ((bt.mul bb').add (bt'.mul bb)).mono (by decide), (bb.mul bb').mono (by decide), upd_same, fun H' kp e => ⟨rfl, ?_⟩⟩
    obtain ⟨s, m⟩ := made_am hx hdx ne kp e
    exact k _ _ (s1.trans s) m
theorem ok_Amount_sub_ (T : Txt K mg a) : FnOk P w K mg base CX0 5 a.f_Amount_sub_ a.d_Amount_sub_ ["self", "other"] (sp_bin a.c_Amount fSub gBot) := by
  refine T.F_Amount_sub_.ok sc_Amount_sub_ (fun vs H Q E h => ?_) (fun cdv A outer s H vs Q E hr h => ?_)
  · obtain ⟨p, v, t, b, t', b', rfl, _⟩ := h
    rfl
  · obtain ⟨p, v, t, b, t', b', rfl, ⟨dx, hp⟩, hv, bt, bb, bt', bb', g0, k⟩ := h
    refine ⟨_, (pss_cons (ps_if (pt_not (pt_val (pe_call (ok_is_amount_p T) (hr.mono (by decide)) (by rfl) T.m_is_amount_p T.F_is_amount_p.kp (b_is_amount_p T) .nil pass0 (pa_cons (pv 1) pa_nil)))) (pss_one ps_never) pss_nil)
 (pss_cons (ps_set (i := 2) sc_Amount_sub_.nd rfl (by first | exact Or.inl rfl | exact Or.inr rfl) (pe_call (ok_amount_of T) (hr.mono (by decide)) (by rfl) T.m_amount_of T.F_amount_of.kp (b_amount_of T) .nil pass0 (pa_cons (pv 1) pa_nil)))
 (pss_one (ps_ret (pe_make T.mkA (ok_Amount_init_ T) (hr.mono (by decide)) (by rfl) T.mA (b_Amount_init_ T) .nil pass0 (pa_cons (pe_op op_sub (pe_op op_mulX (pe_fldK (K := K) rfl (pv 0) rfl) (pe_fldK (K := K) rfl (pv 2) rfl)) (pe_op op_mulX (pe_fldK (K := K) rfl (pv 2) rfl) (pe_fldK (K := K) rfl (pv 0) rfl))) (pa_cons (pe_op op_mulX (pe_fldK (K := K) rfl (pv 0) rfl) (pe_fldK (K := K) rfl (pv 2) rfl)) pa_nil))))))), ?_⟩
    refine ⟨_, rfl, v, t', b', rfl, hv, true, rfl, iteF ?_⟩
    refine ⟨_, rfl, v, t', b', rfl, hv, bt'.mono (by decide), fun H1 q s1 ⟨dy, hq⟩ => ?_⟩
    have hp := s1 _ _ hp
    refine ⟨_, rfl, p, _, dx, _, _, rfl, hp, T.cl, T.nT, am_top _ _, _, rfl, q, _, dy, _, _, rfl, hq, T.cl, T.nB, am_bot _ _, _, _, rfl, rfl, bt.cm bb' (by decide), ?_⟩
    refine ⟨_, rfl, q, _, dy, _, _, rfl, hq, T.cl, T.nT, am_top _ _, _, rfl, p, _, dx, _, _, rfl, hp, T.cl, T.nB, am_bot _ _, _, _, rfl, rfl, bt'.cm bb (by decide), _, _, rfl, rfl, ?_⟩
    refine ⟨_, rfl, p, _, dx, _, _, rfl, hp, T.cl, T.nB, am_bot _ _, _, rfl, q, _, dy, _, _, rfl, hq, T.cl, T.nB, am_bot _ _, _, _, rfl, rfl, bb.cm bb' (by decide), ?_⟩
    refine fun x dz hx hdx ne => ⟨x, dz, _, _, rfl, g0, ((bt.mul bb').sub (bt'.mul bb)).mono (by decide), (bb.mul bb').mono (by decide), upd_same, fun H' kp e => ⟨rfl, ?_⟩⟩
    obtain ⟨s, m⟩ := made_am hx hdx ne kp e
    exact k _ _ (s1.trans s) m
theorem ok_Amount_mul_ (T : Txt K mg a) : FnOk P w K mg base CX0 5 a.f_Amount_mul_ a.d_Amount_mul_ ["self", "other"] (sp_bin a.c_Amount fMul gBot) := by
  refine T.F_Amount_mul_.ok sc_Amount_mul_ (fun vs H Q E h => ?_) (fun cdv A outer s H vs Q E hr h => ?_)
  · obtain ⟨p, v, t, b, t', b', rfl, _⟩ := h
    rfl
  · obtain ⟨p, v, t, b, t', b', rfl, ⟨dx, hp⟩, hv, bt, bb, bt', bb', g0, k⟩ := h
    refine ⟨_, (pss_cons (ps_if (pt_not (pt_val (pe_call (ok_is_amount_p T) (hr.mono (by decide)) (by rfl) T.m_is_amount_p T.F_is_amount_p.kp (b_is_amount_p T) .nil pass0 (pa_cons (pv 1) pa_nil)))) (pss_one ps_never) pss_nil)
 (pss_cons (ps_set (i := 2) sc_Amount_mul_.nd rfl (by first | exact Or.inl rfl | exact Or.inr rfl) (pe_call (ok_amount_of T) (hr.mono (by decide)) (by rfl) T.m_amount_of T.F_amount_of.kp (b_amount_of T) .nil pass0 (pa_cons (pv 1) pa_nil)))
 (pss_one (ps_ret (pe_make T.mkA (ok_Amount_init_ T) (hr.mono (by decide)) (by rfl) T.mA (b_Amount_init_ T) .nil pass0 (pa_cons (pe_op op_mulX (pe_fldK (K := K) rfl (pv 0) rfl) (pe_fldK (K := K) rfl (pv 2) rfl)) (pa_cons (pe_op op_mulX (pe_fldK (K := K) rfl (pv 0) rfl) (pe_fldK (K := K) rfl (pv 2) rfl)) pa_nil))))))), ?_⟩
    refine ⟨_, rfl, v, t', b', rfl, hv, true, rfl, iteF ?_⟩
    refine ⟨_, rfl, v, t', b', rfl, hv, bt'.mono (by decide), fun H1 q s1 ⟨dy, hq⟩ => ?_⟩
    have hp := s1 _ _ hp
    refine ⟨_, rfl, p, _, dx, _, _, rfl, hp, T.cl, T.nT, am_top _ _, _, rfl, q, _, dy, _, _, rfl, hq, T.cl, T.nT, am_top _ _, _, _, rfl, rfl, bt.cm bt' (by decide), ?_⟩
    refine ⟨_, rfl, p, _, dx, _, _, rfl, hp, T.cl, T.nB, am_bot _ _, _, rfl, q, _, dy, _, _, rfl, hq, T.cl, T.nB, am_bot _ _, _, _, rfl, rfl, bb.cm bb' (by decide), ?_⟩
    refine fun x dz hx hdx ne => ⟨x, dz, _, _, rfl, g0, (bt.mul bt').mono (by decide), (bb.mul bb').mono (by decide), upd_same, fun H' kp e => ⟨rfl, ?_⟩⟩
    obtain ⟨s, m⟩ := made_am hx hdx ne kp e
    exact k _ _ (s1.trans s) m
theorem ok_Amountover (T : Txt K mg a) : FnOk P w K mg base CX0 5 a.f_Amountover a.d_Amountover ["self", "other"] (sp_bin a.c_Amount fOver gOver) := by
  refine T.F_Amountover.ok sc_Amountover (fun vs H Q E h => ?_) (fun cdv A outer s H vs Q E hr h => ?_)
  · obtain ⟨p, v, t, b, t', b', rfl, _⟩ := h
    rfl
  · obtain ⟨p, v, t, b, t', b', rfl, ⟨dx, hp⟩, hv, bt, bb, bt', bb', g0, k⟩ := h
    have ht' : t' ≠ 0 := fun z => g0 (by show b * t' = 0; rw [z, Int.mul_zero])
    refine ⟨_, (pss_cons (ps_if (PW.pt (pw_or (pt_not (pt_val (pe_call (ok_is_amount_p T) (hr.mono (by decide)) (by rfl) T.m_is_amount_p T.F_is_amount_p.kp (b_is_amount_p T) .nil pass0 (pa_cons (pv 1) pa_nil)))) (pw_or1 (pt_cmpR op_eq (pe_prop (pe_call (ok_amount_of T) (hr.mono (by decide)) (by rfl) T.m_amount_of T.F_amount_of.kp (b_amount_of T) .nil pass0 (pa_cons (pv 1) pa_nil)) T.cl T.p_sign (ok_Amountsign T) (hr.mono (by decide)) (b_Amountsign T) .nil pass0 rfl) pe_int (nomark _))))) (pss_one ps_never) pss_nil)
 (pss_cons (ps_set (i := 2) sc_Amountover.nd rfl (by first | exact Or.inl rfl | exact Or.inr rfl) (pe_call (ok_amount_of T) (hr.mono (by decide)) (by rfl) T.m_amount_of T.F_amount_of.kp (b_amount_of T) .nil pass0 (pa_cons (pv 1) pa_nil)))
 (pss_one (ps_ret (pe_make T.mkA (ok_Amount_init_ T) (hr.mono (by decide)) (by rfl) T.mA (b_Amount_init_ T) .nil pass0 (pa_cons (pe_op op_mulX (pe_fldK (K := K) rfl (pv 0) rfl) (pe_fldK (K := K) rfl (pv 2) rfl)) (pa_cons (pe_op op_mulX (pe_fldK (K := K) rfl (pv 0) rfl) (pe_fldK (K := K) rfl (pv 2) rfl)) pa_nil))))))), ?_⟩
    refine ⟨_, rfl, v, t', b', rfl, hv, true, rfl, iteF ?_⟩
    refine ⟨_, rfl, v, t', b', rfl, hv, bt'.mono (by decide), fun H1 q s1 ⟨dy, hq⟩ => ?_⟩
    refine ⟨q, dy, _, rfl, hq, q, t', b', rfl, ⟨dy, hq⟩, rfl, _, rfl, iteN ?_ ?_⟩
    · intro z
      have z := of_decide_eq_true z
      injection z with z
      unfold sg at z
      rw [if_neg ht'] at z
      split at z <;> omega
    have hp := s1 _ _ hp
    have hv := hv.same s1
    refine ⟨_, rfl, v, t', b', rfl, hv, bt'.mono (by decide), fun H2 q2 s2 ⟨dz, hq2⟩ => ?_⟩
    have hp := s2 _ _ hp
    refine ⟨_, rfl, p, _, dx, _, _, rfl, hp, T.cl, T.nT, am_top _ _, _, rfl, q2, _, dz, _, _, rfl, hq2, T.cl, T.nB, am_bot _ _, _, _, rfl, rfl, bt.cm bb' (by decide), ?_⟩
    refine ⟨_, rfl, p, _, dx, _, _, rfl, hp, T.cl, T.nB, am_bot _ _, _, rfl, q2, _, dz, _, _, rfl, hq2, T.cl, T.nT, am_top _ _, _, _, rfl, rfl, bb.cm bt' (by decide), ?_⟩
    refine fun x dz hx hdx ne => ⟨x, dz, _, _, rfl, g0, (bt.mul bb').mono (by decide), (bb.mul bt').mono (by decide), upd_same, fun H' kp e => ⟨rfl, ?_⟩⟩
    obtain ⟨s, m⟩ := made_am hx hdx ne kp e
    exact k _ _ ((s1.trans s2).trans s) m
theorem ok_Amount_neg_ (T : Txt K mg a) : FnOk P w K mg base CX0 4 a.f_Amount_neg_ a.d_Amount_neg_ ["self"] (sp_un a.c_Amount fun t => -t) := by
  refine T.F_Amount_neg_.ok sc_Amount_neg_ (fun vs H Q E h => ?_) (fun cdv A outer s H vs Q E hr h => ?_)
  · obtain ⟨p, t, b, rfl, _⟩ := h
    rfl
  · obtain ⟨p, t, b, rfl, ⟨dx, hp⟩, bt, bb, hb, k⟩ := h
    refine ⟨_, (pss_one (ps_ret (pe_make T.mkA (ok_Amount_init_ T) (hr.mono (by decide)) (by rfl) T.mA (b_Amount_init_ T) .nil pass0 (pa_cons (pe_un un_neg (pe_fldK (K := K) rfl (pv 0) rfl)) (pa_cons (pe_fldK (K := K) rfl (pv 0) rfl) pa_nil))))), ?_⟩
    refine ⟨_, rfl, p, _, dx, _, _, rfl, hp, T.cl, T.nT, am_top _ _, _, rfl, _, rfl, p, _, dx, _, _, rfl, hp, T.cl, T.nB, am_bot _ _, ?_⟩
    refine fun x dz hx hdx ne => ⟨x, dz, _, _, rfl, hb, bt.neg.mono (by decide), bb.mono (by decide), upd_same, fun H' kp e => ⟨rfl, ?_⟩⟩
    obtain ⟨s, m⟩ := made_am hx hdx ne kp e
    exact k _ _ s m
theorem ok_Amount_radd_ (T : Txt K mg a) : FnOk P w K mg base CX0 6 a.f_Amount_radd_ a.d_Amount_radd_ ["self", "other"] (sp_bin a.c_Amount (sw fAdd) (sw gBot)) := by
  refine T.F_Amount_radd_.ok sc_Amount_radd_ (fun vs H Q E h => ?_) (fun cdv A outer s H vs Q E hr h => ?_)
  · obtain ⟨p, v, t, b, t', b', rfl, _⟩ := h
    rfl
  · obtain ⟨p, v, t, b, t', b', rfl, hp, hv, bt, bb, bt', bb', g0, k⟩ := h
    refine ⟨_, (pss_cons (ps_if (pt_not (pt_val (pe_call (ok_is_amount_p T) (hr.mono (by decide)) (by rfl) T.m_is_amount_p T.F_is_amount_p.kp (b_is_amount_p T) .nil pass0 (pa_cons (pv 1) pa_nil)))) (pss_one ps_never) pss_nil)
 (pss_one (ps_ret (pe_op (op_ownBin (K := K) (E := E0) rfl T.oAdd ((ok_Amount_add_ T).raw (b_Amount_add_ T) .nil) (hr.mono (by decide))) (pe_call (ok_amount_of T) (hr.mono (by decide)) (by rfl) T.m_amount_of T.F_amount_of.kp (b_amount_of T) .nil pass0 (pa_cons (pv 1) pa_nil)) (pv 0))))), ?_⟩
    refine ⟨_, rfl, v, t', b', rfl, hv, true, rfl, iteF ?_⟩
    refine ⟨_, rfl, v, t', b', rfl, hv, bt'.mono (by decide), fun H1 q s1 hq => ?_⟩
    obtain ⟨dy, eq⟩ := id hq
    have hp := hp.same s1
    exact ⟨_, rfl, q, dy, _, rfl, eq, .inr (let ⟨dx, ep⟩ := hp; ⟨p, dx, _, rfl, ep⟩), q, _, t', b', t, b, rfl, hq, .inr ⟨p, rfl, hp⟩, bt', bb', bt, bb, g0, fun H2 r s2 hr => k _ _ (s1.trans s2) hr⟩
theorem ok_Amount_rsub_ (T : Txt K mg a) : FnOk P w K mg base CX0 6 a.f_Amount_rsub_ a.d_Amount_rsub_ ["self", "other"] (sp_bin a.c_Amount (sw fSub) (sw gBot)) := by
  refine T.F_Amount_rsub_.ok sc_Amount_rsub_ (fun vs H Q E h => ?_) (fun cdv A outer s H vs Q E hr h => ?_)
  · obtain ⟨p, v, t, b, t', b', rfl, _⟩ := h
    rfl
  · obtain ⟨p, v, t, b, t', b', rfl, hp, hv, bt, bb, bt', bb', g0, k⟩ := h
    refine ⟨_, (pss_cons (ps_if (pt_not (pt_val (pe_call (ok_is_amount_p T) (hr.mono (by decide)) (by rfl) T.m_is_amount_p T.F_is_amount_p.kp (b_is_amount_p T) .nil pass0 (pa_cons (pv 1) pa_nil)))) (pss_one ps_never) pss_nil)
 (pss_one (ps_ret (pe_op (op_ownBin (K := K) (E := E0) rfl T.oSub ((ok_Amount_sub_ T).raw (b_Amount_sub_ T) .nil) (hr.mono (by decide))) (pe_call (ok_amount_of T) (hr.mono (by decide)) (by rfl) T.m_amount_of T.F_amount_of.kp (b_amount_of T) .nil pass0 (pa_cons (pv 1) pa_nil)) (pv 0))))), ?_⟩
    refine ⟨_, rfl, v, t', b', rfl, hv, true, rfl, iteF ?_⟩
    refine ⟨_, rfl, v, t', b', rfl, hv, bt'.mono (by decide), fun H1 q s1 hq => ?_⟩
    obtain ⟨dy, eq⟩ := id hq
    have hp := hp.same s1
    exact ⟨_, rfl, q, dy, _, rfl, eq, .inr (let ⟨dx, ep⟩ := hp; ⟨p, dx, _, rfl, ep⟩), q, _, t', b', t, b, rfl, hq, .inr ⟨p, rfl, hp⟩, bt', bb', bt, bb, g0, fun H2 r s2 hr => k _ _ (s1.trans s2) hr⟩
theorem ok_Amount_rmul_ (T : Txt K mg a) : FnOk P w K mg base CX0 6 a.f_Amount_rmul_ a.d_Amount_rmul_ ["self", "other"] (sp_bin a.c_Amount (sw fMul) (sw gBot)) := by
  refine T.F_Amount_rmul_.ok sc_Amount_rmul_ (fun vs H Q E h => ?_) (fun cdv A outer s H vs Q E hr h => ?_)
  · obtain ⟨p, v, t, b, t', b', rfl, _⟩ := h
    rfl
  · obtain ⟨p, v, t, b, t', b', rfl, hp, hv, bt, bb, bt', bb', g0, k⟩ := h
    refine ⟨_, (pss_cons (ps_if (pt_not (pt_val (pe_call (ok_is_amount_p T) (hr.mono (by decide)) (by rfl) T.m_is_amount_p T.F_is_amount_p.kp (b_is_amount_p T) .nil pass0 (pa_cons (pv 1) pa_nil)))) (pss_one ps_never) pss_nil)
 (pss_one (ps_ret (pe_op (op_ownBin (K := K) (E := E0) rfl T.oMul ((ok_Amount_mul_ T).raw (b_Amount_mul_ T) .nil) (hr.mono (by decide))) (pe_call (ok_amount_of T) (hr.mono (by decide)) (by rfl) T.m_amount_of T.F_amount_of.kp (b_amount_of T) .nil pass0 (pa_cons (pv 1) pa_nil)) (pv 0))))), ?_⟩
    refine ⟨_, rfl, v, t', b', rfl, hv, true, rfl, iteF ?_⟩
    refine ⟨_, rfl, v, t', b', rfl, hv, bt'.mono (by decide), fun H1 q s1 hq => ?_⟩
    obtain ⟨dy, eq⟩ := id hq
    have hp := hp.same s1
    exact ⟨_, rfl, q, dy, _, rfl, eq, .inr (let ⟨dx, ep⟩ := hp; ⟨p, dx, _, rfl, ep⟩), q, _, t', b', t, b, rfl, hq, .inr ⟨p, rfl, hp⟩, bt', bb', bt, bb, g0, fun H2 r s2 hr => k _ _ (s1.trans s2) hr⟩
end
end K19

set_option Elab.async false
set_option linter.all false
set_option maxRecDepth 100000
set_option maxHeartbeats 4000000
set_option exponentiation.threshold 10000
namespace K19
open PySem L2 Lb
def ival : L2.St → Int := fun σ => match σ[0]? with
  | some (some (V.int y)) => y
  | _ => 0
abbrev itS (n : Int) : Str := ((toString n : String) : Str)
theorem itS_len {n : Int} (h : Bd 1800 n) : (itS n).length ≤ 601 := by
  rw [show (itS n).length = (toString n : String).length from ofString_length _]
  exact int_text_length_le10 (k := 600) (by decide) (Nat.lt_trans h (by decide))
theorem itS_neg {n : Int} (h : n < 0) : itS n = Str.empty ++ "-" ++ itS (-n) := by
  obtain ⟨k, rfl⟩ : ∃ k : Nat, n = -((k + 1 : Nat) : Int) := ⟨(-n).toNat - 1, by omega⟩
  rw [Int.neg_neg]
  have e : (toString (-((k + 1 : Nat) : Int)) : String) = "-" ++ toString ((k + 1 : Nat) : Int) := rfl
  show Str.ofString (toString (-((k + 1 : Nat) : Int))) = Str.empty ++ Str.ofString "-" ++ Str.ofString (toString ((k + 1 : Nat) : Int))
  rw [e, empty_add, Str.ofString_eq_toList, Str.ofString_eq_toList, Str.ofString_eq_toList]
  show Str.mk _ = Str.mk _
  simp
def sp_decimal0 : Sp := fun vs H Q _ => ∃ (n : Nat), vs = [.int (n : Int)] ∧ Bd 1800 (n : Int) ∧ ∀ H', Same H H' → Q (.str (itS n)) H'
def sp_decimal : Sp := fun vs H Q _ => ∃ (n : Int), vs = [.int n] ∧ Bd 1800 n ∧ ∀ H', Same H H' → Q (.str (itS n)) H'
theorem cut_cat {n m : Nat} {ps : List Str} (h : 10 ^ 60 ≤ m) (e : itS n = itS m ++ cat ps.reverse) (hl : ∀ x ∈ ps, x.length = 60) :
    itS n = itS ((m / 10 ^ 60 : Nat) : Int) ++ cat (ps ++ [Txt.zfill (itS ((m % 10 ^ 60 : Nat) : Int)) (60 : Nat)]).reverse ∧ ∀ x ∈ ps ++ [Txt.zfill (itS ((m % 10 ^ 60 : Nat) : Int)) (60 : Nat)], x.length = 60 := by
  obtain ⟨e1, e2⟩ := turn60 h
  refine ⟨?_, fun x hx => ?_⟩
  · rw [e, List.reverse_append, List.reverse_cons, List.reverse_nil, List.nil_append, List.singleton_append, cat, ← Str.append_assoc, ← e1]
  · rcases List.mem_append.mp hx with hx | hx
    · exact hl x hx
    · rw [List.mem_singleton.mp hx]
      exact e2
theorem len60 : ∀ {ps : List Str}, (∀ x ∈ ps, x.length = 60) → (ps.map (·.length)).sum = 60 * ps.length
  | [], _ => rfl
  | x :: r, h => by
    rw [List.map_cons, List.sum_cons, h x (List.mem_cons_self ..), len60 fun y hy => h y (List.mem_cons_of_mem _ hy), List.length_cons]
    omega
theorem few {n m : Nat} {ps : List Str} (hb : Bd 1800 (n : Int)) (e : itS n = itS m ++ cat ps.reverse) (hl : ∀ x ∈ ps, x.length = 60) : 60 * ps.length ≤ 601 := by
  have h := itS_len hb
  rw [e, Str.length_append, cat_length, List.map_reverse, List.sum_reverse, len60 hl] at h
  omega
section
variable {P : Program} {w : World} {K : PySem.W.Frag} {mg : Str → Option Value} {base : Heap} {a : Ad}
theorem ok_decimal0 (T : Txt K mg a) : FnOk P w K mg base CX0 1 a.f_decimal a.d_decimal ["number"] sp_decimal0 := by
  refine T.F_decimal.ok sc_decimal (fun vs H Q E h => ?_) (fun cdv A outer s H vs Q E hr h => ?_)
  · obtain ⟨n, rfl, _⟩ := h
    rfl
  · obtain ⟨n, rfl, hb, k⟩ := h
    refine ⟨_, (pss_cons (ps_if (pt_cmpR op_lt (pv 0) pe_int (nomark _)) (pss_one ps_never) pss_nil)
 (pss_cons (ps_set (i := 1) sc_decimal.nd rfl (by first | exact Or.inl rfl | exact Or.inr rfl) (pe_lst pa_nil))
 (pss_cons (ps_while PassesOwn.never (pt_cmpR op_ge (pv 0) (pe_glob (v := .int (10 ^ 60)) rfl T.gPart.choose_spec ⟨_, rfl⟩) (nomark _)) (pss_cons (ps_asg (pe_callB call_divmodW (by rfl) T.b_divmod (by decide +kernel) (pa_cons (pv 0) (pa_cons (pe_glob (v := .int (10 ^ 60)) rfl T.gPart.choose_spec ⟨_, rfl⟩) pa_nil))) (pg_tupK (K := K) (n := 2) rfl rfl (pgs_cons (pg_name (i := 0) sc_decimal.nd rfl (by first | exact Or.inl rfl | exact Or.inr rfl)) (pgs_cons (pg_name (i := 2) sc_decimal.nd rfl (by first | exact Or.inl rfl | exact Or.inr rfl)) pgs_nil))))
 (pss_one (ps_expr (pe_bm PySem.F.plainAttrs_list PySem.F.slot_list_append PySem.F.type_list_append mt_append (pv 1) (pa_cons (pe_bm PySem.F.plainAttrs_str PySem.F.slot_str_zfill PySem.F.type_str_zfill mt_zfill (pe_callTy call_str_int (by rfl) T.b_str (by decide +kernel) (pa_cons (pv 2) pa_nil)) (pa_cons (pe_glob (v := .int 60) rfl T.gLen.choose_spec ⟨_, rfl⟩) pa_nil)) pa_nil))))))
 (pss_cons (ps_expr (pe_bm PySem.F.plainAttrs_list PySem.F.slot_list_append PySem.F.type_list_append mt_append (pv 1) (pa_cons (pe_callTy call_str_int (by rfl) T.b_str (by decide +kernel) (pa_cons (pv 0) pa_nil)) pa_nil)))
 (pss_cons (ps_expr (pe_bm0 PySem.F.plainAttrs_list PySem.F.slot_list_reverse PySem.F.type_list_reverse mt_reverse (pv 1)))
 (pss_one (ps_ret (pe_join pe_str (pv 1))))))))), ?_⟩
    refine ⟨_, rfl, _, _, rfl, rfl, _, rfl, iteN (by simp) ?_⟩
    refine ⟨sz, fun l hl => ?_⟩
    have lp : Bd 200 ((10 : Int) ^ 60) := by show _ < _; decide
    refine while_by (fun σ H' => ∃ (m : Nat) (ps : List Str) (u : Option V), σ = [some (.int (m : Int)), some (.ref l), u] ∧ H' l = some (.lst (ps.map V.str)) ∧ Same H H' ∧ itS n = itS m ++ cat ps.reverse ∧ (∀ x ∈ ps, x.length = 60) ∧ m ≤ n) (fun σ _ => (ival σ).toNat)
      ⟨n, [], none, rfl, upd_same, Lb.Same.upd hl, (add_empty _).symm, fun _ h => absurd h (List.not_mem_nil), Nat.le_refl _⟩ ?_ (fun σ H Q Q' k ⟨v, e, i, j, e1, e2, b, e3, q⟩ => ⟨v, e, i, j, e1, e2, b, e3, k _ _ q⟩)
    rintro σ H1 ⟨m, ps, u, rfl, fl, s1, e, h60, hm⟩
    have hps := few hb e h60
    refine ⟨_, rfl, _, _, rfl, rfl, _, rfl, ite2 (fun h1 => ?_) (fun h1 => ?_)⟩
    · have h1 : 10 ^ 60 ≤ m := by
        have := of_decide_eq_true h1
        omega
      refine ⟨_, rfl, _, _, rfl, divp_small (by decide) (lp.mono (by decide)), fun t ht => ?_⟩
      generalize e_H2 : upd _ t _ = H2
      obtain ⟨s2, ft⟩ := al3 e_H2 ht
      clear e_H2
      (try dsimp only at ft)
      refine ⟨_, _, rfl, SqT.of ft, rfl, _, _, rfl, _, _, rfl, rfl, ?_⟩
      have e1 : (m : Int) / 10 ^ 60 = ((m / 10 ^ 60 : Nat) : Int) := by omega
      have e2 : (m : Int) % 10 ^ 60 = ((m % 10 ^ 60 : Nat) : Int) := by omega
      have fl := s2 _ _ fl
      obtain ⟨c1, c2⟩ := cut_cat h1 e h60
      have lr : (m % 10 ^ 60 : Nat) < 10 ^ 60 := Nat.mod_lt _ (by decide)
      have hlog : ((m : Int) % 10 ^ 60).natAbs.log2 < 1920 := by
        have : ((m : Int) % 10 ^ 60).natAbs < 2 ^ 200 := Nat.lt_of_lt_of_le (m := 10 ^ 60) (by omega) (by decide)
        exact Nat.lt_of_lt_of_le (PySem.Flt.log2_lt_of (by decide) this) (by decide)
      refine ⟨_, rfl, .inl ⟨rfl, _, SqL.of fl⟩, _, rfl, _, rfl, hlog, rfl, _, _, rfl, rfl, rfl, l, _, _, rfl, rfl, fl, szlt (by rw [List.length_map]; omega), ?_⟩
      refine ⟨⟨m / 10 ^ 60, ps ++ [Txt.zfill (itS ((m % 10 ^ 60 : Nat) : Int)) (60 : Nat)], _, by rw [e1]; rfl, ?_, Lb.Same.updl (s1.trans s2) hl, c1, c2, Nat.le_trans (Nat.div_le_self _ _) hm⟩, ?_⟩
      · rw [upd_same, e2, List.map_append]
        rfl
      · show ((m : Int) / 10 ^ 60).toNat < (m : Int).toNat
        omega
    · have h1 : m < 10 ^ 60 := by
        have h1 : ¬ ((m : Int) ≥ 10 ^ 60) := fun q => h1 (decide_eq_true q)
        omega
      have hlog : (m : Int).natAbs.log2 < 1920 := by
        have : (m : Int).natAbs < 2 ^ 200 := Nat.lt_of_lt_of_le (m := 10 ^ 60) (by omega) (by decide)
        exact Nat.lt_of_lt_of_le (PySem.Flt.log2_lt_of (by decide) this) (by decide)
      refine ⟨_, rfl, .inl ⟨rfl, _, SqL.of fl⟩, _, rfl, _, rfl, hlog, l, _, _, rfl, rfl, fl, szlt (by rw [List.length_map]; omega), ?_⟩
      refine ⟨_, rfl, .inl ⟨rfl, _, SqL.of upd_same⟩, l, _, rfl, rfl, upd_same, ?_⟩
      have er : (ps.map V.str ++ [V.str (itS (m : Int))]).reverse = ((itS (m : Int)) :: ps.reverse).map V.str := by simp
      rw [er]
      refine ⟨⟨_, rfl⟩, _, rfl, _, l, (itS (m : Int)) :: ps.reverse, rfl, rfl, .inl (SqL.of upd_same), ?_, ?_⟩
      · have l1 : (itS (m : Int)).length ≤ 61 := by
          rw [show (itS (m : Int)).length = (toString (m : Int) : String).length from ofString_length _]
          exact int_text_length_le10 (k := 60) (by decide) (by omega)
        rw [List.map_cons, List.sum_cons, List.map_reverse, List.sum_reverse, len60 h60]
        show _ + _ * 0 ≤ _
        omega
      · rw [show (Str.ofString "") = Str.empty from by decide +kernel, join_empty]
        rw [e] at k
        exact k _ (Lb.Same.updl (Lb.Same.updl s1 hl) hl)
theorem ok_decimal (T : Txt K mg a) : FnOk P w K mg base CX0 2 a.f_decimal a.d_decimal ["number"] sp_decimal := by
  refine T.F_decimal.ok sc_decimal (fun vs H Q E h => ?_) (fun cdv A outer s H vs Q E hr h => ?_)
  · obtain ⟨n, rfl, _⟩ := h
    rfl
  · obtain ⟨n, rfl, hb, k⟩ := h
    refine ⟨_, (pss_cons (ps_if (pt_cmpR op_lt (pv 0) pe_int (nomark _)) (pss_one (ps_ret (pe_joined (.cons pe_str (.cons (pe_fmt (pe_call (ok_decimal0 T) (hr.mono (by decide)) (by rfl) T.m_decimal T.F_decimal.kp (b_decimal T) .nil pass0 (pa_cons (pe_un un_neg (pv 0)) pa_nil))) .nil))))) pss_nil)
 (pss_cons (ps_set (i := 1) sc_decimal.nd rfl (by first | exact Or.inl rfl | exact Or.inr rfl) (pe_lst pa_nil))
 (pss_cons (ps_while PassesOwn.never (pt_cmpR op_ge (pv 0) (pe_glob (v := .int (10 ^ 60)) rfl T.gPart.choose_spec ⟨_, rfl⟩) (nomark _)) (pss_cons (ps_asg (pe_callB call_divmodW (by rfl) T.b_divmod (by decide +kernel) (pa_cons (pv 0) (pa_cons (pe_glob (v := .int (10 ^ 60)) rfl T.gPart.choose_spec ⟨_, rfl⟩) pa_nil))) (pg_tupK (K := K) (n := 2) rfl rfl (pgs_cons (pg_name (i := 0) sc_decimal.nd rfl (by first | exact Or.inl rfl | exact Or.inr rfl)) (pgs_cons (pg_name (i := 2) sc_decimal.nd rfl (by first | exact Or.inl rfl | exact Or.inr rfl)) pgs_nil))))
 (pss_one (ps_expr (pe_bm PySem.F.plainAttrs_list PySem.F.slot_list_append PySem.F.type_list_append mt_append (pv 1) (pa_cons (pe_bm PySem.F.plainAttrs_str PySem.F.slot_str_zfill PySem.F.type_str_zfill mt_zfill (pe_callTy call_str_int (by rfl) T.b_str (by decide +kernel) (pa_cons (pv 2) pa_nil)) (pa_cons (pe_glob (v := .int 60) rfl T.gLen.choose_spec ⟨_, rfl⟩) pa_nil)) pa_nil))))))
 (pss_cons (ps_expr (pe_bm PySem.F.plainAttrs_list PySem.F.slot_list_append PySem.F.type_list_append mt_append (pv 1) (pa_cons (pe_callTy call_str_int (by rfl) T.b_str (by decide +kernel) (pa_cons (pv 0) pa_nil)) pa_nil)))
 (pss_cons (ps_expr (pe_bm0 PySem.F.plainAttrs_list PySem.F.slot_list_reverse PySem.F.type_list_reverse mt_reverse (pv 1)))
 (pss_one (ps_ret (pe_join pe_str (pv 1))))))))), ?_⟩
    refine ⟨_, rfl, _, _, rfl, rfl, _, rfl, ite2 (fun h0 => ?_) (fun h0 => ?_)⟩
    · have h0 : n < 0 := by simpa using h0
      obtain ⟨m, hm⟩ : ∃ m : Nat, -n = (m : Int) := ⟨(-n).toNat, by omega⟩
      have hb' : Bd 1800 (-n) := hb.neg
      refine ⟨_, rfl, sz, _, rfl, _, rfl, m, by show [V.int (-n)] = _; rw [hm], hm ▸ hb', fun H' s' => .inl ⟨_, rfl, szle (by rw [← hm]; have := itS_len hb'; omega), _, rfl, ?_, ?_⟩⟩
      · rw [← hm]
        have := itS_len hb'
        rw [Str.length_append]
        exact szle (by show 1 + _ ≤ _; omega)
      · rw [← hm]
        have e := k _ s'
        rw [itS_neg h0] at e
        exact e
    · obtain ⟨n, rfl⟩ : ∃ m : Nat, n = (m : Int) := ⟨n.toNat, (Int.toNat_of_nonneg (Int.not_lt.mp (by simpa using h0))).symm⟩
      refine ⟨sz, fun l hl => ?_⟩
      have lp : Bd 200 ((10 : Int) ^ 60) := by show _ < _; decide
      refine while_by (fun σ H' => ∃ (m : Nat) (ps : List Str) (u : Option V), σ = [some (.int (m : Int)), some (.ref l), u] ∧ H' l = some (.lst (ps.map V.str)) ∧ Same H H' ∧ itS n = itS m ++ cat ps.reverse ∧ (∀ x ∈ ps, x.length = 60) ∧ m ≤ n) (fun σ _ => (ival σ).toNat)
        ⟨n, [], none, rfl, upd_same, Lb.Same.upd hl, (add_empty _).symm, fun _ h => absurd h (List.not_mem_nil), Nat.le_refl _⟩ ?_ (fun σ H Q Q' k ⟨v, e, i, j, e1, e2, b, e3, q⟩ => ⟨v, e, i, j, e1, e2, b, e3, k _ _ q⟩)
      rintro σ H1 ⟨m, ps, u, rfl, fl, s1, e, h60, hm⟩
      have hps := few hb e h60
      refine ⟨_, rfl, _, _, rfl, rfl, _, rfl, ite2 (fun h1 => ?_) (fun h1 => ?_)⟩
      · have h1 : 10 ^ 60 ≤ m := by
          have := of_decide_eq_true h1
          omega
        refine ⟨_, rfl, _, _, rfl, divp_small (by decide) (lp.mono (by decide)), fun t ht => ?_⟩
        generalize e_H2 : upd _ t _ = H2
        obtain ⟨s2, ft⟩ := al3 e_H2 ht
        clear e_H2
        (try dsimp only at ft)
        refine ⟨_, _, rfl, SqT.of ft, rfl, _, _, rfl, _, _, rfl, rfl, ?_⟩
        have e1 : (m : Int) / 10 ^ 60 = ((m / 10 ^ 60 : Nat) : Int) := by omega
        have e2 : (m : Int) % 10 ^ 60 = ((m % 10 ^ 60 : Nat) : Int) := by omega
        have fl := s2 _ _ fl
        obtain ⟨c1, c2⟩ := cut_cat h1 e h60
        have lr : (m % 10 ^ 60 : Nat) < 10 ^ 60 := Nat.mod_lt _ (by decide)
        have hlog : ((m : Int) % 10 ^ 60).natAbs.log2 < 1920 := by
          have : ((m : Int) % 10 ^ 60).natAbs < 2 ^ 200 := Nat.lt_of_lt_of_le (m := 10 ^ 60) (by omega) (by decide)
          exact Nat.lt_of_lt_of_le (PySem.Flt.log2_lt_of (by decide) this) (by decide)
        refine ⟨_, rfl, .inl ⟨rfl, _, SqL.of fl⟩, _, rfl, _, rfl, hlog, rfl, _, _, rfl, rfl, rfl, l, _, _, rfl, rfl, fl, szlt (by rw [List.length_map]; omega), ?_⟩
        refine ⟨⟨m / 10 ^ 60, ps ++ [Txt.zfill (itS ((m % 10 ^ 60 : Nat) : Int)) (60 : Nat)], _, by rw [e1]; rfl, ?_, Lb.Same.updl (s1.trans s2) hl, c1, c2, Nat.le_trans (Nat.div_le_self _ _) hm⟩, ?_⟩
        · rw [upd_same, e2, List.map_append]
          rfl
        · show ((m : Int) / 10 ^ 60).toNat < (m : Int).toNat
          omega
      · have h1 : m < 10 ^ 60 := by
          have h1 : ¬ ((m : Int) ≥ 10 ^ 60) := fun q => h1 (decide_eq_true q)
          omega
        have hlog : (m : Int).natAbs.log2 < 1920 := by
          have : (m : Int).natAbs < 2 ^ 200 := Nat.lt_of_lt_of_le (m := 10 ^ 60) (by omega) (by decide)
          exact Nat.lt_of_lt_of_le (PySem.Flt.log2_lt_of (by decide) this) (by decide)
        refine ⟨_, rfl, .inl ⟨rfl, _, SqL.of fl⟩, _, rfl, _, rfl, hlog, l, _, _, rfl, rfl, fl, szlt (by rw [List.length_map]; omega), ?_⟩
        refine ⟨_, rfl, .inl ⟨rfl, _, SqL.of upd_same⟩, l, _, rfl, rfl, upd_same, ?_⟩
        have er : (ps.map V.str ++ [V.str (itS (m : Int))]).reverse = ((itS (m : Int)) :: ps.reverse).map V.str := by simp
        rw [er]
        refine ⟨⟨_, rfl⟩, _, rfl, _, l, (itS (m : Int)) :: ps.reverse, rfl, rfl, .inl (SqL.of upd_same), ?_, ?_⟩
        · have l1 : (itS (m : Int)).length ≤ 61 := by
            rw [show (itS (m : Int)).length = (toString (m : Int) : String).length from ofString_length _]
            exact int_text_length_le10 (k := 60) (by decide) (by omega)
          rw [List.map_cons, List.sum_cons, List.map_reverse, List.sum_reverse, len60 h60]
          show _ + _ * 0 ≤ _
          omega
        · rw [show (Str.ofString "") = Str.empty from by decide +kernel, join_empty]
          rw [e] at k
          exact k _ (Lb.Same.updl (Lb.Same.updl s1 hl) hl)
/-- str and repr of an amount -/
def txS (t b : Int) : Str := if b = 1 then itS t else itS t ++ "/" ++ itS b
def txR (t b : Int) : Str := "Amount(" ++ itS t ++ ", " ++ itS b ++ ")"
def sp_tx (C : Addr) (f : Int → Int → Str) : Sp := fun vs H Q _ => ∃ (p : Addr) (t b : Int), vs = [.ref p] ∧ AmAt C H p t b ∧ Bd 1800 t ∧ Bd 1800 b ∧ ∀ H', Same H H' → Q (.str (f t b)) H'
theorem ok_Amount_repr_ (T : Txt K mg a) : FnOk P w K mg base CX0 3 a.f_Amount_repr_ a.d_Amount_repr_ ["self"] (sp_tx a.c_Amount txR) := by
  refine T.F_Amount_repr_.ok sc_Amount_repr_ (fun vs H Q E h => ?_) (fun cdv A outer s H vs Q E hr h => ?_)
  · obtain ⟨p, t, b, rfl, _⟩ := h
    rfl
  · obtain ⟨p, t, b, rfl, ⟨dx, hp⟩, ht, hb, k⟩ := h
    refine ⟨_, (pss_one (ps_ret (pe_joined (.cons pe_str (.cons (pe_fmt (pe_call (ok_decimal T) (hr.mono (by decide)) (by rfl) T.m_decimal T.F_decimal.kp (b_decimal T) .nil pass0 (pa_cons (pe_fldK (K := K) rfl (pv 0) rfl) pa_nil))) (.cons pe_str (.cons (pe_fmt (pe_call (ok_decimal T) (hr.mono (by decide)) (by rfl) T.m_decimal T.F_decimal.kp (b_decimal T) .nil pass0 (pa_cons (pe_fldK (K := K) rfl (pv 0) rfl) pa_nil))) (.cons pe_str .nil)))))))), ?_⟩
    have l1 := itS_len ht
    have l2 := itS_len hb
    have l3 : ("Amount(" : Str).length = 7 := by decide +kernel
    have l4 : (", " : Str).length = 2 := by decide +kernel
    have l5 : (")" : Str).length = 1 := by decide +kernel
    have l0 : (Str.empty).length = 0 := rfl
    refine ⟨_, rfl, sz, _, rfl, p, _, dx, _, _, rfl, hp, T.cl, T.nT, am_top _ _, t, rfl, ht, fun H1 s1 => .inl ⟨_, rfl, szle (by omega), _, rfl, ?_, _, rfl, ?_, ?_⟩⟩
    · rw [Str.length_append, Str.length_append]
      exact szle (by omega)
    · rw [Str.length_append, Str.length_append, Str.length_append]
      exact szle (by omega)
    refine ⟨_, rfl, p, _, dx, _, _, rfl, s1 _ _ hp, T.cl, T.nB, am_bot _ _, b, rfl, hb, fun H2 s2 => .inl ⟨_, rfl, szle (by omega), _, rfl, ?_, _, rfl, ?_, ?_⟩⟩
    · rw [Str.length_append, Str.length_append, Str.length_append, Str.length_append]
      exact szle (by omega)
    · rw [Str.length_append, Str.length_append, Str.length_append, Str.length_append, Str.length_append]
      exact szle (by omega)
    · have q := k _ (s1.trans s2)
      unfold txR at q
      rw [← empty_add ("Amount(" : Str)] at q
      exact q
end
end K19

set_option Elab.async false
set_option linter.all false
set_option maxRecDepth 100000
set_option maxHeartbeats 4000000
set_option exponentiation.threshold 10000
namespace K19
open PySem L2 Lb
/-- what may be passed: data with amounts -/
inductive Dt where
  | non | bl (b : Bool) | int (i : Int) | str (z : Str) | am (x : Q2) | ls (l : List Dt) | tp (l : List Dt) | dc | dt
def dtT : List (List Key × V) := [([.inl 1, .inl 1], .int 0)]
mutual
/-- a value is such data; p is the pot -/
def At (C p : Addr) (H : Hp) : Dt → V → Prop
  | .non, v => v = .non
  | .bl b, v => v = .bl b
  | .int i, v => v = .int i
  | .str z, v => v = .str z
  | .am x, v => ∃ q, v = .ref q ∧ AmAt C H q x.1 x.2
  | .ls l, v => ∃ a xs, v = .ref a ∧ H a = some (.lst xs) ∧ a ≠ p ∧ Ats C p H l xs
  | .tp l, v => ∃ a xs, v = .ref a ∧ H a = some (.tup xs) ∧ Ats C p H l xs
  | .dc, v => ∃ a, v = .ref a ∧ H a = some (.dK [])
  | .dt, v => ∃ a, v = .ref a ∧ H a = some (.dT dtT)
def Ats (C p : Addr) (H : Hp) : List Dt → List V → Prop
  | [], xs => xs = []
  | t :: ts, xs => ∃ x r, xs = x :: r ∧ At C p H t x ∧ Ats C p H ts r
end
theorem ats_nil {C p : Addr} {H : Hp} : Ats C p H [] [] := by simp only [Ats]
theorem ats_cons {C p : Addr} {H : Hp} {d : Dt} {l : List Dt} {x : V} {xs : List V} (h : At C p H d x) (k : Ats C p H l xs) : Ats C p H (d :: l) (x :: xs) := by
  simp only [Ats]
  exact ⟨x, xs, rfl, h, k⟩
theorem ats_inv {C p : Addr} {H : Hp} {d : Dt} {l : List Dt} {xs : List V} (h : Ats C p H (d :: l) xs) : ∃ x r, xs = x :: r ∧ At C p H d x ∧ Ats C p H l r := by
  simpa only [Ats] using h
theorem ats_inv0 {C p : Addr} {H : Hp} {xs : List V} (h : Ats C p H [] xs) : xs = [] := by simpa only [Ats] using h
/-- what the heaps have in common for such data -/
def Kp (p : Addr) (H H' : Hp) : Prop := ∀ a o, H a = some o → a ≠ p → H' a = some o
theorem Kp.of {p : Addr} {H H' : Hp} (s : Same H H') : Kp p H H' := fun a o e _ => s a o e
mutual
theorem At.kp {C p : Addr} {H H' : Hp} (hp : ∀ o, H p = some o → ∃ xs, o = .lst xs) (k : Kp p H H') : ∀ (d : Dt) (v : V), At C p H d v → At C p H' d v
  | .non, _, h => by simp only [At] at h ⊢; exact h
  | .bl _, _, h => by simp only [At] at h ⊢; exact h
  | .int _, _, h => by simp only [At] at h ⊢; exact h
  | .str _, _, h => by simp only [At] at h ⊢; exact h
  | .am x, _, h => by
    simp only [At] at h ⊢
    obtain ⟨q, e, dx, h⟩ := h
    refine ⟨q, e, dx, k _ _ h fun z => ?_⟩
    obtain ⟨xs, w⟩ := hp _ (z ▸ h)
    cases w
  | .ls l, _, h => by
    simp only [At] at h ⊢
    obtain ⟨a, xs, e, h1, n, h2⟩ := h
    exact ⟨a, xs, e, k _ _ h1 n, n, Ats.kp hp k l xs h2⟩
  | .tp l, _, h => by
    simp only [At] at h ⊢
    obtain ⟨a, xs, e, h1, h2⟩ := h
    refine ⟨a, xs, e, k _ _ h1 fun z => ?_, Ats.kp hp k l xs h2⟩
    obtain ⟨xs, w⟩ := hp _ (z ▸ h1)
    cases w
  | .dc, _, h => by
    simp only [At] at h ⊢
    obtain ⟨a, e, h1⟩ := h
    refine ⟨a, e, k _ _ h1 fun z => ?_⟩
    obtain ⟨xs, w⟩ := hp _ (z ▸ h1)
    cases w
  | .dt, _, h => by
    simp only [At] at h ⊢
    obtain ⟨a, e, h1⟩ := h
    refine ⟨a, e, k _ _ h1 fun z => ?_⟩
    obtain ⟨xs, w⟩ := hp _ (z ▸ h1)
    cases w
theorem Ats.kp {C p : Addr} {H H' : Hp} (hp : ∀ o, H p = some o → ∃ xs, o = .lst xs) (k : Kp p H H') : ∀ (l : List Dt) (xs : List V), Ats C p H l xs → Ats C p H' l xs
  | [], _, h => by simp only [Ats] at h ⊢; exact h
  | t :: r, _, h => by simp only [Ats] at h ⊢; obtain ⟨x, q, e, h1, h2⟩ := h; exact ⟨x, q, e, At.kp hp k t x h1, Ats.kp hp k r q h2⟩
end
mutual
theorem At.same {C p : Addr} {H H' : Hp} (s : Same H H') : ∀ (d : Dt) (v : V), At C p H d v → At C p H' d v
  | .non, _, h => by simp only [At] at h ⊢; exact h
  | .bl _, _, h => by simp only [At] at h ⊢; exact h
  | .int _, _, h => by simp only [At] at h ⊢; exact h
  | .str _, _, h => by simp only [At] at h ⊢; exact h
  | .am x, _, h => by simp only [At] at h ⊢; obtain ⟨q, e, h⟩ := h; exact ⟨q, e, h.same s⟩
  | .ls l, _, h => by simp only [At] at h ⊢; obtain ⟨a, xs, e, h1, n, h2⟩ := h; exact ⟨a, xs, e, s _ _ h1, n, Ats.same s l xs h2⟩
  | .tp l, _, h => by simp only [At] at h ⊢; obtain ⟨a, xs, e, h1, h2⟩ := h; exact ⟨a, xs, e, s _ _ h1, Ats.same s l xs h2⟩
  | .dc, _, h => by simp only [At] at h ⊢; obtain ⟨a, e, h1⟩ := h; exact ⟨a, e, s _ _ h1⟩
  | .dt, _, h => by simp only [At] at h ⊢; obtain ⟨a, e, h1⟩ := h; exact ⟨a, e, s _ _ h1⟩
theorem Ats.same {C p : Addr} {H H' : Hp} (s : Same H H') : ∀ (l : List Dt) (xs : List V), Ats C p H l xs → Ats C p H' l xs
  | [], _, h => by simp only [Ats] at h ⊢; exact h
  | t :: r, _, h => by simp only [Ats] at h ⊢; obtain ⟨x, q, e, h1, h2⟩ := h; exact ⟨x, q, e, At.same s t x h1, Ats.same s r q h2⟩
end
theorem Ats.len {C p : Addr} {H : Hp} : ∀ {l : List Dt} {xs : List V}, Ats C p H l xs → xs.length = l.length
  | [], _, h => by rw [ats_inv0 h]; rfl
  | t :: r, _, h => by
    obtain ⟨x, q, rfl, _, h2⟩ := ats_inv h
    simp only [List.length_cons, h2.len]
theorem Ats.at_ {C p : Addr} {H : Hp} : ∀ {l : List Dt} {xs : List V} {i : Nat} {x : V}, Ats C p H l xs → xs[i]? = some x → ∃ d, l[i]? = some d ∧ At C p H d x
  | [], _, i, x, h, e => by rw [ats_inv0 h] at e; simp at e
  | t :: r, _, i, x, h, e => by
    obtain ⟨y, q, rfl, h1, h2⟩ := ats_inv h
    cases i with
    | zero => simp at e; subst e; exact ⟨t, rfl, h1⟩
    | succ i =>
      obtain ⟨d, e1, e2⟩ := h2.at_ (i := i) (by simpa using e)
      exact ⟨d, by simpa using e1, e2⟩
theorem Ats.get {C p : Addr} {H : Hp} {l : List Dt} {xs : List V} {i : Nat} {d : Dt} (h : Ats C p H l xs) (e : l[i]? = some d) : ∃ x, xs[i]? = some x ∧ At C p H d x := by
  have hi := (List.getElem?_eq_some_iff.mp e).1
  obtain ⟨d', e1, e2⟩ := h.at_ (i := i) (List.getElem?_eq_getElem (by rw [h.len]; exact hi))
  rw [e] at e1
  cases e1
  exact ⟨_, List.getElem?_eq_getElem (by rw [h.len]; exact hi), e2⟩
theorem Ats.append {C p : Addr} {H : Hp} : ∀ {l m : List Dt} {xs ys : List V}, Ats C p H l xs → Ats C p H m ys → Ats C p H (l ++ m) (xs ++ ys)
  | [], _, _, _, h, k => by rw [ats_inv0 h]; exact k
  | t :: r, _, _, _, h, k => by
    obtain ⟨x, q, rfl, h1, h2⟩ := ats_inv h
    exact ats_cons h1 (h2.append k)
theorem Ats.drop {C p : Addr} {H : Hp} : ∀ {l : List Dt} {xs : List V} (n : Nat), Ats C p H l xs → Ats C p H (l.drop n) (xs.drop n)
  | _, _, 0, h => h
  | [], _, n + 1, h => by rw [ats_inv0 h]; exact ats_nil
  | t :: r, _, n + 1, h => by
    obtain ⟨x, q, rfl, h1, h2⟩ := ats_inv h
    exact h2.drop n
theorem Ats.take {C p : Addr} {H : Hp} : ∀ {l : List Dt} {xs : List V} (n : Nat), Ats C p H l xs → Ats C p H (l.take n) (xs.take n)
  | _, _, 0, h => ats_nil
  | [], _, n + 1, h => by rw [ats_inv0 h]; exact ats_nil
  | t :: r, _, n + 1, h => by
    obtain ⟨x, q, rfl, h1, h2⟩ := ats_inv h
    exact ats_cons h1 (h2.take n)
/-! what it is -/
def isInt : Dt → Bool
  | .int _ => true
  | _ => false
def amOf : Dt → Option Q2
  | .int i => some (i, 1)
  | .am x => some x
  | _ => none
def isTp : Dt → Bool
  | .tp _ => true
  | _ => false
def isAm : Dt → Bool
  | .am _ => true
  | _ => false
def isIb : Dt → Bool
  | .int _ => true
  | .bl _ => true
  | _ => false
def isBl : Dt → Bool
  | .bl _ => true
  | _ => false
def isLT : Dt → Bool
  | .tp _ => true
  | .ls _ => true
  | _ => false
def elems : Dt → List Dt
  | .tp l => l
  | .ls l => l
  | _ => []
theorem At.isP {C p : Addr} {H : Hp} {d : Dt} {v : V} {x : Q2} (h : At C p H d v) (e : amOf d = some x) : IsP C H v x.1 x.2 := by
  cases d with
  | int i =>
    simp only [At] at h
    cases e
    exact .inl ⟨h, rfl⟩
  | am y =>
    simp only [At] at h
    cases e
    exact .inr h
  | _ => cases e
theorem at_isP {C p : Addr} {H : Hp} {v : V} {t b : Int} (h : IsP C H v t b) : ∃ d, amOf d = some (t, b) ∧ At C p H d v ∧ (d = .int t ∧ b = 1 ∨ d = .am (t, b)) := by
  rcases h with ⟨rfl, rfl⟩ | ⟨q, rfl, h⟩
  · exact ⟨.int t, rfl, by simp only [At], .inl ⟨rfl, rfl⟩⟩
  · exact ⟨.am (t, b), rfl, by simp only [At]; exact ⟨q, rfl, h⟩, .inr rfl⟩
section
variable {P : Program} {w : World} {K : PySem.W.Frag} {mg : Str → Option Value} {base : Heap} {a : Ad}
/-- what isinstance says of such data -/
theorem At.ty (T : Txt K mg a) {p : Addr} {H : Hp} {d : Dt} {v : V} (h : At a.c_Amount p H d v) : ∃ t, TyX K H v t ∧ PySem.W.kitOne K t (.type "tuple") = some (isTp d) ∧ PySem.W.kitAny K t [.type "list", .type "tuple"] = some (isLT d) ∧
    PySem.W.kitOne K t (.ref a.c_Amount) = some (isAm d) ∧ PySem.W.kitOne K t (.type "int") = some (isIb d) ∧
    PySem.W.kitOne K t (.type "bool") = some (isBl d) := by
  have any : ∀ {u : Value} {x y : Bool}, PySem.W.kitOne K u (.type "list") = some x → PySem.W.kitOne K u (.type "tuple") = some y → PySem.W.kitAny K u [.type "list", .type "tuple"] = some (x || y) := by
    intro u x y h1 h2
    unfold PySem.W.kitAny
    rw [h1]
    cases x with
    | true => rfl
    | false =>
      show PySem.W.kitAny K u [.type "tuple"] = some (false || y)
      unfold PySem.W.kitAny
      rw [h2]
      cases y <;> rfl
  cases d with
  | non => simp only [At] at h; subst h; exact ⟨_, .base .non, kit_ty (r := false) (by decide +kernel), any (x := false) (y := false) (kit_ty (by decide +kernel)) (kit_ty (by decide +kernel)), T.I.kNone, kit_ty (r := false) (by decide +kernel), kit_ty (r := false) (by decide +kernel)⟩
  | bl b => simp only [At] at h; subst h; exact ⟨_, .base (.bl _), kit_ty (r := false) (by decide +kernel), any (x := false) (y := false) (kit_ty (by decide +kernel)) (kit_ty (by decide +kernel)), T.I.kBool, kit_ty (r := true) (by decide +kernel), kit_ty (r := true) (by decide +kernel)⟩
  | int i => simp only [At] at h; subst h; exact ⟨_, .base (.int _), kit_ty (r := false) (by decide +kernel), any (x := false) (y := false) (kit_ty (by decide +kernel)) (kit_ty (by decide +kernel)), T.I.kInt, kit_ty (r := true) (by decide +kernel), kit_ty (r := false) (by decide +kernel)⟩
  | str z => simp only [At] at h; subst h; exact ⟨_, .base (.str _), kit_ty (r := false) (by decide +kernel), any (x := false) (y := false) (kit_ty (by decide +kernel)) (kit_ty (by decide +kernel)), T.I.kStr, kit_ty (r := false) (by decide +kernel), kit_ty (r := false) (by decide +kernel)⟩
  | am x =>
    simp only [At] at h
    obtain ⟨q, rfl, dx, e⟩ := h
    exact ⟨_, .base (T.I.ty T.cl e), T.kAt, any (x := false) (y := false) T.kAl T.kAt, Inst.kSelf, kit_of_own (by decide +kernel) T.oAdd.ss2, T.kAb⟩
  | ls l => simp only [At] at h; obtain ⟨q, xs, rfl, e, _⟩ := h; exact ⟨_, .base (.lst e), kit_ty (r := false) (by decide +kernel), any (x := true) (y := false) (kit_ty (by decide +kernel)) (kit_ty (by decide +kernel)), T.I.kList, kit_ty (r := false) (by decide +kernel), kit_ty (r := false) (by decide +kernel)⟩
  | tp l => simp only [At] at h; obtain ⟨q, xs, rfl, e, _⟩ := h; exact ⟨_, .base (.tup e), kit_ty (r := true) (by decide +kernel), any (x := false) (y := true) (kit_ty (by decide +kernel)) (kit_ty (by decide +kernel)), T.I.kTup, kit_ty (r := false) (by decide +kernel), kit_ty (r := false) (by decide +kernel)⟩
  | dc => simp only [At] at h; obtain ⟨q, rfl, e⟩ := h; exact ⟨_, .base (.dK e), kit_ty (r := false) (by decide +kernel), any (x := false) (y := false) (kit_ty (by decide +kernel)) (kit_ty (by decide +kernel)), T.I.kDict, kit_ty (r := false) (by decide +kernel), kit_ty (r := false) (by decide +kernel)⟩
  | dt => simp only [At] at h; obtain ⟨q, rfl, e⟩ := h; exact ⟨_, .base (.dT e), kit_ty (r := false) (by decide +kernel), any (x := false) (y := false) (kit_ty (by decide +kernel)) (kit_ty (by decide +kernel)), T.I.kDict, kit_ty (r := false) (by decide +kernel), kit_ty (r := false) (by decide +kernel)⟩
end
end K19

set_option Elab.async false
set_option linter.all false
set_option maxRecDepth 100000
set_option maxHeartbeats 4000000
set_option exponentiation.threshold 10000
namespace K19
open PySem L2 Lb
theorem at0 {x y : V} : atI [x, y] 0 = some x := atI_nat (j := 0) rfl
theorem at1 {x y : V} : atI [x, y] 1 = some y := atI_nat (j := 1) rfl
theorem take_snoc {α : Type} {l : List α} {i : Nat} {x : α} (h : l[i]? = some x) : l.take i ++ [x] = l.take (i + 1) := by
  rw [List.take_succ, h]
  rfl
theorem ref_at {as : List Addr} {i : Nat} {x : V} (h : (as.map V.ref)[i]? = some x) : ∃ q, x = .ref q ∧ as[i]? = some q := by
  rw [List.getElem?_map] at h
  cases e : as[i]? with
  | none => rw [e] at h; cases h
  | some q => rw [e] at h; exact ⟨q, (Option.some.inj h).symm, rfl⟩
theorem at_ref {as : List Addr} {i : Nat} {q : Addr} (h : as[i]? = some q) : atI (as.map V.ref) (i : Int) = some (.ref q) := atI_nat (by rw [List.getElem?_map, h]; rfl)
theorem paired_snoc {α β : Type} {R : α → β → Prop} : ∀ {as : List α} {bs : List β} {a : α} {b : β}, Paired R as bs → R a b → Paired R (as ++ [a]) (bs ++ [b])
  | [], [], _, _, .nil, h => .cons h .nil
  | _ :: _, _ :: _, _, _, .cons h1 h2, h => .cons h1 (paired_snoc h2 h)
def sp_cmp (C : Addr) (f : Int → Int → Int → Int → Bool) : Sp := fun vs H Q _ => ∃ (p q : Addr) (t b t' b' : Int), vs = [.ref p, .ref q] ∧ AmAt C H p t b ∧ AmAt C H q t' b' ∧ Bd 8000 t ∧ Bd 8000 b ∧ Bd 8000 t' ∧ Bd 8000 b' ∧ Q (.bl (f t b t' b')) H
def fLt : Int → Int → Int → Int → Bool := fun t b t' b' => decide (t * b' < t' * b)
def fLe : Int → Int → Int → Int → Bool := fun t b t' b' => decide (t * b' ≤ t' * b)
/-- a point: two fractions -/
abbrev Pt := Q2 × Q2
/-- a point as it is passed -/
def PtP (C : Addr) (H : Hp) (v : V) (z : Pt) : Prop := ∃ t u w, v = .ref t ∧ H t = some (.tup [u, w]) ∧ IsP C H u z.1.1 z.1.2 ∧ IsP C H w z.2.1 z.2.2
theorem PtP.same {C : Addr} {H H' : Hp} {v : V} {z : Pt} (h : PtP C H v z) (s : Same H H') : PtP C H' v z :=
  let ⟨t, u, w, e, et, p, q⟩ := h
  ⟨t, u, w, e, s _ _ et, p.same s, q.same s⟩
/-- a point that the program holds: a tuple of two amounts -/
def RowA (C : Addr) (H : Hp) (r : Addr) (z : Pt) : Prop := ∃ p q, H r = some (.tup [.ref p, .ref q]) ∧ AmAt C H p z.1.1 z.1.2 ∧ AmAt C H q z.2.1 z.2.2
theorem RowA.same {C : Addr} {H H' : Hp} {r : Addr} {z : Pt} (h : RowA C H r z) (s : Same H H') : RowA C H' r z :=
  let ⟨p, q, e, ap, aq⟩ := h
  ⟨p, q, s _ _ e, ap.same s, aq.same s⟩
/-- both parts in lowest terms, small, and of one sign -/
structure PtL (n : Nat) (z : Pt) : Prop where
  x : Low n z.1
  y : Low n z.2
  s : sg z.1.1 = sg z.2.1
def ltQ (x y : Q2) : Prop := x.1 * y.2 < y.1 * x.2
def sp_is_point (C : Addr) : Sp := fun vs H Q _ => ∃ v z n, vs = [v] ∧ PtP C H v z ∧ PtL n z ∧ n ≤ 8000 ∧ ∀ H', Same H H' → Q (.bl true) H'
def sp_is_origin (C : Addr) : Sp := fun vs H Q _ => ∃ v z n, vs = [v] ∧ PtP C H v z ∧ PtL n z ∧ n ≤ 8000 ∧ ∀ H', Same H H' → Q (.bl (decide (z.1.1 = 0))) H'
def sp_rises (C : Addr) : Sp := fun vs H Q _ => ∃ r r' z z' n, vs = [.ref r, .ref r'] ∧ RowA C H r z ∧ RowA C H r' z' ∧ PtL n z ∧ PtL n z' ∧ n ≤ 8000 ∧ ltQ z.1 z'.1 ∧ ltQ z.2 z'.2 ∧ Q (.bl true) H
theorem sg0 {t : Int} : sg t = 0 ↔ t = 0 := by
  unfold sg
  split
  · rename_i h; simp [h]
  · rename_i h
    split <;> simp [h]
section
variable {P : Program} {w : World} {K : PySem.W.Frag} {mg : Str → Option Value} {base : Heap} {a : Ad}
theorem ok_Amount_lt_ (T : Txt K mg a) : FnOk P w K mg base CX0 1 a.f_Amount_lt_ a.d_Amount_lt_ ["self", "other"] (sp_cmp a.c_Amount fLt) := by
  refine T.F_Amount_lt_.ok sc_Amount_lt_ (fun vs H Q E h => ?_) (fun cdv A outer s H vs Q E hr h => ?_)
  · obtain ⟨p, q, t, b, t', b', rfl, _⟩ := h
    rfl
  · obtain ⟨p, q, t, b, t', b', rfl, ⟨dx, hp⟩, ⟨dy, hq⟩, bt, bb, bt', bb', k⟩ := h
    refine ⟨_, (pss_cons (ps_if (pt_not (pt_val (pe_callB (call_isiK' (K := K) rfl) (by rfl) T.b_isinstance (by decide +kernel) (pa_cons (pv 1) (pa_cons (pe_glob (v := .ref a.c_Amount) rfl T.mA rfl) pa_nil))))) (pss_one ps_never) pss_nil)
 (pss_one (ps_ret (pe_cmpR op_lt (pe_op op_mulX (pe_fldK (K := K) rfl (pv 0) rfl) (pe_fldK (K := K) rfl (pv 1) rfl)) (pe_op op_mulX (pe_fldK (K := K) rfl (pv 1) rfl) (pe_fldK (K := K) rfl (pv 0) rfl)) (nomark _))))), ?_⟩
    refine ⟨_, rfl, _, _, _, _, true, rfl, .own _, .base (T.I.ty T.cl hq), Inst.kSelf, true, rfl, iteF ?_⟩
    refine ⟨_, rfl, p, _, dx, _, _, rfl, hp, T.cl, T.nT, am_top _ _, _, rfl, q, _, dy, _, _, rfl, hq, T.cl, T.nB, am_bot _ _, _, _, rfl, rfl, bt.cm bb' (by decide), ?_⟩
    exact ⟨_, rfl, q, _, dy, _, _, rfl, hq, T.cl, T.nT, am_top _ _, _, rfl, p, _, dx, _, _, rfl, hp, T.cl, T.nB, am_bot _ _, _, _, rfl, rfl, bt'.cm bb (by decide), _, _, rfl, rfl, k⟩
theorem ok_Amount_le_ (T : Txt K mg a) : FnOk P w K mg base CX0 1 a.f_Amount_le_ a.d_Amount_le_ ["self", "other"] (sp_cmp a.c_Amount fLe) := by
  refine T.F_Amount_le_.ok sc_Amount_le_ (fun vs H Q E h => ?_) (fun cdv A outer s H vs Q E hr h => ?_)
  · obtain ⟨p, q, t, b, t', b', rfl, _⟩ := h
    rfl
  · obtain ⟨p, q, t, b, t', b', rfl, ⟨dx, hp⟩, ⟨dy, hq⟩, bt, bb, bt', bb', k⟩ := h
    refine ⟨_, (pss_cons (ps_if (pt_not (pt_val (pe_callB (call_isiK' (K := K) rfl) (by rfl) T.b_isinstance (by decide +kernel) (pa_cons (pv 1) (pa_cons (pe_glob (v := .ref a.c_Amount) rfl T.mA rfl) pa_nil))))) (pss_one ps_never) pss_nil)
 (pss_one (ps_ret (pe_cmpR op_le (pe_op op_mulX (pe_fldK (K := K) rfl (pv 0) rfl) (pe_fldK (K := K) rfl (pv 1) rfl)) (pe_op op_mulX (pe_fldK (K := K) rfl (pv 1) rfl) (pe_fldK (K := K) rfl (pv 0) rfl)) (nomark _))))), ?_⟩
    refine ⟨_, rfl, _, _, _, _, true, rfl, .own _, .base (T.I.ty T.cl hq), Inst.kSelf, true, rfl, iteF ?_⟩
    refine ⟨_, rfl, p, _, dx, _, _, rfl, hp, T.cl, T.nT, am_top _ _, _, rfl, q, _, dy, _, _, rfl, hq, T.cl, T.nB, am_bot _ _, _, _, rfl, rfl, bt.cm bb' (by decide), ?_⟩
    exact ⟨_, rfl, q, _, dy, _, _, rfl, hq, T.cl, T.nT, am_top _ _, _, rfl, p, _, dx, _, _, rfl, hp, T.cl, T.nB, am_bot _ _, _, _, rfl, rfl, bt'.cm bb (by decide), _, _, rfl, rfl, k⟩
theorem ok_is_point (T : Txt K mg a) : FnOk P w K mg base CX0 5 a.f_is_point a.d_is_point ["value"] (sp_is_point a.c_Amount) := by
  refine T.F_is_point.ok sc_is_point (fun vs H Q E h => ?_) (fun cdv A outer s H vs Q E hr h => ?_)
  · obtain ⟨v, z, n, rfl, _⟩ := h
    rfl
  · obtain ⟨v, z, n, rfl, ⟨t, u, w, rfl, et, iu, iw⟩, lz, hn, k⟩ := h
    refine ⟨_, (pss_cons (ps_if (PW.pt (pw_or (pt_not (pt_val (pe_callB (call_isiK' (K := K) rfl) (by rfl) T.b_isinstance (by decide +kernel) (pa_cons (pv 0) (pa_cons (pe_bltn (v := .ty "tuple") (by rfl) T.b_tuple (by decide +kernel) rfl) pa_nil))))) (pw_or1 (pt_cmpR op_ne (pe_callB (call_lenK (K := K) rfl) (by rfl) T.b_len (by decide +kernel) (pa_cons (pv 0) pa_nil)) pe_int (nomark _))))) (pss_one (ps_ret pe_bl)) pss_nil)
 (pss_cons (ps_if (PW.pt (pw_or (pt_not (pt_val (pe_call (ok_is_amount_p T) (hr.mono (by decide)) (by rfl) T.m_is_amount_p T.F_is_amount_p.kp (b_is_amount_p T) .nil pass0 (pa_cons (pe_ix (ix_tupK (K := K) rfl) (pv 0) (pe_glob (v := .int 0) rfl T.gFlow.choose_spec ⟨_, rfl⟩) (fun _ _ => rfl)) pa_nil)))) (pw_or1 (pt_not (pt_val (pe_call (ok_is_amount_p T) (hr.mono (by decide)) (by rfl) T.m_is_amount_p T.F_is_amount_p.kp (b_is_amount_p T) .nil pass0 (pa_cons (pe_ix (ix_tupK (K := K) rfl) (pv 0) (pe_glob (v := .int 1) rfl T.gDrop.choose_spec ⟨_, rfl⟩) (fun _ _ => rfl)) pa_nil))))))) (pss_one (ps_ret pe_bl)) pss_nil)
 (pss_one (ps_ret (pe_cmpR op_eq (pe_prop (pe_call (ok_amount_of T) (hr.mono (by decide)) (by rfl) T.m_amount_of T.F_amount_of.kp (b_amount_of T) .nil pass0 (pa_cons (pe_ix (ix_tupK (K := K) rfl) (pv 0) (pe_glob (v := .int 0) rfl T.gFlow.choose_spec ⟨_, rfl⟩) (fun _ _ => rfl)) pa_nil)) T.cl T.p_sign (ok_Amountsign T) (hr.mono (by decide)) (b_Amountsign T) .nil pass0 rfl) (pe_prop (pe_call (ok_amount_of T) (hr.mono (by decide)) (by rfl) T.m_amount_of T.F_amount_of.kp (b_amount_of T) .nil pass0 (pa_cons (pe_ix (ix_tupK (K := K) rfl) (pv 0) (pe_glob (v := .int 1) rfl T.gDrop.choose_spec ⟨_, rfl⟩) (fun _ _ => rfl)) pa_nil)) T.cl T.p_sign (ok_Amountsign T) (hr.mono (by decide)) (b_Amountsign T) .nil pass0 rfl) (nomark _)))))), ?_⟩
    refine ⟨_, rfl, _, _, _, _, true, rfl, .ty _, .base (.tup et), kit_ty (by decide +kernel), true, rfl, iteF ?_⟩
    refine ⟨_, rfl, _, _, rfl, .inr (SqT.of et), rfl, _, rfl, iteN (by simp) ?_⟩
    refine ⟨_, rfl, _, _, _, _, rfl, rfl, SqT.of et, at0, u, _, _, rfl, iu, true, rfl, iteF ?_⟩
    refine ⟨_, rfl, _, _, _, _, rfl, rfl, SqT.of et, at1, w, _, _, rfl, iw, true, rfl, iteF ?_⟩
    refine ⟨_, rfl, _, _, _, _, rfl, rfl, SqT.of et, at0, u, _, _, rfl, iu, lz.x.t.mono hn, fun H1 q s1 aq => ?_⟩
    obtain ⟨dq, eq⟩ := id aq
    refine ⟨q, dq, _, rfl, eq, q, _, _, rfl, aq, ?_⟩
    refine ⟨_, rfl, _, _, _, _, rfl, rfl, SqT.of (s1 _ _ et), at1, w, _, _, rfl, iw.same s1, lz.y.t.mono hn, fun H2 r s2 ar => ?_⟩
    obtain ⟨dr, er⟩ := id ar
    refine ⟨r, dr, _, rfl, er, r, _, _, rfl, ar, rfl, ?_⟩
    have e := k _ (s1.trans s2)
    show Q (.bl (decide (V.int _ = V.int _))) H2
    rw [decide_eq_true (by rw [lz.s])]
    exact e
theorem ok_is_origin (T : Txt K mg a) : FnOk P w K mg base CX0 6 a.f_is_origin a.d_is_origin ["value"] (sp_is_origin a.c_Amount) := by
  refine T.F_is_origin.ok sc_is_origin (fun vs H Q E h => ?_) (fun cdv A outer s H vs Q E hr h => ?_)
  · obtain ⟨v, z, n, rfl, _⟩ := h
    rfl
  · obtain ⟨v, z, n, rfl, hp, lz, hn, k⟩ := h
    refine ⟨_, (pss_one (ps_ret (pe_and (pe_call (ok_is_point T) (hr.mono (by decide)) (by rfl) T.m_is_point T.F_is_point.kp (b_is_point T) .nil pass0 (pa_cons (pv 0) pa_nil)) (pe_one (pe_cmpR op_eq (pe_prop (pe_call (ok_amount_of T) (hr.mono (by decide)) (by rfl) T.m_amount_of T.F_amount_of.kp (b_amount_of T) .nil pass0 (pa_cons (pe_ix (ix_tupK (K := K) rfl) (pv 0) (pe_glob (v := .int 0) rfl T.gFlow.choose_spec ⟨_, rfl⟩) (fun _ _ => rfl)) pa_nil)) T.cl T.p_sign (ok_Amountsign T) (hr.mono (by decide)) (b_Amountsign T) .nil pass0 rfl) pe_int (nomark _)))))), ?_⟩
    refine ⟨_, rfl, v, z, n, rfl, hp, lz, hn, fun H1 s1 => ⟨true, rfl, iteT ?_⟩⟩
    obtain ⟨t, u, w, rfl, et, iu, iw⟩ := hp.same s1
    refine ⟨_, rfl, _, _, _, _, rfl, rfl, SqT.of et, at0, u, _, _, rfl, iu, lz.x.t.mono hn, fun H2 q s2 aq => ?_⟩
    obtain ⟨dq, eq⟩ := id aq
    refine ⟨q, dq, _, rfl, eq, q, _, _, rfl, aq, rfl, ?_⟩
    have e := k _ (s1.trans s2)
    show Q (.bl (decide (V.int (sg z.1.1) = V.int 0))) H2
    rw [show decide (V.int (sg z.1.1) = V.int 0) = decide (z.1.1 = 0) from decide_eq_decide.mpr ⟨fun h => by injection h with h; exact sg0.mp h, fun h => by rw [sg0.mpr h]⟩]
    exact e
theorem ok_rises (T : Txt K mg a) : FnOk P w K mg base CX0 2 a.f_rises a.d_rises ["low", "high"] (sp_rises a.c_Amount) := by
  refine T.F_rises.ok sc_rises (fun vs H Q E h => ?_) (fun cdv A outer s H vs Q E hr h => ?_)
  · obtain ⟨r, r', z, z', n, rfl, _⟩ := h
    rfl
  · obtain ⟨r, r', z, z', n, rfl, ⟨p, q, er, ap, aq⟩, ⟨p', q', er', ap', aq'⟩, l, l', hn, h1, h2, k⟩ := h
    refine ⟨_, (pss_one (ps_ret (pe_and (pe_cmpR (op_ownCmp (n := 1) (C := a.c_Amount) (K := K) rfl (fun _ _ => rfl) T.cLt.at_ T.cLt.fn ((ok_Amount_lt_ T).raw (b_Amount_lt_ T) .nil) (hr.mono (by decide)) pass0) (pe_ix (ix_tupK (K := K) rfl) (pv 0) (pe_glob (v := .int 0) rfl T.gFlow.choose_spec ⟨_, rfl⟩) (fun _ _ => rfl)) (pe_ix (ix_tupK (K := K) rfl) (pv 1) (pe_glob (v := .int 0) rfl T.gFlow.choose_spec ⟨_, rfl⟩) (fun _ _ => rfl)) (nomark _)) (pe_one (pe_cmpR (op_ownCmp (n := 1) (C := a.c_Amount) (K := K) rfl (fun _ _ => rfl) T.cLt.at_ T.cLt.fn ((ok_Amount_lt_ T).raw (b_Amount_lt_ T) .nil) (hr.mono (by decide)) pass0) (pe_ix (ix_tupK (K := K) rfl) (pv 0) (pe_glob (v := .int 1) rfl T.gDrop.choose_spec ⟨_, rfl⟩) (fun _ _ => rfl)) (pe_ix (ix_tupK (K := K) rfl) (pv 1) (pe_glob (v := .int 1) rfl T.gDrop.choose_spec ⟨_, rfl⟩) (fun _ _ => rfl)) (nomark _)))))), ?_⟩
    obtain ⟨d1, e1⟩ := id ap
    obtain ⟨d2, e2⟩ := id ap'
    obtain ⟨d3, e3⟩ := id aq
    obtain ⟨d4, e4⟩ := id aq'
    refine ⟨_, rfl, _, _, _, _, rfl, rfl, SqT.of er, at0, _, rfl, _, _, _, _, rfl, rfl, SqT.of er', at0, p, d1, _, _, rfl, e1, T.I.ty T.cl e2, Inst.nSelf, p, p', _, _, _, _, rfl, ap, ap', l.x.t.mono hn, l.x.b.mono hn, l'.x.t.mono hn, l'.x.b.mono hn, _, rfl, iteP (decide_eq_true h1) ?_⟩
    refine ⟨_, rfl, _, _, _, _, rfl, rfl, SqT.of er, at1, _, rfl, _, _, _, _, rfl, rfl, SqT.of er', at1, q, d3, _, _, rfl, e3, T.I.ty T.cl e4, Inst.nSelf, q, q', _, _, _, _, rfl, aq, aq', l.y.t.mono hn, l.y.b.mono hn, l'.y.t.mono hn, l'.y.b.mono hn, ?_⟩
    show Q (.bl (decide (z.2.1 * z'.2.2 < z'.2.1 * z.2.2))) H
    rw [decide_eq_true (show z.2.1 * z'.2.2 < z'.2.1 * z.2.2 from h2)]
    exact k
end
end K19

set_option Elab.async false
set_option linter.all false
set_option maxRecDepth 100000
set_option maxHeartbeats 4000000
set_option exponentiation.threshold 10000
namespace K19
open PySem L2 Lb
theorem leftB {C p : Addr} {f g : I4} {H : Hp} {v : V} {t b t' b' : Int} {Q : VK} (hp : AmAt C H p t b) (hv : IsP C H v t' b') (b1 : Bd 3000 t) (b2 : Bd 3000 b) (b3 : Bd 3000 t') (b4 : Bd 3000 b') (g0 : g t b t' b' ≠ 0)
    (k : ∀ H' q, Same H H' → AmAt C H' q (rdT (f t b t' b') (g t b t' b')) (rdB (f t b t' b') (g t b t' b')) → Q (.ref q) H') : rBin C (fun vs H Q E => sp_bin C f g (vs ++ []) H Q E) E0 (.ref p) v H Q :=
  let ⟨dx, e⟩ := hp
  ⟨p, dx, _, rfl, e, hv.bin, p, v, t, b, t', b', rfl, hp, hv, b1, b2, b3, b4, g0, k⟩
/-- an amount: its fraction -/
def AmQ (C : Addr) (H : Hp) (q : Addr) (x : Q2) : Prop := AmAt C H q x.1 x.2
theorem AmQ.same {C p : Addr} {H H' : Hp} {x : Q2} (h : AmQ C H p x) (s : Same H H') : AmQ C H' p x := AmAt.same h s
def sd (s : Nat) (z : Pt) : Q2 := if s = 0 then z.1 else z.2
/-- the points of a curve, as the program holds them -/
structure Crv (C : Addr) (H : Hp) (l : Addr) (zs : List Pt) : Prop where
  ex : ∃ rs : List Addr, H l = some (.lst (rs.map V.ref)) ∧ Paired (RowA C H) rs zs
theorem Crv.same {C l : Addr} {H H' : Hp} {zs : List Pt} (h : Crv C H l zs) (s : Same H H') : Crv C H' l zs :=
  let ⟨rs, e, p⟩ := h.ex
  ⟨rs, s _ _ e, Paired.imp p fun _ _ q => q.same s⟩
theorem Crv.at_ {C l : Addr} {H : Hp} {zs : List Pt} (h : Crv C H l zs) : ∃ xs, H l = some (.lst xs) ∧ xs.length = zs.length ∧ ∀ (i : Nat) z, zs[i]? = some z → ∃ r p q, atI xs (i : Int) = some (.ref r) ∧ H r = some (.tup [.ref p, .ref q]) ∧ AmQ C H p z.1 ∧ AmQ C H q z.2 := by
  obtain ⟨rs, e, p⟩ := h.ex
  refine ⟨_, e, by rw [List.length_map]; exact Paired.len p, fun i z hz => ?_⟩
  obtain ⟨r, hr, p', q, er, ap, aq⟩ := Paired.at_r p hz
  exact ⟨r, p', q, at_ref hr, er, ap, aq⟩
/-- part s of such a tuple -/
theorem sd_at {C : Addr} {H : Hp} {p q : Addr} {z : Pt} {s : Nat} (hs : s = 0 ∨ s = 1) (ap : AmQ C H p z.1) (aq : AmQ C H q z.2) : ∃ y, atI [V.ref p, V.ref q] (s : Int) = some (.ref y) ∧ AmQ C H y (sd s z) := by
  rcases hs with rfl | rfl
  · exact ⟨p, at0, ap⟩
  · exact ⟨q, at1, aq⟩
theorem sd_at' {C : Addr} {H : Hp} {p q : Addr} {z : Pt} {s : Nat} (hs : s = 0 ∨ s = 1) (ap : AmQ C H p z.1) (aq : AmQ C H q z.2) : ∃ y, atI [V.ref p, V.ref q] (1 - (s : Int)) = some (.ref y) ∧ AmQ C H y (sd (1 - s) z) := by
  rcases hs with rfl | rfl
  · exact ⟨q, at1, aq⟩
  · exact ⟨p, at0, ap⟩
structure PtN (n : Nat) (z : Pt) : Prop where
  x : Low n z.1
  y : Low n z.2
theorem PtN.sd {n s : Nat} {z : Pt} (h : PtN n z) : Low n (sd s z) := by
  unfold K19.sd
  split
  · exact h.x
  · exact h.y
/-- where the program finds the number x on side s -/
structure PieceAt (zs : List Pt) (s : Nat) (x : Q2) (i : Nat) : Prop where
  lt : i + 2 ≤ zs.length
  lo : i = 0 ∨ ∃ z, zs[i]? = some z ∧ val (sd s z) ≤ val x
  hi : i + 2 = zs.length ∨ ∃ z, zs[i + 1]? = some z ∧ val x < val (sd s z)
def sp_piece (C : Addr) : Sp := fun vs H Q _ => ∃ (l q : Addr) (s n : Nat) (zs : List Pt) (x : Q2), vs = [.ref l, .int s, .ref q] ∧ (s = 0 ∨ s = 1) ∧ Crv C H l zs ∧ (∀ z ∈ zs, PtN n z) ∧ n ≤ 3000 ∧ AmQ C H q x ∧ Low 3000 x ∧ 2 ≤ zs.length ∧ zs.length ≤ 200 ∧
  ∀ i : Nat, PieceAt zs s x i → Q (.int i) H
/-- the number on the other side -/
def onLine (s : Nat) (z z' : Pt) (x : Rat) : Rat := val (sd (1 - s) z) + (val (sd (1 - s) z') - val (sd (1 - s) z)) * ((x - val (sd s z)) / (val (sd s z') - val (sd s z)))
def sp_across (C : Addr) : Sp := fun vs H Q _ => ∃ (l q : Addr) (s n m : Nat) (zs : List Pt) (x : Q2), vs = [.ref l, .int s, .ref q] ∧ (s = 0 ∨ s = 1) ∧ Crv C H l zs ∧ (∀ z ∈ zs, PtN n z) ∧ AmQ C H q x ∧ Low m x ∧ m + 6 * n + 10 ≤ 3000 ∧ 2 ≤ zs.length ∧ zs.length ≤ 200 ∧
  (∀ (i : Nat) z z', zs[i]? = some z → zs[i + 1]? = some z' → val (sd s z) < val (sd s z')) ∧
  ∀ H' q' (i : Nat) z z' r, Same H H' → PieceAt zs s x i → zs[i]? = some z → zs[i + 1]? = some z' → AmQ C H' q' r → Low (m + 6 * n + 4) r → val r = onLine s z z' (val x) → Q (.ref q') H'
def ivals : L2.St → Nat → Int := fun σ i => match σ[i]? with
  | some (some (V.int y)) => y
  | _ => 0
section
variable {P : Program} {w : World} {K : PySem.W.Frag} {mg : Str → Option Value} {base : Heap} {a : Ad}
theorem ok_piece (T : Txt K mg a) : FnOk P w K mg base CX0 2 a.f_piece a.d_piece ["points", "side", "amount"] (sp_piece a.c_Amount) := by
  refine T.F_piece.ok sc_piece (fun vs H Q E h => ?_) (fun cdv A outer s H vs Q E hr h => ?_)
  · obtain ⟨l, q, s, n, zs, x, rfl, _⟩ := h
    rfl
  · obtain ⟨l, q, s, n, zs, x, rfl, hs, hc, hz, hn, hq, lx, l2, l200, k⟩ := h
    refine ⟨_, (pss_cons (ps_set (i := 3) sc_piece.nd rfl (by first | exact Or.inl rfl | exact Or.inr rfl) pe_int)
 (pss_cons (ps_set (i := 4) sc_piece.nd rfl (by first | exact Or.inl rfl | exact Or.inr rfl) (pe_op op_sub (pe_callB (call_lenK (K := K) rfl) (by rfl) T.b_len (by decide +kernel) (pa_cons (pv 0) pa_nil)) pe_int))
 (pss_cons (ps_while PassesOwn.never (pt_cmpR op_lt (pv 3) (pv 4) (nomark _)) (pss_cons (ps_set (i := 5) sc_piece.nd rfl (by first | exact Or.inl rfl | exact Or.inr rfl) (pe_op op_fdivW (pe_op op_add (pe_op op_add (pv 3) (pv 4)) pe_int) pe_int))
 (pss_one (ps_if (pt_cmpR (op_ownCmp (n := 1) (C := a.c_Amount) (K := K) rfl (fun _ _ => rfl) T.cLe.at_ T.cLe.fn ((ok_Amount_le_ T).raw (b_Amount_le_ T) .nil) (hr.mono (by decide)) pass0) (pe_ix (ix_tupK (K := K) rfl) (pe_ix (ix_listK (K := K) rfl) (pv 0) (pv 5) (fun _ _ => rfl)) (pv 1) (fun _ _ => rfl)) (pv 2) (nomark _)) (pss_one (ps_set (i := 3) sc_piece.nd rfl (by first | exact Or.inl rfl | exact Or.inr rfl) (pv 5))) (pss_one (ps_set (i := 4) sc_piece.nd rfl (by first | exact Or.inl rfl | exact Or.inr rfl) (pe_op op_sub (pv 5) pe_int)))))))
 (pss_one (ps_ret (pv 3)))))), ?_⟩
    obtain ⟨xs, el, lxs, atx⟩ := hc.at_
    refine ⟨_, rfl, _, _, rfl, .inl (SqL.of el), _, _, rfl, rfl, ?_⟩
    rw [lxs]
    refine while_by (fun σ H' => ∃ (i j : Nat) (u : Option V), σ = [some (.ref l), some (.int s), some (.ref q), some (.int i), some (.int j), u] ∧ H' = H ∧ i ≤ j ∧ j + 2 ≤ zs.length ∧ (i = 0 ∨ ∃ z, zs[i]? = some z ∧ val (sd s z) ≤ val x) ∧ (j + 2 = zs.length ∨ ∃ z, zs[j + 1]? = some z ∧ val x < val (sd s z)))
      (fun σ _ => (ivals σ 4 - ivals σ 3).toNat) ⟨0, zs.length - 2, none, by show [some (V.ref l), some (V.int (s : Int)), some (V.ref q), some (V.int 0), some (V.int ((zs.length : Int) - 2)), none] = _; rw [show ((zs.length : Nat) : Int) - 2 = ((zs.length - 2 : Nat) : Int) by omega]; rfl, rfl, by omega, by omega, .inl rfl, .inl (by omega)⟩ ?_
      (fun σ H Q Q' k ⟨v, e, v', e', i, j, e1, e2, b, e3, q⟩ => ⟨v, e, v', e', i, j, e1, e2, b, e3, k _ _ q⟩)
    rintro σ H' ⟨i, j, u, rfl, rfl, hij, hj, lo, hi⟩
    refine ⟨_, rfl, _, rfl, _, _, rfl, rfl, _, rfl, ite2 (fun h1 => ?_) (fun h1 => ?_)⟩
    · have h1 : (i : Int) < j := by simpa using h1
      have em : ((i : Int) + j + 1) / 2 = (((i + j + 1) / 2 : Nat) : Int) := by omega
      obtain ⟨z, hz'⟩ : ∃ z, zs[(i + j + 1) / 2]? = some z := ⟨_, List.getElem?_eq_getElem (by omega)⟩
      have lz := hz z (List.mem_of_getElem? hz')
      obtain ⟨r, p', q', ar, er, ap, aq⟩ := atx _ z hz'
      obtain ⟨y, ay, aY⟩ := sd_at hs ap aq
      obtain ⟨d1, e1⟩ := id aY
      obtain ⟨d2, e2⟩ := id hq
      have ly : Low 3000 (sd s z) := (lz.sd (s := s)).mono hn
      refine ⟨_, rfl, _, rfl, _, _, rfl, rfl, _, _, rfl, rfl, _, _, rfl, rfl, (show Bd 2 2 from by unfold Bd; decide).cd (by decide) (by decide), ?_⟩
      refine ⟨_, rfl, _, rfl, _, _, _, _, rfl, rfl, SqL.of el, em ▸ ar, _, rfl, _, _, _, _, rfl, rfl, SqT.of er, ay, _, rfl, y, d1, _, _, rfl, e1, T.I.ty T.cl e2, Inst.nSelf, y, q, _, _, _, _, rfl, aY, hq, ly.t.mono (by decide), ly.b.mono (by decide), lx.t.mono (by decide), lx.b.mono (by decide), _, rfl, ite2 (fun h2 => ?_) (fun h2 => ?_)⟩
      · have h2 := (val_le ly.pos lx.pos).mp (of_decide_eq_true h2)
        refine ⟨_, rfl, ⟨(i + j + 1) / 2, j, _, by show [some (V.ref l), some (V.int (s : Int)), some (V.ref q), some (V.int (((i : Int) + j + 1) / 2)), some (V.int (j : Int)), some (V.int (((i : Int) + j + 1) / 2))] = _; rw [em], rfl, by omega, hj, .inr ⟨z, hz', h2⟩, hi⟩, ?_⟩
        show ((j : Int) - (((i : Int) + j + 1) / 2)).toNat < ((j : Int) - (i : Int)).toNat
        omega
      · have h2 : ¬ val (sd s z) ≤ val x := fun q => h2 (decide_eq_true ((val_le ly.pos lx.pos).mpr q))
        have h2 := Rat.not_le.mp h2
        refine ⟨_, rfl, _, _, rfl, rfl, ⟨i, (i + j + 1) / 2 - 1, _, by show [some (V.ref l), some (V.int (s : Int)), some (V.ref q), some (V.int (i : Int)), some (V.int ((((i : Int) + j + 1) / 2) - 1)), some (V.int (((i : Int) + j + 1) / 2))] = _; rw [show ((((i : Int) + j + 1) / 2) - 1) = (((i + j + 1) / 2 - 1 : Nat) : Int) by omega], rfl, by omega, by omega, lo, .inr ⟨z, by rw [show (i + j + 1) / 2 - 1 + 1 = (i + j + 1) / 2 by omega]; exact hz', h2⟩⟩, ?_⟩
        show (((((i : Int) + j + 1) / 2) - 1) - (i : Int)).toNat < ((j : Int) - (i : Int)).toNat
        omega
    · have h1 : ¬ (i : Int) < j := by simpa using h1
      have e : i = j := by omega
      subst e
      exact ⟨_, rfl, k i ⟨hj, lo, hi⟩⟩
end
end K19

set_option Elab.async false
set_option linter.all false
set_option maxRecDepth 100000
set_option maxHeartbeats 4000000
set_option exponentiation.threshold 10000
namespace K19
open PySem L2 Lb
theorem sub_low {n m k : Nat} {x y : Q2} (hx : Low n x) (hy : Low m y) (h : n + m + 1 ≤ k) : Low k (rd (x.1 * y.2 - y.1 * x.2) (x.2 * y.2)) :=
  rd_low (mul_pos_ne hx.pos hy.pos) (((hx.t.mul hy.b).sub ((hy.t.mul hx.b).mono (by omega))).mono h) ((hx.b.mul hy.b).mono (by omega))
theorem add_low {n m k : Nat} {x y : Q2} (hx : Low n x) (hy : Low m y) (h : n + m + 1 ≤ k) : Low k (rd (x.1 * y.2 + y.1 * x.2) (x.2 * y.2)) :=
  rd_low (mul_pos_ne hx.pos hy.pos) (((hx.t.mul hy.b).add ((hy.t.mul hx.b).mono (by omega))).mono h) ((hx.b.mul hy.b).mono (by omega))
theorem mul_low {n m k : Nat} {x y : Q2} (hx : Low n x) (hy : Low m y) (h : n + m ≤ k) : Low k (rd (x.1 * y.1) (x.2 * y.2)) :=
  rd_low (mul_pos_ne hx.pos hy.pos) ((hx.t.mul hy.t).mono h) ((hx.b.mul hy.b).mono h)
theorem div_low {n m k : Nat} {x y : Q2} (hx : Low n x) (hy : Low m y) (h0 : y.1 ≠ 0) (h : n + m ≤ k) : Low k (rd (x.1 * y.2) (x.2 * y.1)) :=
  rd_low (Int.mul_ne_zero (by have := hx.pos; omega) h0) ((hx.t.mul hy.b).mono h) ((hx.b.mul hy.t).mono (by omega))
section
variable {P : Program} {w : World} {K : PySem.W.Frag} {mg : Str → Option Value} {base : Heap} {a : Ad}
theorem ok_across (T : Txt K mg a) : FnOk P w K mg base CX0 6 a.f_across a.d_across ["points", "side", "amount"] (sp_across a.c_Amount) := by
  refine T.F_across.ok sc_across (fun vs H Q E h => ?_) (fun cdv A outer s H vs Q E hr h => ?_)
  · obtain ⟨l, q, s, n, m, zs, x, rfl, _⟩ := h
    rfl
  · obtain ⟨l, q, s, n, m, zs, x, rfl, hs, hc, hz, hq, lx, hnm, l2, l200, up, k⟩ := h
    refine ⟨_, (pss_cons (ps_set (i := 3) sc_across.nd rfl (by first | exact Or.inl rfl | exact Or.inr rfl) (pe_call (ok_piece T) (hr.mono (by decide)) (by rfl) T.m_piece T.F_piece.kp (b_piece T) .nil pass0 (pa_cons (pv 0) (pa_cons (pv 1) (pa_cons (pv 2) pa_nil)))))
 (pss_cons (ps_set (i := 4) sc_across.nd rfl (by first | exact Or.inl rfl | exact Or.inr rfl) (pe_ix (ix_listK (K := K) rfl) (pv 0) (pv 3) (fun _ _ => rfl)))
 (pss_cons (ps_set (i := 5) sc_across.nd rfl (by first | exact Or.inl rfl | exact Or.inr rfl) (pe_ix (ix_listK (K := K) rfl) (pv 0) (pe_op op_add (pv 3) pe_int) (fun _ _ => rfl)))
 (pss_cons (ps_set (i := 6) sc_across.nd rfl (by first | exact Or.inl rfl | exact Or.inr rfl) (pe_meth (pe_op (op_ownBin (K := K) (E := E0) rfl T.oSub ((ok_Amount_sub_ T).raw (b_Amount_sub_ T) .nil) (hr.mono (by decide))) (pv 2) (pe_ix (ix_tupK (K := K) rfl) (pv 4) (pv 1) (fun _ _ => rfl))) T.cl T.mOver (ok_Amountover T) (hr.mono (by decide)) (b_Amountover T) .nil pass0 (pa_cons (pe_op (op_ownBin (K := K) (E := E0) rfl T.oSub ((ok_Amount_sub_ T).raw (b_Amount_sub_ T) .nil) (hr.mono (by decide))) (pe_ix (ix_tupK (K := K) rfl) (pv 5) (pv 1) (fun _ _ => rfl)) (pe_ix (ix_tupK (K := K) rfl) (pv 4) (pv 1) (fun _ _ => rfl))) pa_nil)))
 (pss_one (ps_ret (pe_op (op_ownBin (K := K) (E := E0) rfl T.oAdd ((ok_Amount_add_ T).raw (b_Amount_add_ T) .nil) (hr.mono (by decide))) (pe_ix (ix_tupK (K := K) rfl) (pv 4) (pe_op op_sub pe_int (pv 1)) (fun _ _ => rfl)) (pe_op (op_ownBin (K := K) (E := E0) rfl T.oMul ((ok_Amount_mul_ T).raw (b_Amount_mul_ T) .nil) (hr.mono (by decide))) (pe_op (op_ownBin (K := K) (E := E0) rfl T.oSub ((ok_Amount_sub_ T).raw (b_Amount_sub_ T) .nil) (hr.mono (by decide))) (pe_ix (ix_tupK (K := K) rfl) (pv 5) (pe_op op_sub pe_int (pv 1)) (fun _ _ => rfl)) (pe_ix (ix_tupK (K := K) rfl) (pv 4) (pe_op op_sub pe_int (pv 1)) (fun _ _ => rfl))) (pv 6))))))))), ?_⟩
    obtain ⟨xs, el, lxs, atx⟩ := hc.at_
    refine ⟨_, rfl, _, rfl, _, rfl, l, q, s, n, zs, x, rfl, hs, hc, hz, by omega, hq, lx.mono (by omega), l2, l200, fun i pc => ?_⟩
    obtain ⟨z, hzi⟩ : ∃ z, zs[i]? = some z := ⟨_, List.getElem?_eq_getElem (by have := pc.lt; omega)⟩
    obtain ⟨z', hzi'⟩ : ∃ z, zs[i + 1]? = some z := ⟨_, List.getElem?_eq_getElem (by have := pc.lt; omega)⟩
    have pz := hz z (List.mem_of_getElem? hzi)
    have pz' := hz z' (List.mem_of_getElem? hzi')
    obtain ⟨r, p1, p2, ar, er, ap, aq⟩ := atx i z hzi
    obtain ⟨r', p1', p2', ar', er', ap', aq'⟩ := atx (i + 1) z' hzi'
    refine ⟨_, rfl, _, rfl, _, _, _, _, rfl, rfl, SqL.of el, ar, ?_⟩
    refine ⟨_, rfl, _, rfl, _, _, rfl, rfl, _, _, _, _, rfl, rfl, SqL.of el, ar', ?_⟩
    obtain ⟨y, ay, aY⟩ := sd_at hs ap aq
    obtain ⟨y', ay', aY'⟩ := sd_at hs ap' aq'
    obtain ⟨u, au, aU⟩ := sd_at' hs ap aq
    obtain ⟨u', au', aU'⟩ := sd_at' hs ap' aq'
    have ly : Low n (sd s z) := pz.sd
    have ly' : Low n (sd s z') := pz'.sd
    have lu : Low n (sd (1 - s) z) := pz.sd
    have lu' : Low n (sd (1 - s) z') := pz'.sd
    have lt := up i z z' hzi hzi'
    have b3 : ∀ {j : Nat} {v : Q2}, Low j v → j ≤ 3000 → Bd 3000 v.1 ∧ Bd 3000 v.2 := fun h k => ⟨h.t.mono k, h.b.mono k⟩
    -- amount - low[side]
    refine ⟨_, rfl, _, rfl, _, rfl, _, _, _, _, rfl, rfl, SqT.of er, ay, ?_⟩
    refine leftB hq (.inr ⟨y, rfl, aY⟩) (b3 lx (by omega)).1 (b3 lx (by omega)).2 (b3 ly (by omega)).1 (b3 ly (by omega)).2 (mul_pos_ne lx.pos ly.pos) fun H1 q1 s1 a1 => ?_
    have l1 : Low (m + n + 1) (rd (x.1 * (sd s z).2 - (sd s z).1 * x.2) (x.2 * (sd s z).2)) := sub_low lx ly (Nat.le_refl _)
    have v1 := val_sub lx.pos ly.pos
    have a1 : AmQ a.c_Amount H1 q1 (rd (x.1 * (sd s z).2 - (sd s z).1 * x.2) (x.2 * (sd s z).2)) := a1
    generalize rd (x.1 * (sd s z).2 - (sd s z).1 * x.2) (x.2 * (sd s z).2) = w1 at *
    obtain ⟨d1, e1⟩ := id a1
    refine ⟨q1, d1, _, rfl, e1, am_no _ _ (by decide +kernel) (by decide +kernel), ?_⟩
    -- high[side] - low[side]
    refine ⟨_, rfl, _, rfl, _, _, _, _, rfl, rfl, SqT.of (s1 _ _ er'), ay', _, rfl, _, rfl, _, _, _, _, rfl, rfl, SqT.of (s1 _ _ er), ay, ?_⟩
    refine leftB (aY'.same s1) (.inr ⟨y, rfl, aY.same s1⟩) (b3 ly' (by omega)).1 (b3 ly' (by omega)).2 (b3 ly (by omega)).1 (b3 ly (by omega)).2 (mul_pos_ne ly'.pos ly.pos) fun H2 q2 s2 a2 => ?_
    have l2' : Low (2 * n + 1) (rd ((sd s z').1 * (sd s z).2 - (sd s z).1 * (sd s z').2) ((sd s z').2 * (sd s z).2)) := sub_low ly' ly (by omega)
    have v2 := val_sub ly'.pos ly.pos
    have a2 : AmQ a.c_Amount H2 q2 (rd ((sd s z').1 * (sd s z).2 - (sd s z).1 * (sd s z').2) ((sd s z').2 * (sd s z).2)) := a2
    generalize rd ((sd s z').1 * (sd s z).2 - (sd s z).1 * (sd s z').2) ((sd s z').2 * (sd s z).2) = w2 at *
    have n2 : w2.1 ≠ 0 := fun q => by
      have := (val_eq0 l2'.pos).mp q
      grind
    have S2 := s1.trans s2
    refine ⟨q1, _, w1.1, w1.2, w2.1, w2.2, rfl, a1.same s2, .inr ⟨q2, rfl, a2⟩, (b3 l1 (by omega)).1, (b3 l1 (by omega)).2, (b3 l2' (by omega)).1, (b3 l2' (by omega)).2, Int.mul_ne_zero (by have := l1.pos; omega) n2, fun H3 q3 s3 a3 => ?_⟩
    have l3 : Low (m + 3 * n + 2) (rd (w1.1 * w2.2) (w1.2 * w2.1)) := div_low l1 l2' n2 (by omega)
    have v3 := val_div l1.pos l2'.pos n2
    have a3 : AmQ a.c_Amount H3 q3 (rd (w1.1 * w2.2) (w1.2 * w2.1)) := a3
    generalize rd (w1.1 * w2.2) (w1.2 * w2.1) = w3 at *
    have S3 := S2.trans s3
    -- low[1 - side] + ..
    refine ⟨_, rfl, _, rfl, _, _, rfl, rfl, _, _, _, _, rfl, rfl, SqT.of (S3 _ _ er), au, ?_⟩
    refine ⟨_, rfl, _, rfl, _, _, rfl, rfl, _, _, _, _, rfl, rfl, SqT.of (S3 _ _ er'), au', _, rfl, _, rfl, _, _, rfl, rfl, _, _, _, _, rfl, rfl, SqT.of (S3 _ _ er), au, ?_⟩
    refine leftB (aU'.same S3) (.inr ⟨u, rfl, aU.same S3⟩) (b3 lu' (by omega)).1 (b3 lu' (by omega)).2 (b3 lu (by omega)).1 (b3 lu (by omega)).2 (mul_pos_ne lu'.pos lu.pos) fun H4 q4 s4 a4 => ?_
    have l4 : Low (2 * n + 1) (rd ((sd (1 - s) z').1 * (sd (1 - s) z).2 - (sd (1 - s) z).1 * (sd (1 - s) z').2) ((sd (1 - s) z').2 * (sd (1 - s) z).2)) := sub_low lu' lu (by omega)
    have v4 := val_sub lu'.pos lu.pos
    have a4 : AmQ a.c_Amount H4 q4 (rd ((sd (1 - s) z').1 * (sd (1 - s) z).2 - (sd (1 - s) z).1 * (sd (1 - s) z').2) ((sd (1 - s) z').2 * (sd (1 - s) z).2)) := a4
    generalize rd ((sd (1 - s) z').1 * (sd (1 - s) z).2 - (sd (1 - s) z).1 * (sd (1 - s) z').2) ((sd (1 - s) z').2 * (sd (1 - s) z).2) = w4 at *
    refine ⟨_, rfl, leftB a4 (.inr ⟨q3, rfl, a3.same s4⟩) (b3 l4 (by omega)).1 (b3 l4 (by omega)).2 (b3 l3 (by omega)).1 (b3 l3 (by omega)).2 (mul_pos_ne l4.pos l3.pos) fun H5 q5 s5 a5 => ?_⟩
    have l5 : Low (m + 5 * n + 3) (rd (w4.1 * w3.1) (w4.2 * w3.2)) := mul_low l4 l3 (by omega)
    have v5 := val_mul l4.pos l3.pos
    have a5 : AmQ a.c_Amount H5 q5 (rd (w4.1 * w3.1) (w4.2 * w3.2)) := a5
    generalize rd (w4.1 * w3.1) (w4.2 * w3.2) = w5 at *
    have S5 := (S3.trans s4).trans s5
    refine leftB (aU.same S5) (.inr ⟨q5, rfl, a5⟩) (b3 lu (by omega)).1 (b3 lu (by omega)).2 (b3 l5 (by omega)).1 (b3 l5 (by omega)).2 (mul_pos_ne lu.pos l5.pos) fun H6 q6 s6 a6 => ?_
    have l6 : Low (m + 6 * n + 4) (rd ((sd (1 - s) z).1 * w5.2 + w5.1 * (sd (1 - s) z).2) ((sd (1 - s) z).2 * w5.2)) := add_low lu l5 (by omega)
    have v6 := val_add lu.pos l5.pos
    refine k _ q6 i z z' (rd ((sd (1 - s) z).1 * w5.2 + w5.1 * (sd (1 - s) z).2) ((sd (1 - s) z).2 * w5.2)) (S5.trans s6) pc hzi hzi' a6 l6 ?_
    show val (rd _ _) = _
    unfold onLine
    rw [← v4, ← v1, ← v2, ← v3, ← v5]
    exact v6
end
end K19

set_option Elab.async false
set_option linter.all false
set_option maxRecDepth 100000
set_option maxHeartbeats 4000000
set_option exponentiation.threshold 10000
namespace K19
open PySem L2 Lb
def isNeg (z : Pt) : Bool := decide (z.1.1 < 0)
def isPos (z : Pt) : Bool := decide (0 < z.1.1)
def org : Pt := ((0, 1), (0, 1))
/-- the points with (0, 0) among them -/
def withO (zs : List Pt) : List Pt := zs.filter isNeg ++ (org :: zs.filter isPos)
def sp_with_origin (C : Addr) : Sp := fun vs H Q _ => ∃ (l : Addr) (zs : List Pt), vs = [.ref l] ∧ Crv C H l zs ∧ zs.length ≤ 100 ∧ ∀ H' l', Same H H' → H l' = none → Crv C H' l' (withO zs) → Q (.ref l') H'
theorem filter_snoc {α : Type} (f : α → Bool) (l : List α) (x : α) : (l ++ [x]).filter f = if f x = true then l.filter f ++ [x] else l.filter f := by
  rw [List.filter_append]
  by_cases h : f x = true
  · simp [h]
  · simp [h]
theorem sg_neg {t : Int} : decide (sg t < 0) = decide (t < 0) := by
  refine decide_eq_decide.mpr ?_
  unfold sg
  split
  · omega
  · split <;> omega
theorem sg_pos {t : Int} : decide (sg t > 0) = decide (0 < t) := by
  refine decide_eq_decide.mpr ?_
  unfold sg
  split
  · omega
  · split <;> omega
theorem paired_append {α β : Type} {R : α → β → Prop} : ∀ {as cs : List α} {bs ds : List β}, Paired R as bs → Paired R cs ds → Paired R (as ++ cs) (bs ++ ds)
  | [], _, [], _, .nil, h => h
  | _ :: _, _, _ :: _, _, .cons h1 h2, h => .cons h1 (paired_append h2 h)
theorem _root_.L2.Same.free' {H H' : Hp} {b : Addr} (s : Same H H') (h : H' b = none) : H b = none := by
  cases z : H b with
  | none => rfl
  | some o =>
    rw [s b o z] at h
    cases h
section
variable {P : Program} {w : World} {K : PySem.W.Frag} {mg : Str → Option Value} {base : Heap} {a : Ad}
theorem ok_with_origin (T : Txt K mg a) : FnOk P w K mg base CX0 4 a.f_with_origin a.d_with_origin ["rows"] (sp_with_origin a.c_Amount) := by
  refine T.F_with_origin.ok sc_with_origin (fun vs H Q E h => ?_) (fun cdv A outer s H vs Q E hr h => ?_)
  · obtain ⟨l, zs, rfl, _⟩ := h
    rfl
  · obtain ⟨l, zs, rfl, hc, hn, k⟩ := h
    refine ⟨_, (pss_cons (ps_setLc (i := 1) (own := [("row", 2)]) rfl sc_with_origin.nd rfl rfl (sw_true rfl rfl rfl (by decide +kernel)) (pi_listK (K := K) rfl (pv 0)) (blkOk_by (own := [("row", 2)]) (N := ["rows", "below", "row", "above"]) (sc := defScope s_with_origin) (by decide +kernel)) (fun _ _ _ _ _ => (pg_name (i := 2) sc_with_origin.nd rfl (by first | exact Or.inl rfl | exact Or.inr rfl))) (fun _ _ _ _ _ => pts_one (pt_cmpR op_lt (pe_prop (pe_ix (ix_tupK (K := K) rfl) (pv 2) (pe_glob (v := .int 0) rfl T.gFlow.choose_spec ⟨_, rfl⟩) (fun _ _ => rfl)) T.cl T.p_sign (ok_Amountsign T) (hr.mono (by decide)) (b_Amountsign T) .nil pass0 rfl) pe_int (nomark _))) (fun _ _ _ _ _ => (pv 2)))
 (pss_cons (ps_setLc (i := 3) (own := [("row", 2)]) rfl sc_with_origin.nd rfl rfl (sw_true rfl rfl rfl (by decide +kernel)) (pi_listK (K := K) rfl (pv 0)) (blkOk_by (own := [("row", 2)]) (N := ["rows", "below", "row", "above"]) (sc := defScope s_with_origin) (by decide +kernel)) (fun _ _ _ _ _ => (pg_name (i := 2) sc_with_origin.nd rfl (by first | exact Or.inl rfl | exact Or.inr rfl))) (fun _ _ _ _ _ => pts_one (pt_cmpR op_gt (pe_prop (pe_ix (ix_tupK (K := K) rfl) (pv 2) (pe_glob (v := .int 0) rfl T.gFlow.choose_spec ⟨_, rfl⟩) (fun _ _ => rfl)) T.cl T.p_sign (ok_Amountsign T) (hr.mono (by decide)) (b_Amountsign T) .nil pass0 rfl) pe_int (nomark _))) (fun _ _ _ _ _ => (pv 2)))
 (pss_one (ps_ret (pe_lst (StX.pa_star (pv 1) (pa_cons (pe_tup (pa_cons (pe_make T.mkA (ok_Amount_init_ T) (hr.mono (by decide)) (by rfl) T.mA (b1_Amount_init_ T).choose_spec.2 (b1_Amount_init_ T).choose_spec.1 pass0 (pa_cons pe_int pa_nil)) (pa_cons (pe_make T.mkA (ok_Amount_init_ T) (hr.mono (by decide)) (by rfl) T.mA (b1_Amount_init_ T).choose_spec.2 (b1_Amount_init_ T).choose_spec.1 pass0 (pa_cons pe_int pa_nil)) pa_nil))) (StX.pa_star (pv 3) pa_nil)))))))), ?_⟩
    obtain ⟨rs, el, pr⟩ := hc.ex
    have lrs : rs.length = zs.length := Paired.len pr
    refine ⟨_, rfl, l, rfl, ⟨_, SqL.of el⟩, fun D hD => ?_⟩
    refine lc_list (K := K) (a := l) (xs := rs.map V.ref) (fun i H' => Same H H' ∧ ∃ bs : List Addr, H' D = some (.lst (bs.map V.ref)) ∧ Paired (RowA a.c_Amount H) bs ((zs.take i).filter isNeg)) ⟨Lb.Same.upd hD, [], upd_same, .nil⟩ (fun i H' _ b => SqL.of (b.1 _ _ el)) ?_ ?_
    · rintro i v H' hi ⟨s', bs, eD, pb⟩
      obtain ⟨r, rfl, hr'⟩ := ref_at hi
      obtain ⟨z, hz, pz⟩ := Paired.at_ pr hr'
      obtain ⟨p, q, er, ap, aq⟩ := id (pz.same s')
      obtain ⟨dp, ep⟩ := id ap
      refine ⟨rfl, ?_⟩
      refine ⟨_, rfl, _, _, _, _, rfl, rfl, SqT.of er, at0, p, dp, _, rfl, ep, p, _, _, rfl, ap, _, _, rfl, rfl, _, rfl, ?_⟩
      rw [← take_snoc hz, filter_snoc]
      refine ite2 (fun h => ?_) (fun h => ?_)
      · have h : isNeg z = true := by
          show decide (z.1.1 < 0) = true
          rw [← sg_neg]
          exact h
        rw [if_pos h]
        refine ⟨_, rfl, bs.map V.ref, eD, ?_, Lb.Same.updl s' hD, bs ++ [r], by rw [upd_same, List.map_append]; rfl, paired_snoc pb pz⟩
        have h1 := Paired.len pb
        have h2 := List.length_filter_le isNeg (zs.take i)
        rw [List.length_take] at h2
        rw [List.length_map]
        exact szlt (by omega)
      · have h : ¬ isNeg z = true := by
          show ¬ decide (z.1.1 < 0) = true
          rw [← sg_neg]
          exact h
        rw [if_neg h]
        exact ⟨s', bs, eD, pb⟩
    rintro H1 ⟨s1, bs, eD, pb⟩
    rw [show (rs.map V.ref).length = zs.length by rw [List.length_map, lrs], List.take_length] at pb
    have el := s1 _ _ el
    have pr := Paired.imp pr fun _ _ h => RowA.same h s1
    refine ⟨_, rfl, l, rfl, ⟨_, SqL.of el⟩, fun D2 hD2 => ?_⟩
    refine lc_list (K := K) (a := l) (xs := rs.map V.ref) (fun i H' => Same H1 H' ∧ ∃ cs : List Addr, H' D2 = some (.lst (cs.map V.ref)) ∧ Paired (RowA a.c_Amount H1) cs ((zs.take i).filter isPos)) ⟨Lb.Same.upd hD2, [], upd_same, .nil⟩ (fun i H' _ b => SqL.of (b.1 _ _ el)) ?_ ?_
    · rintro i v H' hi ⟨s', cs, eC, pc⟩
      obtain ⟨r, rfl, hr'⟩ := ref_at hi
      obtain ⟨z, hz, pz⟩ := Paired.at_ pr hr'
      obtain ⟨p, q, er, ap, aq⟩ := id (pz.same s')
      obtain ⟨dp, ep⟩ := id ap
      refine ⟨rfl, ?_⟩
      refine ⟨_, rfl, _, _, _, _, rfl, rfl, SqT.of er, at0, p, dp, _, rfl, ep, p, _, _, rfl, ap, _, _, rfl, rfl, _, rfl, ?_⟩
      rw [← take_snoc hz, filter_snoc]
      refine ite2 (fun h => ?_) (fun h => ?_)
      · have h : isPos z = true := by
          show decide (0 < z.1.1) = true
          rw [← sg_pos]
          exact h
        rw [if_pos h]
        refine ⟨_, rfl, cs.map V.ref, eC, ?_, Lb.Same.updl s' hD2, cs ++ [r], by rw [upd_same, List.map_append]; rfl, paired_snoc pc pz⟩
        have h1 := Paired.len pc
        have h2 := List.length_filter_le isPos (zs.take i)
        rw [List.length_take] at h2
        rw [List.length_map]
        exact szlt (by omega)
      · have h : ¬ isPos z = true := by
          show ¬ decide (0 < z.1.1) = true
          rw [← sg_pos]
          exact h
        rw [if_neg h]
        exact ⟨s', cs, eC, pc⟩
    rintro H2 ⟨s2, cs, eC, pc⟩
    rw [show (rs.map V.ref).length = zs.length by rw [List.length_map, lrs], List.take_length] at pc
    have eD := s2 _ _ eD
    refine ⟨_, rfl, D, _, rfl, .inr (SqL.of eD), ?_⟩
    refine fun x dx hx hdx ne => ⟨x, dx, 0, 1, rfl, by decide, by show 0 < _; exact Nat.pow_pos (by decide), bd_one, upd_same, fun H3 kp e => ⟨rfl, ?_⟩⟩
    obtain ⟨s3, a3⟩ := made_am hx hdx ne kp e
    refine fun x' dx' hx' hdx' ne' => ⟨x', dx', 0, 1, rfl, by decide, by show 0 < _; exact Nat.pow_pos (by decide), bd_one, upd_same, fun H4 kp' e' => ⟨rfl, ?_⟩⟩
    obtain ⟨s4, a4⟩ := made_am hx' hdx' ne' kp' e'
    rw [rdT_one, rdB_one] at a3 a4
    refine ⟨sz, fun t ht => ?_⟩
    have st := Lb.Same.upd (o := .tup [V.ref x, V.ref x']) ht
    have S2 := (s3.trans s4).trans st
    refine ⟨_, rfl, D2, _, rfl, .inr (SqL.of (S2 _ _ eC)), ?_, fun l' hl' => ?_⟩
    · have h1 := Paired.len pb
      have h2 := Paired.len pc
      have h3 := List.length_filter_le isNeg zs
      have h4 := List.length_filter_le isPos zs
      simp only [List.length_append, List.length_map, List.length_cons, List.length_nil]
      exact szle (by omega)
    · have sl := Lb.Same.upd (o := .lst (bs.map V.ref ++ V.ref t :: (cs.map V.ref ++ []))) hl'
      refine k _ l' (((s1.trans s2).trans S2).trans sl) (((s1.trans s2).trans S2).free' hl') ⟨bs ++ t :: cs, ?_, ?_⟩
      · rw [upd_same]
        simp
      · have S := S2.trans sl
        refine paired_append (Paired.imp pb fun _ _ h => RowA.same h ((s1.trans s2).trans S)) (.cons ⟨x, x', ?_, ?_, ?_⟩ (Paired.imp pc fun _ _ h => RowA.same h (s2.trans S)))
        · exact sl _ _ upd_same
        · exact ((a3.same s4).same st).same sl
        · exact (a4.same st).same sl
end
end K19

set_option Elab.async false
set_option linter.all false
set_option maxRecDepth 100000
set_option maxHeartbeats 4000000
set_option exponentiation.threshold 10000
namespace K19
open PySem L2 Lb
/-- points that may be passed -/
structure Pts (n : Nat) (zs : List Pt) : Prop where
  l : ∀ z ∈ zs, PtL n z
  n : n ≤ 3000
  up : ∀ (i : Nat) z z', zs[i]? = some z → zs[i + 1]? = some z' → ltQ z.1 z'.1 ∧ ltQ z.2 z'.2
  some_ : ∃ z ∈ zs, z.1.1 ≠ 0
  most : zs.length ≤ 80
def sp_checkedL (K : PySem.W.Frag) (C : Addr) : Sp := fun vs H Q _ => ∃ (l : Addr) (ws : List V) (zs : List Pt) (n : Nat), vs = [.ref l] ∧ H l = some (.lst ws) ∧ Paired (PtP C H) ws zs ∧ Pts n zs ∧
  ∀ H' l', Same H H' → Crv C H' l' zs → Q (.ref l') H'
theorem kit_lt {K : PySem.W.Frag} {T : String} (h : T = "list" ∨ T = "tuple") : PySem.W.kitAny K (.type T) [.type "list", .type "tuple"] = some true := by
  rcases h with rfl | rfl
  · unfold PySem.W.kitAny
    rw [show PySem.W.kitOne K (.type "list") (.type "list") = some true from kit_ty (by decide +kernel)]
  · unfold PySem.W.kitAny
    rw [show PySem.W.kitOne K (.type "tuple") (.type "list") = some false from kit_ty (by decide +kernel)]
    show PySem.W.kitAny K (.type "tuple") [.type "tuple"] = some true
    unfold PySem.W.kitAny
    rw [show PySem.W.kitOne K (.type "tuple") (.type "tuple") = some true from kit_ty (by decide +kernel)]
theorem atI_last {α : Type} {xs : List α} {j : Nat} (h : xs.length = j + 1) : atI xs (-1) = xs[j]? := by
  unfold atI ixN
  rw [if_neg (by decide), if_pos (by omega)]
  show xs[(_ : Int).toNat]? = _
  congr 1
  omega
theorem all_org {zs : List Pt} (h : ∃ z ∈ zs, z.1.1 ≠ 0) : ((zs.map fun z => decide (z.1.1 = 0)).all id) = false := by
  obtain ⟨z, hz, h0⟩ := h
  rw [List.all_eq_false]
  exact ⟨_, List.mem_map.mpr ⟨z, hz, rfl⟩, by simp [h0]⟩
section
variable {P : Program} {w : World} {K : PySem.W.Frag} {mg : Str → Option Value} {base : Heap} {a : Ad}
theorem ok_checkedL (T : Txt K mg a) : FnOk P w K mg base CX0 7 a.f_checked a.d_checked ["points"] (sp_checkedL K a.c_Amount) := by
  refine T.F_checked.ok sc_checked (fun vs H Q E h => ?_) (fun cdv A outer s H vs Q E hr h => ?_)
  · obtain ⟨l, ws, zs, n, rfl, _⟩ := h
    rfl
  · obtain ⟨l, ws, zs, n, rfl, el, pw, ps, k⟩ := h
    refine ⟨_, (pss_cons (ps_if (PW.pt (pw_or (pt_not (pt_val (pe_callB (call_isiT (X := _)) (by rfl) T.b_isinstance (by decide +kernel) (pa_cons (pv 0) (pa_cons (pe_tup (pa_cons (pe_bltn (v := .ty "list") (by rfl) T.b_list (by decide +kernel) rfl) (pa_cons (pe_bltn (v := .ty "tuple") (by rfl) T.b_tuple (by decide +kernel) rfl) pa_nil))) pa_nil))))) (pw_or1 (pt_val (pe_callB (cr_allK (K := K) rfl rfl) (by rfl) T.b_all (by decide +kernel) (pa_cons (pe_lc (own := [("point", 1)]) (by rfl) sc_checked.nd (pi_listK (K := K) rfl (pv 0)) (blkOk_by (own := [("point", 1)]) (N := ["points", "point", "rows", "position", "row"]) (sc := defScope s_checked) (by decide +kernel)) (fun _ _ _ _ _ => (pg_name (i := 1) sc_checked.nd rfl (by first | exact Or.inl rfl | exact Or.inr rfl))) (fun _ _ _ _ _ => pts_nil) (fun _ _ _ _ _ => (pe_call (ok_is_origin T) (hr.mono (by decide)) (by rfl) T.m_is_origin T.F_is_origin.kp (b_is_origin T) .nil pass0 (pa_cons (pv 1) pa_nil)))) pa_nil)))))) (pss_one ps_never) pss_nil)
 (pss_cons (ps_set (i := 2) sc_checked.nd rfl (by first | exact Or.inl rfl | exact Or.inr rfl) (pe_lst pa_nil))
 (pss_cons (ps_for PassesOwn.never rfl (pi_enum (by rfl) T.b_enumerate (pa_cons (pv 0) pa_nil)) (pg_tupK (K := K) (n := 2) rfl rfl (pgs_cons (pg_name (i := 3) sc_checked.nd rfl (by first | exact Or.inl rfl | exact Or.inr rfl)) (pgs_cons (pg_name (i := 1) sc_checked.nd rfl (by first | exact Or.inl rfl | exact Or.inr rfl)) pgs_nil))) (pss_cons (ps_if (pt_not (pt_val (pe_call (ok_is_point T) (hr.mono (by decide)) (by rfl) T.m_is_point T.F_is_point.kp (b_is_point T) .nil pass0 (pa_cons (pv 1) pa_nil)))) (pss_one ps_never) pss_nil)
 (pss_cons (ps_set (i := 4) sc_checked.nd rfl (by first | exact Or.inl rfl | exact Or.inr rfl) (pe_tup (pa_cons (pe_call (ok_amount_of T) (hr.mono (by decide)) (by rfl) T.m_amount_of T.F_amount_of.kp (b_amount_of T) .nil pass0 (pa_cons (pe_ix (ix_tupK (K := K) rfl) (pv 1) (pe_glob (v := .int 0) rfl T.gFlow.choose_spec ⟨_, rfl⟩) (fun _ _ => rfl)) pa_nil)) (pa_cons (pe_call (ok_amount_of T) (hr.mono (by decide)) (by rfl) T.m_amount_of T.F_amount_of.kp (b_amount_of T) .nil pass0 (pa_cons (pe_ix (ix_tupK (K := K) rfl) (pv 1) (pe_glob (v := .int 1) rfl T.gDrop.choose_spec ⟨_, rfl⟩) (fun _ _ => rfl)) pa_nil)) pa_nil))))
 (pss_cons (ps_if (PW.pt (pw_and (pt_cmpR op_gt (pv 3) pe_int (nomark _)) (pw_and1 (pt_not (pt_val (pe_call (ok_rises T) (hr.mono (by decide)) (by rfl) T.m_rises T.F_rises.kp (b_rises T) .nil pass0 (pa_cons (pe_ix (ix_listK (K := K) rfl) (pv 2) (pe_un un_neg pe_int) (fun _ _ => rfl)) (pa_cons (pv 4) pa_nil)))))))) (pss_one ps_never) pss_nil)
 (pss_one (ps_expr (pe_bm PySem.F.plainAttrs_list PySem.F.slot_list_append PySem.F.type_list_append mt_append (pv 2) (pa_cons (pv 4) pa_nil))))))))
 (pss_cons (ps_if (pt_cmpR op_gt (pe_callB (call_lenK (K := K) rfl) (by rfl) T.b_len (by decide +kernel) (pa_cons (pv 2) pa_nil)) (pe_glob (v := .int 80) rfl T.gMost.choose_spec ⟨_, rfl⟩) (nomark _)) (pss_one ps_never) pss_nil)
 (pss_one (ps_ret (pv 2))))))), ?_⟩
    have lw : ws.length = zs.length := Paired.len pw
    have l80 := ps.most
    refine ⟨_, rfl, sz, fun tp htp => ?_⟩
    generalize e_H1 : upd _ tp _ = H1
    obtain ⟨s1, ft⟩ := al3 e_H1 htp
    clear e_H1
    (try dsimp only at ft)
    have el := s1 _ _ el
    have pw := Paired.imp pw fun _ _ h => PtP.same h s1
    refine ⟨_, tp, _, _, _, true, rfl, ft, .cons (.ty _) (.cons (.ty _) .nil), .base (.lst el), kit_lt (.inl rfl), true, rfl, iteF ?_⟩
    refine ⟨_, rfl, l, rfl, ⟨_, SqL.of el⟩, fun D hD => ?_⟩
    refine lc_list (K := K) (a := l) (xs := ws) (fun i H' => Same H1 H' ∧ H' D = some (.lst (((zs.take i).map fun z => decide (z.1.1 = 0)).map V.bl))) ⟨Lb.Same.upd hD, upd_same⟩ (fun i H' _ b => SqL.of (b.1 _ _ el)) ?_ ?_
    · rintro i v H' hi ⟨s', eD⟩
      obtain ⟨z, hz, pz⟩ := Paired.at_ pw hi
      have lz := ps.l z (List.mem_of_getElem? hz)
      refine ⟨rfl, ?_⟩
      refine ⟨_, rfl, v, z, n, rfl, pz.same s', lz, by have := ps.n; omega, fun H'' s'' => ⟨_, s'' _ _ eD, ?_, Lb.Same.updl (s'.trans s'') hD, ?_⟩⟩
      · rw [List.length_map, List.length_map, List.length_take]
        exact szlt (by omega)
      · rw [upd_same, ← take_snoc hz, List.map_append, List.map_append]
        rfl
    rintro H2 ⟨s2, eD⟩
    rw [lw, List.take_length] at eD
    refine ⟨D, _, rfl, SqL.of eD, ?_⟩
    rw [all_org ps.some_]
    refine ⟨_, rfl, iteN (by simp) ?_⟩
    have el := s2 _ _ el
    have pw := Paired.imp pw fun _ _ h => PtP.same h s2
    have S2 := s1.trans s2
    refine ⟨sz, fun rl hrl => ?_⟩
    have sr := Lb.Same.upd (o := .lst []) hrl
    refine ⟨_, rfl, l, _, rfl, SqL.of (sr _ _ el), ?_⟩
    refine for_enum (K := K) (a := l) (xs := ws) (fun i σ H' => ∃ u1 u3 u4, σ = [some (.ref l), u1, some (.ref rl), u3, u4] ∧ Same H2 H' ∧ ∃ rs : List Addr, H' rl = some (.lst (rs.map V.ref)) ∧ Paired (RowA a.c_Amount H') rs (zs.take i))
      ⟨_, _, _, rfl, sr, [], upd_same, .nil⟩ (fun i σ H' ⟨_, _, _, _, s, _⟩ => SqL.of (s _ _ el)) ?_ ?_
    · rintro i v T0 σ H' hi ⟨u1, u3, u4, rfl, sH, rs, er, prs⟩ hT0
      obtain ⟨z, hz, pz⟩ := Paired.at_ pw hi
      have lz := ps.l z (List.mem_of_getElem? hz)
      have lrs : rs.length = i := by
        have h1 := Paired.len prs
        have h2 := (List.getElem?_eq_some_iff.mp hz).1
        rw [List.length_take] at h1
        omega
      generalize e_H5 : upd _ T0 _ = H5
      obtain ⟨s5, f5⟩ := al3 e_H5 hT0
      clear e_H5
      (try dsimp only at f5)
      have S5 := sH.trans s5
      refine ⟨T0, _, rfl, SqT.of f5, rfl, _, _, rfl, _, _, rfl, rfl, ?_⟩
      refine ⟨_, rfl, v, z, n, rfl, pz.same S5, lz, by have := ps.n; omega, fun H6 s6 => ⟨true, rfl, iteF ?_⟩⟩
      have S6 := S5.trans s6
      obtain ⟨t, u, w', rfl, et, iu, iw⟩ := pz.same S6
      have hn := ps.n
      refine ⟨_, rfl, _, _, _, _, rfl, rfl, SqT.of et, at0, u, _, _, rfl, iu, lz.x.t.mono (by omega), fun H7 q s7 aq => ?_⟩
      refine ⟨_, rfl, _, _, _, _, rfl, rfl, SqT.of (s7 _ _ et), at1, w', _, _, rfl, iw.same s7, lz.y.t.mono (by omega), fun H8 q' s8 aq' => ⟨sz, fun r hr' => ?_⟩⟩
      generalize e_H9 : upd _ r _ = H9
      obtain ⟨s9, fr⟩ := al3 e_H9 hr'
      clear e_H9
      (try dsimp only at fr)
      have S69 := (s7.trans s8).trans s9
      have S9 := S6.trans S69
      have S59 := s6.trans S69
      have row : RowA a.c_Amount H9 r z := ⟨q, q', fr, (aq.same s8).same s9, aq'.same s9⟩
      have er := (s5.trans S59) _ _ er
      have prs := Paired.imp prs fun _ _ h => RowA.same h (s5.trans S59)
      have fin : ∀ σ', σ' = [some (V.ref l), some (V.ref t), some (V.ref rl), some (V.int i), some (V.ref r)] → ∃ u1 u3 u4, σ' = [some (.ref l), u1, some (.ref rl), u3, u4] ∧ Same H2 (upd H9 rl (.lst (rs.map V.ref ++ [V.ref r]))) ∧ ∃ rs' : List Addr, (upd H9 rl (.lst (rs.map V.ref ++ [V.ref r]))) rl = some (.lst (rs'.map V.ref)) ∧ Paired (RowA a.c_Amount (upd H9 rl (.lst (rs.map V.ref ++ [V.ref r])))) rs' (zs.take (i + 1)) := by
        intro σ' e
        have nl : ∀ {b : Addr} {z : Pt}, RowA a.c_Amount H9 b z → RowA a.c_Amount (upd H9 rl (.lst (rs.map V.ref ++ [V.ref r]))) b z := by
          rintro b z ⟨p1, p2, e1, ⟨d1, a1⟩, d2, a2⟩
          have ne : ∀ {c : Addr} {o : HO}, H9 c = some o → (∀ x, o ≠ .lst x) → upd H9 rl (.lst (rs.map V.ref ++ [V.ref r])) c = some o := fun {c o} hc ho => by
            have : c ≠ rl := fun q => by rw [q, er] at hc; exact ho _ (Option.some.inj hc).symm
            rw [upd_ne this]
            exact hc
          exact ⟨p1, p2, ne e1 (fun _ q => nomatch q), ⟨d1, ne a1 (fun _ q => nomatch q)⟩, d2, ne a2 (fun _ q => nomatch q)⟩
        refine ⟨_, _, _, e, Lb.Same.updl S9 hrl, rs ++ [r], by rw [upd_same, List.map_append]; rfl, ?_⟩
        rw [← take_snoc hz]
        exact paired_snoc (Paired.imp prs fun _ _ h => nl h) (nl row)
      refine ⟨_, rfl, _, _, rfl, rfl, _, rfl, ite2 (fun h0 => ?_) (fun h0 => ?_)⟩
      · have h0 : 0 < i := by
          have : (i : Int) > 0 := of_decide_eq_true h0
          omega
        obtain ⟨z0, hz0⟩ : ∃ z0, zs[i - 1]? = some z0 := ⟨_, List.getElem?_eq_getElem (by have := (List.getElem?_eq_some_iff.mp hz).1; omega)⟩
        have hz' : zs[i - 1 + 1]? = some z := by rw [show i - 1 + 1 = i by omega]; exact hz
        have up := ps.up (i - 1) z0 z hz0 hz'
        have lz0 := ps.l z0 (List.mem_of_getElem? hz0)
        obtain ⟨r0, hr0, row0⟩ := Paired.at_r prs (i := i - 1) (b := z0) (by rw [List.getElem?_take, if_pos (by omega)]; exact hz0)
        have at0' : atI (rs.map V.ref) (-1) = some (.ref r0) := by
          rw [atI_last (j := i - 1) (by rw [List.length_map]; omega), List.getElem?_map, hr0]
          rfl
        refine ⟨_, rfl, _, rfl, _, _, _, _, rfl, rfl, SqL.of er, at0', _, rfl, r0, r, z0, z, n, rfl, row0, row, lz0, lz, by omega, up.1, up.2, true, rfl, iteF ?_⟩
        refine ⟨_, rfl, .inl ⟨rfl, _, SqL.of er⟩, _, rfl, rl, _, _, rfl, rfl, er, szlt (by rw [List.length_map]; have := (List.getElem?_eq_some_iff.mp hz).1; omega), fin _ rfl⟩
      · refine ⟨_, rfl, .inl ⟨rfl, _, SqL.of er⟩, _, rfl, rl, _, _, rfl, rfl, er, szlt (by rw [List.length_map]; have := (List.getElem?_eq_some_iff.mp hz).1; omega), fin _ rfl⟩
    · rintro σ H5 ⟨u1, u3, u4, rfl, S5, rs, er, prs⟩
      rw [lw, List.take_length] at prs
      refine ⟨_, rfl, _, _, rfl, .inl (SqL.of er), _, _, rfl, rfl, _, rfl, iteN ?_ ?_⟩
      · have := Paired.len prs
        rw [List.length_map, decide_eq_true_eq]
        omega
      · exact ⟨_, rfl, k _ rl (S2.trans S5) ⟨rs, er, prs⟩⟩
end
end K19

set_option Elab.async false
set_option linter.all false
set_option maxRecDepth 100000
set_option maxHeartbeats 4000000
set_option exponentiation.threshold 10000
namespace K19
open PySem L2 Lb
def sp_checkedT (K : PySem.W.Frag) (C : Addr) : Sp := fun vs H Q _ => ∃ (l : Addr) (ws : List V) (zs : List Pt) (n : Nat), vs = [.ref l] ∧ H l = some (.tup ws) ∧ Paired (PtP C H) ws zs ∧ Pts n zs ∧
  ∀ H' l', Same H H' → Crv C H' l' zs → Q (.ref l') H'
section
variable {P : Program} {w : World} {K : PySem.W.Frag} {mg : Str → Option Value} {base : Heap} {a : Ad}
theorem ok_checkedT (T : Txt K mg a) : FnOk P w K mg base CX0 7 a.f_checked a.d_checked ["points"] (sp_checkedT K a.c_Amount) := by
  refine T.F_checked.ok sc_checked (fun vs H Q E h => ?_) (fun cdv A outer s H vs Q E hr h => ?_)
  · obtain ⟨l, ws, zs, n, rfl, _⟩ := h
    rfl
  · obtain ⟨l, ws, zs, n, rfl, el, pw, ps, k⟩ := h
    refine ⟨_, (pss_cons (ps_if (PW.pt (pw_or (pt_not (pt_val (pe_callB (call_isiT (X := _)) (by rfl) T.b_isinstance (by decide +kernel) (pa_cons (pv 0) (pa_cons (pe_tup (pa_cons (pe_bltn (v := .ty "list") (by rfl) T.b_list (by decide +kernel) rfl) (pa_cons (pe_bltn (v := .ty "tuple") (by rfl) T.b_tuple (by decide +kernel) rfl) pa_nil))) pa_nil))))) (pw_or1 (pt_val (pe_callB (cr_allK (K := K) rfl rfl) (by rfl) T.b_all (by decide +kernel) (pa_cons (pe_lc (own := [("point", 1)]) (by rfl) sc_checked.nd (pi_tupK (K := K) rfl (pv 0)) (blkOk_by (own := [("point", 1)]) (N := ["points", "point", "rows", "position", "row"]) (sc := defScope s_checked) (by decide +kernel)) (fun _ _ _ _ _ => (pg_name (i := 1) sc_checked.nd rfl (by first | exact Or.inl rfl | exact Or.inr rfl))) (fun _ _ _ _ _ => pts_nil) (fun _ _ _ _ _ => (pe_call (ok_is_origin T) (hr.mono (by decide)) (by rfl) T.m_is_origin T.F_is_origin.kp (b_is_origin T) .nil pass0 (pa_cons (pv 1) pa_nil)))) pa_nil)))))) (pss_one ps_never) pss_nil)
 (pss_cons (ps_set (i := 2) sc_checked.nd rfl (by first | exact Or.inl rfl | exact Or.inr rfl) (pe_lst pa_nil))
 (pss_cons (ps_for PassesOwn.never rfl (pi_enumT (by rfl) T.b_enumerate (pa_cons (pv 0) pa_nil)) (pg_tupK (K := K) (n := 2) rfl rfl (pgs_cons (pg_name (i := 3) sc_checked.nd rfl (by first | exact Or.inl rfl | exact Or.inr rfl)) (pgs_cons (pg_name (i := 1) sc_checked.nd rfl (by first | exact Or.inl rfl | exact Or.inr rfl)) pgs_nil))) (pss_cons (ps_if (pt_not (pt_val (pe_call (ok_is_point T) (hr.mono (by decide)) (by rfl) T.m_is_point T.F_is_point.kp (b_is_point T) .nil pass0 (pa_cons (pv 1) pa_nil)))) (pss_one ps_never) pss_nil)
 (pss_cons (ps_set (i := 4) sc_checked.nd rfl (by first | exact Or.inl rfl | exact Or.inr rfl) (pe_tup (pa_cons (pe_call (ok_amount_of T) (hr.mono (by decide)) (by rfl) T.m_amount_of T.F_amount_of.kp (b_amount_of T) .nil pass0 (pa_cons (pe_ix (ix_tupK (K := K) rfl) (pv 1) (pe_glob (v := .int 0) rfl T.gFlow.choose_spec ⟨_, rfl⟩) (fun _ _ => rfl)) pa_nil)) (pa_cons (pe_call (ok_amount_of T) (hr.mono (by decide)) (by rfl) T.m_amount_of T.F_amount_of.kp (b_amount_of T) .nil pass0 (pa_cons (pe_ix (ix_tupK (K := K) rfl) (pv 1) (pe_glob (v := .int 1) rfl T.gDrop.choose_spec ⟨_, rfl⟩) (fun _ _ => rfl)) pa_nil)) pa_nil))))
 (pss_cons (ps_if (PW.pt (pw_and (pt_cmpR op_gt (pv 3) pe_int (nomark _)) (pw_and1 (pt_not (pt_val (pe_call (ok_rises T) (hr.mono (by decide)) (by rfl) T.m_rises T.F_rises.kp (b_rises T) .nil pass0 (pa_cons (pe_ix (ix_listK (K := K) rfl) (pv 2) (pe_un un_neg pe_int) (fun _ _ => rfl)) (pa_cons (pv 4) pa_nil)))))))) (pss_one ps_never) pss_nil)
 (pss_one (ps_expr (pe_bm PySem.F.plainAttrs_list PySem.F.slot_list_append PySem.F.type_list_append mt_append (pv 2) (pa_cons (pv 4) pa_nil))))))))
 (pss_cons (ps_if (pt_cmpR op_gt (pe_callB (call_lenK (K := K) rfl) (by rfl) T.b_len (by decide +kernel) (pa_cons (pv 2) pa_nil)) (pe_glob (v := .int 80) rfl T.gMost.choose_spec ⟨_, rfl⟩) (nomark _)) (pss_one ps_never) pss_nil)
 (pss_one (ps_ret (pv 2))))))), ?_⟩
    have lw : ws.length = zs.length := Paired.len pw
    have l80 := ps.most
    refine ⟨_, rfl, sz, fun tp htp => ?_⟩
    generalize e_H1 : upd _ tp _ = H1
    obtain ⟨s1, ft⟩ := al3 e_H1 htp
    clear e_H1
    (try dsimp only at ft)
    have el := s1 _ _ el
    have pw := Paired.imp pw fun _ _ h => PtP.same h s1
    refine ⟨_, tp, _, _, _, true, rfl, ft, .cons (.ty _) (.cons (.ty _) .nil), .base (.tup el), kit_lt (.inr rfl), true, rfl, iteF ?_⟩
    refine ⟨_, rfl, l, rfl, ⟨_, SqT.of el⟩, fun D hD => ?_⟩
    refine lc_tup (K := K) (a := l) (xs := ws) (fun i H' => Same H1 H' ∧ H' D = some (.lst (((zs.take i).map fun z => decide (z.1.1 = 0)).map V.bl))) ⟨Lb.Same.upd hD, upd_same⟩ (fun i H' _ b => SqT.of (b.1 _ _ el)) ?_ ?_
    · rintro i v H' hi ⟨s', eD⟩
      obtain ⟨z, hz, pz⟩ := Paired.at_ pw hi
      have lz := ps.l z (List.mem_of_getElem? hz)
      refine ⟨rfl, ?_⟩
      refine ⟨_, rfl, v, z, n, rfl, pz.same s', lz, by have := ps.n; omega, fun H'' s'' => ⟨_, s'' _ _ eD, ?_, Lb.Same.updl (s'.trans s'') hD, ?_⟩⟩
      · rw [List.length_map, List.length_map, List.length_take]
        exact szlt (by omega)
      · rw [upd_same, ← take_snoc hz, List.map_append, List.map_append]
        rfl
    rintro H2 ⟨s2, eD⟩
    rw [lw, List.take_length] at eD
    refine ⟨D, _, rfl, SqL.of eD, ?_⟩
    rw [all_org ps.some_]
    refine ⟨_, rfl, iteN (by simp) ?_⟩
    have el := s2 _ _ el
    have pw := Paired.imp pw fun _ _ h => PtP.same h s2
    have S2 := s1.trans s2
    refine ⟨sz, fun rl hrl => ?_⟩
    have sr := Lb.Same.upd (o := .lst []) hrl
    refine ⟨_, rfl, l, _, rfl, SqT.of (sr _ _ el), ?_⟩
    refine for_enumT (K := K) (a := l) (xs := ws) (fun i σ H' => ∃ u1 u3 u4, σ = [some (.ref l), u1, some (.ref rl), u3, u4] ∧ Same H2 H' ∧ ∃ rs : List Addr, H' rl = some (.lst (rs.map V.ref)) ∧ Paired (RowA a.c_Amount H') rs (zs.take i))
      ⟨_, _, _, rfl, sr, [], upd_same, .nil⟩ (fun i σ H' ⟨_, _, _, _, s, _⟩ => SqT.of (s _ _ el)) ?_ ?_
    · rintro i v T0 σ H' hi ⟨u1, u3, u4, rfl, sH, rs, er, prs⟩ hT0
      obtain ⟨z, hz, pz⟩ := Paired.at_ pw hi
      have lz := ps.l z (List.mem_of_getElem? hz)
      have lrs : rs.length = i := by
        have h1 := Paired.len prs
        have h2 := (List.getElem?_eq_some_iff.mp hz).1
        rw [List.length_take] at h1
        omega
      generalize e_H5 : upd _ T0 _ = H5
      obtain ⟨s5, f5⟩ := al3 e_H5 hT0
      clear e_H5
      (try dsimp only at f5)
      have S5 := sH.trans s5
      refine ⟨T0, _, rfl, SqT.of f5, rfl, _, _, rfl, _, _, rfl, rfl, ?_⟩
      refine ⟨_, rfl, v, z, n, rfl, pz.same S5, lz, by have := ps.n; omega, fun H6 s6 => ⟨true, rfl, iteF ?_⟩⟩
      have S6 := S5.trans s6
      obtain ⟨t, u, w', rfl, et, iu, iw⟩ := pz.same S6
      have hn := ps.n
      refine ⟨_, rfl, _, _, _, _, rfl, rfl, SqT.of et, at0, u, _, _, rfl, iu, lz.x.t.mono (by omega), fun H7 q s7 aq => ?_⟩
      refine ⟨_, rfl, _, _, _, _, rfl, rfl, SqT.of (s7 _ _ et), at1, w', _, _, rfl, iw.same s7, lz.y.t.mono (by omega), fun H8 q' s8 aq' => ⟨sz, fun r hr' => ?_⟩⟩
      generalize e_H9 : upd _ r _ = H9
      obtain ⟨s9, fr⟩ := al3 e_H9 hr'
      clear e_H9
      (try dsimp only at fr)
      have S69 := (s7.trans s8).trans s9
      have S9 := S6.trans S69
      have S59 := s6.trans S69
      have row : RowA a.c_Amount H9 r z := ⟨q, q', fr, (aq.same s8).same s9, aq'.same s9⟩
      have er := (s5.trans S59) _ _ er
      have prs := Paired.imp prs fun _ _ h => RowA.same h (s5.trans S59)
      have fin : ∀ σ', σ' = [some (V.ref l), some (V.ref t), some (V.ref rl), some (V.int i), some (V.ref r)] → ∃ u1 u3 u4, σ' = [some (.ref l), u1, some (.ref rl), u3, u4] ∧ Same H2 (upd H9 rl (.lst (rs.map V.ref ++ [V.ref r]))) ∧ ∃ rs' : List Addr, (upd H9 rl (.lst (rs.map V.ref ++ [V.ref r]))) rl = some (.lst (rs'.map V.ref)) ∧ Paired (RowA a.c_Amount (upd H9 rl (.lst (rs.map V.ref ++ [V.ref r])))) rs' (zs.take (i + 1)) := by
        intro σ' e
        have nl : ∀ {b : Addr} {z : Pt}, RowA a.c_Amount H9 b z → RowA a.c_Amount (upd H9 rl (.lst (rs.map V.ref ++ [V.ref r]))) b z := by
          rintro b z ⟨p1, p2, e1, ⟨d1, a1⟩, d2, a2⟩
          have ne : ∀ {c : Addr} {o : HO}, H9 c = some o → (∀ x, o ≠ .lst x) → upd H9 rl (.lst (rs.map V.ref ++ [V.ref r])) c = some o := fun {c o} hc ho => by
            have : c ≠ rl := fun q => by rw [q, er] at hc; exact ho _ (Option.some.inj hc).symm
            rw [upd_ne this]
            exact hc
          exact ⟨p1, p2, ne e1 (fun _ q => nomatch q), ⟨d1, ne a1 (fun _ q => nomatch q)⟩, d2, ne a2 (fun _ q => nomatch q)⟩
        refine ⟨_, _, _, e, Lb.Same.updl S9 hrl, rs ++ [r], by rw [upd_same, List.map_append]; rfl, ?_⟩
        rw [← take_snoc hz]
        exact paired_snoc (Paired.imp prs fun _ _ h => nl h) (nl row)
      refine ⟨_, rfl, _, _, rfl, rfl, _, rfl, ite2 (fun h0 => ?_) (fun h0 => ?_)⟩
      · have h0 : 0 < i := by
          have : (i : Int) > 0 := of_decide_eq_true h0
          omega
        obtain ⟨z0, hz0⟩ : ∃ z0, zs[i - 1]? = some z0 := ⟨_, List.getElem?_eq_getElem (by have := (List.getElem?_eq_some_iff.mp hz).1; omega)⟩
        have hz' : zs[i - 1 + 1]? = some z := by rw [show i - 1 + 1 = i by omega]; exact hz
        have up := ps.up (i - 1) z0 z hz0 hz'
        have lz0 := ps.l z0 (List.mem_of_getElem? hz0)
        obtain ⟨r0, hr0, row0⟩ := Paired.at_r prs (i := i - 1) (b := z0) (by rw [List.getElem?_take, if_pos (by omega)]; exact hz0)
        have at0' : atI (rs.map V.ref) (-1) = some (.ref r0) := by
          rw [atI_last (j := i - 1) (by rw [List.length_map]; omega), List.getElem?_map, hr0]
          rfl
        refine ⟨_, rfl, _, rfl, _, _, _, _, rfl, rfl, SqL.of er, at0', _, rfl, r0, r, z0, z, n, rfl, row0, row, lz0, lz, by omega, up.1, up.2, true, rfl, iteF ?_⟩
        refine ⟨_, rfl, .inl ⟨rfl, _, SqL.of er⟩, _, rfl, rl, _, _, rfl, rfl, er, szlt (by rw [List.length_map]; have := (List.getElem?_eq_some_iff.mp hz).1; omega), fin _ rfl⟩
      · refine ⟨_, rfl, .inl ⟨rfl, _, SqL.of er⟩, _, rfl, rl, _, _, rfl, rfl, er, szlt (by rw [List.length_map]; have := (List.getElem?_eq_some_iff.mp hz).1; omega), fin _ rfl⟩
    · rintro σ H5 ⟨u1, u3, u4, rfl, S5, rs, er, prs⟩
      rw [lw, List.take_length] at prs
      refine ⟨_, rfl, _, _, rfl, .inl (SqL.of er), _, _, rfl, rfl, _, rfl, iteN ?_ ?_⟩
      · have := Paired.len prs
        rw [List.length_map, decide_eq_true_eq]
        omega
      · exact ⟨_, rfl, k _ rl (S2.trans S5) ⟨rs, er, prs⟩⟩
end
end K19

set_option Elab.async false
set_option linter.all false
set_option maxRecDepth 100000
set_option maxHeartbeats 4000000
set_option exponentiation.threshold 10000
namespace K19
open PySem L2 Lb
/-- an instance that has no field yet is no part of a curve's points -/
theorem Crv.kept {A C q dx l : Addr} {H : Hp} {o : HO} {zs : List Pt} (h : Crv A H l zs) (hq : H q = some (.ins C dx [])) : Crv A (upd H q o) l zs := by
  have far : ∀ {b : Addr} {o' : HO}, H b = some o' → (∀ D d, o' ≠ .ins D d []) → upd H q o b = some o' := fun {b o'} hb no => by
    have : b ≠ q := by
      rintro rfl
      rw [hq] at hb
      exact no _ _ (Option.some.inj hb).symm
    rw [upd_ne this]
    exact hb
  have am_ne : ∀ {t b : Int} {D d D' d' : Addr}, HO.ins D d (am t b) ≠ .ins D' d' [] := by
    intro t b D d D' d' e
    injection e with _ _ e
    have := congrArg (fun f => f.lookup ("_top" : Str)) e
    cases this
  obtain ⟨rs, e, p⟩ := h.ex
  refine ⟨rs, far e (fun _ _ z => nomatch z), Paired.imp p ?_⟩
  rintro r z ⟨p1, p2, e1, ⟨d1, a1⟩, d2, a2⟩
  exact ⟨p1, p2, far e1 (fun _ _ z => nomatch z), ⟨d1, far a1 fun _ _ => am_ne⟩, d2, far a2 fun _ _ => am_ne⟩
def sp_Curve_init_ (A C : Addr) : Sp := fun vs H Q _ => ∃ (q dx l : Addr) (ws : List V) (zs : List Pt) (n : Nat), vs = [.ref q, .ref l] ∧ (H l = some (.lst ws) ∨ H l = some (.tup ws)) ∧ Paired (PtP A H) ws zs ∧ Pts n zs ∧ H q = some (.ins C dx []) ∧
  ∀ H' l', (∀ x o, x ≠ q → H x = some o → H' x = some o) → H l' = none → Crv A H' l' (withO zs) → H' q = some (.ins C dx (putF "_points" (.ref l') [])) → Q .non H'
section
variable {P : Program} {w : World} {K : PySem.W.Frag} {mg : Str → Option Value} {base : Heap} {a : Ad}
theorem ok_Curve_init_ (T : Txt K mg a) : FnOk P w K mg base CX0 8 a.f_Curve_init_ a.d_Curve_init_ ["self", "points"] (sp_Curve_init_ a.c_Amount a.c_Curve) := by
  refine T.F_Curve_init_.ok sc_Curve_init_ (fun vs H Q E h => ?_) (fun cdv A outer s H vs Q E hr h => ?_)
  · obtain ⟨q, dx, l, ws, zs, n, rfl, _⟩ := h
    rfl
  · obtain ⟨q, dx, l, ws, zs, n, rfl, el, pw, ps, hq, k⟩ := h
    have rest : ∀ {H1 : Hp} {l1 : Addr}, Same H H1 → H l1 = none → Crv a.c_Amount H1 l1 (withO zs) → Q .non (upd H1 q (.ins a.c_Curve dx (putF "_points" (.ref l1) []))) := by
      intro H1 l1 s1 n1 c1
      refine k _ l1 (fun x o n e => ?_) n1 (c1.kept (s1 _ _ hq)) upd_same
      rw [upd_ne n]
      exact s1 _ _ e
    rcases el with el | el
    · refine ⟨_, (pss_one (ps_fldK (K := K) rfl (pv 0) (pe_call (ok_with_origin T) (hr.mono (by decide)) (by rfl) T.m_with_origin T.F_with_origin.kp (b_with_origin T) .nil pass0 (pa_cons (pe_call (ok_checkedL T) (hr.mono (by decide)) (by rfl) T.m_checked T.F_checked.kp (b_checked T) .nil pass0 (pa_cons (pv 1) pa_nil)) pa_nil)) rfl)), ?_⟩
      refine ⟨_, rfl, l, ws, zs, n, rfl, el, pw, ps, fun H1 l1 s1 c1 => ⟨l1, zs, rfl, c1, by have := ps.most; omega, fun H2 l2 s2 n2 c2 => ?_⟩⟩
      exact ⟨_, rfl, q, _, dx, _, rfl, (s1.trans s2) _ _ hq, T.cl2, T.nP, (by show 0 < 1000; decide), rest (s1.trans s2) (s1.free' n2) c2⟩
    · refine ⟨_, (pss_one (ps_fldK (K := K) rfl (pv 0) (pe_call (ok_with_origin T) (hr.mono (by decide)) (by rfl) T.m_with_origin T.F_with_origin.kp (b_with_origin T) .nil pass0 (pa_cons (pe_call (ok_checkedT T) (hr.mono (by decide)) (by rfl) T.m_checked T.F_checked.kp (b_checked T) .nil pass0 (pa_cons (pv 1) pa_nil)) pa_nil)) rfl)), ?_⟩
      refine ⟨_, rfl, l, ws, zs, n, rfl, el, pw, ps, fun H1 l1 s1 c1 => ⟨l1, zs, rfl, c1, by have := ps.most; omega, fun H2 l2 s2 n2 c2 => ?_⟩⟩
      exact ⟨_, rfl, q, _, dx, _, rfl, (s1.trans s2) _ _ hq, T.cl2, T.nP, (by show 0 < 1000; decide), rest (s1.trans s2) (s1.free' n2) c2⟩
end
end K19

set_option Elab.async false
set_option linter.all false
set_option maxRecDepth 100000
set_option maxHeartbeats 4000000
set_option exponentiation.threshold 10000
namespace K19
open PySem L2 Lb
/-- ascending on side s -/
def Asc (s : Nat) (zs : List Pt) : Prop := ∀ (i : Nat) z z', zs[i]? = some z → zs[i + 1]? = some z' → val (sd s z) < val (sd s z')
def minusF (x y : Q2) : Q2 := rd (x.1 * y.2 - y.1 * x.2) (x.2 * y.2)
/-- a curve: its points -/
structure Cu (A C : Addr) (H : Hp) (c : Addr) (zs : List Pt) : Prop where
  ex : ∃ dx l, H c = some (.ins C dx (putF "_points" (.ref l) [])) ∧ Crv A H l zs
theorem Cu.same {A C c : Addr} {H H' : Hp} {zs : List Pt} (h : Cu A C H c zs) (s : Same H H') : Cu A C H' c zs :=
  let ⟨dx, l, e, k⟩ := h.ex
  ⟨dx, l, s _ _ e, k.same s⟩
theorem cu_at (v : V) : (putF "_points" v ([] : List (Str × V))).lookup ("_points" : Str) = some v := by
  rw [lookup_putF, if_pos rfl]
theorem cu_no {m : Str} (v : V) (h : ¬ m = "_points") : (putF "_points" v ([] : List (Str × V))).lookup m = none := by
  rw [lookup_putF, if_neg h]
  rfl
/-- what a curve must keep to be asked -/
structure CuN (n : Nat) (zs : List Pt) : Prop where
  p : ∀ z ∈ zs, PtN n z
  l2 : 2 ≤ zs.length
  l200 : zs.length ≤ 200
  up : ∀ s, s = 0 ∨ s = 1 → Asc s zs
def sp_ask (A C : Addr) (s : Nat) : Sp := fun vs H Q _ => ∃ (c : Addr) (v : V) (zs : List Pt) (x : Q2) (n m : Nat), vs = [.ref c, v] ∧ Cu A C H c zs ∧ CuN n zs ∧ IsP A H v x.1 x.2 ∧ Low m x ∧ m + 6 * n + 10 ≤ 3000 ∧
  ∀ H' q' (i : Nat) z z' r, Same H H' → PieceAt zs s x i → zs[i]? = some z → zs[i + 1]? = some z' → AmQ A H' q' r → Low (m + 6 * n + 4) r → val r = onLine s z z' (val x) → Q (.ref q') H'
def sp_points_ (A C : Addr) : Sp := fun vs H Q _ => ∃ (c : Addr) (zs : List Pt), vs = [.ref c] ∧ Cu A C H c zs ∧ zs.length ≤ 200 ∧ ∀ H' l, Same H H' → H l = none → Crv A H' l zs → Q (.ref l) H'
section
variable {P : Program} {w : World} {K : PySem.W.Frag} {mg : Str → Option Value} {base : Heap} {a : Ad}
theorem ok_Curve_call_ (T : Txt K mg a) : FnOk P w K mg base CX0 7 a.f_Curve_call_ a.d_Curve_call_ ["self", "flow"] (sp_ask a.c_Amount a.c_Curve 0) := by
  refine T.F_Curve_call_.ok sc_Curve_call_ (fun vs H Q E h => ?_) (fun cdv A outer s H vs Q E hr h => ?_)
  · obtain ⟨c, v, zs, x, n, m, rfl, _⟩ := h
    rfl
  · obtain ⟨c, v, zs, x, n, m, rfl, hc, hn, iv, lx, hnm, k⟩ := h
    refine ⟨_, (pss_one (ps_ret (pe_call (ok_across T) (hr.mono (by decide)) (by rfl) T.m_across T.F_across.kp (b_across T) .nil pass0 (pa_cons (pe_fldK (K := K) rfl (pv 0) rfl) (pa_cons (pe_glob (v := .int 0) rfl T.gFlow.choose_spec ⟨_, rfl⟩) (pa_cons (pe_call (ok_amount_of T) (hr.mono (by decide)) (by rfl) T.m_amount_of T.F_amount_of.kp (b_amount_of T) .nil pass0 (pa_cons (pv 1) pa_nil)) pa_nil)))))), ?_⟩
    obtain ⟨dx, l, ec, cr⟩ := hc.ex
    refine ⟨_, rfl, c, _, dx, _, _, rfl, ec, T.cl2, T.nP, cu_at _, ?_⟩
    refine ⟨_, rfl, v, _, _, rfl, iv, lx.t.mono (by omega), fun H1 q s1 aq => ?_⟩
    exact ⟨l, q, 0, n, m, zs, x, rfl, .inl rfl, cr.same s1, hn.p, aq, lx, hnm, hn.l2, hn.l200, hn.up 0 (.inl rfl), fun H' q' i z z' r s' pc hz hz' ar lr vr => k H' q' i z z' r (s1.trans s') pc hz hz' ar lr vr⟩
theorem ok_Curveback (T : Txt K mg a) : FnOk P w K mg base CX0 7 a.f_Curveback a.d_Curveback ["self", "drop"] (sp_ask a.c_Amount a.c_Curve 1) := by
  refine T.F_Curveback.ok sc_Curveback (fun vs H Q E h => ?_) (fun cdv A outer s H vs Q E hr h => ?_)
  · obtain ⟨c, v, zs, x, n, m, rfl, _⟩ := h
    rfl
  · obtain ⟨c, v, zs, x, n, m, rfl, hc, hn, iv, lx, hnm, k⟩ := h
    refine ⟨_, (pss_one (ps_ret (pe_call (ok_across T) (hr.mono (by decide)) (by rfl) T.m_across T.F_across.kp (b_across T) .nil pass0 (pa_cons (pe_fldK (K := K) rfl (pv 0) rfl) (pa_cons (pe_glob (v := .int 1) rfl T.gDrop.choose_spec ⟨_, rfl⟩) (pa_cons (pe_call (ok_amount_of T) (hr.mono (by decide)) (by rfl) T.m_amount_of T.F_amount_of.kp (b_amount_of T) .nil pass0 (pa_cons (pv 1) pa_nil)) pa_nil)))))), ?_⟩
    obtain ⟨dx, l, ec, cr⟩ := hc.ex
    refine ⟨_, rfl, c, _, dx, _, _, rfl, ec, T.cl2, T.nP, cu_at _, ?_⟩
    refine ⟨_, rfl, v, _, _, rfl, iv, lx.t.mono (by omega), fun H1 q s1 aq => ?_⟩
    exact ⟨l, q, 1, n, m, zs, x, rfl, .inr rfl, cr.same s1, hn.p, aq, lx, hnm, hn.l2, hn.l200, hn.up 1 (.inr rfl), fun H' q' i z z' r s' pc hz hz' ar lr vr => k H' q' i z z' r (s1.trans s') pc hz hz' ar lr vr⟩
theorem ok_Curvepoints (T : Txt K mg a) : FnOk P w K mg base CX0 2 a.f_Curvepoints a.d_Curvepoints ["self"] (sp_points_ a.c_Amount a.c_Curve) := by
  refine T.F_Curvepoints.ok sc_Curvepoints (fun vs H Q E h => ?_) (fun cdv A outer s H vs Q E hr h => ?_)
  · obtain ⟨c, zs, rfl, _⟩ := h
    rfl
  · obtain ⟨c, zs, rfl, hc, _, k⟩ := h
    refine ⟨_, (pss_one (ps_ret (pe_callTy call_list_of (by rfl) T.b_list (by decide +kernel) (pa_cons (pe_fldK (K := K) rfl (pv 0) rfl) pa_nil)))), ?_⟩
    obtain ⟨dx, l, ec, cr⟩ := hc.ex
    obtain ⟨rs, el, pr⟩ := cr.ex
    refine ⟨_, rfl, c, _, dx, _, _, rfl, ec, T.cl2, T.nP, cu_at _, ?_⟩
    refine ⟨_, _, rfl, .inl (SqL.of el), fun q hq => ?_⟩
    have sm := Lb.Same.upd (o := .lst (rs.map V.ref)) hq
    exact k _ q sm hq ⟨rs, upd_same, Paired.imp pr fun _ _ h => h.same sm⟩
end
end K19

set_option Elab.async false
set_option linter.all false
set_option maxRecDepth 100000
set_option maxHeartbeats 4000000
set_option exponentiation.threshold 10000
namespace K19
open PySem L2 Lb

theorem Asc.far {s : Nat} {zs : List Pt} (h : Asc s zs) : ∀ (k i : Nat) z z', zs[i]? = some z → zs[i + 1 + k]? = some z' → val (sd s z) < val (sd s z')
  | 0, i, z, z', hz, hz' => h i z z' hz hz'
  | k + 1, i, z, z', hz, hz' => by
    obtain ⟨w, hw⟩ : ∃ w, zs[i + 1 + k]? = some w := ⟨_, List.getElem?_eq_getElem (by have := (List.getElem?_eq_some_iff.mp hz').1; omega)⟩
    have h1 := Asc.far h k i z w hz hw
    have h2 := h (i + 1 + k) w z' hw (by rw [show i + 1 + k + 1 = i + 1 + (k + 1) by omega]; exact hz')
    grind
theorem Asc.lt {s : Nat} {zs : List Pt} (h : Asc s zs) {i j : Nat} {z z' : Pt} (hij : i < j) (hz : zs[i]? = some z) (hz' : zs[j]? = some z') : val (sd s z) < val (sd s z') :=
  h.far (j - i - 1) i z z' hz (by rw [show i + 1 + (j - i - 1) = j by omega]; exact hz')
/-- a fraction of the law's own: a tuple of two ints -/
def FrQ (H : Hp) (q : Addr) (x : Q2) : Prop := Fr H q x.1 x.2
theorem FrQ.same {H H' : Hp} {q : Addr} {x : Q2} (h : FrQ H q x) (s : Same H H') : FrQ H' q x := s _ _ h
/-- the law's points: tuples of two fractions -/
def SpR (H : Hp) (r : Addr) (z : Pt) : Prop := ∃ p q, H r = some (.tup [.ref p, .ref q]) ∧ FrQ H p z.1 ∧ FrQ H q z.2
theorem SpR.same {H H' : Hp} {r : Addr} {z : Pt} (h : SpR H r z) (s : Same H H') : SpR H' r z :=
  let ⟨p, q, e, a, b⟩ := h
  ⟨p, q, s _ _ e, a.same s, b.same s⟩
structure Spots (H : Hp) (l : Addr) (zs : List Pt) : Prop where
  ex : ∃ rs : List Addr, H l = some (.lst (rs.map V.ref)) ∧ Paired (SpR H) rs zs
theorem Spots.same {l : Addr} {H H' : Hp} {zs : List Pt} (h : Spots H l zs) (s : Same H H') : Spots H' l zs :=
  let ⟨rs, e, p⟩ := h.ex
  ⟨rs, s _ _ e, Paired.imp p fun _ _ q => q.same s⟩
theorem Spots.at_ {l : Addr} {H : Hp} {zs : List Pt} (h : Spots H l zs) : ∃ xs, H l = some (.lst xs) ∧ xs.length = zs.length ∧ ∀ (i : Nat) z, zs[i]? = some z → ∃ r p q, atI xs (i : Int) = some (.ref r) ∧ H r = some (.tup [.ref p, .ref q]) ∧ FrQ H p z.1 ∧ FrQ H q z.2 := by
  obtain ⟨rs, e, p⟩ := h.ex
  refine ⟨_, e, by rw [List.length_map]; exact Paired.len p, fun i z hz => ?_⟩
  obtain ⟨r, hr, p', q, er, ap, aq⟩ := Paired.at_r p hz
  exact ⟨r, p', q, at_ref hr, er, ap, aq⟩
theorem fr_at {H : Hp} {p q : Addr} {z : Pt} {s : Nat} (hs : s = 0 ∨ s = 1) (ap : FrQ H p z.1) (aq : FrQ H q z.2) : ∃ y, atI [V.ref p, V.ref q] (s : Int) = some (.ref y) ∧ FrQ H y (sd s z) := by
  rcases hs with rfl | rfl
  · exact ⟨p, at0, ap⟩
  · exact ⟨q, at1, aq⟩
theorem SpR.nl {H H' : Hp} {r : Addr} {z : Pt} (h : SpR H r z) (s : NL H H') : SpR H' r z :=
  let ⟨p, q, e, a, b⟩ := h
  ⟨p, q, s _ _ (fun _ z => nomatch z) e, s _ _ (fun _ z => nomatch z) a, s _ _ (fun _ z => nomatch z) b⟩
theorem FrQ.nl {H H' : Hp} {q : Addr} {x : Q2} (h : FrQ H q x) (s : NL H H') : FrQ H' q x := s _ _ (fun _ z => nomatch z) h
theorem Spots.mov {p l : Addr} {H H' : Hp} {zs : List Pt} (h : Spots H l zs) (m : Mov p H H') (hp : PotAt H p) (n : l ≠ p) : Spots H' l zs :=
  let ⟨rs, e, q⟩ := h.ex
  ⟨rs, m.keep _ _ n e, Paired.imp q fun _ _ x => x.nl (NL.mov m hp)⟩
theorem org_low {n : Nat} : Low (n + 1) ((0, 1) : Q2) := ⟨(show (0 : Nat) < 2 ^ (n + 1) from Nat.pow_pos (by decide)), bd_one, by decide, by decide⟩
theorem PtL.mono {n m : Nat} {z : Pt} (h : PtL n z) (k : n ≤ m) : PtL m z := ⟨h.x.mono k, h.y.mono k, h.s⟩
theorem sg_p {t : Int} (h : 0 < t) : sg t = 1 := by
  unfold sg
  rw [if_neg (by omega), if_pos h]
theorem sg_n {t : Int} (h : t < 0) : sg t = -1 := by
  unfold sg
  rw [if_neg (by omega), if_neg (by omega)]
theorem asc_snoc {s : Nat} {zs : List Pt} {z z' : Pt} (h : Asc s zs) (hl : zs[zs.length - 1]? = some z') (lt : val (sd s z') < val (sd s z)) : Asc s (zs ++ [z]) := by
  intro i y y' hy hy'
  have hlt := (List.getElem?_eq_some_iff.mp hy').1
  rw [List.length_append, List.length_singleton] at hlt
  rcases Nat.lt_or_ge (i + 1) zs.length with c | c
  · rw [List.getElem?_append_left (by omega)] at hy
    rw [List.getElem?_append_left c] at hy'
    exact h i y y' hy hy'
  · have e : i + 1 = zs.length := by omega
    rw [List.getElem?_append_left (by omega)] at hy
    rw [List.getElem?_append_right (by omega), e, Nat.sub_self] at hy'
    rw [show i = zs.length - 1 by omega, hl] at hy
    have e1 := Option.some.inj hy
    have e2 : z = y' := by simpa using hy'
    rw [← e1, ← e2]
    exact lt
theorem asc_cons {s : Nat} {zs : List Pt} {z : Pt} (h : Asc s zs) (lt : ∀ y, zs[0]? = some y → val (sd s z) < val (sd s y)) : Asc s (z :: zs) := by
  intro i y y' hy hy'
  cases i with
  | zero =>
    have e : z = y := by simpa using hy
    rw [← e]
    exact lt y' (by simpa using hy')
  | succ i => exact h i y y' (by simpa using hy) (by simpa using hy')
/-- points, those below, (0, 0), those above -/
structure LQ (n : Nat) (zs : List Pt) : Prop where
  l : ∀ z ∈ zs, PtL n z
  up : ∀ s, s = 0 ∨ s = 1 → Asc s zs
  ex : ∃ ns ps, zs = ns ++ org :: ps ∧ (∀ z ∈ ns, z.1.1 < 0) ∧ (∀ z ∈ ps, 0 < z.1.1)
theorem LQ.start {n : Nat} : LQ (n + 1) [org] := by
  refine ⟨fun z hz => ?_, fun s _ i z z' _ h => ?_, [], [], rfl, fun z hz => absurd hz List.not_mem_nil, fun z hz => absurd hz List.not_mem_nil⟩
  · rw [List.mem_singleton.mp hz]
    exact ⟨org_low, org_low, rfl⟩
  · have := (List.getElem?_eq_some_iff.mp h).1
    simp at this
theorem LQ.snoc {n m : Nat} {zs : List Pt} {z z' : Pt} (h : LQ n zs) (hl : zs[zs.length - 1]? = some z') (hnm : n ≤ m) (lx : Low m z.1) (ly : Low m z.2) (h0 : val z'.1 < val z.1) (h1 : val z'.2 < val z.2) : LQ m (zs ++ [z]) := by
  have up : ∀ s, s = 0 ∨ s = 1 → Asc s (zs ++ [z]) := by
    rintro s (rfl | rfl)
    · exact asc_snoc (h.up 0 (.inl rfl)) hl h0
    · exact asc_snoc (h.up 1 (.inr rfl)) hl h1
  obtain ⟨ns, ps, e, hn, hp⟩ := h.ex
  have eo : (zs ++ [z])[ns.length]? = some org := by rw [e]; simp
  have ez : (zs ++ [z])[zs.length]? = some z := by simp
  have lt : ns.length < zs.length := by rw [e]; simp
  have p0 := (up 0 (.inl rfl)).lt lt eo ez
  have p1 := (up 1 (.inr rfl)).lt lt eo ez
  have q0 : 0 < z.1.1 := (val_pos lx.pos).mpr (by
    rw [show val (sd 0 org) = 0 from val_zero] at p0
    exact p0)
  have q1 : 0 < z.2.1 := (val_pos ly.pos).mpr (by
    rw [show val (sd 1 org) = 0 from val_zero] at p1
    exact p1)
  refine ⟨fun y hy => ?_, up, ns, ps ++ [z], by rw [e]; simp, hn, fun y hy => ?_⟩
  · rcases List.mem_append.mp hy with hy | hy
    · exact (h.l y hy).mono hnm
    · rw [List.mem_singleton.mp hy]
      exact ⟨lx, ly, by rw [sg_p q0, sg_p q1]⟩
  · rcases List.mem_append.mp hy with hy | hy
    · exact hp y hy
    · rw [List.mem_singleton.mp hy]
      exact q0
theorem LQ.cons {n m : Nat} {zs : List Pt} {z z' : Pt} (h : LQ n zs) (hl : zs[0]? = some z') (hnm : n ≤ m) (lx : Low m z.1) (ly : Low m z.2) (h0 : val z.1 < val z'.1) (h1 : val z.2 < val z'.2) : LQ m (z :: zs) := by
  have up : ∀ s, s = 0 ∨ s = 1 → Asc s (z :: zs) := by
    rintro s (rfl | rfl)
    · exact asc_cons (h.up 0 (.inl rfl)) fun y hy => by
        rw [hl] at hy
        cases hy
        exact h0
    · exact asc_cons (h.up 1 (.inr rfl)) fun y hy => by
        rw [hl] at hy
        cases hy
        exact h1
  obtain ⟨ns, ps, e, hn, hp⟩ := h.ex
  have eo : (z :: zs)[ns.length + 1]? = some org := by rw [e]; simp
  have ez : (z :: zs)[0]? = some z := rfl
  have p0 := (up 0 (.inl rfl)).lt (Nat.succ_pos _) ez eo
  have p1 := (up 1 (.inr rfl)).lt (Nat.succ_pos _) ez eo
  have q0 : z.1.1 < 0 := (val_negl lx.pos).mpr (by
    rw [show val (sd 0 org) = 0 from val_zero] at p0
    exact p0)
  have q1 : z.2.1 < 0 := (val_negl ly.pos).mpr (by
    rw [show val (sd 1 org) = 0 from val_zero] at p1
    exact p1)
  refine ⟨fun y hy => ?_, up, z :: ns, ps, by rw [e]; simp, fun y hy => ?_, hp⟩
  · rcases List.mem_cons.mp hy with hy | hy
    · rw [hy]
      exact ⟨lx, ly, by rw [sg_n q0, sg_n q1]⟩
    · exact (h.l y hy).mono hnm
  · rcases List.mem_cons.mp hy with hy | hy
    · rw [hy]
      exact q0
    · exact hn y hy
/-- the law's points -/
structure LP (n : Nat) (zs : List Pt) : Prop where
  q : LQ n zs
  l2 : 2 ≤ zs.length
  l20 : zs.length ≤ 20

theorem cut_from {xs : List V} {k : Nat} (h : k ≤ xs.length) : cutV xs (some (k : Int)) none = xs.drop k := by
  unfold cutV
  rw [HT.sIx_nat, HT.sIx_none, Nat.min_eq_left h, List.take_of_length_le (by rw [List.length_drop]; omega)]
abbrev FrRows (H : Hp) (rs : List Addr) (xs : List Q2) : Prop := Paired (FrQ H) rs xs
theorem FrRows.same {H H' : Hp} {rs : List Addr} {xs : List Q2} (h : FrRows H rs xs) (s : Same H H') : FrRows H' rs xs := Paired.imp h fun _ _ q => FrQ.same q s
theorem FrRows.nl {H H' : Hp} {rs : List Addr} {xs : List Q2} (h : FrRows H rs xs) (s : NL H H') : FrRows H' rs xs := Paired.imp h fun _ _ q => FrQ.nl q s
theorem AmAt.nl {C p : Addr} {H H' : Hp} {t b : Int} (h : AmAt C H p t b) (s : NL H H') : AmAt C H' p t b := let ⟨dx, e⟩ := h; ⟨dx, s _ _ (fun _ z => nomatch z) e⟩
theorem IsP.nl {C : Addr} {v : V} {H H' : Hp} {t b : Int} (h : IsP C H v t b) (s : NL H H') : IsP C H' v t b := by
  rcases h with h | ⟨q, e, h⟩
  · exact .inl h
  · exact .inr ⟨q, e, h.nl s⟩
theorem PtP.nl {C : Addr} {H H' : Hp} {v : V} {z : Pt} (h : PtP C H v z) (s : NL H H') : PtP C H' v z :=
  let ⟨t, u, w, e, et, p, q⟩ := h
  ⟨t, u, w, e, s _ _ (fun _ z => nomatch z) et, p.nl s, q.nl s⟩
theorem RowA.nl {C : Addr} {H H' : Hp} {r : Addr} {z : Pt} (h : RowA C H r z) (s : NL H H') : RowA C H' r z :=
  let ⟨p, q, e, ap, aq⟩ := h
  ⟨p, q, s _ _ (fun _ z => nomatch z) e, ap.nl s, aq.nl s⟩
/-- a curve, the address of its points told -/
structure CuAt (A C : Addr) (H : Hp) (c l : Addr) (zs : List Pt) : Prop where
  e : ∃ dx, H c = some (.ins C dx (putF "_points" (.ref l) []))
  r : Crv A H l zs
theorem CuAt.cu {A C : Addr} {H : Hp} {c l : Addr} {zs : List Pt} (h : CuAt A C H c l zs) : Cu A C H c zs := let ⟨dx, e⟩ := h.e; ⟨dx, l, e, h.r⟩
/-- lists are changed, not that one -/
theorem CuAt.nl {A C : Addr} {H H' : Hp} {c l : Addr} {zs : List Pt} (h : CuAt A C H c l zs) (s : NL H H') (k : ∀ o, H l = some o → H' l = some o) : CuAt A C H' c l zs :=
  let ⟨dx, e⟩ := h.e
  let ⟨rs, el, p⟩ := h.r.ex
  ⟨⟨dx, s _ _ (fun _ z => nomatch z) e⟩, rs, k _ el, Paired.imp p fun _ _ q => q.nl s⟩
theorem CuAt.same {A C : Addr} {H H' : Hp} {c l : Addr} {zs : List Pt} (h : CuAt A C H c l zs) (s : Same H H') : CuAt A C H' c l zs := h.nl (NL.of s) fun _ e => s _ _ e
theorem CuAt.mov {A C p : Addr} {H H' : Hp} {c l : Addr} {zs : List Pt} (h : CuAt A C H c l zs) (m : Mov p H H') (hp : PotAt H p) (n : l ≠ p) : CuAt A C H' c l zs := h.nl (NL.mov m hp) fun _ e => m.keep _ _ n e
def nz (z : Pt) : Bool := !decide (z.1.1 = 0)
theorem filt_all {α : Type} {f : α → Bool} {l : List α} (h : ∀ z ∈ l, f z = true) : l.filter f = l := List.filter_eq_self.mpr h
theorem filt_no {α : Type} {f : α → Bool} {l : List α} (h : ∀ z ∈ l, f z = false) : l.filter f = [] := List.filter_eq_nil_iff.mpr fun z hz => by rw [h z hz]; simp
theorem isNeg_org : isNeg org = false := by decide
theorem isPos_org : isPos org = false := by decide
theorem nz_org : nz org = false := by decide
theorem withO_self {zs : List Pt} (h : ∃ ns ps, zs = ns ++ org :: ps ∧ (∀ z ∈ ns, z.1.1 < 0) ∧ (∀ z ∈ ps, 0 < z.1.1)) : withO zs = zs ∧ withO (zs.filter nz) = zs := by
  obtain ⟨ns, ps, e, hn, hp⟩ := h
  have f1 : ns.filter isNeg = ns := filt_all fun z hz => by have := hn z hz; simp [isNeg, this]
  have f2 : ns.filter isPos = [] := filt_no fun z hz => by have := hn z hz; simp [isPos]; omega
  have f3 : ps.filter isNeg = [] := filt_no fun z hz => by have := hp z hz; simp [isNeg]; omega
  have f4 : ps.filter isPos = ps := filt_all fun z hz => by have := hp z hz; simp [isPos, this]
  have f5 : ns.filter nz = ns := filt_all fun z hz => by have := hn z hz; simp [nz]; omega
  have f6 : ps.filter nz = ps := filt_all fun z hz => by have := hp z hz; simp [nz]; omega
  have e1 : zs.filter nz = ns ++ ps := by
    rw [e, List.filter_append, List.filter_cons, nz_org, f5, f6]
    simp
  constructor
  · unfold withO
    rw [e, List.filter_append, List.filter_append, List.filter_cons, List.filter_cons, isNeg_org, isPos_org, f1, f2, f3, f4]
    simp
  · unfold withO
    rw [e1, e, List.filter_append, List.filter_append, f1, f2, f3, f4]
    simp
theorem ltq_of {x y : Q2} {n m : Nat} (lx : Low n x) (ly : Low m y) (h : val x < val y) : ltQ x y := (val_lt lx.pos ly.pos).mpr h
theorem asc_filter {s : Nat} {zs : List Pt} (f : Pt → Bool) (h : Asc s zs) : Asc s (zs.filter f) := by
  have key : ∀ l : List Pt, l.Sublist zs → Asc s l := by
    intro l hl i z z' hz hz'
    have hl2 : [z, z'].Sublist zs := by
      refine List.Sublist.trans ?_ hl
      have h1 := (List.getElem?_eq_some_iff.mp hz').1
      have e : l.drop i = z :: z' :: l.drop (i + 2) := by
        have e1 := List.getElem?_eq_some_iff.mp hz
        have e2 := List.getElem?_eq_some_iff.mp hz'
        obtain ⟨g1, g2⟩ := e1
        obtain ⟨g3, g4⟩ := e2
        rw [List.drop_eq_getElem_cons g1, List.drop_eq_getElem_cons g3, g2, g4]
      refine List.Sublist.trans ?_ (List.drop_sublist i l)
      rw [e]
      exact .cons₂ _ (.cons₂ _ (List.nil_sublist _))
    obtain ⟨is, h2, h3⟩ := List.sublist_eq_map_getElem hl2
    have hlen : is.length = 2 := by
      have := congrArg List.length h2
      simpa using this.symm
    obtain ⟨i1, i2, rfl⟩ : ∃ a b, is = [a, b] := by
      match is, hlen with
      | [a, b], _ => exact ⟨a, b, rfl⟩
    simp only [List.map_cons, List.map_nil, List.cons.injEq, and_true] at h2
    have h4 : i1 < i2 := by
      have := h3
      simp at this
      exact this
    exact h.lt (i := i1.val) (j := i2.val) h4 (by rw [h2.1]; simp) (by rw [h2.2]; simp)
  exact key _ List.filter_sublist
theorem pts_of {zs : List Pt} {f : Pt → Bool} {n : Nat} (hn : n ≤ 700) (lp : LP n zs) (h : ∃ z ∈ zs.filter f, z.1.1 ≠ 0) : Pts n (zs.filter f) := by
  have hl : ∀ z ∈ zs.filter f, PtL n z := fun z hz => lp.q.l z (List.mem_filter.mp hz).1
  have l20 := lp.l20
  refine ⟨hl, by omega, fun i z z' hz hz' => ?_, h, ?_⟩
  · have p1 := hl z (List.mem_of_getElem? hz)
    have p2 := hl z' (List.mem_of_getElem? hz')
    exact ⟨ltq_of p1.x p2.x (asc_filter f (lp.q.up 0 (.inl rfl)) i z z' hz hz'), ltq_of p1.y p2.y (asc_filter f (lp.q.up 1 (.inr rfl)) i z z' hz hz')⟩
  · have := List.length_filter_le f zs
    omega
theorem lp_some {zs : List Pt} {n : Nat} (lp : LP n zs) : ∃ z ∈ zs, z.1.1 ≠ 0 := by
  obtain ⟨ns, ps, e, hn, hp⟩ := lp.q.ex
  have l2 := lp.l2
  cases ns with
  | cons z _ => exact ⟨z, by rw [e]; simp, by have := hn z (by simp); omega⟩
  | nil =>
    cases ps with
    | cons z _ => exact ⟨z, by rw [e]; simp, by have := hp z (by simp); omega⟩
    | nil => rw [e] at l2; simp at l2
theorem vN (n : Int) : val ((n, 1) : Q2) = (n : Rat) := by
  show (n : Rat) / ((1 : Int) : Rat) = n
  rw [Rat.intCast_one]
  grind
theorem lowN {n : Int} (h : n.natAbs < 1000) : Low 20 ((n, 1) : Q2) := ⟨(show n.natAbs < 2 ^ 20 from Nat.lt_trans h (by decide)), bd_one, by show (0 : Int) < 1; decide, by simp⟩
theorem made_same {C : Addr} {H : Hp} {x dx : Addr} (h1 : H x = none) (h2 : H dx = none) : Same H (upd (upd H dx (.own x)) x (.ins C dx [])) := fun y o hy => by
  rw [upd_ne (ne_of_none hy h1), upd_ne (ne_of_none hy h2)]
  exact hy
theorem cut_map (rs : List Addr) (lo hi : Option Int) : cutV (rs.map V.ref) lo hi = ((rs.drop (HT.sIx rs.length 0 lo)).take (HT.sIx rs.length rs.length hi - HT.sIx rs.length 0 lo)).map V.ref := by
  unfold cutV
  rw [List.length_map, List.map_take, List.map_drop]
theorem paired_drop {α β : Type} {R : α → β → Prop} : ∀ {as : List α} {bs : List β} {i : Nat}, Paired R as bs → Paired R (as.drop i) (bs.drop i)
  | _, _, 0, h => by simpa using h
  | _, _, _ + 1, .nil => by simpa using Paired.nil
  | _, _, i + 1, .cons _ t => by simpa using paired_drop (i := i) t
theorem paired_take {α β : Type} {R : α → β → Prop} : ∀ {as : List α} {bs : List β} {i : Nat}, Paired R as bs → Paired R (as.take i) (bs.take i)
  | _, _, 0, h => by simpa using Paired.nil
  | _, _, _ + 1, .nil => by simpa using Paired.nil
  | _, _, i + 1, .cons h t => by simpa using Paired.cons h (paired_take (i := i) t)
theorem paired_cut {α β : Type} {R : α → β → Prop} {as : List α} {bs : List β} {i j : Nat} (h : Paired R as bs) : Paired R ((as.drop i).take j) ((bs.drop i).take j) := paired_take (paired_drop h)
def sp_pot (K : PySem.W.Frag) : Sp := fun vs H Q _ => ∃ (sc : Addr) (ns : List Int) (k : Nat), vs = [.ref sc, .int k] ∧ SqL K H sc (ns.map V.int) ∧ ns.length ≤ 63 ∧ k ≤ 1000 ∧
  ∀ H' p, Same H H' → H p = none → PotAt H' p → Q (.ref p) H'
def sp_draw : Sp := fun vs H Q _ => ∃ (p : Addr) (n : Int), vs = [.ref p, .int n] ∧ PotAt H p ∧ 0 < n ∧ Bd 200 n ∧
  ∀ H' d, Mov p H H' → 0 ≤ d → d < n → Q (.int d) H'
def sp_low : Sp := fun vs H Q _ => ∃ (h l : Int), vs = [.int h, .int l] ∧ l ≠ 0 ∧ Bd 8000 h ∧ Bd 8000 l ∧ ∀ H' q, Same H H' → FrQ H' q (rd h l) → Q (.ref q) H'
theorem gcd_mod (t b : Int) : (t % b).gcd b = t.gcd b := by
  rw [Int.gcd_left_eq_iff]
  intro c hc
  have e := Int.emod_add_mul_ediv t b
  obtain ⟨k, hk⟩ := hc
  constructor
  · rintro ⟨m, hm⟩
    exact ⟨m + k * (t / b), by rw [← e, hm]; grind⟩
  · rintro ⟨m, hm⟩
    exact ⟨m - k * (t / b), by grind⟩
/-- a def of two fractions -/
def sp_fr2 (f : Q2 → Q2 → Q2) : Sp := fun vs H Q _ => ∃ (p q : Addr) (x y : Q2) (n : Nat), vs = [.ref p, .ref q] ∧ FrQ H p x ∧ FrQ H q y ∧ Low n x ∧ Low n y ∧ n ≤ 3900 ∧ ∀ H' r, Same H H' → FrQ H' r (f x y) → Q (.ref r) H'
def plusF (x y : Q2) : Q2 := rd (x.1 * y.2 + y.1 * x.2) (x.2 * y.2)
def timesF (x y : Q2) : Q2 := rd (x.1 * y.1) (x.2 * y.2)
def sp_amount (C : Addr) : Sp := fun vs H Q _ => ∃ (p : Addr) (x : Q2) (n : Nat), vs = [.ref p] ∧ FrQ H p x ∧ Low n x ∧ n ≤ 8000 ∧ ∀ H' v, Same H H' → IsP C H' v x.1 x.2 → Q v H'
section
variable {P : Program} {w : World} {K : PySem.W.Frag} {mg : Str → Option Value} {base : Heap} {a : Ad}

theorem ok_pot (T : Txt K mg a) : FnOk P w K mg base CX0 1 a.f_pot a.d_pot ["_law_script", "_law_k"] (sp_pot K) := by
  refine T.F_pot.ok sc_pot (fun vs H Q E h => ?_) (fun cdv A outer s H vs Q E hr h => ?_)
  · obtain ⟨sc, ns, k, rfl, _⟩ := h
    rfl
  · obtain ⟨sc, ns, k, rfl, hS, hlen, hk, q⟩ := h
    have fin : ∀ c : Int, 0 ≤ c → ∀ p, H p = none → Q (.ref p) (upd H p (.lst [.int (if c - 10 ^ (18 : Int).toNat > 0 then c - 10 ^ (18 : Int).toNat else 0), .int ((c % 2147483563 * 40692 + 8117 * (k : Int) + 53) % 2147483629 + 1)])) := by
      intro c hc p hp
      refine q _ p (Lb.Same.upd hp) hp ⟨_, _, upd_same, ?_, ?_, ?_⟩
      · split <;> omega
      · omega
      · omega
    refine ⟨_, (pss_cons (ps_set (i := 2) sc_pot.nd rfl (by first | exact Or.inl rfl | exact Or.inr rfl) (pe_op op_add (pe_op op_mulX pe_int (pv 1)) pe_int))
 (pss_cons (ps_if (pt_cmpR op_lt (pv 1) (pe_callB (call_lenK (K := K) rfl) (by rfl) T.b_len (by decide +kernel) (pa_cons (pv 0) pa_nil)) (nomark _)) (pss_one (ps_set (i := 2) sc_pot.nd rfl (by first | exact Or.inl rfl | exact Or.inr rfl) (pe_callB call_abs (by rfl) T.b_abs (by decide +kernel) (pa_cons (pe_ix (ix_listK (K := K) rfl) (pv 0) (pv 1) (fun _ _ => rfl)) pa_nil)))) pss_nil)
 (pss_one (ps_ret (pe_lst (pa_cons (pe_callB (call_max2 rfl) (by rfl) T.b_max (by decide +kernel) (pa_cons pe_int (pa_cons (pe_op op_sub (pv 2) (pe_op op_pow pe_int pe_int)) pa_nil))) (pa_cons (pe_op op_add (pe_op op_mod (pe_callTy call_int1 (by rfl) T.b_int (by decide +kernel) (pa_cons (pe_op op_add (pe_op op_add (pe_op op_mulX (pe_op op_mod (pe_callTy call_int1 (by rfl) T.b_int (by decide +kernel) (pa_cons (pv 2) pa_nil)) pe_int) pe_int) (pe_op op_mulX pe_int (pv 1))) pe_int) pa_nil)) pe_int) pe_int) pa_nil))))))), ?_⟩
    refine ⟨_, rfl, _, _, rfl, rfl, mulx_ok (a := 100) (b := 100) (by decide) (by omega) (by decide), _, _, rfl, rfl, ?_⟩
    -- if k < len(script)
    refine ⟨_, rfl, _, rfl, _, _, rfl, .inl hS, _, _, rfl, rfl, _, rfl, ?_⟩
    rw [List.length_map]
    refine ite2 (fun hlt => ?_) (fun _ => ?_)
    · have hlt' : k < ns.length := by simpa using hlt
      have hget : (ns.map V.int)[k]? = some (V.int ns[k]) := by simp [hlt']
      refine ⟨_, rfl, _, rfl, _, _, _, _, rfl, rfl, hS, atI_nat hget, _, rfl, ?_⟩
      refine ⟨_, rfl, _, _, rfl, rfl, ⟨by decide, by decide, by decide⟩, _, _, rfl, rfl, _, _, rfl, ?_⟩
      refine ⟨_, rfl, .inl ⟨_, rfl, _, _, rfl, rfl, (by show (0 : Int) < _; decide), _, _, rfl, rfl, mulx_ok (a := 100) (b := 100) (by omega) (by decide) (by decide), ?_⟩⟩
      refine ⟨_, rfl, _, _, rfl, rfl, mulx_ok (a := 100) (b := 100) (by decide) (by omega) (by decide), _, _, rfl, rfl, _, _, rfl, rfl, ?_⟩
      refine .inl ⟨_, rfl, _, _, rfl, rfl, (by show (0 : Int) < _; decide), _, _, rfl, rfl, sz, fun p hp => ?_⟩
      exact fin _ (by split <;> omega) p hp
    · refine ⟨_, rfl, _, _, rfl, rfl, ⟨by decide, by decide, by decide⟩, _, _, rfl, rfl, _, _, rfl, ?_⟩
      refine ⟨_, rfl, .inl ⟨_, rfl, _, _, rfl, rfl, (by show (0 : Int) < _; decide), _, _, rfl, rfl, mulx_ok (a := 100) (b := 100) (by omega) (by decide) (by decide), ?_⟩⟩
      refine ⟨_, rfl, _, _, rfl, rfl, mulx_ok (a := 100) (b := 100) (by decide) (by omega) (by decide), _, _, rfl, rfl, _, _, rfl, rfl, ?_⟩
      refine .inl ⟨_, rfl, _, _, rfl, rfl, (by show (0 : Int) < _; decide), _, _, rfl, rfl, sz, fun p hp => ?_⟩
      exact fin _ (by omega) p hp

theorem ok_draw (T : Txt K mg a) : FnOk P w K mg base CX0 1 a.f_draw a.d_draw ["_law_pot_here", "_law_many"] sp_draw := by
  refine T.F_draw.ok sc_draw (fun vs H Q E h => ?_) (fun cdv A outer s H vs Q E hr h => ?_)
  · obtain ⟨p, n, rfl, _⟩ := h
    rfl
  · obtain ⟨p, n, rfl, ⟨x, y, hp, hx, hy0, hy1⟩, hn, hb, q⟩ := h
    have S := SqL.of (K := K) hp
    have e0 : atI ([.int x, .int y] : List V) ((0 : Nat) : Int) = some (.int x) := atI_nat rfl
    have e1 : atI ([.int x, .int y] : List V) ((1 : Nat) : Int) = some (.int y) := atI_nat rfl
    refine ⟨_, (pss_cons (ps_if (pt_cmpR op_gt (pe_ix (ix_listK (K := K) rfl) (pv 0) pe_int (fun _ _ => rfl)) pe_int (nomark _)) (pss_cons (ps_asg (pe_callB call_divmodW (by rfl) T.b_divmod (by decide +kernel) (pa_cons (pe_ix (ix_listK (K := K) rfl) (pv 0) pe_int (fun _ _ => rfl)) (pa_cons (pv 1) pa_nil))) (pg_tupK (K := K) (n := 2) rfl rfl (pgs_cons (pg_sub (pv 0) pe_int set_list) (pgs_cons (pg_name (i := 2) sc_draw.nd rfl (by first | exact Or.inl rfl | exact Or.inr rfl)) pgs_nil))))
 (pss_one (ps_ret (pv 2)))) pss_nil)
 (pss_cons (ps_asg (pe_op op_mod (pe_callTy call_int1 (by rfl) T.b_int (by decide +kernel) (pa_cons (pe_op op_add (pe_op op_mulX (pe_ix (ix_listK (K := K) rfl) (pv 0) pe_int (fun _ _ => rfl)) pe_int) pe_int) pa_nil)) pe_int) (pg_sub (pv 0) pe_int set_list))
 (pss_one (ps_ret (pe_op op_mod (pe_callTy call_int1 (by rfl) T.b_int (by decide +kernel) (pa_cons (pe_op op_fdivW (pe_op op_mod (pe_callTy call_int1 (by rfl) T.b_int (by decide +kernel) (pa_cons (pe_op op_mulX (pe_ix (ix_listK (K := K) rfl) (pv 0) pe_int (fun _ _ => rfl)) (pe_ix (ix_listK (K := K) rfl) (pv 0) pe_int (fun _ _ => rfl))) pa_nil)) pe_int) pe_int) pa_nil)) (pv 1)))))), ?_⟩
    refine ⟨_, rfl, _, _, _, _, rfl, rfl, S, e0, _, _, rfl, rfl, _, rfl, ?_⟩
    refine ite2 (fun hlt => ?_) (fun _ => ?_)
    · have hlt : 0 < x := by simpa using hlt
      refine ⟨_, rfl, _, _, _, _, rfl, rfl, S, e0, _, rfl, _, _, rfl, divp_small hn (hb.mono (by decide)), fun t ht => ?_⟩
      have npt : p ≠ t := ne_of_none hp ht
      refine ⟨_, _, rfl, SqT.of upd_same, rfl, ?_⟩
      have hp2 : upd H t (.tup [.int (x / n), .int (x % n)]) p = some (.lst [.int x, .int y]) := by rw [upd_ne npt]; exact hp
      refine ⟨_, _, rfl, ⟨_, rfl, _, _, _, 0, rfl, rfl, hp2, rfl, _, _, rfl, ⟨rfl, ?_⟩⟩⟩
      refine ⟨_, rfl, ?_⟩
      refine q _ _ ⟨fun b o nb e => ?_, _, _, upd_same, Int.ediv_nonneg hx (by omega), hy0, hy1⟩ (Int.emod_nonneg _ (by omega)) (Int.emod_lt_of_pos _ hn)
      rw [upd_ne nb, upd_ne (ne_of_none e ht)]
      exact e
    · refine ⟨_, rfl, _, _, _, _, rfl, rfl, S, e1, _, _, rfl, rfl, mulx_ok (a := 100) (b := 100) (by omega) (by decide) (by decide), _, _, rfl, rfl, .inl ⟨_, rfl, _, _, rfl, rfl, (by show (0 : Int) < _; decide), ?_⟩⟩
      refine ⟨_, rfl, _, _, _, 1, rfl, rfl, hp, rfl, ?_⟩
      have e2 : ∀ z : Int, atI ([.int x, .int z] : List V) ((1 : Nat) : Int) = some (.int z) := fun z => atI_nat rfl
      have S2 : ∀ z : Int, SqL K (upd H p (.lst ([V.int x, V.int y].set 1 (.int z)))) p [.int x, .int z] := fun z => SqL.of upd_same
      refine ⟨_, rfl, _, _, _, _, rfl, rfl, S2 _, e2 _, _, rfl, _, _, _, _, rfl, rfl, S2 _, e2 _, _, _, rfl, rfl, mulx_ok (a := 100) (b := 100) (by omega) (by omega) (by decide), ?_⟩
      refine .inl ⟨_, rfl, _, _, rfl, rfl, (by show (0 : Int) < _; decide), _, _, rfl, rfl, ⟨(by show (0 : Int) < _; decide), (by decide)⟩, .inl ⟨_, rfl, _, rfl, _, _, rfl, rfl, hn, ?_⟩⟩
      refine q _ _ ⟨fun b o nb e => ?_, _, _, upd_same, hx, by omega, by omega⟩ (Int.emod_nonneg _ (by omega)) (Int.emod_lt_of_pos _ hn)
      rw [upd_ne nb]
      exact e
theorem ok_low (T : Txt K mg a) : FnOk P w K mg base CX0 1 a.f_low a.d_low ["_law_top", "_law_bottom"] sp_low := by
  refine T.F_low.ok sc_low (fun vs H Q E h => ?_) (fun cdv A outer s H vs Q E hr h => ?_)
  · obtain ⟨x, y, rfl, _⟩ := h
    rfl
  · obtain ⟨x, y, rfl, hy, bx, bY, q⟩ := h
    refine ⟨_, (pss_cons (ps_par (i := 2) (j := 3) rfl sc_low.nd rfl rfl (by decide) rfl rfl (pa_cons (pe_callB call_abs (by rfl) T.b_abs (by decide +kernel) (pa_cons (pv 0) pa_nil)) (pa_cons (pe_callB call_abs (by rfl) T.b_abs (by decide +kernel) (pa_cons (pv 1) pa_nil)) pa_nil)) (by rfl))
 (pss_cons (ps_while PassesOwn.never (pt_cmpR op_gt (pv 3) pe_int (nomark _)) (pss_one (ps_par (i := 2) (j := 3) rfl sc_low.nd rfl rfl (by decide) rfl rfl (pa_cons (pv 3) (pa_cons (pe_op op_mod (pe_callTy call_int1 (by rfl) T.b_int (by decide +kernel) (pa_cons (pv 2) pa_nil)) (pv 3)) pa_nil)) (by rfl))))
 (pss_cons (ps_set (i := 2) sc_low.nd rfl (by first | exact Or.inl rfl | exact Or.inr rfl) (pe_ifExp (pt_cmpR op_gt (pv 1) pe_int (nomark _)) (pv 2) (pe_op op_sub pe_int (pv 2))))
 (pss_one (ps_ret (pe_tup (pa_cons (pe_op op_fdivX (pv 0) (pv 2)) (pa_cons (pe_op op_fdivX (pv 1) (pv 2)) pa_nil)))))))), ?_⟩
    refine ⟨_, rfl, _, rfl, _, rfl, _, rfl, _, _, rfl, ?_⟩
    refine while_by (fun σ H' => H' = H ∧ ∃ u v : Int, σ = [some (.int x), some (.int y), some (.int u), some (.int v)] ∧ 0 ≤ u ∧ 0 ≤ v ∧ u.gcd v = x.gcd y) (fun σ _ => (ivals σ 3).toNat)
      ⟨rfl, _, _, rfl, by split <;> omega, by split <;> omega, ?_⟩ ?_ (fun σ H Q Q' k ⟨v, e, i, j, e1, e2, b, e3, q⟩ => ⟨v, e, i, j, e1, e2, b, e3, k _ _ q⟩)
    · split <;> split <;> simp
    · rintro σ H' ⟨rfl, u, v, rfl, hu, hv, g⟩
      refine ⟨_, rfl, _, _, rfl, rfl, _, rfl, ?_⟩
      refine ite2 (fun hlt => ?_) (fun hlt => ?_)
      · have hlt : 0 < v := by simpa using hlt
        refine ⟨_, rfl, _, rfl, .inl ⟨_, rfl, _, rfl, _, _, rfl, rfl, hlt, _, _, rfl, ?_⟩⟩
        refine ⟨⟨rfl, _, _, rfl, hv, Int.emod_nonneg _ (by omega), ?_⟩, ?_⟩
        · rw [Int.gcd_comm, gcd_mod]
          exact g
        · show (u % v).toNat < v.toNat
          have := Int.emod_lt_of_pos u hlt
          have := Int.emod_nonneg u (show v ≠ 0 by omega)
          omega
      · have e0 : v = 0 := by
          have : ¬ 0 < v := by simpa using hlt
          omega
        subst e0
        have e : u = ((Nat.gcd x.natAbs y.natAbs : Nat) : Int) := by
          have g' : u.natAbs = Nat.gcd x.natAbs y.natAbs := by
            rw [Int.gcd_zero] at g
            exact g
          omega
        subst e
        have hd : rdD x y ≠ 0 := by
          have : 0 < Nat.gcd x.natAbs y.natAbs := Nat.gcd_pos_of_pos_right _ (by omega)
          unfold rdD
          split <;> omega
        have bd : Bd 8000 (rdD x y) := by
          have : Nat.gcd x.natAbs y.natAbs ≤ y.natAbs := Nat.gcd_le_right _ (by omega)
          refine bY.le ?_
          unfold rdD
          split <;> omega
        refine ⟨_, rfl, _, _, rfl, rfl, _, rfl, ite2 (fun h1 => ?_) (fun h1 => ?_)⟩
        · have h1 : 0 < y := by simpa using h1
          have eD : ((Nat.gcd x.natAbs y.natAbs : Nat) : Int) = rdD x y := by unfold rdD; rw [if_neg (by omega)]
          rw [eD]
          refine ⟨_, rfl, _, rfl, _, rfl, _, _, rfl, rfl, bd.cx hd (by decide), _, rfl, _, rfl, _, _, rfl, rfl, bd.cx hd (by decide), sz, fun r hr => q _ r (Lb.Same.upd hr) upd_same⟩
        · have h1 : ¬ 0 < y := by simpa using h1
          have eD : (0 : Int) - ((Nat.gcd x.natAbs y.natAbs : Nat) : Int) = rdD x y := by unfold rdD; rw [if_pos (by omega)]; omega
          refine ⟨_, rfl, _, _, rfl, rfl, ?_⟩
          dsimp only
          rw [eD]
          refine ⟨_, rfl, _, rfl, _, _, rfl, rfl, bd.cx hd (by decide), _, rfl, _, rfl, _, _, rfl, rfl, bd.cx hd (by decide), sz, fun r hr => q _ r (Lb.Same.upd hr) upd_same⟩
theorem ok_minus (T : Txt K mg a) : FnOk P w K mg base CX0 2 a.f_minus a.d_minus ["_law_one", "_law_other"] (sp_fr2 minusF) := by
  refine T.F_minus.ok sc_minus (fun vs H Q E h => ?_) (fun cdv A outer s H vs Q E hr h => ?_)
  · obtain ⟨p, q, x, y, n, rfl, _⟩ := h
    rfl
  · obtain ⟨p, q, x, y, n, rfl, hp, hq, lx, ly, hn, k⟩ := h
    refine ⟨_, (pss_one (ps_ret (pe_call (ok_low T) (hr.mono (by decide)) (by rfl) T.m_low T.F_low.kp (b_low T) .nil pass0 (pa_cons (pe_op op_sub (pe_op op_mulX (pe_ix (ix_tupK (K := K) rfl) (pv 0) pe_int (fun _ _ => rfl)) (pe_ix (ix_tupK (K := K) rfl) (pv 1) pe_int (fun _ _ => rfl))) (pe_op op_mulX (pe_ix (ix_tupK (K := K) rfl) (pv 1) pe_int (fun _ _ => rfl)) (pe_ix (ix_tupK (K := K) rfl) (pv 0) pe_int (fun _ _ => rfl)))) (pa_cons (pe_op op_mulX (pe_ix (ix_tupK (K := K) rfl) (pv 0) pe_int (fun _ _ => rfl)) (pe_ix (ix_tupK (K := K) rfl) (pv 1) pe_int (fun _ _ => rfl))) pa_nil))))), ?_⟩
    have b1 : Bd 3900 x.1 := lx.t.mono hn
    have b2 : Bd 3900 x.2 := lx.b.mono hn
    have b3 : Bd 3900 y.1 := ly.t.mono hn
    have b4 : Bd 3900 y.2 := ly.b.mono hn
    refine ⟨_, rfl, _, _, _, _, rfl, rfl, SqT.of hp, at0, _, rfl, _, _, _, _, rfl, rfl, SqT.of hq, at1, _, _, rfl, rfl, b1.cm b4 (by decide), ?_⟩
    refine ⟨_, rfl, _, _, _, _, rfl, rfl, SqT.of hq, at0, _, rfl, _, _, _, _, rfl, rfl, SqT.of hp, at1, _, _, rfl, rfl, b3.cm b2 (by decide), _, _, rfl, rfl, ?_⟩
    refine ⟨_, rfl, _, _, _, _, rfl, rfl, SqT.of hp, at1, _, rfl, _, _, _, _, rfl, rfl, SqT.of hq, at1, _, _, rfl, rfl, b2.cm b4 (by decide), ?_⟩
    exact ⟨_, _, rfl, mul_pos_ne lx.pos ly.pos, ((b1.mul b4).sub (b3.mul b2)).mono (by decide), (b2.mul b4).mono (by decide), fun H' r s f => k _ _ s f⟩
theorem ok_amount (T : Txt K mg a) : FnOk P w K mg base CX0 4 a.f_amount a.d_amount ["_law_part_here"] (sp_amount a.c_Amount) := by
  refine T.F_amount.ok sc_amount (fun vs H Q E h => ?_) (fun cdv A outer s H vs Q E hr h => ?_)
  · obtain ⟨p, x, n, rfl, _⟩ := h
    rfl
  · obtain ⟨p, x, n, rfl, hp, lx, hn, k⟩ := h
    refine ⟨_, (pss_one (ps_ret (pe_ifExp (pt_cmpR op_eq (pe_ix (ix_tupK (K := K) rfl) (pv 0) pe_int (fun _ _ => rfl)) pe_int (nomark _)) (pe_ix (ix_tupK (K := K) rfl) (pv 0) pe_int (fun _ _ => rfl)) (pe_make T.mkA (ok_Amount_init_ T) (hr.mono (by decide)) (by rfl) T.mA (b_Amount_init_ T) .nil pass0 (pa_cons (pe_ix (ix_tupK (K := K) rfl) (pv 0) pe_int (fun _ _ => rfl)) (pa_cons (pe_ix (ix_tupK (K := K) rfl) (pv 0) pe_int (fun _ _ => rfl)) pa_nil)))))), ?_⟩
    refine ⟨_, rfl, _, _, _, _, rfl, rfl, SqT.of hp, at1, rfl, _, rfl, ite2 (fun h1 => ?_) (fun h1 => ?_)⟩
    · have h1 : x.2 = 1 := by simpa using h1
      exact ⟨_, rfl, _, _, _, _, rfl, rfl, SqT.of hp, at0, k _ _ (Same.refl _) (.inl ⟨rfl, h1⟩)⟩
    · refine ⟨_, rfl, _, _, _, _, rfl, rfl, SqT.of hp, at0, _, rfl, _, _, _, _, rfl, rfl, SqT.of hp, at1, ?_⟩
      refine fun q dx hq hdx ne => ⟨q, dx, _, _, rfl, by have := lx.pos; omega, lx.t.mono hn, lx.b.mono hn, upd_same, fun H' kp e => ⟨rfl, ?_⟩⟩
      obtain ⟨s, m⟩ := made_am hq hdx ne kp e
      obtain ⟨e1, e2⟩ := rd_self lx.pos lx.g
      rw [e1, e2] at m
      exact k _ _ s (.inr ⟨q, rfl, m⟩)
end
end K19

set_option Elab.async false
set_option linter.all false
set_option maxRecDepth 100000
set_option maxHeartbeats 4000000
set_option exponentiation.threshold 10000
namespace K19
open PySem L2 Lb
open C8 (pss_cut)
def sp_read (C : Addr) : Sp := fun vs H Q _ => ∃ (p : Addr) (x : Q2), vs = [.ref p] ∧ AmQ C H p x ∧ ∀ H' q, Same H H' → FrQ H' q x → Q (.ref q) H'
def sp_step : Sp := fun vs H Q _ => ∃ (p : Addr), vs = [.ref p] ∧ PotAt H p ∧ ∀ H' d, Mov p H H' → 1 ≤ d → d ≤ 1000000 → Q (.int d) H'
def sp_points : Sp := fun vs H Q _ => ∃ (p : Addr), vs = [.ref p] ∧ PotAt H p ∧ ∀ H' l zs, Mov p H H' → H l = none → Spots H' l zs → LP 22 zs → zs.length ≤ 9 → Q (.ref l) H'
theorem four_at {a b c d : Int} {i : Int} (h0 : 0 ≤ i) (h4 : i < 4) : ∃ n, atI [V.int a, V.int b, V.int c, V.int d] i = some (.int n) ∧ (n = a ∨ n = b ∨ n = c ∨ n = d) := by
  rcases (show i = 0 ∨ i = 1 ∨ i = 2 ∨ i = 3 by omega) with rfl | rfl | rfl | rfl
  · exact ⟨a, atI_nat (j := 0) rfl, .inl rfl⟩
  · exact ⟨b, atI_nat (j := 1) rfl, .inr (.inl rfl)⟩
  · exact ⟨c, atI_nat (j := 2) rfl, .inr (.inr (.inl rfl))⟩
  · exact ⟨d, atI_nat (j := 3) rfl, .inr (.inr (.inr rfl))⟩
theorem PotAt.ne_ref {p l : Addr} {H : Hp} (hp : PotAt H p) (h : H l = none) : l ≠ p := by
  obtain ⟨_, _, e, _⟩ := hp
  exact (ne_of_none e h).symm
/-- a point of the law, its parts over w and h -/
def gP (w h : Int) (p : Q2) : Pt := (rd p.1 w, rd p.2 h)
theorem gP_low {w h : Int} {p : Q2} (hw : 1 ≤ w ∧ w ≤ 9) (hh : 1 ≤ h ∧ h ≤ 9) (bx : Bd 22 p.1) (by_ : Bd 22 p.2) : Low 22 (gP w h p).1 ∧ Low 22 (gP w h p).2 :=
  ⟨rd_low (by omega) bx (by unfold Bd; omega), rd_low (by omega) by_ (by unfold Bd; omega)⟩
def sp_passed (A : Addr) : Sp := fun vs H Q _ => ∃ (p l : Addr) (zs : List Pt) (n : Nat), vs = [.ref p, .ref l] ∧ PotAt H p ∧ l ≠ p ∧ Spots H l zs ∧ LP n zs ∧ n ≤ 700 ∧
  ∀ H' hd ws zs', Mov p H H' → H hd = none → (H' hd = some (.lst ws) ∨ H' hd = some (.tup ws)) → Paired (PtP A H') ws zs' → Pts n zs' → withO zs' = zs → ws.length ≤ 20 → Q (.ref hd) H'
section
variable {P : Program} {w : World} {K : PySem.W.Frag} {mg : Str → Option Value} {base : Heap} {a : Ad}
theorem ok_read (T : Txt K mg a) : FnOk P w K mg base CX0 3 a.f_read a.d_read ["_law_told_here"] (sp_read a.c_Amount) := by
  refine T.F_read.ok sc_read (fun vs H Q E h => ?_) (fun cdv A outer s H vs Q E hr h => ?_)
  · obtain ⟨p, x, rfl, _⟩ := h
    rfl
  · obtain ⟨p, x, rfl, ⟨dx, hp⟩, k⟩ := h
    refine ⟨_, (pss_one (ps_ret (pe_tup (pa_cons (pe_prop (pv 0) T.cl T.p_top (ok_Amounttop T) (hr.mono (by decide)) (b_Amounttop T) .nil pass0 rfl) (pa_cons (pe_prop (pv 0) T.cl T.p_bottom (ok_Amountbottom T) (hr.mono (by decide)) (b_Amountbottom T) .nil pass0 rfl) pa_nil))))), ?_⟩
    refine ⟨_, rfl, p, dx, _, rfl, hp, p, _, _, rfl, ⟨dx, hp⟩, ?_⟩
    refine ⟨_, rfl, p, dx, _, rfl, hp, p, _, _, rfl, ⟨dx, hp⟩, sz, fun t ht => k _ t (Lb.Same.upd ht) upd_same⟩
theorem ok_step (T : Txt K mg a) : FnOk P w K mg base CX0 2 a.f_step a.d_step ["_law_pot_here"] sp_step := by
  refine T.F_step.ok sc_step (fun vs H Q E h => ?_) (fun cdv A outer s H vs Q E hr h => ?_)
  · obtain ⟨p, rfl, _⟩ := h
    rfl
  · obtain ⟨p, rfl, hp, k⟩ := h
    refine ⟨_, (pss_one (ps_ret (pe_op op_add pe_int (pe_call (ok_draw T) (hr.mono (by decide)) (by rfl) T.m_draw T.F_draw.kp (b_draw T) .nil pass0 (pa_cons (pv 0) (pa_cons (pe_ix (ix_listK (K := K) rfl) (pe_lst (pa_cons pe_int (pa_cons pe_int (pa_cons pe_int (pa_cons (pe_op op_pow pe_int pe_int) pa_nil))))) (pe_call (ok_draw T) (hr.mono (by decide)) (by rfl) T.m_draw T.F_draw.kp (b_draw T) .nil pass0 (pa_cons (pv 0) (pa_cons pe_int pa_nil))) (fun _ _ => rfl)) pa_nil)))))), ?_⟩
    refine ⟨_, rfl, _, _, rfl, rfl, ⟨by decide, by decide, by decide⟩, sz, fun l hl => ?_⟩
    have M0 := (Mov.refl hp).same (Lb.Same.upd (o := .lst [V.int 2, V.int 2, V.int 9, V.int (10 ^ (6 : Int).toNat)]) hl)
    refine ⟨_, rfl, p, _, rfl, M0.pot, by decide, by unfold Bd; decide, fun H1 d m1 d0 d1 => ?_⟩
    obtain ⟨n, an, hn⟩ := four_at (a := 2) (b := 2) (c := 9) (d := 10 ^ (6 : Int).toNat) d0 d1
    have nb : 0 < n ∧ n ≤ 1000000 := by
      rcases hn with rfl | rfl | rfl | rfl <;> decide
    have M1 := M0.trans m1
    have nl : l ≠ p := (Mov.refl hp).ne hl
    refine ⟨_, _, _, _, rfl, rfl, SqL.mov m1 nl (SqL.of upd_same), an, p, n, rfl, M1.pot, nb.1, by unfold Bd; omega, fun H2 e m2 e0 e1 => ⟨_, _, rfl, rfl, k _ (1 + e) (M1.trans m2) (by omega) (by omega)⟩⟩
theorem ok_points (T : Txt K mg a) : FnOk P w K mg base CX0 3 a.f_points a.d_points ["_law_pot_here"] sp_points := by
  refine T.F_points.ok sc_points (fun vs H Q E h => ?_) (fun cdv A outer s H vs Q E hr h => ?_)
  · obtain ⟨p, rfl, _⟩ := h
    rfl
  · obtain ⟨p, rfl, hp, k⟩ := h
    refine ⟨_, (pss_cons (ps_par (i := 1) (j := 2) rfl sc_points.nd rfl rfl (by decide) rfl rfl (pa_cons (pe_lst (pa_cons (pe_call (ok_draw T) (hr.mono (by decide)) (by rfl) T.m_draw T.F_draw.kp (b_draw T) .nil pass0 (pa_cons (pv 0) (pa_cons pe_int pa_nil))) (pa_cons (pe_call (ok_draw T) (hr.mono (by decide)) (by rfl) T.m_draw T.F_draw.kp (b_draw T) .nil pass0 (pa_cons (pv 0) (pa_cons pe_int pa_nil))) pa_nil))) (pa_cons (pe_lst (pa_cons (pe_tup (pa_cons pe_int (pa_cons pe_int pa_nil))) pa_nil)) pa_nil)) (by rfl))
 (pss_cons (ps_asg (pe_lc (own := [("_law_part_here", 5)]) (by rfl) sc_points.nd (pi_listK (K := K) rfl (pv 1)) (blkOk_by (own := [("_law_part_here", 5)]) (N := ["_law_pot_here", "_law_sides", "_law_found", "_law_wide", "_law_high", "_law_part_here", "_law_turn", "_law_x", "_law_y"]) (sc := defScope s_points) (by decide +kernel)) (fun _ _ _ _ _ => (pg_name (i := 5) sc_points.nd rfl (by first | exact Or.inl rfl | exact Or.inr rfl))) (fun _ _ _ _ _ => pts_nil) (fun _ _ _ _ _ => (pe_op op_add pe_int (pe_op op_mulX (pe_call (ok_draw T) (hr.mono (by decide)) (by rfl) T.m_draw T.F_draw.kp (b_draw T) .nil pass0 (pa_cons (pv 0) (pa_cons pe_int pa_nil))) (pe_callTy call_int1 (by rfl) T.b_int (by decide +kernel) (pa_cons (pe_cmpR op_eq (pe_call (ok_draw T) (hr.mono (by decide)) (by rfl) T.m_draw T.F_draw.kp (b_draw T) .nil pass0 (pa_cons (pv 0) (pa_cons pe_int pa_nil))) pe_int (nomark _)) pa_nil)))))) (pg_lstK (K := K) (n := 2) rfl rfl (pgs_cons (pg_name (i := 3) sc_points.nd rfl (by first | exact Or.inl rfl | exact Or.inr rfl)) (pgs_cons (pg_name (i := 4) sc_points.nd rfl (by first | exact Or.inl rfl | exact Or.inr rfl)) pgs_nil))))
 (pss_cut (ps_if (pt_cmpR (op_eqD hr.units) (pv 1) (pe_lst (pa_cons pe_int (pa_cons pe_int pa_nil))) (nomark _)) (pss_one (ps_asg pe_int (pg_sub (pv 1) (pe_call (ok_draw T) (hr.mono (by decide)) (by rfl) T.m_draw T.F_draw.kp (b_draw T) .nil pass0 (pa_cons (pv 0) (pa_cons pe_int pa_nil))) set_list))) pss_nil)
 (pss_cons (ps_for PassesOwn.never rfl (pi_range1 rfl T.b_range (pa_cons (pe_ix (ix_listK (K := K) rfl) (pv 1) pe_int (fun _ _ => rfl)) pa_nil)) (pg_name (i := 6) sc_points.nd rfl (by first | exact Or.inl rfl | exact Or.inr rfl)) (pss_cons (ps_asg (pe_ix (ix_listK (K := K) rfl) (pv 2) (pe_un un_neg pe_int) (fun _ _ => rfl)) (pg_tupK (K := K) (n := 2) rfl rfl (pgs_cons (pg_name (i := 7) sc_points.nd rfl (by first | exact Or.inl rfl | exact Or.inr rfl)) (pgs_cons (pg_name (i := 8) sc_points.nd rfl (by first | exact Or.inl rfl | exact Or.inr rfl)) pgs_nil))))
 (pss_one (ps_expr (pe_bm PySem.F.plainAttrs_list PySem.F.slot_list_append PySem.F.type_list_append mt_append (pv 2) (pa_cons (pe_tup (pa_cons (pe_op op_add (pv 7) (pe_call (ok_step T) (hr.mono (by decide)) (by rfl) T.m_step T.F_step.kp (b_step T) .nil pass0 (pa_cons (pv 0) pa_nil))) (pa_cons (pe_op op_add (pv 8) (pe_call (ok_step T) (hr.mono (by decide)) (by rfl) T.m_step T.F_step.kp (b_step T) .nil pass0 (pa_cons (pv 0) pa_nil))) pa_nil))) pa_nil))))))
 (pss_cons (ps_for PassesOwn.never rfl (pi_range1 rfl T.b_range (pa_cons (pe_ix (ix_listK (K := K) rfl) (pv 1) pe_int (fun _ _ => rfl)) pa_nil)) (pg_name (i := 6) sc_points.nd rfl (by first | exact Or.inl rfl | exact Or.inr rfl)) (pss_cons (ps_asg (pe_ix (ix_listK (K := K) rfl) (pv 2) pe_int (fun _ _ => rfl)) (pg_tupK (K := K) (n := 2) rfl rfl (pgs_cons (pg_name (i := 7) sc_points.nd rfl (by first | exact Or.inl rfl | exact Or.inr rfl)) (pgs_cons (pg_name (i := 8) sc_points.nd rfl (by first | exact Or.inl rfl | exact Or.inr rfl)) pgs_nil))))
 (pss_one (ps_set (i := 2) sc_points.nd rfl (by first | exact Or.inl rfl | exact Or.inr rfl) (pe_op op_cat (pe_lst (pa_cons (pe_tup (pa_cons (pe_op op_sub (pv 7) (pe_call (ok_step T) (hr.mono (by decide)) (by rfl) T.m_step T.F_step.kp (b_step T) .nil pass0 (pa_cons (pv 0) pa_nil))) (pa_cons (pe_op op_sub (pv 8) (pe_call (ok_step T) (hr.mono (by decide)) (by rfl) T.m_step T.F_step.kp (b_step T) .nil pass0 (pa_cons (pv 0) pa_nil))) pa_nil))) pa_nil)) (pv 2))))))
 (pss_one (ps_ret (pe_lc (own := [("_law_x", 7), ("_law_y", 8)]) (by rfl) sc_points.nd (pi_listK (K := K) rfl (pv 2)) (blkOk_by (own := [("_law_x", 7), ("_law_y", 8)]) (N := ["_law_pot_here", "_law_sides", "_law_found", "_law_wide", "_law_high", "_law_part_here", "_law_turn", "_law_x", "_law_y"]) (sc := defScope s_points) (by decide +kernel)) (fun _ _ _ _ _ => (pg_tupK (K := K) (n := 2) rfl rfl (pgs_cons (pg_name (i := 7) sc_points.nd rfl (by first | exact Or.inl rfl | exact Or.inr rfl)) (pgs_cons (pg_name (i := 8) sc_points.nd rfl (by first | exact Or.inl rfl | exact Or.inr rfl)) pgs_nil)))) (fun _ _ _ _ _ => pts_nil) (fun _ _ _ _ _ => (pe_tup (pa_cons (pe_call (ok_low T) (hr.mono (by decide)) (by rfl) T.m_low T.F_low.kp (b_low T) .nil pass0 (pa_cons (pv 7) (pa_cons (pv 3) pa_nil))) (pa_cons (pe_call (ok_low T) (hr.mono (by decide)) (by rfl) T.m_low T.F_low.kp (b_low T) .nil pass0 (pa_cons (pv 8) (pa_cons (pv 4) pa_nil))) pa_nil)))))))))))), ?_⟩
    refine ⟨_, rfl, p, _, rfl, hp, by decide, by unfold Bd; decide, fun H1 d1 m1 a0 a1 => ?_⟩
    refine ⟨_, rfl, p, _, rfl, m1.pot, by decide, by unfold Bd; decide, fun H2 d2 m2 b0 b1 => ⟨sz, fun sl hsl => ?_⟩⟩
    obtain ⟨na, rfl⟩ := Int.eq_ofNat_of_zero_le a0
    obtain ⟨nb, rfl⟩ := Int.eq_ofNat_of_zero_le b0
    have M2 := m1.trans m2
    have nsl : sl ≠ p := M2.ne hsl
    have fsl := M2.free hp hsl
    generalize e_H3 : upd _ sl _ = H3
    obtain ⟨s3, e3⟩ := al3 e_H3 hsl
    clear e_H3
    (try dsimp only at e3)
    have M3 := M2.same s3
    refine ⟨sz, fun t0 h0 => ?_⟩
    generalize e_H4 : upd _ t0 _ = H4
    obtain ⟨s4, f4⟩ := al3 e_H4 h0
    clear e_H4
    (try dsimp only at f4)
    refine ⟨sz, fun f hf => ?_⟩
    have M4 := M3.same s4
    have nf : f ≠ p := M4.ne hf
    have ff := M4.free hp hf
    have nfs : f ≠ sl := (ne_of_none (s4 _ _ e3) hf).symm
    generalize e_H5 : upd _ f _ = H5
    obtain ⟨s5, ef⟩ := al3 e_H5 hf
    clear e_H5
    (try dsimp only at ef)
    have M5 := M4.same s5
    have e5 := s5 _ _ (s4 _ _ e3)
    have f5 := s5 _ _ f4
    refine ⟨_, _, rfl, ?_⟩
    -- wide, high
    refine ⟨_, rfl, sl, rfl, ⟨_, SqL.of e5⟩, fun D hD => ?_⟩
    have nD : D ≠ p := M5.ne hD
    have fD := M5.free hp hD
    refine lc_list (K := K) (a := sl) (xs := [V.int (na : Int), V.int (nb : Int)]) (fun i H' => Mov p H5 H' ∧ ∃ vs : List Int, H' D = some (.lst (vs.map V.int)) ∧ vs.length = i ∧ ∀ v ∈ vs, 1 ≤ v ∧ v ≤ 9) ⟨Lb.Same.mov (Lb.Same.upd hD) M5.pot, [], upd_same, rfl, fun v hv => absurd hv List.not_mem_nil⟩ (fun i H' _ b => SqL.of (b.1.keep _ _ nsl e5)) ?_ ?_
    · rintro i v H' hi ⟨M, vs, eD, lv, bv⟩
      have hi2 : i < 2 := (List.getElem?_eq_some_iff.mp hi).1
      refine ⟨rfl, ?_⟩
      refine ⟨_, rfl, p, _, rfl, M.pot, by decide, by unfold Bd; decide, fun Ha da ma c0 c1 => ?_⟩
      refine ⟨_, rfl, p, _, rfl, ma.pot, by decide, by unfold Bd; decide, fun Hb db mb c2 c3 => ⟨rfl, .inr ⟨_, rfl, ?_⟩⟩⟩
      have bk : (if decide (V.int db = V.int 0) = true then (1 : Int) else 0) = 0 ∨ (if decide (V.int db = V.int 0) = true then (1 : Int) else 0) = 1 := by split <;> simp
      generalize (if decide (V.int db = V.int 0) = true then (1 : Int) else 0) = kk at *
      refine ⟨_, _, rfl, rfl, mulx_ok (a := 100) (b := 100) (by omega) (by rcases bk with rfl | rfl <;> decide) (by decide), _, _, rfl, rfl, ?_⟩
      have eDb := mb.keep _ _ nD (ma.keep _ _ nD eD)
      have Mb := (M.trans ma).trans mb
      refine ⟨vs.map V.int, eDb, szlt (by rw [List.length_map]; omega), ⟨fun b o n e => ?_, ?_⟩, vs ++ [1 + da * kk], by rw [upd_same, List.map_append]; rfl, by rw [List.length_append, lv]; rfl, fun v hv => ?_⟩
      · have nbD : b ≠ D := (ne_of_none e hD)
        rw [upd_ne nbD]
        exact Mb.keep b o n e
      · obtain ⟨x, y, e, z⟩ := Mb.pot
        exact ⟨x, y, by rw [upd_ne (Ne.symm nD)]; exact e, z⟩
      · rcases List.mem_append.mp hv with hv | hv
        · exact bv v hv
        · rw [List.mem_singleton.mp hv]
          rcases bk with rfl | rfl <;> omega
    rintro H6 ⟨M6', vs, eD, lv, bv⟩
    obtain ⟨wd, hg, rfl⟩ : ∃ x y, vs = [x, y] := by
      match vs, lv with
      | [x, y], _ => exact ⟨x, y, rfl⟩
    have hwd := bv wd (by simp)
    have hhg := bv hg (by simp)
    have M6 := M5.trans M6'
    have e6 := M6'.keep _ _ nsl e5
    have ef6 := M6'.keep _ _ nf ef
    have f6 := M6'.tup M5.pot f5
    refine ⟨D, _, rfl, SqL.of eD, rfl, _, _, rfl, _, _, rfl, rfl, ?_⟩
    -- no side is empty
    refine ⟨fun σ H' => ∃ x y : Nat, x ≤ 4 ∧ y ≤ 4 ∧ 0 < x + y ∧ (∃ u, σ = [some (.ref p), some (.ref sl), some (.ref f), some (.int wd), some (.int hg), u, none, none, none]) ∧ Mov p H H' ∧ H' sl = some (.lst [.int (x : Int), .int (y : Int)]) ∧ H' f = some (.lst [.ref t0]) ∧ H' t0 = some (.tup [.int 0, .int 0]), ?_, ?_⟩
    · refine ⟨_, rfl, sz, fun l hl => ?_⟩
      have sl' := Lb.Same.upd (o := .lst [V.int 0, V.int 0]) hl
      have M7 := M6.same sl'
      have e7 := sl' _ _ e6
      have ef7 := sl' _ _ ef6
      have f7 := sl' _ _ f6
      have e8 : (upd H6 l (.lst [V.int 0, V.int 0])) l = some (.lst [V.int 0, V.int 0]) := upd_same
      generalize upd H6 l (.lst [V.int 0, V.int 0]) = H7 at *
      refine ⟨_, _, .lst (SqL.of e7) (.cons (.int _) (.cons (.int _) .nil)), .lst (SqL.of e8) (.cons (.int _) (.cons (.int _) .nil)), by rfl, by rfl, _, rfl, ?_⟩
      rw [eqv2]
      refine ite2 (fun h0 => ?_) (fun h0 => ?_)
      · have h0 : (na : Int) = 0 ∧ (nb : Int) = 0 := by simpa using h0
        refine ⟨_, rfl, _, rfl, p, _, rfl, M7.pot, by decide, by unfold Bd; decide, fun H8 d m8 c0 c1 => ?_⟩
        have e9 := m8.keep _ _ nsl e7
        have ef9 := m8.keep _ _ nf ef7
        have f9 := m8.tup M7.pot f7
        have M8 := M7.trans m8
        have nt : t0 ≠ sl := fun q => by
          rw [q, e9] at f9
          cases f9
        rcases (show d = 0 ∨ d = 1 by omega) with rfl | rfl
        · refine ⟨_, _, _, 0, rfl, rfl, e9, rfl, 1, 0, by decide, by decide, by decide, ⟨_, rfl⟩, Mov.updl M8 fsl nsl, ?_, by rw [upd_ne nfs]; exact ef9, by rw [upd_ne nt]; exact f9⟩
          rw [upd_same, h0.2]
          rfl
        · refine ⟨_, _, _, 1, rfl, rfl, e9, rfl, 0, 1, by decide, by decide, by decide, ⟨_, rfl⟩, Mov.updl M8 fsl nsl, ?_, by rw [upd_ne nfs]; exact ef9, by rw [upd_ne nt]; exact f9⟩
          rw [upd_same, h0.1]
          rfl
      · have h0 : ¬ ((na : Int) = 0 ∧ (nb : Int) = 0) := by simpa using h0
        exact ⟨na, nb, by omega, by omega, by omega, ⟨_, rfl⟩, M7, e7, ef7, f7⟩
    rintro σ H7 ⟨x, y, hx, hy, hxy, ⟨u5, rfl⟩, M7, e7, ef7, f7⟩
    have q0 : LQ 22 ([((0, 0) : Q2)].map (gP wd hg)) := by
      have : ([((0, 0) : Q2)].map (gP wd hg)) = [org] := by
        show [(rd 0 wd, rd 0 hg)] = _
        rw [rd_zero (by omega), rd_zero (by omega)]
        rfl
      rw [this]
      exact LQ.start
    refine ⟨_, rfl, _, _, _, _, rfl, rfl, SqL.of e7, at0, _, rfl, by omega, by omega, ?_⟩
    refine for_range (n := x) (fun i σ H' => ∃ (u5 u6 u7 u8 : Option V) (rs : List Addr) (ps : List Q2), σ = [some (.ref p), some (.ref sl), some (.ref f), some (.int wd), some (.int hg), u5, u6, u7, u8] ∧ Mov p H H' ∧ H' sl = some (.lst [.int (x : Int), .int (y : Int)]) ∧ H' f = some (.lst (rs.map V.ref)) ∧ FrRows H' rs ps ∧ (∀ q ∈ ps, Bd 22 q.1 ∧ Bd 22 q.2) ∧ LQ 22 (ps.map (gP wd hg)) ∧ ps.length = i + 1 ∧ ps[0]? = some (0, 0) ∧ ∃ z, ps[ps.length - 1]? = some z ∧ 0 ≤ z.1 ∧ z.1 ≤ 1000000 * (i : Int) ∧ 0 ≤ z.2 ∧ z.2 ≤ 1000000 * (i : Int))
      ⟨_, _, _, _, [t0], [(0, 0)], rfl, M7, e7, ef7, .cons f7 .nil, (fun q hq => by rw [List.mem_singleton.mp hq]; exact ⟨by unfold Bd; decide, by unfold Bd; decide⟩), q0, rfl, rfl, (0, 0), rfl, by decide, by decide, by decide, by decide⟩ ?_ ?_
    · rintro i σ H5 hi ⟨u5, u6, u7, u8, rs, ps, rfl, M, es, ef, pr, bp, lq, ln, lo, z, hz, z0, z1, z2, z3⟩
      have lrs := Paired.len pr
      obtain ⟨r, hr', er⟩ := Paired.at_r pr hz
      have atl : atI (rs.map V.ref) (-1) = some (.ref r) := by
        rw [atI_last (j := i) (by rw [List.length_map]; omega), List.getElem?_map, show i = ps.length - 1 by omega, hr']
        rfl
      refine ⟨_, rfl, _, rfl, _, _, _, _, rfl, rfl, SqL.of ef, atl, r, _, rfl, SqT.of er, rfl, _, _, rfl, _, _, rfl, rfl, ?_⟩
      refine ⟨_, rfl, .inl ⟨rfl, _, SqL.of ef⟩, _, rfl, _, rfl, p, rfl, M.pot, fun H6 d6 m6 g6 g6' => ⟨_, _, rfl, rfl, ?_⟩⟩
      have M6 := M.trans m6
      refine ⟨_, rfl, _, rfl, p, rfl, M6.pot, fun H7 d7 m7 g7 g7' => ⟨_, _, rfl, rfl, sz, fun t ht => ?_⟩⟩
      have M7 := M6.trans m7
      have N7 := (NL.mov m6 M.pot).trans (NL.mov m7 M6.pot)
      have ef7 := m7.keep _ _ nf (m6.keep _ _ nf ef)
      have es7 := m7.keep _ _ nsl (m6.keep _ _ nsl es)
      generalize e_Ha : upd _ t _ = Ha
      obtain ⟨sa, fa⟩ := al3 e_Ha ht
      clear e_Ha
      (try dsimp only at fa)
      have efa := sa _ _ ef7
      refine ⟨f, _, _, rfl, rfl, efa, szlt (by rw [List.length_map]; omega), ?_⟩
      have Na := N7.trans (NL.of sa)
      have Nb : NL Ha (upd Ha f (.lst (rs.map V.ref ++ [V.ref t]))) := NL.upd efa
      have hz' : (ps.map (gP wd hg))[(ps.map (gP wd hg)).length - 1]? = some (gP wd hg z) := by
        rw [List.length_map, List.getElem?_map, hz]
        rfl
      have bn : Bd 22 (z.1 + d6) ∧ Bd 22 (z.2 + d7) := ⟨show (z.1 + d6).natAbs < 2 ^ 22 by omega, show (z.2 + d7).natAbs < 2 ^ 22 by omega⟩
      have hl := gP_low (p := (z.1 + d6, z.2 + d7)) hwd hhg bn.1 bn.2
      refine ⟨_, _, _, _, rs ++ [t], ps ++ [(z.1 + d6, z.2 + d7)], rfl, Mov.updl (M7.same sa) ff nf, ?_, by rw [upd_same, List.map_append]; rfl, ?_, (fun q hq => by
        rcases List.mem_append.mp hq with hq | hq
        · exact bp q hq
        · rw [List.mem_singleton.mp hq]; exact bn), ?_, by rw [List.length_append, ln]; rfl, by rw [List.getElem?_append_left (by omega)]; exact lo, (z.1 + d6, z.2 + d7), by rw [List.length_append]; simp, ?_, ?_, ?_, ?_⟩
      · rw [upd_ne (Ne.symm nfs)]
        exact sa _ _ es7
      · exact paired_snoc (Paired.imp pr fun _ _ h => FrQ.nl h (Na.trans Nb)) (FrQ.nl fa Nb)
      · rw [List.map_append]
        exact lq.snoc hz' (Nat.le_refl _) hl.1 hl.2 (rd_lt (by omega) (show z.1 < z.1 + d6 by omega)) (rd_lt (by omega) (show z.2 < z.2 + d7 by omega))
      all_goals (show _ ≤ (_ : Int); simp only; omega)
    rintro σ Hc ⟨u5, u6, u7, u8, rs, ps, rfl, M, es, ef, pr, bp, lq, ln, lo, _⟩
    refine ⟨_, rfl, _, _, _, _, rfl, rfl, SqL.of es, at1, _, rfl, by omega, by omega, ?_⟩
    refine for_range (n := y) (fun i σ H' => ∃ (u5 u6 u7 u8 : Option V) (l : Addr) (rs : List Addr) (ps : List Q2), σ = [some (.ref p), some (.ref sl), some (.ref l), some (.int wd), some (.int hg), u5, u6, u7, u8] ∧ Mov p H H' ∧ H l = none ∧ l ≠ p ∧ H' l = some (.lst (rs.map V.ref)) ∧ FrRows H' rs ps ∧ (∀ q ∈ ps, Bd 22 q.1 ∧ Bd 22 q.2) ∧ LQ 22 (ps.map (gP wd hg)) ∧ ps.length = x + i + 1 ∧ ∃ z, ps[0]? = some z ∧ z.1 ≤ 0 ∧ -1000000 * (i : Int) ≤ z.1 ∧ z.2 ≤ 0 ∧ -1000000 * (i : Int) ≤ z.2)
      ⟨_, _, _, _, f, rs, ps, rfl, M, ff, nf, ef, pr, bp, lq, ln, (0, 0), lo, by decide, by decide, by decide, by decide⟩ ?_ ?_
    · rintro i σ H5 hi ⟨u5, u6, u7, u8, l, rs, ps, rfl, M, fl, nl, ef, pr, bp, lq, ln, z, hz, z0, z1, z2, z3⟩
      have lrs := Paired.len pr
      obtain ⟨r, hr', er⟩ := Paired.at_r pr hz
      refine ⟨_, rfl, _, _, _, _, rfl, rfl, SqL.of ef, at_ref (i := 0) hr', r, _, rfl, SqT.of er, rfl, _, _, rfl, _, _, rfl, rfl, ?_⟩
      refine ⟨_, rfl, _, rfl, p, rfl, M.pot, fun H6 d6 m6 g6 g6' => ⟨_, _, rfl, rfl, ?_⟩⟩
      have M6 := M.trans m6
      refine ⟨_, rfl, _, rfl, p, rfl, M6.pot, fun H7 d7 m7 g7 g7' => ⟨_, _, rfl, rfl, sz, fun t ht => ?_⟩⟩
      have M7 := M6.trans m7
      have N7 := (NL.mov m6 M.pot).trans (NL.mov m7 M6.pot)
      have ef7 := m7.keep _ _ nl (m6.keep _ _ nl ef)
      generalize e_Ha : upd _ t _ = Ha
      obtain ⟨sa, fa⟩ := al3 e_Ha ht
      clear e_Ha
      (try dsimp only at fa)
      refine ⟨sz, fun l1 hl1 => ?_⟩
      generalize e_Hb : upd _ l1 _ = Hb
      obtain ⟨sb, fb⟩ := al3 e_Hb hl1
      clear e_Hb
      (try dsimp only at fb)
      have efb := sb _ _ (sa _ _ ef7)
      have Mb := (M7.same sa).same sb
      refine ⟨_, rfl, l1, l, _, _, rfl, rfl, fb, efb, szle (by rw [List.length_map]; show 1 + rs.length ≤ _; omega), fun l2 hl2 => ?_⟩
      have s2 := Lb.Same.upd (o := .lst ([V.ref t] ++ rs.map V.ref)) hl2
      have Na := ((N7.trans (NL.of sa)).trans (NL.of sb)).trans (NL.of s2)
      have hz' : (ps.map (gP wd hg))[0]? = some (gP wd hg z) := by
        rw [List.getElem?_map, hz]
        rfl
      have bn : Bd 22 (z.1 - d6) ∧ Bd 22 (z.2 - d7) := ⟨show (z.1 - d6).natAbs < 2 ^ 22 by omega, show (z.2 - d7).natAbs < 2 ^ 22 by omega⟩
      have hl := gP_low (p := (z.1 - d6, z.2 - d7)) hwd hhg bn.1 bn.2
      refine ⟨_, _, _, _, l2, t :: rs, (z.1 - d6, z.2 - d7) :: ps, rfl, Mb.same s2, Mb.free hp hl2, Mb.ne hl2, upd_same, ?_, (fun q hq => by
        rcases List.mem_cons.mp hq with hq | hq
        · rw [hq]; exact bn
        · exact bp q hq), ?_, by rw [List.length_cons, ln]; omega, (z.1 - d6, z.2 - d7), rfl, ?_, ?_, ?_, ?_⟩
      · exact .cons (FrQ.same fa (sb.trans s2)) (Paired.imp pr fun _ _ h => FrQ.nl h Na)
      · exact lq.cons hz' (Nat.le_refl _) hl.1 hl.2 (rd_lt (by omega) (show z.1 - d6 < z.1 by omega)) (rd_lt (by omega) (show z.2 - d7 < z.2 by omega))
      all_goals (show _ ≤ (_ : Int); simp only; omega)
    rintro σ Hd ⟨u5, u6, u7, u8, l, rs, ps, rfl, M, fl, nl, ef, pr, bp, lq, ln, _⟩
    have lrs := Paired.len pr
    refine ⟨_, rfl, l, rfl, ⟨_, SqL.of ef⟩, fun D2 hD2 => ?_⟩
    refine lc_list (K := K) (a := l) (xs := rs.map V.ref) (fun i H' => Same Hd H' ∧ ∃ bs : List Addr, H' D2 = some (.lst (bs.map V.ref)) ∧ Paired (SpR H') bs ((ps.take i).map (gP wd hg))) ⟨Lb.Same.upd hD2, [], upd_same, .nil⟩ (fun i H' _ b => SqL.of (b.1 _ _ ef)) ?_ ?_
    · rintro i v H' hi ⟨s', bs, eD, pb⟩
      obtain ⟨r, rfl, hr'⟩ := ref_at hi
      obtain ⟨z, hz, er⟩ := Paired.at_ pr hr'
      have hi' := (List.getElem?_eq_some_iff.mp hz).1
      have bz := bp z (List.mem_of_getElem? hz)
      have er' := FrQ.same er s'
      refine ⟨r, _, rfl, SqT.of er', rfl, _, _, rfl, _, _, rfl, rfl, rfl, ?_⟩
      refine ⟨_, rfl, _, rfl, _, _, rfl, (by omega), bz.1.mono (by decide), (show wd.natAbs < 2 ^ 8000 from Nat.lt_of_lt_of_le (show wd.natAbs < 2 ^ 4 by omega) (Nat.pow_le_pow_right (by decide) (by decide))), fun Ha q1 sa f1 => ?_⟩
      refine ⟨_, rfl, _, rfl, _, _, rfl, (by omega), bz.2.mono (by decide), (show hg.natAbs < 2 ^ 8000 from Nat.lt_of_lt_of_le (show hg.natAbs < 2 ^ 4 by omega) (Nat.pow_le_pow_right (by decide) (by decide))), fun Hb q2 sb f2 => ⟨sz, fun t ht => ?_⟩⟩
      generalize e_Hc2 : upd _ t _ = Hc2
      obtain ⟨sc2, fc2⟩ := al3 e_Hc2 ht
      clear e_Hc2
      (try dsimp only at fc2)
      have S := (sa.trans sb).trans sc2
      have eD2 := S _ _ eD
      have lb := Paired.len pb
      rw [List.length_map, List.length_take] at lb
      have N : NL Hc2 (upd Hc2 D2 (.lst (bs.map V.ref ++ [V.ref t]))) := NL.upd eD2
      refine ⟨_, eD2, szlt (by rw [List.length_map]; omega), Lb.Same.updl (s'.trans S) hD2, bs ++ [t], by rw [upd_same, List.map_append]; rfl, ?_⟩
      rw [← take_snoc hz, List.map_append]
      exact paired_snoc (Paired.imp pb fun _ _ h => (h.same S).nl N) (SpR.nl ⟨q1, q2, fc2, (FrQ.same f1 sb).same sc2, FrQ.same f2 sc2⟩ N)
    rintro He ⟨se, bs, eD, pb⟩
    rw [show (rs.map V.ref).length = ps.length by rw [List.length_map, lrs], List.take_length] at pb
    exact k _ D2 (ps.map (gP wd hg)) (M.same se) (M.free hp hD2) ⟨bs, eD, pb⟩ ⟨lq, by rw [List.length_map]; omega, by rw [List.length_map]; omega⟩ (by rw [List.length_map]; omega)
theorem ok_passed (T : Txt K mg a) : FnOk P w K mg base CX0 5 a.f_passed a.d_passed ["_law_pot_here", "_law_line"] (sp_passed a.c_Amount) := by
  refine T.F_passed.ok sc_passed (fun vs H Q E h => ?_) (fun cdv A outer s H vs Q E hr h => ?_)
  · obtain ⟨p, l, zs, n, rfl, _⟩ := h
    rfl
  · obtain ⟨p, l, zs, n, rfl, hp, nl, hl, lp, hn, k⟩ := h
    refine ⟨_, (pss_cons (ps_par (i := 2) (j := 3) rfl sc_passed.nd rfl rfl (by decide) rfl rfl (pa_cons (pe_lst pa_nil) (pa_cons (pe_cmpR op_eq (pe_call (ok_draw T) (hr.mono (by decide)) (by rfl) T.m_draw T.F_draw.kp (b_draw T) .nil pass0 (pa_cons (pv 0) (pa_cons pe_int pa_nil))) pe_int (nomark _)) pa_nil)) (by rfl))
 (pss_cons (ps_for PassesOwn.never rfl (pi_listK (K := K) rfl (pv 1)) (pg_tupK (K := K) (n := 2) rfl rfl (pgs_cons (pg_name (i := 4) sc_passed.nd rfl (by first | exact Or.inl rfl | exact Or.inr rfl)) (pgs_cons (pg_name (i := 5) sc_passed.nd rfl (by first | exact Or.inl rfl | exact Or.inr rfl)) pgs_nil))) (pss_one (ps_if (PW.pt (pw_or (pt_cmpR op_ne (pe_ix (ix_tupK (K := K) rfl) (pv 4) pe_int (fun _ _ => rfl)) pe_int (nomark _)) (pw_or1 (pt_not (pt_val (pv 3)))))) (pss_one (ps_expr (pe_bm PySem.F.plainAttrs_list PySem.F.slot_list_append PySem.F.type_list_append mt_append (pv 2) (pa_cons (pe_tup (pa_cons (pe_call (ok_amount T) (hr.mono (by decide)) (by rfl) T.m_amount T.F_amount.kp (b_amount T) .nil pass0 (pa_cons (pv 4) pa_nil)) (pa_cons (pe_call (ok_amount T) (hr.mono (by decide)) (by rfl) T.m_amount T.F_amount.kp (b_amount T) .nil pass0 (pa_cons (pv 5) pa_nil)) pa_nil))) pa_nil)))) pss_nil)))
 (pss_one (ps_ret (pe_ifExp (pt_cmpR op_eq (pe_call (ok_draw T) (hr.mono (by decide)) (by rfl) T.m_draw T.F_draw.kp (b_draw T) .nil pass0 (pa_cons (pv 0) (pa_cons pe_int pa_nil))) pe_int (nomark _)) (pv 2) (pe_callTy call_tuple_of (by rfl) T.b_tuple (by decide +kernel) (pa_cons (pv 2) pa_nil))))))), ?_⟩
    have l20 := lp.l20
    refine ⟨sz, fun f hf => ?_⟩
    have sf := Lb.Same.upd (o := .lst []) hf
    have nf : f ≠ p := PotAt.ne_ref hp hf
    have M0 := Lb.Same.mov sf hp
    refine ⟨_, rfl, p, _, rfl, M0.pot, by decide, by unfold Bd; decide, fun H1 d m1 d0 d1 => ⟨rfl, _, _, rfl, ?_⟩⟩
    generalize decide (V.int d = V.int 0) = bare at *
    have M1 := M0.trans m1
    have ef := m1.keep _ _ nf (upd_same (H := H) (a := f) (o := .lst []))
    have hl1 := (hl.same sf).mov m1 M0.pot nl
    obtain ⟨rs, el, pr⟩ := id hl1.ex
    have lrs := Paired.len pr
    refine ⟨_, rfl, l, rfl, ⟨_, SqL.of el⟩, ?_⟩
    have nfl : l ≠ f := by
      obtain ⟨_, e, _⟩ := hl.ex
      exact ne_of_none e hf
    refine for_list (K := K) (a := l) (xs := rs.map V.ref) (fun i σ H' => ∃ (u4 u5 : Option V) (ws : List V), σ = [some (.ref p), some (.ref l), some (.ref f), some (.bl bare), u4, u5] ∧ Mov p H H' ∧ H' l = some (.lst (rs.map V.ref)) ∧ Paired (SpR H') rs zs ∧ H' f = some (.lst ws) ∧ Paired (PtP a.c_Amount H') ws ((zs.take i).filter fun z => nz z || !bare)) ⟨_, _, [], rfl, M1, el, pr, ef, .nil⟩ (fun i σ H' _ ⟨_, _, _, _, _, e, _⟩ => SqL.of e) ?_ ?_
    · rintro i v σ H2 hi ⟨u4, u5, ws, rfl, M2, el2, pr2, ef2, pw⟩
      obtain ⟨r, rfl, hr'⟩ := ref_at hi
      obtain ⟨z, hz, p1, p2, er, f1, f2⟩ := Paired.at_ pr2 hr'
      have lz := lp.q.l z (List.mem_of_getElem? hz)
      have lw := Paired.len pw
      have lf := List.length_filter_le (fun z => nz z || !bare) (zs.take i)
      rw [List.length_take] at lf
      have hi' := (List.getElem?_eq_some_iff.mp hz).1
      refine ⟨r, _, rfl, SqT.of er, rfl, _, _, rfl, _, _, rfl, rfl, ?_⟩
      refine ⟨_, rfl, _, _, _, _, rfl, rfl, SqT.of f1, at0, rfl, _, rfl, ite2 (fun h => ?_) (fun h => ?_)⟩
      · have h : ¬ z.1.1 = 0 := by simpa using h
        have hc : (nz z || !bare) = true := by simp [nz, h]
        refine ite2 (fun _ => ?_) (fun h => absurd rfl h)
        refine ⟨_, rfl, .inl ⟨rfl, _, SqL.of ef2⟩, _, rfl, p1, z.1, n, rfl, f1, lz.x, by omega, fun H3 v3 s3 i3 => ?_⟩
        refine ⟨_, rfl, p2, z.2, n, rfl, f2.same s3, lz.y, by omega, fun H4 v4 s4 i4 => ⟨sz, fun t ht => ?_⟩⟩
        have st := Lb.Same.upd (o := .tup [v3, v4]) ht
        have S4 := (s3.trans s4).trans st
        have ef4 := S4 _ _ ef2
        refine ⟨f, _, _, rfl, rfl, ef4, szlt (by omega), ?_⟩
        have N := NL.upd (o := .lst (ws ++ [V.ref t])) ef4
        refine ⟨_, _, _, rfl, Lb.Mov.updl (M2.same S4) hf nf, ?_, ?_, upd_same, ?_⟩
        · rw [upd_ne nfl]
          exact S4 _ _ el2
        · exact Paired.imp pr2 fun _ _ h => (h.same S4).nl N
        · rw [← take_snoc hz, filter_snoc, if_pos hc]
          exact paired_snoc (Paired.imp pw fun _ _ h => (h.same S4).nl N) ⟨t, _, _, rfl, N _ _ (fun _ z => nomatch z) upd_same, ((i3.same s4).same st).nl N, (i4.same st).nl N⟩
      · have h : z.1.1 = 0 := by simpa using h
        refine ⟨_, rfl, _, rfl, ite2 (fun hb => ?_) (fun hb => ?_)⟩
        · have hc : (nz z || !bare) = true := by simp [hb]
          refine ⟨_, rfl, .inl ⟨rfl, _, SqL.of ef2⟩, _, rfl, p1, z.1, n, rfl, f1, lz.x, by omega, fun H3 v3 s3 i3 => ?_⟩
          refine ⟨_, rfl, p2, z.2, n, rfl, f2.same s3, lz.y, by omega, fun H4 v4 s4 i4 => ⟨sz, fun t ht => ?_⟩⟩
          have st := Lb.Same.upd (o := .tup [v3, v4]) ht
          have S4 := (s3.trans s4).trans st
          have ef4 := S4 _ _ ef2
          refine ⟨f, _, _, rfl, rfl, ef4, szlt (by omega), ?_⟩
          have N := NL.upd (o := .lst (ws ++ [V.ref t])) ef4
          refine ⟨_, _, _, rfl, Lb.Mov.updl (M2.same S4) hf nf, ?_, ?_, upd_same, ?_⟩
          · rw [upd_ne nfl]
            exact S4 _ _ el2
          · exact Paired.imp pr2 fun _ _ h => (h.same S4).nl N
          · rw [← take_snoc hz, filter_snoc, if_pos hc]
            exact paired_snoc (Paired.imp pw fun _ _ h => (h.same S4).nl N) ⟨t, _, _, rfl, N _ _ (fun _ z => nomatch z) upd_same, ((i3.same s4).same st).nl N, (i4.same st).nl N⟩
        · have hc : ¬ (nz z || !bare) = true := by simp [nz, h, hb]
          refine ⟨_, _, _, rfl, M2, el2, pr2, ef2, ?_⟩
          rw [← take_snoc hz, filter_snoc, if_neg hc]
          exact pw
    rintro σ H3 ⟨u4, u5, ws, rfl, M3, el3, pr3, ef3, pw⟩
    rw [show (rs.map V.ref).length = zs.length by rw [List.length_map, lrs], List.take_length] at pw
    have lw := Paired.len pw
    have lf := List.length_filter_le (fun z => nz z || !bare) zs
    have hs : ∃ z ∈ zs.filter (fun z => nz z || !bare), z.1.1 ≠ 0 := by
      obtain ⟨z, hz, h0⟩ := lp_some lp
      exact ⟨z, List.mem_filter.mpr ⟨hz, by simp [nz, h0]⟩, h0⟩
    have hP := pts_of hn lp hs
    have hO : withO (zs.filter fun z => nz z || !bare) = zs := by
      cases bare with
      | true => simpa using (withO_self lp.q.ex).2
      | false =>
        rw [show (zs.filter fun z => nz z || !false) = zs from filt_all fun z _ => by simp]
        exact (withO_self lp.q.ex).1
    refine ⟨_, rfl, p, _, rfl, M3.pot, by decide, by unfold Bd; decide, fun H4 d4 m4 d40 d41 => ⟨rfl, _, rfl, ite2 (fun _ => ?_) (fun _ => ?_)⟩⟩
    · exact ⟨_, rfl, k _ f ws _ (M3.trans m4) hf (.inl (m4.keep _ _ nf ef3)) (Paired.imp pw fun _ _ h => h.nl (NL.mov m4 M3.pot)) hP hO (by omega)⟩
    · refine ⟨_, rfl, f, ws, rfl, .inl ⟨SqL.of (m4.keep _ _ nf ef3), fun t ht => ?_⟩⟩
      have st := Lb.Same.upd (o := .tup ws) ht
      exact k _ t ws _ ((M3.trans m4).same st) (((M3.trans m4)).free hp ht) (.inr upd_same) (Paired.imp pw fun _ _ h => (h.nl (NL.mov m4 M3.pot)).same st) hP hO (by omega)
end
end K19

set_option Elab.async false
set_option linter.all false
set_option maxRecDepth 100000
set_option maxHeartbeats 4000000
set_option exponentiation.threshold 10000
namespace K19
open PySem L2 Lb
/-! points of any kind -/
def pairOf : Dt → Option Pt
  | .tp [x, y] => match amOf x, amOf y with
    | some p, some q => if sg p.1 = sg q.1 then some (p, q) else none
    | _, _ => none
  | _ => none
def risesB (z z' : Pt) : Bool := decide (z.1.1 * z'.1.2 < z'.1.1 * z.1.2) && decide (z.2.1 * z'.2.2 < z'.2.1 * z.2.2)
def isOrg (d : Dt) : Bool := match pairOf d with
  | some z => decide (z.1.1 = 0)
  | none => false
/-- its amounts are small -/
def Sm (n : Nat) (d : Dt) : Prop := ∀ l, d = .tp l → ∀ e ∈ l, ∀ x, amOf e = some x → Low n x
theorem Sm.mono {n m : Nat} {d : Dt} (h : Sm n d) (k : n ≤ m) : Sm m d := fun l e d' hd x hx => (h l e d' hd x hx).mono k
theorem pair_inv {d : Dt} {z : Pt} (h : pairOf d = some z) : ∃ x y, d = .tp [x, y] ∧ amOf x = some z.1 ∧ amOf y = some z.2 ∧ sg z.1.1 = sg z.2.1 := by
  unfold pairOf at h
  split at h
  · rename_i x y
    split at h
    · rename_i p q h1 h2
      split at h
      · rename_i hs
        cases h
        exact ⟨x, y, rfl, h1, h2, hs⟩
      · cases h
    · cases h
  · cases h
theorem pair_low {n : Nat} {d : Dt} {z : Pt} (h : pairOf d = some z) (s : Sm n d) : PtL n z := by
  obtain ⟨x, y, rfl, h1, h2, h3⟩ := pair_inv h
  exact ⟨s _ rfl x (by simp) _ h1, s _ rfl y (by simp) _ h2, h3⟩
theorem At.ptP {C p : Addr} {H : Hp} {d : Dt} {v : V} {z : Pt} (h : At C p H d v) (e : pairOf d = some z) : PtP C H v z := by
  obtain ⟨x, y, rfl, h1, h2, h3⟩ := pair_inv e
  simp only [At] at h
  obtain ⟨t, xs, rfl, et, ha⟩ := h
  obtain ⟨u, r, rfl, hu, ha⟩ := ats_inv ha
  obtain ⟨w, r, rfl, hw, ha⟩ := ats_inv ha
  rw [ats_inv0 ha] at et
  exact ⟨t, u, w, rfl, et, hu.isP h1, hw.isP h2⟩
def sp_is_integerD (C : Addr) : Sp := fun vs H Q _ => ∃ p v d, vs = [v] ∧ At C p H d v ∧ Q (.bl (isInt d)) H
def sp_is_amountD (C : Addr) : Sp := fun vs H Q _ => ∃ p v d, vs = [v] ∧ At C p H d v ∧ Q (.bl (amOf d).isSome) H
def sp_is_pointD (C : Addr) : Sp := fun vs H Q _ => ∃ p v d n, vs = [v] ∧ At C p H d v ∧ Sm n d ∧ n ≤ 8000 ∧ ∀ H', Same H H' → Q (.bl (pairOf d).isSome) H'
def sp_is_originD (C : Addr) : Sp := fun vs H Q _ => ∃ p v d n, vs = [v] ∧ At C p H d v ∧ Sm n d ∧ n ≤ 8000 ∧ ∀ H', Same H H' → Q (.bl (isOrg d)) H'
def sp_risesG (C : Addr) : Sp := fun vs H Q _ => ∃ r r' z z' n, vs = [.ref r, .ref r'] ∧ RowA C H r z ∧ RowA C H r' z' ∧ PtL n z ∧ PtL n z' ∧ n ≤ 8000 ∧ Q (.bl (risesB z z')) H
section
variable {P : Program} {w : World} {K : PySem.W.Frag} {mg : Str → Option Value} {base : Heap} {a : Ad}
theorem ok_is_integerD (T : Txt K mg a) : FnOk P w K mg base CX0 1 a.f_is_integer a.d_is_integer ["value"] (sp_is_integerD a.c_Amount) := by
  refine T.F_is_integer.ok sc_is_integer (fun vs H Q E h => ?_) (fun cdv A outer s H vs Q E hr h => ?_)
  · obtain ⟨p, v, d, rfl, _⟩ := h
    rfl
  · obtain ⟨p, v, d, rfl, hd, k⟩ := h
    refine ⟨_, (pss_one (ps_ret (pe_and (pe_callB (call_isiK' (K := K) rfl) (by rfl) T.b_isinstance (by decide +kernel) (pa_cons (pv 0) (pa_cons (pe_bltn (v := .ty "int") (by rfl) T.b_int (by decide +kernel) rfl) pa_nil))) (pe_one (pe_not (pe_callB (call_isiK' (K := K) rfl) (by rfl) T.b_isinstance (by decide +kernel) (pa_cons (pv 0) (pa_cons (pe_bltn (v := .ty "bool") (by rfl) T.b_bool (by decide +kernel) rfl) pa_nil)))))))), ?_⟩
    obtain ⟨t, ty, _, _, _, k1, k2⟩ := At.ty T hd
    refine ⟨_, rfl, _, _, _, _, isIb d, rfl, .ty _, ty, k1, isIb d, rfl, ?_⟩
    cases d with
    | int i => exact iteT ⟨_, rfl, _, _, _, _, _, rfl, .ty _, ty, k2, _, rfl, k⟩
    | bl b => exact iteT ⟨_, rfl, _, _, _, _, _, rfl, .ty _, ty, k2, _, rfl, k⟩
    | _ => exact iteF k
theorem ok_is_amountD (T : Txt K mg a) : FnOk P w K mg base CX0 2 a.f_is_amount_p a.d_is_amount_p ["value"] (sp_is_amountD a.c_Amount) := by
  refine T.F_is_amount_p.ok sc_is_amount_p (fun vs H Q E h => ?_) (fun cdv A outer s H vs Q E hr h => ?_)
  · obtain ⟨p, v, d, rfl, _⟩ := h
    rfl
  · obtain ⟨p, v, d, rfl, hd, k⟩ := h
    refine ⟨_, (pss_one (ps_ret (pe_or (pe_call (ok_is_integerD T) (hr.mono (by decide)) (by rfl) T.m_is_integer T.F_is_integer.kp (b_is_integer T) .nil pass0 (pa_cons (pv 0) pa_nil)) (pe_one (pe_callB (call_isiK' (K := K) rfl) (by rfl) T.b_isinstance (by decide +kernel) (pa_cons (pv 0) (pa_cons (pe_glob (v := .ref a.c_Amount) rfl T.mA rfl) pa_nil))))))), ?_⟩
    obtain ⟨t, ty, _, _, k1, _, _⟩ := At.ty T hd
    refine ⟨_, rfl, p, v, d, rfl, hd, isInt d, rfl, ?_⟩
    cases d with
    | int i => exact iteT k
    | am x => exact iteF ⟨_, rfl, _, _, _, _, _, rfl, .own _, ty, k1, k⟩
    | _ => exact iteF ⟨_, rfl, _, _, _, _, _, rfl, .own _, ty, k1, k⟩
theorem ok_risesG (T : Txt K mg a) : FnOk P w K mg base CX0 2 a.f_rises a.d_rises ["low", "high"] (sp_risesG a.c_Amount) := by
  refine T.F_rises.ok sc_rises (fun vs H Q E h => ?_) (fun cdv A outer s H vs Q E hr h => ?_)
  · obtain ⟨r, r', z, z', n, rfl, _⟩ := h
    rfl
  · obtain ⟨r, r', z, z', n, rfl, ⟨p, q, er, ap, aq⟩, ⟨p', q', er', ap', aq'⟩, l, l', hn, k⟩ := h
    refine ⟨_, (pss_one (ps_ret (pe_and (pe_cmpR (op_ownCmp (n := 1) (C := a.c_Amount) (K := K) rfl (fun _ _ => rfl) T.cLt.at_ T.cLt.fn ((ok_Amount_lt_ T).raw (b_Amount_lt_ T) .nil) (hr.mono (by decide)) pass0) (pe_ix (ix_tupK (K := K) rfl) (pv 0) (pe_glob (v := .int 0) rfl T.gFlow.choose_spec ⟨_, rfl⟩) (fun _ _ => rfl)) (pe_ix (ix_tupK (K := K) rfl) (pv 1) (pe_glob (v := .int 0) rfl T.gFlow.choose_spec ⟨_, rfl⟩) (fun _ _ => rfl)) (nomark _)) (pe_one (pe_cmpR (op_ownCmp (n := 1) (C := a.c_Amount) (K := K) rfl (fun _ _ => rfl) T.cLt.at_ T.cLt.fn ((ok_Amount_lt_ T).raw (b_Amount_lt_ T) .nil) (hr.mono (by decide)) pass0) (pe_ix (ix_tupK (K := K) rfl) (pv 0) (pe_glob (v := .int 1) rfl T.gDrop.choose_spec ⟨_, rfl⟩) (fun _ _ => rfl)) (pe_ix (ix_tupK (K := K) rfl) (pv 1) (pe_glob (v := .int 1) rfl T.gDrop.choose_spec ⟨_, rfl⟩) (fun _ _ => rfl)) (nomark _)))))), ?_⟩
    obtain ⟨d1, e1⟩ := id ap
    obtain ⟨d2, e2⟩ := id ap'
    obtain ⟨d3, e3⟩ := id aq
    obtain ⟨d4, e4⟩ := id aq'
    refine ⟨_, rfl, _, _, _, _, rfl, rfl, SqT.of er, at0, _, rfl, _, _, _, _, rfl, rfl, SqT.of er', at0, p, d1, _, _, rfl, e1, T.I.ty T.cl e2, Inst.nSelf, p, p', _, _, _, _, rfl, ap, ap', l.x.t.mono hn, l.x.b.mono hn, l'.x.t.mono hn, l'.x.b.mono hn, _, rfl, ite2 (fun h1 => ?_) (fun h1 => ?_)⟩
    · refine ⟨_, rfl, _, _, _, _, rfl, rfl, SqT.of er, at1, _, rfl, _, _, _, _, rfl, rfl, SqT.of er', at1, q, d3, _, _, rfl, e3, T.I.ty T.cl e4, Inst.nSelf, q, q', _, _, _, _, rfl, aq, aq', l.y.t.mono hn, l.y.b.mono hn, l'.y.t.mono hn, l'.y.b.mono hn, ?_⟩
      have h1 : decide (z.1.1 * z'.1.2 < z'.1.1 * z.1.2) = true := h1
      unfold risesB at k
      rw [h1, Bool.true_and] at k
      exact k
    · have h1 : ¬ decide (z.1.1 * z'.1.2 < z'.1.1 * z.1.2) = true := h1
      unfold risesB at k
      rw [Bool.eq_false_iff.mpr h1, Bool.false_and] at k
      exact k
theorem ok_is_pointD (T : Txt K mg a) : FnOk P w K mg base CX0 5 a.f_is_point a.d_is_point ["value"] (sp_is_pointD a.c_Amount) := by
  refine T.F_is_point.ok sc_is_point (fun vs H Q E h => ?_) (fun cdv A outer s H vs Q E hr h => ?_)
  · obtain ⟨p, v, d, n, rfl, _⟩ := h
    rfl
  · obtain ⟨p, v, d, n, rfl, hd, sm, hn, k⟩ := h
    refine ⟨_, (pss_cons (ps_if (PW.pt (pw_or (pt_not (pt_val (pe_callB (call_isiK' (K := K) rfl) (by rfl) T.b_isinstance (by decide +kernel) (pa_cons (pv 0) (pa_cons (pe_bltn (v := .ty "tuple") (by rfl) T.b_tuple (by decide +kernel) rfl) pa_nil))))) (pw_or1 (pt_cmpR op_ne (pe_callB (call_lenK (K := K) rfl) (by rfl) T.b_len (by decide +kernel) (pa_cons (pv 0) pa_nil)) pe_int (nomark _))))) (pss_one (ps_ret pe_bl)) pss_nil)
 (pss_cons (ps_if (PW.pt (pw_or (pt_not (pt_val (pe_call (ok_is_amountD T) (hr.mono (by decide)) (by rfl) T.m_is_amount_p T.F_is_amount_p.kp (b_is_amount_p T) .nil pass0 (pa_cons (pe_ix (ix_tupK (K := K) rfl) (pv 0) (pe_glob (v := .int 0) rfl T.gFlow.choose_spec ⟨_, rfl⟩) (fun _ _ => rfl)) pa_nil)))) (pw_or1 (pt_not (pt_val (pe_call (ok_is_amountD T) (hr.mono (by decide)) (by rfl) T.m_is_amount_p T.F_is_amount_p.kp (b_is_amount_p T) .nil pass0 (pa_cons (pe_ix (ix_tupK (K := K) rfl) (pv 0) (pe_glob (v := .int 1) rfl T.gDrop.choose_spec ⟨_, rfl⟩) (fun _ _ => rfl)) pa_nil))))))) (pss_one (ps_ret pe_bl)) pss_nil)
 (pss_one (ps_ret (pe_cmpR op_eq (pe_prop (pe_call (ok_amount_of T) (hr.mono (by decide)) (by rfl) T.m_amount_of T.F_amount_of.kp (b_amount_of T) .nil pass0 (pa_cons (pe_ix (ix_tupK (K := K) rfl) (pv 0) (pe_glob (v := .int 0) rfl T.gFlow.choose_spec ⟨_, rfl⟩) (fun _ _ => rfl)) pa_nil)) T.cl T.p_sign (ok_Amountsign T) (hr.mono (by decide)) (b_Amountsign T) .nil pass0 rfl) (pe_prop (pe_call (ok_amount_of T) (hr.mono (by decide)) (by rfl) T.m_amount_of T.F_amount_of.kp (b_amount_of T) .nil pass0 (pa_cons (pe_ix (ix_tupK (K := K) rfl) (pv 0) (pe_glob (v := .int 1) rfl T.gDrop.choose_spec ⟨_, rfl⟩) (fun _ _ => rfl)) pa_nil)) T.cl T.p_sign (ok_Amountsign T) (hr.mono (by decide)) (b_Amountsign T) .nil pass0 rfl) (nomark _)))))), ?_⟩
    obtain ⟨t, ty, k1, _⟩ := At.ty T hd
    refine ⟨_, rfl, _, _, _, _, isTp d, rfl, .ty _, ty, k1, isTp d, rfl, ?_⟩
    cases d with
    | tp l =>
      simp only [At] at hd
      obtain ⟨q, xs, rfl, et, ha⟩ := hd
      have ln := ha.len
      refine iteF ?_
      refine ⟨_, rfl, _, _, rfl, .inr (SqT.of et), rfl, _, rfl, ite2 (fun h2 => ?_) (fun h2 => ?_)⟩
      · have e : pairOf (.tp l) = none := by
          match l, ln with
          | [], _ => rfl
          | [_], _ => rfl
          | [x, y], ln => rw [ln] at h2; simp at h2
          | _ :: _ :: _ :: _, _ => rfl
        rw [e] at k
        exact k H (Same.refl H)
      · have l2 : l.length = 2 := by
          rw [ln] at h2
          have : ¬ ¬ ((l.length : Int) = 2) := by simpa using h2
          omega
        obtain ⟨x, y, rfl⟩ : ∃ x y, l = [x, y] := by
          match l, l2 with
          | [x, y], _ => exact ⟨x, y, rfl⟩
        obtain ⟨u, r, rfl, hu, ha⟩ := ats_inv ha
        obtain ⟨w, r, rfl, hw, ha⟩ := ats_inv ha
        rw [ats_inv0 ha] at et
        refine ⟨_, rfl, _, _, _, _, rfl, rfl, SqT.of et, at0, p, u, x, rfl, hu, (amOf x).isSome, rfl, ?_⟩
        cases hx : amOf x with
        | none =>
          refine iteT ?_
          have e : pairOf (.tp [x, y]) = none := by simp only [pairOf, hx]
          rw [e] at k
          exact k H (Same.refl H)
        | some z1 =>
          refine iteF ?_
          refine ⟨_, rfl, _, _, _, _, rfl, rfl, SqT.of et, at1, p, w, y, rfl, hw, (amOf y).isSome, rfl, ?_⟩
          cases hy : amOf y with
          | none =>
            refine iteT ?_
            have e : pairOf (.tp [x, y]) = none := by simp only [pairOf, hx, hy]
            rw [e] at k
            exact k H (Same.refl H)
          | some z2 =>
            refine iteF ?_
            have iu := hu.isP hx
            have iw := hw.isP hy
            have l1 := sm _ rfl x (by simp) _ hx
            have l2 := sm _ rfl y (by simp) _ hy
            refine ⟨_, rfl, _, _, _, _, rfl, rfl, SqT.of et, at0, u, _, _, rfl, iu, l1.t.mono hn, fun H1 q s1 aq => ?_⟩
            obtain ⟨dq, eq⟩ := id aq
            refine ⟨q, dq, _, rfl, eq, q, _, _, rfl, aq, ?_⟩
            refine ⟨_, rfl, _, _, _, _, rfl, rfl, SqT.of (s1 _ _ et), at1, w, _, _, rfl, iw.same s1, l2.t.mono hn, fun H2 r s2 ar => ?_⟩
            obtain ⟨dr, er⟩ := id ar
            refine ⟨r, dr, _, rfl, er, r, _, _, rfl, ar, rfl, ?_⟩
            have e := k _ (s1.trans s2)
            show Q (.bl (decide (V.int (sg z1.1) = V.int (sg z2.1)))) H2
            rw [show decide (V.int (sg z1.1) = V.int (sg z2.1)) = (pairOf (.tp [x, y])).isSome by
              simp only [pairOf, hx, hy]
              by_cases hs : sg z1.1 = sg z2.1
              · rw [if_pos hs, hs]; simp
              · rw [if_neg hs, decide_eq_false (fun q => hs (by injection q))]; rfl]
            exact e
    | _ => exact iteT (k H (Same.refl H))
theorem ok_is_originD (T : Txt K mg a) : FnOk P w K mg base CX0 6 a.f_is_origin a.d_is_origin ["value"] (sp_is_originD a.c_Amount) := by
  refine T.F_is_origin.ok sc_is_origin (fun vs H Q E h => ?_) (fun cdv A outer s H vs Q E hr h => ?_)
  · obtain ⟨p, v, d, n, rfl, _⟩ := h
    rfl
  · obtain ⟨p, v, d, n, rfl, hd, sm, hn, k⟩ := h
    refine ⟨_, (pss_one (ps_ret (pe_and (pe_call (ok_is_pointD T) (hr.mono (by decide)) (by rfl) T.m_is_point T.F_is_point.kp (b_is_point T) .nil pass0 (pa_cons (pv 0) pa_nil)) (pe_one (pe_cmpR op_eq (pe_prop (pe_call (ok_amount_of T) (hr.mono (by decide)) (by rfl) T.m_amount_of T.F_amount_of.kp (b_amount_of T) .nil pass0 (pa_cons (pe_ix (ix_tupK (K := K) rfl) (pv 0) (pe_glob (v := .int 0) rfl T.gFlow.choose_spec ⟨_, rfl⟩) (fun _ _ => rfl)) pa_nil)) T.cl T.p_sign (ok_Amountsign T) (hr.mono (by decide)) (b_Amountsign T) .nil pass0 rfl) pe_int (nomark _)))))), ?_⟩
    refine ⟨_, rfl, p, v, d, n, rfl, hd, sm, hn, fun H1 s1 => ⟨_, rfl, ?_⟩⟩
    cases hz : pairOf d with
    | none =>
      refine iteF ?_
      have e : isOrg d = false := by simp only [isOrg, hz]
      rw [e] at k
      exact k H1 s1
    | some z =>
      refine iteT ?_
      have lz := pair_low hz sm
      obtain ⟨t, u, w, rfl, et, iu, iw⟩ := ((hd.same s1).ptP hz)
      refine ⟨_, rfl, _, _, _, _, rfl, rfl, SqT.of et, at0, u, _, _, rfl, iu, lz.x.t.mono hn, fun H2 q s2 aq => ?_⟩
      obtain ⟨dq, eq⟩ := id aq
      refine ⟨q, dq, _, rfl, eq, q, _, _, rfl, aq, rfl, ?_⟩
      have e := k _ (s1.trans s2)
      have e2 : isOrg d = decide (z.1.1 = 0) := by simp only [isOrg, hz]
      rw [e2] at e
      show Q (.bl (decide (V.int (sg z.1.1) = V.int 0))) H2
      rw [show decide (V.int (sg z.1.1) = V.int 0) = decide (z.1.1 = 0) from decide_eq_decide.mpr ⟨fun h => by injection h with h; exact sg0.mp h, fun h => by rw [sg0.mpr h]⟩]
      exact e
end
end K19

set_option Elab.async false
set_option linter.all false
set_option maxRecDepth 100000
set_option maxHeartbeats 4000000
set_option exponentiation.threshold 10000
namespace K19
open PySem L2 Lb
/-! what is refused -/
def badFrom : Option Pt → Nat → List (Option Pt) → Option Nat
  | _, _, [] => none
  | _, i, none :: _ => some i
  | none, i, some z :: r => badFrom (some z) (i + 1) r
  | some y, i, some z :: r => if risesB y z = true then badFrom (some z) (i + 1) r else some i
inductive Vd where
  | nil | at_ (i : Nat) | many | made (zs : List Pt)
def vd (d : Dt) : Vd := if isLT d = false then .nil else if (elems d).all isOrg = true then .nil else match badFrom none 0 ((elems d).map pairOf) with
  | some i => .at_ i
  | none => if 80 < (elems d).length then .many else .made ((elems d).filterMap pairOf)
theorem vd_not {d : Dt} (h : isLT d = false) : vd d = .nil := if_pos h
structure GoodD (n : Nat) (d : Dt) : Prop where
  sm : ∀ e ∈ elems d, Sm n e
  n : n ≤ 3000
  len : (elems d).length ≤ 100
theorem drop_at {α : Type} {l : List α} {i : Nat} {x : α} (h : l[i]? = some x) : l.drop i = x :: l.drop (i + 1) := by
  obtain ⟨hi, e⟩ := List.getElem?_eq_some_iff.mp h
  rw [List.drop_eq_getElem_cons hi, e]
theorem bad_none {o : Option Pt} {i : Nat} {l : List Dt} {d : Dt} (h : l[i]? = some d) (e : pairOf d = none) : badFrom o i ((l.drop i).map pairOf) = some i := by
  rw [drop_at h, List.map_cons, e]
  cases o <;> rfl
theorem bad_first {i : Nat} {l : List Dt} {d : Dt} {z : Pt} (h : l[i]? = some d) (e : pairOf d = some z) : badFrom none i ((l.drop i).map pairOf) = badFrom (some z) (i + 1) ((l.drop (i + 1)).map pairOf) := by
  rw [drop_at h, List.map_cons, e]
  rfl
theorem bad_yes {i : Nat} {l : List Dt} {d : Dt} {y z : Pt} (h : l[i]? = some d) (e : pairOf d = some z) (r : risesB y z = true) : badFrom (some y) i ((l.drop i).map pairOf) = badFrom (some z) (i + 1) ((l.drop (i + 1)).map pairOf) := by
  rw [drop_at h, List.map_cons, e]
  simp only [badFrom, r, if_true]
theorem bad_no {i : Nat} {l : List Dt} {d : Dt} {y z : Pt} (h : l[i]? = some d) (e : pairOf d = some z) (r : ¬ risesB y z = true) : badFrom (some y) i ((l.drop i).map pairOf) = some i := by
  rw [drop_at h, List.map_cons, e]
  simp only [badFrom, if_neg r]
/-- __init__(self, what, limit) -/
def sp_exq2 (K : PySem.W.Frag) (C : Addr) (f g : Str) : Sp := fun vs H Q _ => ∃ (q : Addr) (y z : V), vs = [.ref q, y, z] ∧ H q = some (exo q C none) ∧
  ∀ dx, H dx = none → dx ≠ q → Q .non (upd (upd (upd H dx (exd dx [(f, y)])) q (exo q C (some dx))) dx (exd dx [(g, z), (f, y)]))
theorem exq_way2 {H : Hp} {q C : Addr} {f g : Str} {y z : V} {Q : XK} (hq : H q = none) (k : ∀ H' d, Same H H' → H d = none → H' d = some (.xd [(g, z), (f, y)]) → Q (.ref C) (some d) H') :
    ∀ dx, (upd H q (exo q C none)) dx = none → dx ≠ q → ∃ (d : Addr) (fs : List (Str × V)), (upd (upd (upd (upd H q (exo q C none)) dx (exd dx [(f, y)])) q (exo q C (some dx))) dx (exd dx [(g, z), (f, y)])) q = some (exo q C (some d)) ∧
      (upd (upd (upd (upd H q (exo q C none)) dx (exd dx [(f, y)])) q (exo q C (some dx))) dx (exd dx [(g, z), (f, y)])) d = some (exd d fs) ∧ H d = none ∧ Q (.ref C) (some d) (upd (del (upd (upd (upd (upd H q (exo q C none)) dx (exd dx [(f, y)])) q (exo q C (some dx))) dx (exd dx [(g, z), (f, y)])) q) d (.xd fs)) := by
  intro dx hdx ne
  have hd : H dx = none := by rw [upd_ne ne] at hdx; exact hdx
  refine ⟨dx, [(g, z), (f, y)], by rw [upd_ne (Ne.symm ne), upd_same], by rw [upd_same], hd, k _ dx (fun b o e => ?_) hd upd_same⟩
  have bq : b ≠ q := ne_of_none e hq
  have bd : b ≠ dx := ne_of_none e hd
  rw [upd_ne bd, del_ne bq, upd_ne bd, upd_ne bq, upd_ne bd, upd_ne bq]
  exact e
/-- what the program says of what is refused -/
def Refu (CI CT : Addr) (d : Dt) (H : Hp) (E : XK) : Prop := match vd d with
  | .nil => ∀ H' dd, Same H H' → H dd = none → H' dd = some (.xd [("position", .non)]) → E (.ref CI) (some dd) H'
  | .at_ i => ∀ H' dd, Same H H' → H dd = none → H' dd = some (.xd [("position", .int i)]) → E (.ref CI) (some dd) H'
  | .many => ∀ H' dd, Same H H' → H dd = none → H' dd = some (.xd [("limit", .int 80), ("what", .str "points")]) → E (.ref CT) (some dd) H'
  | .made _ => False
def sp_checkedX (C CI CT : Addr) : Sp := fun vs H _ E => ∃ p v d n, vs = [v] ∧ At C p H d v ∧ GoodD n d ∧ Refu CI CT d H E
section
variable {P : Program} {w : World} {K : PySem.W.Frag} {mg : Str → Option Value} {base : Heap} {a : Ad}
theorem ok_InvalidPoints_init_ (T : Txt K mg a) : FnOk P w K mg base CX0 1 a.f_InvalidPoints_init_ a.d_InvalidPoints_init_ ["self", "position"] (sp_exq K a.c_InvalidPoints "position") := by
  refine T.F_InvalidPoints_init_.ok sc_InvalidPoints_init_ (fun vs H Q E h => ?_) (fun cdv A outer s H vs Q E hr h => ?_)
  · obtain ⟨q, y, rfl, _⟩ := h
    rfl
  · obtain ⟨q, y, rfl, hq, k⟩ := h
    refine ⟨_, (pss_one (ps_ost (pv 0) (pv 1))), ?_⟩
    exact ⟨_, rfl, _, rfl, q, a.c_InvalidPoints, rfl, T.xInvalidPoints.ox, T.nInvalidPoints, .inl ⟨hq, fun dx hdx ne => k dx hdx ne⟩⟩
theorem ok_TooMany_init_ (T : Txt K mg a) : FnOk P w K mg base CX0 1 a.f_TooMany_init_ a.d_TooMany_init_ ["self", "what", "limit"] (sp_exq2 K a.c_TooMany "what" "limit") := by
  refine T.F_TooMany_init_.ok sc_TooMany_init_ (fun vs H Q E h => ?_) (fun cdv A outer s H vs Q E hr h => ?_)
  · obtain ⟨q, y, z, rfl, _⟩ := h
    rfl
  · obtain ⟨q, y, z, rfl, hq, k⟩ := h
    refine ⟨_, (pss_cons (ps_ostA (pv 0) (pv 1))
 (pss_one (ps_ostA (pv 0) (pv 2)))), ?_⟩
    refine ⟨_, rfl, _, rfl, q, a.c_TooMany, rfl, T.xTooMany.ox, T.nTooMany, .inl ⟨hq, fun dx hdx ne => ?_⟩⟩
    exact ⟨_, rfl, _, rfl, q, a.c_TooMany, rfl, T.xTooMany.ox, T.n2TooMany, .inr ⟨dx, _, upd_same, by rw [upd_ne ne, upd_same], (by show 1 ≤ 900; decide), k dx hdx ne⟩⟩
theorem ok_checkedX (T : Txt K mg a) : FnOk P w K mg base (L2.CX P w) 7 a.f_checked a.d_checked ["points"] (sp_checkedX a.c_Amount a.c_InvalidPoints a.c_TooMany) := by
  refine T.F_checked.okX sc_checked (fun vs H Q E h => ?_) (fun cdv A outer s H vs Q E hr h => ?_)
  · obtain ⟨p, v, d, n, rfl, _⟩ := h
    rfl
  · obtain ⟨p, v, d, n, rfl, hd, gd, k⟩ := h
    cases d with
    | ls l =>
      have hd0 := hd
      simp only [At] at hd
      obtain ⟨lp, xs, rfl, el, npl, ha⟩ := hd
      have gl := gd.len
      have gn := gd.n
      have gl : l.length ≤ 100 := gl
      have ln := ha.len
      refine ⟨_, (pss_cons (ps_if (PW.pt (pw_or (pt_not (pt_val (pe_callB (call_isiT (X := _)) (by rfl) T.b_isinstance (by decide +kernel) (pa_cons (pv 0) (pa_cons (pe_tup (pa_cons (pe_bltn (v := .ty "list") (by rfl) T.b_list (by decide +kernel) rfl) (pa_cons (pe_bltn (v := .ty "tuple") (by rfl) T.b_tuple (by decide +kernel) rfl) pa_nil))) pa_nil))))) (pw_or1 (pt_val (pe_callB (cr_allK (K := K) rfl rfl) (by rfl) T.b_all (by decide +kernel) (pa_cons (pe_lc (own := [("point", 1)]) (by rfl) sc_checked.nd (pi_listK (K := K) rfl (pv 0)) (blkOk_by (own := [("point", 1)]) (N := ["points", "point", "rows", "position", "row"]) (sc := defScope s_checked) (by decide +kernel)) (fun _ _ _ _ _ => (pg_name (i := 1) sc_checked.nd rfl (by first | exact Or.inl rfl | exact Or.inr rfl))) (fun _ _ _ _ _ => pts_nil) (fun _ _ _ _ _ => (pe_call (ok_is_originD T) (hr.mono (by decide)) (by rfl) T.m_is_origin T.F_is_origin.kp (b_is_origin T) .nil pass0 (pa_cons (pv 1) pa_nil)))) pa_nil)))))) (pss_one (ps_raise rfl (takes_of rfl rfl rfl rfl) (pmk_oex T.xInvalidPoints.ox T.xInvalidPoints.iC T.xInvalidPoints.tI (ok_InvalidPoints_init_ T) (hr.mono (by decide)) (b_InvalidPoints_init_ T) .nil pass0 (by rfl) T.xInvalidPoints.mC (pa_cons pe_non pa_nil)))) pss_nil)
 (pss_cons (ps_set (i := 2) sc_checked.nd rfl (by first | exact Or.inl rfl | exact Or.inr rfl) (pe_lst pa_nil))
 (pss_cons (ps_for (passes_of rfl) rfl (pi_enum (by rfl) T.b_enumerate (pa_cons (pv 0) pa_nil)) (pg_tupK (K := K) (n := 2) rfl rfl (pgs_cons (pg_name (i := 3) sc_checked.nd rfl (by first | exact Or.inl rfl | exact Or.inr rfl)) (pgs_cons (pg_name (i := 1) sc_checked.nd rfl (by first | exact Or.inl rfl | exact Or.inr rfl)) pgs_nil))) (pss_cons (ps_if (pt_not (pt_val (pe_call (ok_is_pointD T) (hr.mono (by decide)) (by rfl) T.m_is_point T.F_is_point.kp (b_is_point T) .nil pass0 (pa_cons (pv 1) pa_nil)))) (pss_one (ps_raise rfl (takes_of rfl rfl rfl rfl) (pmk_oex T.xInvalidPoints.ox T.xInvalidPoints.iC T.xInvalidPoints.tI (ok_InvalidPoints_init_ T) (hr.mono (by decide)) (b_InvalidPoints_init_ T) .nil pass0 (by rfl) T.xInvalidPoints.mC (pa_cons (pv 3) pa_nil)))) pss_nil)
 (pss_cons (ps_set (i := 4) sc_checked.nd rfl (by first | exact Or.inl rfl | exact Or.inr rfl) (pe_tup (pa_cons (pe_call (ok_amount_of T) (hr.mono (by decide)) (by rfl) T.m_amount_of T.F_amount_of.kp (b_amount_of T) .nil pass0 (pa_cons (pe_ix (ix_tupK (K := K) rfl) (pv 1) (pe_glob (v := .int 0) rfl T.gFlow.choose_spec ⟨_, rfl⟩) (fun _ _ => rfl)) pa_nil)) (pa_cons (pe_call (ok_amount_of T) (hr.mono (by decide)) (by rfl) T.m_amount_of T.F_amount_of.kp (b_amount_of T) .nil pass0 (pa_cons (pe_ix (ix_tupK (K := K) rfl) (pv 1) (pe_glob (v := .int 1) rfl T.gDrop.choose_spec ⟨_, rfl⟩) (fun _ _ => rfl)) pa_nil)) pa_nil))))
 (pss_cons (ps_if (PW.pt (pw_and (pt_cmpR op_gt (pv 3) pe_int (nomark _)) (pw_and1 (pt_not (pt_val (pe_call (ok_risesG T) (hr.mono (by decide)) (by rfl) T.m_rises T.F_rises.kp (b_rises T) .nil pass0 (pa_cons (pe_ix (ix_listK (K := K) rfl) (pv 2) (pe_un un_neg pe_int) (fun _ _ => rfl)) (pa_cons (pv 4) pa_nil)))))))) (pss_one (ps_raise rfl (takes_of rfl rfl rfl rfl) (pmk_oex T.xInvalidPoints.ox T.xInvalidPoints.iC T.xInvalidPoints.tI (ok_InvalidPoints_init_ T) (hr.mono (by decide)) (b_InvalidPoints_init_ T) .nil pass0 (by rfl) T.xInvalidPoints.mC (pa_cons (pv 3) pa_nil)))) pss_nil)
 (pss_one (ps_expr (pe_bm PySem.F.plainAttrs_list PySem.F.slot_list_append PySem.F.type_list_append mt_append (pv 2) (pa_cons (pv 4) pa_nil))))))))
 (pss_cons (ps_if (pt_cmpR op_gt (pe_callB (call_lenK (K := K) rfl) (by rfl) T.b_len (by decide +kernel) (pa_cons (pv 2) pa_nil)) (pe_glob (v := .int 80) rfl T.gMost.choose_spec ⟨_, rfl⟩) (nomark _)) (pss_one (ps_raise rfl (takes_of rfl rfl rfl rfl) (pmk_oexA T.xTooMany.ox T.xTooMany.iC T.xTooMany.tI (ok_TooMany_init_ T) (hr.mono (by decide)) (b_TooMany_init_ T) .nil pass0 (by rfl) T.xTooMany.mC (pa_cons pe_str (pa_cons (pe_glob (v := .int 80) rfl T.gMost.choose_spec ⟨_, rfl⟩) pa_nil))))) pss_nil)
 (pss_one (ps_ret (pv 2))))))), ?_⟩
      refine ⟨_, rfl, sz, fun tp htp => ?_⟩
      generalize e_H1 : upd _ tp _ = H1
      obtain ⟨s1, ft⟩ := al3 e_H1 htp
      clear e_H1
      (try dsimp only at ft)
      have el := s1 _ _ el
      have ha := Ats.same s1 _ _ ha
      obtain ⟨t, ty, _, k2, _⟩ := At.ty T (At.same s1 _ _ hd0)
      refine ⟨_, tp, _, _, _, true, rfl, ft, .cons (.ty _) (.cons (.ty _) .nil), ty, k2, true, rfl, iteF ?_⟩
      refine ⟨_, rfl, lp, rfl, ⟨_, SqL.of el⟩, fun D hD => ?_⟩
      refine lc_list (K := K) (a := lp) (xs := xs) (fun i H' => Same H1 H' ∧ H' D = some (.lst (((l.take i).map isOrg).map V.bl))) ⟨Lb.Same.upd hD, upd_same⟩ (fun i H' _ b => SqL.of (b.1 _ _ el)) ?_ ?_
      · rintro i v H' hi ⟨s', eD⟩
        obtain ⟨d, hd, hv⟩ := ha.at_ hi
        refine ⟨rfl, ?_⟩
        refine ⟨_, rfl, p, v, d, n, rfl, At.same s' _ _ hv, gd.sm d (List.mem_of_getElem? hd), by omega, fun H'' s'' => ⟨_, s'' _ _ eD, ?_, Lb.Same.updl (s'.trans s'') hD, ?_⟩⟩
        · rw [List.length_map, List.length_map, List.length_take]
          exact szlt (by omega)
        · rw [upd_same, ← take_snoc hd, List.map_append, List.map_append]
          rfl
      rintro H2 ⟨s2, eD⟩
      rw [ln, List.take_length] at eD
      have S2 := s1.trans s2
      have el := s2 _ _ el
      have ha := Ats.same s2 _ _ ha
      refine ⟨D, _, rfl, SqL.of eD, _, rfl, ite2 (fun ho => ?_) (fun ho => ?_)⟩
      · have ho : l.all isOrg = true := by simpa [List.all_map] using ho
        have hvd : vd (.ls l) = .nil := by
          unfold vd
          rw [if_neg (by simp [isLT]), if_pos (show (elems (.ls l)).all isOrg = true from ho)]
        unfold Refu at k
        rw [hvd] at k
        exact ⟨(show 1 ≤ 1000 by decide), fun q hq => ⟨q, .non, rfl, upd_same, fun dx' hdx' ne' => ⟨rfl, exq_way hq (fun H' dd s n e => k H' dd (S2.trans s) (Lb.Same.free S2 n) e) dx' hdx' ne'⟩⟩⟩
      · have ho : ¬ l.all isOrg = true := by simpa [List.all_map] using ho
        have hvd : vd (.ls l) = match badFrom none 0 (l.map pairOf) with
            | some i => .at_ i
            | none => if 80 < l.length then .many else .made (l.filterMap pairOf) := by
          unfold vd
          rw [if_neg (by simp [isLT]), if_neg (show ¬ (elems (.ls l)).all isOrg = true from ho)]
          rfl
        refine ⟨sz, fun rl hrl => ?_⟩
        have sr := Lb.Same.upd (o := .lst []) hrl
        refine ⟨_, rfl, lp, _, rfl, SqL.of (sr _ _ el), ?_⟩
        refine for_enum (K := K) (a := lp) (xs := xs) (fun i σ H' => ∃ u1 u3 u4 zs, σ = [some (.ref lp), u1, some (.ref rl), u3, u4] ∧ Same H2 H' ∧ (l.take i).map pairOf = zs.map some ∧ badFrom none 0 (l.map pairOf) = badFrom zs.getLast? i ((l.drop i).map pairOf) ∧ ∃ rs : List Addr, H' rl = some (.lst (rs.map V.ref)) ∧ Paired (RowA a.c_Amount H') rs zs)
          ⟨_, _, _, [], rfl, sr, rfl, rfl, [], upd_same, .nil⟩ (fun i σ H' ⟨_, _, _, _, _, s, _⟩ => SqL.of (s _ _ el)) ?_ ?_
        · rintro i v T0 σ H' hi ⟨u1, u3, u4, zs, rfl, sH, ez, eb, rs, er, prs⟩ hT0
          obtain ⟨d, hd, hv⟩ := ha.at_ hi
          have hlt := (List.getElem?_eq_some_iff.mp hd).1
          have lzs : zs.length = i := by
            have e := congrArg List.length ez
            rw [List.length_map, List.length_map, List.length_take] at e
            omega
          have lrs : rs.length = i := by rw [← lzs]; exact Paired.len prs
          generalize e_H5 : upd _ T0 _ = H5
          obtain ⟨s5, f5⟩ := al3 e_H5 hT0
          clear e_H5
          (try dsimp only at f5)
          have S5 := sH.trans s5
          refine ⟨T0, _, rfl, SqT.of f5, rfl, _, _, rfl, _, _, rfl, rfl, ?_⟩
          have hv5 := At.same S5 _ _ hv
          have smd := gd.sm d (List.mem_of_getElem? hd)
          refine ⟨_, rfl, p, v, d, n, rfl, hv5, smd, by omega, fun H6 s6 => ⟨_, rfl, ?_⟩⟩
          have S6 := S5.trans s6
          have S06 := S2.trans S6
          cases hz : pairOf d with
          | none =>
            refine iteT ?_
            rw [eb, bad_none hd hz] at hvd
            unfold Refu at k
            rw [hvd] at k
            exact ⟨_, rfl, (show 1 ≤ 1000 by decide), fun q hq => ⟨q, .int i, rfl, upd_same, fun dx' hdx' ne' => ⟨rfl, exq_way hq (fun H' dd s n e => k H' dd (S06.trans s) (Lb.Same.free S06 n) e) dx' hdx' ne'⟩⟩⟩
          | some z =>
            refine iteF ?_
            have lz := pair_low hz smd
            obtain ⟨t, u, w', rfl, et, iu, iw⟩ := (At.same s6 _ _ hv5).ptP hz
            refine ⟨_, rfl, _, _, _, _, rfl, rfl, SqT.of et, at0, u, _, _, rfl, iu, lz.x.t.mono (by omega), fun H7 q s7 aq => ?_⟩
            refine ⟨_, rfl, _, _, _, _, rfl, rfl, SqT.of (s7 _ _ et), at1, w', _, _, rfl, iw.same s7, lz.y.t.mono (by omega), fun H8 q' s8 aq' => ⟨sz, fun r hr' => ?_⟩⟩
            generalize e_H9 : upd _ r _ = H9
            obtain ⟨s9, fr⟩ := al3 e_H9 hr'
            clear e_H9
            (try dsimp only at fr)
            have S69 := (s7.trans s8).trans s9
            have S9 := S6.trans S69
            have S59 := s6.trans S69
            have S09 := S2.trans S9
            have row : RowA a.c_Amount H9 r z := ⟨q, q', fr, (aq.same s8).same s9, aq'.same s9⟩
            have er := (s5.trans S59) _ _ er
            have prs := Paired.imp prs fun _ _ h => RowA.same h (s5.trans S59)
            have ez' : (l.take (i + 1)).map pairOf = (zs ++ [z]).map some := by
              rw [← take_snoc hd, List.map_append, List.map_append, ez, List.map_cons, hz]
              rfl
            have fin : badFrom none 0 (l.map pairOf) = badFrom (zs ++ [z]).getLast? (i + 1) ((l.drop (i + 1)).map pairOf) → ∀ σ', σ' = [some (V.ref lp), some (V.ref t), some (V.ref rl), some (V.int i), some (V.ref r)] → ∃ u1 u3 u4 zs, σ' = [some (.ref lp), u1, some (.ref rl), u3, u4] ∧ Same H2 (upd H9 rl (.lst (rs.map V.ref ++ [V.ref r]))) ∧ (l.take (i + 1)).map pairOf = zs.map some ∧ badFrom none 0 (l.map pairOf) = badFrom zs.getLast? (i + 1) ((l.drop (i + 1)).map pairOf) ∧ ∃ rs' : List Addr, (upd H9 rl (.lst (rs.map V.ref ++ [V.ref r]))) rl = some (.lst (rs'.map V.ref)) ∧ Paired (RowA a.c_Amount (upd H9 rl (.lst (rs.map V.ref ++ [V.ref r])))) rs' zs := by
              intro eb' σ' e
              have nl : ∀ {b : Addr} {z : Pt}, RowA a.c_Amount H9 b z → RowA a.c_Amount (upd H9 rl (.lst (rs.map V.ref ++ [V.ref r]))) b z := by
                rintro b z ⟨p1, p2, e1, ⟨d1, a1⟩, d2, a2⟩
                have ne : ∀ {c : Addr} {o : HO}, H9 c = some o → (∀ x, o ≠ .lst x) → upd H9 rl (.lst (rs.map V.ref ++ [V.ref r])) c = some o := fun {c o} hc ho => by
                  have : c ≠ rl := fun q => by rw [q, er] at hc; exact ho _ (Option.some.inj hc).symm
                  rw [upd_ne this]
                  exact hc
                exact ⟨p1, p2, ne e1 (fun _ q => nomatch q), ⟨d1, ne a1 (fun _ q => nomatch q)⟩, d2, ne a2 (fun _ q => nomatch q)⟩
              refine ⟨_, _, _, zs ++ [z], e, Lb.Same.updl S9 hrl, ez', eb', rs ++ [r], by rw [upd_same, List.map_append]; rfl, ?_⟩
              exact paired_snoc (Paired.imp prs fun _ _ h => nl h) (nl row)
            refine ⟨_, rfl, _, _, rfl, rfl, _, rfl, ite2 (fun h0 => ?_) (fun h0 => ?_)⟩
            · have h0 : 0 < i := by
                have : (i : Int) > 0 := of_decide_eq_true h0
                omega
              obtain ⟨z0, hz0⟩ : ∃ z0, zs[i - 1]? = some z0 := ⟨_, List.getElem?_eq_getElem (by omega)⟩
              have gl0 : zs.getLast? = some z0 := by rw [List.getLast?_eq_getElem?, lzs]; exact hz0
              obtain ⟨r0, hr0, row0⟩ := Paired.at_r prs (i := i - 1) (b := z0) hz0
              have lz0 : PtL n z0 := by
                have e : ((l.take i).map pairOf)[i - 1]? = some (some z0) := by rw [ez, List.getElem?_map, hz0]; rfl
                rw [List.getElem?_map] at e
                obtain ⟨d0, hd0', e0⟩ := Option.map_eq_some_iff.mp e
                exact pair_low e0 (gd.sm d0 (List.mem_of_mem_take (List.mem_of_getElem? hd0')))
              have at0' : atI (rs.map V.ref) (-1) = some (.ref r0) := by
                rw [atI_last (j := i - 1) (by rw [List.length_map]; omega), List.getElem?_map, hr0]
                rfl
              refine ⟨_, rfl, _, rfl, _, _, _, _, rfl, rfl, SqL.of er, at0', _, rfl, r0, r, z0, z, n, rfl, row0, row, lz0, lz, by omega, _, rfl, ?_⟩
              rw [gl0] at eb
              by_cases hR : risesB z0 z = true
              · rw [hR]
                refine iteF ?_
                refine ⟨_, rfl, .inl ⟨rfl, _, SqL.of er⟩, _, rfl, rl, _, _, rfl, rfl, er, szlt (by rw [List.length_map]; omega), fin ?_ _ rfl⟩
                rw [List.getLast?_concat, eb, bad_yes hd hz hR]
              · rw [Bool.eq_false_iff.mpr hR]
                refine iteT ?_
                rw [eb, bad_no hd hz hR] at hvd
                unfold Refu at k
                rw [hvd] at k
                exact ⟨_, rfl, (show 1 ≤ 1000 by decide), fun q hq => ⟨q, .int i, rfl, upd_same, fun dx' hdx' ne' => ⟨rfl, exq_way hq (fun H' dd s n e => k H' dd (S09.trans s) (Lb.Same.free S09 n) e) dx' hdx' ne'⟩⟩⟩
            · have h0 : i = 0 := by
                have : ¬ (i : Int) > 0 := fun q => h0 (decide_eq_true q)
                omega
              subst h0
              have zn : zs = [] := List.length_eq_zero_iff.mp lzs
              subst zn
              refine ⟨_, rfl, .inl ⟨rfl, _, SqL.of er⟩, _, rfl, rl, _, _, rfl, rfl, er, szlt (by rw [List.length_map]; omega), fin ?_ _ rfl⟩
              exact eb.trans (bad_first hd hz)
        · rintro σ H5 ⟨u1, u3, u4, zs, rfl, S5, ez, eb, rs, er, prs⟩
          rw [ln] at eb ez
          rw [List.drop_length] at eb
          rw [List.take_length] at ez
          have S05 := S2.trans S5
          have eb : badFrom none 0 (l.map pairOf) = none := eb.trans (by cases zs.getLast? <;> rfl)
          rw [eb] at hvd
          have lrs := Paired.len prs
          have lzs : zs.length = l.length := by
            have e := congrArg List.length ez
            rw [List.length_map, List.length_map] at e
            omega
          refine ⟨_, rfl, _, _, rfl, .inl (SqL.of er), _, _, rfl, rfl, _, rfl, ite2 (fun h80 => ?_) (fun h80 => ?_)⟩
          · have h80 : 80 < l.length := by
              have : ((rs.map V.ref).length : Int) > 80 := of_decide_eq_true h80
              rw [List.length_map] at this
              omega
            have hvd := hvd.trans (if_pos h80)
            unfold Refu at k
            rw [hvd] at k
            exact ⟨(show 2 ≤ 1000 by decide), fun q hq => ⟨q, .str "points", .int 80, rfl, upd_same, fun dx' hdx' ne' => ⟨rfl, exq_way2 hq (fun H' dd s n e => k H' dd (S05.trans s) (Lb.Same.free S05 n) e) dx' hdx' ne'⟩⟩⟩
          · have h80 : ¬ 80 < l.length := by
              intro q
              apply h80
              refine decide_eq_true ?_
              rw [List.length_map]
              omega
            have hvd := hvd.trans (if_neg h80)
            unfold Refu at k
            rw [hvd] at k
            exact k.elim
    | tp l =>
      have hd0 := hd
      simp only [At] at hd
      obtain ⟨lp, xs, rfl, el, ha⟩ := hd
      have gl := gd.len
      have gn := gd.n
      have gl : l.length ≤ 100 := gl
      have ln := ha.len
      refine ⟨_, (pss_cons (ps_if (PW.pt (pw_or (pt_not (pt_val (pe_callB (call_isiT (X := _)) (by rfl) T.b_isinstance (by decide +kernel) (pa_cons (pv 0) (pa_cons (pe_tup (pa_cons (pe_bltn (v := .ty "list") (by rfl) T.b_list (by decide +kernel) rfl) (pa_cons (pe_bltn (v := .ty "tuple") (by rfl) T.b_tuple (by decide +kernel) rfl) pa_nil))) pa_nil))))) (pw_or1 (pt_val (pe_callB (cr_allK (K := K) rfl rfl) (by rfl) T.b_all (by decide +kernel) (pa_cons (pe_lc (own := [("point", 1)]) (by rfl) sc_checked.nd (pi_tupK (K := K) rfl (pv 0)) (blkOk_by (own := [("point", 1)]) (N := ["points", "point", "rows", "position", "row"]) (sc := defScope s_checked) (by decide +kernel)) (fun _ _ _ _ _ => (pg_name (i := 1) sc_checked.nd rfl (by first | exact Or.inl rfl | exact Or.inr rfl))) (fun _ _ _ _ _ => pts_nil) (fun _ _ _ _ _ => (pe_call (ok_is_originD T) (hr.mono (by decide)) (by rfl) T.m_is_origin T.F_is_origin.kp (b_is_origin T) .nil pass0 (pa_cons (pv 1) pa_nil)))) pa_nil)))))) (pss_one (ps_raise rfl (takes_of rfl rfl rfl rfl) (pmk_oex T.xInvalidPoints.ox T.xInvalidPoints.iC T.xInvalidPoints.tI (ok_InvalidPoints_init_ T) (hr.mono (by decide)) (b_InvalidPoints_init_ T) .nil pass0 (by rfl) T.xInvalidPoints.mC (pa_cons pe_non pa_nil)))) pss_nil)
 (pss_cons (ps_set (i := 2) sc_checked.nd rfl (by first | exact Or.inl rfl | exact Or.inr rfl) (pe_lst pa_nil))
 (pss_cons (ps_for (passes_of rfl) rfl (pi_enumT (by rfl) T.b_enumerate (pa_cons (pv 0) pa_nil)) (pg_tupK (K := K) (n := 2) rfl rfl (pgs_cons (pg_name (i := 3) sc_checked.nd rfl (by first | exact Or.inl rfl | exact Or.inr rfl)) (pgs_cons (pg_name (i := 1) sc_checked.nd rfl (by first | exact Or.inl rfl | exact Or.inr rfl)) pgs_nil))) (pss_cons (ps_if (pt_not (pt_val (pe_call (ok_is_pointD T) (hr.mono (by decide)) (by rfl) T.m_is_point T.F_is_point.kp (b_is_point T) .nil pass0 (pa_cons (pv 1) pa_nil)))) (pss_one (ps_raise rfl (takes_of rfl rfl rfl rfl) (pmk_oex T.xInvalidPoints.ox T.xInvalidPoints.iC T.xInvalidPoints.tI (ok_InvalidPoints_init_ T) (hr.mono (by decide)) (b_InvalidPoints_init_ T) .nil pass0 (by rfl) T.xInvalidPoints.mC (pa_cons (pv 3) pa_nil)))) pss_nil)
 (pss_cons (ps_set (i := 4) sc_checked.nd rfl (by first | exact Or.inl rfl | exact Or.inr rfl) (pe_tup (pa_cons (pe_call (ok_amount_of T) (hr.mono (by decide)) (by rfl) T.m_amount_of T.F_amount_of.kp (b_amount_of T) .nil pass0 (pa_cons (pe_ix (ix_tupK (K := K) rfl) (pv 1) (pe_glob (v := .int 0) rfl T.gFlow.choose_spec ⟨_, rfl⟩) (fun _ _ => rfl)) pa_nil)) (pa_cons (pe_call (ok_amount_of T) (hr.mono (by decide)) (by rfl) T.m_amount_of T.F_amount_of.kp (b_amount_of T) .nil pass0 (pa_cons (pe_ix (ix_tupK (K := K) rfl) (pv 1) (pe_glob (v := .int 1) rfl T.gDrop.choose_spec ⟨_, rfl⟩) (fun _ _ => rfl)) pa_nil)) pa_nil))))
 (pss_cons (ps_if (PW.pt (pw_and (pt_cmpR op_gt (pv 3) pe_int (nomark _)) (pw_and1 (pt_not (pt_val (pe_call (ok_risesG T) (hr.mono (by decide)) (by rfl) T.m_rises T.F_rises.kp (b_rises T) .nil pass0 (pa_cons (pe_ix (ix_listK (K := K) rfl) (pv 2) (pe_un un_neg pe_int) (fun _ _ => rfl)) (pa_cons (pv 4) pa_nil)))))))) (pss_one (ps_raise rfl (takes_of rfl rfl rfl rfl) (pmk_oex T.xInvalidPoints.ox T.xInvalidPoints.iC T.xInvalidPoints.tI (ok_InvalidPoints_init_ T) (hr.mono (by decide)) (b_InvalidPoints_init_ T) .nil pass0 (by rfl) T.xInvalidPoints.mC (pa_cons (pv 3) pa_nil)))) pss_nil)
 (pss_one (ps_expr (pe_bm PySem.F.plainAttrs_list PySem.F.slot_list_append PySem.F.type_list_append mt_append (pv 2) (pa_cons (pv 4) pa_nil))))))))
 (pss_cons (ps_if (pt_cmpR op_gt (pe_callB (call_lenK (K := K) rfl) (by rfl) T.b_len (by decide +kernel) (pa_cons (pv 2) pa_nil)) (pe_glob (v := .int 80) rfl T.gMost.choose_spec ⟨_, rfl⟩) (nomark _)) (pss_one (ps_raise rfl (takes_of rfl rfl rfl rfl) (pmk_oexA T.xTooMany.ox T.xTooMany.iC T.xTooMany.tI (ok_TooMany_init_ T) (hr.mono (by decide)) (b_TooMany_init_ T) .nil pass0 (by rfl) T.xTooMany.mC (pa_cons pe_str (pa_cons (pe_glob (v := .int 80) rfl T.gMost.choose_spec ⟨_, rfl⟩) pa_nil))))) pss_nil)
 (pss_one (ps_ret (pv 2))))))), ?_⟩
      refine ⟨_, rfl, sz, fun tp htp => ?_⟩
      generalize e_H1 : upd _ tp _ = H1
      obtain ⟨s1, ft⟩ := al3 e_H1 htp
      clear e_H1
      (try dsimp only at ft)
      have el := s1 _ _ el
      have ha := Ats.same s1 _ _ ha
      obtain ⟨t, ty, _, k2, _⟩ := At.ty T (At.same s1 _ _ hd0)
      refine ⟨_, tp, _, _, _, true, rfl, ft, .cons (.ty _) (.cons (.ty _) .nil), ty, k2, true, rfl, iteF ?_⟩
      refine ⟨_, rfl, lp, rfl, ⟨_, SqT.of el⟩, fun D hD => ?_⟩
      refine lc_tup (K := K) (a := lp) (xs := xs) (fun i H' => Same H1 H' ∧ H' D = some (.lst (((l.take i).map isOrg).map V.bl))) ⟨Lb.Same.upd hD, upd_same⟩ (fun i H' _ b => SqT.of (b.1 _ _ el)) ?_ ?_
      · rintro i v H' hi ⟨s', eD⟩
        obtain ⟨d, hd, hv⟩ := ha.at_ hi
        refine ⟨rfl, ?_⟩
        refine ⟨_, rfl, p, v, d, n, rfl, At.same s' _ _ hv, gd.sm d (List.mem_of_getElem? hd), by omega, fun H'' s'' => ⟨_, s'' _ _ eD, ?_, Lb.Same.updl (s'.trans s'') hD, ?_⟩⟩
        · rw [List.length_map, List.length_map, List.length_take]
          exact szlt (by omega)
        · rw [upd_same, ← take_snoc hd, List.map_append, List.map_append]
          rfl
      rintro H2 ⟨s2, eD⟩
      rw [ln, List.take_length] at eD
      have S2 := s1.trans s2
      have el := s2 _ _ el
      have ha := Ats.same s2 _ _ ha
      refine ⟨D, _, rfl, SqL.of eD, _, rfl, ite2 (fun ho => ?_) (fun ho => ?_)⟩
      · have ho : l.all isOrg = true := by simpa [List.all_map] using ho
        have hvd : vd (.tp l) = .nil := by
          unfold vd
          rw [if_neg (by simp [isLT]), if_pos (show (elems (.tp l)).all isOrg = true from ho)]
        unfold Refu at k
        rw [hvd] at k
        exact ⟨(show 1 ≤ 1000 by decide), fun q hq => ⟨q, .non, rfl, upd_same, fun dx' hdx' ne' => ⟨rfl, exq_way hq (fun H' dd s n e => k H' dd (S2.trans s) (Lb.Same.free S2 n) e) dx' hdx' ne'⟩⟩⟩
      · have ho : ¬ l.all isOrg = true := by simpa [List.all_map] using ho
        have hvd : vd (.tp l) = match badFrom none 0 (l.map pairOf) with
            | some i => .at_ i
            | none => if 80 < l.length then .many else .made (l.filterMap pairOf) := by
          unfold vd
          rw [if_neg (by simp [isLT]), if_neg (show ¬ (elems (.tp l)).all isOrg = true from ho)]
          rfl
        refine ⟨sz, fun rl hrl => ?_⟩
        have sr := Lb.Same.upd (o := .lst []) hrl
        refine ⟨_, rfl, lp, _, rfl, SqT.of (sr _ _ el), ?_⟩
        refine for_enumT (K := K) (a := lp) (xs := xs) (fun i σ H' => ∃ u1 u3 u4 zs, σ = [some (.ref lp), u1, some (.ref rl), u3, u4] ∧ Same H2 H' ∧ (l.take i).map pairOf = zs.map some ∧ badFrom none 0 (l.map pairOf) = badFrom zs.getLast? i ((l.drop i).map pairOf) ∧ ∃ rs : List Addr, H' rl = some (.lst (rs.map V.ref)) ∧ Paired (RowA a.c_Amount H') rs zs)
          ⟨_, _, _, [], rfl, sr, rfl, rfl, [], upd_same, .nil⟩ (fun i σ H' ⟨_, _, _, _, _, s, _⟩ => SqT.of (s _ _ el)) ?_ ?_
        · rintro i v T0 σ H' hi ⟨u1, u3, u4, zs, rfl, sH, ez, eb, rs, er, prs⟩ hT0
          obtain ⟨d, hd, hv⟩ := ha.at_ hi
          have hlt := (List.getElem?_eq_some_iff.mp hd).1
          have lzs : zs.length = i := by
            have e := congrArg List.length ez
            rw [List.length_map, List.length_map, List.length_take] at e
            omega
          have lrs : rs.length = i := by rw [← lzs]; exact Paired.len prs
          generalize e_H5 : upd _ T0 _ = H5
          obtain ⟨s5, f5⟩ := al3 e_H5 hT0
          clear e_H5
          (try dsimp only at f5)
          have S5 := sH.trans s5
          refine ⟨T0, _, rfl, SqT.of f5, rfl, _, _, rfl, _, _, rfl, rfl, ?_⟩
          have hv5 := At.same S5 _ _ hv
          have smd := gd.sm d (List.mem_of_getElem? hd)
          refine ⟨_, rfl, p, v, d, n, rfl, hv5, smd, by omega, fun H6 s6 => ⟨_, rfl, ?_⟩⟩
          have S6 := S5.trans s6
          have S06 := S2.trans S6
          cases hz : pairOf d with
          | none =>
            refine iteT ?_
            rw [eb, bad_none hd hz] at hvd
            unfold Refu at k
            rw [hvd] at k
            exact ⟨_, rfl, (show 1 ≤ 1000 by decide), fun q hq => ⟨q, .int i, rfl, upd_same, fun dx' hdx' ne' => ⟨rfl, exq_way hq (fun H' dd s n e => k H' dd (S06.trans s) (Lb.Same.free S06 n) e) dx' hdx' ne'⟩⟩⟩
          | some z =>
            refine iteF ?_
            have lz := pair_low hz smd
            obtain ⟨t, u, w', rfl, et, iu, iw⟩ := (At.same s6 _ _ hv5).ptP hz
            refine ⟨_, rfl, _, _, _, _, rfl, rfl, SqT.of et, at0, u, _, _, rfl, iu, lz.x.t.mono (by omega), fun H7 q s7 aq => ?_⟩
            refine ⟨_, rfl, _, _, _, _, rfl, rfl, SqT.of (s7 _ _ et), at1, w', _, _, rfl, iw.same s7, lz.y.t.mono (by omega), fun H8 q' s8 aq' => ⟨sz, fun r hr' => ?_⟩⟩
            generalize e_H9 : upd _ r _ = H9
            obtain ⟨s9, fr⟩ := al3 e_H9 hr'
            clear e_H9
            (try dsimp only at fr)
            have S69 := (s7.trans s8).trans s9
            have S9 := S6.trans S69
            have S59 := s6.trans S69
            have S09 := S2.trans S9
            have row : RowA a.c_Amount H9 r z := ⟨q, q', fr, (aq.same s8).same s9, aq'.same s9⟩
            have er := (s5.trans S59) _ _ er
            have prs := Paired.imp prs fun _ _ h => RowA.same h (s5.trans S59)
            have ez' : (l.take (i + 1)).map pairOf = (zs ++ [z]).map some := by
              rw [← take_snoc hd, List.map_append, List.map_append, ez, List.map_cons, hz]
              rfl
            have fin : badFrom none 0 (l.map pairOf) = badFrom (zs ++ [z]).getLast? (i + 1) ((l.drop (i + 1)).map pairOf) → ∀ σ', σ' = [some (V.ref lp), some (V.ref t), some (V.ref rl), some (V.int i), some (V.ref r)] → ∃ u1 u3 u4 zs, σ' = [some (.ref lp), u1, some (.ref rl), u3, u4] ∧ Same H2 (upd H9 rl (.lst (rs.map V.ref ++ [V.ref r]))) ∧ (l.take (i + 1)).map pairOf = zs.map some ∧ badFrom none 0 (l.map pairOf) = badFrom zs.getLast? (i + 1) ((l.drop (i + 1)).map pairOf) ∧ ∃ rs' : List Addr, (upd H9 rl (.lst (rs.map V.ref ++ [V.ref r]))) rl = some (.lst (rs'.map V.ref)) ∧ Paired (RowA a.c_Amount (upd H9 rl (.lst (rs.map V.ref ++ [V.ref r])))) rs' zs := by
              intro eb' σ' e
              have nl : ∀ {b : Addr} {z : Pt}, RowA a.c_Amount H9 b z → RowA a.c_Amount (upd H9 rl (.lst (rs.map V.ref ++ [V.ref r]))) b z := by
                rintro b z ⟨p1, p2, e1, ⟨d1, a1⟩, d2, a2⟩
                have ne : ∀ {c : Addr} {o : HO}, H9 c = some o → (∀ x, o ≠ .lst x) → upd H9 rl (.lst (rs.map V.ref ++ [V.ref r])) c = some o := fun {c o} hc ho => by
                  have : c ≠ rl := fun q => by rw [q, er] at hc; exact ho _ (Option.some.inj hc).symm
                  rw [upd_ne this]
                  exact hc
                exact ⟨p1, p2, ne e1 (fun _ q => nomatch q), ⟨d1, ne a1 (fun _ q => nomatch q)⟩, d2, ne a2 (fun _ q => nomatch q)⟩
              refine ⟨_, _, _, zs ++ [z], e, Lb.Same.updl S9 hrl, ez', eb', rs ++ [r], by rw [upd_same, List.map_append]; rfl, ?_⟩
              exact paired_snoc (Paired.imp prs fun _ _ h => nl h) (nl row)
            refine ⟨_, rfl, _, _, rfl, rfl, _, rfl, ite2 (fun h0 => ?_) (fun h0 => ?_)⟩
            · have h0 : 0 < i := by
                have : (i : Int) > 0 := of_decide_eq_true h0
                omega
              obtain ⟨z0, hz0⟩ : ∃ z0, zs[i - 1]? = some z0 := ⟨_, List.getElem?_eq_getElem (by omega)⟩
              have gl0 : zs.getLast? = some z0 := by rw [List.getLast?_eq_getElem?, lzs]; exact hz0
              obtain ⟨r0, hr0, row0⟩ := Paired.at_r prs (i := i - 1) (b := z0) hz0
              have lz0 : PtL n z0 := by
                have e : ((l.take i).map pairOf)[i - 1]? = some (some z0) := by rw [ez, List.getElem?_map, hz0]; rfl
                rw [List.getElem?_map] at e
                obtain ⟨d0, hd0', e0⟩ := Option.map_eq_some_iff.mp e
                exact pair_low e0 (gd.sm d0 (List.mem_of_mem_take (List.mem_of_getElem? hd0')))
              have at0' : atI (rs.map V.ref) (-1) = some (.ref r0) := by
                rw [atI_last (j := i - 1) (by rw [List.length_map]; omega), List.getElem?_map, hr0]
                rfl
              refine ⟨_, rfl, _, rfl, _, _, _, _, rfl, rfl, SqL.of er, at0', _, rfl, r0, r, z0, z, n, rfl, row0, row, lz0, lz, by omega, _, rfl, ?_⟩
              rw [gl0] at eb
              by_cases hR : risesB z0 z = true
              · rw [hR]
                refine iteF ?_
                refine ⟨_, rfl, .inl ⟨rfl, _, SqL.of er⟩, _, rfl, rl, _, _, rfl, rfl, er, szlt (by rw [List.length_map]; omega), fin ?_ _ rfl⟩
                rw [List.getLast?_concat, eb, bad_yes hd hz hR]
              · rw [Bool.eq_false_iff.mpr hR]
                refine iteT ?_
                rw [eb, bad_no hd hz hR] at hvd
                unfold Refu at k
                rw [hvd] at k
                exact ⟨_, rfl, (show 1 ≤ 1000 by decide), fun q hq => ⟨q, .int i, rfl, upd_same, fun dx' hdx' ne' => ⟨rfl, exq_way hq (fun H' dd s n e => k H' dd (S09.trans s) (Lb.Same.free S09 n) e) dx' hdx' ne'⟩⟩⟩
            · have h0 : i = 0 := by
                have : ¬ (i : Int) > 0 := fun q => h0 (decide_eq_true q)
                omega
              subst h0
              have zn : zs = [] := List.length_eq_zero_iff.mp lzs
              subst zn
              refine ⟨_, rfl, .inl ⟨rfl, _, SqL.of er⟩, _, rfl, rl, _, _, rfl, rfl, er, szlt (by rw [List.length_map]; omega), fin ?_ _ rfl⟩
              exact eb.trans (bad_first hd hz)
        · rintro σ H5 ⟨u1, u3, u4, zs, rfl, S5, ez, eb, rs, er, prs⟩
          rw [ln] at eb ez
          rw [List.drop_length] at eb
          rw [List.take_length] at ez
          have S05 := S2.trans S5
          have eb : badFrom none 0 (l.map pairOf) = none := eb.trans (by cases zs.getLast? <;> rfl)
          rw [eb] at hvd
          have lrs := Paired.len prs
          have lzs : zs.length = l.length := by
            have e := congrArg List.length ez
            rw [List.length_map, List.length_map] at e
            omega
          refine ⟨_, rfl, _, _, rfl, .inl (SqL.of er), _, _, rfl, rfl, _, rfl, ite2 (fun h80 => ?_) (fun h80 => ?_)⟩
          · have h80 : 80 < l.length := by
              have : ((rs.map V.ref).length : Int) > 80 := of_decide_eq_true h80
              rw [List.length_map] at this
              omega
            have hvd := hvd.trans (if_pos h80)
            unfold Refu at k
            rw [hvd] at k
            exact ⟨(show 2 ≤ 1000 by decide), fun q hq => ⟨q, .str "points", .int 80, rfl, upd_same, fun dx' hdx' ne' => ⟨rfl, exq_way2 hq (fun H' dd s n e => k H' dd (S05.trans s) (Lb.Same.free S05 n) e) dx' hdx' ne'⟩⟩⟩
          · have h80 : ¬ 80 < l.length := by
              intro q
              apply h80
              refine decide_eq_true ?_
              rw [List.length_map]
              omega
            have hvd := hvd.trans (if_neg h80)
            unfold Refu at k
            rw [hvd] at k
            exact k.elim
    | _ =>
      unfold Refu at k
      rw [vd_not rfl] at k
      refine ⟨_, (pss_cons (ps_if (PW.pt (pw_or (pt_not (pt_val (pe_callB (call_isiT (X := _)) (by rfl) T.b_isinstance (by decide +kernel) (pa_cons (pv 0) (pa_cons (pe_tup (pa_cons (pe_bltn (v := .ty "list") (by rfl) T.b_list (by decide +kernel) rfl) (pa_cons (pe_bltn (v := .ty "tuple") (by rfl) T.b_tuple (by decide +kernel) rfl) pa_nil))) pa_nil))))) (pw_or1 (pt_val (pe_callB (cr_allK (K := K) rfl rfl) (by rfl) T.b_all (by decide +kernel) (pa_cons (pe_lc (own := [("point", 1)]) (by rfl) sc_checked.nd (pi_listK (K := K) rfl (pv 0)) (blkOk_by (own := [("point", 1)]) (N := ["points", "point", "rows", "position", "row"]) (sc := defScope s_checked) (by decide +kernel)) (fun _ _ _ _ _ => (pg_name (i := 1) sc_checked.nd rfl (by first | exact Or.inl rfl | exact Or.inr rfl))) (fun _ _ _ _ _ => pts_nil) (fun _ _ _ _ _ => (pe_call (ok_is_originD T) (hr.mono (by decide)) (by rfl) T.m_is_origin T.F_is_origin.kp (b_is_origin T) .nil pass0 (pa_cons (pv 1) pa_nil)))) pa_nil)))))) (pss_one (ps_raise rfl (takes_of rfl rfl rfl rfl) (pmk_oex T.xInvalidPoints.ox T.xInvalidPoints.iC T.xInvalidPoints.tI (ok_InvalidPoints_init_ T) (hr.mono (by decide)) (b_InvalidPoints_init_ T) .nil pass0 (by rfl) T.xInvalidPoints.mC (pa_cons pe_non pa_nil)))) pss_nil)
 (pss_cons (ps_set (i := 2) sc_checked.nd rfl (by first | exact Or.inl rfl | exact Or.inr rfl) (pe_lst pa_nil))
 (pss_cons (ps_for (passes_of rfl) rfl (pi_enum (by rfl) T.b_enumerate (pa_cons (pv 0) pa_nil)) (pg_tupK (K := K) (n := 2) rfl rfl (pgs_cons (pg_name (i := 3) sc_checked.nd rfl (by first | exact Or.inl rfl | exact Or.inr rfl)) (pgs_cons (pg_name (i := 1) sc_checked.nd rfl (by first | exact Or.inl rfl | exact Or.inr rfl)) pgs_nil))) (pss_cons (ps_if (pt_not (pt_val (pe_call (ok_is_pointD T) (hr.mono (by decide)) (by rfl) T.m_is_point T.F_is_point.kp (b_is_point T) .nil pass0 (pa_cons (pv 1) pa_nil)))) (pss_one (ps_raise rfl (takes_of rfl rfl rfl rfl) (pmk_oex T.xInvalidPoints.ox T.xInvalidPoints.iC T.xInvalidPoints.tI (ok_InvalidPoints_init_ T) (hr.mono (by decide)) (b_InvalidPoints_init_ T) .nil pass0 (by rfl) T.xInvalidPoints.mC (pa_cons (pv 3) pa_nil)))) pss_nil)
 (pss_cons (ps_set (i := 4) sc_checked.nd rfl (by first | exact Or.inl rfl | exact Or.inr rfl) (pe_tup (pa_cons (pe_call (ok_amount_of T) (hr.mono (by decide)) (by rfl) T.m_amount_of T.F_amount_of.kp (b_amount_of T) .nil pass0 (pa_cons (pe_ix (ix_tupK (K := K) rfl) (pv 1) (pe_glob (v := .int 0) rfl T.gFlow.choose_spec ⟨_, rfl⟩) (fun _ _ => rfl)) pa_nil)) (pa_cons (pe_call (ok_amount_of T) (hr.mono (by decide)) (by rfl) T.m_amount_of T.F_amount_of.kp (b_amount_of T) .nil pass0 (pa_cons (pe_ix (ix_tupK (K := K) rfl) (pv 1) (pe_glob (v := .int 1) rfl T.gDrop.choose_spec ⟨_, rfl⟩) (fun _ _ => rfl)) pa_nil)) pa_nil))))
 (pss_cons (ps_if (PW.pt (pw_and (pt_cmpR op_gt (pv 3) pe_int (nomark _)) (pw_and1 (pt_not (pt_val (pe_call (ok_risesG T) (hr.mono (by decide)) (by rfl) T.m_rises T.F_rises.kp (b_rises T) .nil pass0 (pa_cons (pe_ix (ix_listK (K := K) rfl) (pv 2) (pe_un un_neg pe_int) (fun _ _ => rfl)) (pa_cons (pv 4) pa_nil)))))))) (pss_one (ps_raise rfl (takes_of rfl rfl rfl rfl) (pmk_oex T.xInvalidPoints.ox T.xInvalidPoints.iC T.xInvalidPoints.tI (ok_InvalidPoints_init_ T) (hr.mono (by decide)) (b_InvalidPoints_init_ T) .nil pass0 (by rfl) T.xInvalidPoints.mC (pa_cons (pv 3) pa_nil)))) pss_nil)
 (pss_one (ps_expr (pe_bm PySem.F.plainAttrs_list PySem.F.slot_list_append PySem.F.type_list_append mt_append (pv 2) (pa_cons (pv 4) pa_nil))))))))
 (pss_cons (ps_if (pt_cmpR op_gt (pe_callB (call_lenK (K := K) rfl) (by rfl) T.b_len (by decide +kernel) (pa_cons (pv 2) pa_nil)) (pe_glob (v := .int 80) rfl T.gMost.choose_spec ⟨_, rfl⟩) (nomark _)) (pss_one (ps_raise rfl (takes_of rfl rfl rfl rfl) (pmk_oexA T.xTooMany.ox T.xTooMany.iC T.xTooMany.tI (ok_TooMany_init_ T) (hr.mono (by decide)) (b_TooMany_init_ T) .nil pass0 (by rfl) T.xTooMany.mC (pa_cons pe_str (pa_cons (pe_glob (v := .int 80) rfl T.gMost.choose_spec ⟨_, rfl⟩) pa_nil))))) pss_nil)
 (pss_one (ps_ret (pv 2))))))), ?_⟩
      refine ⟨_, rfl, sz, fun tp htp => ?_⟩
      generalize e_H1 : upd _ tp _ = H1
      obtain ⟨s1, ft⟩ := al3 e_H1 htp
      clear e_H1
      (try dsimp only at ft)
      obtain ⟨t, ty, _, k2, _⟩ := At.ty T (At.same s1 _ _ hd)
      refine ⟨_, tp, _, _, _, false, rfl, ft, .cons (.ty _) (.cons (.ty _) .nil), ty, k2, false, rfl, iteT (iteT ?_)⟩
      exact ⟨(show 1 ≤ 1000 by decide), fun q hq => ⟨q, .non, rfl, upd_same, fun dx' hdx' ne' => ⟨rfl, exq_way hq (fun H' dd s n e => k H' dd (s1.trans s) (Lb.Same.free s1 n) e) dx' hdx' ne'⟩⟩⟩
end
end K19

set_option Elab.async false
set_option linter.all false
set_option maxRecDepth 100000
set_option maxHeartbeats 4000000
set_option exponentiation.threshold 10000
namespace K19
open PySem L2 Lb
open PySem.Spec PyProof.Rows
/-! how such data is shown -/
mutual
def tr : Dt → Tr
  | .non => .lf "None"
  | .bl true => .lf "True"
  | .bl false => .lf "False"
  | .int i => .lf (itS i)
  | .str z => .lf (reprText z)
  | .am x => .ow (txR x.1 x.2)
  | .ls l => .ls (trs l)
  | .tp l => .tp (trs l)
  | .dc => .ow "{}"
  | .dt => .lf ""
def trs : List Dt → List Tr
  | [] => []
  | d :: l => tr d :: trs l
end
theorem trs_map : ∀ l : List Dt, trs l = l.map tr
  | [] => rfl
  | d :: l => by simp only [trs, List.map_cons, trs_map l]
/-- numbers small, lists no longer than told -/
def Ok (n : Nat) : List Nat → Dt → Prop
  | _, .non => True
  | _, .bl _ => True
  | _, .int i => Bd n i
  | _, .str z => (reprText z).length ≤ 100
  | _, .am x => Low n x
  | b :: bs, .ls l => l.length ≤ b ∧ ∀ e ∈ l, Ok n bs e
  | b :: bs, .tp l => l.length ≤ b ∧ ∀ e ∈ l, Ok n bs e
  | _, .dc => True
  | _, _ => False
def Tb : List Nat → Nat
  | [] => 1300
  | b :: bs => 1300 + b * (Tb bs + 2)
theorem from_len : ∀ (ts : List Str) (k : Nat) (acc : Str) (B : Nat), (∀ t ∈ ts, t.length ≤ B) → (textFrom k acc ts).length ≤ acc.length + ts.length * (B + 2)
  | [], k, acc, B, _ => by show acc.length ≤ _; omega
  | t :: r, k, acc, B, h => by
    have ih := from_len r (k + 1) (acc ++ (if k > 0 then ", " else "" : String) ++ t) B (fun u hu => h u (List.mem_cons_of_mem _ hu))
    have ht := h t List.mem_cons_self
    have e : (acc ++ (if k > 0 then ", " else "" : String) ++ t).length ≤ acc.length + 2 + t.length := by
      rw [Str.length_append, Str.length_append]
      split
      · exact Nat.le_refl _
      · show acc.length + 0 + _ ≤ _; omega
    show (textFrom (k + 1) _ r).length ≤ _
    rw [List.length_cons, Nat.add_mul]
    omega
theorem listText_len {ts : List Str} {B : Nat} (h : ∀ t ∈ ts, t.length ≤ B) : (listText ts).length ≤ 2 + ts.length * (B + 2) := by
  unfold listText
  rw [Str.length_append]
  have := from_len ts 0 "[" B h
  have e1 : (("[" : String) : Str).length = 1 := by decide +kernel
  have e2 : (("]" : String) : Str).length = 1 := by decide +kernel
  omega
theorem join_le : ∀ (ts : List Str) (B : Nat), (∀ t ∈ ts, t.length ≤ B) → (Str.join ", " ts).length ≤ ts.length * (B + 2)
  | [], B, _ => by show (0 : Nat) ≤ _; omega
  | [t], B, h => by
    have := h t List.mem_cons_self
    show t.length ≤ _
    simp
    omega
  | t :: u :: r, B, h => by
    have ih := join_le (u :: r) B (fun u hu => h u (List.mem_cons_of_mem _ hu))
    have ht := h t List.mem_cons_self
    show (t ++ ((", " : String) : Str) ++ Str.join ", " (u :: r)).length ≤ _
    rw [Str.length_append, Str.length_append]
    have e1 : ((", " : String) : Str).length = 2 := by decide +kernel
    rw [List.length_cons (a := t), Nat.add_mul]
    omega
theorem tupleText_len {ts : List Str} {B : Nat} (h : ∀ t ∈ ts, t.length ≤ B) : (tupleText ts).length ≤ 3 + ts.length * (B + 2) := by
  unfold tupleText
  rw [Str.length_append, Str.length_append]
  have := join_le ts B h
  have e1 : (("(" : String) : Str).length = 1 := by decide +kernel
  have e2 : (((if ts.length == 1 then ",)" else ")" : String)) : Str).length ≤ 2 := by split <;> decide +kernel
  omega
theorem txR_len {x : Q2} (h1 : Bd 1800 x.1) (h2 : Bd 1800 x.2) : (txR x.1 x.2).length ≤ 1300 := by
  unfold txR
  rw [Str.length_append, Str.length_append, Str.length_append, Str.length_append]
  have l1 := itS_len h1
  have l2 := itS_len h2
  have l3 : ("Amount(" : Str).length = 7 := by decide +kernel
  have l4 : (", " : Str).length = 2 := by decide +kernel
  have l5 : (")" : Str).length = 1 := by decide +kernel
  omega
theorem tb_ge (bs : List Nat) : 1300 ≤ Tb bs := by cases bs <;> simp only [Tb] <;> omega
theorem text_le {n : Nat} (hn : n ≤ 1800) : ∀ (bs : List Nat) (d : Dt), Ok n bs d → (tr d).text.length ≤ Tb bs := by
  have flat : ∀ (bs : List Nat) (d : Dt), (∀ l, d ≠ .ls l) → (∀ l, d ≠ .tp l) → Ok n bs d → (tr d).text.length ≤ Tb bs := by
    intro bs d h1 h2 ok
    refine Nat.le_trans ?_ (tb_ge bs)
    cases d with
    | non => simp only [tr, Tr.text]; decide +kernel
    | bl b => cases b <;> simp only [tr, Tr.text] <;> decide +kernel
    | int i =>
      have ok : Bd n i := by cases bs <;> exact ok
      simp only [tr, Tr.text]
      have := itS_len (ok.mono hn)
      omega
    | str z =>
      have ok : (reprText z).length ≤ 100 := by cases bs <;> exact ok
      simp only [tr, Tr.text]
      omega
    | am x =>
      have ok : Low n x := by cases bs <;> exact ok
      simp only [tr, Tr.text]
      exact txR_len (ok.t.mono hn) (ok.b.mono hn)
    | ls l => exact absurd rfl (h1 l)
    | tp l => exact absurd rfl (h2 l)
    | dc => simp only [tr, Tr.text]; decide +kernel
    | dt => cases bs <;> exact ok.elim
  intro bs
  induction bs with
  | nil =>
    intro d ok
    cases d with
    | ls l => exact ok.elim
    | tp l => exact ok.elim
    | _ => exact flat _ _ (fun _ h => nomatch h) (fun _ h => nomatch h) ok
  | cons b bs ih =>
    intro d ok
    cases d with
    | ls l =>
      obtain ⟨h1, h2⟩ := (show l.length ≤ b ∧ ∀ e ∈ l, Ok n bs e from ok)
      simp only [tr, Tr.text, texts_map, trs_map]
      have := listText_len (ts := (l.map tr).map Tr.text) (B := Tb bs) (fun t ht => by
        obtain ⟨u, hu, rfl⟩ := List.mem_map.mp ht
        obtain ⟨e, he, rfl⟩ := List.mem_map.mp hu
        exact ih e (h2 e he))
      rw [List.length_map, List.length_map] at this
      have m := Nat.mul_le_mul_right (Tb bs + 2) h1
      simp only [Tb]
      omega
    | tp l =>
      obtain ⟨h1, h2⟩ := (show l.length ≤ b ∧ ∀ e ∈ l, Ok n bs e from ok)
      simp only [tr, Tr.text, texts_map, trs_map]
      have := tupleText_len (ts := (l.map tr).map Tr.text) (B := Tb bs) (fun t ht => by
        obtain ⟨u, hu, rfl⟩ := List.mem_map.mp ht
        obtain ⟨e, he, rfl⟩ := List.mem_map.mp hu
        exact ih e (h2 e he))
      rw [List.length_map, List.length_map] at this
      have m := Nat.mul_le_mul_right (Tb bs + 2) h1
      simp only [Tb]
      omega
    | _ => exact flat _ _ (fun _ h => nomatch h) (fun _ h => nomatch h) ok
theorem deps_le {l : List Tr} {k : Nat} (h : ∀ t ∈ l, t.dep ≤ k) : Tr.deps l ≤ k := by
  induction l with
  | nil => simp only [Tr.deps]; omega
  | cons t r ih =>
    simp only [Tr.deps]
    have h1 := h t List.mem_cons_self
    have h2 := ih fun u hu => h u (List.mem_cons_of_mem _ hu)
    omega
theorem dep_ok {n : Nat} : ∀ (bs : List Nat) (d : Dt), Ok n bs d → (tr d).dep ≤ bs.length := by
  intro bs
  induction bs with
  | nil =>
    intro d ok
    cases d with
    | ls l => exact ok.elim
    | tp l => exact ok.elim
    | bl b => cases b <;> simp only [tr, Tr.dep] <;> omega
    | _ => simp only [tr, Tr.dep]; omega
  | cons b bs ih =>
    intro d ok
    cases d with
    | ls l =>
      obtain ⟨h1, h2⟩ := (show l.length ≤ b ∧ ∀ e ∈ l, Ok n bs e from ok)
      simp only [tr, Tr.dep, trs_map, List.length_cons]
      have := deps_le (l := l.map tr) (k := bs.length) fun t ht => by
        obtain ⟨e, he, rfl⟩ := List.mem_map.mp ht
        exact ih e (h2 e he)
      omega
    | tp l =>
      obtain ⟨h1, h2⟩ := (show l.length ≤ b ∧ ∀ e ∈ l, Ok n bs e from ok)
      simp only [tr, Tr.dep, trs_map, List.length_cons]
      have := deps_le (l := l.map tr) (k := bs.length) fun t ht => by
        obtain ⟨e, he, rfl⟩ := List.mem_map.mp ht
        exact ih e (h2 e he)
      omega
    | bl b => cases b <;> simp only [tr, Tr.dep] <;> omega
    | _ => simp only [tr, Tr.dep]; omega
theorem room8 {A : Around} {k : Nat} (h : Room k A) : A.units + 8 + 64 < cLine := by have := h.un; omega
/-- what is shown of an amount -/
def OAm (C : Addr) : Addr → Hp → Str → Prop := fun q H s => ∃ t b, AmAt C H q t b ∧ Bd 1800 t ∧ Bd 1800 b ∧ s = txR t b
theorem own_am {C : Addr} : OwnT (OAm C) := ⟨fun q H H' s e ⟨t, b, h, r⟩ => ⟨t, b, h.same e, r⟩, fun q H s ⟨t, b, ⟨dx, h⟩, _⟩ => .inl ⟨_, _, _, h⟩⟩
theorem ow_am {X : Cx} {a : Ad} {D k : Nat} (T : Txt X.K X.mg a) (hr : Room (k + D) X.A) (hk : 3 ≤ k := by decide) : OwR X D (OAm a.c_Amount) :=
  ow_repr (C := a.c_Amount) (E := E0) T.cRe.at_ T.cRe.fn ((ok_Amount_repr_ T).raw (b_Amount_repr_ T) .nil) (hr.mono (by omega)) pass0 (fun q H s ⟨t, b, h, b1, b2, e⟩ => ⟨let ⟨dx, g⟩ := h; ⟨dx, _, g⟩, fun Q k => ⟨q, t, b, rfl, h, b1, b2, fun H' s' => e ▸ k H' s'⟩⟩)
def OV (C : Addr) : Addr → Hp → Str → Prop := fun q H s => OAm C q H s ∨ OEmpty q H s
theorem own_v {C : Addr} : OwnT (OV C) := own_am.or own_empty
theorem ow_v {X : Cx} {a : Ad} {D k : Nat} (T : Txt X.K X.mg a) (hr : Room (k + D) X.A) (hu : X.A.units + D + 64 < cLine) (hk : 3 ≤ k := by decide) : OwR X D (OV a.c_Amount) := (ow_am T hr hk).or (ow_empty hu)
section
variable {K : PySem.W.Frag} {C p : Addr} {H : Hp} {n : Nat}
theorem at_sh (hn : n ≤ 1800) : ∀ (bs : List Nat) (d : Dt) (v : V), Ok n bs d → At C p H d v → Sh K (OV C) H (tr d) v := by
  have hlog : ∀ {i : Int}, Bd n i → i.natAbs.log2 < 1920 := fun {i} h => by
    have h : i.natAbs < 2 ^ 1800 := h.mono hn
    rcases Nat.eq_zero_or_pos i.natAbs with e | e
    · rw [e]; decide
    · exact Nat.lt_of_lt_of_le ((Nat.log2_lt (by omega)).mpr h) (by decide)
  have flat : ∀ (bs : List Nat) (d : Dt) (v : V), (∀ l, d ≠ .ls l) → (∀ l, d ≠ .tp l) → Ok n bs d → At C p H d v → Sh K (OV C) H (tr d) v := by
    intro bs d v h1 h2 ok h
    cases d with
    | non => simp only [At] at h; subst h; simp only [tr, Sh]; rfl
    | bl b => simp only [At] at h; subst h; cases b <;> simp only [tr, Sh] <;> rfl
    | int i =>
      have ok : Bd n i := by cases bs <;> exact ok
      simp only [At] at h; subst h; simp only [tr, Sh]
      exact ⟨hlog ok, rfl⟩
    | str z => simp only [At] at h; subst h; simp only [tr, Sh]; rfl
    | am x =>
      have ok : Low n x := by cases bs <;> exact ok
      simp only [At] at h
      obtain ⟨q, rfl, h⟩ := h
      simp only [tr, Sh]
      exact ⟨q, rfl, .inl ⟨_, _, h, ok.t.mono hn, ok.b.mono hn, rfl⟩⟩
    | ls l => exact absurd rfl (h1 l)
    | tp l => exact absurd rfl (h2 l)
    | dc =>
      simp only [At] at h
      obtain ⟨q, rfl, h⟩ := h
      simp only [tr, Sh]
      exact ⟨q, rfl, .inr ⟨h, rfl⟩⟩
    | dt => cases bs <;> exact ok.elim
  have many : ∀ (bs : List Nat), (∀ d v, Ok n bs d → At C p H d v → Sh K (OV C) H (tr d) v) → ∀ (l : List Dt) (xs : List V), (∀ e ∈ l, Ok n bs e) → Ats C p H l xs → Shs K (OV C) H (trs l) xs := by
    intro bs ih l
    induction l with
    | nil => intro xs _ h; rw [ats_inv0 h]; simp only [trs, Shs]
    | cons d l ihl =>
      intro xs ok h
      obtain ⟨x, r, rfl, h1, h2⟩ := ats_inv h
      simp only [trs, Shs]
      exact ⟨x, r, rfl, ih d x (ok d List.mem_cons_self) h1, ihl r (fun e he => ok e (List.mem_cons_of_mem _ he)) h2⟩
  intro bs
  induction bs with
  | nil =>
    intro d v ok h
    cases d with
    | ls l => exact ok.elim
    | tp l => exact ok.elim
    | _ => exact flat _ _ _ (fun _ h => nomatch h) (fun _ h => nomatch h) ok h
  | cons b bs ih =>
    intro d v ok h
    cases d with
    | ls l =>
      obtain ⟨h1, h2⟩ := (show l.length ≤ b ∧ ∀ e ∈ l, Ok n bs e from ok)
      simp only [At] at h
      obtain ⟨q, xs, rfl, e, _, ha⟩ := h
      simp only [tr, Sh]
      exact ⟨q, xs, rfl, SqL.of e, many bs ih l xs h2 ha⟩
    | tp l =>
      obtain ⟨h1, h2⟩ := (show l.length ≤ b ∧ ∀ e ∈ l, Ok n bs e from ok)
      simp only [At] at h
      obtain ⟨q, xs, rfl, e, ha⟩ := h
      simp only [tr, Sh]
      exact ⟨q, xs, rfl, SqT.of e, many bs ih l xs h2 ha⟩
    | _ => exact flat _ _ _ (fun _ h => nomatch h) (fun _ h => nomatch h) ok h
end
end K19

set_option Elab.async false
set_option linter.all false
set_option maxRecDepth 100000
set_option maxHeartbeats 4000000
set_option exponentiation.threshold 10000
namespace K19
open PySem L2 Lb
/-! the law's look at an element -/
def sp_is_amountL (C : Addr) : Sp := fun vs H Q _ => ∃ p v d, vs = [v] ∧ At C p H d v ∧ Q (.bl (amOf d).isSome) H
def sp_part (C : Addr) : Sp := fun vs H Q _ => ∃ p v d x, vs = [v] ∧ At C p H d v ∧ amOf d = some x ∧ ∀ H' q, Same H H' → FrQ H' q x → Q (.ref q) H'
def sp_sign : Sp := fun vs H Q _ => ∃ q x, vs = [.ref q] ∧ FrQ H q x ∧ Q (.int (sg x.1)) H
def sp_pair (C : Addr) : Sp := fun vs H Q _ => ∃ p v d, vs = [v] ∧ At C p H d v ∧ (∀ l, d = .tp l → l.length ≤ 100) ∧ (pairOf d = none → ∀ H', Same H H' → Q .non H') ∧ (∀ z, pairOf d = some z → ∀ H' r, Same H H' → H r = none → SpR H' r z → Q (.ref r) H')
def sp_is_behind : Sp := fun vs H Q _ => ∃ r r' z z' n, vs = [.ref r, .ref r'] ∧ SpR H r z ∧ SpR H r' z' ∧ PtN n z ∧ PtN n z' ∧ n ≤ 3000 ∧ ∀ H', Same H H' → Q (.bl (risesB z' z)) H'
theorem minus_pos {n : Nat} {x y : Q2} (hx : Low n x) (hy : Low n y) : decide ((minusF x y).1 > 0) = decide (y.1 * x.2 < x.1 * y.2) := by
  have hl : Low (2 * n + 1) (minusF x y) := sub_low hx hy (by omega)
  refine decide_eq_decide.mpr ?_
  have e : val (minusF x y) = val x - val y := val_sub hx.pos hy.pos
  rw [val_lt hy.pos hx.pos]
  have p := pos_cast hl.pos
  have pb : 0 < (minusF x y).2 := hl.pos
  constructor
  · intro h
    have : val ((0, 1) : Q2) < val (minusF x y) := (val_lt (by decide) pb).mp (by show 0 * _ < _ * 1; omega)
    rw [e, val_zero] at this
    grind
  · intro h
    have : val ((0, 1) : Q2) < val (minusF x y) := by rw [e, val_zero]; grind
    have := (val_lt (by decide) pb).mpr this
    have : 0 * (minusF x y).2 < (minusF x y).1 * 1 := this
    omega
theorem pair_len {l : List Dt} (h : l.length ≠ 2) : pairOf (.tp l) = none := by
  match l with
  | [] => rfl
  | [_] => rfl
  | [x, y] => exact absurd rfl h
  | _ :: _ :: _ :: _ => rfl
section
variable {P : Program} {w : World} {K : PySem.W.Frag} {mg : Str → Option Value} {base : Heap} {a : Ad}
theorem ok_is_amount (T : Txt K mg a) : FnOk P w K mg base CX0 1 a.f_is_amount a.d_is_amount ["_law_value"] (sp_is_amountL a.c_Amount) := by
  refine T.F_is_amount.ok sc_is_amount (fun vs H Q E h => ?_) (fun cdv A outer s H vs Q E hr h => ?_)
  · obtain ⟨p, v, d, rfl, _⟩ := h
    rfl
  · obtain ⟨p, v, d, rfl, hd, k⟩ := h
    refine ⟨_, (pss_one (ps_ret (pe_or (pe_callB (call_isiK' (K := K) rfl) (by rfl) T.b_isinstance (by decide +kernel) (pa_cons (pv 0) (pa_cons (pe_glob (v := .ref a.c_Amount) rfl T.mA rfl) pa_nil))) (pe_one (pe_and (pe_callB (call_isiK' (K := K) rfl) (by rfl) T.b_isinstance (by decide +kernel) (pa_cons (pv 0) (pa_cons (pe_bltn (v := .ty "int") (by rfl) T.b_int (by decide +kernel) rfl) pa_nil))) (pe_one (pe_not (pe_callB (call_isiK' (K := K) rfl) (by rfl) T.b_isinstance (by decide +kernel) (pa_cons (pv 0) (pa_cons (pe_bltn (v := .ty "bool") (by rfl) T.b_bool (by decide +kernel) rfl) pa_nil)))))))))), ?_⟩
    obtain ⟨t, ty, _, _, k1, k2, k3⟩ := At.ty T hd
    refine ⟨_, rfl, _, _, _, _, _, rfl, .own _, ty, k1, isAm d, rfl, ?_⟩
    cases d with
    | am x => exact iteT k
    | int i => exact iteF ⟨_, rfl, _, _, _, _, _, rfl, .ty _, ty, k2, true, rfl, iteT ⟨_, rfl, _, _, _, _, _, rfl, .ty _, ty, k3, false, rfl, k⟩⟩
    | bl b => exact iteF ⟨_, rfl, _, _, _, _, _, rfl, .ty _, ty, k2, true, rfl, iteT ⟨_, rfl, _, _, _, _, _, rfl, .ty _, ty, k3, true, rfl, k⟩⟩
    | _ => exact iteF ⟨_, rfl, _, _, _, _, _, rfl, .ty _, ty, k2, false, rfl, iteF k⟩
theorem ok_part (T : Txt K mg a) : FnOk P w K mg base CX0 4 a.f_part a.d_part ["_law_value"] (sp_part a.c_Amount) := by
  refine T.F_part.ok sc_part (fun vs H Q E h => ?_) (fun cdv A outer s H vs Q E hr h => ?_)
  · obtain ⟨p, v, d, x, rfl, _⟩ := h
    rfl
  · obtain ⟨p, v, d, x, rfl, hd, hx, k⟩ := h
    refine ⟨_, (pss_one (ps_ret (pe_ifExp (pt_val (pe_callB (call_isiK' (K := K) rfl) (by rfl) T.b_isinstance (by decide +kernel) (pa_cons (pv 0) (pa_cons (pe_glob (v := .ref a.c_Amount) rfl T.mA rfl) pa_nil)))) (pe_call (ok_read T) (hr.mono (by decide)) (by rfl) T.m_read T.F_read.kp (b_read T) .nil pass0 (pa_cons (pv 0) pa_nil)) (pe_tup (pa_cons (pv 0) (pa_cons pe_int pa_nil)))))), ?_⟩
    obtain ⟨t, ty, _, _, k1, _, _⟩ := At.ty T hd
    refine ⟨_, rfl, _, _, _, _, _, rfl, .own _, ty, k1, isAm d, rfl, ?_⟩
    cases d with
    | am y =>
      cases hx
      simp only [At] at hd
      obtain ⟨q, rfl, am⟩ := hd
      exact iteT ⟨_, rfl, q, _, rfl, am, k⟩
    | int i =>
      cases hx
      simp only [At] at hd
      subst hd
      exact iteF ⟨_, rfl, sz, fun t ht => k _ t (Lb.Same.upd ht) upd_same⟩
    | _ => cases hx
theorem ok_sign (T : Txt K mg a) : FnOk P w K mg base CX0 1 a.f_sign a.d_sign ["_law_part_here"] sp_sign := by
  refine T.F_sign.ok sc_sign (fun vs H Q E h => ?_) (fun cdv A outer s H vs Q E hr h => ?_)
  · obtain ⟨q, x, rfl, _⟩ := h
    rfl
  · obtain ⟨q, x, rfl, hq, k⟩ := h
    refine ⟨_, (pss_one (ps_ret (pe_op op_sub (pe_callTy call_int1 (by rfl) T.b_int (by decide +kernel) (pa_cons (pe_cmpR op_gt (pe_ix (ix_tupK (K := K) rfl) (pv 0) pe_int (fun _ _ => rfl)) pe_int (nomark _)) pa_nil)) (pe_callTy call_int1 (by rfl) T.b_int (by decide +kernel) (pa_cons (pe_cmpR op_lt (pe_ix (ix_tupK (K := K) rfl) (pv 0) pe_int (fun _ _ => rfl)) pe_int (nomark _)) pa_nil))))), ?_⟩
    refine ⟨_, rfl, _, _, _, _, rfl, rfl, SqT.of hq, at0, _, _, rfl, rfl, .inr ⟨_, rfl, ?_⟩⟩
    refine ⟨_, rfl, _, _, _, _, rfl, rfl, SqT.of hq, at0, _, _, rfl, rfl, .inr ⟨_, rfl, _, _, rfl, rfl, ?_⟩⟩
    have e : (if decide (x.1 > 0) = true then (1 : Int) else 0) - (if decide (x.1 < 0) = true then (1 : Int) else 0) = sg x.1 := by
      unfold sg
      simp only [decide_eq_true_eq]
      split <;> split <;> split <;> (first | omega | (split <;> omega))
    rw [← e] at k
    exact k
theorem ok_pair (T : Txt K mg a) : FnOk P w K mg base CX0 5 a.f_pair a.d_pair ["_law_thing"] (sp_pair a.c_Amount) := by
  refine T.F_pair.ok sc_pair (fun vs H Q E h => ?_) (fun cdv A outer s H vs Q E hr h => ?_)
  · obtain ⟨p, v, d, rfl, _⟩ := h
    rfl
  · obtain ⟨p, v, d, rfl, hd, hlen, k0, k1⟩ := h
    refine ⟨_, (pss_cons (ps_if (PW.pt (pw_or (pt_not (pt_val (pe_callB (call_isiK' (K := K) rfl) (by rfl) T.b_isinstance (by decide +kernel) (pa_cons (pv 0) (pa_cons (pe_bltn (v := .ty "tuple") (by rfl) T.b_tuple (by decide +kernel) rfl) pa_nil))))) (pw_or (pt_cmpR op_ne (pe_callB (call_lenK (K := K) rfl) (by rfl) T.b_len (by decide +kernel) (pa_cons (pv 0) pa_nil)) pe_int (nomark _)) (pw_or1 (pt_not (pt_val (pe_callB (cr_allK (K := K) rfl rfl) (by rfl) T.b_all (by decide +kernel) (pa_cons (pe_lc (own := [("_law_one", 1)]) (by rfl) sc_pair.nd (pi_tupK (K := K) rfl (pv 0)) (blkOk_by (own := [("_law_one", 1)]) (N := ["_law_thing", "_law_one", "_law_pair_here"]) (sc := defScope s_pair) (by decide +kernel)) (fun _ _ _ _ _ => (pg_name (i := 1) sc_pair.nd rfl (by first | exact Or.inl rfl | exact Or.inr rfl))) (fun _ _ _ _ _ => pts_nil) (fun _ _ _ _ _ => (pe_call (ok_is_amount T) (hr.mono (by decide)) (by rfl) T.m_is_amount T.F_is_amount.kp (b_is_amount T) .nil pass0 (pa_cons (pv 1) pa_nil)))) pa_nil)))))))) (pss_one (ps_ret pe_non)) pss_nil)
 (pss_cons (ps_set (i := 2) sc_pair.nd rfl (by first | exact Or.inl rfl | exact Or.inr rfl) (pe_tup (pa_cons (pe_call (ok_part T) (hr.mono (by decide)) (by rfl) T.m_part T.F_part.kp (b_part T) .nil pass0 (pa_cons (pe_ix (ix_tupK (K := K) rfl) (pv 0) pe_int (fun _ _ => rfl)) pa_nil)) (pa_cons (pe_call (ok_part T) (hr.mono (by decide)) (by rfl) T.m_part T.F_part.kp (b_part T) .nil pass0 (pa_cons (pe_ix (ix_tupK (K := K) rfl) (pv 0) pe_int (fun _ _ => rfl)) pa_nil)) pa_nil))))
 (pss_one (ps_ret (pe_ifExp (pt_cmpR op_eq (pe_call (ok_sign T) (hr.mono (by decide)) (by rfl) T.m_sign T.F_sign.kp (b_sign T) .nil pass0 (pa_cons (pe_ix (ix_tupK (K := K) rfl) (pv 2) pe_int (fun _ _ => rfl)) pa_nil)) (pe_call (ok_sign T) (hr.mono (by decide)) (by rfl) T.m_sign T.F_sign.kp (b_sign T) .nil pass0 (pa_cons (pe_ix (ix_tupK (K := K) rfl) (pv 2) pe_int (fun _ _ => rfl)) pa_nil)) (nomark _)) (pv 2) pe_non))))), ?_⟩
    obtain ⟨t, ty, kt, _⟩ := At.ty T hd
    refine ⟨_, rfl, _, _, _, _, isTp d, rfl, .ty _, ty, kt, isTp d, rfl, ?_⟩
    cases d with
    | tp l =>
      have hlen := hlen l rfl
      simp only [At] at hd
      obtain ⟨q, xs, rfl, et, ha⟩ := hd
      have ln := ha.len
      refine iteF ?_
      refine ⟨_, rfl, _, _, rfl, .inr (SqT.of et), rfl, _, rfl, ite2 (fun h2 => ?_) (fun h2 => ?_)⟩
      · refine k0 (pair_len fun q => ?_) H (Same.refl H)
        rw [ln, q] at h2
        simp at h2
      · have l2 : l.length = 2 := by
          rw [ln] at h2
          have : ¬ ¬ ((l.length : Int) = 2) := by simpa using h2
          omega
        refine ⟨_, rfl, q, rfl, ⟨_, SqT.of et⟩, fun D hD => ?_⟩
        refine lc_tup (K := K) (a := q) (xs := xs) (fun i H' => Same H H' ∧ H' D = some (.lst (((l.take i).map fun e => (amOf e).isSome).map V.bl))) ⟨Lb.Same.upd hD, upd_same⟩ (fun i H' _ b => SqT.of (b.1 _ _ et)) ?_ ?_
        · rintro i v H' hi ⟨s', eD⟩
          obtain ⟨d, hd, hv⟩ := ha.at_ hi
          refine ⟨rfl, ?_⟩
          refine ⟨_, rfl, p, v, d, rfl, At.same s' _ _ hv, _, eD, ?_, Lb.Same.updl s' hD, ?_⟩
          · rw [List.length_map, List.length_map, List.length_take]
            exact szlt (by omega)
          · rw [upd_same, ← take_snoc hd, List.map_append, List.map_append]
            rfl
        rintro H2 ⟨s2, eD⟩
        rw [ln, List.take_length] at eD
        refine ⟨D, _, rfl, SqL.of eD, _, rfl, ?_⟩
        obtain ⟨x, y, rfl⟩ : ∃ x y, l = [x, y] := by
          match l, l2 with
          | [x, y], _ => exact ⟨x, y, rfl⟩
        have ha := Ats.same s2 _ _ ha
        have et := s2 _ _ et
        obtain ⟨u, r, rfl, hu, ha⟩ := ats_inv ha
        obtain ⟨w, r, rfl, hw, ha⟩ := ats_inv ha
        have e0 := ats_inv0 ha
        subst e0
        cases hx : amOf x with
        | none =>
          have e : ([x, y].map fun e => (amOf e).isSome).all id = false := by simp [hx]
          rw [e]
          exact iteT (k0 (by simp only [pairOf, hx]) H2 s2)
        | some z1 =>
          cases hy : amOf y with
          | none =>
            have e : ([x, y].map fun e => (amOf e).isSome).all id = false := by simp [hx, hy]
            rw [e]
            exact iteT (k0 (by simp only [pairOf, hx, hy]) H2 s2)
          | some z2 =>
            have e : ([x, y].map fun e => (amOf e).isSome).all id = true := by simp [hx, hy]
            rw [e]
            refine iteF ?_
            refine ⟨_, rfl, _, _, _, _, rfl, rfl, SqT.of et, at0, p, u, x, z1, rfl, hu, hx, fun H3 q1 s3 f1 => ?_⟩
            refine ⟨_, rfl, _, _, _, _, rfl, rfl, SqT.of (s3 _ _ et), at1, p, w, y, z2, rfl, At.same s3 _ _ hw, hy, fun H4 q2 s4 f2 => ⟨sz, fun tt htt => ?_⟩⟩
            generalize e_H5 : upd _ tt _ = H5
            obtain ⟨s5, f5⟩ := al3 e_H5 htt
            clear e_H5
            (try dsimp only at f5)
            have f1 := FrQ.same f1 (s4.trans s5)
            have f2 := FrQ.same f2 s5
            have S5 := ((s2.trans s3).trans s4).trans s5
            refine ⟨_, rfl, _, _, _, _, rfl, rfl, SqT.of f5, at0, q1, z1, rfl, f1, ?_⟩
            refine ⟨_, rfl, _, _, _, _, rfl, rfl, SqT.of f5, at1, q2, z2, rfl, f2, ?_⟩
            refine ⟨rfl, _, rfl, ?_⟩
            by_cases hs : sg z1.1 = sg z2.1
            · refine iteP (by rw [hs]; simp) ?_
              exact ⟨_, rfl, k1 (z1, z2) (by simp only [pairOf, hx, hy, if_pos hs]) H5 tt S5 (Lb.Same.free ((s2.trans s3).trans s4) htt) ⟨q1, q2, f5, f1, f2⟩⟩
            · refine iteN (by simp [hs]) ?_
              exact k0 (by simp only [pairOf, hx, hy, if_neg hs]) H5 S5
    | _ => exact iteT (k0 rfl H (Same.refl H))
theorem ok_is_behind (T : Txt K mg a) : FnOk P w K mg base CX0 3 a.f_is_behind a.d_is_behind ["_law_pair_here", "_law_ahead"] sp_is_behind := by
  refine T.F_is_behind.ok sc_is_behind (fun vs H Q E h => ?_) (fun cdv A outer s H vs Q E hr h => ?_)
  · obtain ⟨r, r', z, z', n, rfl, _⟩ := h
    rfl
  · obtain ⟨r, r', z, z', n, rfl, ⟨p, q, er, fp, fq⟩, ⟨p', q', er', fp', fq'⟩, lz, lz', hn, k⟩ := h
    refine ⟨_, (pss_one (ps_ret (pe_callB (cr_allK (K := K) rfl rfl) (by rfl) T.b_all (by decide +kernel) (pa_cons (pe_lc (own := [("_law_one", 2), ("_law_less", 3)]) (by rfl) sc_is_behind.nd (pi_zipAK (K := K) rfl (by rfl) T.b_zip (pa_cons (pv 0) (pa_cons (pv 1) pa_nil))) (blkOk_by (own := [("_law_one", 2), ("_law_less", 3)]) (N := ["_law_pair_here", "_law_ahead", "_law_one", "_law_less"]) (sc := defScope s_is_behind) (by decide +kernel)) (fun _ _ _ _ _ => (pg_tupK (K := K) (n := 2) rfl rfl (pgs_cons (pg_name (i := 2) sc_is_behind.nd rfl (by first | exact Or.inl rfl | exact Or.inr rfl)) (pgs_cons (pg_name (i := 3) sc_is_behind.nd rfl (by first | exact Or.inl rfl | exact Or.inr rfl)) pgs_nil)))) (fun _ _ _ _ _ => pts_nil) (fun _ _ _ _ _ => (pe_cmpR op_gt (pe_ix (ix_tupK (K := K) rfl) (pe_call (ok_minus T) (hr.mono (by decide)) (by rfl) T.m_minus T.F_minus.kp (b_minus T) .nil pass0 (pa_cons (pv 2) (pa_cons (pv 3) pa_nil))) pe_int (fun _ _ => rfl)) pe_int (nomark _)))) pa_nil)))), ?_⟩
    have each : ∀ (j : Nat) u w, ([V.ref p, V.ref q] : List V)[j]? = some u → ([V.ref p', V.ref q'] : List V)[j]? = some w → ∃ ua wa x y, u = .ref ua ∧ w = .ref wa ∧ FrQ H ua x ∧ FrQ H wa y ∧ Low n x ∧ Low n y ∧ [decide ((minusF z.1 z'.1).1 > 0), decide ((minusF z.2 z'.2).1 > 0)][j]? = some (decide ((minusF x y).1 > 0)) ∧ j < 2 := by
      intro j u w hu hw
      match j, hu, hw with
      | 0, hu, hw => exact ⟨p, p', _, _, (Option.some.inj hu).symm, (Option.some.inj hw).symm, fp, fp', lz.x, lz'.x, rfl, by decide⟩
      | 1, hu, hw => exact ⟨q, q', _, _, (Option.some.inj hu).symm, (Option.some.inj hw).symm, fq, fq', lz.y, lz'.y, rfl, by decide⟩
      | j + 2, hu, _ => simp at hu
    refine ⟨_, rfl, _, rfl, r, r', _, _, rfl, .inr ⟨SqT.of er, SqT.of er', fun D hD => ?_⟩⟩
    refine lc_it (walk_zipT (K := K) (a := r) (b := r') (xs := [.ref p, .ref q]) (ys := [.ref p', .ref q']) (n := 2) rfl) (fun j H' => Same H H' ∧ H' D = some (.lst (([decide ((minusF z.1 z'.1).1 > 0), decide ((minusF z.2 z'.2).1 > 0)].take j).map V.bl))) ⟨Lb.Same.upd hD, upd_same⟩ (fun i H' _ b => ⟨SqT.of (b.1 _ _ er), SqT.of (b.1 _ _ er')⟩) ?_ ?_
    · rintro j v H' H'' hj ⟨s', eD⟩ ⟨T0, u, w, rfl, hT, rfl, ex, ey⟩
      obtain ⟨ua, wa, x, y, rfl, rfl, fx, fy, lx, ly, hm, hj2⟩ := each j u w ex ey
      have sT := Lb.Same.upd (o := .tup [V.ref ua, V.ref wa]) hT
      have S0 := s'.trans sT
      refine ⟨T0, _, rfl, SqT.of upd_same, rfl, _, _, rfl, _, _, rfl, rfl, rfl, ?_⟩
      refine ⟨_, rfl, _, rfl, ua, wa, x, y, n, rfl, fx.same S0, fy.same S0, lx, ly, by omega, fun Ha q1 sa f1 => ?_⟩
      refine ⟨_, _, _, _, rfl, rfl, SqT.of f1, at0, _, _, rfl, rfl, ?_⟩
      have S := sT.trans sa
      refine ⟨_, S _ _ eD, ?_, Lb.Same.updl (s'.trans S) hD, ?_⟩
      · rw [List.length_map, List.length_take]
        exact szlt (by omega)
      · rw [upd_same, ← take_snoc hm, List.map_append]
        rfl
    rintro He ⟨se, eD⟩
    refine ⟨D, _, rfl, SqL.of eD, ?_⟩
    have e := k He se
    rw [show risesB z' z = ([decide ((minusF z.1 z'.1).1 > 0), decide ((minusF z.2 z'.2).1 > 0)].take 2).all id by
      simp only [risesB, minus_pos lz.x lz'.x, minus_pos lz.y lz'.y, List.take, List.all_cons, List.all_nil, Bool.and_true, id]] at e
    exact e
end
end K19

set_option Elab.async false
set_option linter.all false
set_option maxRecDepth 100000
set_option maxHeartbeats 4000000
namespace Lb
open PySem PySem.Spec PyProof.Rows L2
theorem op_eqDK {X : Cx} {K : PySem.W.Frag} (hK : X.K = K) (hu : X.A.units + 64 < cLine) : OpR X (compareOp .Eq) (rEqD K) := by subst hK; exact op_eqD hu
end Lb

set_option Elab.async false
set_option linter.all false
set_option maxRecDepth 100000
set_option maxHeartbeats 4000000
set_option exponentiation.threshold 10000
namespace K19
open PySem L2 Lb
/-! what is due -/
def qDt (x : Q2) : Dt := .tp [.int x.1, .int x.2]
def ptDt (z : Pt) : Dt := .tp [qDt z.1, qDt z.2]
def dueD (d : Dt) : Dt := match vd d with
  | .nil => .ls [.str "points", .non]
  | .at_ i => .ls [.str "points", .int i]
  | .many => .ls [.str "many", .str "points", .int 80]
  | .made zs => .ls [.str "made", .ls ((withO zs).map ptDt)]
theorem fr_at_ {C p : Addr} {H : Hp} {q : Addr} {x : Q2} (h : FrQ H q x) : At C p H (qDt x) (.ref q) := by
  unfold qDt
  simp only [At]
  exact ⟨q, _, rfl, h, ats_cons (by simp only [At]) (ats_cons (by simp only [At]) ats_nil)⟩
theorem spr_at {C p : Addr} {H : Hp} {r : Addr} {z : Pt} (h : SpR H r z) : At C p H (ptDt z) (.ref r) := by
  obtain ⟨u, w, e, f1, f2⟩ := h
  unfold ptDt
  simp only [At]
  exact ⟨r, _, rfl, e, ats_cons (fr_at_ f1) (ats_cons (fr_at_ f2) ats_nil)⟩
theorem sprs_at {C p : Addr} {H : Hp} : ∀ {rs : List Addr} {zs : List Pt}, Paired (SpR H) rs zs → Ats C p H (zs.map ptDt) (rs.map V.ref)
  | _, _, .nil => ats_nil
  | _, _, .cons h k => ats_cons (spr_at h) (sprs_at k)
/-- a pair as the law has it -/
def PrAt (H : Hp) (v : V) : Option Pt → Prop
  | none => v = .non
  | some z => ∃ r, v = .ref r ∧ SpR H r z
theorem PrAt.same {H H' : Hp} {v : V} {o : Option Pt} (h : PrAt H v o) (s : Same H H') : PrAt H' v o := by
  cases o with
  | none => exact h
  | some z => obtain ⟨r, e, h⟩ := h; exact ⟨r, e, h.same s⟩
def prD : Option Pt → PyData
  | none => .none
  | some z => ptD z
theorem prAt_dp {K : PySem.W.Frag} {H : Hp} {v : V} {o : Option Pt} (h : PrAt H v o) : Dp K H v (prD o) := by
  cases o with
  | none => cases (show v = .non from h); exact .non
  | some z =>
    obtain ⟨r, rfl, p, q, e, f1, f2⟩ := h
    exact .tup (SqT.of e) (.cons (.tup (SqT.of f1) (.cons (.int _) (.cons (.int _) .nil))) (.cons (.tup (SqT.of f2) (.cons (.int _) (.cons (.int _) .nil))) .nil))
theorem eqv_pr (o : Option Pt) (z : Pt) : PyData.eqv (prD o) (ptD z) = decide (o = some z) := by
  cases o with
  | none => rfl
  | some y => rw [show prD (some y) = ptD y from rfl, eqv_pt]; simp
theorem low_zero {n : Nat} {x : Q2} (h : Low n x) (e : x.1 = 0) : x = (0, 1) := by
  have g := h.g
  rw [e, Int.gcd_zero_left] at g
  have := h.pos
  exact Prod.ext e (by show x.2 = 1; omega)
theorem isOrg_eq {n : Nat} {d : Dt} (s : Sm n d) : isOrg d = decide (pairOf d = some org) := by
  unfold isOrg
  cases hz : pairOf d with
  | none => simp
  | some z =>
    have lz := pair_low hz s
    by_cases h : z.1.1 = 0
    · have e1 := low_zero lz.x h
      have e2 : z.2.1 = 0 := sg0.mp (by rw [← lz.s, h]; rfl)
      have e2 := low_zero lz.y e2
      have : z = org := Prod.ext e1 e2
      simp [this, org]
    · have : ¬ z = org := fun q => h (by rw [q]; rfl)
      simp [h, this]
theorem prD_shaped (o : Option Pt) : SeqAt.shaped (prD o) = true := by
  cases o <;> rfl
theorem some_rows {H : Hp} : ∀ {ys : List V} {zs : List Pt}, Paired (PrAt H) ys (zs.map some) → ∃ rs : List Addr, ys = rs.map V.ref ∧ Paired (SpR H) rs zs
  | [], [], _ => ⟨[], rfl, .nil⟩
  | _ :: _, [], h => nomatch h
  | [], _ :: _, h => nomatch h
  | y :: ys, z :: zs, h => by
    cases h with
    | cons h1 h2 =>
      obtain ⟨r, rfl, f⟩ := h1
      obtain ⟨rs, rfl, p⟩ := some_rows h2
      exact ⟨r :: rs, rfl, .cons f p⟩
def sp_due (C : Addr) : Sp := fun vs H Q _ => ∃ p v d n, vs = [v] ∧ H p ≠ none ∧ At C p H d v ∧ GoodD n d ∧ (∀ e ∈ elems d, ∀ m, e = .tp m → m.length ≤ 100) ∧ ∀ H' q, Same H H' → H q = none → At C p H' (dueD d) (.ref q) → Q (.ref q) H'
section
variable {P : Program} {w : World} {K : PySem.W.Frag} {mg : Str → Option Value} {base : Heap} {a : Ad}
theorem ok_due (T : Txt K mg a) : FnOk P w K mg base CX0 7 a.f_due a.d_due ["_law_value"] (sp_due a.c_Amount) := by
  refine T.F_due.ok sc_due (fun vs H Q E h => ?_) (fun cdv A outer s H vs Q E hr h => ?_)
  · obtain ⟨p, v, d, n, rfl, _⟩ := h
    rfl
  · obtain ⟨p, v, d, n, rfl, hp, hd, gd, lenOk, k⟩ := h
    cases d with
    | ls l =>
      have hd0 := hd
      simp only [At] at hd
      obtain ⟨lp, xs, rfl, el, npl, ha⟩ := hd
      have gl : l.length ≤ 100 := gd.len
      have gn := gd.n
      have ln := ha.len
      refine ⟨_, (pss_cons (ps_if (pt_not (pt_val (pe_callB (call_isiT (X := _)) (by rfl) T.b_isinstance (by decide +kernel) (pa_cons (pv 0) (pa_cons (pe_tup (pa_cons (pe_bltn (v := .ty "list") (by rfl) T.b_list (by decide +kernel) rfl) (pa_cons (pe_bltn (v := .ty "tuple") (by rfl) T.b_tuple (by decide +kernel) rfl) pa_nil))) pa_nil))))) (pss_one (ps_ret (pe_lst (pa_cons pe_str (pa_cons pe_non pa_nil))))) pss_nil)
 (pss_cons (ps_setLc (i := 1) (own := [("_law_thing", 2)]) rfl sc_due.nd rfl rfl (sw_true rfl rfl rfl (by decide +kernel)) (pi_listK (K := K) rfl (pv 0)) (blkOk_by (own := [("_law_thing", 2)]) (N := ["_law_value", "_law_pairs", "_law_thing", "_law_pair_here", "_law_at", "_law_low_here"]) (sc := defScope s_due) (by decide +kernel)) (fun _ _ _ _ _ => (pg_name (i := 2) sc_due.nd rfl (by first | exact Or.inl rfl | exact Or.inr rfl))) (fun _ _ _ _ _ => pts_nil) (fun _ _ _ _ _ => (pe_call (ok_pair T) (hr.mono (by decide)) (by rfl) T.m_pair T.F_pair.kp (b_pair T) .nil pass0 (pa_cons (pv 2) pa_nil))))
 (pss_cons (ps_if (pt_val (pe_callB (cr_allK (K := K) rfl rfl) (by rfl) T.b_all (by decide +kernel) (pa_cons (pe_lc (own := [("_law_pair_here", 3)]) (by rfl) sc_due.nd (pi_listK (K := K) rfl (pv 1)) (blkOk_by (own := [("_law_pair_here", 3)]) (N := ["_law_value", "_law_pairs", "_law_thing", "_law_pair_here", "_law_at", "_law_low_here"]) (sc := defScope s_due) (by decide +kernel)) (fun _ _ _ _ _ => (pg_name (i := 3) sc_due.nd rfl (by first | exact Or.inl rfl | exact Or.inr rfl))) (fun _ _ _ _ _ => pts_nil) (fun _ _ _ _ _ => (pe_cmpR (op_eqDK (K := K) rfl hr.units) (pv 3) (pe_tup (pa_cons (pe_tup (pa_cons pe_int (pa_cons pe_int pa_nil))) (pa_cons (pe_tup (pa_cons pe_int (pa_cons pe_int pa_nil))) pa_nil))) (nomark _)))) pa_nil))) (pss_one (ps_ret (pe_lst (pa_cons pe_str (pa_cons pe_non pa_nil))))) pss_nil)
 (pss_cons (ps_for PassesOwn.never rfl (pi_enum (by rfl) T.b_enumerate (pa_cons (pv 1) pa_nil)) (pg_tupK (K := K) (n := 2) rfl rfl (pgs_cons (pg_name (i := 4) sc_due.nd rfl (by first | exact Or.inl rfl | exact Or.inr rfl)) (pgs_cons (pg_name (i := 3) sc_due.nd rfl (by first | exact Or.inl rfl | exact Or.inr rfl)) pgs_nil))) (pss_cons (ps_if (pt_cmpR op_isN (pv 3) pe_non (nomark _)) (pss_one (ps_ret (pe_lst (pa_cons pe_str (pa_cons (pv 4) pa_nil))))) pss_nil)
 (pss_one (ps_if (PW.pt (pw_and (pt_cmpR op_gt (pv 4) pe_int (nomark _)) (pw_and1 (pt_not (pt_val (pe_call (ok_is_behind T) (hr.mono (by decide)) (by rfl) T.m_is_behind T.F_is_behind.kp (b_is_behind T) .nil pass0 (pa_cons (pv 3) (pa_cons (pe_ix (ix_listK (K := K) rfl) (pv 1) (pe_op op_sub (pv 4) pe_int) (fun _ _ => rfl)) pa_nil)))))))) (pss_one (ps_ret (pe_lst (pa_cons pe_str (pa_cons (pv 4) pa_nil))))) pss_nil))))
 (pss_cons (ps_if (pt_cmpR op_gt (pe_callB (call_lenK (K := K) rfl) (by rfl) T.b_len (by decide +kernel) (pa_cons (pv 1) pa_nil)) pe_int (nomark _)) (pss_one (ps_ret (pe_lst (pa_cons pe_str (pa_cons pe_str (pa_cons pe_int pa_nil)))))) pss_nil)
 (pss_cons (ps_setLc (i := 5) (own := [("_law_pair_here", 3)]) rfl sc_due.nd rfl rfl (sw_true rfl rfl rfl (by decide +kernel)) (pi_listK (K := K) rfl (pv 1)) (blkOk_by (own := [("_law_pair_here", 3)]) (N := ["_law_value", "_law_pairs", "_law_thing", "_law_pair_here", "_law_at", "_law_low_here"]) (sc := defScope s_due) (by decide +kernel)) (fun _ _ _ _ _ => (pg_name (i := 3) sc_due.nd rfl (by first | exact Or.inl rfl | exact Or.inr rfl))) (fun _ _ _ _ _ => pts_one (pt_cmpR op_lt (pe_ix (ix_tupK (K := K) rfl) (pe_ix (ix_tupK (K := K) rfl) (pv 3) pe_int (fun _ _ => rfl)) pe_int (fun _ _ => rfl)) pe_int (nomark _))) (fun _ _ _ _ _ => (pv 3)))
 (pss_one (ps_ret (pe_lst (pa_cons pe_str (pa_cons (pe_op op_cat (pe_op op_cat (pv 5) (pe_lst (pa_cons (pe_tup (pa_cons (pe_tup (pa_cons pe_int (pa_cons pe_int pa_nil))) (pa_cons (pe_tup (pa_cons pe_int (pa_cons pe_int pa_nil))) pa_nil))) pa_nil))) (pe_lc (own := [("_law_pair_here", 3)]) (by rfl) sc_due.nd (pi_listK (K := K) rfl (pv 1)) (blkOk_by (own := [("_law_pair_here", 3)]) (N := ["_law_value", "_law_pairs", "_law_thing", "_law_pair_here", "_law_at", "_law_low_here"]) (sc := defScope s_due) (by decide +kernel)) (fun _ _ _ _ _ => (pg_name (i := 3) sc_due.nd rfl (by first | exact Or.inl rfl | exact Or.inr rfl))) (fun _ _ _ _ _ => pts_one (pt_cmpR op_gt (pe_ix (ix_tupK (K := K) rfl) (pe_ix (ix_tupK (K := K) rfl) (pv 3) pe_int (fun _ _ => rfl)) pe_int (fun _ _ => rfl)) pe_int (nomark _))) (fun _ _ _ _ _ => (pv 3)))) pa_nil))))))))))), ?_⟩
      refine ⟨_, rfl, sz, fun tp htp => ?_⟩
      generalize e_H1 : upd _ tp _ = H1
      obtain ⟨s1, ft⟩ := al3 e_H1 htp
      clear e_H1
      (try dsimp only at ft)
      have el := s1 _ _ el
      have ha := Ats.same s1 _ _ ha
      obtain ⟨t, ty, _, k2, _⟩ := At.ty T (At.same s1 _ _ hd0)
      refine ⟨_, tp, _, _, _, true, rfl, ft, .cons (.ty _) (.cons (.ty _) .nil), ty, k2, true, rfl, iteF ?_⟩
      refine ⟨_, rfl, lp, rfl, ⟨_, SqL.of el⟩, fun D hD => ?_⟩
      refine lc_list (K := K) (a := lp) (xs := xs) (fun i H' => Same H1 H' ∧ ∃ ys : List V, H' D = some (.lst ys) ∧ Paired (PrAt H') ys ((l.take i).map pairOf)) ⟨Lb.Same.upd hD, [], upd_same, .nil⟩ (fun i H' _ b => SqL.of (b.1 _ _ el)) ?_ ?_
      · rintro i v H' hi ⟨s', ys, eD, py⟩
        obtain ⟨d, hd, hv⟩ := ha.at_ hi
        have lys := Paired.len py
        rw [List.length_map, List.length_take] at lys
        have nl : ∀ {H3 : Hp} {x : V} {ys : List V} {o : Option Pt}, H3 D = some (.lst ys) → PrAt H3 x o → ∀ zs, PrAt (upd H3 D (.lst zs)) x o := fun {H3 x ys o} e h zs => by
          cases o with
          | none => exact h
          | some z => obtain ⟨r, e', h⟩ := h; exact ⟨r, e', h.nl (NL.upd e)⟩
        refine ⟨rfl, ?_⟩
        have fin : ∀ {H3 : Hp} {x : V}, Same H' H3 → PrAt H3 x (pairOf d) → ∃ acc, H3 D = some (.lst acc) ∧ acc.length < sizeLine ∧ Same H1 (upd H3 D (.lst (acc ++ [x]))) ∧ ∃ ys : List V, (upd H3 D (.lst (acc ++ [x]))) D = some (.lst ys) ∧ Paired (PrAt (upd H3 D (.lst (acc ++ [x])))) ys ((l.take (i + 1)).map pairOf) := by
          intro H3 x s3 hx
          have e3 := s3 _ _ eD
          refine ⟨ys, e3, szlt (by omega), Lb.Same.updl (s'.trans s3) hD, ys ++ [x], upd_same, ?_⟩
          rw [← take_snoc hd, List.map_append]
          exact paired_snoc (Paired.imp py fun _ _ h => nl e3 (h.same s3) _) (nl e3 hx _)
        refine ⟨_, rfl, p, v, d, rfl, At.same s' _ _ hv, fun m e => ?_, fun e H3 s3 => fin s3 (by rw [e]; rfl), fun z e H3 r s3 _ f => fin s3 (by rw [e]; exact ⟨r, rfl, f⟩)⟩
        have hsub := lenOk d (List.mem_of_getElem? hd) m e
        omega
      rintro H2 ⟨s2, ys, eD, py⟩
      rw [ln, List.take_length] at py
      have lys : ys.length = l.length := by have := Paired.len py; rwa [List.length_map] at this
      have S2 := s1.trans s2
      -- all are (0, 0)
      refine ⟨_, rfl, D, rfl, ⟨_, SqL.of eD⟩, fun D2 hD2 => ?_⟩
      refine lc_list (K := K) (a := D) (xs := ys) (fun i H' => Same H2 H' ∧ H' D2 = some (.lst (((l.take i).map isOrg).map V.bl))) ⟨Lb.Same.upd hD2, upd_same⟩ (fun i H' _ b => SqL.of (b.1 _ _ eD)) ?_ ?_
      · rintro i v H' hi ⟨s', e2⟩
        obtain ⟨o, ho, hv⟩ := Paired.at_ py hi
        rw [List.getElem?_map] at ho
        obtain ⟨d, hd, rfl⟩ := Option.map_eq_some_iff.mp ho
        refine ⟨rfl, ?_⟩
        refine ⟨_, rfl, sz, fun t1 ht1 => ?_⟩
        generalize e_Ha : upd _ t1 _ = Ha
        obtain ⟨sa, fa⟩ := al3 e_Ha ht1
        clear e_Ha
        (try dsimp only at fa)
        refine ⟨sz, fun t2 ht2 => ?_⟩
        generalize e_Hb : upd _ t2 _ = Hb
        obtain ⟨sb, fb⟩ := al3 e_Hb ht2
        clear e_Hb
        (try dsimp only at fb)
        refine ⟨sz, fun t3 ht3 => ?_⟩
        generalize e_Hc : upd _ t3 _ = Hc
        obtain ⟨sc, fc⟩ := al3 e_Hc ht3
        clear e_Hc
        (try dsimp only at fc)
        have S := (sa.trans sb).trans sc
        refine ⟨prD (pairOf d), ptD org, prAt_dp (hv.same (s'.trans S)), .tup (SqT.of fc) (.cons (.tup (SqT.of (sc _ _ (sb _ _ fa))) (.cons (.int _) (.cons (.int _) .nil))) (.cons (.tup (SqT.of (sc _ _ fb)) (.cons (.int _) (.cons (.int _) .nil))) .nil)), prD_shaped _, rfl, _, S _ _ e2, ?_, Lb.Same.updl (s'.trans S) hD2, ?_⟩
        · rw [List.length_map, List.length_map, List.length_take]
          exact szlt (by omega)
        · rw [upd_same, ← take_snoc hd, List.map_append, List.map_append, eqv_pr, ← isOrg_eq (gd.sm d (List.mem_of_getElem? hd))]
          rfl
      rintro H3 ⟨s3, e3⟩
      rw [lys, List.take_length] at e3
      have S3 := S2.trans s3
      have nqp : ∀ {q : Addr} {G : Hp}, Same H G → G q = none → q ≠ p := fun {q G} s e z => by
        cases hh : H p with
        | none => exact hp hh
        | some o => have := s _ _ hh; rw [← z, e] at this; cases this
      have out2 : ∀ {G : Hp} {q : Addr} {x : Dt} {v : V}, Same H G → G q = none → dueD (.ls l) = .ls [.str "points", x] → At a.c_Amount p G x v → Q (.ref q) (upd G q (.lst [.str "points", v])) := by
        intro G q x v s hq e hx
        refine k _ q (s.trans (Lb.Same.upd hq)) (s.free' hq) ?_
        rw [e]
        simp only [At]
        exact ⟨q, _, rfl, upd_same, nqp s hq, ats_cons (by simp only [At]) (ats_cons (At.same (Lb.Same.upd hq) _ _ hx) ats_nil)⟩
      refine ⟨D2, _, rfl, SqL.of e3, _, rfl, ite2 (fun ho => ?_) (fun ho => ?_)⟩
      · have ho : l.all isOrg = true := by simpa [List.all_map] using ho
        have hvd : vd (.ls l) = .nil := by
          unfold vd
          rw [if_neg (by simp [isLT]), if_pos (show (elems (.ls l)).all isOrg = true from ho)]
        exact ⟨sz, fun q hq => out2 S3 hq (by unfold dueD; rw [hvd]) (by simp only [At])⟩
      have ho : ¬ l.all isOrg = true := by simpa [List.all_map] using ho
      have hvd : vd (.ls l) = match badFrom none 0 (l.map pairOf) with
          | some i => .at_ i
          | none => if 80 < l.length then .many else .made (l.filterMap pairOf) := by
        unfold vd
        rw [if_neg (by simp [isLT]), if_neg (show ¬ (elems (.ls l)).all isOrg = true from ho)]
        rfl
      have eD := s3 _ _ eD
      have py := Paired.imp py fun _ _ h => PrAt.same h s3
      refine ⟨_, rfl, D, _, rfl, SqL.of eD, ?_⟩
      refine for_enum (K := K) (a := D) (xs := ys) (fun i σ H' => ∃ u2 u3 u4 zs, σ = [some (.ref lp), some (.ref D), u2, u3, u4, none] ∧ Same H3 H' ∧ (l.take i).map pairOf = zs.map some ∧ badFrom none 0 (l.map pairOf) = badFrom zs.getLast? i ((l.drop i).map pairOf))
        ⟨_, _, _, [], rfl, Same.refl _, rfl, rfl⟩ (fun i σ H' ⟨_, _, _, _, _, s, _⟩ => SqL.of (s _ _ eD)) ?_ ?_
      · rintro i v T0 σ H' hi ⟨u2, u3, u4, zs, rfl, sH, ez, eb⟩ hT0
        obtain ⟨o, ho, hv⟩ := Paired.at_ py hi
        rw [List.getElem?_map] at ho
        obtain ⟨d, hd, rfl⟩ := Option.map_eq_some_iff.mp ho
        have hlt := (List.getElem?_eq_some_iff.mp hd).1
        have lzs : zs.length = i := by
          have e := congrArg List.length ez
          rw [List.length_map, List.length_map, List.length_take] at e
          omega
        generalize e_H5 : upd _ T0 _ = H5
        obtain ⟨s5, f5⟩ := al3 e_H5 hT0
        clear e_H5
        (try dsimp only at f5)
        have S5 := sH.trans s5
        have S05 := S3.trans S5
        refine ⟨T0, _, rfl, SqT.of f5, rfl, _, _, rfl, _, _, rfl, rfl, ?_⟩
        have smd := gd.sm d (List.mem_of_getElem? hd)
        have hv := hv.same S5
        cases hz : pairOf d with
        | none =>
          rw [hz] at hv
          cases (show v = .non from hv)
          refine ⟨_, rfl, rfl, _, rfl, iteP (by simp) ?_⟩
          rw [eb, bad_none hd hz] at hvd
          exact ⟨_, rfl, sz, fun q hq => out2 S05 hq (by unfold dueD; rw [hvd]) (by simp only [At])⟩
        | some z =>
          rw [hz] at hv
          obtain ⟨r, rfl, fr⟩ := hv
          refine ⟨_, rfl, rfl, _, rfl, iteN (by simp) ?_⟩
          have lz := pair_low hz smd
          have ez' : (l.take (i + 1)).map pairOf = (zs ++ [z]).map some := by
            rw [← take_snoc hd, List.map_append, List.map_append, ez, List.map_cons, hz]
            rfl
          refine ⟨_, rfl, _, _, rfl, rfl, _, rfl, ite2 (fun h0 => ?_) (fun h0 => ?_)⟩
          · have h0 : 0 < i := by
              have : (i : Int) > 0 := of_decide_eq_true h0
              omega
            obtain ⟨z0, hz0⟩ : ∃ z0, zs[i - 1]? = some z0 := ⟨_, List.getElem?_eq_getElem (by omega)⟩
            have gl0 : zs.getLast? = some z0 := by rw [List.getLast?_eq_getElem?, lzs]; exact hz0
            have e0 : ((l.take i).map pairOf)[i - 1]? = some (some z0) := by rw [ez, List.getElem?_map, hz0]; rfl
            rw [List.getElem?_map] at e0
            obtain ⟨d0, hd0', e0⟩ := Option.map_eq_some_iff.mp e0
            rw [List.getElem?_take, if_pos (by omega)] at hd0'
            have lz0 := pair_low e0 (gd.sm d0 (List.mem_of_getElem? hd0'))
            obtain ⟨v0, hv0, pv0⟩ := Paired.at_r py (i := i - 1) (b := some z0) (by rw [List.getElem?_map, hd0']; exact congrArg some e0)
            obtain ⟨r0, rfl, fr0⟩ := pv0.same S5
            have at0' : atI ys ((i : Int) - 1) = some (.ref r0) := by
              rw [show (i : Int) - 1 = ((i - 1 : Nat) : Int) by omega]
              exact atI_nat hv0
            refine ⟨_, rfl, _, rfl, _, rfl, _, _, rfl, rfl, _, _, _, _, rfl, rfl, SqL.of (S5 _ _ eD), at0', r, r0, z, z0, n, rfl, fr, fr0, ⟨lz.x, lz.y⟩, ⟨lz0.x, lz0.y⟩, by omega, fun H6 s6 => ⟨_, rfl, ?_⟩⟩
            rw [gl0] at eb
            by_cases hR : risesB z0 z = true
            · rw [hR]
              exact iteF ⟨_, _, _, zs ++ [z], rfl, S5.trans s6, ez', by rw [List.getLast?_concat, eb, bad_yes hd hz hR]⟩
            · rw [Bool.eq_false_iff.mpr hR]
              refine iteT ?_
              rw [eb, bad_no hd hz hR] at hvd
              exact ⟨_, rfl, sz, fun q hq => out2 (S05.trans s6) hq (by unfold dueD; rw [hvd]) (by simp only [At])⟩
          · have h0 : i = 0 := by
              have : ¬ (i : Int) > 0 := fun q => h0 (decide_eq_true q)
              omega
            subst h0
            have zn : zs = [] := List.length_eq_zero_iff.mp lzs
            subst zn
            exact ⟨_, _, _, [] ++ [z], rfl, S5, ez', eb.trans (bad_first hd hz)⟩
      · rintro σ H5 ⟨u2, u3, u4, zs, rfl, S5, ez, eb⟩
        rw [lys] at eb ez
        rw [List.drop_length] at eb
        rw [List.take_length] at ez
        have S05 := S3.trans S5
        have eb : badFrom none 0 (l.map pairOf) = none := eb.trans (by cases zs.getLast? <;> rfl)
        rw [eb] at hvd
        have lzs : zs.length = l.length := by
          have e := congrArg List.length ez
          rw [List.length_map, List.length_map] at e
          omega
        have efm : l.filterMap pairOf = zs := by
          rw [show l.filterMap pairOf = (l.map pairOf).filterMap id by rw [List.filterMap_map]; rfl, ez, List.filterMap_map]
          exact List.filterMap_some
        have eD := S5 _ _ eD
        rw [ez] at py
        obtain ⟨rs, rfl, pr⟩ := some_rows (Paired.imp py fun _ _ h => PrAt.same h S5)
        refine ⟨_, rfl, _, _, rfl, .inl (SqL.of eD), _, _, rfl, rfl, _, rfl, ite2 (fun h80 => ?_) (fun h80 => ?_)⟩
        · have h80 : 80 < l.length := by
            have : ((rs.map V.ref).length : Int) > 80 := of_decide_eq_true h80
            omega
          have hvd := hvd.trans (if_pos h80)
          refine ⟨sz, fun q hq => k _ q (S05.trans (Lb.Same.upd hq)) (S05.free' hq) ?_⟩
          unfold dueD
          rw [hvd]
          simp only [At]
          exact ⟨q, _, rfl, upd_same, nqp S05 hq, ats_cons (by simp only [At]) (ats_cons (by simp only [At]) (ats_cons (by simp only [At]) ats_nil))⟩
        · have h80 : ¬ 80 < l.length := by
            intro q
            apply h80
            refine decide_eq_true ?_
            omega
          have hvd := hvd.trans (if_neg h80)
          rw [efm] at hvd
          -- low ones
          refine ⟨_, rfl, D, rfl, ⟨_, SqL.of eD⟩, fun D3 hD3 => ?_⟩
          refine lc_list (K := K) (a := D) (xs := rs.map V.ref) (fun i H' => Same H5 H' ∧ ∃ cs : List Addr, H' D3 = some (.lst (cs.map V.ref)) ∧ Paired (SpR H5) cs ((zs.take i).filter isNeg)) ⟨Lb.Same.upd hD3, [], upd_same, .nil⟩ (fun i H' _ b => SqL.of (b.1 _ _ eD)) ?_ ?_
          · rintro i v H' hi ⟨s', cs, eC, pc⟩
            obtain ⟨r, rfl, hr'⟩ := ref_at hi
            obtain ⟨z, hz, pz⟩ := Paired.at_ pr hr'
            obtain ⟨u, w, er, f1, f2⟩ := pz.same s'
            refine ⟨rfl, ?_⟩
            refine ⟨_, rfl, _, _, _, _, rfl, rfl, SqT.of er, at0, _, _, _, _, rfl, rfl, SqT.of f1, at0, _, _, rfl, rfl, _, rfl, ?_⟩
            rw [← take_snoc hz, filter_snoc]
            refine ite2 (fun h => ?_) (fun h => ?_)
            · have h : isNeg z = true := h
              rw [if_pos h]
              refine ⟨_, rfl, cs.map V.ref, eC, ?_, Lb.Same.updl s' hD3, cs ++ [r], by rw [upd_same, List.map_append]; rfl, paired_snoc pc pz⟩
              have h1 := Paired.len pc
              have h2 := List.length_filter_le isNeg (zs.take i)
              rw [List.length_take] at h2
              rw [List.length_map]
              exact szlt (by omega)
            · have h : ¬ isNeg z = true := h
              rw [if_neg h]
              exact ⟨s', cs, eC, pc⟩
          rintro H6 ⟨s6, cs, eC, pc⟩
          have lrs := Paired.len pr
          rw [show (rs.map V.ref).length = zs.length by rw [List.length_map, lrs], List.take_length] at pc
          have lcs := Paired.len pc
          have lcz := List.length_filter_le isNeg zs
          have pc := Paired.imp pc fun _ _ h => SpR.same h s6
          have eD := s6 _ _ eD
          have pr := Paired.imp pr fun _ _ h => SpR.same h s6
          have S06 := S05.trans s6
          refine ⟨_, rfl, sz, fun t1 ht1 => ?_⟩
          generalize e_Ha : upd _ t1 _ = Ha
          obtain ⟨sa, fa⟩ := al3 e_Ha ht1
          clear e_Ha
          (try dsimp only at fa)
          refine ⟨sz, fun t2 ht2 => ?_⟩
          generalize e_Hb : upd _ t2 _ = Hb
          obtain ⟨sb, fb⟩ := al3 e_Hb ht2
          clear e_Hb
          (try dsimp only at fb)
          refine ⟨sz, fun t3 ht3 => ?_⟩
          generalize e_Hc : upd _ t3 _ = Hc
          obtain ⟨sc, fc⟩ := al3 e_Hc ht3
          clear e_Hc
          (try dsimp only at fc)
          refine ⟨sz, fun l1 hl1 => ?_⟩
          generalize e_Hd : upd _ l1 _ = Hd
          obtain ⟨sd, fd⟩ := al3 e_Hd hl1
          clear e_Hd
          (try dsimp only at fd)
          have S := ((sa.trans sb).trans sc).trans sd
          have porg : SpR Hd t3 org := ⟨t1, t2, sd _ _ fc, sd _ _ (sc _ _ (sb _ _ fa)), sd _ _ (sc _ _ fb)⟩
          have eC := S _ _ eC
          refine ⟨D3, l1, _, _, rfl, rfl, eC, fd, szle (by rw [List.length_map]; show cs.length + 1 ≤ _; omega), fun l2 hl2 => ?_⟩
          generalize e_He : upd _ l2 _ = He
          obtain ⟨se, fe⟩ := al3 e_He hl2
          clear e_He
          (try dsimp only at fe)
          have eD := se _ _ (S _ _ eD)
          have S7 := S.trans se
          have pc := Paired.imp pc fun _ _ h => SpR.same h S7
          have pr := Paired.imp pr fun _ _ h => SpR.same h S7
          have porg := porg.same se
          refine ⟨_, rfl, D, rfl, ⟨_, SqL.of eD⟩, fun D4 hD4 => ?_⟩
          refine lc_list (K := K) (a := D) (xs := rs.map V.ref) (fun i H' => Same He H' ∧ ∃ gs : List Addr, H' D4 = some (.lst (gs.map V.ref)) ∧ Paired (SpR He) gs ((zs.take i).filter isPos)) ⟨Lb.Same.upd hD4, [], upd_same, .nil⟩ (fun i H' _ b => SqL.of (b.1 _ _ eD)) ?_ ?_
          · rintro i v H' hi ⟨s', gs, eG, pg⟩
            obtain ⟨r, rfl, hr'⟩ := ref_at hi
            obtain ⟨z, hz, pz⟩ := Paired.at_ pr hr'
            obtain ⟨u, w, er, f1, f2⟩ := pz.same s'
            refine ⟨rfl, ?_⟩
            refine ⟨_, rfl, _, _, _, _, rfl, rfl, SqT.of er, at0, _, _, _, _, rfl, rfl, SqT.of f1, at0, _, _, rfl, rfl, _, rfl, ?_⟩
            rw [← take_snoc hz, filter_snoc]
            refine ite2 (fun h => ?_) (fun h => ?_)
            · have h : isPos z = true := h
              rw [if_pos h]
              refine ⟨_, rfl, gs.map V.ref, eG, ?_, Lb.Same.updl s' hD4, gs ++ [r], by rw [upd_same, List.map_append]; rfl, paired_snoc pg pz⟩
              have h1 := Paired.len pg
              have h2 := List.length_filter_le isPos (zs.take i)
              rw [List.length_take] at h2
              rw [List.length_map]
              exact szlt (by omega)
            · have h : ¬ isPos z = true := h
              rw [if_neg h]
              exact ⟨s', gs, eG, pg⟩
          rintro H7 ⟨s7, gs, eG, pg⟩
          rw [show (rs.map V.ref).length = zs.length by rw [List.length_map, lrs], List.take_length] at pg
          have lgs := Paired.len pg
          have lgz := List.length_filter_le isPos zs
          refine ⟨l2, D4, _, _, rfl, rfl, s7 _ _ fe, eG, szle (by rw [List.length_append, List.length_map, List.length_map]; show cs.length + 1 + gs.length ≤ _; omega), fun l3 hl3 => ?_⟩
          generalize e_H8 : upd _ l3 _ = H8
          obtain ⟨s8, f8⟩ := al3 e_H8 hl3
          clear e_H8
          (try dsimp only at f8)
          refine ⟨sz, fun q hq => ?_⟩
          have S08 := (((S06.trans S7).trans s7).trans s8)
          refine k _ q (S08.trans (Lb.Same.upd hq)) (S08.free' hq) ?_
          unfold dueD
          rw [hvd]
          have al : Paired (SpR (upd H8 q (.lst [.str "made", .ref l3]))) (cs ++ [t3] ++ gs) (withO zs) := by
            unfold withO
            rw [List.append_assoc]
            have sq := (s7.trans s8).trans (Lb.Same.upd (o := .lst [.str "made", .ref l3]) hq)
            exact paired_append (Paired.imp pc fun _ _ h => SpR.same h sq) (.cons (porg.same sq) (Paired.imp pg fun _ _ h => SpR.same h sq))
          simp only [At]
          refine ⟨q, _, rfl, upd_same, nqp S08 hq, ats_cons (by simp only [At]) (ats_cons ?_ ats_nil)⟩
          simp only [At]
          have s0 : Same H Hd := S06.trans S
          refine ⟨l3, (cs ++ [t3] ++ gs).map V.ref, rfl, ?_, ?_, sprs_at al⟩
          · rw [upd_ne (ne_of_none f8 hq), f8, List.map_append, List.map_append]
            rfl
          · exact nqp ((S06.trans S7).trans s7) hl3
    | tp l =>
      have hd0 := hd
      simp only [At] at hd
      obtain ⟨lp, xs, rfl, el, ha⟩ := hd
      have gl : l.length ≤ 100 := gd.len
      have gn := gd.n
      have ln := ha.len
      refine ⟨_, (pss_cons (ps_if (pt_not (pt_val (pe_callB (call_isiT (X := _)) (by rfl) T.b_isinstance (by decide +kernel) (pa_cons (pv 0) (pa_cons (pe_tup (pa_cons (pe_bltn (v := .ty "list") (by rfl) T.b_list (by decide +kernel) rfl) (pa_cons (pe_bltn (v := .ty "tuple") (by rfl) T.b_tuple (by decide +kernel) rfl) pa_nil))) pa_nil))))) (pss_one (ps_ret (pe_lst (pa_cons pe_str (pa_cons pe_non pa_nil))))) pss_nil)
 (pss_cons (ps_setLc (i := 1) (own := [("_law_thing", 2)]) rfl sc_due.nd rfl rfl (sw_true rfl rfl rfl (by decide +kernel)) (pi_tupK (K := K) rfl (pv 0)) (blkOk_by (own := [("_law_thing", 2)]) (N := ["_law_value", "_law_pairs", "_law_thing", "_law_pair_here", "_law_at", "_law_low_here"]) (sc := defScope s_due) (by decide +kernel)) (fun _ _ _ _ _ => (pg_name (i := 2) sc_due.nd rfl (by first | exact Or.inl rfl | exact Or.inr rfl))) (fun _ _ _ _ _ => pts_nil) (fun _ _ _ _ _ => (pe_call (ok_pair T) (hr.mono (by decide)) (by rfl) T.m_pair T.F_pair.kp (b_pair T) .nil pass0 (pa_cons (pv 2) pa_nil))))
 (pss_cons (ps_if (pt_val (pe_callB (cr_allK (K := K) rfl rfl) (by rfl) T.b_all (by decide +kernel) (pa_cons (pe_lc (own := [("_law_pair_here", 3)]) (by rfl) sc_due.nd (pi_listK (K := K) rfl (pv 1)) (blkOk_by (own := [("_law_pair_here", 3)]) (N := ["_law_value", "_law_pairs", "_law_thing", "_law_pair_here", "_law_at", "_law_low_here"]) (sc := defScope s_due) (by decide +kernel)) (fun _ _ _ _ _ => (pg_name (i := 3) sc_due.nd rfl (by first | exact Or.inl rfl | exact Or.inr rfl))) (fun _ _ _ _ _ => pts_nil) (fun _ _ _ _ _ => (pe_cmpR (op_eqDK (K := K) rfl hr.units) (pv 3) (pe_tup (pa_cons (pe_tup (pa_cons pe_int (pa_cons pe_int pa_nil))) (pa_cons (pe_tup (pa_cons pe_int (pa_cons pe_int pa_nil))) pa_nil))) (nomark _)))) pa_nil))) (pss_one (ps_ret (pe_lst (pa_cons pe_str (pa_cons pe_non pa_nil))))) pss_nil)
 (pss_cons (ps_for PassesOwn.never rfl (pi_enum (by rfl) T.b_enumerate (pa_cons (pv 1) pa_nil)) (pg_tupK (K := K) (n := 2) rfl rfl (pgs_cons (pg_name (i := 4) sc_due.nd rfl (by first | exact Or.inl rfl | exact Or.inr rfl)) (pgs_cons (pg_name (i := 3) sc_due.nd rfl (by first | exact Or.inl rfl | exact Or.inr rfl)) pgs_nil))) (pss_cons (ps_if (pt_cmpR op_isN (pv 3) pe_non (nomark _)) (pss_one (ps_ret (pe_lst (pa_cons pe_str (pa_cons (pv 4) pa_nil))))) pss_nil)
 (pss_one (ps_if (PW.pt (pw_and (pt_cmpR op_gt (pv 4) pe_int (nomark _)) (pw_and1 (pt_not (pt_val (pe_call (ok_is_behind T) (hr.mono (by decide)) (by rfl) T.m_is_behind T.F_is_behind.kp (b_is_behind T) .nil pass0 (pa_cons (pv 3) (pa_cons (pe_ix (ix_listK (K := K) rfl) (pv 1) (pe_op op_sub (pv 4) pe_int) (fun _ _ => rfl)) pa_nil)))))))) (pss_one (ps_ret (pe_lst (pa_cons pe_str (pa_cons (pv 4) pa_nil))))) pss_nil))))
 (pss_cons (ps_if (pt_cmpR op_gt (pe_callB (call_lenK (K := K) rfl) (by rfl) T.b_len (by decide +kernel) (pa_cons (pv 1) pa_nil)) pe_int (nomark _)) (pss_one (ps_ret (pe_lst (pa_cons pe_str (pa_cons pe_str (pa_cons pe_int pa_nil)))))) pss_nil)
 (pss_cons (ps_setLc (i := 5) (own := [("_law_pair_here", 3)]) rfl sc_due.nd rfl rfl (sw_true rfl rfl rfl (by decide +kernel)) (pi_listK (K := K) rfl (pv 1)) (blkOk_by (own := [("_law_pair_here", 3)]) (N := ["_law_value", "_law_pairs", "_law_thing", "_law_pair_here", "_law_at", "_law_low_here"]) (sc := defScope s_due) (by decide +kernel)) (fun _ _ _ _ _ => (pg_name (i := 3) sc_due.nd rfl (by first | exact Or.inl rfl | exact Or.inr rfl))) (fun _ _ _ _ _ => pts_one (pt_cmpR op_lt (pe_ix (ix_tupK (K := K) rfl) (pe_ix (ix_tupK (K := K) rfl) (pv 3) pe_int (fun _ _ => rfl)) pe_int (fun _ _ => rfl)) pe_int (nomark _))) (fun _ _ _ _ _ => (pv 3)))
 (pss_one (ps_ret (pe_lst (pa_cons pe_str (pa_cons (pe_op op_cat (pe_op op_cat (pv 5) (pe_lst (pa_cons (pe_tup (pa_cons (pe_tup (pa_cons pe_int (pa_cons pe_int pa_nil))) (pa_cons (pe_tup (pa_cons pe_int (pa_cons pe_int pa_nil))) pa_nil))) pa_nil))) (pe_lc (own := [("_law_pair_here", 3)]) (by rfl) sc_due.nd (pi_listK (K := K) rfl (pv 1)) (blkOk_by (own := [("_law_pair_here", 3)]) (N := ["_law_value", "_law_pairs", "_law_thing", "_law_pair_here", "_law_at", "_law_low_here"]) (sc := defScope s_due) (by decide +kernel)) (fun _ _ _ _ _ => (pg_name (i := 3) sc_due.nd rfl (by first | exact Or.inl rfl | exact Or.inr rfl))) (fun _ _ _ _ _ => pts_one (pt_cmpR op_gt (pe_ix (ix_tupK (K := K) rfl) (pe_ix (ix_tupK (K := K) rfl) (pv 3) pe_int (fun _ _ => rfl)) pe_int (fun _ _ => rfl)) pe_int (nomark _))) (fun _ _ _ _ _ => (pv 3)))) pa_nil))))))))))), ?_⟩
      refine ⟨_, rfl, sz, fun tp htp => ?_⟩
      generalize e_H1 : upd _ tp _ = H1
      obtain ⟨s1, ft⟩ := al3 e_H1 htp
      clear e_H1
      (try dsimp only at ft)
      have el := s1 _ _ el
      have ha := Ats.same s1 _ _ ha
      obtain ⟨t, ty, _, k2, _⟩ := At.ty T (At.same s1 _ _ hd0)
      refine ⟨_, tp, _, _, _, true, rfl, ft, .cons (.ty _) (.cons (.ty _) .nil), ty, k2, true, rfl, iteF ?_⟩
      refine ⟨_, rfl, lp, rfl, ⟨_, SqT.of el⟩, fun D hD => ?_⟩
      refine lc_tup (K := K) (a := lp) (xs := xs) (fun i H' => Same H1 H' ∧ ∃ ys : List V, H' D = some (.lst ys) ∧ Paired (PrAt H') ys ((l.take i).map pairOf)) ⟨Lb.Same.upd hD, [], upd_same, .nil⟩ (fun i H' _ b => SqT.of (b.1 _ _ el)) ?_ ?_
      · rintro i v H' hi ⟨s', ys, eD, py⟩
        obtain ⟨d, hd, hv⟩ := ha.at_ hi
        have lys := Paired.len py
        rw [List.length_map, List.length_take] at lys
        have nl : ∀ {H3 : Hp} {x : V} {ys : List V} {o : Option Pt}, H3 D = some (.lst ys) → PrAt H3 x o → ∀ zs, PrAt (upd H3 D (.lst zs)) x o := fun {H3 x ys o} e h zs => by
          cases o with
          | none => exact h
          | some z => obtain ⟨r, e', h⟩ := h; exact ⟨r, e', h.nl (NL.upd e)⟩
        refine ⟨rfl, ?_⟩
        have fin : ∀ {H3 : Hp} {x : V}, Same H' H3 → PrAt H3 x (pairOf d) → ∃ acc, H3 D = some (.lst acc) ∧ acc.length < sizeLine ∧ Same H1 (upd H3 D (.lst (acc ++ [x]))) ∧ ∃ ys : List V, (upd H3 D (.lst (acc ++ [x]))) D = some (.lst ys) ∧ Paired (PrAt (upd H3 D (.lst (acc ++ [x])))) ys ((l.take (i + 1)).map pairOf) := by
          intro H3 x s3 hx
          have e3 := s3 _ _ eD
          refine ⟨ys, e3, szlt (by omega), Lb.Same.updl (s'.trans s3) hD, ys ++ [x], upd_same, ?_⟩
          rw [← take_snoc hd, List.map_append]
          exact paired_snoc (Paired.imp py fun _ _ h => nl e3 (h.same s3) _) (nl e3 hx _)
        refine ⟨_, rfl, p, v, d, rfl, At.same s' _ _ hv, fun m e => ?_, fun e H3 s3 => fin s3 (by rw [e]; rfl), fun z e H3 r s3 _ f => fin s3 (by rw [e]; exact ⟨r, rfl, f⟩)⟩
        have hsub := lenOk d (List.mem_of_getElem? hd) m e
        omega
      rintro H2 ⟨s2, ys, eD, py⟩
      rw [ln, List.take_length] at py
      have lys : ys.length = l.length := by have := Paired.len py; rwa [List.length_map] at this
      have S2 := s1.trans s2
      -- all are (0, 0)
      refine ⟨_, rfl, D, rfl, ⟨_, SqL.of eD⟩, fun D2 hD2 => ?_⟩
      refine lc_list (K := K) (a := D) (xs := ys) (fun i H' => Same H2 H' ∧ H' D2 = some (.lst (((l.take i).map isOrg).map V.bl))) ⟨Lb.Same.upd hD2, upd_same⟩ (fun i H' _ b => SqL.of (b.1 _ _ eD)) ?_ ?_
      · rintro i v H' hi ⟨s', e2⟩
        obtain ⟨o, ho, hv⟩ := Paired.at_ py hi
        rw [List.getElem?_map] at ho
        obtain ⟨d, hd, rfl⟩ := Option.map_eq_some_iff.mp ho
        refine ⟨rfl, ?_⟩
        refine ⟨_, rfl, sz, fun t1 ht1 => ?_⟩
        generalize e_Ha : upd _ t1 _ = Ha
        obtain ⟨sa, fa⟩ := al3 e_Ha ht1
        clear e_Ha
        (try dsimp only at fa)
        refine ⟨sz, fun t2 ht2 => ?_⟩
        generalize e_Hb : upd _ t2 _ = Hb
        obtain ⟨sb, fb⟩ := al3 e_Hb ht2
        clear e_Hb
        (try dsimp only at fb)
        refine ⟨sz, fun t3 ht3 => ?_⟩
        generalize e_Hc : upd _ t3 _ = Hc
        obtain ⟨sc, fc⟩ := al3 e_Hc ht3
        clear e_Hc
        (try dsimp only at fc)
        have S := (sa.trans sb).trans sc
        refine ⟨prD (pairOf d), ptD org, prAt_dp (hv.same (s'.trans S)), .tup (SqT.of fc) (.cons (.tup (SqT.of (sc _ _ (sb _ _ fa))) (.cons (.int _) (.cons (.int _) .nil))) (.cons (.tup (SqT.of (sc _ _ fb)) (.cons (.int _) (.cons (.int _) .nil))) .nil)), prD_shaped _, rfl, _, S _ _ e2, ?_, Lb.Same.updl (s'.trans S) hD2, ?_⟩
        · rw [List.length_map, List.length_map, List.length_take]
          exact szlt (by omega)
        · rw [upd_same, ← take_snoc hd, List.map_append, List.map_append, eqv_pr, ← isOrg_eq (gd.sm d (List.mem_of_getElem? hd))]
          rfl
      rintro H3 ⟨s3, e3⟩
      rw [lys, List.take_length] at e3
      have S3 := S2.trans s3
      have nqp : ∀ {q : Addr} {G : Hp}, Same H G → G q = none → q ≠ p := fun {q G} s e z => by
        cases hh : H p with
        | none => exact hp hh
        | some o => have := s _ _ hh; rw [← z, e] at this; cases this
      have out2 : ∀ {G : Hp} {q : Addr} {x : Dt} {v : V}, Same H G → G q = none → dueD (.tp l) = .ls [.str "points", x] → At a.c_Amount p G x v → Q (.ref q) (upd G q (.lst [.str "points", v])) := by
        intro G q x v s hq e hx
        refine k _ q (s.trans (Lb.Same.upd hq)) (s.free' hq) ?_
        rw [e]
        simp only [At]
        exact ⟨q, _, rfl, upd_same, nqp s hq, ats_cons (by simp only [At]) (ats_cons (At.same (Lb.Same.upd hq) _ _ hx) ats_nil)⟩
      refine ⟨D2, _, rfl, SqL.of e3, _, rfl, ite2 (fun ho => ?_) (fun ho => ?_)⟩
      · have ho : l.all isOrg = true := by simpa [List.all_map] using ho
        have hvd : vd (.tp l) = .nil := by
          unfold vd
          rw [if_neg (by simp [isLT]), if_pos (show (elems (.tp l)).all isOrg = true from ho)]
        exact ⟨sz, fun q hq => out2 S3 hq (by unfold dueD; rw [hvd]) (by simp only [At])⟩
      have ho : ¬ l.all isOrg = true := by simpa [List.all_map] using ho
      have hvd : vd (.tp l) = match badFrom none 0 (l.map pairOf) with
          | some i => .at_ i
          | none => if 80 < l.length then .many else .made (l.filterMap pairOf) := by
        unfold vd
        rw [if_neg (by simp [isLT]), if_neg (show ¬ (elems (.tp l)).all isOrg = true from ho)]
        rfl
      have eD := s3 _ _ eD
      have py := Paired.imp py fun _ _ h => PrAt.same h s3
      refine ⟨_, rfl, D, _, rfl, SqL.of eD, ?_⟩
      refine for_enum (K := K) (a := D) (xs := ys) (fun i σ H' => ∃ u2 u3 u4 zs, σ = [some (.ref lp), some (.ref D), u2, u3, u4, none] ∧ Same H3 H' ∧ (l.take i).map pairOf = zs.map some ∧ badFrom none 0 (l.map pairOf) = badFrom zs.getLast? i ((l.drop i).map pairOf))
        ⟨_, _, _, [], rfl, Same.refl _, rfl, rfl⟩ (fun i σ H' ⟨_, _, _, _, _, s, _⟩ => SqL.of (s _ _ eD)) ?_ ?_
      · rintro i v T0 σ H' hi ⟨u2, u3, u4, zs, rfl, sH, ez, eb⟩ hT0
        obtain ⟨o, ho, hv⟩ := Paired.at_ py hi
        rw [List.getElem?_map] at ho
        obtain ⟨d, hd, rfl⟩ := Option.map_eq_some_iff.mp ho
        have hlt := (List.getElem?_eq_some_iff.mp hd).1
        have lzs : zs.length = i := by
          have e := congrArg List.length ez
          rw [List.length_map, List.length_map, List.length_take] at e
          omega
        generalize e_H5 : upd _ T0 _ = H5
        obtain ⟨s5, f5⟩ := al3 e_H5 hT0
        clear e_H5
        (try dsimp only at f5)
        have S5 := sH.trans s5
        have S05 := S3.trans S5
        refine ⟨T0, _, rfl, SqT.of f5, rfl, _, _, rfl, _, _, rfl, rfl, ?_⟩
        have smd := gd.sm d (List.mem_of_getElem? hd)
        have hv := hv.same S5
        cases hz : pairOf d with
        | none =>
          rw [hz] at hv
          cases (show v = .non from hv)
          refine ⟨_, rfl, rfl, _, rfl, iteP (by simp) ?_⟩
          rw [eb, bad_none hd hz] at hvd
          exact ⟨_, rfl, sz, fun q hq => out2 S05 hq (by unfold dueD; rw [hvd]) (by simp only [At])⟩
        | some z =>
          rw [hz] at hv
          obtain ⟨r, rfl, fr⟩ := hv
          refine ⟨_, rfl, rfl, _, rfl, iteN (by simp) ?_⟩
          have lz := pair_low hz smd
          have ez' : (l.take (i + 1)).map pairOf = (zs ++ [z]).map some := by
            rw [← take_snoc hd, List.map_append, List.map_append, ez, List.map_cons, hz]
            rfl
          refine ⟨_, rfl, _, _, rfl, rfl, _, rfl, ite2 (fun h0 => ?_) (fun h0 => ?_)⟩
          · have h0 : 0 < i := by
              have : (i : Int) > 0 := of_decide_eq_true h0
              omega
            obtain ⟨z0, hz0⟩ : ∃ z0, zs[i - 1]? = some z0 := ⟨_, List.getElem?_eq_getElem (by omega)⟩
            have gl0 : zs.getLast? = some z0 := by rw [List.getLast?_eq_getElem?, lzs]; exact hz0
            have e0 : ((l.take i).map pairOf)[i - 1]? = some (some z0) := by rw [ez, List.getElem?_map, hz0]; rfl
            rw [List.getElem?_map] at e0
            obtain ⟨d0, hd0', e0⟩ := Option.map_eq_some_iff.mp e0
            rw [List.getElem?_take, if_pos (by omega)] at hd0'
            have lz0 := pair_low e0 (gd.sm d0 (List.mem_of_getElem? hd0'))
            obtain ⟨v0, hv0, pv0⟩ := Paired.at_r py (i := i - 1) (b := some z0) (by rw [List.getElem?_map, hd0']; exact congrArg some e0)
            obtain ⟨r0, rfl, fr0⟩ := pv0.same S5
            have at0' : atI ys ((i : Int) - 1) = some (.ref r0) := by
              rw [show (i : Int) - 1 = ((i - 1 : Nat) : Int) by omega]
              exact atI_nat hv0
            refine ⟨_, rfl, _, rfl, _, rfl, _, _, rfl, rfl, _, _, _, _, rfl, rfl, SqL.of (S5 _ _ eD), at0', r, r0, z, z0, n, rfl, fr, fr0, ⟨lz.x, lz.y⟩, ⟨lz0.x, lz0.y⟩, by omega, fun H6 s6 => ⟨_, rfl, ?_⟩⟩
            rw [gl0] at eb
            by_cases hR : risesB z0 z = true
            · rw [hR]
              exact iteF ⟨_, _, _, zs ++ [z], rfl, S5.trans s6, ez', by rw [List.getLast?_concat, eb, bad_yes hd hz hR]⟩
            · rw [Bool.eq_false_iff.mpr hR]
              refine iteT ?_
              rw [eb, bad_no hd hz hR] at hvd
              exact ⟨_, rfl, sz, fun q hq => out2 (S05.trans s6) hq (by unfold dueD; rw [hvd]) (by simp only [At])⟩
          · have h0 : i = 0 := by
              have : ¬ (i : Int) > 0 := fun q => h0 (decide_eq_true q)
              omega
            subst h0
            have zn : zs = [] := List.length_eq_zero_iff.mp lzs
            subst zn
            exact ⟨_, _, _, [] ++ [z], rfl, S5, ez', eb.trans (bad_first hd hz)⟩
      · rintro σ H5 ⟨u2, u3, u4, zs, rfl, S5, ez, eb⟩
        rw [lys] at eb ez
        rw [List.drop_length] at eb
        rw [List.take_length] at ez
        have S05 := S3.trans S5
        have eb : badFrom none 0 (l.map pairOf) = none := eb.trans (by cases zs.getLast? <;> rfl)
        rw [eb] at hvd
        have lzs : zs.length = l.length := by
          have e := congrArg List.length ez
          rw [List.length_map, List.length_map] at e
          omega
        have efm : l.filterMap pairOf = zs := by
          rw [show l.filterMap pairOf = (l.map pairOf).filterMap id by rw [List.filterMap_map]; rfl, ez, List.filterMap_map]
          exact List.filterMap_some
        have eD := S5 _ _ eD
        rw [ez] at py
        obtain ⟨rs, rfl, pr⟩ := some_rows (Paired.imp py fun _ _ h => PrAt.same h S5)
        refine ⟨_, rfl, _, _, rfl, .inl (SqL.of eD), _, _, rfl, rfl, _, rfl, ite2 (fun h80 => ?_) (fun h80 => ?_)⟩
        · have h80 : 80 < l.length := by
            have : ((rs.map V.ref).length : Int) > 80 := of_decide_eq_true h80
            omega
          have hvd := hvd.trans (if_pos h80)
          refine ⟨sz, fun q hq => k _ q (S05.trans (Lb.Same.upd hq)) (S05.free' hq) ?_⟩
          unfold dueD
          rw [hvd]
          simp only [At]
          exact ⟨q, _, rfl, upd_same, nqp S05 hq, ats_cons (by simp only [At]) (ats_cons (by simp only [At]) (ats_cons (by simp only [At]) ats_nil))⟩
        · have h80 : ¬ 80 < l.length := by
            intro q
            apply h80
            refine decide_eq_true ?_
            omega
          have hvd := hvd.trans (if_neg h80)
          rw [efm] at hvd
          -- low ones
          refine ⟨_, rfl, D, rfl, ⟨_, SqL.of eD⟩, fun D3 hD3 => ?_⟩
          refine lc_list (K := K) (a := D) (xs := rs.map V.ref) (fun i H' => Same H5 H' ∧ ∃ cs : List Addr, H' D3 = some (.lst (cs.map V.ref)) ∧ Paired (SpR H5) cs ((zs.take i).filter isNeg)) ⟨Lb.Same.upd hD3, [], upd_same, .nil⟩ (fun i H' _ b => SqL.of (b.1 _ _ eD)) ?_ ?_
          · rintro i v H' hi ⟨s', cs, eC, pc⟩
            obtain ⟨r, rfl, hr'⟩ := ref_at hi
            obtain ⟨z, hz, pz⟩ := Paired.at_ pr hr'
            obtain ⟨u, w, er, f1, f2⟩ := pz.same s'
            refine ⟨rfl, ?_⟩
            refine ⟨_, rfl, _, _, _, _, rfl, rfl, SqT.of er, at0, _, _, _, _, rfl, rfl, SqT.of f1, at0, _, _, rfl, rfl, _, rfl, ?_⟩
            rw [← take_snoc hz, filter_snoc]
            refine ite2 (fun h => ?_) (fun h => ?_)
            · have h : isNeg z = true := h
              rw [if_pos h]
              refine ⟨_, rfl, cs.map V.ref, eC, ?_, Lb.Same.updl s' hD3, cs ++ [r], by rw [upd_same, List.map_append]; rfl, paired_snoc pc pz⟩
              have h1 := Paired.len pc
              have h2 := List.length_filter_le isNeg (zs.take i)
              rw [List.length_take] at h2
              rw [List.length_map]
              exact szlt (by omega)
            · have h : ¬ isNeg z = true := h
              rw [if_neg h]
              exact ⟨s', cs, eC, pc⟩
          rintro H6 ⟨s6, cs, eC, pc⟩
          have lrs := Paired.len pr
          rw [show (rs.map V.ref).length = zs.length by rw [List.length_map, lrs], List.take_length] at pc
          have lcs := Paired.len pc
          have lcz := List.length_filter_le isNeg zs
          have pc := Paired.imp pc fun _ _ h => SpR.same h s6
          have eD := s6 _ _ eD
          have pr := Paired.imp pr fun _ _ h => SpR.same h s6
          have S06 := S05.trans s6
          refine ⟨_, rfl, sz, fun t1 ht1 => ?_⟩
          generalize e_Ha : upd _ t1 _ = Ha
          obtain ⟨sa, fa⟩ := al3 e_Ha ht1
          clear e_Ha
          (try dsimp only at fa)
          refine ⟨sz, fun t2 ht2 => ?_⟩
          generalize e_Hb : upd _ t2 _ = Hb
          obtain ⟨sb, fb⟩ := al3 e_Hb ht2
          clear e_Hb
          (try dsimp only at fb)
          refine ⟨sz, fun t3 ht3 => ?_⟩
          generalize e_Hc : upd _ t3 _ = Hc
          obtain ⟨sc, fc⟩ := al3 e_Hc ht3
          clear e_Hc
          (try dsimp only at fc)
          refine ⟨sz, fun l1 hl1 => ?_⟩
          generalize e_Hd : upd _ l1 _ = Hd
          obtain ⟨sd, fd⟩ := al3 e_Hd hl1
          clear e_Hd
          (try dsimp only at fd)
          have S := ((sa.trans sb).trans sc).trans sd
          have porg : SpR Hd t3 org := ⟨t1, t2, sd _ _ fc, sd _ _ (sc _ _ (sb _ _ fa)), sd _ _ (sc _ _ fb)⟩
          have eC := S _ _ eC
          refine ⟨D3, l1, _, _, rfl, rfl, eC, fd, szle (by rw [List.length_map]; show cs.length + 1 ≤ _; omega), fun l2 hl2 => ?_⟩
          generalize e_He : upd _ l2 _ = He
          obtain ⟨se, fe⟩ := al3 e_He hl2
          clear e_He
          (try dsimp only at fe)
          have eD := se _ _ (S _ _ eD)
          have S7 := S.trans se
          have pc := Paired.imp pc fun _ _ h => SpR.same h S7
          have pr := Paired.imp pr fun _ _ h => SpR.same h S7
          have porg := porg.same se
          refine ⟨_, rfl, D, rfl, ⟨_, SqL.of eD⟩, fun D4 hD4 => ?_⟩
          refine lc_list (K := K) (a := D) (xs := rs.map V.ref) (fun i H' => Same He H' ∧ ∃ gs : List Addr, H' D4 = some (.lst (gs.map V.ref)) ∧ Paired (SpR He) gs ((zs.take i).filter isPos)) ⟨Lb.Same.upd hD4, [], upd_same, .nil⟩ (fun i H' _ b => SqL.of (b.1 _ _ eD)) ?_ ?_
          · rintro i v H' hi ⟨s', gs, eG, pg⟩
            obtain ⟨r, rfl, hr'⟩ := ref_at hi
            obtain ⟨z, hz, pz⟩ := Paired.at_ pr hr'
            obtain ⟨u, w, er, f1, f2⟩ := pz.same s'
            refine ⟨rfl, ?_⟩
            refine ⟨_, rfl, _, _, _, _, rfl, rfl, SqT.of er, at0, _, _, _, _, rfl, rfl, SqT.of f1, at0, _, _, rfl, rfl, _, rfl, ?_⟩
            rw [← take_snoc hz, filter_snoc]
            refine ite2 (fun h => ?_) (fun h => ?_)
            · have h : isPos z = true := h
              rw [if_pos h]
              refine ⟨_, rfl, gs.map V.ref, eG, ?_, Lb.Same.updl s' hD4, gs ++ [r], by rw [upd_same, List.map_append]; rfl, paired_snoc pg pz⟩
              have h1 := Paired.len pg
              have h2 := List.length_filter_le isPos (zs.take i)
              rw [List.length_take] at h2
              rw [List.length_map]
              exact szlt (by omega)
            · have h : ¬ isPos z = true := h
              rw [if_neg h]
              exact ⟨s', gs, eG, pg⟩
          rintro H7 ⟨s7, gs, eG, pg⟩
          rw [show (rs.map V.ref).length = zs.length by rw [List.length_map, lrs], List.take_length] at pg
          have lgs := Paired.len pg
          have lgz := List.length_filter_le isPos zs
          refine ⟨l2, D4, _, _, rfl, rfl, s7 _ _ fe, eG, szle (by rw [List.length_append, List.length_map, List.length_map]; show cs.length + 1 + gs.length ≤ _; omega), fun l3 hl3 => ?_⟩
          generalize e_H8 : upd _ l3 _ = H8
          obtain ⟨s8, f8⟩ := al3 e_H8 hl3
          clear e_H8
          (try dsimp only at f8)
          refine ⟨sz, fun q hq => ?_⟩
          have S08 := (((S06.trans S7).trans s7).trans s8)
          refine k _ q (S08.trans (Lb.Same.upd hq)) (S08.free' hq) ?_
          unfold dueD
          rw [hvd]
          have al : Paired (SpR (upd H8 q (.lst [.str "made", .ref l3]))) (cs ++ [t3] ++ gs) (withO zs) := by
            unfold withO
            rw [List.append_assoc]
            have sq := (s7.trans s8).trans (Lb.Same.upd (o := .lst [.str "made", .ref l3]) hq)
            exact paired_append (Paired.imp pc fun _ _ h => SpR.same h sq) (.cons (porg.same sq) (Paired.imp pg fun _ _ h => SpR.same h sq))
          simp only [At]
          refine ⟨q, _, rfl, upd_same, nqp S08 hq, ats_cons (by simp only [At]) (ats_cons ?_ ats_nil)⟩
          simp only [At]
          have s0 : Same H Hd := S06.trans S
          refine ⟨l3, (cs ++ [t3] ++ gs).map V.ref, rfl, ?_, ?_, sprs_at al⟩
          · rw [upd_ne (ne_of_none f8 hq), f8, List.map_append, List.map_append]
            rfl
          · exact nqp ((S06.trans S7).trans s7) hl3
    | _ =>
      refine ⟨_, (pss_cons (ps_if (pt_not (pt_val (pe_callB (call_isiT (X := _)) (by rfl) T.b_isinstance (by decide +kernel) (pa_cons (pv 0) (pa_cons (pe_tup (pa_cons (pe_bltn (v := .ty "list") (by rfl) T.b_list (by decide +kernel) rfl) (pa_cons (pe_bltn (v := .ty "tuple") (by rfl) T.b_tuple (by decide +kernel) rfl) pa_nil))) pa_nil))))) (pss_one (ps_ret (pe_lst (pa_cons pe_str (pa_cons pe_non pa_nil))))) pss_nil)
 (pss_cons (ps_setLc (i := 1) (own := [("_law_thing", 2)]) rfl sc_due.nd rfl rfl (sw_true rfl rfl rfl (by decide +kernel)) (pi_listK (K := K) rfl (pv 0)) (blkOk_by (own := [("_law_thing", 2)]) (N := ["_law_value", "_law_pairs", "_law_thing", "_law_pair_here", "_law_at", "_law_low_here"]) (sc := defScope s_due) (by decide +kernel)) (fun _ _ _ _ _ => (pg_name (i := 2) sc_due.nd rfl (by first | exact Or.inl rfl | exact Or.inr rfl))) (fun _ _ _ _ _ => pts_nil) (fun _ _ _ _ _ => (pe_call (ok_pair T) (hr.mono (by decide)) (by rfl) T.m_pair T.F_pair.kp (b_pair T) .nil pass0 (pa_cons (pv 2) pa_nil))))
 (pss_cons (ps_if (pt_val (pe_callB (cr_allK (K := K) rfl rfl) (by rfl) T.b_all (by decide +kernel) (pa_cons (pe_lc (own := [("_law_pair_here", 3)]) (by rfl) sc_due.nd (pi_listK (K := K) rfl (pv 1)) (blkOk_by (own := [("_law_pair_here", 3)]) (N := ["_law_value", "_law_pairs", "_law_thing", "_law_pair_here", "_law_at", "_law_low_here"]) (sc := defScope s_due) (by decide +kernel)) (fun _ _ _ _ _ => (pg_name (i := 3) sc_due.nd rfl (by first | exact Or.inl rfl | exact Or.inr rfl))) (fun _ _ _ _ _ => pts_nil) (fun _ _ _ _ _ => (pe_cmpR (op_eqDK (K := K) rfl hr.units) (pv 3) (pe_tup (pa_cons (pe_tup (pa_cons pe_int (pa_cons pe_int pa_nil))) (pa_cons (pe_tup (pa_cons pe_int (pa_cons pe_int pa_nil))) pa_nil))) (nomark _)))) pa_nil))) (pss_one (ps_ret (pe_lst (pa_cons pe_str (pa_cons pe_non pa_nil))))) pss_nil)
 (pss_cons (ps_for PassesOwn.never rfl (pi_enum (by rfl) T.b_enumerate (pa_cons (pv 1) pa_nil)) (pg_tupK (K := K) (n := 2) rfl rfl (pgs_cons (pg_name (i := 4) sc_due.nd rfl (by first | exact Or.inl rfl | exact Or.inr rfl)) (pgs_cons (pg_name (i := 3) sc_due.nd rfl (by first | exact Or.inl rfl | exact Or.inr rfl)) pgs_nil))) (pss_cons (ps_if (pt_cmpR op_isN (pv 3) pe_non (nomark _)) (pss_one (ps_ret (pe_lst (pa_cons pe_str (pa_cons (pv 4) pa_nil))))) pss_nil)
 (pss_one (ps_if (PW.pt (pw_and (pt_cmpR op_gt (pv 4) pe_int (nomark _)) (pw_and1 (pt_not (pt_val (pe_call (ok_is_behind T) (hr.mono (by decide)) (by rfl) T.m_is_behind T.F_is_behind.kp (b_is_behind T) .nil pass0 (pa_cons (pv 3) (pa_cons (pe_ix (ix_listK (K := K) rfl) (pv 1) (pe_op op_sub (pv 4) pe_int) (fun _ _ => rfl)) pa_nil)))))))) (pss_one (ps_ret (pe_lst (pa_cons pe_str (pa_cons (pv 4) pa_nil))))) pss_nil))))
 (pss_cons (ps_if (pt_cmpR op_gt (pe_callB (call_lenK (K := K) rfl) (by rfl) T.b_len (by decide +kernel) (pa_cons (pv 1) pa_nil)) pe_int (nomark _)) (pss_one (ps_ret (pe_lst (pa_cons pe_str (pa_cons pe_str (pa_cons pe_int pa_nil)))))) pss_nil)
 (pss_cons (ps_setLc (i := 5) (own := [("_law_pair_here", 3)]) rfl sc_due.nd rfl rfl (sw_true rfl rfl rfl (by decide +kernel)) (pi_listK (K := K) rfl (pv 1)) (blkOk_by (own := [("_law_pair_here", 3)]) (N := ["_law_value", "_law_pairs", "_law_thing", "_law_pair_here", "_law_at", "_law_low_here"]) (sc := defScope s_due) (by decide +kernel)) (fun _ _ _ _ _ => (pg_name (i := 3) sc_due.nd rfl (by first | exact Or.inl rfl | exact Or.inr rfl))) (fun _ _ _ _ _ => pts_one (pt_cmpR op_lt (pe_ix (ix_tupK (K := K) rfl) (pe_ix (ix_tupK (K := K) rfl) (pv 3) pe_int (fun _ _ => rfl)) pe_int (fun _ _ => rfl)) pe_int (nomark _))) (fun _ _ _ _ _ => (pv 3)))
 (pss_one (ps_ret (pe_lst (pa_cons pe_str (pa_cons (pe_op op_cat (pe_op op_cat (pv 5) (pe_lst (pa_cons (pe_tup (pa_cons (pe_tup (pa_cons pe_int (pa_cons pe_int pa_nil))) (pa_cons (pe_tup (pa_cons pe_int (pa_cons pe_int pa_nil))) pa_nil))) pa_nil))) (pe_lc (own := [("_law_pair_here", 3)]) (by rfl) sc_due.nd (pi_listK (K := K) rfl (pv 1)) (blkOk_by (own := [("_law_pair_here", 3)]) (N := ["_law_value", "_law_pairs", "_law_thing", "_law_pair_here", "_law_at", "_law_low_here"]) (sc := defScope s_due) (by decide +kernel)) (fun _ _ _ _ _ => (pg_name (i := 3) sc_due.nd rfl (by first | exact Or.inl rfl | exact Or.inr rfl))) (fun _ _ _ _ _ => pts_one (pt_cmpR op_gt (pe_ix (ix_tupK (K := K) rfl) (pe_ix (ix_tupK (K := K) rfl) (pv 3) pe_int (fun _ _ => rfl)) pe_int (fun _ _ => rfl)) pe_int (nomark _))) (fun _ _ _ _ _ => (pv 3)))) pa_nil))))))))))), ?_⟩
      refine ⟨_, rfl, sz, fun tp htp => ?_⟩
      generalize e_H1 : upd _ tp _ = H1
      obtain ⟨s1, ft⟩ := al3 e_H1 htp
      clear e_H1
      (try dsimp only at ft)
      obtain ⟨t, ty, _, k2, _⟩ := At.ty T (At.same s1 _ _ hd)
      refine ⟨_, tp, _, _, _, false, rfl, ft, .cons (.ty _) (.cons (.ty _) .nil), ty, k2, false, rfl, iteT ?_⟩
      refine ⟨sz, fun q hq => k _ q (s1.trans (Lb.Same.upd hq)) (s1.free' hq) ?_⟩
      unfold dueD
      rw [vd_not rfl]
      simp only [At]
      refine ⟨q, _, rfl, upd_same, fun z => ?_, ats_cons (by simp only [At]) (ats_cons (by simp only [At]) ats_nil)⟩
      cases hh : H p with
      | none => exact hp hh
      | some o => have := s1 _ _ hh; rw [← z, hq] at this; cases this
end
end K19

set_option Elab.async false
set_option linter.all false
set_option maxRecDepth 100000
set_option maxHeartbeats 4000000
set_option exponentiation.threshold 10000
namespace K19
open PySem L2 Lb
/-! a curve has its points, and goes on beyond them -/
theorem line_lo {s : Nat} {z z' : Pt} (h1 : val (sd s z) < val (sd s z')) : onLine s z z' (val (sd s z)) = val (sd (1 - s) z) := by
  unfold onLine
  have : val (sd s z') - val (sd s z) ≠ 0 := by grind
  grind
theorem line_hi {s : Nat} {z z' : Pt} (h1 : val (sd s z) < val (sd s z')) : onLine s z z' (val (sd s z')) = val (sd (1 - s) z') := by
  unfold onLine
  have : val (sd s z') - val (sd s z) ≠ 0 := by grind
  grind
theorem ask_pt {s n m : Nat} {zs : List Pt} {i j : Nat} {y z z' : Pt} {r : Q2} (hs : s = 0 ∨ s = 1) (h : CuN n zs) (hy : zs[j]? = some y) (p : PieceAt zs s (sd s y) i) (hz : zs[i]? = some z) (hz' : zs[i + 1]? = some z') (lr : Low m r) (v : val r = onLine s z z' (val (sd s y))) : r = sd (1 - s) y := by
  have up := h.up s hs
  have lt := up i z z' hz hz'
  have ly : Low n (sd (1 - s) y) := (h.p y (List.mem_of_getElem? hy)).sd
  refine val_inj lr ly ?_
  rcases Nat.lt_trichotomy i j with c | c | c
  · have e : j = i + 1 := by
      rcases Nat.lt_or_ge (i + 1) j with d | d
      · exfalso
        have := up.lt d hz' hy
        rcases p.hi with q | ⟨w, hw, q⟩
        · have := (List.getElem?_eq_some_iff.mp hy).1
          omega
        · rw [hw] at hz'
          cases hz'
          grind
      · omega
    subst e
    rw [hz'] at hy
    cases hy
    rw [v, line_hi lt]
  · subst c
    rw [hz] at hy
    cases hy
    rw [v, line_lo lt]
  · exfalso
    have := up.lt c hy hz
    rcases p.lo with q | ⟨w, hw, q⟩
    · omega
    · rw [hw] at hz
      cases hz
      grind
/-- beyond an end -/
def FarOk (zs : List Pt) (za zb : Pt) : Prop := ∀ (s : Nat), s = 0 ∨ s = 1 → ∀ (x : Q2) (i : Nat) (z z' : Pt) (r : Q2), PieceAt zs s x i → zs[i]? = some z → zs[i + 1]? = some z' → val x = val (sd s zb) + (val (sd s zb) - val (sd s za)) → val r = onLine s z z' (val x) → val r = val (sd (1 - s) zb) + (val (sd (1 - s) zb) - val (sd (1 - s) za))
theorem far_first {n : Nat} {zs : List Pt} {za zb : Pt} (h : CuN n zs) (h0 : zs[0]? = some zb) (h1 : zs[1]? = some za) : FarOk zs za zb := by
  intro s hs x i z z' r p hz hz' vx v
  have up := h.up s hs
  have lt := up 0 zb za h0 h1
  have e : i = 0 := by
    rcases Nat.eq_zero_or_pos i with e | e
    · exact e
    · exfalso
      have l2 := up.lt e h0 hz
      rcases p.lo with q | ⟨w, hw, q⟩
      · omega
      · rw [hw] at hz
        cases hz
        grind
  subst e
  rw [h0] at hz
  rw [h1] at hz'
  cases hz
  cases hz'
  rw [v, vx]
  unfold onLine
  have : val (sd s za) - val (sd s zb) ≠ 0 := by grind
  grind
theorem far_last {n : Nat} {zs : List Pt} {za zb : Pt} (h : CuN n zs) (h0 : zs[zs.length - 2]? = some za) (h1 : zs[zs.length - 1]? = some zb) : FarOk zs za zb := by
  intro s hs x i z z' r p hz hz' vx v
  have up := h.up s hs
  have l2 := h.l2
  have lt := up (zs.length - 2) za zb h0 (by rw [show zs.length - 2 + 1 = zs.length - 1 by omega]; exact h1)
  have hi := p.lt
  have e : i = zs.length - 2 := by
    rcases p.hi with q | ⟨w, hw, q⟩
    · omega
    · exfalso
      rcases Nat.lt_or_ge (i + 1) (zs.length - 1) with d | d
      · have := up.lt d hw h1
        grind
      · rw [show i + 1 = zs.length - 1 by omega, h1] at hw
        cases hw
        grind
  subst e
  rw [h0] at hz
  rw [show zs.length - 2 + 1 = zs.length - 1 by omega, h1] at hz'
  cases hz
  cases hz'
  rw [v, vx]
  unfold onLine
  have : val (sd s zb) - val (sd s za) ≠ 0 := by grind
  grind
def negQ (x : Q2) : Q2 := (0 - x.1, x.2)
def farQ (near last : Q2) : Q2 := minusF (minusF last (negQ last)) near
theorem neg_low {n : Nat} {x : Q2} (h : Low n x) : Low n (negQ x) := by
  refine ⟨?_, h.b, h.pos, ?_⟩
  · show Bd n (0 - x.1)
    rw [Int.zero_sub]
    exact h.t.neg
  · show (0 - x.1).gcd x.2 = 1
    rw [Int.zero_sub, Int.neg_gcd]
    exact h.g
theorem neg_val {n : Nat} {x : Q2} (h : Low n x) : val (negQ x) = - val x := by
  unfold val negQ
  show (((0 - x.1 : Int) : Rat)) / _ = _
  rw [Int.zero_sub, Rat.intCast_neg]
  grind
theorem far_low {n : Nat} {x y : Q2} (hx : Low n x) (hy : Low n y) : Low (3 * n + 2) (farQ x y) := sub_low (sub_low hy (neg_low hy) (Nat.le_refl _)) hx (by omega)
theorem far_val {n : Nat} {x y : Q2} (hx : Low n x) (hy : Low n y) : val (farQ x y) = val y + (val y - val x) := by
  have h1 : val (minusF y (negQ y)) = val y - val (negQ y) := val_sub hy.pos (neg_low hy).pos
  have l1 : Low (n + n + 1) (minusF y (negQ y)) := sub_low hy (neg_low hy) (Nat.le_refl _)
  have h2 : val (farQ x y) = val (minusF y (negQ y)) - val x := val_sub l1.pos hx.pos
  rw [h2, h1, neg_val hy]
  grind
theorem far_eq {n m : Nat} {zs : List Pt} {za zb : Pt} {s i : Nat} {z z' : Pt} {r : Q2} (hs : s = 0 ∨ s = 1) (f : FarOk zs za zb) (pa : PtN n za) (pb : PtN n zb) (p : PieceAt zs s (farQ (sd s za) (sd s zb)) i) (hz : zs[i]? = some z) (hz' : zs[i + 1]? = some z') (lr : Low m r)
    (v : val r = onLine s z z' (val (farQ (sd s za) (sd s zb)))) : r = farQ (sd (1 - s) za) (sd (1 - s) zb) := by
  have vx := far_val (n := n) (x := sd s za) (y := sd s zb) pa.sd pb.sd
  have e := f s hs _ i z z' r p hz hz' vx v
  refine val_inj lr (far_low (n := n) (x := sd (1 - s) za) (y := sd (1 - s) zb) pa.sd pb.sd) ?_
  rw [e, far_val (n := n) pa.sd pb.sd]
theorem atI_last2 {α : Type} {xs : List α} {j : Nat} (h : xs.length = j + 2) : atI xs (-2) = xs[j]? := by
  unfold atI ixN
  rw [if_neg (by decide), if_pos (by omega)]
  show xs[(_ : Int).toNat]? = _
  congr 1
  omega
theorem pair2 {H : Hp} {bs : List Addr} {x y : Q2} (h : Paired (FrQ H) bs [x, y]) : ∃ a b, bs = [a, b] ∧ FrQ H a x ∧ FrQ H b y := by
  cases h with
  | cons h1 h2 =>
    cases h2 with
    | cons h3 h4 =>
      cases h4
      exact ⟨_, _, rfl, h1, h3⟩
/-! (0, 0) put in -/
theorem asc_append {s : Nat} {xs ys : List Pt} (h1 : Asc s xs) (h2 : Asc s ys) (h : ∀ x ∈ xs, ∀ y ∈ ys, val (sd s x) < val (sd s y)) : Asc s (xs ++ ys) := by
  intro i z z' hz hz'
  rcases Nat.lt_or_ge (i + 1) xs.length with c | c
  · rw [List.getElem?_append_left (by omega)] at hz
    rw [List.getElem?_append_left c] at hz'
    exact h1 i z z' hz hz'
  · rcases Nat.lt_or_ge i xs.length with d | d
    · rw [List.getElem?_append_left d] at hz
      rw [List.getElem?_append_right c] at hz'
      exact h z (List.mem_of_getElem? hz) z' (List.mem_of_getElem? hz')
    · rw [List.getElem?_append_right d] at hz
      rw [List.getElem?_append_right c, show i + 1 - xs.length = i - xs.length + 1 by omega] at hz'
      exact h2 _ z z' hz hz'
theorem val_neg {x : Q2} (p : 0 < x.2) (h : x.1 < 0) : val x < 0 := by
  have := (val_lt (x := x) (y := (0, 1)) p (by decide)).mp (by show x.1 * 1 < 0 * x.2; omega)
  rwa [val_zero] at this
theorem val_pos {x : Q2} (p : 0 < x.2) (h : 0 < x.1) : 0 < val x := by
  have := (val_lt (x := (0, 1)) (y := x) (by decide) p).mp (by show 0 * x.2 < x.1 * 1; omega)
  rwa [val_zero] at this
theorem sg_lt {t : Int} (h : sg t = -1) : t < 0 := by
  unfold sg at h
  split at h
  · cases h
  · split at h
    · cases h
    · omega
theorem sg_gt {t : Int} (h : sg t = 1) : 0 < t := by
  unfold sg at h
  split at h
  · cases h
  · split at h
    · omega
    · cases h
theorem ptl_neg {n s : Nat} {z : Pt} (h : PtL n z) (c : isNeg z = true) : val (sd s z) < 0 := by
  have c : z.1.1 < 0 := of_decide_eq_true c
  unfold sd
  split
  · exact val_neg h.x.pos c
  · exact val_neg h.y.pos (sg_lt (by rw [← h.s, sg_n c]))
theorem ptl_pos {n s : Nat} {z : Pt} (h : PtL n z) (c : isPos z = true) : 0 < val (sd s z) := by
  have c : 0 < z.1.1 := of_decide_eq_true c
  unfold sd
  split
  · exact val_pos h.x.pos c
  · exact val_pos h.y.pos (sg_gt (by rw [← h.s, sg_p c]))
theorem org_val {s : Nat} : val (sd s org) = 0 := by
  unfold sd
  split <;> exact val_zero
theorem cuN_withO {n : Nat} {zs : List Pt} (h : Pts n zs) : CuN (n + 1) (withO zs) := by
  have asc : ∀ s, s = 0 ∨ s = 1 → Asc s zs := fun s hs i z z' hz hz' => by
    have pz := h.l z (List.mem_of_getElem? hz)
    have pz' := h.l z' (List.mem_of_getElem? hz')
    obtain ⟨u1, u2⟩ := h.up i z z' hz hz'
    rcases hs with rfl | rfl
    · exact (val_lt pz.x.pos pz'.x.pos).mp u1
    · exact (val_lt pz.y.pos pz'.y.pos).mp u2
  have mem : ∀ z ∈ withO zs, (z ∈ zs ∧ isNeg z = true) ∨ z = org ∨ (z ∈ zs ∧ isPos z = true) := fun z hz => by
    unfold withO at hz
    rcases List.mem_append.mp hz with hz | hz
    · exact .inl (List.mem_filter.mp hz)
    · rcases List.mem_cons.mp hz with hz | hz
      · exact .inr (.inl hz)
      · exact .inr (.inr (List.mem_filter.mp hz))
  have lw : (withO zs).length = (zs.filter isNeg).length + 1 + (zs.filter isPos).length := by
    unfold withO
    rw [List.length_append, List.length_cons]
    omega
  refine ⟨fun z hz => ?_, ?_, ?_, fun s hs => ?_⟩
  · rcases mem z hz with ⟨m, _⟩ | rfl | ⟨m, _⟩
    · exact ⟨(h.l z m).x.mono (Nat.le_succ n), (h.l z m).y.mono (Nat.le_succ n)⟩
    · exact ⟨org_low, org_low⟩
    · exact ⟨(h.l z m).x.mono (Nat.le_succ n), (h.l z m).y.mono (Nat.le_succ n)⟩
  · obtain ⟨z, m, h0⟩ := h.some_
    rcases Int.lt_or_gt_of_ne h0 with c | c
    · have : z ∈ zs.filter isNeg := List.mem_filter.mpr ⟨m, decide_eq_true c⟩
      have := List.length_pos_of_mem this
      omega
    · have : z ∈ zs.filter isPos := List.mem_filter.mpr ⟨m, decide_eq_true c⟩
      have := List.length_pos_of_mem this
      omega
  · have := List.length_filter_le isNeg zs
    have := List.length_filter_le isPos zs
    have := h.most
    omega
  · unfold withO
    refine asc_append (asc_filter isNeg (asc s hs)) ?_ fun x hx y hy => ?_
    · have := asc_append (s := s) (xs := [org]) (ys := zs.filter isPos) (fun i z z' h1 h2 => by simp at h2) (asc_filter isPos (asc s hs)) fun x hx y hy => by
        rw [List.mem_singleton.mp hx, org_val]
        have hy := List.mem_filter.mp hy
        exact ptl_pos (h.l y hy.1) hy.2
      exact this
    · have hx := List.mem_filter.mp hx
      have vx := ptl_neg (s := s) (h.l x hx.1) hx.2
      rcases List.mem_cons.mp hy with rfl | hy
      · rw [org_val]
        exact vx
      · have hy := List.mem_filter.mp hy
        have vy := ptl_pos (s := s) (h.l y hy.1) hy.2
        grind
/-- what is right may be passed -/
theorem bad_inv : ∀ (l : List (Option Pt)) (o : Option Pt) (i : Nat), badFrom o i l = none → ∃ zs : List Pt, l = zs.map some ∧ (∀ j z z', (o.toList ++ zs)[j]? = some z → (o.toList ++ zs)[j + 1]? = some z' → risesB z z' = true)
  | [], o, i, _ => ⟨[], rfl, fun j z z' h h' => by cases o <;> simp at h'⟩
  | none :: r, o, i, h => by cases o <;> cases h
  | some z :: r, o, i, h => by
    have key : badFrom (some z) (i + 1) r = none ∧ ∀ y, o = some y → risesB y z = true := by
      cases o with
      | none => exact ⟨h, fun y e => nomatch e⟩
      | some y =>
        unfold badFrom at h
        split at h
        · rename_i hr
          exact ⟨h, fun y' e => by cases e; exact hr⟩
        · cases h
    obtain ⟨zs, rfl, h2⟩ := bad_inv r (some z) (i + 1) key.1
    refine ⟨z :: zs, rfl, fun j y y' hy hy' => ?_⟩
    cases o with
    | none => exact h2 j y y' hy hy'
    | some x =>
      cases j with
      | zero =>
        have e1 : x = y := by simpa using hy
        have e2 : z = y' := by simpa using hy'
        rw [← e1, ← e2]
        exact key.2 x rfl
      | succ j => exact h2 j y y' hy hy'
theorem pts_made {n : Nat} {d : Dt} {zs : List Pt} (g : GoodD n d) (h : vd d = .made zs) : (elems d).map pairOf = zs.map some ∧ Pts n zs ∧ isLT d = true := by
  unfold vd at h
  split at h
  · cases h
  · rename_i hl
    split at h
    · cases h
    · rename_i ho
      split at h
      · cases h
      · rename_i hb
        split at h
        · cases h
        · rename_i h80
          obtain ⟨ys, ey, hr⟩ := bad_inv _ _ _ hb
          have e : (elems d).filterMap pairOf = ys := by
            rw [show (elems d).filterMap pairOf = ((elems d).map pairOf).filterMap id by rw [List.filterMap_map]; rfl, ey, List.filterMap_map]
            exact List.filterMap_some
          rw [e] at h
          have hz : ys = zs := by injection h
          subst hz
          have mem : ∀ z ∈ ys, ∃ e ∈ elems d, pairOf e = some z := fun z hz => by
            have : some z ∈ (elems d).map pairOf := by rw [ey]; exact List.mem_map.mpr ⟨z, hz, rfl⟩
            obtain ⟨e, he, h⟩ := List.mem_map.mp this
            exact ⟨e, he, h⟩
          have len : ys.length = (elems d).length := by
            have := congrArg List.length ey
            rw [List.length_map, List.length_map] at this
            omega
          refine ⟨ey, ⟨fun z hz => ?_, g.n, fun i z z' hz hz' => ?_, ?_, by omega⟩, by cases hq : isLT d <;> simp_all⟩
          · obtain ⟨e, he, h⟩ := mem z hz
            exact pair_low h (g.sm e he)
          · have := hr i z z' hz hz'
            unfold risesB at this
            rw [Bool.and_eq_true] at this
            have t1 : z.1.1 * z'.1.2 < z'.1.1 * z.1.2 := of_decide_eq_true this.1
            have t2 : z.2.1 * z'.2.2 < z'.2.1 * z.2.2 := of_decide_eq_true this.2
            exact ⟨t1, t2⟩
          · have : ∃ e ∈ elems d, ¬ isOrg e = true := by
              rw [List.all_eq_true] at ho
              by_cases hx : ∃ e ∈ elems d, ¬ isOrg e = true
              · exact hx
              · exact absurd (fun x hm => Classical.not_not.mp fun q => hx ⟨x, hm, q⟩) ho
            obtain ⟨e, he, hn⟩ := this
            have : pairOf e ∈ (elems d).map pairOf := List.mem_map.mpr ⟨e, he, rfl⟩
            rw [ey] at this
            obtain ⟨z, hz, hpz⟩ := List.mem_map.mp this
            refine ⟨z, hz, fun h0 => hn ?_⟩
            unfold isOrg
            rw [← hpz]
            exact decide_eq_true h0
theorem ptps_of {C p : Addr} {H : Hp} : ∀ {l : List Dt} {xs : List V} {zs : List Pt}, Ats C p H l xs → l.map pairOf = zs.map some → Paired (PtP C H) xs zs
  | [], _, [], h, _ => by rw [ats_inv0 h]; exact .nil
  | [], _, _ :: _, _, e => by simp at e
  | _ :: _, _, [], _, e => by simp at e
  | d :: l, _, z :: zs, h, e => by
    obtain ⟨x, r, rfl, h1, h2⟩ := ats_inv h
    rw [List.map_cons, List.map_cons, List.cons.injEq] at e
    exact .cons (h1.ptP e.1) (ptps_of h2 e.2)
def sp_Curve_init_X (A C CI CT : Addr) : Sp := fun vs H _ E => ∃ (q dx p : Addr) (v : V) (d : Dt) (n : Nat), vs = [.ref q, v] ∧ H q = some (.ins C dx []) ∧ At A p H d v ∧ GoodD n d ∧ Refu CI CT d H E
def sp_has (A C : Addr) : Sp := fun vs H Q _ => ∃ (c l : Addr) (zs : List Pt) (n : Nat), vs = [.ref c, .ref l] ∧ Cu A C H c zs ∧ CuN n zs ∧ n ≤ 200 ∧ Spots H l zs ∧ ∀ H', Same H H' → Q (.bl true) H'
section
variable {P : Program} {w : World} {K : PySem.W.Frag} {mg : Str → Option Value} {base : Heap} {a : Ad}
theorem ok_Curve_init_X (T : Txt K mg a) : FnOk P w K mg base (L2.CX P w) 8 a.f_Curve_init_ a.d_Curve_init_ ["self", "points"] (sp_Curve_init_X a.c_Amount a.c_Curve a.c_InvalidPoints a.c_TooMany) := by
  refine T.F_Curve_init_.okX sc_Curve_init_ (fun vs H Q E h => ?_) (fun cdv A outer s H vs Q E hr h => ?_)
  · obtain ⟨q, dx, p, v, d, n, rfl, _⟩ := h
    rfl
  · obtain ⟨q, dx, p, v, d, n, rfl, hq, hd, gd, k⟩ := h
    refine ⟨_, (pss_one (ps_fldK (K := K) rfl (pv 0) (pe_call (ok_with_origin T) (hr.mono (by decide)) (by rfl) T.m_with_origin T.F_with_origin.kp (b_with_origin T) .nil pass0 (pa_cons (pe_call (E := E) (ok_checkedX T) (hr.mono (by decide)) (by rfl) T.m_checked T.F_checked.kp (b_checked T) .nil (passes_call (takes_of rfl rfl rfl rfl) fun _ _ _ _ h => h) (pa_cons (pv 1) pa_nil)) pa_nil)) rfl)), ?_⟩
    exact ⟨_, rfl, p, v, d, n, rfl, hd, gd, k⟩
theorem ok_has (T : Txt K mg a) : FnOk P w K mg base CX0 9 a.f_has a.d_has ["_law_made", "_law_pairs"] (sp_has a.c_Amount a.c_Curve) := by
  refine T.F_has.ok sc_has (fun vs H Q E h => ?_) (fun cdv A outer s H vs Q E hr h => ?_)
  · obtain ⟨c, l, zs, n, rfl, _⟩ := h
    rfl
  · obtain ⟨c, l, zs, n, rfl, hc, hn, h200, hl, k⟩ := h
    refine ⟨_, (pss_cons (ps_for PassesOwn.never rfl (pi_listK (K := K) rfl (pv 1)) (pg_tupK (K := K) (n := 2) rfl rfl (pgs_cons (pg_name (i := 2) sc_has.nd rfl (by first | exact Or.inl rfl | exact Or.inr rfl)) (pgs_cons (pg_name (i := 3) sc_has.nd rfl (by first | exact Or.inl rfl | exact Or.inr rfl)) pgs_nil))) (pss_one (ps_if (PW.pt (pw_or (pt_cmpR (op_neD hr.units) (pe_call (ok_read T) (hr.mono (by decide)) (by rfl) T.m_read T.F_read.kp (b_read T) .nil pass0 (pa_cons (pe_callI (pv 0) T.cCall ((ok_Curve_call_ T).raw (b_Curve_call_ T) .nil) (hr.mono (by decide)) pass0 (pa_cons (pe_call (ok_amount T) (hr.mono (by decide)) (by rfl) T.m_amount T.F_amount.kp (b_amount T) .nil pass0 (pa_cons (pv 2) pa_nil)) pa_nil)) pa_nil)) (pv 3) (nomark _)) (pw_or1 (pt_cmpR (op_neD hr.units) (pe_call (ok_read T) (hr.mono (by decide)) (by rfl) T.m_read T.F_read.kp (b_read T) .nil pass0 (pa_cons (pe_meth (pv 0) T.cl2 T.mBack (ok_Curveback T) (hr.mono (by decide)) (b_Curveback T) .nil pass0 (pa_cons (pe_call (ok_amount T) (hr.mono (by decide)) (by rfl) T.m_amount T.F_amount.kp (b_amount T) .nil pass0 (pa_cons (pv 3) pa_nil)) pa_nil)) pa_nil)) (pv 2) (nomark _))))) (pss_one (ps_ret pe_bl)) pss_nil)))
 (pss_cons (ps_for PassesOwn.never rfl (pi_listK (K := K) rfl (pe_lst (pa_cons (pe_tup (pa_cons (pe_ix (ix_listK (K := K) rfl) (pv 1) pe_int (fun _ _ => rfl)) (pa_cons (pe_ix (ix_listK (K := K) rfl) (pv 1) pe_int (fun _ _ => rfl)) pa_nil))) (pa_cons (pe_tup (pa_cons (pe_ix (ix_listK (K := K) rfl) (pv 1) (pe_un un_neg pe_int) (fun _ _ => rfl)) (pa_cons (pe_ix (ix_listK (K := K) rfl) (pv 1) (pe_un un_neg pe_int) (fun _ _ => rfl)) pa_nil))) pa_nil)))) (pg_tupK (K := K) (n := 2) rfl rfl (pgs_cons (pg_name (i := 4) sc_has.nd rfl (by first | exact Or.inl rfl | exact Or.inr rfl)) (pgs_cons (pg_name (i := 5) sc_has.nd rfl (by first | exact Or.inl rfl | exact Or.inr rfl)) pgs_nil))) (pss_cons (ps_setLc (i := 6) (own := [("_law_near", 7), ("_law_last", 8)]) rfl sc_has.nd rfl rfl (sw_true rfl rfl rfl (by decide +kernel)) (pi_zipAK (K := K) rfl (by rfl) T.b_zip (pa_cons (pv 4) (pa_cons (pv 5) pa_nil))) (blkOk_by (own := [("_law_near", 7), ("_law_last", 8)]) (N := ["_law_made", "_law_pairs", "_law_x", "_law_y", "_law_one", "_law_other", "_law_far", "_law_near", "_law_last"]) (sc := defScope s_has) (by decide +kernel)) (fun _ _ _ _ _ => (pg_tupK (K := K) (n := 2) rfl rfl (pgs_cons (pg_name (i := 7) sc_has.nd rfl (by first | exact Or.inl rfl | exact Or.inr rfl)) (pgs_cons (pg_name (i := 8) sc_has.nd rfl (by first | exact Or.inl rfl | exact Or.inr rfl)) pgs_nil)))) (fun _ _ _ _ _ => pts_nil) (fun _ _ _ _ _ => (pe_call (ok_minus T) (hr.mono (by decide)) (by rfl) T.m_minus T.F_minus.kp (b_minus T) .nil pass0 (pa_cons (pe_call (ok_minus T) (hr.mono (by decide)) (by rfl) T.m_minus T.F_minus.kp (b_minus T) .nil pass0 (pa_cons (pv 8) (pa_cons (pe_tup (pa_cons (pe_op op_sub pe_int (pe_ix (ix_tupK (K := K) rfl) (pv 8) pe_int (fun _ _ => rfl))) (pa_cons (pe_ix (ix_tupK (K := K) rfl) (pv 8) pe_int (fun _ _ => rfl)) pa_nil))) pa_nil))) (pa_cons (pv 7) pa_nil)))))
 (pss_cons (ps_if (pt_cmpR (op_neD hr.units) (pe_call (ok_read T) (hr.mono (by decide)) (by rfl) T.m_read T.F_read.kp (b_read T) .nil pass0 (pa_cons (pe_callI (pv 0) T.cCall ((ok_Curve_call_ T).raw (b_Curve_call_ T) .nil) (hr.mono (by decide)) pass0 (pa_cons (pe_call (ok_amount T) (hr.mono (by decide)) (by rfl) T.m_amount T.F_amount.kp (b_amount T) .nil pass0 (pa_cons (pe_ix (ix_listK (K := K) rfl) (pv 6) pe_int (fun _ _ => rfl)) pa_nil)) pa_nil)) pa_nil)) (pe_ix (ix_listK (K := K) rfl) (pv 6) pe_int (fun _ _ => rfl)) (nomark _)) (pss_one (ps_ret pe_bl)) pss_nil)
 (pss_one (ps_if (pt_cmpR (op_neD hr.units) (pe_call (ok_read T) (hr.mono (by decide)) (by rfl) T.m_read T.F_read.kp (b_read T) .nil pass0 (pa_cons (pe_meth (pv 0) T.cl2 T.mBack (ok_Curveback T) (hr.mono (by decide)) (b_Curveback T) .nil pass0 (pa_cons (pe_call (ok_amount T) (hr.mono (by decide)) (by rfl) T.m_amount T.F_amount.kp (b_amount T) .nil pass0 (pa_cons (pe_ix (ix_listK (K := K) rfl) (pv 6) pe_int (fun _ _ => rfl)) pa_nil)) pa_nil)) pa_nil)) (pe_ix (ix_listK (K := K) rfl) (pv 6) pe_int (fun _ _ => rfl)) (nomark _)) (pss_one (ps_ret pe_bl)) pss_nil)))))
 (pss_one (ps_ret pe_bl)))), ?_⟩
    obtain ⟨rs, el, pr⟩ := id hl.ex
    have lrs := Paired.len pr
    have l2 := hn.l2
    obtain ⟨dx, lc, ec, _⟩ := id hc.ex
    have shq : ∀ x : Q2, SeqAt.shaped (q2D x) = true := fun _ => rfl
    have dq : ∀ {H' : Hp} {q : Addr} {x : Q2}, FrQ H' q x → Dp K H' (.ref q) (q2D x) := fun h => .tup (SqT.of h) (.cons (.int _) (.cons (.int _) .nil))
    refine ⟨_, rfl, l, rfl, ⟨_, SqL.of el⟩, ?_⟩
    refine for_list (K := K) (a := l) (xs := rs.map V.ref) (fun i σ H' => Same H H' ∧ ∃ u2 u3, σ = [some (.ref c), some (.ref l), u2, u3, none, none, none, none, none])
      ⟨Same.refl _, _, _, rfl⟩ (fun i σ H' _ ⟨s, _⟩ => SqL.of (s _ _ el)) ?_ ?_
    · rintro i v σ H1 hi ⟨s1, u2, u3, rfl⟩
      obtain ⟨r, rfl, hr'⟩ := ref_at hi
      obtain ⟨z, hz, p, q, er, fp, fq⟩ := Paired.at_ pr hr'
      have pz := hn.p z (List.mem_of_getElem? hz)
      refine ⟨r, _, rfl, SqT.of (s1 _ _ er), rfl, _, _, rfl, _, _, rfl, rfl, ?_⟩
      have fp := FrQ.same fp s1
      have fq := FrQ.same fq s1
      have hc1 := hc.same s1
      refine ⟨_, rfl, c, rfl, _, rfl, p, z.1, n, rfl, fp, pz.x, by omega, fun H2 v2 s2 iv => ⟨⟨dx, _, s2 _ _ (s1 _ _ ec)⟩, c, v2, zs, z.1, n, n, rfl, hc1.same s2, hn, iv, pz.x, by omega, fun H3 q3 i3 w w' r3 s3 pc hw hw' ar lr vr => ⟨q3, r3, rfl, ar, fun H4 q4 s4 f4 => ?_⟩⟩⟩
      have S := (s2.trans s3).trans s4
      have e3 := ask_pt (s := 0) (.inl rfl) hn hz pc hw hw' lr vr
      rw [e3] at f4
      refine ⟨_, rfl, _, _, dq f4, dq (FrQ.same fq S), shq _, shq _, _, rfl, ?_⟩
      rw [eqv_q2, decide_eq_true (show sd (1 - 0) z = z.2 from rfl)]
      refine iteF ?_
      refine ⟨_, rfl, c, dx, _, rfl, S _ _ (s1 _ _ ec), cu_no _ (by decide +kernel), _, rfl, q, z.2, n, rfl, FrQ.same fq S, pz.y, by omega, fun H5 v5 s5 iv5 => ⟨c, v5, zs, z.2, n, n, rfl, (hc1.same S).same s5, hn, iv5, pz.y, by omega, fun H6 q6 i6 w w' r6 s6 pc hw hw' ar lr vr => ⟨q6, r6, rfl, ar, fun H7 q7 s7 f7 => ?_⟩⟩⟩
      have S' := ((S.trans s5).trans s6).trans s7
      have e6 := ask_pt (s := 1) (.inr rfl) hn hz pc hw hw' lr vr
      rw [e6] at f7
      refine ⟨_, rfl, _, _, dq f7, dq (FrQ.same fp S'), shq _, shq _, _, rfl, ?_⟩
      rw [eqv_q2, decide_eq_true (show sd (1 - 1) z = z.1 from rfl)]
      exact iteF ⟨s1.trans S', _, _, rfl⟩
    · rintro σ H1 ⟨s1, u2, u3, rfl⟩
      have el := s1 _ _ el
      have pr := Paired.imp pr fun _ _ h => SpR.same h s1
      have hc := hc.same s1
      have ec := s1 _ _ ec
      obtain ⟨z0, h0⟩ : ∃ z, zs[0]? = some z := ⟨_, List.getElem?_eq_getElem (by omega)⟩
      obtain ⟨z1, h1⟩ : ∃ z, zs[1]? = some z := ⟨_, List.getElem?_eq_getElem (by omega)⟩
      obtain ⟨y0, g0⟩ : ∃ z, zs[zs.length - 2]? = some z := ⟨_, List.getElem?_eq_getElem (by omega)⟩
      obtain ⟨y1, g1⟩ : ∃ z, zs[zs.length - 1]? = some z := ⟨_, List.getElem?_eq_getElem (by omega)⟩
      obtain ⟨r0, hr0, w0⟩ := Paired.at_r pr h0
      obtain ⟨r1, hr1, w1⟩ := Paired.at_r pr h1
      obtain ⟨t0, ht0, x0⟩ := Paired.at_r pr g0
      obtain ⟨t1, ht1, x1⟩ := Paired.at_r pr g1
      have a2 : atI (rs.map V.ref) (-2) = some (.ref t0) := by
        rw [atI_last2 (j := zs.length - 2) (by rw [List.length_map]; omega), List.getElem?_map, ht0]
        rfl
      have a1 : atI (rs.map V.ref) (-1) = some (.ref t1) := by
        rw [atI_last (j := zs.length - 1) (by rw [List.length_map]; omega), List.getElem?_map, ht1]
        rfl
      refine ⟨_, rfl, _, _, _, _, rfl, rfl, SqL.of el, at_ref (i := 1) hr1, _, rfl, _, _, _, _, rfl, rfl, SqL.of el, at_ref (i := 0) hr0, sz, fun pa hpa => ?_⟩
      generalize e_Ha : upd _ pa _ = Ha
      obtain ⟨sa, fa⟩ := al3 e_Ha hpa
      clear e_Ha
      (try dsimp only at fa)
      refine ⟨_, rfl, _, rfl, _, _, _, _, rfl, rfl, SqL.of (sa _ _ el), a2, _, rfl, _, rfl, _, _, _, _, rfl, rfl, SqL.of (sa _ _ el), a1, sz, fun pb hpb => ?_⟩
      generalize e_Hb : upd _ pb _ = Hb
      obtain ⟨sb, fb⟩ := al3 e_Hb hpb
      clear e_Hb
      (try dsimp only at fb)
      refine ⟨sz, fun li hli => ?_⟩
      generalize e_Hc : upd _ li _ = Hc
      obtain ⟨sc, fc⟩ := al3 e_Hc hli
      clear e_Hc
      (try dsimp only at fc)
      have S1 := (sa.trans sb).trans sc
      have fa := sc _ _ (sb _ _ fa)
      have fb := sc _ _ fb
      refine ⟨li, rfl, ⟨_, SqL.of fc⟩, ?_⟩
      have each : ∀ (j : Nat) v, ([V.ref pa, V.ref pb] : List V)[j]? = some v → ∃ t ra rb za zb, v = .ref t ∧ Hc t = some (.tup [.ref ra, .ref rb]) ∧ SpR Hc ra za ∧ SpR Hc rb zb ∧ FarOk zs za zb ∧ PtN n za ∧ PtN n zb := by
        intro j v hv
        match j, hv with
        | 0, hv => exact ⟨pa, r1, r0, z1, z0, (Option.some.inj hv).symm, fa, w1.same S1, w0.same S1, far_first hn h0 h1, hn.p _ (List.mem_of_getElem? h1), hn.p _ (List.mem_of_getElem? h0)⟩
        | 1, hv => exact ⟨pb, t0, t1, y0, y1, (Option.some.inj hv).symm, fb, x0.same S1, x1.same S1, far_last hn g0 g1, hn.p _ (List.mem_of_getElem? g0), hn.p _ (List.mem_of_getElem? g1)⟩
        | j + 2, hv => simp at hv
      have hc := hc.same S1
      have ec := S1 _ _ ec
      refine for_list (K := K) (a := li) (xs := [.ref pa, .ref pb]) (fun i σ H' => Same Hc H' ∧ ∃ u4 u5 u6, σ = [some (.ref c), some (.ref l), u2, u3, u4, u5, u6, none, none])
        ⟨Same.refl _, _, _, _, rfl⟩ (fun i σ H' _ ⟨s, _⟩ => SqL.of (s _ _ fc)) ?_ ?_
      · rintro i v σ H2 hi ⟨s2, u4, u5, u6, rfl⟩
        obtain ⟨t, ra, rb, za, zb, rfl, et, wa, wb, fok, pza, pzb⟩ := each i v hi
        obtain ⟨a1', a2', ea, fa1, fa2⟩ := wa.same s2
        obtain ⟨b1', b2', eb, fb1, fb2⟩ := wb.same s2
        refine ⟨t, _, rfl, SqT.of (s2 _ _ et), rfl, _, _, rfl, _, _, rfl, rfl, ?_⟩
        have each2 : ∀ (j : Nat) u w, ([V.ref a1', V.ref a2'] : List V)[j]? = some u → ([V.ref b1', V.ref b2'] : List V)[j]? = some w → ∃ ua wa x y, u = .ref ua ∧ w = .ref wa ∧ FrQ H2 ua x ∧ FrQ H2 wa y ∧ Low n x ∧ Low n y ∧ [farQ za.1 zb.1, farQ za.2 zb.2][j]? = some (farQ x y) ∧ j < 2 := by
          intro j u w hu hw
          match j, hu, hw with
          | 0, hu, hw => exact ⟨a1', b1', _, _, (Option.some.inj hu).symm, (Option.some.inj hw).symm, fa1, fb1, pza.x, pzb.x, rfl, by decide⟩
          | 1, hu, hw => exact ⟨a2', b2', _, _, (Option.some.inj hu).symm, (Option.some.inj hw).symm, fa2, fb2, pza.y, pzb.y, rfl, by decide⟩
          | j + 2, hu, _ => simp at hu
        refine ⟨_, rfl, _, rfl, ra, rb, _, _, rfl, .inr ⟨SqT.of ea, SqT.of eb, fun D hD => ?_⟩⟩
        refine lc_it (walk_zipT (K := K) (a := ra) (b := rb) (xs := [.ref a1', .ref a2']) (ys := [.ref b1', .ref b2']) (n := 2) rfl) (fun j H' => Same H2 H' ∧ ∃ bs : List Addr, H' D = some (.lst (bs.map V.ref)) ∧ Paired (FrQ H') bs ([farQ za.1 zb.1, farQ za.2 zb.2].take j)) ⟨Lb.Same.upd hD, [], upd_same, .nil⟩ (fun i H' _ b => ⟨SqT.of (b.1 _ _ ea), SqT.of (b.1 _ _ eb)⟩) ?_ ?_
        · rintro j v H' H'' hj ⟨s', bs, eD, pb'⟩ ⟨T0, u, w, rfl, hT, rfl, ex, ey⟩
          obtain ⟨ua, wa, x, y, rfl, rfl, fx, fy, lx, ly, hm, hj2⟩ := each2 j u w ex ey
          have sT := Lb.Same.upd (o := .tup [V.ref ua, V.ref wa]) hT
          have S0 := s'.trans sT
          have lb := Paired.len pb'
          rw [List.length_take] at lb
          refine ⟨T0, _, rfl, SqT.of upd_same, rfl, _, _, rfl, _, _, rfl, rfl, rfl, ?_⟩
          have fx := FrQ.same fx S0
          have fy := FrQ.same fy S0
          refine ⟨_, rfl, _, rfl, _, _, _, _, rfl, rfl, SqT.of fy, at0, _, _, rfl, rfl, _, rfl, _, _, _, _, rfl, rfl, SqT.of fy, at1, sz, fun tt htt => ?_⟩
          have st := Lb.Same.upd (o := .tup [V.int (0 - y.1), V.int y.2]) htt
          refine ⟨wa, tt, y, negQ y, n, rfl, fy.same st, upd_same, ly, neg_low ly, by omega, fun Hd q1 sd f1 => ⟨_, rfl, ?_⟩⟩
          refine ⟨q1, ua, minusF y (negQ y), x, 2 * n + 1, rfl, f1, FrQ.same fx (st.trans sd), sub_low ly (neg_low ly) (by omega), lx.mono (by omega), by omega, fun He q2 se f2 => ?_⟩
          have S := ((sT.trans st).trans sd).trans se
          have N : NL He (upd He D (.lst (bs.map V.ref ++ [V.ref q2]))) := NL.upd (S _ _ eD)
          refine ⟨_, S _ _ eD, szlt (by rw [List.length_map]; omega), Lb.Same.updl (s'.trans S) hD, bs ++ [q2], by rw [upd_same, List.map_append]; rfl, ?_⟩
          rw [← take_snoc hm]
          exact paired_snoc (Paired.imp pb' fun _ _ h => (FrQ.same h S).nl N) (FrQ.nl f2 N)
        rintro H3 ⟨s3, bs, eD, pbs⟩
        obtain ⟨q1, q2, rfl, f1, f2⟩ := pair2 pbs
        have b0 : atI ([q1, q2].map V.ref) 0 = some (.ref q1) := at0
        have b1 : atI ([q1, q2].map V.ref) 1 = some (.ref q2) := at1
        have S3 := s2.trans s3
        have lf1 := far_low pza.x pzb.x
        have lf2 := far_low pza.y pzb.y
        refine ⟨_, rfl, c, rfl, _, rfl, _, _, _, _, rfl, rfl, SqL.of eD, b0, q1, _, _, rfl, f1, lf1, by omega, fun H4 v4 s4 iv => ⟨⟨dx, _, s4 _ _ (S3 _ _ ec)⟩, c, v4, zs, _, n, _, rfl, (hc.same S3).same s4, hn, iv, lf1, by omega, fun H5 q5 i5 w w' r5 s5 pc hw hw' ar lr vr => ⟨q5, r5, rfl, ar, fun H6 q6 s6 f6 => ?_⟩⟩⟩
        have S := (s4.trans s5).trans s6
        have e5 := far_eq (s := 0) (.inl rfl) fok pza pzb pc hw hw' lr vr
        rw [e5] at f6
        refine ⟨_, rfl, _, _, _, _, rfl, rfl, SqL.of (S _ _ eD), b1, _, _, dq f6, dq (FrQ.same f2 S), shq _, shq _, _, rfl, ?_⟩
        rw [eqv_q2, decide_eq_true (show farQ (sd (1 - 0) za) (sd (1 - 0) zb) = farQ za.2 zb.2 from rfl)]
        refine iteF ?_
        have eD := S _ _ eD
        have f1 := FrQ.same f1 S
        have f2 := FrQ.same f2 S
        have S6 := S3.trans S
        refine ⟨_, rfl, c, dx, _, rfl, S6 _ _ ec, cu_no _ (by decide +kernel), _, rfl, _, _, _, _, rfl, rfl, SqL.of eD, b1, q2, _, _, rfl, f2, lf2, by omega, fun H7 v7 s7 iv7 => ⟨c, v7, zs, _, n, _, rfl, (hc.same S6).same s7, hn, iv7, lf2, by omega, fun H8 q8 i8 w w' r8 s8 pc hw hw' ar lr vr => ⟨q8, r8, rfl, ar, fun H9 q9 s9 f9 => ?_⟩⟩⟩
        have S' := (s7.trans s8).trans s9
        have e8 := far_eq (s := 1) (.inr rfl) fok pza pzb pc hw hw' lr vr
        rw [e8] at f9
        refine ⟨_, rfl, _, _, _, _, rfl, rfl, SqL.of (S' _ _ eD), b0, _, _, dq f9, dq (FrQ.same f1 S'), shq _, shq _, _, rfl, ?_⟩
        rw [eqv_q2, decide_eq_true (show farQ (sd (1 - 1) za) (sd (1 - 1) zb) = farQ za.1 zb.1 from rfl)]
        exact iteF ⟨S6.trans S', _, _, _, rfl⟩
      · rintro σ H2 ⟨s2, u4, u5, u6, rfl⟩
        exact k _ ((s1.trans S1).trans s2)
end
end K19

set_option Elab.async false
set_option linter.all false
set_option maxRecDepth 100000
set_option maxHeartbeats 4000000
/-! an own class called in a try's body, where its __init__ may raise -/
namespace Lb
open PySem PySem.Spec PyProof.Rows L2
section
variable {X : Cx} {CX : CXT} {k : Nat} {f C : Addr} {fd : FuncData} {ps ks : List Str} {sp : Sp} {dvs : List V} {ds : List Value} {E : L2.St → XK} {x : Str} {p pos : Pos} {e : Expr} {es : List Expr} {kws : List Keyword} {t tk : TA} {g : List Value → List Value → List Value} {gV : List V → List V → List V}
theorem run_makeS {pins : List (Addr × Obj)} {σ : L2.St} {H : Hp} {s : Shared} {Q : VK} {us : List Value} {vs : List V} {E : XK} (M : Mk X.K C f) (F : FnOk X.prog X.w X.K X.mg X.base CX k f fd ps sp) (hr : Room (k + 1) X.A) (hb : Binds X.K fd ps ds) (hd : Vals dvs ds)
    (hx : PassesAt CX X σ E) (I : Inv X pins σ H s) (r : Vals vs us)
    (h : ∀ x dx, H x = none → H dx = none → dx ≠ x → sp (.ref x :: (vs ++ dvs)) (upd (upd H dx (.own x)) x (.ins C dx [])) (fun v H2 => v = .non ∧ Q (.ref x) H2) E) :
    wpAny (model X.prog X.w) X.A (call (.ref C) us) (EP X pins σ Q) X.xe s := by
  have hq := h (s.heap.objs.size + 1) s.heap.objs.size (I.hok.fresh (Nat.le_succ _)) (I.hok.fresh (Nat.le_refl _)) (Nat.ne_of_lt (Nat.lt_succ_self _))
  have I2 := Inv.made (C := C) I
  have r2 : Vals (V.ref (s.heap.objs.size + 1) :: (vs ++ dvs)) (Value.ref (s.heap.objs.size + 1) :: (us ++ ds)) := .cons rfl (r.append hd)
  have hl : (Value.ref (s.heap.objs.size + 1) :: us ++ ds).length = ps.length := by
    have e := r2.length
    rw [F.len _ _ _ _ hq] at e
    exact e.symm
  refine wpAny_call (make_map (f := f) I.kIn M.makes M.init (beq_iff_eq.mp M.fn) (codeAny_mono (F.run _ X.stack _ _ ⟨Value.ref (s.heap.objs.size + 1) :: us, []⟩ (Value.ref (s.heap.objs.size + 1) :: (us ++ ds)) _ _ E (hr.make C us [])
    (I2.env0.make C us []) (hb _ (Value.ref (s.heap.objs.size + 1) :: us) I2.kIn hl) r2 hq) fun r s' hq' => ?_))
  cases r with
  | error e => exact hx pins _ _ e s' I2 hq'
  | ok fl =>
    cases fl with
    | ret u =>
      obtain ⟨v, H', I3, rv, ev, q3⟩ := I2.after hq'
      subst ev
      exact ⟨rv, ⟨V.ref (s.heap.objs.size + 1), H', I3, rfl, q3⟩⟩
    | next => exact False.elim hq'
    | brk => exact False.elim hq'
    | cont => exact False.elim hq'
def tMakeS (C : Addr) (sp : Sp) (dvs : List V) (E : L2.St → XK) (t : TA) : TE := fun σ H Q => tMake C sp dvs (E σ) t σ H Q
theorem pe_makeS (M : Mk X.K C f) (F : FnOk X.prog X.w X.K X.mg X.base CX k f fd ps sp) (hr : Room (k + 1) X.A) (hg : Gl X x) (hm : X.mg x = some (.ref C)) (hb : Binds X.K fd ps ds) (hd : Vals dvs ds) (hx : ∀ σ, PassesAt CX X σ (E σ))
    (ha : PA X (e :: es) t) (hdb : (x == ("__debug__" : Str)) = false := by decide) (he : starEach (e :: es) X.env = (false, eval e X.env) :: starEach es X.env := by rfl) (hpl : (backTo pos (starEach es X.env)).any (·.1) = false := by rfl) :
    PE X (.Call (.Name x p) (e :: es) [] pos) (tMakeS C sp dvs E t) := by
  refine ⟨fun pins s σ H Q I h => ?_⟩
  refine wpAny_Call_Name_kw (ld_glob I hg hm ?_ hdb)
  refine PySem.W.callWith_K (h₀ := X.base) I.ok.mod.kin M.kp (thn (ha.run pos pins s σ H _ I h) fun us s1 ⟨vs, H1, I1, r, q⟩ => ⟨I1.kIn, ?_⟩) he hpl
  exact run_makeS M F hr hb hd (hx σ) I1 r q
theorem run_makeKS {n : Nat} {pins : List (Addr × Obj)} {σ : L2.St} {H : Hp} {s : Shared} {Q : VK} {us ws : List Value} {vs zs : List V} {E : XK} (M : Mk X.K C f) (F : FnOk X.prog X.w X.K X.mg X.base CX k f fd ps sp) (hr : Room (k + 1) X.A) (hb : KBn X.K fd ps (n + 1) ks g gV) (hx : PassesAt CX X σ E)
    (I : Inv X pins σ H s) (r : Vals vs us) (rz : Vals zs ws) (l1 : vs.length = n) (l2 : zs.length = ks.length)
    (h : ∀ x dx, H x = none → H dx = none → dx ≠ x → sp (gV (.ref x :: vs) zs) (upd (upd H dx (.own x)) x (.ins C dx [])) (fun v H2 => v = .non ∧ Q (.ref x) H2) E) :
    wpAny (model X.prog X.w) X.A (call (.ref C) us (ks.zip ws)) (EP X pins σ Q) X.xe s := by
  have hq := h (s.heap.objs.size + 1) s.heap.objs.size (I.hok.fresh (Nat.le_succ _)) (I.hok.fresh (Nat.le_refl _)) (Nat.ne_of_lt (Nat.lt_succ_self _))
  have I2 := Inv.made (C := C) I
  have r1 : Vals (V.ref (s.heap.objs.size + 1) :: vs) (Value.ref (s.heap.objs.size + 1) :: us) := .cons rfl r
  have r2 := hb.rel r1 rz
  have n1 : (Value.ref (s.heap.objs.size + 1) :: us).length = n + 1 := by
    rw [List.length_cons, ← r.length, l1]
  refine wpAny_call (make_map (f := f) I.kIn M.makes M.init (beq_iff_eq.mp M.fn) (codeAny_mono (F.run _ X.stack _ _ ⟨Value.ref (s.heap.objs.size + 1) :: us, ks.zip ws⟩ (g (Value.ref (s.heap.objs.size + 1) :: us) ws) _ _ E (hr.make C us (ks.zip ws))
    (I2.env0.make C us (ks.zip ws)) (hb.to _ (Value.ref (s.heap.objs.size + 1) :: us) ws I2.kIn n1 (rz.length.symm.trans l2)) r2 hq) fun r s' hq' => ?_))
  cases r with
  | error e => exact hx pins _ _ e s' I2 hq'
  | ok fl =>
    cases fl with
    | ret u =>
      obtain ⟨v, H', I3, rv, ev, q3⟩ := I2.after hq'
      subst ev
      exact ⟨rv, ⟨V.ref (s.heap.objs.size + 1), H', I3, rfl, q3⟩⟩
    | next => exact False.elim hq'
    | brk => exact False.elim hq'
    | cont => exact False.elim hq'
def tMakeKS (C : Addr) (m : Nat) (sp : Sp) (gV : List V → List V → List V) (E : L2.St → XK) (tk : TA) : TE := fun σ H Q => tMakeK C 0 m sp gV (E σ) tNil tk σ H Q
theorem pe_makeKS (M : Mk X.K C f) (F : FnOk X.prog X.w X.K X.mg X.base CX k f fd ps sp) (hr : Room (k + 1) X.A) (hg : Gl X x) (hm : X.mg x = some (.ref C)) (hb : KBn X.K fd ps 1 ks g gV) (hx : ∀ σ, PassesAt CX X σ (E σ)) (hkw : PK X kws tk)
    (hall : (backToKw pos (keywordEach kws X.env)).all (·.1.isSome) = true := by rfl) (hks : (backToKw pos (keywordEach kws X.env)).filterMap (·.1) = ks := by rfl) (hdb : (x == ("__debug__" : Str)) = false := by decide)
    (hpl : ((backTo pos (starEach [] X.env)).any (·.1) || (backToKw pos (keywordEach kws X.env)).any (·.1.isNone)) = false := by rfl) :
    PE X (.Call (.Name x p) [] kws pos) (tMakeKS C ks.length sp gV E tk) := by
  refine ⟨fun pins s σ H Q I h => ?_⟩
  refine wpAny_Call_Name_kw (ld_glob I hg hm ?_ hdb)
  refine PySem.W.callWith_KW0 (h₀ := X.base) I.ok.mod.kin M.kp hall ?_ hpl
  refine thn (hkw.run pos pins s σ H _ I h) fun ws s2 ⟨zs, H2, I2, rz, l1, l2, q2⟩ => ⟨I2.kIn, ?_⟩
  rw [hks]
  exact run_makeKS (us := []) (vs := []) M F hr hb (hx σ) I2 .nil rz rfl l2 q2
end
end Lb

set_option Elab.async false
set_option linter.all false
set_option maxRecDepth 100000
set_option maxHeartbeats 4000000
set_option exponentiation.threshold 10000
namespace K19
open PySem L2 Lb
theorem kb_Curve_init_ {K : PySem.W.Frag} {mg : Str → Option Value} {a : Ad} (T : Txt K mg a) : KBn K a.d_Curve_init_ ["self", "points"] 1 ["points"] (fun us ws => us ++ ws) (fun vs zs => vs ++ zs) :=
  kbn_of T.F_Curve_init_ fun _ _ _ _ _ _ us ws h1 h2 => match us, ws, h1, h2 with | [_], [_], _, _ => rfl
theorem seq_of {C p : Addr} {H : Hp} {d : Dt} {v : V} {zs : List Pt} (h : At C p H d v) (e : (elems d).map pairOf = zs.map some) (l : isLT d = true) : ∃ lp ws, v = .ref lp ∧ (H lp = some (.lst ws) ∨ H lp = some (.tup ws)) ∧ Paired (PtP C H) ws zs := by
  cases d with
  | ls m =>
    simp only [At] at h
    obtain ⟨q, xs, rfl, e1, _, ha⟩ := h
    exact ⟨q, xs, rfl, .inl e1, ptps_of ha e⟩
  | tp m =>
    simp only [At] at h
    obtain ⟨q, xs, rfl, e1, ha⟩ := h
    exact ⟨q, xs, rfl, .inr e1, ptps_of ha e⟩
  | _ => cases l
def sp_told (C : Addr) : Sp := fun vs H Q _ => ∃ p v d n b, vs = [v, .bl b] ∧ H p ≠ none ∧ At C p H d v ∧ GoodD n d ∧ n ≤ 150 ∧ ∀ H' q, Same H H' → At C p H' (dueD d) (.ref q) → Q (.ref q) H'
section
variable {P : Program} {w : World} {K : PySem.W.Frag} {mg : Str → Option Value} {base : Heap} {a : Ad}
theorem ok_Curve_init_B (T : Txt K mg a) : FnOk P w K mg base (L2.CX P w) 8 a.f_Curve_init_ a.d_Curve_init_ ["self", "points"] (fun vs H Q E => sp_Curve_init_ a.c_Amount a.c_Curve vs H Q E ∨ sp_Curve_init_X a.c_Amount a.c_Curve a.c_InvalidPoints a.c_TooMany vs H Q E) :=
  FnOk.either (FnOk.up (ok_Curve_init_ T)) (ok_Curve_init_X T)
theorem ok_told (T : Txt K mg a) : FnOk P w K mg base CX0 10 a.f_told a.d_told ["_law_value", "_law_is_named"] (sp_told a.c_Amount) := by
  refine T.F_told.ok sc_told (fun vs H Q E h => ?_) (fun cdv A outer s H vs Q E hr h => ?_)
  · obtain ⟨p, v, d, n, b, rfl, _⟩ := h
    rfl
  · obtain ⟨p, v, d, n, b, rfl, hp, hd, gd, hn, k⟩ := h
    refine ⟨_, (pss_cons (ps_set (i := 2) sc_told.nd rfl (by first | exact Or.inl rfl | exact Or.inr rfl) (pe_lst (pa_cons pe_str pa_nil)))
 (pss_cons (ps_try_named  rfl rfl sc_told.nd takes_none5 (fun W pn xe tk _ => (pss_cons (ps_set (i := 3) sc_told.nd rfl (by first | exact Or.inl rfl | exact Or.inr rfl) (pe_ifExp (pt_val (pv 1)) (pe_makeKS T.mkC (ok_Curve_init_B T) (hr.mono (by decide)) (by rfl) T.mC (kb_Curve_init_ T) (fun σ => passAt tk σ) (pk_cons (pv 0) pk_nil)) (pe_makeS T.mkC (ok_Curve_init_B T) (hr.mono (by decide)) (by rfl) T.mC (b_Curve_init_ T) .nil (fun σ => passAt tk σ) (pa_cons (pv 0) pa_nil))))
 (pss_cons (ps_setLc (i := 4) (own := [("_law_pair_here", 6)]) rfl sc_told.nd rfl rfl (sw_true rfl rfl rfl (by decide +kernel)) (pi_listK (K := K) rfl (pe_meth0 (pv 3) T.cl2 T.mPts (ok_Curvepoints T) (hr.mono (by decide)) (b_Curvepoints T) .nil pass0)) (blkOk_by (own := [("_law_pair_here", 6)]) (N := ["_law_value", "_law_is_named", "_law_told_here", "_law_made", "_law_pairs", "_law_part_here", "_law_pair_here", "e"]) (sc := defScope s_told) (by decide +kernel)) (fun _ _ _ _ _ => (pg_name (i := 6) sc_told.nd rfl (by first | exact Or.inl rfl | exact Or.inr rfl))) (fun _ _ _ _ _ => pts_nil) (fun _ _ _ _ _ => (pe_callTy (call_tuple_ofK (K := K) rfl) (by rfl) T.b_tuple (by decide +kernel) (pa_cons (pe_lc (own := [("_law_part_here", 5)]) (by rfl) sc_told.nd (pi_tupK (K := K) rfl (pv 6)) (blkOk_any (own := [("_law_part_here", 5)]) (N := ["_law_value", "_law_is_named", "_law_told_here", "_law_made", "_law_pairs", "_law_part_here", "_law_pair_here", "e"]) (by decide +kernel)) (fun _ _ _ _ _ => (pg_name (i := 5) sc_told.nd rfl (by first | exact Or.inl rfl | exact Or.inr rfl))) (fun _ _ _ _ _ => pts_nil) (fun _ _ _ _ _ => (pe_call (ok_read T) (hr.mono (by decide)) (by rfl) T.m_read T.F_read.kp (b_read T) .nil pass0 (pa_cons (pv 5) pa_nil)))) pa_nil))))
 (pss_one (ps_set (i := 2) sc_told.nd rfl (by first | exact Or.inl rfl | exact Or.inr rfl) (pe_ifExp (pt_val (pe_call (ok_has T) (hr.mono (by decide)) (by rfl) T.m_has T.F_has.kp (b_has T) .nil pass0 (pa_cons (pv 3) (pa_cons (pv 4) pa_nil)))) (pe_lst (pa_cons pe_str (pa_cons (pv 4) pa_nil))) (pe_lst (pa_cons pe_str (pa_cons (pv 4) pa_nil))))))))) (.cons (i := 7) ⟨rfl, by decide, .inl T.xInvalidPoints.mC⟩ rfl rfl (fun e oe k dd pn hz hf => (pss_one (ps_set (i := 2) sc_told.nd rfl (by first | exact Or.inl rfl | exact Or.inr rfl) (pe_ifExp (pt_val (pe_callB (call_isX T.eInvalidPoints hz hf) (by rfl) T.b_isinstance (by decide +kernel) (pa_cons (pv 7) (pa_cons (pe_glob (v := .ref a.c_PipeError) rfl T.mP rfl) pa_nil)))) (pe_lst (pa_cons pe_str (pa_cons (pe_xf T.xInvalidPoints.xf T.nInvalidPoints hz hf (pv 7)) pa_nil))) (pv 2))))) (.cons (i := 7) ⟨rfl, by decide, .inl T.xTooMany.mC⟩ rfl rfl (fun e oe k dd pn hz hf => (pss_one (ps_set (i := 2) sc_told.nd rfl (by first | exact Or.inl rfl | exact Or.inr rfl) (pe_ifExp (pt_val (pe_callB (call_isX T.eTooMany hz hf) (by rfl) T.b_isinstance (by decide +kernel) (pa_cons (pv 7) (pa_cons (pe_glob (v := .ref a.c_LimitError) rfl T.mL rfl) pa_nil)))) (pe_lst (pa_cons pe_str (pa_cons (pe_xf T.xTooMany.xf T.nTooMany hz hf (pv 7)) (pa_cons (pe_xf T.xTooMany.xf T.n2TooMany hz hf (pv 7)) pa_nil)))) (pv 2))))) .nil)))
 (pss_one (ps_ret (pv 2))))), ?_⟩
    refine ⟨sz, fun l0 hl0 => ?_⟩
    generalize e_H1 : upd _ l0 _ = H1
    obtain ⟨s1, e1⟩ := al3 e_H1 hl0
    clear e_H1
    (try dsimp only at e1)
    refine ⟨_, rfl, b, rfl, ?_⟩
    have nep : ∀ {q : Addr} {G : Hp}, Same H G → G q = none → q ≠ p := fun {q G} s e z => by
      cases hh : H p with
      | none => exact hp hh
      | some o => have := s _ _ hh; rw [← z, e] at this; cases this
    rcases b with _ | _
    · refine iteF ?_
      refine ⟨_, rfl, fun x dx hx hdx ne => ?_⟩
      have sm : Same H1 (upd (upd H1 dx (.own x)) x (.ins a.c_Curve dx [])) := made_same hx hdx
      have Sm := s1.trans sm
      have hdm := At.same Sm _ _ hd
      have em : (upd (upd H1 dx (.own x)) x (.ins a.c_Curve dx [])) x = some (.ins a.c_Curve dx []) := upd_same
      generalize upd (upd H1 dx (.own x)) x (.ins a.c_Curve dx []) = H2 at *
      cases hvd : vd d with
      | nil =>
        refine .inr ⟨x, dx, p, v, d, n, rfl, em, hdm, gd, ?_⟩
        unfold Refu
        rw [hvd]
        intro H3 dd s3 nd hdd
        refine ⟨true, T.xInvalidPoints.te, fun q => Bool.noConfusion q, fun _ e he => ?_⟩
        refine ⟨_, rfl, _, _, true, dd, _, rfl, rfl, rfl, hdd, (fun v r => (ClsV.own _).eq r), T.kInvalidPoints, true, rfl, iteT ?_⟩
        refine ⟨_, rfl, rfl, rfl, dd, _, .non, rfl, hdd, rfl, sz, fun l hl => ?_⟩
        have S := (Sm.trans s3).trans (Lb.Same.upd (o := .lst [V.str "points", V.non]) hl)
        refine ⟨_, rfl, k _ l S ?_⟩
        rw [show dueD d = .ls [.str "points", .non] by unfold dueD; rw [hvd]]
        simp only [At]
        exact ⟨l, _, rfl, upd_same, nep (Sm.trans s3) hl, ats_cons (by simp only [At]) (ats_cons (by simp only [At]) ats_nil)⟩
      | at_ i =>
        refine .inr ⟨x, dx, p, v, d, n, rfl, em, hdm, gd, ?_⟩
        unfold Refu
        rw [hvd]
        intro H3 dd s3 nd hdd
        refine ⟨true, T.xInvalidPoints.te, fun q => Bool.noConfusion q, fun _ e he => ?_⟩
        refine ⟨_, rfl, _, _, true, dd, _, rfl, rfl, rfl, hdd, (fun v r => (ClsV.own _).eq r), T.kInvalidPoints, true, rfl, iteT ?_⟩
        refine ⟨_, rfl, rfl, rfl, dd, _, .int i, rfl, hdd, rfl, sz, fun l hl => ?_⟩
        have S := (Sm.trans s3).trans (Lb.Same.upd (o := .lst [V.str "points", V.int i]) hl)
        refine ⟨_, rfl, k _ l S ?_⟩
        rw [show dueD d = .ls [.str "points", .int i] by unfold dueD; rw [hvd]]
        simp only [At]
        exact ⟨l, _, rfl, upd_same, nep (Sm.trans s3) hl, ats_cons (by simp only [At]) (ats_cons (by simp only [At]) ats_nil)⟩
      | many =>
        refine .inr ⟨x, dx, p, v, d, n, rfl, em, hdm, gd, ?_⟩
        unfold Refu
        rw [hvd]
        intro H3 dd s3 nd hdd
        refine ⟨false, T.xx1, fun _ => ⟨true, T.xTooMany.te, fun q => Bool.noConfusion q, fun _ e he => ?_⟩, fun q => Bool.noConfusion q⟩
        refine ⟨_, rfl, _, _, true, dd, _, rfl, rfl, rfl, hdd, (fun v r => (ClsV.own _).eq r), T.kTooMany, true, rfl, iteT ?_⟩
        refine ⟨_, rfl, rfl, rfl, dd, _, .str "points", rfl, hdd, rfl, ?_⟩
        refine ⟨_, rfl, rfl, rfl, dd, _, .int 80, rfl, hdd, rfl, sz, fun l hl => ?_⟩
        have S := (Sm.trans s3).trans (Lb.Same.upd (o := .lst [V.str "many", V.str "points", V.int 80]) hl)
        refine ⟨_, rfl, k _ l S ?_⟩
        rw [show dueD d = .ls [.str "many", .str "points", .int 80] by unfold dueD; rw [hvd]]
        simp only [At]
        exact ⟨l, _, rfl, upd_same, nep (Sm.trans s3) hl, ats_cons (by simp only [At]) (ats_cons (by simp only [At]) (ats_cons (by simp only [At]) ats_nil))⟩
      | made zs =>
        obtain ⟨ep, pts, hlt⟩ := pts_made gd hvd
        have cn := cuN_withO pts
        obtain ⟨lp, ws, rfl, ews, pws⟩ := seq_of hdm ep hlt
        refine .inl ⟨x, dx, lp, ws, zs, n, rfl, ews, pws, pts, em, fun H3 l3 k3 n3 cr e3 => ⟨rfl, ?_⟩⟩
        have S3 : Same H H3 := fun y o hy => k3 y o (ne_of_none (s1 _ _ hy) hx) (Sm _ _ hy)
        have hc : Cu a.c_Amount a.c_Curve H3 x (withO zs) := ⟨dx, l3, e3, cr⟩
        have l200 := cn.l200
        -- the points
        refine ⟨_, rfl, x, dx, _, rfl, e3, cu_no _ (by decide +kernel), x, withO zs, rfl, hc, l200, fun H4 li s4 hli cr4 => ⟨_, rfl, ?_⟩⟩
        obtain ⟨ls, eli, pl⟩ := id cr4.ex
        have lls := Paired.len pl
        refine ⟨⟨_, SqL.of eli⟩, fun D3 hD3 => ?_⟩
        refine lc_list (K := K) (a := li) (xs := ls.map V.ref) (fun i H' => Same H4 H' ∧ ∃ as : List Addr, H' D3 = some (.lst (as.map V.ref)) ∧ Paired (SpR H') as ((withO zs).take i)) ⟨Lb.Same.upd hD3, [], upd_same, .nil⟩ (fun i H' _ b => SqL.of (b.1 _ _ eli)) ?_ ?_
        · rintro i v H' hi ⟨s', as, eD, pa⟩
          obtain ⟨r, rfl, hr'⟩ := ref_at hi
          obtain ⟨z, hz, q1, q2, er, a1, a2⟩ := Paired.at_ pl hr'
          have er' := s' _ _ er
          refine ⟨rfl, _, rfl, r, rfl, ⟨_, SqT.of er'⟩, fun D4 hD4 => ?_⟩
          refine lc_tup (K := K) (a := r) (xs := [.ref q1, .ref q2]) (fun j H'' => Same H' H'' ∧ ∃ as' : List Addr, H'' D4 = some (.lst (as'.map V.ref)) ∧ Paired (FrQ H'') as' ([z.1, z.2].take j)) ⟨Lb.Same.upd hD4, [], upd_same, .nil⟩ (fun i H' _ b => SqT.of (b.1 _ _ er')) ?_ ?_
          · rintro j v H'' hj ⟨s'', as', eD', pa'⟩
            obtain ⟨q, x, rfl, am, hx, hj2⟩ : ∃ q x, v = .ref q ∧ AmQ a.c_Amount H4 q x ∧ [z.1, z.2][j]? = some x ∧ j < 2 := by
              match j, hj with
              | 0, hj => exact ⟨q1, z.1, (Option.some.inj hj).symm, a1, rfl, by decide⟩
              | 1, hj => exact ⟨q2, z.2, (Option.some.inj hj).symm, a2, rfl, by decide⟩
              | j + 2, hj => simp at hj
            refine ⟨rfl, _, rfl, q, x, rfl, (AmQ.same am s').same s'', fun Ha t sa ft => ?_⟩
            have la := Paired.len pa'
            rw [List.length_take] at la
            have N : NL Ha (upd Ha D4 (.lst (as'.map V.ref ++ [V.ref t]))) := NL.upd (sa _ _ eD')
            refine ⟨_, sa _ _ eD', szlt (by rw [List.length_map]; omega), Lb.Same.updl (s''.trans sa) hD4, as' ++ [t], by rw [upd_same, List.map_append]; rfl, ?_⟩
            rw [← take_snoc hx]
            exact paired_snoc (Paired.imp pa' fun _ _ h => (FrQ.same h sa).nl N) (FrQ.nl ft N)
          rintro Hb ⟨sb, as', eD4, pa'⟩
          obtain ⟨t1, t2, rfl, f1, f2⟩ := pair2 pa'
          refine ⟨D4, _, rfl, .inl ⟨SqL.of eD4, fun t ht => ?_⟩⟩
          generalize e_Hc : upd _ t _ = Hc
          obtain ⟨sc, ec_⟩ := al3 e_Hc ht
          clear e_Hc
          (try dsimp only at ec_)
          have S := sb.trans sc
          have la := Paired.len pa
          rw [List.length_take] at la
          have N : NL Hc (upd Hc D3 (.lst (as.map V.ref ++ [V.ref t]))) := NL.upd (S _ _ eD)
          refine ⟨_, S _ _ eD, szlt (by rw [List.length_map]; omega), Lb.Same.updl (s'.trans S) hD3, as ++ [t], by rw [upd_same, List.map_append]; rfl, ?_⟩
          rw [← take_snoc hz]
          exact paired_snoc (Paired.imp pa fun _ _ h => (SpR.same h S).nl N) (SpR.nl ⟨t1, t2, ec_, FrQ.same f1 sc, FrQ.same f2 sc⟩ N)
        rintro H7 ⟨s7, as3, eD3, pa3⟩
        rw [show (ls.map V.ref).length = (withO zs).length by rw [List.length_map, lls], List.take_length] at pa3
        have S47 := s4.trans s7
        refine ⟨_, rfl, _, rfl, x, D3, withO zs, n + 1, rfl, hc.same S47, cn, by omega, ⟨as3, eD3, pa3⟩, fun H8 s8 => ⟨true, rfl, iteT ?_⟩⟩
        refine ⟨_, rfl, sz, fun l hl => ?_⟩
        have S8 := (S3.trans S47).trans s8
        have su := Lb.Same.upd (o := .lst [V.str "made", V.ref D3]) hl
        refine ⟨_, rfl, k _ l (S8.trans su) ?_⟩
        rw [show dueD d = .ls [.str "made", .ls ((withO zs).map ptDt)] by unfold dueD; rw [hvd]]
        simp only [At]
        refine ⟨l, _, rfl, upd_same, nep S8 hl, ats_cons (by simp only [At]) (ats_cons ?_ ats_nil)⟩
        simp only [At]
        exact ⟨D3, as3.map V.ref, rfl, su _ _ (s8 _ _ eD3), nep (S3.trans s4) hD3, sprs_at (Paired.imp pa3 fun _ _ h => (SpR.same h s8).same su)⟩
    · refine iteT ?_
      refine ⟨_, rfl, rfl, rfl, fun x dx hx hdx ne => ?_⟩
      have sm : Same H1 (upd (upd H1 dx (.own x)) x (.ins a.c_Curve dx [])) := made_same hx hdx
      have Sm := s1.trans sm
      have hdm := At.same Sm _ _ hd
      have em : (upd (upd H1 dx (.own x)) x (.ins a.c_Curve dx [])) x = some (.ins a.c_Curve dx []) := upd_same
      generalize upd (upd H1 dx (.own x)) x (.ins a.c_Curve dx []) = H2 at *
      cases hvd : vd d with
      | nil =>
        refine .inr ⟨x, dx, p, v, d, n, rfl, em, hdm, gd, ?_⟩
        unfold Refu
        rw [hvd]
        intro H3 dd s3 nd hdd
        refine ⟨true, T.xInvalidPoints.te, fun q => Bool.noConfusion q, fun _ e he => ?_⟩
        refine ⟨_, rfl, _, _, true, dd, _, rfl, rfl, rfl, hdd, (fun v r => (ClsV.own _).eq r), T.kInvalidPoints, true, rfl, iteT ?_⟩
        refine ⟨_, rfl, rfl, rfl, dd, _, .non, rfl, hdd, rfl, sz, fun l hl => ?_⟩
        have S := (Sm.trans s3).trans (Lb.Same.upd (o := .lst [V.str "points", V.non]) hl)
        refine ⟨_, rfl, k _ l S ?_⟩
        rw [show dueD d = .ls [.str "points", .non] by unfold dueD; rw [hvd]]
        simp only [At]
        exact ⟨l, _, rfl, upd_same, nep (Sm.trans s3) hl, ats_cons (by simp only [At]) (ats_cons (by simp only [At]) ats_nil)⟩
      | at_ i =>
        refine .inr ⟨x, dx, p, v, d, n, rfl, em, hdm, gd, ?_⟩
        unfold Refu
        rw [hvd]
        intro H3 dd s3 nd hdd
        refine ⟨true, T.xInvalidPoints.te, fun q => Bool.noConfusion q, fun _ e he => ?_⟩
        refine ⟨_, rfl, _, _, true, dd, _, rfl, rfl, rfl, hdd, (fun v r => (ClsV.own _).eq r), T.kInvalidPoints, true, rfl, iteT ?_⟩
        refine ⟨_, rfl, rfl, rfl, dd, _, .int i, rfl, hdd, rfl, sz, fun l hl => ?_⟩
        have S := (Sm.trans s3).trans (Lb.Same.upd (o := .lst [V.str "points", V.int i]) hl)
        refine ⟨_, rfl, k _ l S ?_⟩
        rw [show dueD d = .ls [.str "points", .int i] by unfold dueD; rw [hvd]]
        simp only [At]
        exact ⟨l, _, rfl, upd_same, nep (Sm.trans s3) hl, ats_cons (by simp only [At]) (ats_cons (by simp only [At]) ats_nil)⟩
      | many =>
        refine .inr ⟨x, dx, p, v, d, n, rfl, em, hdm, gd, ?_⟩
        unfold Refu
        rw [hvd]
        intro H3 dd s3 nd hdd
        refine ⟨false, T.xx1, fun _ => ⟨true, T.xTooMany.te, fun q => Bool.noConfusion q, fun _ e he => ?_⟩, fun q => Bool.noConfusion q⟩
        refine ⟨_, rfl, _, _, true, dd, _, rfl, rfl, rfl, hdd, (fun v r => (ClsV.own _).eq r), T.kTooMany, true, rfl, iteT ?_⟩
        refine ⟨_, rfl, rfl, rfl, dd, _, .str "points", rfl, hdd, rfl, ?_⟩
        refine ⟨_, rfl, rfl, rfl, dd, _, .int 80, rfl, hdd, rfl, sz, fun l hl => ?_⟩
        have S := (Sm.trans s3).trans (Lb.Same.upd (o := .lst [V.str "many", V.str "points", V.int 80]) hl)
        refine ⟨_, rfl, k _ l S ?_⟩
        rw [show dueD d = .ls [.str "many", .str "points", .int 80] by unfold dueD; rw [hvd]]
        simp only [At]
        exact ⟨l, _, rfl, upd_same, nep (Sm.trans s3) hl, ats_cons (by simp only [At]) (ats_cons (by simp only [At]) (ats_cons (by simp only [At]) ats_nil))⟩
      | made zs =>
        obtain ⟨ep, pts, hlt⟩ := pts_made gd hvd
        have cn := cuN_withO pts
        obtain ⟨lp, ws, rfl, ews, pws⟩ := seq_of hdm ep hlt
        refine .inl ⟨x, dx, lp, ws, zs, n, rfl, ews, pws, pts, em, fun H3 l3 k3 n3 cr e3 => ⟨rfl, ?_⟩⟩
        have S3 : Same H H3 := fun y o hy => k3 y o (ne_of_none (s1 _ _ hy) hx) (Sm _ _ hy)
        have hc : Cu a.c_Amount a.c_Curve H3 x (withO zs) := ⟨dx, l3, e3, cr⟩
        have l200 := cn.l200
        -- the points
        refine ⟨_, rfl, x, dx, _, rfl, e3, cu_no _ (by decide +kernel), x, withO zs, rfl, hc, l200, fun H4 li s4 hli cr4 => ⟨_, rfl, ?_⟩⟩
        obtain ⟨ls, eli, pl⟩ := id cr4.ex
        have lls := Paired.len pl
        refine ⟨⟨_, SqL.of eli⟩, fun D3 hD3 => ?_⟩
        refine lc_list (K := K) (a := li) (xs := ls.map V.ref) (fun i H' => Same H4 H' ∧ ∃ as : List Addr, H' D3 = some (.lst (as.map V.ref)) ∧ Paired (SpR H') as ((withO zs).take i)) ⟨Lb.Same.upd hD3, [], upd_same, .nil⟩ (fun i H' _ b => SqL.of (b.1 _ _ eli)) ?_ ?_
        · rintro i v H' hi ⟨s', as, eD, pa⟩
          obtain ⟨r, rfl, hr'⟩ := ref_at hi
          obtain ⟨z, hz, q1, q2, er, a1, a2⟩ := Paired.at_ pl hr'
          have er' := s' _ _ er
          refine ⟨rfl, _, rfl, r, rfl, ⟨_, SqT.of er'⟩, fun D4 hD4 => ?_⟩
          refine lc_tup (K := K) (a := r) (xs := [.ref q1, .ref q2]) (fun j H'' => Same H' H'' ∧ ∃ as' : List Addr, H'' D4 = some (.lst (as'.map V.ref)) ∧ Paired (FrQ H'') as' ([z.1, z.2].take j)) ⟨Lb.Same.upd hD4, [], upd_same, .nil⟩ (fun i H' _ b => SqT.of (b.1 _ _ er')) ?_ ?_
          · rintro j v H'' hj ⟨s'', as', eD', pa'⟩
            obtain ⟨q, x, rfl, am, hx, hj2⟩ : ∃ q x, v = .ref q ∧ AmQ a.c_Amount H4 q x ∧ [z.1, z.2][j]? = some x ∧ j < 2 := by
              match j, hj with
              | 0, hj => exact ⟨q1, z.1, (Option.some.inj hj).symm, a1, rfl, by decide⟩
              | 1, hj => exact ⟨q2, z.2, (Option.some.inj hj).symm, a2, rfl, by decide⟩
              | j + 2, hj => simp at hj
            refine ⟨rfl, _, rfl, q, x, rfl, (AmQ.same am s').same s'', fun Ha t sa ft => ?_⟩
            have la := Paired.len pa'
            rw [List.length_take] at la
            have N : NL Ha (upd Ha D4 (.lst (as'.map V.ref ++ [V.ref t]))) := NL.upd (sa _ _ eD')
            refine ⟨_, sa _ _ eD', szlt (by rw [List.length_map]; omega), Lb.Same.updl (s''.trans sa) hD4, as' ++ [t], by rw [upd_same, List.map_append]; rfl, ?_⟩
            rw [← take_snoc hx]
            exact paired_snoc (Paired.imp pa' fun _ _ h => (FrQ.same h sa).nl N) (FrQ.nl ft N)
          rintro Hb ⟨sb, as', eD4, pa'⟩
          obtain ⟨t1, t2, rfl, f1, f2⟩ := pair2 pa'
          refine ⟨D4, _, rfl, .inl ⟨SqL.of eD4, fun t ht => ?_⟩⟩
          generalize e_Hc : upd _ t _ = Hc
          obtain ⟨sc, ec_⟩ := al3 e_Hc ht
          clear e_Hc
          (try dsimp only at ec_)
          have S := sb.trans sc
          have la := Paired.len pa
          rw [List.length_take] at la
          have N : NL Hc (upd Hc D3 (.lst (as.map V.ref ++ [V.ref t]))) := NL.upd (S _ _ eD)
          refine ⟨_, S _ _ eD, szlt (by rw [List.length_map]; omega), Lb.Same.updl (s'.trans S) hD3, as ++ [t], by rw [upd_same, List.map_append]; rfl, ?_⟩
          rw [← take_snoc hz]
          exact paired_snoc (Paired.imp pa fun _ _ h => (SpR.same h S).nl N) (SpR.nl ⟨t1, t2, ec_, FrQ.same f1 sc, FrQ.same f2 sc⟩ N)
        rintro H7 ⟨s7, as3, eD3, pa3⟩
        rw [show (ls.map V.ref).length = (withO zs).length by rw [List.length_map, lls], List.take_length] at pa3
        have S47 := s4.trans s7
        refine ⟨_, rfl, _, rfl, x, D3, withO zs, n + 1, rfl, hc.same S47, cn, by omega, ⟨as3, eD3, pa3⟩, fun H8 s8 => ⟨true, rfl, iteT ?_⟩⟩
        refine ⟨_, rfl, sz, fun l hl => ?_⟩
        have S8 := (S3.trans S47).trans s8
        have su := Lb.Same.upd (o := .lst [V.str "made", V.ref D3]) hl
        refine ⟨_, rfl, k _ l (S8.trans su) ?_⟩
        rw [show dueD d = .ls [.str "made", .ls ((withO zs).map ptDt)] by unfold dueD; rw [hvd]]
        simp only [At]
        refine ⟨l, _, rfl, upd_same, nep S8 hl, ats_cons (by simp only [At]) (ats_cons ?_ ats_nil)⟩
        simp only [At]
        exact ⟨D3, as3.map V.ref, rfl, su _ _ (s8 _ _ eD3), nep (S3.trans s4) hD3, sprs_at (Paired.imp pa3 fun _ _ h => (SpR.same h s8).same su)⟩
end
end K19

set_option Elab.async false
set_option linter.all false
set_option maxRecDepth 100000
set_option maxHeartbeats 4000000
/-! an operation that is done in one of two ways; the first part of a list -/
namespace Lb
open PySem PySem.Spec PyProof.Rows L2
theorem op_or {X : Cx} {f : Value → Value → Sem Value} {r1 r2 : R2} (h1 : OpR X f r1) (h2 : OpR X f r2) : OpR X f (fun x y H Q => r1 x y H Q ∨ r2 x y H Q) := fun pins s σ H x y v u Q I rx ry h => h.elim (h1 pins s σ H x y v u Q I rx ry) (h2 pins s σ H x y v u Q I rx ry)
theorem un_or {X : Cx} {f : Value → Sem Value} {r1 r2 : V → Hp → VK → Prop} (h1 : UnR X f r1) (h2 : UnR X f r2) : UnR X f (fun x H Q => r1 x H Q ∨ r2 x H Q) := fun pins s σ H x v Q I rx h => h.elim (h1 pins s σ H x v Q I rx) (h2 pins s σ H x v Q I rx)
theorem cut_to {xs : List V} {k : Nat} (h : k ≤ xs.length) : cutV xs none (some (k : Int)) = xs.take k := by
  unfold cutV
  rw [HT.sIx_nat, HT.sIx_none, Nat.min_eq_left h, List.drop_zero, Nat.sub_zero]
theorem cut_to' {xs : List V} {k : Nat} {i : Int} (e : i = (k : Int)) (h : k ≤ xs.length) : cutV xs none (some i) = xs.take k := by rw [e]; exact cut_to h
end Lb

set_option Elab.async false
set_option linter.all false
set_option maxRecDepth 100000
set_option maxHeartbeats 4000000
set_option exponentiation.threshold 10000
namespace K19
open PySem L2 Lb
/-! elements otherwise -/
/-- what may stand as an element -/
def El (n : Nat) (d : Dt) : Prop := Ok n [3, 3] d
/-- an amount, small -/
def AmD (n : Nat) (d : Dt) : Prop := ∃ z, amOf d = some z ∧ Low n z
theorem AmD.ok {n : Nat} {d : Dt} (h : AmD n d) (bs : List Nat) : Ok n bs d := by
  obtain ⟨z, e, l⟩ := h
  cases d with
  | int i => cases e; cases bs <;> exact l.t
  | am x => cases e; cases bs <;> exact l
  | _ => cases e
theorem AmD.mono {n m : Nat} {d : Dt} (h : AmD n d) (k : n ≤ m) : AmD m d := let ⟨z, e, l⟩ := h; ⟨z, e, l.mono k⟩
theorem Ok.mono {n m : Nat} (k : n ≤ m) : ∀ (bs : List Nat) (d : Dt), Ok n bs d → Ok m bs d := by
  intro bs
  induction bs with
  | nil =>
    intro d h
    cases d with
    | int i => exact (show Bd n i from h).mono k
    | am x => exact (show Low n x from h).mono k
    | _ => exact h
  | cons b bs ih =>
    intro d h
    cases d with
    | int i => exact (show Bd n i from h).mono k
    | am x => exact (show Low n x from h).mono k
    | ls l => obtain ⟨h1, h2⟩ := (show l.length ≤ b ∧ ∀ e ∈ l, Ok n bs e from h); exact ⟨h1, fun e he => ih e (h2 e he)⟩
    | tp l => obtain ⟨h1, h2⟩ := (show l.length ≤ b ∧ ∀ e ∈ l, Ok n bs e from h); exact ⟨h1, fun e he => ih e (h2 e he)⟩
    | _ => exact h
section
variable {C p : Addr} {H : Hp} {d : Dt} {v : V} {n : Nat} {Q : VK}
theorem neg_any (h : At C p H d v) (a : AmD n d) (hn : n ≤ 2000) (k : ∀ H' v' d', Same H H' → At C p H' d' v' → AmD n d' → Q v' H') :
    rU (fun i => V.int (-i)) v H Q ∨ rUnOwn C (fun vs H Q E => sp_un C (fun t => -t) (vs ++ []) H Q E) E0 v H Q := by
  obtain ⟨z, e, l⟩ := a
  cases d with
  | int i =>
    cases e
    simp only [At] at h
    subst h
    exact .inl ⟨i, rfl, k H _ (.int (-i)) (Same.refl H) (by simp only [At]) ⟨_, rfl, l.t.neg, l.b, l.pos, by simp⟩⟩
  | am _ =>
    cases e
    simp only [At] at h
    obtain ⟨q, rfl, am⟩ := h
    obtain ⟨dx, eq⟩ := id am
    refine .inr ⟨q, dx, _, rfl, eq, q, _, _, rfl, am, l.t.mono (by omega), l.b.mono (by omega), by have := l.pos; omega, fun H' q' s' a' => k H' _ (.am (-z.1, z.2)) s' ?_ ⟨_, rfl, l.t.neg, l.b, l.pos, by show (-z.1).gcd z.2 = 1; rw [Int.neg_gcd]; exact l.g⟩⟩
    have g : (-z.1).gcd z.2 = 1 := by rw [Int.neg_gcd]; exact l.g
    obtain ⟨e1, e2⟩ := rd_self l.pos g
    rw [e1, e2] at a'
    simp only [At]
    exact ⟨q', rfl, a'⟩
  | _ => cases e
theorem low_one' {n : Nat} {i : Int} (h : Bd n i) (hn : 1 ≤ n) : Low n (i, 1) := ⟨h, by obtain ⟨m, rfl⟩ : ∃ m, n = m + 1 := ⟨n - 1, by omega⟩; exact bd_one, (show (0 : Int) < 1 by decide), by simp⟩
theorem add_int_any {c : Int} (hc : Bd 2 c) (h : At C p H d v) (a : AmD n d) (h1 : 1 ≤ n) (hn : n ≤ 2000) (k : ∀ H' v' d', Same H H' → At C p H' d' v' → AmD (n + 4) d' → Q v' H') :
    rI0 (fun i j => V.int (i + j)) v (.int c) H Q ∨ rBin C (fun vs H Q E => sp_bin C fAdd gBot (vs ++ []) H Q E) E0 v (.int c) H Q := by
  obtain ⟨z, e, l⟩ := a
  have lc : Low 2 (c, 1) := low_one' hc (by omega)
  cases d with
  | int i =>
    cases e
    simp only [At] at h
    subst h
    have bi : Bd n i := l.t
    refine .inl ⟨i, c, rfl, rfl, k H _ (.int (i + c)) (Same.refl H) (by simp only [At]) ⟨_, rfl, low_one' ?_ (by omega)⟩⟩
    exact (bi.mono (show n ≤ n + 3 by omega)).add (hc.mono (by omega))
  | am _ =>
    cases e
    simp only [At] at h
    obtain ⟨q, rfl, am⟩ := h
    refine .inr (leftB am (.inl ⟨rfl, rfl⟩) (l.t.mono (by omega)) (l.b.mono (by omega)) (hc.mono (by omega)) bd_one (mul_pos_ne l.pos (by decide)) fun H' q' s' a' => k H' _ (.am (rd (z.1 * 1 + c * z.2) (z.2 * 1))) s' (by simp only [At]; exact ⟨q', rfl, a'⟩) ⟨_, rfl, add_low l lc (by omega)⟩)
  | _ => cases e
theorem sub_int_any {c : Int} (hc : Bd 2 c) (h : At C p H d v) (a : AmD n d) (h1 : 1 ≤ n) (hn : n ≤ 2000) (k : ∀ H' v' d', Same H H' → At C p H' d' v' → AmD (n + 4) d' → Q v' H') :
    rI0 (fun i j => V.int (i - j)) v (.int c) H Q ∨ rBin C (fun vs H Q E => sp_bin C fSub gBot (vs ++ []) H Q E) E0 v (.int c) H Q := by
  obtain ⟨z, e, l⟩ := a
  have lc : Low 2 (c, 1) := low_one' hc (by omega)
  cases d with
  | int i =>
    cases e
    simp only [At] at h
    subst h
    have bi : Bd n i := l.t
    refine .inl ⟨i, c, rfl, rfl, k H _ (.int (i - c)) (Same.refl H) (by simp only [At]) ⟨_, rfl, low_one' ?_ (by omega)⟩⟩
    exact (bi.mono (show n ≤ n + 3 by omega)).sub (hc.mono (by omega))
  | am _ =>
    cases e
    simp only [At] at h
    obtain ⟨q, rfl, am⟩ := h
    refine .inr (leftB am (.inl ⟨rfl, rfl⟩) (l.t.mono (by omega)) (l.b.mono (by omega)) (hc.mono (by omega)) bd_one (mul_pos_ne l.pos (by decide)) fun H' q' s' a' => k H' _ (.am (rd (z.1 * 1 - c * z.2) (z.2 * 1))) s' (by simp only [At]; exact ⟨q', rfl, a'⟩) ⟨_, rfl, sub_low l lc (by omega)⟩)
  | _ => cases e
theorem add_am_any {r : Addr} {y : Q2} (ar : AmAt C H r y.1 y.2) (ly : Low 3 y) (h : At C p H d v) (a : AmD n d) (h1 : 1 ≤ n) (hn : n ≤ 2000) (k : ∀ H' v' d', Same H H' → At C p H' d' v' → AmD (n + 4) d' → Q v' H') :
    rBin C (fun vs H Q E => sp_bin C fAdd gBot (vs ++ []) H Q E) E0 v (.ref r) H Q ∨ rBinR C (fun vs H Q E => sp_bin C (sw fAdd) (sw gBot) (vs ++ []) H Q E) E0 v (.ref r) H Q := by
  obtain ⟨z, e, l⟩ := a
  have b3 : ∀ {j : Nat} {v : Q2}, Low j v → j ≤ 3000 → Bd 3000 v.1 ∧ Bd 3000 v.2 := fun h k => ⟨h.t.mono k, h.b.mono k⟩
  cases d with
  | int i =>
    cases e
    simp only [At] at h
    subst h
    obtain ⟨dr, er⟩ := id ar
    refine .inr ⟨i, r, dr, _, rfl, rfl, er, r, .int i, y.1, y.2, i, 1, rfl, ar, .inl ⟨rfl, rfl⟩, (b3 ly (by omega)).1, (b3 ly (by omega)).2, (l.t.mono (by omega)), bd_one, mul_pos_ne (show (0 : Int) < 1 by decide) ly.pos, fun H' q' s' a' => k H' _ (.am (rd (i * y.2 + y.1 * 1) (1 * y.2))) s' (by simp only [At]; exact ⟨q', rfl, a'⟩) ⟨_, rfl, add_low l ly (by omega)⟩⟩
  | am _ =>
    cases e
    simp only [At] at h
    obtain ⟨q, rfl, am⟩ := h
    refine .inl (leftB am (.inr ⟨r, rfl, ar⟩) (b3 l (by omega)).1 (b3 l (by omega)).2 (b3 ly (by omega)).1 (b3 ly (by omega)).2 (mul_pos_ne l.pos ly.pos) fun H' q' s' a' => k H' _ (.am (rd (z.1 * y.2 + y.1 * z.2) (z.2 * y.2))) s' (by simp only [At]; exact ⟨q', rfl, a'⟩) ⟨_, rfl, add_low l ly (by omega)⟩)
  | _ => cases e
end
def sp_pick (K : PySem.W.Frag) : Sp := fun vs H Q _ => ∃ (p l : Addr) (xs : List V), vs = [.ref p, .ref l] ∧ PotAt H p ∧ SqL K H l xs ∧ l ≠ p ∧ 0 < xs.length ∧ xs.length ≤ 1000 ∧
  ∀ H' (i : Nat) v, Mov p H H' → xs[i]? = some v → Q v H'
section
variable {P : Program} {w : World} {K : PySem.W.Frag} {mg : Str → Option Value} {base : Heap} {a : Ad}
theorem ok_pick (T : Txt K mg a) : FnOk P w K mg base CX0 2 a.f_pick a.d_pick ["_law_pot_here", "_law_some"] (sp_pick K) := by
  refine T.F_pick.ok sc_pick (fun vs H Q E h => ?_) (fun cdv A outer s H vs Q E hr h => ?_)
  · obtain ⟨p, l, xs, rfl, _⟩ := h
    rfl
  · obtain ⟨p, l, xs, rfl, hp, hS, hne, h0, h1, q⟩ := h
    refine ⟨_, (pss_one (ps_ret (pe_ix (ix_listK (K := K) rfl) (pv 1) (pe_call (ok_draw T) (hr.mono (by decide)) (by rfl) T.m_draw T.F_draw.kp (b_draw T) .nil pass0 (pa_cons (pv 0) (pa_cons (pe_callB (call_lenK (K := K) rfl) (by rfl) T.b_len (by decide +kernel) (pa_cons (pv 1) pa_nil)) pa_nil))) (fun _ _ => rfl)))), ?_⟩
    refine ⟨_, rfl, _, rfl, _, rfl, _, _, rfl, .inl hS, ?_⟩
    refine ⟨p, _, rfl, hp, by omega, by unfold Bd; omega, fun H' d m d0 d1 => ?_⟩
    have hi : d.toNat < xs.length := by omega
    have e : atI xs d = some xs[d.toNat] := by
      have := atI_nat (xs := xs) (j := d.toNat) (List.getElem?_eq_getElem hi)
      rwa [Int.toNat_of_nonneg d0] at this
    exact ⟨_, _, _, _, rfl, rfl, SqL.mov m hne hS, e, q _ _ _ m (List.getElem?_eq_getElem hi)⟩
end
theorem at_tp {C p t : Addr} {H : Hp} {l : List Dt} {xs : List V} (e : H t = some (.tup xs)) (h : Ats C p H l xs) : At C p H (.tp l) (.ref t) := by
  simp only [At]
  exact ⟨t, xs, rfl, e, h⟩
theorem at_ls {C p t : Addr} {H : Hp} {l : List Dt} {xs : List V} (e : H t = some (.lst xs)) (n : t ≠ p) (h : Ats C p H l xs) : At C p H (.ls l) (.ref t) := by
  simp only [At]
  exact ⟨t, xs, rfl, e, n, h⟩
theorem at_dc {C p t : Addr} {H : Hp} (e : H t = some (.dK [])) : At C p H .dc (.ref t) := by
  simp only [At]
  exact ⟨t, rfl, e⟩
theorem all_snoc {P : Dt → Prop} {D : List Dt} {x : Dt} (h : ∀ d ∈ D, P d) (k : P x) : ∀ d ∈ D ++ [x], P d := fun d hd => by
  rcases List.mem_append.mp hd with hd | hd
  · exact h d hd
  · rw [List.mem_singleton.mp hd]; exact k
theorem all_append {P : Dt → Prop} {D E : List Dt} (h : ∀ d ∈ D, P d) (k : ∀ d ∈ E, P d) : ∀ d ∈ D ++ E, P d := fun d hd => by
  rcases List.mem_append.mp hd with hd | hd
  · exact h d hd
  · exact k d hd
theorem all_nil {P : Dt → Prop} : ∀ d ∈ ([] : List Dt), P d := fun d hd => absurd hd List.not_mem_nil
theorem all_cons {P : Dt → Prop} {x : Dt} {D : List Dt} (k : P x) (h : ∀ d ∈ D, P d) : ∀ d ∈ x :: D, P d := fun d hd => by
  rcases List.mem_cons.mp hd with hd | hd
  · rw [hd]; exact k
  · exact h d hd
theorem all_of {n : Nat} {bs : List Nat} {D : List Dt} (h : ∀ d ∈ D, Ok n bs d) : ∀ d ∈ D, Ok n bs d := h
theorem el_tp {n : Nat} {l : List Dt} (k : l.length ≤ 3) (h : ∀ e ∈ l, Ok n [3] e) : El n (.tp l) := ⟨k, h⟩
theorem el_ls {n : Nat} {l : List Dt} (k : l.length ≤ 3) (h : ∀ e ∈ l, Ok n [3] e) : El n (.ls l) := ⟨k, h⟩
theorem el1_ls {n : Nat} {l : List Dt} (k : l.length ≤ 3) (h : ∀ e ∈ l, Ok n [] e) : Ok n [3] (.ls l) := ⟨k, h⟩
theorem ok_in {n : Nat} {l : List Dt} {d : Dt} (h : El n (.tp l)) (m : d ∈ l) : Ok n [3] d := (show l.length ≤ 3 ∧ ∀ e ∈ l, Ok n [3] e from h).2 d m
theorem am_low {n : Nat} {d : Dt} {z : Q2} (e : amOf d = some z) (h : Ok n [3] d) (hn : 1 ≤ n := by omega) : Low n z := by
  cases d with
  | int i => cases e; exact low_one' h hn
  | am x => cases e; exact h
  | _ => cases e
theorem five {n : Nat} (h : 10 ≤ n) : El (n + 4) (.int 5) := by
  show (5 : Int).natAbs < 2 ^ (n + 4)
  exact Nat.lt_of_lt_of_le (show (5 : Int).natAbs < 2 ^ 4 by decide) (Nat.pow_le_pow_right (by decide) (by omega))
theorem zero (n : Nat) : Ok (n + 4) [3] (.int 0) := Nat.pow_pos (by decide)
theorem bd_small {n : Nat} {i : Int} (h : i.natAbs < 8) (k : 3 ≤ n := by decide) : Bd n i := Nat.lt_of_lt_of_le (show i.natAbs < 2 ^ 3 from h) (Nat.pow_le_pow_right (by decide) k)
theorem third : Low 3 ((1, 3) : Q2) := ⟨bd_small (by decide), bd_small (by decide), by decide, by decide⟩
theorem pot_lst {p : Addr} {H : Hp} (h : PotAt H p) : ∀ o, H p = some o → ∃ xs, o = .lst xs := fun o e => by
  obtain ⟨x, y, e', _⟩ := h
  rw [e'] at e
  cases e
  exact ⟨_, rfl⟩
theorem pot_same {p : Addr} {H H' : Hp} (s : Same H H') (h : PotAt H p) : PotAt H' p := let ⟨x, y, e, r⟩ := h; ⟨x, y, s _ _ e, r⟩
theorem kp_mov {p : Addr} {H H' : Hp} (m : Mov p H H') : Kp p H H' := fun a o e n => m.keep a o n e
/-- what may be made otherwise: elements, at one place an odd one -/
def sp_odd (C : Addr) : Sp := fun vs H Q _ => ∃ (p q : Addr) (l : List Dt) (xs : List V) (n : Nat), vs = [.ref p, .ref q] ∧ PotAt H p ∧ H q = some (.lst xs) ∧ q ≠ p ∧ Ats C p H l xs ∧ (∀ e ∈ l, (∃ z, pairOf e = some z) ∧ El n e) ∧ 0 < l.length ∧ l.length ≤ 100 ∧ 10 ≤ n ∧ n ≤ 200 ∧
  ∀ H' q' l' xs', Mov p H H' → q' ≠ p → H' q' = some (.lst xs') → Ats C p H' l' xs' → (∀ e ∈ l', El (n + 4) e) → l'.length = l.length → Q (.ref q') H'
section
variable {P : Program} {w : World} {K : PySem.W.Frag} {mg : Str → Option Value} {base : Heap} {a : Ad}
theorem ok_odd (T : Txt K mg a) : FnOk P w K mg base CX0 8 a.f_odd a.d_odd ["_law_pot_here", "_law_things"] (sp_odd a.c_Amount) := by
  refine T.F_odd.ok sc_odd (fun vs H Q E h => ?_) (fun cdv A outer s H vs Q E hr h => ?_)
  · obtain ⟨p, q, l, xs, n, rfl, _⟩ := h
    rfl
  · obtain ⟨p, q, l, xs, n, rfl, hp, eq, nq, ha, el, l0, l100, n10, n200, k⟩ := h
    refine ⟨_, (pss_cons (ps_set (i := 2) sc_odd.nd rfl (by first | exact Or.inl rfl | exact Or.inr rfl) (pe_call (ok_draw T) (hr.mono (by decide)) (by rfl) T.m_draw T.F_draw.kp (b_draw T) .nil pass0 (pa_cons (pv 0) (pa_cons (pe_callB (call_lenK (K := K) rfl) (by rfl) T.b_len (by decide +kernel) (pa_cons (pv 1) pa_nil)) pa_nil))))
 (pss_cons (ps_asg (pe_ix (ix_listK (K := K) rfl) (pv 1) (pv 2) (fun _ _ => rfl)) (pg_tupK (K := K) (n := 2) rfl rfl (pgs_cons (pg_name (i := 3) sc_odd.nd rfl (by first | exact Or.inl rfl | exact Or.inr rfl)) (pgs_cons (pg_name (i := 4) sc_odd.nd rfl (by first | exact Or.inl rfl | exact Or.inr rfl)) pgs_nil))))
 (pss_cons (ps_set (i := 5) sc_odd.nd rfl (by first | exact Or.inl rfl | exact Or.inr rfl) (pe_lst (pa_cons pe_non (pa_cons pe_int (pa_cons pe_str (pa_cons (pe_lst (pa_cons (pv 3) (pa_cons (pv 4) pa_nil))) (pa_cons (pe_tup (pa_cons (pv 3) pa_nil)) (pa_cons (pe_tup (pa_cons (pv 3) (pa_cons (pv 4) (pa_cons (pv 4) pa_nil)))) (pa_cons (pe_tup (pa_cons (pv 3) (pa_cons pe_bl pa_nil))) (pa_cons (pe_tup (pa_cons pe_bl (pa_cons pe_bl pa_nil))) (pa_cons (pe_tup (pa_cons pe_str (pa_cons pe_str pa_nil))) (pa_cons (pe_tup (pa_cons (pv 3) (pa_cons pe_non pa_nil))) pa_nil))))))))))))
 (pss_cons (ps_set (i := 5) sc_odd.nd rfl (by first | exact Or.inl rfl | exact Or.inr rfl) (pe_op op_cat (pv 5) (pe_lst (pa_cons (pe_tup (pa_cons (pe_un (un_or un_neg (un_ownNeg (K := K) (E := E0) rfl T.cNg.at_ T.cNg.fn ((ok_Amount_neg_ T).raw (b_Amount_neg_ T) .nil) (hr.mono (by decide)))) (pv 3)) (pa_cons (pv 4) pa_nil))) (pa_cons (pe_tup (pa_cons (pv 3) (pa_cons (pe_un (un_or un_neg (un_ownNeg (K := K) (E := E0) rfl T.cNg.at_ T.cNg.fn ((ok_Amount_neg_ T).raw (b_Amount_neg_ T) .nil) (hr.mono (by decide)))) (pv 4)) pa_nil))) (pa_cons (pe_tup (pa_cons pe_int (pa_cons (pv 4) pa_nil))) (pa_cons (pe_tup (pa_cons (pv 3) (pa_cons pe_int pa_nil))) (pa_cons (pe_tup (pa_cons (pv 4) (pa_cons (pv 3) pa_nil))) (pa_cons (pe_tup (pa_cons (pe_un (un_or un_neg (un_ownNeg (K := K) (E := E0) rfl T.cNg.at_ T.cNg.fn ((ok_Amount_neg_ T).raw (b_Amount_neg_ T) .nil) (hr.mono (by decide)))) (pv 3)) (pa_cons (pe_un (un_or un_neg (un_ownNeg (K := K) (E := E0) rfl T.cNg.at_ T.cNg.fn ((ok_Amount_neg_ T).raw (b_Amount_neg_ T) .nil) (hr.mono (by decide)))) (pv 4)) pa_nil))) (pa_cons (pe_tup (pa_cons pe_int (pa_cons pe_int pa_nil))) (pa_cons (pe_tup (pa_cons (pe_op (op_or op_add (op_ownBin (K := K) (E := E0) rfl T.oAdd ((ok_Amount_add_ T).raw (b_Amount_add_ T) .nil) (hr.mono (by decide)))) (pv 3) pe_int) (pa_cons (pv 4) pa_nil))) (pa_cons (pe_tup (pa_cons (pv 3) (pa_cons (pe_op (op_or op_sub (op_ownBin (K := K) (E := E0) rfl T.oSub ((ok_Amount_sub_ T).raw (b_Amount_sub_ T) .nil) (hr.mono (by decide)))) (pv 4) pe_int) pa_nil))) (pa_cons pe_dnewK pa_nil)))))))))))))
 (pss_cons (ps_set (i := 5) sc_odd.nd rfl (by first | exact Or.inl rfl | exact Or.inr rfl) (pe_op op_cat (pv 5) (pe_lst (pa_cons (pe_tup (pa_cons (pv 3) (pa_cons (pe_op ((ownBin_at (K := K) (E := E0) rfl T.oAdd ((ok_Amount_add_ T).raw (b_Amount_add_ T) .nil) (hr.mono (by decide))).or (ownBinR_at (K := K) (E := E0) rfl int_add T.oAdd ((ok_Amount_radd_ T).raw (b_Amount_radd_ T) .nil) (hr.mono (by decide)))).here (pv 4) (pe_make T.mkA (ok_Amount_init_ T) (hr.mono (by decide)) (by rfl) T.mA (b_Amount_init_ T) .nil pass0 (pa_cons pe_int (pa_cons pe_int pa_nil)))) pa_nil))) (pa_cons (pe_tup (pa_cons (pv 3) (pa_cons (pe_lst (pa_cons (pv 4) pa_nil)) pa_nil))) (pa_cons (pe_ix (ix_listK (K := K) rfl) (pv 1) (pe_op op_sub (pv 2) pe_int) (fun _ _ => rfl)) (pa_cons (pe_tup (pa_cons (pe_make T.mkA (ok_Amount_init_ T) (hr.mono (by decide)) (by rfl) T.mA (b1_Amount_init_ T).choose_spec.2 (b1_Amount_init_ T).choose_spec.1 pass0 (pa_cons pe_int pa_nil)) (pa_cons pe_int pa_nil))) pa_nil)))))))
 (pss_one (ps_ret (pe_op op_cat (pe_op op_cat (pe_slice (sl_listK (K := K) rfl) (pv 1) po_none (po_some (pv 2))) (pe_lst (pa_cons (pe_call (ok_pick T) (hr.mono (by decide)) (by rfl) T.m_pick T.F_pick.kp (b_pick T) .nil pass0 (pa_cons (pv 0) (pa_cons (pv 5) pa_nil))) pa_nil))) (pe_slice (sl_listK (K := K) rfl) (pv 1) (po_some (pe_op op_add (pv 2) pe_int)) po_none))))))))), ?_⟩
    have ln := ha.len
    refine ⟨_, rfl, _, rfl, _, _, rfl, .inl (SqL.of eq), p, _, rfl, hp, by omega, by unfold Bd; omega, fun H1 d m1 d0 d1 => ?_⟩
    obtain ⟨i, rfl⟩ := Int.eq_ofNat_of_zero_le d0
    have hi : i < l.length := by omega
    have kp := kp_mov m1
    have ha := Ats.kp (pot_lst hp) kp _ _ ha
    have eq := m1.keep _ _ nq eq
    have hp0 := hp
    have hp := m1.pot
    have M1 := m1
    obtain ⟨e, he⟩ : ∃ e, l[i]? = some e := ⟨_, List.getElem?_eq_getElem hi⟩
    obtain ⟨v, hv, hve⟩ := ha.get he
    obtain ⟨⟨z, hz⟩, ee⟩ := el e (List.mem_of_getElem? he)
    obtain ⟨dx, dy, rfl, h1, h2, _⟩ := pair_inv hz
    simp only [At] at hve
    obtain ⟨t0, ys, rfl, et, hxy⟩ := hve
    obtain ⟨u, r, rfl, hx, hxy⟩ := ats_inv hxy
    obtain ⟨w, r, rfl, hy, hxy⟩ := ats_inv hxy
    rw [ats_inv0 hxy] at et
    have ax : AmD n dx := ⟨_, h1, am_low h1 (ok_in ee (List.mem_cons_self))⟩
    have ay : AmD n dy := ⟨_, h2, am_low h2 (ok_in ee (List.mem_cons_of_mem _ List.mem_cons_self))⟩
    refine ⟨_, rfl, _, rfl, _, _, _, _, rfl, rfl, SqL.of eq, atI_nat hv, t0, _, rfl, SqT.of et, rfl, _, _, rfl, _, _, rfl, rfl, ?_⟩
    obtain ⟨wv, wd, aw, hw, ew⟩ : ∃ wv wd, atI xs ((i : Int) - 1) = some wv ∧ At a.c_Amount p H1 wd wv ∧ El n wd := by
      rcases Nat.eq_zero_or_pos i with rfl | hpos
      · obtain ⟨e2, he2⟩ : ∃ e, l[l.length - 1]? = some e := ⟨_, List.getElem?_eq_getElem (by omega)⟩
        obtain ⟨v2, hv2, h2⟩ := ha.get he2
        exact ⟨v2, e2, by rw [show ((0 : Nat) : Int) - 1 = -1 by omega, atI_last (j := l.length - 1) (by omega)]; exact hv2, h2, (el e2 (List.mem_of_getElem? he2)).2⟩
      · obtain ⟨e2, he2⟩ : ∃ e, l[i - 1]? = some e := ⟨_, List.getElem?_eq_getElem (by omega)⟩
        obtain ⟨v2, hv2, h2⟩ := ha.get he2
        exact ⟨v2, e2, by rw [show (i : Int) - 1 = ((i - 1 : Nat) : Int) by omega]; exact atI_nat hv2, h2, (el e2 (List.mem_of_getElem? he2)).2⟩
    have S : Same H1 H1 := Same.refl H1
    have A : Ats a.c_Amount p H1 [] [] := ats_nil
    have E : ∀ d ∈ ([] : List Dt), El (n + 4) d := fun d hd => absurd hd List.not_mem_nil
    have A := A.append (ats_cons (d := .non) (x := .non) (by simp only [At]) ats_nil)
    have E := all_snoc (x := .non) E trivial
    have A := A.append (ats_cons (d := .int 5) (x := .int 5) (by simp only [At]) ats_nil)
    have E := all_snoc (x := .int 5) E (five n10)
    have A := A.append (ats_cons (d := .str "ab") (x := .str "ab") (by simp only [At]) ats_nil)
    have E := all_snoc (x := .str "ab") E (show (reprText "ab").length ≤ 100 by decide +kernel)
    refine ⟨_, rfl, _, rfl, sz, fun t1 h1 => ?_⟩
    have ne1 := PotAt.ne_ref (pot_same S hp) h1
    generalize e_G1 : upd _ t1 _ = G1
    obtain ⟨s1, f1⟩ := al3 e_G1 h1
    clear e_G1
    (try dsimp only at f1)
    have A := Ats.same s1 _ _ A
    have S := S.trans s1
    have A := A.append (ats_cons (d := .ls [dx, dy]) (x := .ref t1) (at_ls f1 ne1 (ats_cons (At.same S _ _ hx) (ats_cons (At.same S _ _ hy) ats_nil))) ats_nil)
    have E := all_snoc (x := .ls [dx, dy]) E (el_ls (by simp) (all_of (all_cons ((ax.mono (by omega)).ok _) (all_cons ((ay.mono (by omega)).ok _) all_nil))))
    refine ⟨_, rfl, sz, fun t2 h2 => ?_⟩
    have ne2 := PotAt.ne_ref (pot_same S hp) h2
    generalize e_G2 : upd _ t2 _ = G2
    obtain ⟨s2, f2⟩ := al3 e_G2 h2
    clear e_G2
    (try dsimp only at f2)
    have A := Ats.same s2 _ _ A
    have S := S.trans s2
    have A := A.append (ats_cons (d := .tp [dx]) (x := .ref t2) (at_tp f2 (ats_cons (At.same S _ _ hx) ats_nil)) ats_nil)
    have E := all_snoc (x := .tp [dx]) E (el_tp (by simp) (all_of (all_cons ((ax.mono (by omega)).ok _) all_nil)))
    refine ⟨_, rfl, _, rfl, _, rfl, sz, fun t3 h3 => ?_⟩
    have ne3 := PotAt.ne_ref (pot_same S hp) h3
    generalize e_G3 : upd _ t3 _ = G3
    obtain ⟨s3, f3⟩ := al3 e_G3 h3
    clear e_G3
    (try dsimp only at f3)
    have A := Ats.same s3 _ _ A
    have S := S.trans s3
    have A := A.append (ats_cons (d := .tp [dx, dy, dy]) (x := .ref t3) (at_tp f3 (ats_cons (At.same S _ _ hx) (ats_cons (At.same S _ _ hy) (ats_cons (At.same S _ _ hy) ats_nil)))) ats_nil)
    have E := all_snoc (x := .tp [dx, dy, dy]) E (el_tp (by simp) (all_of (all_cons ((ax.mono (by omega)).ok _) (all_cons ((ay.mono (by omega)).ok _) (all_cons ((ay.mono (by omega)).ok _) all_nil)))))
    refine ⟨_, rfl, sz, fun t4 h4 => ?_⟩
    have ne4 := PotAt.ne_ref (pot_same S hp) h4
    generalize e_G4 : upd _ t4 _ = G4
    obtain ⟨s4, f4⟩ := al3 e_G4 h4
    clear e_G4
    (try dsimp only at f4)
    have A := Ats.same s4 _ _ A
    have S := S.trans s4
    have A := A.append (ats_cons (d := .tp [dx, .bl true]) (x := .ref t4) (at_tp f4 (ats_cons (At.same S _ _ hx) (ats_cons (by simp only [At]) ats_nil))) ats_nil)
    have E := all_snoc (x := .tp [dx, .bl true]) E (el_tp (by simp) (all_of (all_cons ((ax.mono (by omega)).ok _) (all_cons trivial all_nil))))
    refine ⟨sz, fun t5 h5 => ?_⟩
    have ne5 := PotAt.ne_ref (pot_same S hp) h5
    generalize e_G5 : upd _ t5 _ = G5
    obtain ⟨s5, f5⟩ := al3 e_G5 h5
    clear e_G5
    (try dsimp only at f5)
    have A := Ats.same s5 _ _ A
    have S := S.trans s5
    have A := A.append (ats_cons (d := .tp [.bl false, .bl false]) (x := .ref t5) (at_tp f5 (ats_cons (by simp only [At]) (ats_cons (by simp only [At]) ats_nil))) ats_nil)
    have E := all_snoc (x := .tp [.bl false, .bl false]) E (el_tp (by simp) (all_of (all_cons trivial (all_cons trivial all_nil))))
    refine ⟨sz, fun t6 h6 => ?_⟩
    have ne6 := PotAt.ne_ref (pot_same S hp) h6
    generalize e_G6 : upd _ t6 _ = G6
    obtain ⟨s6, f6⟩ := al3 e_G6 h6
    clear e_G6
    (try dsimp only at f6)
    have A := Ats.same s6 _ _ A
    have S := S.trans s6
    have A := A.append (ats_cons (d := .tp [.str "1", .str "2"]) (x := .ref t6) (at_tp f6 (ats_cons (by simp only [At]) (ats_cons (by simp only [At]) ats_nil))) ats_nil)
    have E := all_snoc (x := .tp [.str "1", .str "2"]) E (el_tp (by simp) (all_of (all_cons (show (reprText "1").length ≤ 100 by decide +kernel) (all_cons (show (reprText "2").length ≤ 100 by decide +kernel) all_nil))))
    refine ⟨_, rfl, sz, fun t7 h7 => ?_⟩
    have ne7 := PotAt.ne_ref (pot_same S hp) h7
    generalize e_G7 : upd _ t7 _ = G7
    obtain ⟨s7, f7⟩ := al3 e_G7 h7
    clear e_G7
    (try dsimp only at f7)
    have A := Ats.same s7 _ _ A
    have S := S.trans s7
    have A := A.append (ats_cons (d := .tp [dx, .non]) (x := .ref t7) (at_tp f7 (ats_cons (At.same S _ _ hx) (ats_cons (by simp only [At]) ats_nil))) ats_nil)
    have E := all_snoc (x := .tp [dx, .non]) E (el_tp (by simp) (all_of (all_cons ((ax.mono (by omega)).ok _) (all_cons trivial all_nil))))
    refine ⟨sz, fun t8 h8 => ?_⟩
    have ne8 := PotAt.ne_ref (pot_same S hp) h8
    generalize e_G8 : upd _ t8 _ = G8
    obtain ⟨s8, f8⟩ := al3 e_G8 h8
    clear e_G8
    (try dsimp only at f8)
    have A := Ats.same s8 _ _ A
    have S := S.trans s8
    have eL := f8
    have B := A
    have EB := E
    have A : Ats a.c_Amount p G8 [] [] := ats_nil
    have E : ∀ d ∈ ([] : List Dt), El (n + 4) d := fun d hd => absurd hd List.not_mem_nil
    have SL : Same G8 G8 := Same.refl _
    refine ⟨_, rfl, _, rfl, neg_any (At.same S _ _ hx) ax (by omega) fun G9 v9 d9 s9 hv9 av9 => ?_⟩
    have A := Ats.same s9 _ _ A
    have B := Ats.same s9 _ _ B
    have S := S.trans s9
    have SL := SL.trans s9
    have hv9 := hv9
    refine ⟨_, rfl, sz, fun t10 h10 => ?_⟩
    have ne10 := PotAt.ne_ref (pot_same S hp) h10
    generalize e_G10 : upd _ t10 _ = G10
    obtain ⟨s10, f10⟩ := al3 e_G10 h10
    clear e_G10
    (try dsimp only at f10)
    have A := Ats.same s10 _ _ A
    have B := Ats.same s10 _ _ B
    have S := S.trans s10
    have SL := SL.trans s10
    have A := A.append (ats_cons (d := .tp [d9, dy]) (x := .ref t10) (at_tp f10 (ats_cons (At.same s10 _ _ hv9) (ats_cons (At.same S _ _ hy) ats_nil))) ats_nil)
    have E := all_snoc (x := .tp [d9, dy]) E (el_tp (by simp) (all_of (all_cons ((av9.mono (by omega)).ok _) (all_cons ((ay.mono (by omega)).ok _) all_nil))))
    refine ⟨_, rfl, _, rfl, neg_any (At.same S _ _ hy) ay (by omega) fun G11 v11 d11 s11 hv11 av11 => ?_⟩
    have A := Ats.same s11 _ _ A
    have B := Ats.same s11 _ _ B
    have S := S.trans s11
    have SL := SL.trans s11
    have hv11 := hv11
    refine ⟨sz, fun t12 h12 => ?_⟩
    have ne12 := PotAt.ne_ref (pot_same S hp) h12
    generalize e_G12 : upd _ t12 _ = G12
    obtain ⟨s12, f12⟩ := al3 e_G12 h12
    clear e_G12
    (try dsimp only at f12)
    have A := Ats.same s12 _ _ A
    have B := Ats.same s12 _ _ B
    have S := S.trans s12
    have SL := SL.trans s12
    have A := A.append (ats_cons (d := .tp [dx, d11]) (x := .ref t12) (at_tp f12 (ats_cons (At.same S _ _ hx) (ats_cons (At.same s12 _ _ hv11) ats_nil))) ats_nil)
    have E := all_snoc (x := .tp [dx, d11]) E (el_tp (by simp) (all_of (all_cons ((ax.mono (by omega)).ok _) (all_cons ((av11.mono (by omega)).ok _) all_nil))))
    refine ⟨_, rfl, sz, fun t13 h13 => ?_⟩
    have ne13 := PotAt.ne_ref (pot_same S hp) h13
    generalize e_G13 : upd _ t13 _ = G13
    obtain ⟨s13, f13⟩ := al3 e_G13 h13
    clear e_G13
    (try dsimp only at f13)
    have A := Ats.same s13 _ _ A
    have B := Ats.same s13 _ _ B
    have S := S.trans s13
    have SL := SL.trans s13
    have A := A.append (ats_cons (d := .tp [.int 0, dy]) (x := .ref t13) (at_tp f13 (ats_cons (by simp only [At]) (ats_cons (At.same S _ _ hy) ats_nil))) ats_nil)
    have E := all_snoc (x := .tp [.int 0, dy]) E (el_tp (by simp) (all_of (all_cons (zero n) (all_cons ((ay.mono (by omega)).ok _) all_nil))))
    refine ⟨_, rfl, sz, fun t14 h14 => ?_⟩
    have ne14 := PotAt.ne_ref (pot_same S hp) h14
    generalize e_G14 : upd _ t14 _ = G14
    obtain ⟨s14, f14⟩ := al3 e_G14 h14
    clear e_G14
    (try dsimp only at f14)
    have A := Ats.same s14 _ _ A
    have B := Ats.same s14 _ _ B
    have S := S.trans s14
    have SL := SL.trans s14
    have A := A.append (ats_cons (d := .tp [dx, .int 0]) (x := .ref t14) (at_tp f14 (ats_cons (At.same S _ _ hx) (ats_cons (by simp only [At]) ats_nil))) ats_nil)
    have E := all_snoc (x := .tp [dx, .int 0]) E (el_tp (by simp) (all_of (all_cons ((ax.mono (by omega)).ok _) (all_cons (zero n) all_nil))))
    refine ⟨_, rfl, _, rfl, sz, fun t15 h15 => ?_⟩
    have ne15 := PotAt.ne_ref (pot_same S hp) h15
    generalize e_G15 : upd _ t15 _ = G15
    obtain ⟨s15, f15⟩ := al3 e_G15 h15
    clear e_G15
    (try dsimp only at f15)
    have A := Ats.same s15 _ _ A
    have B := Ats.same s15 _ _ B
    have S := S.trans s15
    have SL := SL.trans s15
    have A := A.append (ats_cons (d := .tp [dy, dx]) (x := .ref t15) (at_tp f15 (ats_cons (At.same S _ _ hy) (ats_cons (At.same S _ _ hx) ats_nil))) ats_nil)
    have E := all_snoc (x := .tp [dy, dx]) E (el_tp (by simp) (all_of (all_cons ((ay.mono (by omega)).ok _) (all_cons ((ax.mono (by omega)).ok _) all_nil))))
    refine ⟨_, rfl, neg_any (At.same S _ _ hx) ax (by omega) fun G16 v16 d16 s16 hv16 av16 => ?_⟩
    have A := Ats.same s16 _ _ A
    have B := Ats.same s16 _ _ B
    have S := S.trans s16
    have SL := SL.trans s16
    have hv16 := hv16
    refine ⟨_, rfl, neg_any (At.same S _ _ hy) ay (by omega) fun G17 v17 d17 s17 hv17 av17 => ?_⟩
    have A := Ats.same s17 _ _ A
    have B := Ats.same s17 _ _ B
    have S := S.trans s17
    have SL := SL.trans s17
    have hv17 := hv17
    refine ⟨sz, fun t18 h18 => ?_⟩
    have ne18 := PotAt.ne_ref (pot_same S hp) h18
    generalize e_G18 : upd _ t18 _ = G18
    obtain ⟨s18, f18⟩ := al3 e_G18 h18
    clear e_G18
    (try dsimp only at f18)
    have A := Ats.same s18 _ _ A
    have B := Ats.same s18 _ _ B
    have S := S.trans s18
    have SL := SL.trans s18
    have A := A.append (ats_cons (d := .tp [d16, d17]) (x := .ref t18) (at_tp f18 (ats_cons (At.same (s17.trans s18) _ _ hv16) (ats_cons (At.same s18 _ _ hv17) ats_nil))) ats_nil)
    have E := all_snoc (x := .tp [d16, d17]) E (el_tp (by simp) (all_of (all_cons ((av16.mono (by omega)).ok _) (all_cons ((av17.mono (by omega)).ok _) all_nil))))
    refine ⟨sz, fun t19 h19 => ?_⟩
    have ne19 := PotAt.ne_ref (pot_same S hp) h19
    generalize e_G19 : upd _ t19 _ = G19
    obtain ⟨s19, f19⟩ := al3 e_G19 h19
    clear e_G19
    (try dsimp only at f19)
    have A := Ats.same s19 _ _ A
    have B := Ats.same s19 _ _ B
    have S := S.trans s19
    have SL := SL.trans s19
    have A := A.append (ats_cons (d := .tp [.int 0, .int 0]) (x := .ref t19) (at_tp f19 (ats_cons (by simp only [At]) (ats_cons (by simp only [At]) ats_nil))) ats_nil)
    have E := all_snoc (x := .tp [.int 0, .int 0]) E (el_tp (by simp) (all_of (all_cons (zero n) (all_cons (zero n) all_nil))))
    refine ⟨_, rfl, add_int_any (show (1 : Int).natAbs < 2 ^ 2 by decide) (At.same S _ _ hx) ax (by omega) (by omega) fun G20 v20 d20 s20 hv20 av20 => ?_⟩
    have A := Ats.same s20 _ _ A
    have B := Ats.same s20 _ _ B
    have S := S.trans s20
    have SL := SL.trans s20
    have hv20 := hv20
    refine ⟨_, rfl, sz, fun t21 h21 => ?_⟩
    have ne21 := PotAt.ne_ref (pot_same S hp) h21
    generalize e_G21 : upd _ t21 _ = G21
    obtain ⟨s21, f21⟩ := al3 e_G21 h21
    clear e_G21
    (try dsimp only at f21)
    have A := Ats.same s21 _ _ A
    have B := Ats.same s21 _ _ B
    have S := S.trans s21
    have SL := SL.trans s21
    have A := A.append (ats_cons (d := .tp [d20, dy]) (x := .ref t21) (at_tp f21 (ats_cons (At.same s21 _ _ hv20) (ats_cons (At.same S _ _ hy) ats_nil))) ats_nil)
    have E := all_snoc (x := .tp [d20, dy]) E (el_tp (by simp) (all_of (all_cons ((av20.mono (by omega)).ok _) (all_cons ((ay.mono (by omega)).ok _) all_nil))))
    refine ⟨_, rfl, _, rfl, sub_int_any (show (1 : Int).natAbs < 2 ^ 2 by decide) (At.same S _ _ hy) ay (by omega) (by omega) fun G22 v22 d22 s22 hv22 av22 => ?_⟩
    have A := Ats.same s22 _ _ A
    have B := Ats.same s22 _ _ B
    have S := S.trans s22
    have SL := SL.trans s22
    have hv22 := hv22
    refine ⟨sz, fun t23 h23 => ?_⟩
    have ne23 := PotAt.ne_ref (pot_same S hp) h23
    generalize e_G23 : upd _ t23 _ = G23
    obtain ⟨s23, f23⟩ := al3 e_G23 h23
    clear e_G23
    (try dsimp only at f23)
    have A := Ats.same s23 _ _ A
    have B := Ats.same s23 _ _ B
    have S := S.trans s23
    have SL := SL.trans s23
    have A := A.append (ats_cons (d := .tp [dx, d22]) (x := .ref t23) (at_tp f23 (ats_cons (At.same S _ _ hx) (ats_cons (At.same s23 _ _ hv22) ats_nil))) ats_nil)
    have E := all_snoc (x := .tp [dx, d22]) E (el_tp (by simp) (all_of (all_cons ((ax.mono (by omega)).ok _) (all_cons ((av22.mono (by omega)).ok _) all_nil))))
    refine fun t24 h24 => ?_
    generalize e_G24 : upd _ t24 _ = G24
    obtain ⟨s24, f24⟩ := al3 e_G24 h24
    clear e_G24
    (try dsimp only at f24)
    have A := Ats.same s24 _ _ A
    have B := Ats.same s24 _ _ B
    have S := S.trans s24
    have SL := SL.trans s24
    have A := A.append (ats_cons (d := .dc) (x := .ref t24) (at_dc f24) ats_nil)
    have E := all_snoc (x := .dc) E trivial
    refine ⟨sz, fun t25 h25 => ?_⟩
    have ne25 := PotAt.ne_ref (pot_same S hp) h25
    generalize e_G25 : upd _ t25 _ = G25
    obtain ⟨s25, f25⟩ := al3 e_G25 h25
    clear e_G25
    (try dsimp only at f25)
    have A := Ats.same s25 _ _ A
    have B := Ats.same s25 _ _ B
    have S := S.trans s25
    have SL := SL.trans s25
    refine ⟨t8, t25, _, _, rfl, rfl, SL _ _ eL, f25, szle (by simp), fun t26 h26 => ?_⟩
    have ne26 := PotAt.ne_ref (pot_same S hp) h26
    generalize e_G26 : upd _ t26 _ = G26
    obtain ⟨s26, f26⟩ := al3 e_G26 h26
    clear e_G26
    (try dsimp only at f26)
    have A := Ats.same s26 _ _ A
    have B := Ats.same s26 _ _ B
    have S := S.trans s26
    have SL := SL.trans s26
    have B := B.append A
    have EB := all_append EB E
    have eL := f26
    have A : Ats a.c_Amount p G26 [] [] := ats_nil
    have E : ∀ d ∈ ([] : List Dt), El (n + 4) d := fun d hd => absurd hd List.not_mem_nil
    have SL : Same G26 G26 := Same.refl _
    refine ⟨_, rfl, _, rfl, _, rfl, fun y27 z27 hy27 hz27 nz27 => ⟨y27, z27, 1, 3, rfl, by decide, (bd_small (by decide)), (bd_small (by decide)), upd_same, fun G27 kp27 e27 => ⟨rfl, ?_⟩⟩⟩
    obtain ⟨s27, am27⟩ := made_am hy27 hz27 nz27 kp27 e27
    rw [show rdT 1 3 = 1 by decide +kernel, show rdB 1 3 = 3 by decide +kernel] at am27
    have A := Ats.same s27 _ _ A
    have B := Ats.same s27 _ _ B
    have S := S.trans s27
    have SL := SL.trans s27
    refine add_am_any (y := (1, 3)) am27 third (At.same S _ _ hy) ay (by omega) (by omega) fun G28 v28 d28 s28 hv28 av28 => ?_
    have A := Ats.same s28 _ _ A
    have B := Ats.same s28 _ _ B
    have S := S.trans s28
    have SL := SL.trans s28
    refine ⟨sz, fun t29 h29 => ?_⟩
    have ne29 := PotAt.ne_ref (pot_same S hp) h29
    generalize e_G29 : upd _ t29 _ = G29
    obtain ⟨s29, f29⟩ := al3 e_G29 h29
    clear e_G29
    (try dsimp only at f29)
    have A := Ats.same s29 _ _ A
    have B := Ats.same s29 _ _ B
    have S := S.trans s29
    have SL := SL.trans s29
    have A := A.append (ats_cons (d := .tp [dx, d28]) (x := .ref t29) (at_tp f29 (ats_cons (At.same S _ _ hx) (ats_cons (At.same s29 _ _ hv28) ats_nil))) ats_nil)
    have E := all_snoc (x := .tp [dx, d28]) E (el_tp (by simp) (all_of (all_cons ((ax.mono (by omega)).ok _) (all_cons ((av28.mono (by omega)).ok _) all_nil))))
    refine ⟨_, rfl, _, rfl, sz, fun t30 h30 => ?_⟩
    have ne30 := PotAt.ne_ref (pot_same S hp) h30
    generalize e_G30 : upd _ t30 _ = G30
    obtain ⟨s30, f30⟩ := al3 e_G30 h30
    clear e_G30
    (try dsimp only at f30)
    have A := Ats.same s30 _ _ A
    have B := Ats.same s30 _ _ B
    have S := S.trans s30
    have SL := SL.trans s30
    have hl30 : At a.c_Amount p G30 (.ls [dy]) (.ref t30) := at_ls f30 ne30 (ats_cons (At.same S _ _ hy) ats_nil)
    refine ⟨sz, fun t31 h31 => ?_⟩
    have ne31 := PotAt.ne_ref (pot_same S hp) h31
    generalize e_G31 : upd _ t31 _ = G31
    obtain ⟨s31, f31⟩ := al3 e_G31 h31
    clear e_G31
    (try dsimp only at f31)
    have A := Ats.same s31 _ _ A
    have B := Ats.same s31 _ _ B
    have S := S.trans s31
    have SL := SL.trans s31
    have A := A.append (ats_cons (d := .tp [dx, .ls [dy]]) (x := .ref t31) (at_tp f31 (ats_cons (At.same S _ _ hx) (ats_cons (At.same s31 _ _ hl30) ats_nil))) ats_nil)
    have E := all_snoc (x := .tp [dx, .ls [dy]]) E (el_tp (by simp) (all_of (all_cons ((ax.mono (by omega)).ok _) (all_cons (el1_ls (by simp) (all_of (all_cons ((ay.mono (by omega)).ok _) all_nil))) all_nil))))
    refine ⟨_, rfl, _, rfl, _, _, rfl, rfl, _, _, _, _, rfl, rfl, SqL.of (S _ _ eq), aw, ?_⟩
    have A := A.append (ats_cons (At.same S _ _ hw) ats_nil)
    have E := all_snoc E (Ok.mono (show n ≤ n + 4 by omega) _ _ ew)
    refine fun y32 z32 hy32 hz32 nz32 => ⟨y32, z32, 0, 1, rfl, by decide, (bd_small (by decide)), bd_one, upd_same, fun G32 kp32 e32 => ⟨rfl, ?_⟩⟩
    obtain ⟨s32, am32⟩ := made_am hy32 hz32 nz32 kp32 e32
    rw [rdT_one, rdB_one] at am32
    have A := Ats.same s32 _ _ A
    have B := Ats.same s32 _ _ B
    have S := S.trans s32
    have SL := SL.trans s32
    have hm32 : At a.c_Amount p G32 (.am (0, 1)) (.ref y32) := by simp only [At]; exact ⟨y32, rfl, am32⟩
    refine ⟨sz, fun t33 h33 => ?_⟩
    have ne33 := PotAt.ne_ref (pot_same S hp) h33
    generalize e_G33 : upd _ t33 _ = G33
    obtain ⟨s33, f33⟩ := al3 e_G33 h33
    clear e_G33
    (try dsimp only at f33)
    have A := Ats.same s33 _ _ A
    have B := Ats.same s33 _ _ B
    have S := S.trans s33
    have SL := SL.trans s33
    have A := A.append (ats_cons (d := .tp [.am (0, 1), .int 0]) (x := .ref t33) (at_tp f33 (ats_cons (At.same s33 _ _ hm32) (ats_cons (by simp only [At]) ats_nil))) ats_nil)
    have E := all_snoc (x := .tp [.am (0, 1), .int 0]) E (el_tp (by simp) (all_of (all_cons (show Low (n + 4) ((0, 1) : Q2) from org_low) (all_cons (zero n) all_nil))))
    refine ⟨sz, fun t34 h34 => ?_⟩
    have ne34 := PotAt.ne_ref (pot_same S hp) h34
    generalize e_G34 : upd _ t34 _ = G34
    obtain ⟨s34, f34⟩ := al3 e_G34 h34
    clear e_G34
    (try dsimp only at f34)
    have A := Ats.same s34 _ _ A
    have B := Ats.same s34 _ _ B
    have S := S.trans s34
    have SL := SL.trans s34
    refine ⟨t26, t34, _, _, rfl, rfl, SL _ _ eL, f34, szle (by simp), fun t35 h35 => ?_⟩
    have ne35 := PotAt.ne_ref (pot_same S hp) h35
    generalize e_G35 : upd _ t35 _ = G35
    obtain ⟨s35, f35⟩ := al3 e_G35 h35
    clear e_G35
    (try dsimp only at f35)
    have A := Ats.same s35 _ _ A
    have B := Ats.same s35 _ _ B
    have S := S.trans s35
    have SL := SL.trans s35
    have B := B.append A
    have EB := all_append EB E
    have eL := f35
    have SL : Same G35 G35 := Same.refl _
    have M2 := M1.same S
    have eq := S _ _ eq
    have ha := Ats.same S _ _ ha
    -- the list
    refine ⟨_, rfl, _, rfl, _, rfl, q, _, rfl, SqL.of eq, fun c1 hc1 => ?_⟩
    rw [cut_to (by rw [ln]; omega)]
    have nc1 := PotAt.ne_ref (pot_same S hp) hc1
    generalize e_J1 : upd _ c1 _ = J1
    obtain ⟨j1, g1⟩ := al3 e_J1 hc1
    clear e_J1
    (try dsimp only at g1)
    have hpJ := pot_same j1 (pot_same S hp)
    have eL := j1 _ _ eL
    have B := Ats.same j1 _ _ B
    refine ⟨_, rfl, _, rfl, p, t35, _, rfl, hpJ, SqL.of eL, ne35, by simp, by simp, fun J2 pi pw mp hpw => ⟨sz, fun l1 hl1 => ?_⟩⟩
    have M3 := (M2.same j1).trans mp
    have KP := kp_mov mp
    have PL := pot_lst hpJ
    have B := Ats.kp PL KP _ _ B
    obtain ⟨pd, hpd, hpa⟩ := B.at_ hpw
    have epd := EB pd (List.mem_of_getElem? hpd)
    have ha := Ats.kp PL KP _ _ (Ats.same j1 _ _ ha)
    have eq := mp.keep _ _ nq (j1 _ _ eq)
    have g1 := mp.keep _ _ nc1 g1
    generalize e_J3 : upd _ l1 _ = J3
    obtain ⟨j3, g3⟩ := al3 e_J3 hl1
    clear e_J3
    (try dsimp only at g3)
    refine ⟨c1, l1, _, _, rfl, rfl, j3 _ _ g1, g3, szle (by rw [List.length_take]; show _ + 1 ≤ _; omega), fun l2 hl2 => ?_⟩
    generalize e_J4 : upd _ l2 _ = J4
    obtain ⟨j4, g4⟩ := al3 e_J4 hl2
    clear e_J4
    (try dsimp only at g4)
    have J24 := j3.trans j4
    refine ⟨_, rfl, _, rfl, _, _, rfl, rfl, _, rfl, q, _, rfl, SqL.of (J24 _ _ eq), fun c2 hc2 => ?_⟩
    rw [show (i : Int) + 1 = ((i + 1 : Nat) : Int) by omega, cut_from (by rw [ln]; omega)]
    generalize e_J5 : upd _ c2 _ = J5
    obtain ⟨j5, g5⟩ := al3 e_J5 hc2
    clear e_J5
    (try dsimp only at g5)
    refine ⟨l2, c2, _, _, rfl, rfl, j5 _ _ g4, g5, szle (by rw [List.length_append, List.length_take, List.length_drop]; show _ + 1 + _ ≤ _; omega), fun l3 hl3 => ?_⟩
    have sz3 := Lb.Same.upd (o := .lst (List.take i xs ++ [pw] ++ List.drop (i + 1) xs)) hl3
    have J26 := (J24.trans j5).trans sz3
    refine k _ l3 (l.take i ++ [pd] ++ l.drop (i + 1)) _ (M3.same J26) ?_ upd_same ?_ ?_ ?_
    · exact PotAt.ne_ref (pot_same (J24.trans j5) M3.pot) hl3
    · exact ((Ats.take i (Ats.same J26 _ _ ha)).append (ats_cons (At.same J26 _ _ hpa) ats_nil)).append (Ats.drop (i + 1) (Ats.same J26 _ _ ha))
    · exact all_append (all_snoc (fun e he => Ok.mono (show n ≤ n + 4 by omega) _ _ (el e (List.mem_of_mem_take he)).2) epd) (fun e he => Ok.mono (show n ≤ n + 4 by omega) _ _ (el e (List.mem_of_mem_drop he)).2)
    · rw [List.length_append, List.length_append, List.length_take, List.length_drop]
      show _ + 1 + _ = _
      omega
end
end K19

set_option Elab.async false
set_option linter.all false
set_option maxRecDepth 100000
set_option maxHeartbeats 4000000
set_option exponentiation.threshold 10000
namespace K19
open PySem L2 Lb
/-! points spoilt; many points -/
def sp_spoilt (C : Addr) : Sp := fun vs H Q _ => ∃ (p q : Addr) (l : List Dt) (xs : List V) (n : Nat), vs = [.ref p, .ref q] ∧ PotAt H p ∧ H q = some (.lst xs) ∧ q ≠ p ∧ Ats C p H l xs ∧ (∀ e ∈ l, (∃ z, pairOf e = some z) ∧ El n e) ∧ 0 < l.length ∧ l.length ≤ 90 ∧ 10 ≤ n ∧ n ≤ 100 ∧
  ∀ H' q' l' xs', Mov p H H' → q' ≠ p → H' q' = some (.lst xs') → Ats C p H' l' xs' → (∀ e ∈ l', El (n + 8) e) → l'.length ≤ 100 → Q (.ref q') H'
def sp_long (C : Addr) : Sp := fun vs H Q _ => ∃ (p : Addr) (m : Nat), vs = [.ref p, .int m] ∧ PotAt H p ∧ 1 ≤ m ∧ m ≤ 90 ∧
  ∀ H' q' l' xs', Mov p H H' → q' ≠ p → H' q' = some (.lst xs') → Ats C p H' l' xs' → (∀ e ∈ l', El 14 e) → l'.length = m → Q (.ref q') H'
theorem units65 {A : Around} {k : Nat} (h : Room k A) : A.units + 65 < cLine := by have := h.un; omega
theorem eqv_none (o : Option Pt) : PyData.eqv (prD o) .none = decide (o = none) := by
  cases o with
  | none => rfl
  | some z => simp [prD, ptD, PyData.eqv]
/-- a point of whole numbers -/
def Lr (H : Hp) (v : V) (x : Int) : Prop := ∃ t, v = .ref t ∧ H t = some (.tup [.int x, .int (2 * x)])
theorem Lr.same {H H' : Hp} {v : V} {x : Int} (h : Lr H v x) (s : Same H H') : Lr H' v x := let ⟨t, e, g⟩ := h; ⟨t, e, s _ _ g⟩
theorem Lr.nl {H H' : Hp} {v : V} {x : Int} (h : Lr H v x) (s : NL H H') : Lr H' v x := let ⟨t, e, g⟩ := h; ⟨t, e, s _ _ (fun _ z => nomatch z) g⟩
def lrD (x : Int) : Dt := .tp [.int x, .int (2 * x)]
theorem lr_at {C p : Addr} {H : Hp} : ∀ {xs : List V} {ys : List Int}, Paired (Lr H) xs ys → Ats C p H (ys.map lrD) xs
  | _, _, .nil => ats_nil
  | _, _, .cons ⟨t, e, g⟩ k => by subst e; exact ats_cons (at_tp g (ats_cons (by simp only [At]) (ats_cons (by simp only [At]) ats_nil))) (lr_at k)
theorem lr_all {ys : List Int} (h : ∀ x ∈ ys, x.natAbs < 100) : ∀ e ∈ ys.map lrD, (∃ z, pairOf e = some z) ∧ El 10 e := fun e he => by
  obtain ⟨x, hx, rfl⟩ := List.mem_map.mp he
  have b := h x hx
  have hs : sg x = sg (2 * x) := by unfold sg; split <;> split <;> (try split) <;> (try split) <;> omega
  refine ⟨⟨((x, 1), (2 * x, 1)), by simp only [lrD, pairOf, amOf, if_pos hs]⟩, by simp, fun d hd => ?_⟩
  rcases List.mem_cons.mp hd with rfl | hd
  · show x.natAbs < 2 ^ 10
    omega
  · rw [List.mem_singleton.mp hd]
    show (2 * x).natAbs < 2 ^ 10
    omega
theorem prs_shaped (os : List (Option Pt)) : SeqAt.shaped (.list (os.map prD)) = true := shaped_of (lay_list (fun o => by cases o with | none => rfl | some z => exact lay_pt z) os) (Nat.le_trans (dep_list (k := 2) (fun o => by cases o with | none => decide | some z => exact Nat.le_of_eq (dep_pt z)) os) (by decide))
theorem dp_all {K : PySem.W.Frag} {H : Hp} : ∀ {ys : List V} {os : List (Option Pt)}, Paired (PrAt H) ys os → DpAll K H ys (os.map prD)
  | _, _, .nil => .nil
  | _, _, .cons h k => .cons (prAt_dp h) (dp_all k)
section
variable {P : Program} {w : World} {K : PySem.W.Frag} {mg : Str → Option Value} {base : Heap} {a : Ad}
theorem ok_spoilt (T : Txt K mg a) : FnOk P w K mg base CX0 9 a.f_spoilt a.d_spoilt ["_law_pot_here", "_law_things"] (sp_spoilt a.c_Amount) := by
  refine T.F_spoilt.ok sc_spoilt (fun vs H Q E h => ?_) (fun cdv A outer s H vs Q E hr h => ?_)
  · obtain ⟨p, q, l, xs, n, rfl, _⟩ := h
    rfl
  · obtain ⟨p, q, l, xs, n, rfl, hp, eq, nq, ha, el, l0, l90, n10, n100, k⟩ := h
    refine ⟨_, (pss_cons (ps_par (i := 2) (j := 3) rfl sc_spoilt.nd rfl rfl (by decide) rfl rfl (pa_cons (pe_call (ok_draw T) (hr.mono (by decide)) (by rfl) T.m_draw T.F_draw.kp (b_draw T) .nil pass0 (pa_cons (pv 0) (pa_cons pe_int pa_nil))) (pa_cons (pe_call (ok_draw T) (hr.mono (by decide)) (by rfl) T.m_draw T.F_draw.kp (b_draw T) .nil pass0 (pa_cons (pv 0) (pa_cons (pe_callB (call_lenK (K := K) rfl) (by rfl) T.b_len (by decide +kernel) (pa_cons (pv 1) pa_nil)) pa_nil))) pa_nil)) (by rfl))
 (pss_cons (ps_if (pt_cmpR op_eq (pv 2) pe_int (nomark _)) (pss_one (ps_ret (pe_op op_cat (pe_slice (sl_listK (K := K) rfl) (pv 1) po_none (po_some (pv 3))) (pe_slice (sl_listK (K := K) rfl) (pv 1) (po_some (pe_op op_add (pv 3) pe_int)) po_none)))) pss_nil)
 (pss_cons (ps_if (pt_cmpR op_eq (pv 2) pe_int (nomark _)) (pss_one (ps_ret (pe_op op_cat (pe_slice (sl_listK (K := K) rfl) (pv 1) (po_some (pv 3)) po_none) (pe_slice (sl_listK (K := K) rfl) (pv 1) po_none (po_some (pv 3)))))) pss_nil)
 (pss_cons (ps_if (pt_cmpR op_eq (pv 2) pe_int (nomark _)) (pss_one (ps_ret (pe_op op_cat (pe_op op_cat (pe_slice (sl_listK (K := K) rfl) (pv 1) po_none (po_some (pv 3))) (pe_lst (pa_cons (pe_ix (ix_listK (K := K) rfl) (pv 1) (pv 3) (fun _ _ => rfl)) pa_nil))) (pe_slice (sl_listK (K := K) rfl) (pv 1) (po_some (pv 3)) po_none)))) pss_nil)
 (pss_cons (ps_set (i := 4) sc_spoilt.nd rfl (by first | exact Or.inl rfl | exact Or.inr rfl) (pe_call (ok_odd T) (hr.mono (by decide)) (by rfl) T.m_odd T.F_odd.kp (b_odd T) .nil pass0 (pa_cons (pv 0) (pa_cons (pv 1) pa_nil))))
 (pss_one (ps_ret (pe_ifExp (PW.pt (pw_and (pt_cmpR op_eq (pv 2) pe_int (nomark _)) (pw_and1 (pt_cmpR (op_notInD (units65 hr)) pe_non (pe_lc (own := [("_law_one", 5)]) (by rfl) sc_spoilt.nd (pi_listK (K := K) rfl (pv 4)) (blkOk_by (own := [("_law_one", 5)]) (N := ["_law_pot_here", "_law_things", "_law_way", "_law_at", "_law_found", "_law_one"]) (sc := defScope s_spoilt) (by decide +kernel)) (fun _ _ _ _ _ => (pg_name (i := 5) sc_spoilt.nd rfl (by first | exact Or.inl rfl | exact Or.inr rfl))) (fun _ _ _ _ _ => pts_nil) (fun _ _ _ _ _ => (pe_call (ok_pair T) (hr.mono (by decide)) (by rfl) T.m_pair T.F_pair.kp (b_pair T) .nil pass0 (pa_cons (pv 5) pa_nil)))) rfl)))) (pe_call (ok_odd T) (hr.mono (by decide)) (by rfl) T.m_odd T.F_odd.kp (b_odd T) .nil pass0 (pa_cons (pv 0) (pa_cons (pv 4) pa_nil))) (pv 4))))))))), ?_⟩
    have ln := ha.len
    refine ⟨_, rfl, p, _, rfl, hp, by decide, by unfold Bd; decide, fun H1 way m1 w0 w6 => ?_⟩
    have eq1 := m1.keep _ _ nq eq
    refine ⟨_, rfl, _, rfl, _, _, rfl, .inl (SqL.of eq1), p, _, rfl, m1.pot, by omega, by unfold Bd; omega, fun H2 at_ m2 a0 a1 => ?_⟩
    obtain ⟨i, rfl⟩ := Int.eq_ofNat_of_zero_le a0
    have hi : i < l.length := by omega
    have M := m1.trans m2
    have ha := Ats.kp (pot_lst hp) (kp_mov M) _ _ ha
    have eq := m2.keep _ _ nq eq1
    have hp0 := hp
    have hp := M.pot
    have up : ∀ e ∈ l, El (n + 8) e := fun e he => Ok.mono (show n ≤ n + 8 by omega) _ _ (el e he).2
    refine ⟨_, _, rfl, ?_⟩
    refine ⟨_, rfl, rfl, _, rfl, ite2 (fun h0 => ?_) (fun h0 => ?_)⟩
    · -- one left out
      refine ⟨_, rfl, _, rfl, _, rfl, q, _, rfl, SqL.of eq, fun c1 hc1 => ?_⟩
      rw [cut_to (by rw [ln]; omega)]
      generalize e_J1 : upd _ c1 _ = J1
      obtain ⟨j1, g1⟩ := al3 e_J1 hc1
      clear e_J1
      (try dsimp only at g1)
      refine ⟨_, rfl, _, rfl, _, _, rfl, rfl, _, rfl, q, _, rfl, SqL.of (j1 _ _ eq), fun c2 hc2 => ?_⟩
      rw [show (i : Int) + 1 = ((i + 1 : Nat) : Int) by omega, cut_from (by rw [ln]; omega)]
      generalize e_J2 : upd _ c2 _ = J2
      obtain ⟨j2, g2⟩ := al3 e_J2 hc2
      clear e_J2
      (try dsimp only at g2)
      refine ⟨c1, c2, _, _, rfl, rfl, j2 _ _ g1, g2, szle (by rw [List.length_take, List.length_drop]; omega), fun l3 hl3 => ?_⟩
      have sz3 := Lb.Same.upd (o := .lst (List.take i xs ++ List.drop (i + 1) xs)) hl3
      have S := (j1.trans j2).trans sz3
      have ha := Ats.same S _ _ ha
      refine k _ l3 (l.take i ++ l.drop (i + 1)) _ (M.same S) (PotAt.ne_ref (pot_same (j1.trans j2) hp) hl3) upd_same ((Ats.take i ha).append (Ats.drop (i + 1) ha)) (all_append (fun e he => up e (List.mem_of_mem_take he)) fun e he => up e (List.mem_of_mem_drop he)) ?_
      rw [List.length_append, List.length_take, List.length_drop]
      omega
    refine ⟨_, rfl, rfl, _, rfl, ite2 (fun h1 => ?_) (fun h1 => ?_)⟩
    · -- turned about
      refine ⟨_, rfl, _, rfl, _, rfl, q, _, rfl, SqL.of eq, fun c1 hc1 => ?_⟩
      rw [cut_from (by rw [ln]; omega)]
      generalize e_J1 : upd _ c1 _ = J1
      obtain ⟨j1, g1⟩ := al3 e_J1 hc1
      clear e_J1
      (try dsimp only at g1)
      refine ⟨_, rfl, _, rfl, _, rfl, q, _, rfl, SqL.of (j1 _ _ eq), fun c2 hc2 => ?_⟩
      rw [cut_to (by rw [ln]; omega)]
      generalize e_J2 : upd _ c2 _ = J2
      obtain ⟨j2, g2⟩ := al3 e_J2 hc2
      clear e_J2
      (try dsimp only at g2)
      refine ⟨c1, c2, _, _, rfl, rfl, j2 _ _ g1, g2, szle (by rw [List.length_take, List.length_drop]; omega), fun l3 hl3 => ?_⟩
      have sz3 := Lb.Same.upd (o := .lst (List.drop i xs ++ List.take i xs)) hl3
      have S := (j1.trans j2).trans sz3
      have ha := Ats.same S _ _ ha
      refine k _ l3 (l.drop i ++ l.take i) _ (M.same S) (PotAt.ne_ref (pot_same (j1.trans j2) hp) hl3) upd_same ((Ats.drop i ha).append (Ats.take i ha)) (all_append (fun e he => up e (List.mem_of_mem_drop he)) fun e he => up e (List.mem_of_mem_take he)) ?_
      rw [List.length_append, List.length_take, List.length_drop]
      omega
    refine ⟨_, rfl, rfl, _, rfl, ite2 (fun h2 => ?_) (fun h2 => ?_)⟩
    · -- one twice
      obtain ⟨e, he⟩ : ∃ e, l[i]? = some e := ⟨_, List.getElem?_eq_getElem hi⟩
      obtain ⟨v, hv, hve⟩ := ha.get he
      refine ⟨_, rfl, _, rfl, _, rfl, q, _, rfl, SqL.of eq, fun c1 hc1 => ?_⟩
      rw [cut_to (by rw [ln]; omega)]
      generalize e_J1 : upd _ c1 _ = J1
      obtain ⟨j1, g1⟩ := al3 e_J1 hc1
      clear e_J1
      (try dsimp only at g1)
      refine ⟨_, rfl, _, rfl, _, _, _, _, rfl, rfl, SqL.of (j1 _ _ eq), atI_nat hv, sz, fun l1 hl1 => ?_⟩
      generalize e_J2 : upd _ l1 _ = J2
      obtain ⟨j2, g2⟩ := al3 e_J2 hl1
      clear e_J2
      (try dsimp only at g2)
      refine ⟨c1, l1, _, _, rfl, rfl, j2 _ _ g1, g2, szle (by rw [List.length_take]; show _ + 1 ≤ _; omega), fun l2 hl2 => ?_⟩
      generalize e_J3 : upd _ l2 _ = J3
      obtain ⟨j3, g3⟩ := al3 e_J3 hl2
      clear e_J3
      (try dsimp only at g3)
      have J := (j1.trans j2).trans j3
      refine ⟨_, rfl, _, rfl, _, rfl, q, _, rfl, SqL.of (J _ _ eq), fun c2 hc2 => ?_⟩
      rw [cut_from (by rw [ln]; omega)]
      generalize e_J4 : upd _ c2 _ = J4
      obtain ⟨j4, g4⟩ := al3 e_J4 hc2
      clear e_J4
      (try dsimp only at g4)
      refine ⟨l2, c2, _, _, rfl, rfl, j4 _ _ g3, g4, szle (by rw [List.length_append, List.length_take, List.length_drop]; show _ + 1 + _ ≤ _; omega), fun l3 hl3 => ?_⟩
      have sz3 := Lb.Same.upd (o := .lst (List.take i xs ++ [v] ++ List.drop i xs)) hl3
      have S := (J.trans j4).trans sz3
      have ha := Ats.same S _ _ ha
      refine k _ l3 (l.take i ++ [e] ++ l.drop i) _ (M.same S) (PotAt.ne_ref (pot_same (J.trans j4) hp) hl3) upd_same (((Ats.take i ha).append (ats_cons (At.same S _ _ hve) ats_nil)).append (Ats.drop i ha)) (all_append (all_snoc (fun e he => up e (List.mem_of_mem_take he)) (up e (List.mem_of_getElem? he))) fun e he => up e (List.mem_of_mem_drop he)) ?_
      rw [List.length_append, List.length_append, List.length_take, List.length_drop]
      show _ + 1 + _ ≤ _
      omega
    -- an odd one, perhaps two
    refine ⟨_, rfl, _, rfl, p, q, l, xs, n, rfl, hp, eq, nq, ha, el, l0, by omega, n10, by omega, fun H3 q3 l3 xs3 m3 n3 e3 ha3 el3 ln3 => ?_⟩
    have M3 := M.trans m3
    have fin : Q (.ref q3) H3 := k _ q3 l3 xs3 M3 n3 e3 ha3 (fun e he => Ok.mono (show n + 4 ≤ n + 8 by omega) _ _ (el3 e he)) (by omega)
    refine ⟨_, rfl, rfl, _, rfl, ite2 (fun h3 => ?_) (fun h3 => iteF ⟨_, rfl, fin⟩)⟩
    refine ⟨_, rfl, q3, rfl, ⟨_, SqL.of e3⟩, fun D hD => ?_⟩
    have hp3 := M3.pot
    have lx3 := ha3.len
    have nD := PotAt.ne_ref hp3 hD
    refine lc_list (K := K) (a := q3) (xs := xs3) (fun i H' => Same H3 H' ∧ ∃ ys : List V, H' D = some (.lst ys) ∧ Paired (PrAt H') ys ((l3.take i).map pairOf)) ⟨Lb.Same.upd hD, [], upd_same, .nil⟩ (fun i H' _ b => SqL.of (b.1 _ _ e3)) ?_ ?_
    · rintro i v H' hi ⟨s', ys, eD, py⟩
      obtain ⟨d, hd, hv⟩ := ha3.at_ hi
      have lys := Paired.len py
      rw [List.length_map, List.length_take] at lys
      have nl : ∀ {H3 : Hp} {x : V} {ys : List V} {o : Option Pt}, H3 D = some (.lst ys) → PrAt H3 x o → ∀ zs, PrAt (upd H3 D (.lst zs)) x o := fun {H3 x ys o} e h zs => by
        cases o with
        | none => exact h
        | some z => obtain ⟨r, e', h⟩ := h; exact ⟨r, e', h.nl (NL.upd e)⟩
      refine ⟨rfl, ?_⟩
      have fin : ∀ {H4 : Hp} {x : V}, Same H' H4 → PrAt H4 x (pairOf d) → ∃ acc, H4 D = some (.lst acc) ∧ acc.length < sizeLine ∧ Same H3 (upd H4 D (.lst (acc ++ [x]))) ∧ ∃ ys : List V, (upd H4 D (.lst (acc ++ [x]))) D = some (.lst ys) ∧ Paired (PrAt (upd H4 D (.lst (acc ++ [x])))) ys ((l3.take (i + 1)).map pairOf) := by
        intro H4 x s4 hx
        have e4 := s4 _ _ eD
        refine ⟨ys, e4, szlt (by omega), Lb.Same.updl (s'.trans s4) hD, ys ++ [x], upd_same, ?_⟩
        rw [← take_snoc hd, List.map_append]
        exact paired_snoc (Paired.imp py fun _ _ h => nl e4 (h.same s4) _) (nl e4 hx _)
      refine ⟨_, rfl, p, v, d, rfl, At.same s' _ _ hv, fun m e => ?_, fun e H4 s4 => fin s4 (by rw [e]; rfl), fun z e H4 r s4 _ f => fin s4 (by rw [e]; exact ⟨r, rfl, f⟩)⟩
      have := el3 d (List.mem_of_getElem? hd)
      rw [e] at this
      have := (show m.length ≤ 3 ∧ _ from this).1
      omega
    rintro H4 ⟨s4, ys, eD, py⟩
    rw [lx3, List.take_length] at py
    refine ⟨.none, (l3.map pairOf).map prD, .non, .lst (SqL.of eD) (dp_all py), rfl, prs_shaped _, _, rfl, ite2 (fun hn => ?_) (fun hn => ?_)⟩
    · have all : ∀ e ∈ l3, ∃ z, pairOf e = some z := fun e he => by
        cases hz : pairOf e with
        | some z => exact ⟨z, rfl⟩
        | none =>
          exfalso
          have : (((l3.map pairOf).map prD).any fun z => PyData.eqv z .none) = true := by
            rw [List.any_eq_true]
            exact ⟨prD none, List.mem_map.mpr ⟨none, List.mem_map.mpr ⟨e, he, hz⟩, rfl⟩, rfl⟩
          rw [this] at hn
          cases hn
      refine ⟨_, rfl, _, rfl, p, q3, l3, xs3, n + 4, rfl, pot_same s4 hp3, s4 _ _ e3, n3, Ats.same s4 _ _ ha3, fun e he => ⟨all e he, el3 e he⟩, by omega, by omega, by omega, by omega, fun H5 q5 l5 xs5 m5 n5 e5 ha5 el5 ln5 => ?_⟩
      exact k _ q5 l5 xs5 ((M3.same s4).trans m5) n5 e5 ha5 (fun e he => el5 e he) (by omega)
    · exact ⟨_, rfl, k _ q3 l3 xs3 (M3.same s4) n3 (s4 _ _ e3) (Ats.same s4 _ _ ha3) (fun e he => Ok.mono (show n + 4 ≤ n + 8 by omega) _ _ (el3 e he)) (by omega)⟩
theorem ok_long (T : Txt K mg a) : FnOk P w K mg base CX0 9 a.f_long a.d_long ["_law_pot_here", "_law_many"] (sp_long a.c_Amount) := by
  refine T.F_long.ok sc_long (fun vs H Q E h => ?_) (fun cdv A outer s H vs Q E hr h => ?_)
  · obtain ⟨p, m, rfl, _⟩ := h
    rfl
  · obtain ⟨p, m, rfl, hp, m1, m90, k⟩ := h
    refine ⟨_, (pss_cons (ps_set (i := 2) sc_long.nd rfl (by first | exact Or.inl rfl | exact Or.inr rfl) (pe_op op_sub pe_int (pe_call (ok_draw T) (hr.mono (by decide)) (by rfl) T.m_draw T.F_draw.kp (b_draw T) .nil pass0 (pa_cons (pv 0) (pa_cons (pv 1) pa_nil)))))
 (pss_cons (ps_setLc (i := 3) (own := [("_law_at", 4)]) rfl sc_long.nd rfl rfl (sw_true rfl rfl rfl (by decide +kernel)) (pi_range1 rfl T.b_range (pa_cons (pv 1) pa_nil)) (blkOk_by (own := [("_law_at", 4)]) (N := ["_law_pot_here", "_law_many", "_law_first", "_law_found", "_law_at"]) (sc := defScope s_long) (by decide +kernel)) (fun _ _ _ _ _ => (pg_name (i := 4) sc_long.nd rfl (by first | exact Or.inl rfl | exact Or.inr rfl))) (fun _ _ _ _ _ => pts_nil) (fun _ _ _ _ _ => (pe_tup (pa_cons (pe_op op_add (pv 2) (pv 4)) (pa_cons (pe_op op_mulX pe_int (pe_op op_add (pv 2) (pv 4))) pa_nil)))))
 (pss_one (ps_ret (pe_ifExp (pt_cmpR op_eq (pe_call (ok_draw T) (hr.mono (by decide)) (by rfl) T.m_draw T.F_draw.kp (b_draw T) .nil pass0 (pa_cons (pv 0) (pa_cons pe_int pa_nil))) pe_int (nomark _)) (pv 3) (pe_call (ok_odd T) (hr.mono (by decide)) (by rfl) T.m_odd T.F_odd.kp (b_odd T) .nil pass0 (pa_cons (pv 0) (pa_cons (pv 3) pa_nil)))))))), ?_⟩
    refine ⟨_, rfl, _, rfl, p, _, rfl, hp, by omega, by unfold Bd; omega, fun H1 f M1 f0 f1 => ⟨_, _, rfl, rfl, ?_⟩⟩
    refine ⟨_, rfl, _, rfl, by omega, by omega, fun D hD => ?_⟩
    have nD := PotAt.ne_ref M1.pot hD
    refine lc_range (lo := 0) (n := (m : Int).toNat) (fun i H' => Same H1 H' ∧ ∃ xs : List V, H' D = some (.lst xs) ∧ Paired (Lr H') xs ((List.range i).map fun j : Nat => 0 - f + (0 + (j : Int)))) ⟨Lb.Same.upd hD, [], upd_same, .nil⟩ ?_ ?_
    · rintro i H' hi ⟨s', xs, eD, pr⟩
      have lx := Paired.len pr
      rw [List.length_map, List.length_range] at lx
      refine ⟨rfl, ?_⟩
      refine ⟨_, rfl, _, rfl, _, _, rfl, rfl, _, rfl, _, rfl, _, _, rfl, rfl, _, _, rfl, rfl, mulx_ok (a := 100) (b := 100) (by decide) (by omega) (by decide), sz, fun t ht => ?_⟩
      generalize e_G : upd _ t _ = G
      obtain ⟨s, g⟩ := al3 e_G ht
      clear e_G
      (try dsimp only at g)
      have N : NL G (upd G D (.lst (xs ++ [V.ref t]))) := NL.upd (s _ _ eD)
      refine ⟨xs, s _ _ eD, szlt (by omega), Lb.Same.updl (s'.trans s) hD, xs ++ [.ref t], upd_same, ?_⟩
      rw [List.range_succ, List.map_append]
      exact paired_snoc (Paired.imp pr fun _ _ h => (h.same s).nl N) (Lr.nl ⟨t, rfl, g⟩ N)
    rintro H2 ⟨s2, xs, eD, pr⟩
    have M2 := M1.same s2
    have bnd : ∀ x ∈ (List.range (m : Int).toNat).map fun j : Nat => 0 - f + (0 + (j : Int)), x.natAbs < 100 := fun x hx => by
      obtain ⟨j, hj, rfl⟩ := List.mem_map.mp hx
      have := List.mem_range.mp hj
      omega
    have ha := lr_at (C := a.c_Amount) (p := p) pr
    have hall := lr_all bnd
    have lm : (((List.range (m : Int).toNat).map fun j : Nat => 0 - f + (0 + (j : Int))).map lrD).length = m := by rw [List.length_map, List.length_map, List.length_range]; omega
    refine ⟨_, rfl, p, _, rfl, M2.pot, by decide, by unfold Bd; decide, fun H3 c m3 c0 c1 => ⟨rfl, _, rfl, ite2 (fun h0 => ?_) (fun h0 => ?_)⟩⟩
    · exact ⟨_, rfl, k _ D _ xs (M2.trans m3) nD (m3.keep _ _ nD eD) (Ats.kp (pot_lst M2.pot) (kp_mov m3) _ _ ha) (fun e he => Ok.mono (show 10 ≤ 14 by decide) _ _ (hall e he).2) lm⟩
    · refine ⟨_, rfl, _, rfl, p, D, _, xs, 10, rfl, m3.pot, m3.keep _ _ nD eD, nD, Ats.kp (pot_lst M2.pot) (kp_mov m3) _ _ ha, hall, by omega, by omega, by decide, by decide, fun H4 q4 l4 xs4 m4 n4 e4 ha4 el4 ln4 => ?_⟩
      exact k _ q4 l4 xs4 ((M2.trans m3).trans m4) n4 e4 ha4 el4 (ln4.trans lm)
end
end K19

set_option Elab.async false
set_option linter.all false
set_option maxRecDepth 100000
set_option maxHeartbeats 4000000
/-! repr of a dict whose keys are tuples -/
namespace Lb
open PySem PySem.Spec PyProof.Rows L2
section
variable {X : Cx} {pins : List (Addr × Obj)} {σ : L2.St} {H : Hp} {s : Shared}
theorem valsT {H : Hp} : ∀ {kvs : List (List Key × V)} {xs : List (List Key × Addr × Value)}, KT H kvs xs → Vals (kvs.map (·.2)) (xs.map (·.2.2)) := by
  intro kvs xs r
  induction r with
  | nil => exact .nil
  | cons h1 _ ih => exact .cons h1.2.2 ih
theorem dictT_reads (I : Inv X pins σ H s) {a : Addr} {kvs : List (List Key × V)} {ds : List PyData} (e : H a = some (.dT kvs)) (hd : DpAll X.K H (kvs.map (·.2)) ds) (f : flatDs ds = true) :
    Reads s.heap (.ref a) (.dict ((kvs.map fun q => keyT q.1).zip ds)) [a] ∧ sysModules ≠ a := by
  obtain ⟨_, hsm, xs, r, o, es, ep, h1, h2, h3, h4, _⟩ := (show ObjOk X.prog X.w H s.heap a (.dT kvs) from I.hok a _ e)
  have r1 := keys_readT I r
  rw [← h4] at r1
  obtain ⟨bs, r2⟩ := Dp.readsAll I ds _ _ hd (valsT r)
  have ve : es.toList.map (·.val) = xs.map (·.2.2) := by
    rw [h4, List.map_map]
    rfl
  have e2 := reads_flats r2 f
  subst e2
  have ln : (kvs.map fun q => keyT q.1).length = ds.length := by
    have := dpAll_len hd
    rw [List.length_map] at this ⊢
    exact this
  refine ⟨?_, fun z => ?_⟩
  · exact Reads.dict (as := []) (bs := []) (kvs := (kvs.map fun q => keyT q.1).zip ds) h1 h2.1 h3 (by rw [List.map_fst_zip (Nat.le_of_eq ln)]; exact r1) (by rw [List.map_snd_zip (Nat.le_of_eq ln.symm), ve]; exact r2)
  · rw [z] at hsm
    simp at hsm
/-- repr(d), d a tracked dict with tuple keys and plain data -/
def rReprDT (K : PySem.W.Frag) : List V → Hp → VK → Prop := fun xs H Q =>
  ∃ a kvs ds, xs = [.ref a] ∧ H a = some (.dT kvs) ∧ DpAll K H (kvs.map (·.2)) ds ∧ flatDs ds = true ∧ (PyData.dict ((kvs.map fun q => keyT q.1).zip ds)).showable = true ∧ (PyData.dict ((kvs.map fun q => keyT q.1).zip ds)).shown.length ≤ sizeLine ∧
    (PyData.dict ((kvs.map fun q => keyT q.1).zip ds)).depth ≤ 60 ∧ Q (.str (PyData.dict ((kvs.map fun q => keyT q.1).zip ds)).shown) H
theorem call_reprDT {K : PySem.W.Frag} (hK : X.K = K) (hg : X.A.guards = some []) (hu : X.A.units + 64 < cLine) : CallR X (.builtin "repr") (rReprDT K) := by
  subst hK
  intro pins s σ H xs us Q I r h
  obtain ⟨a, kvs, ds, rfl, e, hd, f, sh, hz, dp, q⟩ := h
  obtain ⟨u, rfl, ru⟩ := vals1 r
  cases (show u = Value.ref a from ru)
  obtain ⟨rd, ne⟩ := dictT_reads I e hd f
  refine PySem.repr_of_reads' rd sh (fun _ z => ne (List.mem_singleton.mp z)) hg (by omega) (fun _ _ e => e) (fun h' w tk k => ?_) hz
  exact ⟨.str _, H, I.kept k, ⟨_, rfl⟩, q⟩
end
end Lb

set_option Elab.async false
set_option linter.all false
set_option maxRecDepth 100000
set_option maxHeartbeats 4000000
set_option exponentiation.threshold 10000
namespace K19
open PySem L2 Lb
open PySem.Spec PyProof.Rows
/-! how a thing is shown -/
def dtText : Str := (PyData.dict [(.tuple [.int 1, .int 1], .int 0)]).shown
def shown : Dt → Str
  | .dt => dtText
  | d => (tr d).text
theorem showI {i : Int} (h : Bd 1800 i) : (PyData.int i).showable = true := by
  have h : i.natAbs < 2 ^ 1800 := h
  have : i.natAbs.log2 < 1920 := by
    rcases Nat.eq_zero_or_pos i.natAbs with e | e
    · rw [e]; decide
    · exact Nat.lt_of_lt_of_le ((Nat.log2_lt (by omega)).mpr h) (by decide)
  simpa [PyData.showable] using this
/-- what may be passed -/
def Th (n : Nat) (bs : List Nat) (d : Dt) : Prop := (Ok n bs d ∧ isAm d = false) ∨ d = .dt
def rShowV (C : Addr) : List V → Hp → VK → Prop := fun xs H Q => ∃ p v d n bs, xs = [v] ∧ At C p H d v ∧ Th n bs d ∧ n ≤ 1800 ∧ bs.length + 1 ≤ 8 ∧ Tb bs ≤ sizeLine ∧ ∀ H', Same H H' → Q (.str (shown d)) H'
theorem call_showV {X : Cx} {K : PySem.W.Frag} {a : Ad} {k : Nat} (hK : X.K = K) (hg : X.A.guards = some []) (hu : X.A.units + 8 + 64 < cLine) (T : Txt X.K X.mg a) (hr : Room (k + 8) X.A) (hk : 3 ≤ k := by decide) : CallR X (.builtin "repr") (rShowV a.c_Amount) := by
  intro pins s σ H xs us Q I r h
  obtain ⟨p, v, d, n, bs, rfl, ha, th, hn, hb, htb, q⟩ := h
  rcases th with ⟨ok, nam⟩ | rfl
  · have hlen := text_le hn bs d ok
    have hdep := dep_ok bs d ok
    have sh := at_sh (K := X.K) hn bs d v ok ha
    have q' : ∀ H', Same H H' → Q (.str (tr d).text) H' := fun H' s' => by
      have e := q H' s'
      cases d with
      | dt => cases bs <;> exact ok.elim
      | _ => exact e
    have flat : ∀ (D : PyData), Dp X.K H v D → D.showable = true → D.depth ≤ 60 → D.shown = (tr d).text → wpAny (model X.prog X.w) X.A (call (.builtin "repr") us) (EP X pins σ Q) X.xe s := fun D dp sh de e =>
      call_repr (K := X.K) rfl hg (by omega) pins s σ H [v] us Q I r ⟨v, D, rfl, dp, sh, by rw [e]; omega, de, e ▸ q' H (Same.refl H)⟩
    cases d with
    | ls l => exact call_show (K := X.K) (O := OV a.c_Amount) (D := 8) rfl hg hu own_v (ow_v T (hr.mono (by omega)) hu hk) pins s σ H [v] us Q I r ⟨v, _, rfl, sh, ⟨trs l, .inl rfl⟩, by omega, by omega, q'⟩
    | tp l => exact call_show (K := X.K) (O := OV a.c_Amount) (D := 8) rfl hg hu own_v (ow_v T (hr.mono (by omega)) hu hk) pins s σ H [v] us Q I r ⟨v, _, rfl, sh, ⟨trs l, .inr rfl⟩, by omega, by omega, q'⟩
    | non => simp only [At] at ha; subst ha; exact flat .none .non rfl (by decide) rfl
    | bl b => simp only [At] at ha; subst ha; exact flat (.bool b) (.bl b) rfl (by cases b <;> decide) (by cases b <;> rfl)
    | int i =>
      simp only [At] at ha; subst ha
      have bi : Bd n i := by cases bs <;> exact ok
      exact flat (.int i) (.int i) (showI (bi.mono hn)) (Nat.zero_le _) rfl
    | str z => simp only [At] at ha; subst ha; exact flat (.str z) (.str z) rfl (Nat.zero_le _) rfl
    | am x => cases nam
    | dc =>
      simp only [At] at ha
      obtain ⟨b, rfl, e⟩ := ha
      exact call_reprDc (K := X.K) rfl hg (by omega) pins s σ H [.ref b] us Q I r ⟨b, [], [], rfl, e, .nil, rfl, rfl, (show _ ≤ sizeLine by decide +kernel), (by decide), q' H (Same.refl H)⟩
    | dt => cases bs <;> exact ok.elim
  · simp only [At] at ha
    obtain ⟨b, rfl, e⟩ := ha
    exact call_reprDT (K := X.K) rfl hg (by omega) pins s σ H [.ref b] us Q I r ⟨b, _, [.int 0], rfl, e, .cons (.int _) .nil, rfl, (by decide +kernel), (show _ ≤ sizeLine by decide +kernel), (by decide), q H (Same.refl H)⟩
theorem ptp_el {C p : Addr} {H : Hp} {v : V} {z : Pt} {n : Nat} (h : PtP C H v z) (l : PtL n z) : ∃ d, At C p H d v ∧ pairOf d = some z ∧ El n d := by
  obtain ⟨t, u, w, rfl, et, iu, iw⟩ := h
  obtain ⟨dx, h1, a1, c1⟩ := at_isP (p := p) iu
  obtain ⟨dy, h2, a2, c2⟩ := at_isP (p := p) iw
  refine ⟨.tp [dx, dy], at_tp et (ats_cons a1 (ats_cons a2 ats_nil)), by simp only [pairOf, h1, h2, if_pos l.s], by simp, fun e he => ?_⟩
  rcases List.mem_cons.mp he with rfl | he
  · rcases c1 with ⟨rfl, _⟩ | rfl
    · exact l.x.t
    · exact l.x
  · rw [List.mem_singleton.mp he]
    rcases c2 with ⟨rfl, _⟩ | rfl
    · exact l.y.t
    · exact l.y
theorem ptps_el {C p : Addr} {H : Hp} {n : Nat} : ∀ {ws : List V} {zs : List Pt}, Paired (PtP C H) ws zs → (∀ z ∈ zs, PtL n z) → ∃ l, Ats C p H l ws ∧ ∀ e ∈ l, (∃ z, pairOf e = some z) ∧ El n e
  | _, _, .nil, _ => ⟨[], ats_nil, fun e he => absurd he List.not_mem_nil⟩
  | _, _, .cons h k, hl => by
    obtain ⟨d, a, hz, e⟩ := ptp_el (p := p) h (hl _ List.mem_cons_self)
    obtain ⟨l, as, es⟩ := ptps_el (p := p) k fun z hz => hl z (List.mem_cons_of_mem _ hz)
    refine ⟨d :: l, ats_cons a as, fun x hx => ?_⟩
    rcases List.mem_cons.mp hx with rfl | hx
    · exact ⟨⟨_, hz⟩, e⟩
    · exact es x hx
theorem el_sm {n : Nat} {d : Dt} (h : El n d) (hn : 1 ≤ n) : Sm n d := fun l e x hx z hz => am_low hz (ok_in (e ▸ h) hx)
theorem th_good {d : Dt} (h : Th 40 [100, 3, 3] d) : GoodD 40 d := by
  rcases h with ⟨h, _⟩ | rfl
  · cases d with
    | ls l =>
      obtain ⟨h1, h2⟩ := (show l.length ≤ 100 ∧ ∀ e ∈ l, Ok 40 [3, 3] e from h)
      exact ⟨fun e he => el_sm (h2 e he) (by decide), by decide, h1⟩
    | tp l =>
      obtain ⟨h1, h2⟩ := (show l.length ≤ 100 ∧ ∀ e ∈ l, Ok 40 [3, 3] e from h)
      exact ⟨fun e he => el_sm (h2 e he) (by decide), by decide, h1⟩
    | _ => exact ⟨fun e he => absurd he List.not_mem_nil, by decide, Nat.zero_le _⟩
  · exact ⟨fun e he => absurd he List.not_mem_nil, by decide, Nat.zero_le _⟩
theorem th_len {d : Dt} (h : Th 40 [100, 3, 3] d) : ∀ e ∈ elems d, ∀ m, e = .tp m → m.length ≤ 100 := fun e he m em => by
  rcases h with ⟨h, _⟩ | rfl
  · cases d with
    | ls l =>
      have := (show l.length ≤ 100 ∧ ∀ e ∈ l, Ok 40 [3, 3] e from h).2 e he
      rw [em] at this
      exact Nat.le_trans (show m.length ≤ 3 ∧ _ from this).1 (by decide)
    | tp l =>
      have := (show l.length ≤ 100 ∧ ∀ e ∈ l, Ok 40 [3, 3] e from h).2 e he
      rw [em] at this
      exact Nat.le_trans (show m.length ≤ 3 ∧ _ from this).1 (by decide)
    | _ => exact absurd he List.not_mem_nil
  · exact absurd he List.not_mem_nil
theorem bad_lt : ∀ (l : List (Option Pt)) (o : Option Pt) (i j : Nat), badFrom o i l = some j → j < i + l.length
  | [], o, i, j, h => by cases o <;> cases h
  | none :: r, o, i, j, h => by cases o <;> cases h <;> (rw [List.length_cons]; omega)
  | some z :: r, none, i, j, h => by have := bad_lt r (some z) (i + 1) j h; rw [List.length_cons]; omega
  | some z :: r, some y, i, j, h => by
    unfold badFrom at h
    split at h
    · have := bad_lt r (some z) (i + 1) j h; rw [List.length_cons]; omega
    · cases h; rw [List.length_cons]; omega
theorem vd_at {d : Dt} {i : Nat} (h : vd d = .at_ i) : i < (elems d).length := by
  unfold vd at h
  split at h
  · cases h
  · split at h
    · cases h
    · split at h
      · rename_i j hb
        have e : j = i := by injection h
        have := bad_lt _ _ _ _ hb
        rw [List.length_map] at this
        omega
      · split at h <;> cases h
theorem due_ok {d : Dt} (g : GoodD 40 d) : Ok 40 [3, 170, 3, 3] (dueD d) ∧ isAm (dueD d) = false := by
  unfold dueD
  have st : ∀ z : Str, (reprText z).length ≤ 100 → Ok 40 [170, 3, 3] (.str z) := fun z h => h
  cases hv : vd d with
  | nil => exact ⟨⟨by simp, all_cons (st _ (by decide +kernel)) (all_cons trivial all_nil)⟩, rfl⟩
  | at_ i =>
    refine ⟨⟨by simp, all_cons (st _ (by decide +kernel)) (all_cons ?_ all_nil)⟩, rfl⟩
    have := vd_at hv
    have := g.len
    show (i : Int).natAbs < 2 ^ 40
    omega
  | many => exact ⟨⟨by simp, all_cons (st _ (by decide +kernel)) (all_cons (st _ (by decide +kernel)) (all_cons (show (80 : Int).natAbs < 2 ^ 40 by decide) all_nil))⟩, rfl⟩
  | made zs =>
    obtain ⟨_, pts, _⟩ := pts_made g hv
    refine ⟨⟨by simp, all_cons (st _ (by decide +kernel)) (all_cons ⟨?_, fun e he => ?_⟩ all_nil)⟩, rfl⟩
    · rw [List.length_map]
      unfold withO
      rw [List.length_append, List.length_cons]
      have := List.length_filter_le isNeg zs
      have := List.length_filter_le isPos zs
      have := pts.most
      omega
    · obtain ⟨z, hz, rfl⟩ := List.mem_map.mp he
      have lz : Low 40 z.1 ∧ Low 40 z.2 := by
        unfold withO at hz
        rcases List.mem_append.mp hz with hz | hz
        · have := pts.l z (List.mem_filter.mp hz).1
          exact ⟨this.x, this.y⟩
        · rcases List.mem_cons.mp hz with rfl | hz
          · exact ⟨org_low, org_low⟩
          · have := pts.l z (List.mem_filter.mp hz).1
            exact ⟨this.x, this.y⟩
      refine ⟨by simp, all_cons (x := qDt z.1) ⟨by simp, all_cons lz.1.t (all_cons lz.1.b all_nil)⟩ (all_cons (x := qDt z.2) ⟨by simp, all_cons lz.2.t (all_cons lz.2.b all_nil)⟩ all_nil)⟩
def sp_right : Sp := fun vs H Q _ => ∃ (p : Addr), vs = [.ref p] ∧ PotAt H p ∧ ∀ H', Mov p H H' → Q (.bl true) H'
section
variable {P : Program} {w : World} {K : PySem.W.Frag} {mg : Str → Option Value} {base : Heap} {a : Ad}
theorem ok_right (T : Txt K mg a) : FnG P w K mg base CX0 15 a.f_right a.d_right ["_law_pot_here"] sp_right := by
  refine okG T.F_right sc_right (fun vs H Q E h => ?_) (fun cdv A outer s H vs Q E gu hr h => ?_)
  · obtain ⟨p, rfl, _⟩ := h
    rfl
  · obtain ⟨p, rfl, hp, k⟩ := h
    refine ⟨_, (pss_cons (ps_set (i := 1) sc_right.nd rfl (by first | exact Or.inl rfl | exact Or.inr rfl) (pe_callTy call_list_of (by rfl) T.b_list (by decide +kernel) (pa_cons (pe_call (ok_passed T) (hr.mono (by decide)) (by rfl) T.m_passed T.F_passed.kp (b_passed T) .nil pass0 (pa_cons (pv 0) (pa_cons (pe_call (ok_points T) (hr.mono (by decide)) (by rfl) T.m_points T.F_points.kp (b_points T) .nil pass0 (pa_cons (pv 0) pa_nil)) pa_nil))) pa_nil)))
 (pss_cons (ps_set (i := 1) sc_right.nd rfl (by first | exact Or.inl rfl | exact Or.inr rfl) (pe_lst (pa_cons (pv 1) (pa_cons (pe_call (ok_spoilt T) (hr.mono (by decide)) (by rfl) T.m_spoilt T.F_spoilt.kp (b_spoilt T) .nil pass0 (pa_cons (pv 0) (pa_cons (pv 1) pa_nil))) (pa_cons (pe_call (ok_spoilt T) (hr.mono (by decide)) (by rfl) T.m_spoilt T.F_spoilt.kp (b_spoilt T) .nil pass0 (pa_cons (pv 0) (pa_cons (pv 1) pa_nil))) (pa_cons (pe_callTy call_tuple_of (by rfl) T.b_tuple (by decide +kernel) (pa_cons (pe_call (ok_spoilt T) (hr.mono (by decide)) (by rfl) T.m_spoilt T.F_spoilt.kp (b_spoilt T) .nil pass0 (pa_cons (pv 0) (pa_cons (pv 1) pa_nil))) pa_nil)) pa_nil))))))
 (pss_cons (ps_set (i := 1) sc_right.nd rfl (by first | exact Or.inl rfl | exact Or.inr rfl) (pe_op op_cat (pv 1) (pe_lst (pa_cons (pe_call (ok_long T) (hr.mono (by decide)) (by rfl) T.m_long T.F_long.kp (b_long T) .nil pass0 (pa_cons (pv 0) (pa_cons (pe_op op_add pe_int (pe_call (ok_draw T) (hr.mono (by decide)) (by rfl) T.m_draw T.F_draw.kp (b_draw T) .nil pass0 (pa_cons (pv 0) (pa_cons pe_int pa_nil)))) pa_nil))) pa_nil))))
 (pss_cons (ps_set (i := 2) sc_right.nd rfl (by first | exact Or.inl rfl | exact Or.inr rfl) (pe_lst (pa_cons pe_non (pa_cons pe_int (pa_cons pe_bl (pa_cons pe_str (pa_cons pe_str (pa_cons pe_dnewK (pa_cons (pe_lst pa_nil) (pa_cons (pe_tup pa_nil) (pa_cons (pe_lst (pa_cons (pe_tup (pa_cons pe_int (pa_cons pe_int pa_nil))) pa_nil)) (pa_cons (pe_lst (pa_cons (pe_tup (pa_cons pe_int (pa_cons pe_int pa_nil))) (pa_cons (pe_tup (pa_cons pe_int (pa_cons pe_int pa_nil))) pa_nil))) (pa_cons (pe_lst (pa_cons (pe_tup (pa_cons (pe_make T.mkA (ok_Amount_init_ T) (hr.mono (by decide)) (by rfl) T.mA (b1_Amount_init_ T).choose_spec.2 (b1_Amount_init_ T).choose_spec.1 pass0 (pa_cons pe_int pa_nil)) (pa_cons pe_int pa_nil))) pa_nil)) (pa_cons (pe_lst (pa_cons (pe_lst (pa_cons pe_int (pa_cons pe_int pa_nil))) pa_nil)) (pa_cons (pe_lst (pa_cons pe_non pa_nil)) pa_nil)))))))))))))))
 (pss_cons (ps_expr (pe_bm PySem.F.plainAttrs_list PySem.F.slot_list_append PySem.F.type_list_append mt_append (pv 2) (pa_cons (pe_dispT (hu_of hr) (pe_tup (pa_cons pe_int (pa_cons pe_int pa_nil))) pe_int) pa_nil)))
 (pss_cons (ps_for PassesOwn.never rfl (pi_listK (K := K) rfl (pe_op op_cat (pv 1) (pe_lst (pa_cons (pe_call (ok_pick T) (hr.mono (by decide)) (by rfl) T.m_pick T.F_pick.kp (b_pick T) .nil pass0 (pa_cons (pv 0) (pa_cons (pv 2) pa_nil))) pa_nil)))) (pg_name (i := 3) sc_right.nd rfl (by first | exact Or.inl rfl | exact Or.inr rfl)) (pss_cons (ps_par (i := 4) (j := 5) rfl sc_right.nd rfl rfl (by decide) rfl rfl (pa_cons (pe_callB (call_showV (K := K) (a := a) (k := 3) rfl gu (room8 hr) T (hr.mono (by decide))) (by rfl) T.b_repr (by decide +kernel) (pa_cons (pv 3) pa_nil)) (pa_cons (pe_cmpR op_eq (pe_call (ok_draw T) (hr.mono (by decide)) (by rfl) T.m_draw T.F_draw.kp (b_draw T) .nil pass0 (pa_cons (pv 0) (pa_cons pe_int pa_nil))) pe_int (nomark _)) pa_nil)) (by rfl))
 (pss_one (ps_if (PW.pt (pw_or (pt_cmpR op_ne (pe_callB (call_showV (K := K) (a := a) (k := 3) rfl gu (room8 hr) T (hr.mono (by decide))) (by rfl) T.b_repr (by decide +kernel) (pa_cons (pe_call (ok_told T) (hr.mono (by decide)) (by rfl) T.m_told T.F_told.kp (b_told T) .nil pass0 (pa_cons (pv 3) (pa_cons (pv 5) pa_nil))) pa_nil)) (pe_callB (call_showV (K := K) (a := a) (k := 3) rfl gu (room8 hr) T (hr.mono (by decide))) (by rfl) T.b_repr (by decide +kernel) (pa_cons (pe_call (ok_due T) (hr.mono (by decide)) (by rfl) T.m_due T.F_due.kp (b_due T) .nil pass0 (pa_cons (pv 3) pa_nil)) pa_nil)) (nomark _)) (pw_or1 (pt_cmpR op_ne (pe_callB (call_showV (K := K) (a := a) (k := 3) rfl gu (room8 hr) T (hr.mono (by decide))) (by rfl) T.b_repr (by decide +kernel) (pa_cons (pv 3) pa_nil)) (pv 4) (nomark _))))) (pss_one (ps_ret pe_bl)) pss_nil))))
 (pss_one (ps_ret pe_bl)))))))), ?_⟩
    refine ⟨_, rfl, _, rfl, p, rfl, hp, fun H1 l zs m1 hl sp lp l9 => ⟨p, l, zs, 22, rfl, m1.pot, PotAt.ne_ref hp hl, sp, lp, by decide, fun H2 hd ws zs' m2 hhd hseq pw pts ew hlen => ⟨hd, ws, rfl, hseq.elim (fun e => .inl (SqL.of e)) fun e => .inr (SqT.of e), fun A1 hA1 => ?_⟩⟩⟩
    obtain ⟨lA, atA, elA⟩ := ptps_el (p := p) pw pts.l
    have M2 := m1.trans m2
    have nA := PotAt.ne_ref M2.pot hA1
    have lws := Paired.len pw
    have llA := atA.len
    have l0 : 0 < lA.length := by
      obtain ⟨z, hz, _⟩ := pts.some_
      have := List.length_pos_of_mem hz
      omega
    generalize e_H3 : upd _ A1 _ = H3
    obtain ⟨s3, eA⟩ := al3 e_H3 hA1
    clear e_H3
    (try dsimp only at eA)
    have M3 := M2.same s3
    have atA := Ats.same s3 _ _ atA
    clear pw hseq sp m1 m2
    refine ⟨_, rfl, ?_⟩
    -- spoilt
    refine ⟨_, rfl, _, rfl, p, A1, lA, ws, 22, rfl, M3.pot, eA, nA, atA, elA, l0, by omega, by decide, by decide, fun H4 B lB xB mB nB eB atB elB lenB => ?_⟩
    have kB := kp_mov mB
    have pB := pot_lst M3.pot
    have eA := mB.keep _ _ nA eA
    have atA := Ats.kp pB kB _ _ atA
    have M4 := M3.trans mB
    refine ⟨_, rfl, _, rfl, p, A1, lA, ws, 22, rfl, M4.pot, eA, nA, atA, elA, l0, by omega, by decide, by decide, fun H5 C lC xC mC nC eC atC elC lenC => ?_⟩
    have kC := kp_mov mC
    have pC := pot_lst M4.pot
    have eA := mC.keep _ _ nA eA
    have atA := Ats.kp pC kC _ _ atA
    have eB := mC.keep _ _ nB eB
    have atB := Ats.kp pC kC _ _ atB
    have M5 := M4.trans mC
    refine ⟨_, rfl, _, rfl, p, A1, lA, ws, 22, rfl, M5.pot, eA, nA, atA, elA, l0, by omega, by decide, by decide, fun H6 D lD xD mD nD eD atD elD lenD => ?_⟩
    have kD := kp_mov mD
    have pD := pot_lst M5.pot
    have eA := mD.keep _ _ nA eA
    have atA := Ats.kp pD kD _ _ atA
    have eB := mD.keep _ _ nB eB
    have atB := Ats.kp pD kD _ _ atB
    have eC := mD.keep _ _ nC eC
    have atC := Ats.kp pD kD _ _ atC
    have M6 := M5.trans mD
    refine ⟨D, _, rfl, .inl ⟨SqL.of eD, fun F hF => ?_⟩⟩
    generalize e_H7 : upd _ F _ = H7
    obtain ⟨s7, eF⟩ := al3 e_H7 hF
    clear e_H7
    (try dsimp only at eF)
    refine ⟨sz, fun L hL => ?_⟩
    have nL := PotAt.ne_ref (pot_same s7 M6.pot) hL
    generalize e_H8 : upd _ L _ = H8
    obtain ⟨s8, eL⟩ := al3 e_H8 hL
    clear e_H8
    (try dsimp only at eL)
    have S8 := s7.trans s8
    have M8 := M6.same S8
    have dA : At a.c_Amount p H8 (.ls lA) (.ref A1) := at_ls (S8 _ _ eA) nA (Ats.same S8 _ _ atA)
    have dB : At a.c_Amount p H8 (.ls lB) (.ref B) := at_ls (S8 _ _ eB) nB (Ats.same S8 _ _ atB)
    have dC : At a.c_Amount p H8 (.ls lC) (.ref C) := at_ls (S8 _ _ eC) nC (Ats.same S8 _ _ atC)
    have dF : At a.c_Amount p H8 (.tp lD) (.ref F) := at_tp (s8 _ _ eF) (Ats.same S8 _ _ atD)
    have TH : Ats a.c_Amount p H8 [.ls lA, .ls lB, .ls lC, .tp lD] [.ref A1, .ref B, .ref C, .ref F] := ats_cons dA (ats_cons dB (ats_cons dC (ats_cons dF ats_nil)))
    have tA : Th 40 [100, 3, 3] (.ls lA) := .inl ⟨⟨by omega, fun e he => Ok.mono (by decide) _ _ (elA e he).2⟩, rfl⟩
    have tB : Th 40 [100, 3, 3] (.ls lB) := .inl ⟨⟨lenB, fun e he => Ok.mono (by decide) _ _ (elB e he)⟩, rfl⟩
    have tC : Th 40 [100, 3, 3] (.ls lC) := .inl ⟨⟨lenC, fun e he => Ok.mono (by decide) _ _ (elC e he)⟩, rfl⟩
    have tF : Th 40 [100, 3, 3] (.tp lD) := .inl ⟨⟨lenD, fun e he => Ok.mono (by decide) _ _ (elD e he)⟩, rfl⟩
    clear dA dB dC dF eA eB eC eD eF atA atB atC atD kB kC kD pB pC pD mB mC mD
    -- many
    refine ⟨_, rfl, _, rfl, _, rfl, p, _, rfl, M8.pot, by decide, by unfold Bd; decide, fun H9 g m9 g0 g1 => ⟨_, _, rfl, rfl, ?_⟩⟩
    obtain ⟨j, rfl⟩ := Int.eq_ofNat_of_zero_le g0
    have M9 := M8.trans m9
    have TH := Ats.kp (pot_lst M8.pot) (kp_mov m9) _ _ TH
    have eL := m9.keep _ _ nL eL
    refine ⟨p, 78 + j, congrArg (fun z => [V.ref p, V.int z]) (show 78 + (j : Int) = ((78 + j : Nat) : Int) by omega), M9.pot, by omega, by omega, fun H10 G lG xG mG nG eG atG elG lenG => ⟨sz, fun L2 hL2 => ?_⟩⟩
    have M10 := M9.trans mG
    have TH := Ats.kp (pot_lst M9.pot) (kp_mov mG) _ _ TH
    have eL := mG.keep _ _ nL eL
    generalize e_H11 : upd _ L2 _ = H11
    obtain ⟨s11, eL2⟩ := al3 e_H11 hL2
    clear e_H11
    (try dsimp only at eL2)
    refine ⟨L, L2, _, _, rfl, rfl, s11 _ _ eL, eL2, szle (by simp), fun L3 hL3 => ?_⟩
    have nL3 := PotAt.ne_ref (pot_same s11 M10.pot) hL3
    generalize e_H12 : upd _ L3 _ = H12
    obtain ⟨s12, eL3⟩ := al3 e_H12 hL3
    clear e_H12
    (try dsimp only at eL3)
    have S12 := s11.trans s12
    have M12 := M10.same S12
    have TH : Ats a.c_Amount p H12 [.ls lA, .ls lB, .ls lC, .tp lD, .ls lG] [.ref A1, .ref B, .ref C, .ref F, .ref G] := (Ats.same S12 _ _ TH).append (ats_cons (at_ls (S12 _ _ eG) nG (Ats.same S12 _ _ atG)) ats_nil)
    have tG : Th 40 [100, 3, 3] (.ls lG) := .inl ⟨⟨by omega, fun e he => Ok.mono (by decide) _ _ (elG e he)⟩, rfl⟩
    have TA : ∀ d ∈ [Dt.ls lA, .ls lB, .ls lC, .tp lD, .ls lG], Th 40 [100, 3, 3] d := fun d hd => by
      simp only [List.mem_cons, List.not_mem_nil, or_false] at hd
      rcases hd with rfl | rfl | rfl | rfl | rfl <;> assumption
    clear eL eL2 eG atG tA tB tC tF tG
    have S : Same H12 H12 := Same.refl H12
    have A : Ats a.c_Amount p H12 [] [] := ats_nil
    have E : ∀ d ∈ ([] : List Dt), Th 40 [100, 3, 3] d := fun d hd => absurd hd List.not_mem_nil
    have A := A.append (ats_cons (d := .non) (x := .non) (by simp only [At]) ats_nil)
    have E := all_snoc (P := Th 40 [100, 3, 3]) (x := .non) E (.inl ⟨trivial, rfl⟩)
    have A := A.append (ats_cons (d := .int 5) (x := .int 5) (by simp only [At]) ats_nil)
    have E := all_snoc (P := Th 40 [100, 3, 3]) (x := .int 5) E (.inl ⟨(show (5 : Int).natAbs < 2 ^ 40 by decide), rfl⟩)
    have A := A.append (ats_cons (d := .bl true) (x := .bl true) (by simp only [At]) ats_nil)
    have E := all_snoc (P := Th 40 [100, 3, 3]) (x := .bl true) E (.inl ⟨trivial, rfl⟩)
    have A := A.append (ats_cons (d := .str "") (x := .str "") (by simp only [At]) ats_nil)
    have E := all_snoc (P := Th 40 [100, 3, 3]) (x := .str "") E (.inl ⟨(show (reprText "").length ≤ 100 by decide +kernel), rfl⟩)
    have A := A.append (ats_cons (d := .str "ab") (x := .str "ab") (by simp only [At]) ats_nil)
    have E := all_snoc (P := Th 40 [100, 3, 3]) (x := .str "ab") E (.inl ⟨(show (reprText "ab").length ≤ 100 by decide +kernel), rfl⟩)
    refine fun t1 h1 => ?_
    generalize e_G1 : upd _ t1 _ = G1
    obtain ⟨s1, f1⟩ := al3 e_G1 h1
    clear e_G1
    (try dsimp only at f1)
    have A := Ats.same s1 _ _ A
    have S := S.trans s1
    have A := A.append (ats_cons (d := .dc) (x := .ref t1) (at_dc f1) ats_nil)
    have E := all_snoc (P := Th 40 [100, 3, 3]) (x := .dc) E (.inl ⟨trivial, rfl⟩)
    refine ⟨sz, fun t2 h2 => ?_⟩
    have ne2 := PotAt.ne_ref (pot_same S M12.pot) h2
    generalize e_G2 : upd _ t2 _ = G2
    obtain ⟨s2, f2⟩ := al3 e_G2 h2
    clear e_G2
    (try dsimp only at f2)
    have A := Ats.same s2 _ _ A
    have S := S.trans s2
    have A := A.append (ats_cons (d := .ls []) (x := .ref t2) (at_ls f2 ne2 ats_nil) ats_nil)
    have E := all_snoc (P := Th 40 [100, 3, 3]) (x := .ls []) E (.inl ⟨⟨by decide, all_nil⟩, rfl⟩)
    refine ⟨sz, fun t3 h3 => ?_⟩
    have ne3 := PotAt.ne_ref (pot_same S M12.pot) h3
    generalize e_G3 : upd _ t3 _ = G3
    obtain ⟨s3, f3⟩ := al3 e_G3 h3
    clear e_G3
    (try dsimp only at f3)
    have A := Ats.same s3 _ _ A
    have S := S.trans s3
    have A := A.append (ats_cons (d := .tp []) (x := .ref t3) (at_tp f3 ats_nil) ats_nil)
    have E := all_snoc (P := Th 40 [100, 3, 3]) (x := .tp []) E (.inl ⟨⟨by decide, all_nil⟩, rfl⟩)
    refine ⟨sz, fun t4 h4 => ?_⟩
    have ne4 := PotAt.ne_ref (pot_same S M12.pot) h4
    generalize e_G4 : upd _ t4 _ = G4
    obtain ⟨s4, f4⟩ := al3 e_G4 h4
    clear e_G4
    (try dsimp only at f4)
    have A := Ats.same s4 _ _ A
    have S := S.trans s4
    refine ⟨sz, fun t5 h5 => ?_⟩
    have ne5 := PotAt.ne_ref (pot_same S M12.pot) h5
    generalize e_G5 : upd _ t5 _ = G5
    obtain ⟨s5, f5⟩ := al3 e_G5 h5
    clear e_G5
    (try dsimp only at f5)
    have A := Ats.same s5 _ _ A
    have S := S.trans s5
    have A := A.append (ats_cons (d := .ls [.tp [.int 0, .int 0]]) (x := .ref t5) (at_ls f5 ne5 (ats_cons (at_tp (s5 _ _ f4) (ats_cons (by simp only [At]) (ats_cons (by simp only [At]) ats_nil))) ats_nil)) ats_nil)
    have E := all_snoc (P := Th 40 [100, 3, 3]) (x := .ls [.tp [.int 0, .int 0]]) E (.inl ⟨⟨by decide, all_cons (show Ok 40 [3, 3] (.tp [.int 0, .int 0]) from ⟨by decide, all_cons (show (0 : Int).natAbs < 2 ^ 40 by decide) (all_cons (show (0 : Int).natAbs < 2 ^ 40 by decide) all_nil)⟩) all_nil⟩, rfl⟩)
    refine ⟨sz, fun t6 h6 => ?_⟩
    have ne6 := PotAt.ne_ref (pot_same S M12.pot) h6
    generalize e_G6 : upd _ t6 _ = G6
    obtain ⟨s6, f6⟩ := al3 e_G6 h6
    clear e_G6
    (try dsimp only at f6)
    have A := Ats.same s6 _ _ A
    have S := S.trans s6
    refine ⟨sz, fun t7 h7 => ?_⟩
    have ne7 := PotAt.ne_ref (pot_same S M12.pot) h7
    generalize e_G7 : upd _ t7 _ = G7
    obtain ⟨s7, f7⟩ := al3 e_G7 h7
    clear e_G7
    (try dsimp only at f7)
    have A := Ats.same s7 _ _ A
    have S := S.trans s7
    refine ⟨sz, fun t8 h8 => ?_⟩
    have ne8 := PotAt.ne_ref (pot_same S M12.pot) h8
    generalize e_G8 : upd _ t8 _ = G8
    obtain ⟨s8, f8⟩ := al3 e_G8 h8
    clear e_G8
    (try dsimp only at f8)
    have A := Ats.same s8 _ _ A
    have S := S.trans s8
    have A := A.append (ats_cons (d := .ls [.tp [.int 0, .int 0], .tp [.int 0, .int 0]]) (x := .ref t8) (at_ls f8 ne8 (ats_cons (at_tp (s8 _ _ (s7 _ _ f6)) (ats_cons (by simp only [At]) (ats_cons (by simp only [At]) ats_nil))) (ats_cons (at_tp (s8 _ _ f7) (ats_cons (by simp only [At]) (ats_cons (by simp only [At]) ats_nil))) ats_nil))) ats_nil)
    have E := all_snoc (P := Th 40 [100, 3, 3]) (x := .ls [.tp [.int 0, .int 0], .tp [.int 0, .int 0]]) E (.inl ⟨⟨by decide, all_cons (show Ok 40 [3, 3] (.tp [.int 0, .int 0]) from ⟨by decide, all_cons (show (0 : Int).natAbs < 2 ^ 40 by decide) (all_cons (show (0 : Int).natAbs < 2 ^ 40 by decide) all_nil)⟩) (all_cons (show Ok 40 [3, 3] (.tp [.int 0, .int 0]) from ⟨by decide, all_cons (show (0 : Int).natAbs < 2 ^ 40 by decide) (all_cons (show (0 : Int).natAbs < 2 ^ 40 by decide) all_nil)⟩) all_nil)⟩, rfl⟩)
    refine fun y9 z9 hy9 hz9 nz9 => ⟨y9, z9, 0, 1, rfl, by decide, (bd_small (by decide)), bd_one, upd_same, fun G9 kp9 e9 => ⟨rfl, ?_⟩⟩
    obtain ⟨s9, am9⟩ := made_am hy9 hz9 nz9 kp9 e9
    rw [rdT_one, rdB_one] at am9
    have A := Ats.same s9 _ _ A
    have S := S.trans s9
    refine ⟨sz, fun t10 h10 => ?_⟩
    have ne10 := PotAt.ne_ref (pot_same S M12.pot) h10
    generalize e_G10 : upd _ t10 _ = G10
    obtain ⟨s10, f10⟩ := al3 e_G10 h10
    clear e_G10
    (try dsimp only at f10)
    have A := Ats.same s10 _ _ A
    have S := S.trans s10
    refine ⟨sz, fun t11 h11 => ?_⟩
    have ne11 := PotAt.ne_ref (pot_same S M12.pot) h11
    generalize e_G11 : upd _ t11 _ = G11
    obtain ⟨s11, f11⟩ := al3 e_G11 h11
    clear e_G11
    (try dsimp only at f11)
    have A := Ats.same s11 _ _ A
    have S := S.trans s11
    have A := A.append (ats_cons (d := .ls [.tp [.am (0, 1), .int 0]]) (x := .ref t11) (at_ls f11 ne11 (ats_cons (at_tp (s11 _ _ f10) (ats_cons (d := .am (0, 1)) (by simp only [At]; exact ⟨y9, rfl, (am9.same s10).same s11⟩) (ats_cons (by simp only [At]) ats_nil))) ats_nil)) ats_nil)
    have E := all_snoc (P := Th 40 [100, 3, 3]) (x := .ls [.tp [.am (0, 1), .int 0]]) E (.inl ⟨⟨by decide, all_cons (show Ok 40 [3, 3] (.tp [.am (0, 1), .int 0]) from ⟨by decide, all_cons (show Low 40 ((0, 1) : Q2) from org_low) (all_cons (show (0 : Int).natAbs < 2 ^ 40 by decide) all_nil)⟩) all_nil⟩, rfl⟩)
    refine ⟨sz, fun t12 h12 => ?_⟩
    have ne12 := PotAt.ne_ref (pot_same S M12.pot) h12
    generalize e_G12 : upd _ t12 _ = G12
    obtain ⟨s12, f12⟩ := al3 e_G12 h12
    clear e_G12
    (try dsimp only at f12)
    have A := Ats.same s12 _ _ A
    have S := S.trans s12
    refine ⟨sz, fun t13 h13 => ?_⟩
    have ne13 := PotAt.ne_ref (pot_same S M12.pot) h13
    generalize e_G13 : upd _ t13 _ = G13
    obtain ⟨s13, f13⟩ := al3 e_G13 h13
    clear e_G13
    (try dsimp only at f13)
    have A := Ats.same s13 _ _ A
    have S := S.trans s13
    have A := A.append (ats_cons (d := .ls [.ls [.int 1, .int 1]]) (x := .ref t13) (at_ls f13 ne13 (ats_cons (at_ls (s13 _ _ f12) ne12 (ats_cons (by simp only [At]) (ats_cons (by simp only [At]) ats_nil))) ats_nil)) ats_nil)
    have E := all_snoc (P := Th 40 [100, 3, 3]) (x := .ls [.ls [.int 1, .int 1]]) E (.inl ⟨⟨by decide, all_cons (show Ok 40 [3, 3] (.ls [.int 1, .int 1]) from ⟨by decide, all_cons (show (1 : Int).natAbs < 2 ^ 40 by decide) (all_cons (show (1 : Int).natAbs < 2 ^ 40 by decide) all_nil)⟩) all_nil⟩, rfl⟩)
    refine ⟨sz, fun t14 h14 => ?_⟩
    have ne14 := PotAt.ne_ref (pot_same S M12.pot) h14
    generalize e_G14 : upd _ t14 _ = G14
    obtain ⟨s14, f14⟩ := al3 e_G14 h14
    clear e_G14
    (try dsimp only at f14)
    have A := Ats.same s14 _ _ A
    have S := S.trans s14
    have A := A.append (ats_cons (d := .ls [.non]) (x := .ref t14) (at_ls f14 ne14 (ats_cons (by simp only [At]) ats_nil)) ats_nil)
    have E := all_snoc (P := Th 40 [100, 3, 3]) (x := .ls [.non]) E (.inl ⟨⟨by decide, all_cons (show Ok 40 [3, 3] .non from trivial) all_nil⟩, rfl⟩)
    refine ⟨sz, fun O hO => ?_⟩
    have nO := PotAt.ne_ref (pot_same S M12.pot) hO
    generalize e_Ho : upd _ O _ = Ho
    obtain ⟨so, eO⟩ := al3 e_Ho hO
    clear e_Ho
    (try dsimp only at eO)
    -- the dict is added
    refine ⟨_, rfl, .inl ⟨rfl, _, SqL.of eO⟩, fun t ht => ⟨sz, fun q hq => ?_⟩⟩
    have nt := PotAt.ne_ref (pot_same so (pot_same S M12.pot)) ht
    have nq := PotAt.ne_ref (pot_same (Lb.Same.upd ht) (pot_same so (pot_same S M12.pot))) hq
    have ntq : t ≠ q := ne_of_none upd_same hq
    have ntO : t ≠ O := (ne_of_none eO ht).symm
    have nqO : q ≠ O := fun z => by
      rw [z, upd_ne (Ne.symm ntO), eO] at hq
      cases hq
    have hqo : Ho q = none := by rw [upd_ne (Ne.symm ntq)] at hq; exact hq
    refine ⟨by rw [upd_ne ntq, upd_same], q, [.inl 1, .inl 1], rfl, upd_same, ?_⟩
    refine ⟨O, _, _, rfl, rfl, by rw [upd_ne (Ne.symm ntO), upd_ne (Ne.symm nqO), upd_ne (Ne.symm ntO)]; exact eO, szlt (by simp), ?_⟩
    have SF : Same G14 (upd (upd (upd (upd Ho t (.dT [])) q (.tup [V.int 1, V.int 1])) t (.dT [([Sum.inl 1, Sum.inl 1], V.int 0)])) O (.lst ([V.non, V.int 5, V.bl true, V.str "", V.str "ab", V.ref t1, V.ref t2, V.ref t3, V.ref t5, V.ref t8, V.ref t11, V.ref t13, V.ref t14] ++ [V.ref t]))) := fun b o e => by
      have h1 : b ≠ O := ne_of_none e hO
      have e1 := so _ _ e
      have h2 : b ≠ t := ne_of_none e1 ht
      have h3 : b ≠ q := ne_of_none e1 hqo
      rw [upd_ne h1, upd_ne h2, upd_ne h3, upd_ne h2]
      exact e1
    have eO : (upd (upd (upd (upd Ho t (.dT [])) q (.tup [V.int 1, V.int 1])) t (.dT [([Sum.inl 1, Sum.inl 1], V.int 0)])) O (.lst ([V.non, V.int 5, V.bl true, V.str "", V.str "ab", V.ref t1, V.ref t2, V.ref t3, V.ref t5, V.ref t8, V.ref t11, V.ref t13, V.ref t14] ++ [V.ref t]))) O = some (.lst ([V.non, V.int 5, V.bl true, V.str "", V.str "ab", V.ref t1, V.ref t2, V.ref t3, V.ref t5, V.ref t8, V.ref t11, V.ref t13, V.ref t14] ++ [V.ref t])) := upd_same
    have et : (upd (upd (upd (upd Ho t (.dT [])) q (.tup [V.int 1, V.int 1])) t (.dT [([Sum.inl 1, Sum.inl 1], V.int 0)])) O (.lst ([V.non, V.int 5, V.bl true, V.str "", V.str "ab", V.ref t1, V.ref t2, V.ref t3, V.ref t5, V.ref t8, V.ref t11, V.ref t13, V.ref t14] ++ [V.ref t]))) t = some (.dT dtT) := by rw [upd_ne ntO, upd_same]; rfl
    generalize (upd (upd (upd (upd Ho t (.dT [])) q (.tup [V.int 1, V.int 1])) t (.dT [([Sum.inl 1, Sum.inl 1], V.int 0)])) O (.lst ([V.non, V.int 5, V.bl true, V.str "", V.str "ab", V.ref t1, V.ref t2, V.ref t3, V.ref t5, V.ref t8, V.ref t11, V.ref t13, V.ref t14] ++ [V.ref t]))) = F at *
    have A := (Ats.same SF _ _ A).append (ats_cons (d := .dt) (x := .ref t) (by simp only [At]; exact ⟨t, rfl, et⟩) ats_nil)
    have E := all_snoc (P := Th 40 [100, 3, 3]) (x := .dt) E (.inr rfl)
    have SF := S.trans SF
    have TH := Ats.same SF _ _ TH
    have eL3 := SF _ _ eL3
    have MF := M12.same SF
    -- one of them
    refine ⟨_, rfl, _, rfl, _, rfl, p, O, _, rfl, MF.pot, SqL.of eO, nO, by simp, by simp, fun F2 pi pw mp hpw => ⟨sz, fun l1 hl1 => ?_⟩⟩
    have KP := kp_mov mp
    have PL := pot_lst MF.pot
    obtain ⟨pd, hpd, hpa⟩ := (Ats.kp PL KP _ _ A).at_ hpw
    have epd := E pd (List.mem_of_getElem? hpd)
    have TH := Ats.kp PL KP _ _ TH
    have eL3 := mp.keep _ _ nL3 eL3
    have MG := MF.trans mp
    generalize e_F3 : upd _ l1 _ = F3
    obtain ⟨j3, g3⟩ := al3 e_F3 hl1
    clear e_F3
    (try dsimp only at g3)
    refine ⟨L3, l1, _, _, rfl, rfl, j3 _ _ eL3, g3, szle (by simp), fun L4 hL4 => ?_⟩
    have nL4 := PotAt.ne_ref (pot_same j3 MG.pot) hL4
    generalize e_F4 : upd _ L4 _ = F4
    obtain ⟨j4, g4⟩ := al3 e_F4 hL4
    clear e_F4
    (try dsimp only at g4)
    have J := j3.trans j4
    have TH := (Ats.same J _ _ TH).append (ats_cons (At.same J _ _ hpa) ats_nil)
    have TA := all_snoc (P := Th 40 [100, 3, 3]) TA epd
    have M := MG.same J
    clear A E eO et SF S hpa eL3 g3
    refine ⟨L4, rfl, ⟨_, SqL.of g4⟩, ?_⟩
    refine for_list (K := K) (a := L4) (xs := _) (fun i σ H' => Mov p F4 H' ∧ ∃ u3 u4 u5, σ = [some (.ref p), some (.ref L3), some (.ref O), u3, u4, u5]) ⟨Mov.refl M.pot, _, _, _, rfl⟩ (fun i σ H' _ ⟨m, _⟩ => SqL.of (m.keep _ _ nL4 g4)) ?_ ?_
    · rintro i v σ H' hi ⟨m, u3, u4, u5, rfl⟩
      obtain ⟨d, hd, hv⟩ := TH.at_ hi
      have td := TA d (List.mem_of_getElem? hd)
      have hv := At.kp (pot_lst M.pot) (kp_mov m) _ _ hv
      have gd := th_good td
      have dok := due_ok gd
      have tb1 : Tb [100, 3, 3] ≤ sizeLine := by decide +kernel
      have tb2 : Tb [3, 170, 3, 3] ≤ sizeLine := by decide +kernel
      refine ⟨_, rfl, p, v, d, 40, [100, 3, 3], rfl, hv, td, by decide, by decide, tb1, fun K1 k1 => ?_⟩
      have hv := At.same k1 _ _ hv
      have m := m.same k1
      refine ⟨_, rfl, p, _, rfl, m.pot, by decide, by unfold Bd; decide, fun K2 c mc c0 c1 => ⟨rfl, _, _, rfl, ?_⟩⟩
      have hv := At.kp (pot_lst m.pot) (kp_mov mc) _ _ hv
      have m := m.trans mc
      have np : ∀ {G : Hp}, Same K2 G → G p ≠ none := fun {G} s z => by
        obtain ⟨x, y, e, _⟩ := pot_same s m.pot
        rw [z] at e
        cases e
      refine ⟨_, rfl, _, rfl, p, v, d, 40, _, rfl, np (Same.refl _), hv, gd, by decide, fun K3 q3 s3 a3 => ?_⟩
      refine ⟨p, _, _, 40, [3, 170, 3, 3], rfl, a3, .inl dok, by decide, by decide, tb2, fun K4 k4 => ?_⟩
      have S4 := s3.trans k4
      refine ⟨_, rfl, p, v, d, 40, rfl, np S4, At.same S4 _ _ hv, gd, th_len td, fun K5 q5 s5 _ a5 => ?_⟩
      refine ⟨p, _, _, 40, [3, 170, 3, 3], rfl, a5, .inl dok, by decide, by decide, tb2, fun K6 k6 => ?_⟩
      have S6 := (S4.trans s5).trans k6
      refine ⟨rfl, _, rfl, iteN (by simp) ?_⟩
      refine ⟨_, rfl, p, v, d, 40, [100, 3, 3], rfl, At.same S6 _ _ hv, td, by decide, by decide, tb1, fun K7 k7 => ?_⟩
      refine ⟨_, rfl, rfl, _, rfl, iteN (by simp) ?_⟩
      exact ⟨m.same (S6.trans k7), _, _, _, rfl⟩
    · rintro σ H' ⟨m, _⟩
      exact k _ (M.trans m)
end
end K19

set_option Elab.async false
set_option linter.all false
set_option maxRecDepth 100000
set_option maxHeartbeats 4000000
set_option exponentiation.threshold 10000
namespace K19
open PySem L2 Lb
/-- the law -/
def sp_law (K : PySem.W.Frag) : Sp := fun vs H Q _ => ∃ (a : Addr) (ns : List Int), vs = [.ref a] ∧ SqL K H a (ns.map V.int) ∧ ns.length ≤ 63 ∧ ∀ H', Q (.bl true) H'
section
variable {P : Program} {w : World} {K : PySem.W.Frag} {mg : Str → Option Value} {base : Heap} {a : Ad}
theorem ok_law (T : Txt K mg a) : FnG P w K mg base CX0 16 a.f_law a.d_law ["_law_script"] (sp_law K) := by
  refine okG T.F_law sc_law (fun vs H Q E h => ?_) (fun cdv A outer s H vs Q E gu hr h => ?_)
  · obtain ⟨sc, ns, rfl, _⟩ := h
    rfl
  · obtain ⟨sc, ns, rfl, hS, hlen, k⟩ := h
    refine ⟨_, (pss_cons (ps_for PassesOwn.never rfl (pi_range1 rfl T.b_range (pa_cons (pe_callB (call_max2 rfl) (by rfl) T.b_max (by decide +kernel) (pa_cons pe_int (pa_cons (pe_callB (call_min2 rfl) (by rfl) T.b_min (by decide +kernel) (pa_cons pe_int (pa_cons (pe_callB (call_lenK (K := K) rfl) (by rfl) T.b_len (by decide +kernel) (pa_cons (pv 0) pa_nil)) pa_nil))) pa_nil))) pa_nil)) (pg_name (i := 1) sc_law.nd rfl (by first | exact Or.inl rfl | exact Or.inr rfl)) (pss_cons (ps_set (i := 2) sc_law.nd rfl (by first | exact Or.inl rfl | exact Or.inr rfl) (pe_call (ok_pot T) (hr.mono (by decide)) (by rfl) T.m_pot T.F_pot.kp (b_pot T) .nil pass0 (pa_cons (pv 0) (pa_cons (pv 1) pa_nil))))
 (pss_one (ps_if (pt_not (pt_val (pe_callB (cr_allK (K := K) rfl rfl) (by rfl) T.b_all (by decide +kernel) (pa_cons (pe_lc (own := [("_law_turn", 3)]) (by rfl) sc_law.nd (pi_range1 rfl T.b_range (pa_cons pe_int pa_nil)) (blkOk_by (own := [("_law_turn", 3)]) (N := ["_law_script", "_law_k", "_law_pot_here", "_law_turn"]) (sc := defScope s_law) (by decide +kernel)) (fun _ _ _ _ _ => (pg_name (i := 3) sc_law.nd rfl (by first | exact Or.inl rfl | exact Or.inr rfl))) (fun _ _ _ _ _ => pts_nil) (fun _ _ _ _ _ => (pe_callG (ok_right T) gu (hr.mono (by decide)) (by rfl) T.m_right T.F_right.kp (b_right T) .nil pass0 (pa_cons (pv 2) pa_nil)))) pa_nil)))) (pss_one (ps_ret pe_bl)) pss_nil))))
 (pss_one (ps_ret pe_bl))), ?_⟩
    refine ⟨_, rfl, _, _, rfl, .inl hS, _, _, rfl, _, _, rfl, ?_⟩
    have hn : ∃ n : Nat, n ≤ 4 ∧ (if (if (((ns.map V.int).length : Nat) : Int) < 4 then (((ns.map V.int).length : Nat) : Int) else 4) > 1 then (if (((ns.map V.int).length : Nat) : Int) < 4 then (((ns.map V.int).length : Nat) : Int) else 4) else 1) = (n : Int) := by
      rw [List.length_map]
      refine ⟨(if (if ns.length < 4 then ns.length else 4) > 1 then (if ns.length < 4 then ns.length else 4) else 1), ?_, ?_⟩
      · split <;> (try split) <;> omega
      · split <;> split <;> (try split) <;> (try split) <;> omega
    obtain ⟨n, hn4, en⟩ := hn
    rw [en]
    refine ⟨_, rfl, (by omega), (by omega), ?_⟩
    refine for_range (n := n) (fun i σ H' => ∃ (u1 u2 u3 : Option V), σ = [some (.ref sc), u1, u2, u3] ∧ Same H H') ⟨_, _, _, rfl, Same.refl H⟩ ?_ ?_
    · rintro i σ H' hi ⟨u1, u2, u3, rfl, s'⟩
      refine ⟨_, rfl, _, rfl, sc, ns, i, by simp, Same.seq s' hS, hlen, by omega, fun H2 p s2 hp pot => ?_⟩
      refine ⟨4, rfl, by decide, by decide, fun D hD => ?_⟩
      have nD : D ≠ p := PotAt.ne_ref pot hD
      refine lc_range (lo := 0) (n := 4) (fun j H'' => Mov p H2 H'' ∧ H'' D = some (.lst ((List.replicate j true).map V.bl))) ⟨Lb.Mov.updl (Mov.refl pot) hD nD, upd_same⟩ ?_ ?_
      · rintro j H'' hj ⟨m, eD⟩
        refine ⟨rfl, _, rfl, p, rfl, m.pot, fun H3 m3 => ?_⟩
        refine ⟨_, m3.keep _ _ nD eD, ?_, Lb.Mov.updl (m.trans m3) hD nD, ?_⟩
        · rw [List.length_map, List.length_replicate]
          exact szlt (by omega)
        · rw [upd_same, List.replicate_succ', List.map_append]
          rfl
      · rintro H3 ⟨m, eD⟩
        refine ⟨D, _, rfl, SqL.of eD, ?_⟩
        rw [all_replicate_true]
        refine ⟨true, rfl, iteF ?_⟩
        exact ⟨_, _, _, rfl, fun b o e => m.keep b o (ne_of_none (s' _ _ e) hp) (s2 _ _ (s' _ _ e))⟩
    rintro σ H2 _
    exact k _
end
end K19

set_option Elab.async false
set_option linter.all false
set_option maxRecDepth 100000
namespace K19
open PySem L2 Lb
set_option maxHeartbeats 0 in
theorem all_mk {l : PySem.W.OpenLaw} {w : World} {K : PySem.W.Frag} {h : Heap} {mg : Str → Option Value} (X : K.In h) (G : h.Ns mainGlobals mg) {fa : Addr} (hfa : mg "law" = some (.ref fa))
    {c_Amount : Addr}
    {c_Curve : Addr}
    {c_InvalidPoints : Addr}
    {c_TooMany : Addr}
    {c_PipeError : Addr}
    {c_LimitError : Addr}
    {p_top : Addr}
    {p_bottom : Addr}
    {p_sign : Addr}
    {f_InvalidPoints_init_ : Addr} {od_0 an_0 : Option Addr} {sl_0 : Array (Option Value)} {oc_0 kV_0 dc_0 pm_0 cd_0 ct_0 : Value}
    {f_TooMany_init_ : Addr} {od_1 an_1 : Option Addr} {sl_1 : Array (Option Value)} {oc_1 kV_1 dc_1 pm_1 cd_1 ct_1 : Value}
    {f_is_integer : Addr} {od_2 an_2 : Option Addr} {sl_2 : Array (Option Value)} {oc_2 kV_2 dc_2 pm_2 cd_2 ct_2 : Value}
    {f_is_amount_p : Addr} {od_3 an_3 : Option Addr} {sl_3 : Array (Option Value)} {oc_3 kV_3 dc_3 pm_3 cd_3 ct_3 : Value}
    {f_amount_of : Addr} {od_4 an_4 : Option Addr} {sl_4 : Array (Option Value)} {oc_4 kV_4 dc_4 pm_4 cd_4 ct_4 : Value}
    {f_decimal : Addr} {od_5 an_5 : Option Addr} {sl_5 : Array (Option Value)} {oc_5 kV_5 dc_5 pm_5 cd_5 ct_5 : Value}
    {f_Amount_init_ : Addr} {od_6 an_6 : Option Addr} {sl_6 : Array (Option Value)} {oc_6 kV_6 dc_6 pm_6 cd_6 ct_6 : Value}
    {T_6 : Addr} {o_6 : Obj} {dn_6 : Nat} {its_6 : List Value}
    {f_Amounttop : Addr} {od_7 an_7 : Option Addr} {sl_7 : Array (Option Value)} {oc_7 kV_7 dc_7 pm_7 cd_7 ct_7 : Value}
    {rest_7 : List Value}
    {f_Amountbottom : Addr} {od_8 an_8 : Option Addr} {sl_8 : Array (Option Value)} {oc_8 kV_8 dc_8 pm_8 cd_8 ct_8 : Value}
    {rest_8 : List Value}
    {f_Amountsign : Addr} {od_9 an_9 : Option Addr} {sl_9 : Array (Option Value)} {oc_9 kV_9 dc_9 pm_9 cd_9 ct_9 : Value}
    {rest_9 : List Value}
    {f_Amount_add_ : Addr} {od_10 an_10 : Option Addr} {sl_10 : Array (Option Value)} {oc_10 kV_10 dc_10 pm_10 cd_10 ct_10 : Value}
    {f_Amount_radd_ : Addr} {od_11 an_11 : Option Addr} {sl_11 : Array (Option Value)} {oc_11 kV_11 dc_11 pm_11 cd_11 ct_11 : Value}
    {f_Amount_sub_ : Addr} {od_12 an_12 : Option Addr} {sl_12 : Array (Option Value)} {oc_12 kV_12 dc_12 pm_12 cd_12 ct_12 : Value}
    {f_Amount_rsub_ : Addr} {od_13 an_13 : Option Addr} {sl_13 : Array (Option Value)} {oc_13 kV_13 dc_13 pm_13 cd_13 ct_13 : Value}
    {f_Amount_mul_ : Addr} {od_14 an_14 : Option Addr} {sl_14 : Array (Option Value)} {oc_14 kV_14 dc_14 pm_14 cd_14 ct_14 : Value}
    {f_Amount_rmul_ : Addr} {od_15 an_15 : Option Addr} {sl_15 : Array (Option Value)} {oc_15 kV_15 dc_15 pm_15 cd_15 ct_15 : Value}
    {f_Amountover : Addr} {od_16 an_16 : Option Addr} {sl_16 : Array (Option Value)} {oc_16 kV_16 dc_16 pm_16 cd_16 ct_16 : Value}
    {f_Amount_neg_ : Addr} {od_17 an_17 : Option Addr} {sl_17 : Array (Option Value)} {oc_17 kV_17 dc_17 pm_17 cd_17 ct_17 : Value}
    {f_Amount_lt_ : Addr} {od_18 an_18 : Option Addr} {sl_18 : Array (Option Value)} {oc_18 kV_18 dc_18 pm_18 cd_18 ct_18 : Value}
    {f_Amount_le_ : Addr} {od_19 an_19 : Option Addr} {sl_19 : Array (Option Value)} {oc_19 kV_19 dc_19 pm_19 cd_19 ct_19 : Value}
    {f_Amount_repr_ : Addr} {od_20 an_20 : Option Addr} {sl_20 : Array (Option Value)} {oc_20 kV_20 dc_20 pm_20 cd_20 ct_20 : Value}
    {f_is_point : Addr} {od_21 an_21 : Option Addr} {sl_21 : Array (Option Value)} {oc_21 kV_21 dc_21 pm_21 cd_21 ct_21 : Value}
    {f_is_origin : Addr} {od_22 an_22 : Option Addr} {sl_22 : Array (Option Value)} {oc_22 kV_22 dc_22 pm_22 cd_22 ct_22 : Value}
    {f_checked : Addr} {od_23 an_23 : Option Addr} {sl_23 : Array (Option Value)} {oc_23 kV_23 dc_23 pm_23 cd_23 ct_23 : Value}
    {f_rises : Addr} {od_24 an_24 : Option Addr} {sl_24 : Array (Option Value)} {oc_24 kV_24 dc_24 pm_24 cd_24 ct_24 : Value}
    {f_with_origin : Addr} {od_25 an_25 : Option Addr} {sl_25 : Array (Option Value)} {oc_25 kV_25 dc_25 pm_25 cd_25 ct_25 : Value}
    {f_piece : Addr} {od_26 an_26 : Option Addr} {sl_26 : Array (Option Value)} {oc_26 kV_26 dc_26 pm_26 cd_26 ct_26 : Value}
    {f_across : Addr} {od_27 an_27 : Option Addr} {sl_27 : Array (Option Value)} {oc_27 kV_27 dc_27 pm_27 cd_27 ct_27 : Value}
    {f_Curve_init_ : Addr} {od_28 an_28 : Option Addr} {sl_28 : Array (Option Value)} {oc_28 kV_28 dc_28 pm_28 cd_28 ct_28 : Value}
    {f_Curve_call_ : Addr} {od_29 an_29 : Option Addr} {sl_29 : Array (Option Value)} {oc_29 kV_29 dc_29 pm_29 cd_29 ct_29 : Value}
    {f_Curveback : Addr} {od_30 an_30 : Option Addr} {sl_30 : Array (Option Value)} {oc_30 kV_30 dc_30 pm_30 cd_30 ct_30 : Value}
    {f_Curvepoints : Addr} {od_31 an_31 : Option Addr} {sl_31 : Array (Option Value)} {oc_31 kV_31 dc_31 pm_31 cd_31 ct_31 : Value}
    {f_pot : Addr} {od_32 an_32 : Option Addr} {sl_32 : Array (Option Value)} {oc_32 kV_32 dc_32 pm_32 cd_32 ct_32 : Value}
    {f_draw : Addr} {od_33 an_33 : Option Addr} {sl_33 : Array (Option Value)} {oc_33 kV_33 dc_33 pm_33 cd_33 ct_33 : Value}
    {f_pick : Addr} {od_34 an_34 : Option Addr} {sl_34 : Array (Option Value)} {oc_34 kV_34 dc_34 pm_34 cd_34 ct_34 : Value}
    {f_low : Addr} {od_35 an_35 : Option Addr} {sl_35 : Array (Option Value)} {oc_35 kV_35 dc_35 pm_35 cd_35 ct_35 : Value}
    {f_minus : Addr} {od_36 an_36 : Option Addr} {sl_36 : Array (Option Value)} {oc_36 kV_36 dc_36 pm_36 cd_36 ct_36 : Value}
    {f_amount : Addr} {od_37 an_37 : Option Addr} {sl_37 : Array (Option Value)} {oc_37 kV_37 dc_37 pm_37 cd_37 ct_37 : Value}
    {f_read : Addr} {od_38 an_38 : Option Addr} {sl_38 : Array (Option Value)} {oc_38 kV_38 dc_38 pm_38 cd_38 ct_38 : Value}
    {f_step : Addr} {od_39 an_39 : Option Addr} {sl_39 : Array (Option Value)} {oc_39 kV_39 dc_39 pm_39 cd_39 ct_39 : Value}
    {f_points : Addr} {od_40 an_40 : Option Addr} {sl_40 : Array (Option Value)} {oc_40 kV_40 dc_40 pm_40 cd_40 ct_40 : Value}
    {f_passed : Addr} {od_41 an_41 : Option Addr} {sl_41 : Array (Option Value)} {oc_41 kV_41 dc_41 pm_41 cd_41 ct_41 : Value}
    {f_is_amount : Addr} {od_42 an_42 : Option Addr} {sl_42 : Array (Option Value)} {oc_42 kV_42 dc_42 pm_42 cd_42 ct_42 : Value}
    {f_part : Addr} {od_43 an_43 : Option Addr} {sl_43 : Array (Option Value)} {oc_43 kV_43 dc_43 pm_43 cd_43 ct_43 : Value}
    {f_sign : Addr} {od_44 an_44 : Option Addr} {sl_44 : Array (Option Value)} {oc_44 kV_44 dc_44 pm_44 cd_44 ct_44 : Value}
    {f_pair : Addr} {od_45 an_45 : Option Addr} {sl_45 : Array (Option Value)} {oc_45 kV_45 dc_45 pm_45 cd_45 ct_45 : Value}
    {f_is_behind : Addr} {od_46 an_46 : Option Addr} {sl_46 : Array (Option Value)} {oc_46 kV_46 dc_46 pm_46 cd_46 ct_46 : Value}
    {f_due : Addr} {od_47 an_47 : Option Addr} {sl_47 : Array (Option Value)} {oc_47 kV_47 dc_47 pm_47 cd_47 ct_47 : Value}
    {f_has : Addr} {od_48 an_48 : Option Addr} {sl_48 : Array (Option Value)} {oc_48 kV_48 dc_48 pm_48 cd_48 ct_48 : Value}
    {f_told : Addr} {od_49 an_49 : Option Addr} {sl_49 : Array (Option Value)} {oc_49 kV_49 dc_49 pm_49 cd_49 ct_49 : Value}
    {f_odd : Addr} {od_50 an_50 : Option Addr} {sl_50 : Array (Option Value)} {oc_50 kV_50 dc_50 pm_50 cd_50 ct_50 : Value}
    {f_spoilt : Addr} {od_51 an_51 : Option Addr} {sl_51 : Array (Option Value)} {oc_51 kV_51 dc_51 pm_51 cd_51 ct_51 : Value}
    {f_long : Addr} {od_52 an_52 : Option Addr} {sl_52 : Array (Option Value)} {oc_52 kV_52 dc_52 pm_52 cd_52 ct_52 : Value}
    {f_right : Addr} {od_53 an_53 : Option Addr} {sl_53 : Array (Option Value)} {oc_53 kV_53 dc_53 pm_53 cd_53 ct_53 : Value}
    {f_law : Addr} {od_54 an_54 : Option Addr} {sl_54 : Array (Option Value)} {oc_54 kV_54 dc_54 pm_54 cd_54 ct_54 : Value}
    {tP : Tok}
    {tL : Tok}
    {fo_add ro_add : Option Value}
    {fo_sub ro_sub : Option Value}
    {fo_mul ro_mul : Option Value}
    {tkFlow : Tok}
    {tkDrop : Tok}
    {tkMost : Tok}
    {nm_InvalidPoints qn_InvalidPoints : Str} {N_InvalidPoints : Addr} {bs_InvalidPoints : List Value} {sn_InvalidPoints : List Str} {su_InvalidPoints : List Value} {ab_InvalidPoints : Bool} {co_InvalidPoints : Option Bool} {dd_InvalidPoints : Option Addr} {m0_InvalidPoints m1_InvalidPoints m2_InvalidPoints m3_InvalidPoints m5_InvalidPoints : Option Value}
    {nm_TooMany qn_TooMany : Str} {N_TooMany : Addr} {bs_TooMany : List Value} {sn_TooMany : List Str} {su_TooMany : List Value} {ab_TooMany : Bool} {co_TooMany : Option Bool} {dd_TooMany : Option Addr} {m0_TooMany m1_TooMany m2_TooMany m3_TooMany m5_TooMany : Option Value}
    (aC_Amount : PySem.W.nsIn K mainGlobals "Amount" = some (some (.ref c_Amount)))
    (aC_Curve : PySem.W.nsIn K mainGlobals "Curve" = some (some (.ref c_Curve)))
    (aC_InvalidPoints : PySem.W.nsIn K mainGlobals "InvalidPoints" = some (some (.ref c_InvalidPoints)))
    (aC_TooMany : PySem.W.nsIn K mainGlobals "TooMany" = some (some (.ref c_TooMany)))
    (aC_PipeError : PySem.W.nsIn K mainGlobals "PipeError" = some (some (.ref c_PipeError)))
    (aC_LimitError : PySem.W.nsIn K mainGlobals "LimitError" = some (some (.ref c_LimitError)))
    (a_InvalidPoints_init_ : PySem.W.findIn K (.ref c_InvalidPoints) "__init__" = some (some (.ref f_InvalidPoints_init_)))
    (i_InvalidPoints_init_ : PySem.W.isFn K (.ref f_InvalidPoints_init_) = true)
    (l_InvalidPoints_init_ : K.lookup f_InvalidPoints_init_ = some ⟨oc_0, od_0, .func (PySem.W.fnOf "__init__" "InvalidPoints.__init__" (defArgs s_InvalidPoints_init_) (defBody s_InvalidPoints_init_) (defScope s_InvalidPoints_init_) .none kV_0 dc_0 pm_0 an_0 cd_0 ct_0), sl_0⟩)
    (k1_InvalidPoints_init_ : PySem.W.codeIn K cd_0 "InvalidPoints.__init__" = true)
    (k2_InvalidPoints_init_ : PySem.W.keepIn K (.ref f_InvalidPoints_init_) = true)
    (a_TooMany_init_ : PySem.W.findIn K (.ref c_TooMany) "__init__" = some (some (.ref f_TooMany_init_)))
    (i_TooMany_init_ : PySem.W.isFn K (.ref f_TooMany_init_) = true)
    (l_TooMany_init_ : K.lookup f_TooMany_init_ = some ⟨oc_1, od_1, .func (PySem.W.fnOf "__init__" "TooMany.__init__" (defArgs s_TooMany_init_) (defBody s_TooMany_init_) (defScope s_TooMany_init_) .none kV_1 dc_1 pm_1 an_1 cd_1 ct_1), sl_1⟩)
    (k1_TooMany_init_ : PySem.W.codeIn K cd_1 "TooMany.__init__" = true)
    (k2_TooMany_init_ : PySem.W.keepIn K (.ref f_TooMany_init_) = true)
    (a_is_integer : PySem.W.nsIn K mainGlobals "is_integer" = some (some (.ref f_is_integer)))
    (l_is_integer : K.lookup f_is_integer = some ⟨oc_2, od_2, .func (PySem.W.fnOf "is_integer" "is_integer" (defArgs s_is_integer) (defBody s_is_integer) (defScope s_is_integer) .none kV_2 dc_2 pm_2 an_2 cd_2 ct_2), sl_2⟩)
    (k1_is_integer : PySem.W.codeIn K cd_2 "is_integer" = true)
    (k2_is_integer : PySem.W.keepIn K (.ref f_is_integer) = true)
    (a_is_amount_p : PySem.W.nsIn K mainGlobals "is_amount" = some (some (.ref f_is_amount_p)))
    (l_is_amount_p : K.lookup f_is_amount_p = some ⟨oc_3, od_3, .func (PySem.W.fnOf "is_amount" "is_amount" (defArgs s_is_amount_p) (defBody s_is_amount_p) (defScope s_is_amount_p) .none kV_3 dc_3 pm_3 an_3 cd_3 ct_3), sl_3⟩)
    (k1_is_amount_p : PySem.W.codeIn K cd_3 "is_amount" = true)
    (k2_is_amount_p : PySem.W.keepIn K (.ref f_is_amount_p) = true)
    (a_amount_of : PySem.W.nsIn K mainGlobals "amount_of" = some (some (.ref f_amount_of)))
    (l_amount_of : K.lookup f_amount_of = some ⟨oc_4, od_4, .func (PySem.W.fnOf "amount_of" "amount_of" (defArgs s_amount_of) (defBody s_amount_of) (defScope s_amount_of) .none kV_4 dc_4 pm_4 an_4 cd_4 ct_4), sl_4⟩)
    (k1_amount_of : PySem.W.codeIn K cd_4 "amount_of" = true)
    (k2_amount_of : PySem.W.keepIn K (.ref f_amount_of) = true)
    (a_decimal : PySem.W.nsIn K mainGlobals "_decimal" = some (some (.ref f_decimal)))
    (l_decimal : K.lookup f_decimal = some ⟨oc_5, od_5, .func (PySem.W.fnOf "_decimal" "_decimal" (defArgs s_decimal) (defBody s_decimal) (defScope s_decimal) .none kV_5 dc_5 pm_5 an_5 cd_5 ct_5), sl_5⟩)
    (k1_decimal : PySem.W.codeIn K cd_5 "_decimal" = true)
    (k2_decimal : PySem.W.keepIn K (.ref f_decimal) = true)
    (a_Amount_init_ : PySem.W.findIn K (.ref c_Amount) "__init__" = some (some (.ref f_Amount_init_)))
    (i_Amount_init_ : PySem.W.isFn K (.ref f_Amount_init_) = true)
    (l_Amount_init_ : K.lookup f_Amount_init_ = some ⟨oc_6, od_6, .func (PySem.W.fnOf "__init__" "Amount.__init__" (defArgs s_Amount_init_) (defBody s_Amount_init_) (defScope s_Amount_init_) (.ref T_6) kV_6 dc_6 pm_6 an_6 cd_6 ct_6), sl_6⟩)
    (k1_Amount_init_ : PySem.W.codeIn K cd_6 "Amount.__init__" = true)
    (k2_Amount_init_ : PySem.W.keepIn K (.ref f_Amount_init_) = true)
    (dl_Amount_init_ : K.lookup T_6 = some o_6)
    (do_Amount_init_ : o_6.data = .seq its_6.toArray dn_6)
    (dv_Amount_init_ : Vals [.int 1] its_6)
    (pa_Amounttop : PySem.W.findIn K (.ref c_Amount) "top" = some (some (.ref p_top)))
    (pg_Amounttop : PySem.W.specialIn K (.ref p_top) "__get__" = some (some (.builtin "property.__get__")))
    (pt_Amounttop : PySem.W.takesIn K (.ref p_top) = some true)
    (pr_Amounttop : PySem.W.recIn K p_top "property" = some (.ref f_Amounttop :: rest_7))
    (l_Amounttop : K.lookup f_Amounttop = some ⟨oc_7, od_7, .func (PySem.W.fnOf "top" "Amount.top" (defArgs s_Amounttop) (defBody s_Amounttop) (defScope s_Amounttop) .none kV_7 dc_7 pm_7 an_7 cd_7 ct_7), sl_7⟩)
    (k1_Amounttop : PySem.W.codeIn K cd_7 "Amount.top" = true)
    (k2_Amounttop : PySem.W.keepIn K (.ref f_Amounttop) = true)
    (pa_Amountbottom : PySem.W.findIn K (.ref c_Amount) "bottom" = some (some (.ref p_bottom)))
    (pg_Amountbottom : PySem.W.specialIn K (.ref p_bottom) "__get__" = some (some (.builtin "property.__get__")))
    (pt_Amountbottom : PySem.W.takesIn K (.ref p_bottom) = some true)
    (pr_Amountbottom : PySem.W.recIn K p_bottom "property" = some (.ref f_Amountbottom :: rest_8))
    (l_Amountbottom : K.lookup f_Amountbottom = some ⟨oc_8, od_8, .func (PySem.W.fnOf "bottom" "Amount.bottom" (defArgs s_Amountbottom) (defBody s_Amountbottom) (defScope s_Amountbottom) .none kV_8 dc_8 pm_8 an_8 cd_8 ct_8), sl_8⟩)
    (k1_Amountbottom : PySem.W.codeIn K cd_8 "Amount.bottom" = true)
    (k2_Amountbottom : PySem.W.keepIn K (.ref f_Amountbottom) = true)
    (pa_Amountsign : PySem.W.findIn K (.ref c_Amount) "sign" = some (some (.ref p_sign)))
    (pg_Amountsign : PySem.W.specialIn K (.ref p_sign) "__get__" = some (some (.builtin "property.__get__")))
    (pt_Amountsign : PySem.W.takesIn K (.ref p_sign) = some true)
    (pr_Amountsign : PySem.W.recIn K p_sign "property" = some (.ref f_Amountsign :: rest_9))
    (l_Amountsign : K.lookup f_Amountsign = some ⟨oc_9, od_9, .func (PySem.W.fnOf "sign" "Amount.sign" (defArgs s_Amountsign) (defBody s_Amountsign) (defScope s_Amountsign) .none kV_9 dc_9 pm_9 an_9 cd_9 ct_9), sl_9⟩)
    (k1_Amountsign : PySem.W.codeIn K cd_9 "Amount.sign" = true)
    (k2_Amountsign : PySem.W.keepIn K (.ref f_Amountsign) = true)
    (a_Amount_add_ : PySem.W.findIn K (.ref c_Amount) "__add__" = some (some (.ref f_Amount_add_)))
    (i_Amount_add_ : PySem.W.isFn K (.ref f_Amount_add_) = true)
    (l_Amount_add_ : K.lookup f_Amount_add_ = some ⟨oc_10, od_10, .func (PySem.W.fnOf "__add__" "Amount.__add__" (defArgs s_Amount_add_) (defBody s_Amount_add_) (defScope s_Amount_add_) .none kV_10 dc_10 pm_10 an_10 cd_10 ct_10), sl_10⟩)
    (k1_Amount_add_ : PySem.W.codeIn K cd_10 "Amount.__add__" = true)
    (k2_Amount_add_ : PySem.W.keepIn K (.ref f_Amount_add_) = true)
    (a_Amount_radd_ : PySem.W.findIn K (.ref c_Amount) "__radd__" = some (some (.ref f_Amount_radd_)))
    (i_Amount_radd_ : PySem.W.isFn K (.ref f_Amount_radd_) = true)
    (l_Amount_radd_ : K.lookup f_Amount_radd_ = some ⟨oc_11, od_11, .func (PySem.W.fnOf "__radd__" "Amount.__radd__" (defArgs s_Amount_radd_) (defBody s_Amount_radd_) (defScope s_Amount_radd_) .none kV_11 dc_11 pm_11 an_11 cd_11 ct_11), sl_11⟩)
    (k1_Amount_radd_ : PySem.W.codeIn K cd_11 "Amount.__radd__" = true)
    (k2_Amount_radd_ : PySem.W.keepIn K (.ref f_Amount_radd_) = true)
    (a_Amount_sub_ : PySem.W.findIn K (.ref c_Amount) "__sub__" = some (some (.ref f_Amount_sub_)))
    (i_Amount_sub_ : PySem.W.isFn K (.ref f_Amount_sub_) = true)
    (l_Amount_sub_ : K.lookup f_Amount_sub_ = some ⟨oc_12, od_12, .func (PySem.W.fnOf "__sub__" "Amount.__sub__" (defArgs s_Amount_sub_) (defBody s_Amount_sub_) (defScope s_Amount_sub_) .none kV_12 dc_12 pm_12 an_12 cd_12 ct_12), sl_12⟩)
    (k1_Amount_sub_ : PySem.W.codeIn K cd_12 "Amount.__sub__" = true)
    (k2_Amount_sub_ : PySem.W.keepIn K (.ref f_Amount_sub_) = true)
    (a_Amount_rsub_ : PySem.W.findIn K (.ref c_Amount) "__rsub__" = some (some (.ref f_Amount_rsub_)))
    (i_Amount_rsub_ : PySem.W.isFn K (.ref f_Amount_rsub_) = true)
    (l_Amount_rsub_ : K.lookup f_Amount_rsub_ = some ⟨oc_13, od_13, .func (PySem.W.fnOf "__rsub__" "Amount.__rsub__" (defArgs s_Amount_rsub_) (defBody s_Amount_rsub_) (defScope s_Amount_rsub_) .none kV_13 dc_13 pm_13 an_13 cd_13 ct_13), sl_13⟩)
    (k1_Amount_rsub_ : PySem.W.codeIn K cd_13 "Amount.__rsub__" = true)
    (k2_Amount_rsub_ : PySem.W.keepIn K (.ref f_Amount_rsub_) = true)
    (a_Amount_mul_ : PySem.W.findIn K (.ref c_Amount) "__mul__" = some (some (.ref f_Amount_mul_)))
    (i_Amount_mul_ : PySem.W.isFn K (.ref f_Amount_mul_) = true)
    (l_Amount_mul_ : K.lookup f_Amount_mul_ = some ⟨oc_14, od_14, .func (PySem.W.fnOf "__mul__" "Amount.__mul__" (defArgs s_Amount_mul_) (defBody s_Amount_mul_) (defScope s_Amount_mul_) .none kV_14 dc_14 pm_14 an_14 cd_14 ct_14), sl_14⟩)
    (k1_Amount_mul_ : PySem.W.codeIn K cd_14 "Amount.__mul__" = true)
    (k2_Amount_mul_ : PySem.W.keepIn K (.ref f_Amount_mul_) = true)
    (a_Amount_rmul_ : PySem.W.findIn K (.ref c_Amount) "__rmul__" = some (some (.ref f_Amount_rmul_)))
    (i_Amount_rmul_ : PySem.W.isFn K (.ref f_Amount_rmul_) = true)
    (l_Amount_rmul_ : K.lookup f_Amount_rmul_ = some ⟨oc_15, od_15, .func (PySem.W.fnOf "__rmul__" "Amount.__rmul__" (defArgs s_Amount_rmul_) (defBody s_Amount_rmul_) (defScope s_Amount_rmul_) .none kV_15 dc_15 pm_15 an_15 cd_15 ct_15), sl_15⟩)
    (k1_Amount_rmul_ : PySem.W.codeIn K cd_15 "Amount.__rmul__" = true)
    (k2_Amount_rmul_ : PySem.W.keepIn K (.ref f_Amount_rmul_) = true)
    (a_Amountover : PySem.W.findIn K (.ref c_Amount) "over" = some (some (.ref f_Amountover)))
    (i_Amountover : PySem.W.isFn K (.ref f_Amountover) = true)
    (l_Amountover : K.lookup f_Amountover = some ⟨oc_16, od_16, .func (PySem.W.fnOf "over" "Amount.over" (defArgs s_Amountover) (defBody s_Amountover) (defScope s_Amountover) .none kV_16 dc_16 pm_16 an_16 cd_16 ct_16), sl_16⟩)
    (k1_Amountover : PySem.W.codeIn K cd_16 "Amount.over" = true)
    (k2_Amountover : PySem.W.keepIn K (.ref f_Amountover) = true)
    (a_Amount_neg_ : PySem.W.findIn K (.ref c_Amount) "__neg__" = some (some (.ref f_Amount_neg_)))
    (i_Amount_neg_ : PySem.W.isFn K (.ref f_Amount_neg_) = true)
    (l_Amount_neg_ : K.lookup f_Amount_neg_ = some ⟨oc_17, od_17, .func (PySem.W.fnOf "__neg__" "Amount.__neg__" (defArgs s_Amount_neg_) (defBody s_Amount_neg_) (defScope s_Amount_neg_) .none kV_17 dc_17 pm_17 an_17 cd_17 ct_17), sl_17⟩)
    (k1_Amount_neg_ : PySem.W.codeIn K cd_17 "Amount.__neg__" = true)
    (k2_Amount_neg_ : PySem.W.keepIn K (.ref f_Amount_neg_) = true)
    (a_Amount_lt_ : PySem.W.findIn K (.ref c_Amount) "__lt__" = some (some (.ref f_Amount_lt_)))
    (i_Amount_lt_ : PySem.W.isFn K (.ref f_Amount_lt_) = true)
    (l_Amount_lt_ : K.lookup f_Amount_lt_ = some ⟨oc_18, od_18, .func (PySem.W.fnOf "__lt__" "Amount.__lt__" (defArgs s_Amount_lt_) (defBody s_Amount_lt_) (defScope s_Amount_lt_) .none kV_18 dc_18 pm_18 an_18 cd_18 ct_18), sl_18⟩)
    (k1_Amount_lt_ : PySem.W.codeIn K cd_18 "Amount.__lt__" = true)
    (k2_Amount_lt_ : PySem.W.keepIn K (.ref f_Amount_lt_) = true)
    (a_Amount_le_ : PySem.W.findIn K (.ref c_Amount) "__le__" = some (some (.ref f_Amount_le_)))
    (i_Amount_le_ : PySem.W.isFn K (.ref f_Amount_le_) = true)
    (l_Amount_le_ : K.lookup f_Amount_le_ = some ⟨oc_19, od_19, .func (PySem.W.fnOf "__le__" "Amount.__le__" (defArgs s_Amount_le_) (defBody s_Amount_le_) (defScope s_Amount_le_) .none kV_19 dc_19 pm_19 an_19 cd_19 ct_19), sl_19⟩)
    (k1_Amount_le_ : PySem.W.codeIn K cd_19 "Amount.__le__" = true)
    (k2_Amount_le_ : PySem.W.keepIn K (.ref f_Amount_le_) = true)
    (a_Amount_repr_ : PySem.W.findIn K (.ref c_Amount) "__repr__" = some (some (.ref f_Amount_repr_)))
    (i_Amount_repr_ : PySem.W.isFn K (.ref f_Amount_repr_) = true)
    (l_Amount_repr_ : K.lookup f_Amount_repr_ = some ⟨oc_20, od_20, .func (PySem.W.fnOf "__repr__" "Amount.__repr__" (defArgs s_Amount_repr_) (defBody s_Amount_repr_) (defScope s_Amount_repr_) .none kV_20 dc_20 pm_20 an_20 cd_20 ct_20), sl_20⟩)
    (k1_Amount_repr_ : PySem.W.codeIn K cd_20 "Amount.__repr__" = true)
    (k2_Amount_repr_ : PySem.W.keepIn K (.ref f_Amount_repr_) = true)
    (a_is_point : PySem.W.nsIn K mainGlobals "_is_point" = some (some (.ref f_is_point)))
    (l_is_point : K.lookup f_is_point = some ⟨oc_21, od_21, .func (PySem.W.fnOf "_is_point" "_is_point" (defArgs s_is_point) (defBody s_is_point) (defScope s_is_point) .none kV_21 dc_21 pm_21 an_21 cd_21 ct_21), sl_21⟩)
    (k1_is_point : PySem.W.codeIn K cd_21 "_is_point" = true)
    (k2_is_point : PySem.W.keepIn K (.ref f_is_point) = true)
    (a_is_origin : PySem.W.nsIn K mainGlobals "_is_origin" = some (some (.ref f_is_origin)))
    (l_is_origin : K.lookup f_is_origin = some ⟨oc_22, od_22, .func (PySem.W.fnOf "_is_origin" "_is_origin" (defArgs s_is_origin) (defBody s_is_origin) (defScope s_is_origin) .none kV_22 dc_22 pm_22 an_22 cd_22 ct_22), sl_22⟩)
    (k1_is_origin : PySem.W.codeIn K cd_22 "_is_origin" = true)
    (k2_is_origin : PySem.W.keepIn K (.ref f_is_origin) = true)
    (a_checked : PySem.W.nsIn K mainGlobals "_checked" = some (some (.ref f_checked)))
    (l_checked : K.lookup f_checked = some ⟨oc_23, od_23, .func (PySem.W.fnOf "_checked" "_checked" (defArgs s_checked) (defBody s_checked) (defScope s_checked) .none kV_23 dc_23 pm_23 an_23 cd_23 ct_23), sl_23⟩)
    (k1_checked : PySem.W.codeIn K cd_23 "_checked" = true)
    (k2_checked : PySem.W.keepIn K (.ref f_checked) = true)
    (a_rises : PySem.W.nsIn K mainGlobals "_rises" = some (some (.ref f_rises)))
    (l_rises : K.lookup f_rises = some ⟨oc_24, od_24, .func (PySem.W.fnOf "_rises" "_rises" (defArgs s_rises) (defBody s_rises) (defScope s_rises) .none kV_24 dc_24 pm_24 an_24 cd_24 ct_24), sl_24⟩)
    (k1_rises : PySem.W.codeIn K cd_24 "_rises" = true)
    (k2_rises : PySem.W.keepIn K (.ref f_rises) = true)
    (a_with_origin : PySem.W.nsIn K mainGlobals "_with_origin" = some (some (.ref f_with_origin)))
    (l_with_origin : K.lookup f_with_origin = some ⟨oc_25, od_25, .func (PySem.W.fnOf "_with_origin" "_with_origin" (defArgs s_with_origin) (defBody s_with_origin) (defScope s_with_origin) .none kV_25 dc_25 pm_25 an_25 cd_25 ct_25), sl_25⟩)
    (k1_with_origin : PySem.W.codeIn K cd_25 "_with_origin" = true)
    (k2_with_origin : PySem.W.keepIn K (.ref f_with_origin) = true)
    (a_piece : PySem.W.nsIn K mainGlobals "_piece" = some (some (.ref f_piece)))
    (l_piece : K.lookup f_piece = some ⟨oc_26, od_26, .func (PySem.W.fnOf "_piece" "_piece" (defArgs s_piece) (defBody s_piece) (defScope s_piece) .none kV_26 dc_26 pm_26 an_26 cd_26 ct_26), sl_26⟩)
    (k1_piece : PySem.W.codeIn K cd_26 "_piece" = true)
    (k2_piece : PySem.W.keepIn K (.ref f_piece) = true)
    (a_across : PySem.W.nsIn K mainGlobals "_across" = some (some (.ref f_across)))
    (l_across : K.lookup f_across = some ⟨oc_27, od_27, .func (PySem.W.fnOf "_across" "_across" (defArgs s_across) (defBody s_across) (defScope s_across) .none kV_27 dc_27 pm_27 an_27 cd_27 ct_27), sl_27⟩)
    (k1_across : PySem.W.codeIn K cd_27 "_across" = true)
    (k2_across : PySem.W.keepIn K (.ref f_across) = true)
    (a_Curve_init_ : PySem.W.findIn K (.ref c_Curve) "__init__" = some (some (.ref f_Curve_init_)))
    (i_Curve_init_ : PySem.W.isFn K (.ref f_Curve_init_) = true)
    (l_Curve_init_ : K.lookup f_Curve_init_ = some ⟨oc_28, od_28, .func (PySem.W.fnOf "__init__" "Curve.__init__" (defArgs s_Curve_init_) (defBody s_Curve_init_) (defScope s_Curve_init_) .none kV_28 dc_28 pm_28 an_28 cd_28 ct_28), sl_28⟩)
    (k1_Curve_init_ : PySem.W.codeIn K cd_28 "Curve.__init__" = true)
    (k2_Curve_init_ : PySem.W.keepIn K (.ref f_Curve_init_) = true)
    (a_Curve_call_ : PySem.W.findIn K (.ref c_Curve) "__call__" = some (some (.ref f_Curve_call_)))
    (i_Curve_call_ : PySem.W.isFn K (.ref f_Curve_call_) = true)
    (l_Curve_call_ : K.lookup f_Curve_call_ = some ⟨oc_29, od_29, .func (PySem.W.fnOf "__call__" "Curve.__call__" (defArgs s_Curve_call_) (defBody s_Curve_call_) (defScope s_Curve_call_) .none kV_29 dc_29 pm_29 an_29 cd_29 ct_29), sl_29⟩)
    (k1_Curve_call_ : PySem.W.codeIn K cd_29 "Curve.__call__" = true)
    (k2_Curve_call_ : PySem.W.keepIn K (.ref f_Curve_call_) = true)
    (a_Curveback : PySem.W.findIn K (.ref c_Curve) "back" = some (some (.ref f_Curveback)))
    (i_Curveback : PySem.W.isFn K (.ref f_Curveback) = true)
    (l_Curveback : K.lookup f_Curveback = some ⟨oc_30, od_30, .func (PySem.W.fnOf "back" "Curve.back" (defArgs s_Curveback) (defBody s_Curveback) (defScope s_Curveback) .none kV_30 dc_30 pm_30 an_30 cd_30 ct_30), sl_30⟩)
    (k1_Curveback : PySem.W.codeIn K cd_30 "Curve.back" = true)
    (k2_Curveback : PySem.W.keepIn K (.ref f_Curveback) = true)
    (a_Curvepoints : PySem.W.findIn K (.ref c_Curve) "points" = some (some (.ref f_Curvepoints)))
    (i_Curvepoints : PySem.W.isFn K (.ref f_Curvepoints) = true)
    (l_Curvepoints : K.lookup f_Curvepoints = some ⟨oc_31, od_31, .func (PySem.W.fnOf "points" "Curve.points" (defArgs s_Curvepoints) (defBody s_Curvepoints) (defScope s_Curvepoints) .none kV_31 dc_31 pm_31 an_31 cd_31 ct_31), sl_31⟩)
    (k1_Curvepoints : PySem.W.codeIn K cd_31 "Curve.points" = true)
    (k2_Curvepoints : PySem.W.keepIn K (.ref f_Curvepoints) = true)
    (a_pot : PySem.W.nsIn K mainGlobals "_law_pot" = some (some (.ref f_pot)))
    (l_pot : K.lookup f_pot = some ⟨oc_32, od_32, .func (PySem.W.fnOf "_law_pot" "_law_pot" (defArgs s_pot) (defBody s_pot) (defScope s_pot) .none kV_32 dc_32 pm_32 an_32 cd_32 ct_32), sl_32⟩)
    (k1_pot : PySem.W.codeIn K cd_32 "_law_pot" = true)
    (k2_pot : PySem.W.keepIn K (.ref f_pot) = true)
    (a_draw : PySem.W.nsIn K mainGlobals "_law_draw" = some (some (.ref f_draw)))
    (l_draw : K.lookup f_draw = some ⟨oc_33, od_33, .func (PySem.W.fnOf "_law_draw" "_law_draw" (defArgs s_draw) (defBody s_draw) (defScope s_draw) .none kV_33 dc_33 pm_33 an_33 cd_33 ct_33), sl_33⟩)
    (k1_draw : PySem.W.codeIn K cd_33 "_law_draw" = true)
    (k2_draw : PySem.W.keepIn K (.ref f_draw) = true)
    (a_pick : PySem.W.nsIn K mainGlobals "_law_pick" = some (some (.ref f_pick)))
    (l_pick : K.lookup f_pick = some ⟨oc_34, od_34, .func (PySem.W.fnOf "_law_pick" "_law_pick" (defArgs s_pick) (defBody s_pick) (defScope s_pick) .none kV_34 dc_34 pm_34 an_34 cd_34 ct_34), sl_34⟩)
    (k1_pick : PySem.W.codeIn K cd_34 "_law_pick" = true)
    (k2_pick : PySem.W.keepIn K (.ref f_pick) = true)
    (a_low : PySem.W.nsIn K mainGlobals "_law_low" = some (some (.ref f_low)))
    (l_low : K.lookup f_low = some ⟨oc_35, od_35, .func (PySem.W.fnOf "_law_low" "_law_low" (defArgs s_low) (defBody s_low) (defScope s_low) .none kV_35 dc_35 pm_35 an_35 cd_35 ct_35), sl_35⟩)
    (k1_low : PySem.W.codeIn K cd_35 "_law_low" = true)
    (k2_low : PySem.W.keepIn K (.ref f_low) = true)
    (a_minus : PySem.W.nsIn K mainGlobals "_law_minus" = some (some (.ref f_minus)))
    (l_minus : K.lookup f_minus = some ⟨oc_36, od_36, .func (PySem.W.fnOf "_law_minus" "_law_minus" (defArgs s_minus) (defBody s_minus) (defScope s_minus) .none kV_36 dc_36 pm_36 an_36 cd_36 ct_36), sl_36⟩)
    (k1_minus : PySem.W.codeIn K cd_36 "_law_minus" = true)
    (k2_minus : PySem.W.keepIn K (.ref f_minus) = true)
    (a_amount : PySem.W.nsIn K mainGlobals "_law_amount" = some (some (.ref f_amount)))
    (l_amount : K.lookup f_amount = some ⟨oc_37, od_37, .func (PySem.W.fnOf "_law_amount" "_law_amount" (defArgs s_amount) (defBody s_amount) (defScope s_amount) .none kV_37 dc_37 pm_37 an_37 cd_37 ct_37), sl_37⟩)
    (k1_amount : PySem.W.codeIn K cd_37 "_law_amount" = true)
    (k2_amount : PySem.W.keepIn K (.ref f_amount) = true)
    (a_read : PySem.W.nsIn K mainGlobals "_law_read" = some (some (.ref f_read)))
    (l_read : K.lookup f_read = some ⟨oc_38, od_38, .func (PySem.W.fnOf "_law_read" "_law_read" (defArgs s_read) (defBody s_read) (defScope s_read) .none kV_38 dc_38 pm_38 an_38 cd_38 ct_38), sl_38⟩)
    (k1_read : PySem.W.codeIn K cd_38 "_law_read" = true)
    (k2_read : PySem.W.keepIn K (.ref f_read) = true)
    (a_step : PySem.W.nsIn K mainGlobals "_law_step" = some (some (.ref f_step)))
    (l_step : K.lookup f_step = some ⟨oc_39, od_39, .func (PySem.W.fnOf "_law_step" "_law_step" (defArgs s_step) (defBody s_step) (defScope s_step) .none kV_39 dc_39 pm_39 an_39 cd_39 ct_39), sl_39⟩)
    (k1_step : PySem.W.codeIn K cd_39 "_law_step" = true)
    (k2_step : PySem.W.keepIn K (.ref f_step) = true)
    (a_points : PySem.W.nsIn K mainGlobals "_law_points" = some (some (.ref f_points)))
    (l_points : K.lookup f_points = some ⟨oc_40, od_40, .func (PySem.W.fnOf "_law_points" "_law_points" (defArgs s_points) (defBody s_points) (defScope s_points) .none kV_40 dc_40 pm_40 an_40 cd_40 ct_40), sl_40⟩)
    (k1_points : PySem.W.codeIn K cd_40 "_law_points" = true)
    (k2_points : PySem.W.keepIn K (.ref f_points) = true)
    (a_passed : PySem.W.nsIn K mainGlobals "_law_passed" = some (some (.ref f_passed)))
    (l_passed : K.lookup f_passed = some ⟨oc_41, od_41, .func (PySem.W.fnOf "_law_passed" "_law_passed" (defArgs s_passed) (defBody s_passed) (defScope s_passed) .none kV_41 dc_41 pm_41 an_41 cd_41 ct_41), sl_41⟩)
    (k1_passed : PySem.W.codeIn K cd_41 "_law_passed" = true)
    (k2_passed : PySem.W.keepIn K (.ref f_passed) = true)
    (a_is_amount : PySem.W.nsIn K mainGlobals "_law_is_amount" = some (some (.ref f_is_amount)))
    (l_is_amount : K.lookup f_is_amount = some ⟨oc_42, od_42, .func (PySem.W.fnOf "_law_is_amount" "_law_is_amount" (defArgs s_is_amount) (defBody s_is_amount) (defScope s_is_amount) .none kV_42 dc_42 pm_42 an_42 cd_42 ct_42), sl_42⟩)
    (k1_is_amount : PySem.W.codeIn K cd_42 "_law_is_amount" = true)
    (k2_is_amount : PySem.W.keepIn K (.ref f_is_amount) = true)
    (a_part : PySem.W.nsIn K mainGlobals "_law_part" = some (some (.ref f_part)))
    (l_part : K.lookup f_part = some ⟨oc_43, od_43, .func (PySem.W.fnOf "_law_part" "_law_part" (defArgs s_part) (defBody s_part) (defScope s_part) .none kV_43 dc_43 pm_43 an_43 cd_43 ct_43), sl_43⟩)
    (k1_part : PySem.W.codeIn K cd_43 "_law_part" = true)
    (k2_part : PySem.W.keepIn K (.ref f_part) = true)
    (a_sign : PySem.W.nsIn K mainGlobals "_law_sign" = some (some (.ref f_sign)))
    (l_sign : K.lookup f_sign = some ⟨oc_44, od_44, .func (PySem.W.fnOf "_law_sign" "_law_sign" (defArgs s_sign) (defBody s_sign) (defScope s_sign) .none kV_44 dc_44 pm_44 an_44 cd_44 ct_44), sl_44⟩)
    (k1_sign : PySem.W.codeIn K cd_44 "_law_sign" = true)
    (k2_sign : PySem.W.keepIn K (.ref f_sign) = true)
    (a_pair : PySem.W.nsIn K mainGlobals "_law_pair" = some (some (.ref f_pair)))
    (l_pair : K.lookup f_pair = some ⟨oc_45, od_45, .func (PySem.W.fnOf "_law_pair" "_law_pair" (defArgs s_pair) (defBody s_pair) (defScope s_pair) .none kV_45 dc_45 pm_45 an_45 cd_45 ct_45), sl_45⟩)
    (k1_pair : PySem.W.codeIn K cd_45 "_law_pair" = true)
    (k2_pair : PySem.W.keepIn K (.ref f_pair) = true)
    (a_is_behind : PySem.W.nsIn K mainGlobals "_law_is_behind" = some (some (.ref f_is_behind)))
    (l_is_behind : K.lookup f_is_behind = some ⟨oc_46, od_46, .func (PySem.W.fnOf "_law_is_behind" "_law_is_behind" (defArgs s_is_behind) (defBody s_is_behind) (defScope s_is_behind) .none kV_46 dc_46 pm_46 an_46 cd_46 ct_46), sl_46⟩)
    (k1_is_behind : PySem.W.codeIn K cd_46 "_law_is_behind" = true)
    (k2_is_behind : PySem.W.keepIn K (.ref f_is_behind) = true)
    (a_due : PySem.W.nsIn K mainGlobals "_law_due" = some (some (.ref f_due)))
    (l_due : K.lookup f_due = some ⟨oc_47, od_47, .func (PySem.W.fnOf "_law_due" "_law_due" (defArgs s_due) (defBody s_due) (defScope s_due) .none kV_47 dc_47 pm_47 an_47 cd_47 ct_47), sl_47⟩)
    (k1_due : PySem.W.codeIn K cd_47 "_law_due" = true)
    (k2_due : PySem.W.keepIn K (.ref f_due) = true)
    (a_has : PySem.W.nsIn K mainGlobals "_law_has" = some (some (.ref f_has)))
    (l_has : K.lookup f_has = some ⟨oc_48, od_48, .func (PySem.W.fnOf "_law_has" "_law_has" (defArgs s_has) (defBody s_has) (defScope s_has) .none kV_48 dc_48 pm_48 an_48 cd_48 ct_48), sl_48⟩)
    (k1_has : PySem.W.codeIn K cd_48 "_law_has" = true)
    (k2_has : PySem.W.keepIn K (.ref f_has) = true)
    (a_told : PySem.W.nsIn K mainGlobals "_law_told" = some (some (.ref f_told)))
    (l_told : K.lookup f_told = some ⟨oc_49, od_49, .func (PySem.W.fnOf "_law_told" "_law_told" (defArgs s_told) (defBody s_told) (defScope s_told) .none kV_49 dc_49 pm_49 an_49 cd_49 ct_49), sl_49⟩)
    (k1_told : PySem.W.codeIn K cd_49 "_law_told" = true)
    (k2_told : PySem.W.keepIn K (.ref f_told) = true)
    (a_odd : PySem.W.nsIn K mainGlobals "_law_odd" = some (some (.ref f_odd)))
    (l_odd : K.lookup f_odd = some ⟨oc_50, od_50, .func (PySem.W.fnOf "_law_odd" "_law_odd" (defArgs s_odd) (defBody s_odd) (defScope s_odd) .none kV_50 dc_50 pm_50 an_50 cd_50 ct_50), sl_50⟩)
    (k1_odd : PySem.W.codeIn K cd_50 "_law_odd" = true)
    (k2_odd : PySem.W.keepIn K (.ref f_odd) = true)
    (a_spoilt : PySem.W.nsIn K mainGlobals "_law_spoilt" = some (some (.ref f_spoilt)))
    (l_spoilt : K.lookup f_spoilt = some ⟨oc_51, od_51, .func (PySem.W.fnOf "_law_spoilt" "_law_spoilt" (defArgs s_spoilt) (defBody s_spoilt) (defScope s_spoilt) .none kV_51 dc_51 pm_51 an_51 cd_51 ct_51), sl_51⟩)
    (k1_spoilt : PySem.W.codeIn K cd_51 "_law_spoilt" = true)
    (k2_spoilt : PySem.W.keepIn K (.ref f_spoilt) = true)
    (a_long : PySem.W.nsIn K mainGlobals "_law_long" = some (some (.ref f_long)))
    (l_long : K.lookup f_long = some ⟨oc_52, od_52, .func (PySem.W.fnOf "_law_long" "_law_long" (defArgs s_long) (defBody s_long) (defScope s_long) .none kV_52 dc_52 pm_52 an_52 cd_52 ct_52), sl_52⟩)
    (k1_long : PySem.W.codeIn K cd_52 "_law_long" = true)
    (k2_long : PySem.W.keepIn K (.ref f_long) = true)
    (a_right : PySem.W.nsIn K mainGlobals "_law_right" = some (some (.ref f_right)))
    (l_right : K.lookup f_right = some ⟨oc_53, od_53, .func (PySem.W.fnOf "_law_right" "_law_right" (defArgs s_right) (defBody s_right) (defScope s_right) .none kV_53 dc_53 pm_53 an_53 cd_53 ct_53), sl_53⟩)
    (k1_right : PySem.W.codeIn K cd_53 "_law_right" = true)
    (k2_right : PySem.W.keepIn K (.ref f_right) = true)
    (a_law : PySem.W.nsIn K mainGlobals "law" = some (some (.ref f_law)))
    (l_law : K.lookup f_law = some ⟨oc_54, od_54, .func (PySem.W.fnOf "law" "law" (defArgs s_law) (defBody s_law) (defScope s_law) .none kV_54 dc_54 pm_54 an_54 cd_54 ct_54), sl_54⟩)
    (k1_law : PySem.W.codeIn K cd_54 "law" = true)
    (k2_law : PySem.W.keepIn K (.ref f_law) = true)
    (pgA : PySem.W.plainGet K c_Amount Str.empty = true)
    (hdA : PySem.W.hasDictIn K c_Amount = true)
    (poA : PySem.W.plainOver K c_Amount = true)
    (saA : PySem.W.findIn K (.ref c_Amount) "__setattr__" = some (some (.builtin "object.__setattr__")))
    (nTA : PySem.W.findIn K (.ref c_Amount) "_top" = some none)
    (nBA : PySem.W.findIn K (.ref c_Amount) "_bottom" = some none)
    (mkA_ : PySem.W.makesIn K c_Amount = true)
    (kcA : PySem.W.keepIn K (.ref c_Amount) = true)
    (gcd_ : PySem.W.nsIn K mainGlobals "gcd" = some (some (.builtin "math.gcd")))
    (ca_ : PySem.W.findIn K (.ref c_Amount) "__class__" = some (some (.builtin "object.__class__")))
    (cn_ : PySem.W.specialIn K (.builtin "object.__class__") "__get__" = some (some (.builtin "getset_descriptor.__get__")))
    (ct_ : PySem.W.takesIn K (.builtin "object.__class__") = some true)
    (cm_ : PySem.W.mroIn K c_Amount (.type "object") = some true)
    (ic_ : PySem.W.isClsIn K c_Amount = true)
    (it_ : PySem.W.typeIn K (.ref c_Amount) = some (.type "type"))
    (sb_NoneType : PySem.W.subIn K (.type "NoneType") (.ref c_Amount) = some false)
    (sb_bool : PySem.W.subIn K (.type "bool") (.ref c_Amount) = some false)
    (sb_int : PySem.W.subIn K (.type "int") (.ref c_Amount) = some false)
    (sb_str : PySem.W.subIn K (.type "str") (.ref c_Amount) = some false)
    (sb_list : PySem.W.subIn K (.type "list") (.ref c_Amount) = some false)
    (sb_tuple : PySem.W.subIn K (.type "tuple") (.ref c_Amount) = some false)
    (sb_dict : PySem.W.subIn K (.type "dict") (.ref c_Amount) = some false)
    (part_ : PySem.W.nsIn K mainGlobals "PART" = some (some (.int 1000000000000000000000000000000000000000000000000000000000000 tP)))
    (plen_ : PySem.W.nsIn K mainGlobals "PART_LENGTH" = some (some (.int 60 tL)))
    (sf_ : PySem.W.selfFirst K c_Amount = true)
    (s2_ : PySem.W.subIn K (.ref c_Amount) (.type "int") = some false)
    (o1_add : PySem.W.findIn K (.ref c_Amount) (PySem.dunder (PySem.Operator.info PySem.Operator.Add).2) = some (some (.ref f_Amount_add_)))
    (o2_add : PySem.W.findIn K (.ref c_Amount) (PySem.dunderR (PySem.Operator.info PySem.Operator.Add).2) = some (some (.ref f_Amount_radd_)))
    (o3_add : PySem.W.findIn K (.type "int") (PySem.dunder (PySem.Operator.info PySem.Operator.Add).2) = some fo_add)
    (o4_add : PySem.W.findIn K (.type "int") (PySem.dunderR (PySem.Operator.info PySem.Operator.Add).2) = some ro_add)
    (o1_sub : PySem.W.findIn K (.ref c_Amount) (PySem.dunder (PySem.Operator.info PySem.Operator.Sub).2) = some (some (.ref f_Amount_sub_)))
    (o2_sub : PySem.W.findIn K (.ref c_Amount) (PySem.dunderR (PySem.Operator.info PySem.Operator.Sub).2) = some (some (.ref f_Amount_rsub_)))
    (o3_sub : PySem.W.findIn K (.type "int") (PySem.dunder (PySem.Operator.info PySem.Operator.Sub).2) = some fo_sub)
    (o4_sub : PySem.W.findIn K (.type "int") (PySem.dunderR (PySem.Operator.info PySem.Operator.Sub).2) = some ro_sub)
    (o1_mul : PySem.W.findIn K (.ref c_Amount) (PySem.dunder (PySem.Operator.info PySem.Operator.Mult).2) = some (some (.ref f_Amount_mul_)))
    (o2_mul : PySem.W.findIn K (.ref c_Amount) (PySem.dunderR (PySem.Operator.info PySem.Operator.Mult).2) = some (some (.ref f_Amount_rmul_)))
    (o3_mul : PySem.W.findIn K (.type "int") (PySem.dunder (PySem.Operator.info PySem.Operator.Mult).2) = some fo_mul)
    (o4_mul : PySem.W.findIn K (.type "int") (PySem.dunderR (PySem.Operator.info PySem.Operator.Mult).2) = some ro_mul)
    (gl_Flow : PySem.W.nsIn K mainGlobals "FLOW" = some (some (.int 0 tkFlow)))
    (gl_Drop : PySem.W.nsIn K mainGlobals "DROP" = some (some (.int 1 tkDrop)))
    (gl_Most : PySem.W.nsIn K mainGlobals "MOST_POINTS" = some (some (.int 80 tkMost)))
    (pgC : PySem.W.plainGet K c_Curve Str.empty = true)
    (hdC : PySem.W.hasDictIn K c_Curve = true)
    (poC : PySem.W.plainOver K c_Curve = true)
    (saC : PySem.W.findIn K (.ref c_Curve) "__setattr__" = some (some (.builtin "object.__setattr__")))
    (nPC : PySem.W.findIn K (.ref c_Curve) "_points" = some none)
    (mkC_ : PySem.W.makesIn K c_Curve = true)
    (kcC : PySem.W.keepIn K (.ref c_Curve) = true)
    (fi_call : PySem.W.fnIn K f_Curve_call_ = true)
    (sa_kAt : PySem.W.subIn K (.ref c_Amount) (.type "tuple") = some false)
    (sa_kAl : PySem.W.subIn K (.ref c_Amount) (.type "list") = some false)
    (sa_kAb : PySem.W.subIn K (.ref c_Amount) (.type "bool") = some false)
    (xL_InvalidPoints : K.lookup c_InvalidPoints = some (excClassObj nm_InvalidPoints qn_InvalidPoints c_InvalidPoints N_InvalidPoints bs_InvalidPoints [.ref c_PipeError, .type "ValueError", .type "Exception", .type "BaseException", .type "object"] true sn_InvalidPoints su_InvalidPoints ab_InvalidPoints co_InvalidPoints dd_InvalidPoints m0_InvalidPoints m1_InvalidPoints m2_InvalidPoints m3_InvalidPoints m5_InvalidPoints "ValueError.__new__"))
    (xsa_InvalidPoints : PySem.W.findIn K (.ref c_InvalidPoints) "__setattr__" = some (some (.builtin "object.__setattr__")))
    (xex_InvalidPoints : PySem.W.subIn K (.ref c_InvalidPoints) (.type "BaseException") = some true)
    (xty_InvalidPoints : PySem.W.typeIn K (.ref c_InvalidPoints) = some (.type "type"))
    (xkC_InvalidPoints : PySem.W.keepIn K (.ref c_InvalidPoints) = true)
    (xga_InvalidPoints : PySem.W.findIn K (.ref c_InvalidPoints) "__getattribute__" = some (some (.builtin "BaseException.__getattribute__")))
    (xgg_InvalidPoints : PySem.W.findIn K (.ref c_InvalidPoints) "__getattr__" = some none)
    (xhd_InvalidPoints : PySem.W.hasDictIn K c_InvalidPoints = true)
    (xtI_InvalidPoints : PySem.W.typeIn K (.ref f_InvalidPoints_init_) = some (.type "function"))
    (xic_InvalidPoints : PySem.W.isClsIn K c_InvalidPoints = true)
    (xss_InvalidPoints : PySem.W.subIn K (.ref c_InvalidPoints) (.ref c_InvalidPoints) = some true)
    (xno_InvalidPoints : PySem.W.findIn K (.ref c_InvalidPoints) "position" = some none)
    (xca_InvalidPoints : PySem.W.findIn K (.ref c_InvalidPoints) "__class__" = some (some (.builtin "object.__class__")))
    (xmo_InvalidPoints : PySem.W.mroIn K c_InvalidPoints (.type "object") = some true)
    (xic_PipeError : PySem.W.isClsIn K c_PipeError = true)
    (xty_PipeError : PySem.W.typeIn K (.ref c_PipeError) = some (.type "type"))
    (xsu_InvalidPoints : PySem.W.subIn K (.ref c_InvalidPoints) (.ref c_PipeError) = some true)
    (xL_TooMany : K.lookup c_TooMany = some (excClassObj nm_TooMany qn_TooMany c_TooMany N_TooMany bs_TooMany [.ref c_LimitError, .type "ArithmeticError", .type "Exception", .type "BaseException", .type "object"] true sn_TooMany su_TooMany ab_TooMany co_TooMany dd_TooMany m0_TooMany m1_TooMany m2_TooMany m3_TooMany m5_TooMany "ArithmeticError.__new__"))
    (xsa_TooMany : PySem.W.findIn K (.ref c_TooMany) "__setattr__" = some (some (.builtin "object.__setattr__")))
    (xex_TooMany : PySem.W.subIn K (.ref c_TooMany) (.type "BaseException") = some true)
    (xty_TooMany : PySem.W.typeIn K (.ref c_TooMany) = some (.type "type"))
    (xkC_TooMany : PySem.W.keepIn K (.ref c_TooMany) = true)
    (xga_TooMany : PySem.W.findIn K (.ref c_TooMany) "__getattribute__" = some (some (.builtin "BaseException.__getattribute__")))
    (xgg_TooMany : PySem.W.findIn K (.ref c_TooMany) "__getattr__" = some none)
    (xhd_TooMany : PySem.W.hasDictIn K c_TooMany = true)
    (xtI_TooMany : PySem.W.typeIn K (.ref f_TooMany_init_) = some (.type "function"))
    (xic_TooMany : PySem.W.isClsIn K c_TooMany = true)
    (xss_TooMany : PySem.W.subIn K (.ref c_TooMany) (.ref c_TooMany) = some true)
    (xno_TooMany : PySem.W.findIn K (.ref c_TooMany) "what" = some none)
    (xca_TooMany : PySem.W.findIn K (.ref c_TooMany) "__class__" = some (some (.builtin "object.__class__")))
    (xmo_TooMany : PySem.W.mroIn K c_TooMany (.type "object") = some true)
    (xic_LimitError : PySem.W.isClsIn K c_LimitError = true)
    (xty_LimitError : PySem.W.typeIn K (.ref c_LimitError) = some (.type "type"))
    (xsu_TooMany : PySem.W.subIn K (.ref c_TooMany) (.ref c_LimitError) = some true)
    (xn2_TooMany : PySem.W.findIn K (.ref c_TooMany) "limit" = some none)
    (xsub_TI : PySem.W.subIn K (.ref c_TooMany) (.ref c_InvalidPoints) = some false)
    (z_len : PySem.W.nsIn K mainGlobals "len" = some none)
    (z_abs : PySem.W.nsIn K mainGlobals "abs" = some none)
    (z_max : PySem.W.nsIn K mainGlobals "max" = some none)
    (z_min : PySem.W.nsIn K mainGlobals "min" = some none)
    (z_int : PySem.W.nsIn K mainGlobals "int" = some none)
    (z_divmod : PySem.W.nsIn K mainGlobals "divmod" = some none)
    (z_all : PySem.W.nsIn K mainGlobals "all" = some none)
    (z_repr : PySem.W.nsIn K mainGlobals "repr" = some none)
    (z_isinstance : PySem.W.nsIn K mainGlobals "isinstance" = some none)
    (z_str : PySem.W.nsIn K mainGlobals "str" = some none)
    (z_range : PySem.W.nsIn K mainGlobals "range" = some none)
    (z_bool : PySem.W.nsIn K mainGlobals "bool" = some none)
    (z_list : PySem.W.nsIn K mainGlobals "list" = some none)
    (z_tuple : PySem.W.nsIn K mainGlobals "tuple" = some none)
    (z_enumerate : PySem.W.nsIn K mainGlobals "enumerate" = some none)
    (z_zip : PySem.W.nsIn K mainGlobals "zip" = some none)
    (z_ValueError : PySem.W.nsIn K mainGlobals "ValueError" = some none) :
    ∃ fd : FuncData, (∀ (s : Shared) (v : Value), BindsTo s fd ⟨[v], []⟩ [("_law_script", v)]) ∧ ∀ base : Heap, K.In base → base.Ns mainGlobals mg → FnG l.prog w K mg base CX0 16 fa fd ["_law_script"] (sp_law K) := by
  have e := (PySem.W.mg_of X G a_law).symm.trans hfa
  cases e
  have T : Txt K mg { f_InvalidPoints_init_ := f_InvalidPoints_init_, d_InvalidPoints_init_ := PySem.W.fnOf "__init__" "InvalidPoints.__init__" (defArgs s_InvalidPoints_init_) (defBody s_InvalidPoints_init_) (defScope s_InvalidPoints_init_) .none kV_0 dc_0 pm_0 an_0 cd_0 ct_0, f_TooMany_init_ := f_TooMany_init_, d_TooMany_init_ := PySem.W.fnOf "__init__" "TooMany.__init__" (defArgs s_TooMany_init_) (defBody s_TooMany_init_) (defScope s_TooMany_init_) .none kV_1 dc_1 pm_1 an_1 cd_1 ct_1, f_is_integer := f_is_integer, d_is_integer := PySem.W.fnOf "is_integer" "is_integer" (defArgs s_is_integer) (defBody s_is_integer) (defScope s_is_integer) .none kV_2 dc_2 pm_2 an_2 cd_2 ct_2, f_is_amount_p := f_is_amount_p, d_is_amount_p := PySem.W.fnOf "is_amount" "is_amount" (defArgs s_is_amount_p) (defBody s_is_amount_p) (defScope s_is_amount_p) .none kV_3 dc_3 pm_3 an_3 cd_3 ct_3, f_amount_of := f_amount_of, d_amount_of := PySem.W.fnOf "amount_of" "amount_of" (defArgs s_amount_of) (defBody s_amount_of) (defScope s_amount_of) .none kV_4 dc_4 pm_4 an_4 cd_4 ct_4, f_decimal := f_decimal, d_decimal := PySem.W.fnOf "_decimal" "_decimal" (defArgs s_decimal) (defBody s_decimal) (defScope s_decimal) .none kV_5 dc_5 pm_5 an_5 cd_5 ct_5, f_Amount_init_ := f_Amount_init_, d_Amount_init_ := PySem.W.fnOf "__init__" "Amount.__init__" (defArgs s_Amount_init_) (defBody s_Amount_init_) (defScope s_Amount_init_) (.ref T_6) kV_6 dc_6 pm_6 an_6 cd_6 ct_6, f_Amounttop := f_Amounttop, d_Amounttop := PySem.W.fnOf "top" "Amount.top" (defArgs s_Amounttop) (defBody s_Amounttop) (defScope s_Amounttop) .none kV_7 dc_7 pm_7 an_7 cd_7 ct_7, f_Amountbottom := f_Amountbottom, d_Amountbottom := PySem.W.fnOf "bottom" "Amount.bottom" (defArgs s_Amountbottom) (defBody s_Amountbottom) (defScope s_Amountbottom) .none kV_8 dc_8 pm_8 an_8 cd_8 ct_8, f_Amountsign := f_Amountsign, d_Amountsign := PySem.W.fnOf "sign" "Amount.sign" (defArgs s_Amountsign) (defBody s_Amountsign) (defScope s_Amountsign) .none kV_9 dc_9 pm_9 an_9 cd_9 ct_9, f_Amount_add_ := f_Amount_add_, d_Amount_add_ := PySem.W.fnOf "__add__" "Amount.__add__" (defArgs s_Amount_add_) (defBody s_Amount_add_) (defScope s_Amount_add_) .none kV_10 dc_10 pm_10 an_10 cd_10 ct_10, f_Amount_radd_ := f_Amount_radd_, d_Amount_radd_ := PySem.W.fnOf "__radd__" "Amount.__radd__" (defArgs s_Amount_radd_) (defBody s_Amount_radd_) (defScope s_Amount_radd_) .none kV_11 dc_11 pm_11 an_11 cd_11 ct_11, f_Amount_sub_ := f_Amount_sub_, d_Amount_sub_ := PySem.W.fnOf "__sub__" "Amount.__sub__" (defArgs s_Amount_sub_) (defBody s_Amount_sub_) (defScope s_Amount_sub_) .none kV_12 dc_12 pm_12 an_12 cd_12 ct_12, f_Amount_rsub_ := f_Amount_rsub_, d_Amount_rsub_ := PySem.W.fnOf "__rsub__" "Amount.__rsub__" (defArgs s_Amount_rsub_) (defBody s_Amount_rsub_) (defScope s_Amount_rsub_) .none kV_13 dc_13 pm_13 an_13 cd_13 ct_13, f_Amount_mul_ := f_Amount_mul_, d_Amount_mul_ := PySem.W.fnOf "__mul__" "Amount.__mul__" (defArgs s_Amount_mul_) (defBody s_Amount_mul_) (defScope s_Amount_mul_) .none kV_14 dc_14 pm_14 an_14 cd_14 ct_14, f_Amount_rmul_ := f_Amount_rmul_, d_Amount_rmul_ := PySem.W.fnOf "__rmul__" "Amount.__rmul__" (defArgs s_Amount_rmul_) (defBody s_Amount_rmul_) (defScope s_Amount_rmul_) .none kV_15 dc_15 pm_15 an_15 cd_15 ct_15, f_Amountover := f_Amountover, d_Amountover := PySem.W.fnOf "over" "Amount.over" (defArgs s_Amountover) (defBody s_Amountover) (defScope s_Amountover) .none kV_16 dc_16 pm_16 an_16 cd_16 ct_16, f_Amount_neg_ := f_Amount_neg_, d_Amount_neg_ := PySem.W.fnOf "__neg__" "Amount.__neg__" (defArgs s_Amount_neg_) (defBody s_Amount_neg_) (defScope s_Amount_neg_) .none kV_17 dc_17 pm_17 an_17 cd_17 ct_17, f_Amount_lt_ := f_Amount_lt_, d_Amount_lt_ := PySem.W.fnOf "__lt__" "Amount.__lt__" (defArgs s_Amount_lt_) (defBody s_Amount_lt_) (defScope s_Amount_lt_) .none kV_18 dc_18 pm_18 an_18 cd_18 ct_18, f_Amount_le_ := f_Amount_le_, d_Amount_le_ := PySem.W.fnOf "__le__" "Amount.__le__" (defArgs s_Amount_le_) (defBody s_Amount_le_) (defScope s_Amount_le_) .none kV_19 dc_19 pm_19 an_19 cd_19 ct_19, f_Amount_repr_ := f_Amount_repr_, d_Amount_repr_ := PySem.W.fnOf "__repr__" "Amount.__repr__" (defArgs s_Amount_repr_) (defBody s_Amount_repr_) (defScope s_Amount_repr_) .none kV_20 dc_20 pm_20 an_20 cd_20 ct_20, f_is_point := f_is_point, d_is_point := PySem.W.fnOf "_is_point" "_is_point" (defArgs s_is_point) (defBody s_is_point) (defScope s_is_point) .none kV_21 dc_21 pm_21 an_21 cd_21 ct_21, f_is_origin := f_is_origin, d_is_origin := PySem.W.fnOf "_is_origin" "_is_origin" (defArgs s_is_origin) (defBody s_is_origin) (defScope s_is_origin) .none kV_22 dc_22 pm_22 an_22 cd_22 ct_22, f_checked := f_checked, d_checked := PySem.W.fnOf "_checked" "_checked" (defArgs s_checked) (defBody s_checked) (defScope s_checked) .none kV_23 dc_23 pm_23 an_23 cd_23 ct_23, f_rises := f_rises, d_rises := PySem.W.fnOf "_rises" "_rises" (defArgs s_rises) (defBody s_rises) (defScope s_rises) .none kV_24 dc_24 pm_24 an_24 cd_24 ct_24, f_with_origin := f_with_origin, d_with_origin := PySem.W.fnOf "_with_origin" "_with_origin" (defArgs s_with_origin) (defBody s_with_origin) (defScope s_with_origin) .none kV_25 dc_25 pm_25 an_25 cd_25 ct_25, f_piece := f_piece, d_piece := PySem.W.fnOf "_piece" "_piece" (defArgs s_piece) (defBody s_piece) (defScope s_piece) .none kV_26 dc_26 pm_26 an_26 cd_26 ct_26, f_across := f_across, d_across := PySem.W.fnOf "_across" "_across" (defArgs s_across) (defBody s_across) (defScope s_across) .none kV_27 dc_27 pm_27 an_27 cd_27 ct_27, f_Curve_init_ := f_Curve_init_, d_Curve_init_ := PySem.W.fnOf "__init__" "Curve.__init__" (defArgs s_Curve_init_) (defBody s_Curve_init_) (defScope s_Curve_init_) .none kV_28 dc_28 pm_28 an_28 cd_28 ct_28, f_Curve_call_ := f_Curve_call_, d_Curve_call_ := PySem.W.fnOf "__call__" "Curve.__call__" (defArgs s_Curve_call_) (defBody s_Curve_call_) (defScope s_Curve_call_) .none kV_29 dc_29 pm_29 an_29 cd_29 ct_29, f_Curveback := f_Curveback, d_Curveback := PySem.W.fnOf "back" "Curve.back" (defArgs s_Curveback) (defBody s_Curveback) (defScope s_Curveback) .none kV_30 dc_30 pm_30 an_30 cd_30 ct_30, f_Curvepoints := f_Curvepoints, d_Curvepoints := PySem.W.fnOf "points" "Curve.points" (defArgs s_Curvepoints) (defBody s_Curvepoints) (defScope s_Curvepoints) .none kV_31 dc_31 pm_31 an_31 cd_31 ct_31, f_pot := f_pot, d_pot := PySem.W.fnOf "_law_pot" "_law_pot" (defArgs s_pot) (defBody s_pot) (defScope s_pot) .none kV_32 dc_32 pm_32 an_32 cd_32 ct_32, f_draw := f_draw, d_draw := PySem.W.fnOf "_law_draw" "_law_draw" (defArgs s_draw) (defBody s_draw) (defScope s_draw) .none kV_33 dc_33 pm_33 an_33 cd_33 ct_33, f_pick := f_pick, d_pick := PySem.W.fnOf "_law_pick" "_law_pick" (defArgs s_pick) (defBody s_pick) (defScope s_pick) .none kV_34 dc_34 pm_34 an_34 cd_34 ct_34, f_low := f_low, d_low := PySem.W.fnOf "_law_low" "_law_low" (defArgs s_low) (defBody s_low) (defScope s_low) .none kV_35 dc_35 pm_35 an_35 cd_35 ct_35, f_minus := f_minus, d_minus := PySem.W.fnOf "_law_minus" "_law_minus" (defArgs s_minus) (defBody s_minus) (defScope s_minus) .none kV_36 dc_36 pm_36 an_36 cd_36 ct_36, f_amount := f_amount, d_amount := PySem.W.fnOf "_law_amount" "_law_amount" (defArgs s_amount) (defBody s_amount) (defScope s_amount) .none kV_37 dc_37 pm_37 an_37 cd_37 ct_37, f_read := f_read, d_read := PySem.W.fnOf "_law_read" "_law_read" (defArgs s_read) (defBody s_read) (defScope s_read) .none kV_38 dc_38 pm_38 an_38 cd_38 ct_38, f_step := f_step, d_step := PySem.W.fnOf "_law_step" "_law_step" (defArgs s_step) (defBody s_step) (defScope s_step) .none kV_39 dc_39 pm_39 an_39 cd_39 ct_39, f_points := f_points, d_points := PySem.W.fnOf "_law_points" "_law_points" (defArgs s_points) (defBody s_points) (defScope s_points) .none kV_40 dc_40 pm_40 an_40 cd_40 ct_40, f_passed := f_passed, d_passed := PySem.W.fnOf "_law_passed" "_law_passed" (defArgs s_passed) (defBody s_passed) (defScope s_passed) .none kV_41 dc_41 pm_41 an_41 cd_41 ct_41, f_is_amount := f_is_amount, d_is_amount := PySem.W.fnOf "_law_is_amount" "_law_is_amount" (defArgs s_is_amount) (defBody s_is_amount) (defScope s_is_amount) .none kV_42 dc_42 pm_42 an_42 cd_42 ct_42, f_part := f_part, d_part := PySem.W.fnOf "_law_part" "_law_part" (defArgs s_part) (defBody s_part) (defScope s_part) .none kV_43 dc_43 pm_43 an_43 cd_43 ct_43, f_sign := f_sign, d_sign := PySem.W.fnOf "_law_sign" "_law_sign" (defArgs s_sign) (defBody s_sign) (defScope s_sign) .none kV_44 dc_44 pm_44 an_44 cd_44 ct_44, f_pair := f_pair, d_pair := PySem.W.fnOf "_law_pair" "_law_pair" (defArgs s_pair) (defBody s_pair) (defScope s_pair) .none kV_45 dc_45 pm_45 an_45 cd_45 ct_45, f_is_behind := f_is_behind, d_is_behind := PySem.W.fnOf "_law_is_behind" "_law_is_behind" (defArgs s_is_behind) (defBody s_is_behind) (defScope s_is_behind) .none kV_46 dc_46 pm_46 an_46 cd_46 ct_46, f_due := f_due, d_due := PySem.W.fnOf "_law_due" "_law_due" (defArgs s_due) (defBody s_due) (defScope s_due) .none kV_47 dc_47 pm_47 an_47 cd_47 ct_47, f_has := f_has, d_has := PySem.W.fnOf "_law_has" "_law_has" (defArgs s_has) (defBody s_has) (defScope s_has) .none kV_48 dc_48 pm_48 an_48 cd_48 ct_48, f_told := f_told, d_told := PySem.W.fnOf "_law_told" "_law_told" (defArgs s_told) (defBody s_told) (defScope s_told) .none kV_49 dc_49 pm_49 an_49 cd_49 ct_49, f_odd := f_odd, d_odd := PySem.W.fnOf "_law_odd" "_law_odd" (defArgs s_odd) (defBody s_odd) (defScope s_odd) .none kV_50 dc_50 pm_50 an_50 cd_50 ct_50, f_spoilt := f_spoilt, d_spoilt := PySem.W.fnOf "_law_spoilt" "_law_spoilt" (defArgs s_spoilt) (defBody s_spoilt) (defScope s_spoilt) .none kV_51 dc_51 pm_51 an_51 cd_51 ct_51, f_long := f_long, d_long := PySem.W.fnOf "_law_long" "_law_long" (defArgs s_long) (defBody s_long) (defScope s_long) .none kV_52 dc_52 pm_52 an_52 cd_52 ct_52, f_right := f_right, d_right := PySem.W.fnOf "_law_right" "_law_right" (defArgs s_right) (defBody s_right) (defScope s_right) .none kV_53 dc_53 pm_53 an_53 cd_53 ct_53, f_law := fa, d_law := PySem.W.fnOf "law" "law" (defArgs s_law) (defBody s_law) (defScope s_law) .none kV_54 dc_54 pm_54 an_54 cd_54 ct_54, c_Amount := c_Amount, c_Curve := c_Curve, c_InvalidPoints := c_InvalidPoints, c_TooMany := c_TooMany, c_PipeError := c_PipeError, c_LimitError := c_LimitError, p_top := p_top, p_bottom := p_bottom, p_sign := p_sign } := {
    F_InvalidPoints_init_ := fun_mk (st := s_InvalidPoints_init_) l_InvalidPoints_init_ k1_InvalidPoints_init_ k2_InvalidPoints_init_,
    F_TooMany_init_ := fun_mk (st := s_TooMany_init_) l_TooMany_init_ k1_TooMany_init_ k2_TooMany_init_,
    F_is_integer := fun_mk (st := s_is_integer) l_is_integer k1_is_integer k2_is_integer,
    m_is_integer := PySem.W.mg_of X G a_is_integer,
    F_is_amount_p := fun_mk (st := s_is_amount_p) l_is_amount_p k1_is_amount_p k2_is_amount_p,
    m_is_amount_p := PySem.W.mg_of X G a_is_amount_p,
    F_amount_of := fun_mk (st := s_amount_of) l_amount_of k1_amount_of k2_amount_of,
    m_amount_of := PySem.W.mg_of X G a_amount_of,
    F_decimal := fun_mk (st := s_decimal) l_decimal k1_decimal k2_decimal,
    m_decimal := PySem.W.mg_of X G a_decimal,
    F_Amount_init_ := ⟨⟨_, _, _, _, _, _, _, _, _, _, rfl, l_Amount_init_, k1_Amount_init_, .inr ⟨by simp, _, _, _, _, rfl, dl_Amount_init_, do_Amount_init_, dv_Amount_init_⟩, .inl rfl⟩, k2_Amount_init_⟩,
    F_Amounttop := fun_mk (st := s_Amounttop) l_Amounttop k1_Amounttop k2_Amounttop,
    F_Amountbottom := fun_mk (st := s_Amountbottom) l_Amountbottom k1_Amountbottom k2_Amountbottom,
    F_Amountsign := fun_mk (st := s_Amountsign) l_Amountsign k1_Amountsign k2_Amountsign,
    F_Amount_add_ := fun_mk (st := s_Amount_add_) l_Amount_add_ k1_Amount_add_ k2_Amount_add_,
    F_Amount_radd_ := fun_mk (st := s_Amount_radd_) l_Amount_radd_ k1_Amount_radd_ k2_Amount_radd_,
    F_Amount_sub_ := fun_mk (st := s_Amount_sub_) l_Amount_sub_ k1_Amount_sub_ k2_Amount_sub_,
    F_Amount_rsub_ := fun_mk (st := s_Amount_rsub_) l_Amount_rsub_ k1_Amount_rsub_ k2_Amount_rsub_,
    F_Amount_mul_ := fun_mk (st := s_Amount_mul_) l_Amount_mul_ k1_Amount_mul_ k2_Amount_mul_,
    F_Amount_rmul_ := fun_mk (st := s_Amount_rmul_) l_Amount_rmul_ k1_Amount_rmul_ k2_Amount_rmul_,
    F_Amountover := fun_mk (st := s_Amountover) l_Amountover k1_Amountover k2_Amountover,
    F_Amount_neg_ := fun_mk (st := s_Amount_neg_) l_Amount_neg_ k1_Amount_neg_ k2_Amount_neg_,
    F_Amount_lt_ := fun_mk (st := s_Amount_lt_) l_Amount_lt_ k1_Amount_lt_ k2_Amount_lt_,
    F_Amount_le_ := fun_mk (st := s_Amount_le_) l_Amount_le_ k1_Amount_le_ k2_Amount_le_,
    F_Amount_repr_ := fun_mk (st := s_Amount_repr_) l_Amount_repr_ k1_Amount_repr_ k2_Amount_repr_,
    F_is_point := fun_mk (st := s_is_point) l_is_point k1_is_point k2_is_point,
    m_is_point := PySem.W.mg_of X G a_is_point,
    F_is_origin := fun_mk (st := s_is_origin) l_is_origin k1_is_origin k2_is_origin,
    m_is_origin := PySem.W.mg_of X G a_is_origin,
    F_checked := fun_mk (st := s_checked) l_checked k1_checked k2_checked,
    m_checked := PySem.W.mg_of X G a_checked,
    F_rises := fun_mk (st := s_rises) l_rises k1_rises k2_rises,
    m_rises := PySem.W.mg_of X G a_rises,
    F_with_origin := fun_mk (st := s_with_origin) l_with_origin k1_with_origin k2_with_origin,
    m_with_origin := PySem.W.mg_of X G a_with_origin,
    F_piece := fun_mk (st := s_piece) l_piece k1_piece k2_piece,
    m_piece := PySem.W.mg_of X G a_piece,
    F_across := fun_mk (st := s_across) l_across k1_across k2_across,
    m_across := PySem.W.mg_of X G a_across,
    F_Curve_init_ := fun_mk (st := s_Curve_init_) l_Curve_init_ k1_Curve_init_ k2_Curve_init_,
    F_Curve_call_ := fun_mk (st := s_Curve_call_) l_Curve_call_ k1_Curve_call_ k2_Curve_call_,
    F_Curveback := fun_mk (st := s_Curveback) l_Curveback k1_Curveback k2_Curveback,
    F_Curvepoints := fun_mk (st := s_Curvepoints) l_Curvepoints k1_Curvepoints k2_Curvepoints,
    F_pot := fun_mk (st := s_pot) l_pot k1_pot k2_pot,
    m_pot := PySem.W.mg_of X G a_pot,
    F_draw := fun_mk (st := s_draw) l_draw k1_draw k2_draw,
    m_draw := PySem.W.mg_of X G a_draw,
    F_pick := fun_mk (st := s_pick) l_pick k1_pick k2_pick,
    m_pick := PySem.W.mg_of X G a_pick,
    F_low := fun_mk (st := s_low) l_low k1_low k2_low,
    m_low := PySem.W.mg_of X G a_low,
    F_minus := fun_mk (st := s_minus) l_minus k1_minus k2_minus,
    m_minus := PySem.W.mg_of X G a_minus,
    F_amount := fun_mk (st := s_amount) l_amount k1_amount k2_amount,
    m_amount := PySem.W.mg_of X G a_amount,
    F_read := fun_mk (st := s_read) l_read k1_read k2_read,
    m_read := PySem.W.mg_of X G a_read,
    F_step := fun_mk (st := s_step) l_step k1_step k2_step,
    m_step := PySem.W.mg_of X G a_step,
    F_points := fun_mk (st := s_points) l_points k1_points k2_points,
    m_points := PySem.W.mg_of X G a_points,
    F_passed := fun_mk (st := s_passed) l_passed k1_passed k2_passed,
    m_passed := PySem.W.mg_of X G a_passed,
    F_is_amount := fun_mk (st := s_is_amount) l_is_amount k1_is_amount k2_is_amount,
    m_is_amount := PySem.W.mg_of X G a_is_amount,
    F_part := fun_mk (st := s_part) l_part k1_part k2_part,
    m_part := PySem.W.mg_of X G a_part,
    F_sign := fun_mk (st := s_sign) l_sign k1_sign k2_sign,
    m_sign := PySem.W.mg_of X G a_sign,
    F_pair := fun_mk (st := s_pair) l_pair k1_pair k2_pair,
    m_pair := PySem.W.mg_of X G a_pair,
    F_is_behind := fun_mk (st := s_is_behind) l_is_behind k1_is_behind k2_is_behind,
    m_is_behind := PySem.W.mg_of X G a_is_behind,
    F_due := fun_mk (st := s_due) l_due k1_due k2_due,
    m_due := PySem.W.mg_of X G a_due,
    F_has := fun_mk (st := s_has) l_has k1_has k2_has,
    m_has := PySem.W.mg_of X G a_has,
    F_told := fun_mk (st := s_told) l_told k1_told k2_told,
    m_told := PySem.W.mg_of X G a_told,
    F_odd := fun_mk (st := s_odd) l_odd k1_odd k2_odd,
    m_odd := PySem.W.mg_of X G a_odd,
    F_spoilt := fun_mk (st := s_spoilt) l_spoilt k1_spoilt k2_spoilt,
    m_spoilt := PySem.W.mg_of X G a_spoilt,
    F_long := fun_mk (st := s_long) l_long k1_long k2_long,
    m_long := PySem.W.mg_of X G a_long,
    F_right := fun_mk (st := s_right) l_right k1_right k2_right,
    m_right := PySem.W.mg_of X G a_right,
    F_law := fun_mk (st := s_law) l_law k1_law k2_law,
    m_law := PySem.W.mg_of X G a_law,
    cl := ⟨pgA, hdA, poA, saA⟩,
    nT := nTA,
    nB := nBA,
    mA := PySem.W.mg_of X G aC_Amount,
    mkA := ⟨mkA_, a_Amount_init_, i_Amount_init_, kcA⟩,
    m_gcd := PySem.W.mg_of X G gcd_,
    I := ⟨ca_, cn_, ct_, cm_, (kit_own ic_ it_ sb_NoneType).1, (kit_own ic_ it_ sb_bool).1, (kit_own ic_ it_ sb_int).1, (kit_own ic_ it_ sb_str).1, (kit_own ic_ it_ sb_list).1, (kit_own ic_ it_ sb_tuple).1, (kit_own ic_ it_ sb_dict).1, (kit_own ic_ it_ sb_NoneType).2, (kit_own ic_ it_ sb_bool).2, (kit_own ic_ it_ sb_int).2, (kit_own ic_ it_ sb_str).2, (kit_own ic_ it_ sb_list).2, (kit_own ic_ it_ sb_tuple).2, (kit_own ic_ it_ sb_dict).2⟩,
    p_top := ⟨pa_Amounttop, pg_Amounttop, pt_Amounttop, ⟨_, pr_Amounttop⟩⟩,
    p_bottom := ⟨pa_Amountbottom, pg_Amountbottom, pt_Amountbottom, ⟨_, pr_Amountbottom⟩⟩,
    p_sign := ⟨pa_Amountsign, pg_Amountsign, pt_Amountsign, ⟨_, pr_Amountsign⟩⟩,
    gPart := ⟨tP, (show (10 : Int) ^ 60 = 1000000000000000000000000000000000000000000000000000000000000 by decide) ▸ PySem.W.mg_of X G part_⟩,
    gLen := ⟨tL, PySem.W.mg_of X G plen_⟩,
    oAdd := { first := sf_, at_ := o1_add, fn := i_Amount_add_, rat := o2_add, rfn := i_Amount_radd_, i1 := ⟨_, o3_add⟩, i2 := ⟨_, o4_add⟩, ss1 := sb_int, ss2 := s2_ },
    oSub := { first := sf_, at_ := o1_sub, fn := i_Amount_sub_, rat := o2_sub, rfn := i_Amount_rsub_, i1 := ⟨_, o3_sub⟩, i2 := ⟨_, o4_sub⟩, ss1 := sb_int, ss2 := s2_ },
    oMul := { first := sf_, at_ := o1_mul, fn := i_Amount_mul_, rat := o2_mul, rfn := i_Amount_rmul_, i1 := ⟨_, o3_mul⟩, i2 := ⟨_, o4_mul⟩, ss1 := sb_int, ss2 := s2_ },
    cLt := ⟨a_Amount_lt_, i_Amount_lt_⟩,
    cLe := ⟨a_Amount_le_, i_Amount_le_⟩,
    cRe := ⟨a_Amount_repr_, i_Amount_repr_⟩,
    cNg := ⟨a_Amount_neg_, i_Amount_neg_⟩,
    mOver := ⟨a_Amountover, i_Amountover, k2_Amountover⟩,
    gFlow := ⟨tkFlow, PySem.W.mg_of X G gl_Flow⟩,
    gDrop := ⟨tkDrop, PySem.W.mg_of X G gl_Drop⟩,
    gMost := ⟨tkMost, PySem.W.mg_of X G gl_Most⟩,
    cl2 := ⟨pgC, hdC, poC, saC⟩,
    nP := nPC,
    mC := PySem.W.mg_of X G aC_Curve,
    mkC := ⟨mkC_, a_Curve_init_, i_Curve_init_, kcC⟩,
    mBack := ⟨a_Curveback, i_Curveback, k2_Curveback⟩,
    mPts := ⟨a_Curvepoints, i_Curvepoints, k2_Curvepoints⟩,
    cCall := ⟨a_Curve_call_, i_Curve_call_, fi_call⟩,
    kAt := kit_of_own (by decide +kernel) sa_kAt,
    kAl := kit_of_own (by decide +kernel) sa_kAl,
    kAb := kit_of_own (by decide +kernel) sa_kAb,
    mP := PySem.W.mg_of X G aC_PipeError,
    mL := PySem.W.mg_of X G aC_LimitError,
    xInvalidPoints := ⟨PySem.W.mg_of X G aC_InvalidPoints, ⟨⟨_, _, _, _, _, _, _, _, _, _, _, _, _, _, _, xL_InvalidPoints, rfl⟩, xsa_InvalidPoints, xex_InvalidPoints, xty_InvalidPoints, xkC_InvalidPoints⟩, ⟨xga_InvalidPoints, xgg_InvalidPoints, xex_InvalidPoints, xhd_InvalidPoints⟩, a_InvalidPoints_init_, xtI_InvalidPoints, Lb.exm_sub xex_InvalidPoints xex_InvalidPoints xic_InvalidPoints xty_InvalidPoints xss_InvalidPoints⟩,
    nInvalidPoints := xno_InvalidPoints,
    eInvalidPoints := ⟨xga_InvalidPoints, xgg_InvalidPoints, xex_InvalidPoints, xhd_InvalidPoints, xca_InvalidPoints, cn_, ct_, xmo_InvalidPoints⟩,
    kInvalidPoints := Lb.kit_sub xic_PipeError xty_PipeError xsu_InvalidPoints,
    xTooMany := ⟨PySem.W.mg_of X G aC_TooMany, ⟨⟨_, _, _, _, _, _, _, _, _, _, _, _, _, _, _, xL_TooMany⟩, xsa_TooMany, xex_TooMany, xty_TooMany, xkC_TooMany⟩, ⟨xga_TooMany, xgg_TooMany, xex_TooMany, xhd_TooMany⟩, a_TooMany_init_, xtI_TooMany, Lb.exm_sub xex_TooMany xex_TooMany xic_TooMany xty_TooMany xss_TooMany⟩,
    nTooMany := xno_TooMany,
    eTooMany := ⟨xga_TooMany, xgg_TooMany, xex_TooMany, xhd_TooMany, xca_TooMany, cn_, ct_, xmo_TooMany⟩,
    kTooMany := Lb.kit_sub xic_LimitError xty_LimitError xsu_TooMany,
    n2TooMany := xn2_TooMany,
    xx1 := Lb.exm_sub xex_TooMany xex_InvalidPoints xic_InvalidPoints xty_InvalidPoints xsub_TI,
    b_len := PySem.W.mg_none_of X G z_len,
    b_abs := PySem.W.mg_none_of X G z_abs,
    b_max := PySem.W.mg_none_of X G z_max,
    b_min := PySem.W.mg_none_of X G z_min,
    b_int := PySem.W.mg_none_of X G z_int,
    b_divmod := PySem.W.mg_none_of X G z_divmod,
    b_all := PySem.W.mg_none_of X G z_all,
    b_repr := PySem.W.mg_none_of X G z_repr,
    b_isinstance := PySem.W.mg_none_of X G z_isinstance,
    b_str := PySem.W.mg_none_of X G z_str,
    b_range := PySem.W.mg_none_of X G z_range,
    b_bool := PySem.W.mg_none_of X G z_bool,
    b_list := PySem.W.mg_none_of X G z_list,
    b_tuple := PySem.W.mg_none_of X G z_tuple,
    b_enumerate := PySem.W.mg_none_of X G z_enumerate,
    b_zip := PySem.W.mg_none_of X G z_zip,
    b_ValueError := PySem.W.mg_none_of X G z_ValueError }
  exact ⟨_, fun s v => (BindsTo.of_eq rfl : BindsTo s (PySem.W.fnOf "law" "law" (defArgs s_law) (defBody s_law) (defScope s_law) .none kV_54 dc_54 pm_54 an_54 cd_54 ct_54) ⟨[v], []⟩ [("_law_script", v)]), fun base _ _ => ok_law T⟩
theorem walk {l : PySem.W.OpenLaw} {q : Program} {loose : List Str} {XP : (Str → Option Value) → Heap → Prop} {YP : World → Heap → Prop} {d : PySem.DefRec} {K : Params → PySem.W.Frag} (hn : l.most = some 63) (hdf : d.params.defaults = [])
    (hY : ∀ (w : World) (h : Heap), YP w h → (K w.params).In h)
    (F : ∀ (w : World) (mg : Str → Option Value) (fa : Addr) (h : Heap), (K w.params).In h → h.Ns mainGlobals mg → mg d.name = some (.ref fa) →
      ∃ fd : FuncData, (∀ (s : Shared) (u : Value), BindsTo s fd ⟨[u], []⟩ [("_law_script", u)]) ∧ ∀ base : Heap, (K w.params).In base → base.Ns mainGlobals mg → FnG l.prog w (K w.params) mg base CX0 16 fa fd ["_law_script"] (sp_law (K w.params))) :
    PySem.W.WalkO q loose XP YP l.row.toRowW d [] (fun f vs => PySem.call f vs) :=
  walkG (n := 63) (k := 16) (x := "_law_script") (sp := fun K => sp_law K) hn (by decide) hdf ⟨rfl, by decide, by decide⟩ hY F (fun K H a ns hl _ hS => ⟨a, ns, rfl, hS, hl, fun _ => rfl⟩)
end K19

open PySem PySem.W PyProof.Rows in
set_option maxRecDepth 100000 in
set_option maxHeartbeats 0 in
theorem PySem.Challenge.cw_surepipes_k19_points_refused_holds : PySem.Challenge.rw_surepipes_k19_points_refused.Holds := by
  w_on; o_law; k_head; (case hw => w_witness2)
  k_fill
  refine K19.walk (l := PySem.Challenge.rw_surepipes_k19_points_refused) rfl rfl (fun w h Y => PySem.W.kIn_of Y) ?F
  case F =>
    intro w mg fa h KX G hmg
    refine' K19.all_mk KX G hmg ?aC_Amount ?aC_Curve ?aC_InvalidPoints ?aC_TooMany ?aC_PipeError ?aC_LimitError ?a_InvalidPoints_init_ ?i_InvalidPoints_init_ ?l_InvalidPoints_init_ ?k1_InvalidPoints_init_ ?k2_InvalidPoints_init_ ?a_TooMany_init_ ?i_TooMany_init_ ?l_TooMany_init_ ?k1_TooMany_init_ ?k2_TooMany_init_ ?a_is_integer ?l_is_integer ?k1_is_integer ?k2_is_integer ?a_is_amount_p ?l_is_amount_p ?k1_is_amount_p ?k2_is_amount_p ?a_amount_of ?l_amount_of ?k1_amount_of ?k2_amount_of ?a_decimal ?l_decimal ?k1_decimal ?k2_decimal ?a_Amount_init_ ?i_Amount_init_ ?l_Amount_init_ ?k1_Amount_init_ ?k2_Amount_init_ ?dl_Amount_init_ ?do_Amount_init_ ?dv_Amount_init_ ?pa_Amounttop ?pg_Amounttop ?pt_Amounttop ?pr_Amounttop ?l_Amounttop ?k1_Amounttop ?k2_Amounttop ?pa_Amountbottom ?pg_Amountbottom ?pt_Amountbottom ?pr_Amountbottom ?l_Amountbottom ?k1_Amountbottom ?k2_Amountbottom ?pa_Amountsign ?pg_Amountsign ?pt_Amountsign ?pr_Amountsign ?l_Amountsign ?k1_Amountsign ?k2_Amountsign ?a_Amount_add_ ?i_Amount_add_ ?l_Amount_add_ ?k1_Amount_add_ ?k2_Amount_add_ ?a_Amount_radd_ ?i_Amount_radd_ ?l_Amount_radd_ ?k1_Amount_radd_ ?k2_Amount_radd_ ?a_Amount_sub_ ?i_Amount_sub_ ?l_Amount_sub_ ?k1_Amount_sub_ ?k2_Amount_sub_ ?a_Amount_rsub_ ?i_Amount_rsub_ ?l_Amount_rsub_ ?k1_Amount_rsub_ ?k2_Amount_rsub_ ?a_Amount_mul_ ?i_Amount_mul_ ?l_Amount_mul_ ?k1_Amount_mul_ ?k2_Amount_mul_ ?a_Amount_rmul_ ?i_Amount_rmul_ ?l_Amount_rmul_ ?k1_Amount_rmul_ ?k2_Amount_rmul_ ?a_Amountover ?i_Amountover ?l_Amountover ?k1_Amountover ?k2_Amountover ?a_Amount_neg_ ?i_Amount_neg_ ?l_Amount_neg_ ?k1_Amount_neg_ ?k2_Amount_neg_ ?a_Amount_lt_ ?i_Amount_lt_ ?l_Amount_lt_ ?k1_Amount_lt_ ?k2_Amount_lt_ ?a_Amount_le_ ?i_Amount_le_ ?l_Amount_le_ ?k1_Amount_le_ ?k2_Amount_le_ ?a_Amount_repr_ ?i_Amount_repr_ ?l_Amount_repr_ ?k1_Amount_repr_ ?k2_Amount_repr_ ?a_is_point ?l_is_point ?k1_is_point ?k2_is_point ?a_is_origin ?l_is_origin ?k1_is_origin ?k2_is_origin ?a_checked ?l_checked ?k1_checked ?k2_checked ?a_rises ?l_rises ?k1_rises ?k2_rises ?a_with_origin ?l_with_origin ?k1_with_origin ?k2_with_origin ?a_piece ?l_piece ?k1_piece ?k2_piece ?a_across ?l_across ?k1_across ?k2_across ?a_Curve_init_ ?i_Curve_init_ ?l_Curve_init_ ?k1_Curve_init_ ?k2_Curve_init_ ?a_Curve_call_ ?i_Curve_call_ ?l_Curve_call_ ?k1_Curve_call_ ?k2_Curve_call_ ?a_Curveback ?i_Curveback ?l_Curveback ?k1_Curveback ?k2_Curveback ?a_Curvepoints ?i_Curvepoints ?l_Curvepoints ?k1_Curvepoints ?k2_Curvepoints ?a_pot ?l_pot ?k1_pot ?k2_pot ?a_draw ?l_draw ?k1_draw ?k2_draw ?a_pick ?l_pick ?k1_pick ?k2_pick ?a_low ?l_low ?k1_low ?k2_low ?a_minus ?l_minus ?k1_minus ?k2_minus ?a_amount ?l_amount ?k1_amount ?k2_amount ?a_read ?l_read ?k1_read ?k2_read ?a_step ?l_step ?k1_step ?k2_step ?a_points ?l_points ?k1_points ?k2_points ?a_passed ?l_passed ?k1_passed ?k2_passed ?a_is_amount ?l_is_amount ?k1_is_amount ?k2_is_amount ?a_part ?l_part ?k1_part ?k2_part ?a_sign ?l_sign ?k1_sign ?k2_sign ?a_pair ?l_pair ?k1_pair ?k2_pair ?a_is_behind ?l_is_behind ?k1_is_behind ?k2_is_behind ?a_due ?l_due ?k1_due ?k2_due ?a_has ?l_has ?k1_has ?k2_has ?a_told ?l_told ?k1_told ?k2_told ?a_odd ?l_odd ?k1_odd ?k2_odd ?a_spoilt ?l_spoilt ?k1_spoilt ?k2_spoilt ?a_long ?l_long ?k1_long ?k2_long ?a_right ?l_right ?k1_right ?k2_right ?a_law ?l_law ?k1_law ?k2_law ?pgA ?hdA ?poA ?saA ?nTA ?nBA ?mkA_ ?kcA ?gcd_ ?ca_ ?cn_ ?ct_ ?cm_ ?ic_ ?it_ ?sb_NoneType ?sb_bool ?sb_int ?sb_str ?sb_list ?sb_tuple ?sb_dict ?part_ ?plen_ ?sf_ ?s2_ ?o1_add ?o2_add ?o3_add ?o4_add ?o1_sub ?o2_sub ?o3_sub ?o4_sub ?o1_mul ?o2_mul ?o3_mul ?o4_mul ?gl_Flow ?gl_Drop ?gl_Most ?pgC ?hdC ?poC ?saC ?nPC ?mkC_ ?kcC ?fi_call ?sa_kAt ?sa_kAl ?sa_kAb ?xL_InvalidPoints ?xsa_InvalidPoints ?xex_InvalidPoints ?xty_InvalidPoints ?xkC_InvalidPoints ?xga_InvalidPoints ?xgg_InvalidPoints ?xhd_InvalidPoints ?xtI_InvalidPoints ?xic_InvalidPoints ?xss_InvalidPoints ?xno_InvalidPoints ?xca_InvalidPoints ?xmo_InvalidPoints ?xic_PipeError ?xty_PipeError ?xsu_InvalidPoints ?xL_TooMany ?xsa_TooMany ?xex_TooMany ?xty_TooMany ?xkC_TooMany ?xga_TooMany ?xgg_TooMany ?xhd_TooMany ?xtI_TooMany ?xic_TooMany ?xss_TooMany ?xno_TooMany ?xca_TooMany ?xmo_TooMany ?xic_LimitError ?xty_LimitError ?xsu_TooMany ?xn2_TooMany ?xsub_TI ?z_len ?z_abs ?z_max ?z_min ?z_int ?z_divmod ?z_all ?z_repr ?z_isinstance ?z_str ?z_range ?z_bool ?z_list ?z_tuple ?z_enumerate ?z_zip ?z_ValueError
    (case aC_Amount => k_is)
    (case aC_Curve => k_is)
    (case aC_InvalidPoints => k_is)
    (case aC_TooMany => k_is)
    (case aC_PipeError => k_is)
    (case aC_LimitError => k_is)
    (case a_InvalidPoints_init_ => k_is)
    (case i_InvalidPoints_init_ => k_is)
    (case l_InvalidPoints_init_ => k_is)
    (case k1_InvalidPoints_init_ => k_is)
    (case k2_InvalidPoints_init_ => k_is)
    (case a_TooMany_init_ => k_is)
    (case i_TooMany_init_ => k_is)
    (case l_TooMany_init_ => k_is)
    (case k1_TooMany_init_ => k_is)
    (case k2_TooMany_init_ => k_is)
    (case a_is_integer => k_is)
    (case l_is_integer => k_is)
    (case k1_is_integer => k_is)
    (case k2_is_integer => k_is)
    (case a_is_amount_p => k_is)
    (case l_is_amount_p => k_is)
    (case k1_is_amount_p => k_is)
    (case k2_is_amount_p => k_is)
    (case a_amount_of => k_is)
    (case l_amount_of => k_is)
    (case k1_amount_of => k_is)
    (case k2_amount_of => k_is)
    (case a_decimal => k_is)
    (case l_decimal => k_is)
    (case k1_decimal => k_is)
    (case k2_decimal => k_is)
    (case a_Amount_init_ => k_is)
    (case i_Amount_init_ => k_is)
    (case l_Amount_init_ => k_is)
    (case k1_Amount_init_ => k_is)
    (case k2_Amount_init_ => k_is)
    (case dl_Amount_init_ => k_is)
    (case do_Amount_init_ => rfl)
    (case dv_Amount_init_ => exact .cons ⟨_, rfl⟩ .nil)
    (case pa_Amounttop => k_is)
    (case pg_Amounttop => k_is)
    (case pt_Amounttop => k_is)
    (case pr_Amounttop => k_is)
    (case l_Amounttop => k_is)
    (case k1_Amounttop => k_is)
    (case k2_Amounttop => k_is)
    (case pa_Amountbottom => k_is)
    (case pg_Amountbottom => k_is)
    (case pt_Amountbottom => k_is)
    (case pr_Amountbottom => k_is)
    (case l_Amountbottom => k_is)
    (case k1_Amountbottom => k_is)
    (case k2_Amountbottom => k_is)
    (case pa_Amountsign => k_is)
    (case pg_Amountsign => k_is)
    (case pt_Amountsign => k_is)
    (case pr_Amountsign => k_is)
    (case l_Amountsign => k_is)
    (case k1_Amountsign => k_is)
    (case k2_Amountsign => k_is)
    (case a_Amount_add_ => k_is)
    (case i_Amount_add_ => k_is)
    (case l_Amount_add_ => k_is)
    (case k1_Amount_add_ => k_is)
    (case k2_Amount_add_ => k_is)
    (case a_Amount_radd_ => k_is)
    (case i_Amount_radd_ => k_is)
    (case l_Amount_radd_ => k_is)
    (case k1_Amount_radd_ => k_is)
    (case k2_Amount_radd_ => k_is)
    (case a_Amount_sub_ => k_is)
    (case i_Amount_sub_ => k_is)
    (case l_Amount_sub_ => k_is)
    (case k1_Amount_sub_ => k_is)
    (case k2_Amount_sub_ => k_is)
    (case a_Amount_rsub_ => k_is)
    (case i_Amount_rsub_ => k_is)
    (case l_Amount_rsub_ => k_is)
    (case k1_Amount_rsub_ => k_is)
    (case k2_Amount_rsub_ => k_is)
    (case a_Amount_mul_ => k_is)
    (case i_Amount_mul_ => k_is)
    (case l_Amount_mul_ => k_is)
    (case k1_Amount_mul_ => k_is)
    (case k2_Amount_mul_ => k_is)
    (case a_Amount_rmul_ => k_is)
    (case i_Amount_rmul_ => k_is)
    (case l_Amount_rmul_ => k_is)
    (case k1_Amount_rmul_ => k_is)
    (case k2_Amount_rmul_ => k_is)
    (case a_Amountover => k_is)
    (case i_Amountover => k_is)
    (case l_Amountover => k_is)
    (case k1_Amountover => k_is)
    (case k2_Amountover => k_is)
    (case a_Amount_neg_ => k_is)
    (case i_Amount_neg_ => k_is)
    (case l_Amount_neg_ => k_is)
    (case k1_Amount_neg_ => k_is)
    (case k2_Amount_neg_ => k_is)
    (case a_Amount_lt_ => k_is)
    (case i_Amount_lt_ => k_is)
    (case l_Amount_lt_ => k_is)
    (case k1_Amount_lt_ => k_is)
    (case k2_Amount_lt_ => k_is)
    (case a_Amount_le_ => k_is)
    (case i_Amount_le_ => k_is)
    (case l_Amount_le_ => k_is)
    (case k1_Amount_le_ => k_is)
    (case k2_Amount_le_ => k_is)
    (case a_Amount_repr_ => k_is)
    (case i_Amount_repr_ => k_is)
    (case l_Amount_repr_ => k_is)
    (case k1_Amount_repr_ => k_is)
    (case k2_Amount_repr_ => k_is)
    (case a_is_point => k_is)
    (case l_is_point => k_is)
    (case k1_is_point => k_is)
    (case k2_is_point => k_is)
    (case a_is_origin => k_is)
    (case l_is_origin => k_is)
    (case k1_is_origin => k_is)
    (case k2_is_origin => k_is)
    (case a_checked => k_is)
    (case l_checked => k_is)
    (case k1_checked => k_is)
    (case k2_checked => k_is)
    (case a_rises => k_is)
    (case l_rises => k_is)
    (case k1_rises => k_is)
    (case k2_rises => k_is)
    (case a_with_origin => k_is)
    (case l_with_origin => k_is)
    (case k1_with_origin => k_is)
    (case k2_with_origin => k_is)
    (case a_piece => k_is)
    (case l_piece => k_is)
    (case k1_piece => k_is)
    (case k2_piece => k_is)
    (case a_across => k_is)
    (case l_across => k_is)
    (case k1_across => k_is)
    (case k2_across => k_is)
    (case a_Curve_init_ => k_is)
    (case i_Curve_init_ => k_is)
    (case l_Curve_init_ => k_is)
    (case k1_Curve_init_ => k_is)
    (case k2_Curve_init_ => k_is)
    (case a_Curve_call_ => k_is)
    (case i_Curve_call_ => k_is)
    (case l_Curve_call_ => k_is)
    (case k1_Curve_call_ => k_is)
    (case k2_Curve_call_ => k_is)
    (case a_Curveback => k_is)
    (case i_Curveback => k_is)
    (case l_Curveback => k_is)
    (case k1_Curveback => k_is)
    (case k2_Curveback => k_is)
    (case a_Curvepoints => k_is)
    (case i_Curvepoints => k_is)
    (case l_Curvepoints => k_is)
    (case k1_Curvepoints => k_is)
    (case k2_Curvepoints => k_is)
    (case a_pot => k_is)
    (case l_pot => k_is)
    (case k1_pot => k_is)
    (case k2_pot => k_is)
    (case a_draw => k_is)
    (case l_draw => k_is)
    (case k1_draw => k_is)
    (case k2_draw => k_is)
    (case a_pick => k_is)
    (case l_pick => k_is)
    (case k1_pick => k_is)
    (case k2_pick => k_is)
    (case a_low => k_is)
    (case l_low => k_is)
    (case k1_low => k_is)
    (case k2_low => k_is)
    (case a_minus => k_is)
    (case l_minus => k_is)
    (case k1_minus => k_is)
    (case k2_minus => k_is)
    (case a_amount => k_is)
    (case l_amount => k_is)
    (case k1_amount => k_is)
    (case k2_amount => k_is)
    (case a_read => k_is)
    (case l_read => k_is)
    (case k1_read => k_is)
    (case k2_read => k_is)
    (case a_step => k_is)
    (case l_step => k_is)
    (case k1_step => k_is)
    (case k2_step => k_is)
    (case a_points => k_is)
    (case l_points => k_is)
    (case k1_points => k_is)
    (case k2_points => k_is)
    (case a_passed => k_is)
    (case l_passed => k_is)
    (case k1_passed => k_is)
    (case k2_passed => k_is)
    (case a_is_amount => k_is)
    (case l_is_amount => k_is)
    (case k1_is_amount => k_is)
    (case k2_is_amount => k_is)
    (case a_part => k_is)
    (case l_part => k_is)
    (case k1_part => k_is)
    (case k2_part => k_is)
    (case a_sign => k_is)
    (case l_sign => k_is)
    (case k1_sign => k_is)
    (case k2_sign => k_is)
    (case a_pair => k_is)
    (case l_pair => k_is)
    (case k1_pair => k_is)
    (case k2_pair => k_is)
    (case a_is_behind => k_is)
    (case l_is_behind => k_is)
    (case k1_is_behind => k_is)
    (case k2_is_behind => k_is)
    (case a_due => k_is)
    (case l_due => k_is)
    (case k1_due => k_is)
    (case k2_due => k_is)
    (case a_has => k_is)
    (case l_has => k_is)
    (case k1_has => k_is)
    (case k2_has => k_is)
    (case a_told => k_is)
    (case l_told => k_is)
    (case k1_told => k_is)
    (case k2_told => k_is)
    (case a_odd => k_is)
    (case l_odd => k_is)
    (case k1_odd => k_is)
    (case k2_odd => k_is)
    (case a_spoilt => k_is)
    (case l_spoilt => k_is)
    (case k1_spoilt => k_is)
    (case k2_spoilt => k_is)
    (case a_long => k_is)
    (case l_long => k_is)
    (case k1_long => k_is)
    (case k2_long => k_is)
    (case a_right => k_is)
    (case l_right => k_is)
    (case k1_right => k_is)
    (case k2_right => k_is)
    (case a_law => k_is)
    (case l_law => k_is)
    (case k1_law => k_is)
    (case k2_law => k_is)
    (case pgA => k_is)
    (case hdA => k_is)
    (case poA => k_is)
    (case saA => k_is)
    (case nTA => k_is)
    (case nBA => k_is)
    (case mkA_ => k_is)
    (case kcA => k_is)
    (case gcd_ => k_is)
    (case ca_ => k_is)
    (case cn_ => k_is)
    (case ct_ => k_is)
    (case cm_ => k_is)
    (case ic_ => k_is)
    (case it_ => k_is)
    (case sb_NoneType => k_is)
    (case sb_bool => k_is)
    (case sb_int => k_is)
    (case sb_str => k_is)
    (case sb_list => k_is)
    (case sb_tuple => k_is)
    (case sb_dict => k_is)
    (case part_ => k_is)
    (case plen_ => k_is)
    (case sf_ => k_is)
    (case s2_ => k_is)
    (case o1_add => k_is)
    (case o2_add => k_is)
    (case o3_add => k_is)
    (case o4_add => k_is)
    (case o1_sub => k_is)
    (case o2_sub => k_is)
    (case o3_sub => k_is)
    (case o4_sub => k_is)
    (case o1_mul => k_is)
    (case o2_mul => k_is)
    (case o3_mul => k_is)
    (case o4_mul => k_is)
    (case gl_Flow => k_is)
    (case gl_Drop => k_is)
    (case gl_Most => k_is)
    (case pgC => k_is)
    (case hdC => k_is)
    (case poC => k_is)
    (case saC => k_is)
    (case nPC => k_is)
    (case mkC_ => k_is)
    (case kcC => k_is)
    (case fi_call => k_is)
    (case sa_kAt => k_is)
    (case sa_kAl => k_is)
    (case sa_kAb => k_is)
    (case xL_InvalidPoints => k_is)
    (case xsa_InvalidPoints => k_is)
    (case xex_InvalidPoints => k_is)
    (case xty_InvalidPoints => k_is)
    (case xkC_InvalidPoints => k_is)
    (case xga_InvalidPoints => k_is)
    (case xgg_InvalidPoints => k_is)
    (case xhd_InvalidPoints => k_is)
    (case xtI_InvalidPoints => k_is)
    (case xic_InvalidPoints => k_is)
    (case xss_InvalidPoints => k_is)
    (case xno_InvalidPoints => k_is)
    (case xca_InvalidPoints => k_is)
    (case xmo_InvalidPoints => k_is)
    (case xic_PipeError => k_is)
    (case xty_PipeError => k_is)
    (case xsu_InvalidPoints => k_is)
    (case xL_TooMany => k_is)
    (case xsa_TooMany => k_is)
    (case xex_TooMany => k_is)
    (case xty_TooMany => k_is)
    (case xkC_TooMany => k_is)
    (case xga_TooMany => k_is)
    (case xgg_TooMany => k_is)
    (case xhd_TooMany => k_is)
    (case xtI_TooMany => k_is)
    (case xic_TooMany => k_is)
    (case xss_TooMany => k_is)
    (case xno_TooMany => k_is)
    (case xca_TooMany => k_is)
    (case xmo_TooMany => k_is)
    (case xic_LimitError => k_is)
    (case xty_LimitError => k_is)
    (case xsu_TooMany => k_is)
    (case xn2_TooMany => k_is)
    (case xsub_TI => k_is)
    (case z_len => k_is)
    (case z_abs => k_is)
    (case z_max => k_is)
    (case z_min => k_is)
    (case z_int => k_is)
    (case z_divmod => k_is)
    (case z_all => k_is)
    (case z_repr => k_is)
    (case z_isinstance => k_is)
    (case z_str => k_is)
    (case z_range => k_is)
    (case z_bool => k_is)
    (case z_list => k_is)
    (case z_tuple => k_is)
    (case z_enumerate => k_is)
    (case z_zip => k_is)
    (case z_ValueError => k_is)
#print axioms PySem.Challenge.cw_surepipes_k19_points_refused_holds

