import PyProof.Rows.All
import Wide.All
import OpenK.AllK
import Wide.FinOn
import HandS.ForMost
import HandS.OwnEq
import HandS.SlotsOwn
import HandS.Property
import HandS.Gcd
import HandS.WideBits
import HandS.Style
import HandS.FStr
import HandS.IsInst
import HandS.RaiseMore
import HandS.Codes
import HandS.Defaults
import KE.RegKCallOwn
import PyProof.ReprRoads
import HandS.ClsMeth
import HandS.Star
import HandS.MakeKwOnly
import HandS.MakeKw
import HandS.StrMore
import KE.GoesMore
import KE.GoesEnum
import HandS.Walk
import HandS.Zip
import KE.KDictZip
import HandS.TryOnly
import HandS.ExcInit
import HandS.ExcField
import HandS.WordsExc
import HandS.TryMany
import HandS.ExcIs
import KE.KExcIs
import PyProof.Rows.StrFirst
import PyProof.Rows.StrItems
import PyProof.StrLawsChain
import PyProof.StrLawsTight
import PyProof.StrLawsAffix
import KE.IntTextLaws
import HandS.Text
import HandS.Dict
import HandS.Lambda
import HandS.EndTab
import HandS.HotCalls
import KE.KNest
import PyProof.ReprNest
import KE.KFmtOwn
import PySem.Challenge.RW_surepipes_k48_stretches
set_option Elab.async false
set_option linter.all false
set_option maxRecDepth 100000
set_option maxHeartbeats 4000000
namespace Lb
open PySem PySem.Spec PyProof.Rows L2
open SlX (cmpback)

/-! own operators of plain instances -/
section
variable {X : Cx} {CX : CXT} {pins : List (Addr × Obj)} {σ : L2.St} {H : Hp} {s : Shared} {a C dx p g : Addr} {f : Str} {n : Nat} {sp : Sp} {E : XK} {v : V} {u : Value}

/-- what a comparison sees as the type of a value -/
theorem looks_ty {x : V} {u t : Value} (I : Inv X pins σ H s) (rx : RelV x u) (ty : TyOf X.K H x t) : PySem.W.Looks (model X.prog X.w) s.heap (typeOf u) t := by
  obtain ⟨P, k, hp, _⟩ := kit_of I rx (.base ty)
  exact k.ty _ _ I.kIn hp

/-- the instance as the library takes it -/
theorem inst_at {fs : List (Str × V)} (I : Inv X pins σ H s) (e : H a = some (.ins C dx fs)) : ∃ od, PySem.W.InstAt s.heap a (PySem.W.instObj C dx) C (some od) := by
  obtain ⟨mA, O, _⟩ := ins_get I.hok e
  obtain ⟨od, J, _⟩ := O.look
  exact ⟨od, J⟩

/-- x OP y by the def of the class of x for OP -/
def rOwnOp (K : PySem.W.Frag) (C : Addr) (sp : Sp) (E : XK) : R2 := fun x y H Q =>
  ∃ a dx fs t, x = .ref a ∧ H a = some (.ins C dx fs) ∧ TyOf K H y t ∧ PySem.W.notFirst K C t = true ∧ sp [x, y] H Q E
theorem op_ownCmp {K : PySem.W.Frag} {op : CmpOp} (hK : X.K = K) (hop : ∀ a b, compareOp op a b = richCompare op a b)
    (hs : PySem.W.findIn K (.ref C) (cmpInfo op).2.1 = some (some (.ref g))) (hf : PySem.W.isFn K (.ref g) = true)
    (F : FnR X.prog X.w X.K X.mg X.base CX n g sp) (hr : Room n X.A) (hx : Passes CX X E) : OpR X (compareOp op) (rOwnOp K C sp E) := by
  subst hK
  intro pins s σ H x y v u Q I rx ry h
  obtain ⟨a, dx, fs, t, rfl, ha, ty, hn, q⟩ := h
  cases (show v = Value.ref a from rx)
  obtain ⟨od, J⟩ := inst_at I ha
  obtain ⟨m, hF⟩ := I.fr
  rw [hop]
  refine PySem.W.cmp_K (op := op) (tb := t) hr.units0 hF I.ok.mod.kin J (looks_ty I ry ty) hn hs hf ?_
  refine wpAny_mono (wpAny_call (SlX.run_at (us := [.ref a, u]) (ws := [.ref a, y]) F hr I.env0 hx I (.cons rfl (.cons ry .nil)) q)) (fun w s' z => ?_) fun _ _ x => x
  obtain ⟨z', H', I', rz, qz⟩ := z
  exact cmpback rz ⟨z', H', I', rz, qz⟩

/-- x != y where the class of x has __eq__ alone: its answer turned -/
theorem ne_try {K : PySem.W.Frag} {prog : Program} {w : World} {A : Around} {EE : Value → Shared → Prop} {s : Shared} {x C f : Addr} {ox : Obj} {od : Option Obj} {b : Value} {Q : Option Value → Shared → Prop}
    (hu : A.units + 1 < cLine) (KX : K.In s.heap) (J : PySem.W.InstAt s.heap x ox C od)
    (hne : PySem.W.findIn K (.ref C) "__ne__" = some (some (.builtin "object.__ne__"))) (hm : PySem.W.mroIn K C (.type "object") = some true)
    (he : PySem.W.findIn K (.ref C) "__eq__" = some (some (.ref f))) (hf : PySem.W.isFn K (.ref f) = true)
    (h : wpAny (model prog w) A.in1 (call (.ref f) [.ref x, b]) (fun v s' => ∃ k, v = .bool k ∧ Q (some (.bool (!k))) s') EE s) :
    wpAny (model prog w) A (tryCompare (.ref x) "__ne__" b) Q EE s := by
  have hb := PySem.F.cmp_object.ne.bind
  simp only [tryCompare, callSpecialIfBound?, bindSpecialIfBound?]
  refine wpAny_bind (wpAny_holding (wpAny_bind (wpAny_bind (wpAny_bind (J.type.here ((PySem.W.looks_findIn KX hne).here ?_))))))
  refine wpAny_bind (wpAny_askSetting (wpAny_ite ?_))
  have body : wpAny (model prog w) A (call (.builtin "object.__ne__") ([.ref x] ++ [b])) (fun v s' => ∃ k, v = .bool k ∧ Q (some (.bool k)) s') EE s := by
    refine wpAny_call (codeAny_call_builtin PySem.F.cmp_object.ne.plain PySem.F.cmpEntry_ne
      (PySem.W.check_slot PySem.F.cmpKind_ne PySem.F.cmpSplit_ne (J.type.andThen (PySem.W.looks_mroIn KX hm)) (PySem.F.cmpArgs_ne _ _) ?_))
    unfold Builtin.«object.__ne__»
    refine wpAny_bind (m := slotArgs "__ne__" 1 _) (wpAny_pure ?_)
    refine wpAny_bind (m := cRoomFor _ _) (wpAny_cRoomFor hu ?_)
    refine wpAny_bind (m := callSpecialIfBound? (.ref x) (Str.ofString "__eq__") [b]) (PySem.W.ifBound_K KX J he hf (wpAny_mono h (fun v s' z => ?_) fun _ _ e => e))
    obtain ⟨k, rfl, q⟩ := z
    refine wpAny_bind (wpAny_truthy_bool ?_)
    exact wpAny_pure ⟨!k, rfl, q⟩
  have fin : wpAny (model prog w) A (call (.builtin "object.__ne__") ([.ref x] ++ [b]) >>= fun v => pure (some v)) (fun r s' => ∃ k, r = some (.bool k) ∧ Q (some (.bool k)) s') EE s :=
    wpAny_bind (wpAny_mono body (fun v s' ⟨k, e, q⟩ => wpAny_pure ⟨k, by rw [e], q⟩) fun _ _ e => e)
  have fin2 : wpAny (model prog w) A (call (.builtin "object.__ne__") ([.ref x] ++ [b]) >>= fun v => pure (some v)) (fun r s' => wpAny (model prog w) A (match r with
      | some .notImplemented | none => pure none
      | some v => pure (some v)) Q EE s') EE s := wpAny_mono fin (fun r s' ⟨k, e, q⟩ => by subst e; exact wpAny_pure q) fun _ _ e => e
  split
  · exact wpAny_bind ((PySem.W.Looks.of_pure (hb _)).here (wpAny_pure (by exact fin2)))
  · exact wpAny_tryCatch (wpAny_bind ((PySem.W.Looks.of_pure (hb _)).here (wpAny_pure (by exact fin2))))

/-- how a promise at a bool is handed back -/
def rOwnNe (K : PySem.W.Frag) (C : Addr) (sp : Sp) (E : XK) : R2 := fun x y H Q =>
  ∃ a dx fs t, x = .ref a ∧ H a = some (.ins C dx fs) ∧ TyOf K H y t ∧ PySem.W.notFirst K C t = true ∧ sp [x, y] H (fun z H' => ∃ k, z = .bl k ∧ Q (.bl (!k)) H') E
theorem op_ownNe {K : PySem.W.Frag} (hK : X.K = K) (hne : PySem.W.findIn K (.ref C) "__ne__" = some (some (.builtin "object.__ne__"))) (hm : PySem.W.mroIn K C (.type "object") = some true)
    (hs : PySem.W.findIn K (.ref C) "__eq__" = some (some (.ref g))) (hf : PySem.W.isFn K (.ref g) = true)
    (F : FnR X.prog X.w X.K X.mg X.base CX n g sp) (hr : Room (n + 1) X.A) (hx : Passes CX X E) : OpR X (compareOp .NotEq) (rOwnNe K C sp E) := by
  subst hK
  intro pins s σ H x y v u Q I rx ry h
  obtain ⟨a, dx, fs, t, rfl, ha, ty, hn, q⟩ := h
  cases (show v = Value.ref a from rx)
  obtain ⟨od, J⟩ := inst_at I ha
  have KX := I.kIn
  have hb := looks_ty I ry ty
  have hu := hr.units
  have body : wpAny (model X.prog X.w) X.A.in1 (call (.ref g) [.ref a, u]) (fun v s' => ∃ k, v = .bool k ∧ EP X pins σ Q (.bool (!k)) s') X.xe s := by
    refine wpAny_mono (wpAny_call (SlX.run_at (us := [.ref a, u]) (ws := [.ref a, y]) F hr.in1 I.env0.in1 hx I (.cons rfl (.cons ry .nil)) q)) (fun w s' z => ?_) fun _ _ x => x
    obtain ⟨z', H', I', rz, k, ez, qz⟩ := z
    subst ez
    exact ⟨k, rz, .bl (!k), H', I', rfl, qz⟩
  have one : wpAny (model X.prog X.w) X.A (tryCompare (.ref a) "__ne__" u) (fun r s' => ∃ v, r = some v ∧ EP X pins σ Q v s') X.xe s :=
    ne_try (by omega) KX J hne hm hs hf (wpAny_mono body (fun v s' ⟨k, e, q⟩ => ⟨k, e, _, rfl, q⟩) fun _ _ e => e)
  show wpAny (model X.prog X.w) X.A (richCompare .NotEq (.ref a) u) (EP X pins σ Q) X.xe s
  unfold richCompare
  simp only [oneThing_ref]
  refine wpAny_holding (wpAny_bind (wpAny_cRoomFor hr.units0 ?_))
  refine wpAny_bind (J.type.here (wpAny_bind (hb.here ?_)))
  split
  · rename_i q'
    have e : PySem.W.subIn X.K t (.ref C) = some false := by
      rcases Bool.or_eq_true_iff.mp hn with e | e
      · rw [beq_iff_eq.mp e] at q'; simp at q'
      · exact beq_iff_eq.mp e
    refine wpAny_bind ((PySem.W.looks_subIn KX e).here ?_)
    simp only [Bool.false_eq_true, if_false]
    refine wpAny_bind (wpAny_mono one (fun r s' z => ?_) fun _ _ e => e)
    obtain ⟨v, rfl, hq⟩ := z
    exact wpAny_pure hq
  · refine wpAny_bind (wpAny_pure ?_)
    simp only [Bool.false_eq_true, if_false]
    refine wpAny_bind (wpAny_mono one (fun r s' z => ?_) fun _ _ e => e)
    obtain ⟨v, rfl, hq⟩ := z
    exact wpAny_pure hq

/-- str(x), x an instance whose class has __str__ -/
def rOwnTx (C : Addr) (sp : Sp) (E : XK) : List V → Hp → VK → Prop := fun xs H Q =>
  ∃ a dx fs, xs = [.ref a] ∧ H a = some (.ins C dx fs) ∧ sp xs H (fun z H' => ∃ y, z = .str y ∧ Q z H') E
theorem call_strOwn (hs : PySem.W.findIn X.K (.ref C) "__str__" = some (some (.ref g))) (hf : PySem.W.isFn X.K (.ref g) = true)
    (F : FnR X.prog X.w X.K X.mg X.base CX n g sp) (hr : Room (n + 2) X.A) (hx : Passes CX X E) : CallR X (.type "str") (rOwnTx C sp E) := by
  intro pins s σ H xs us Q I r h
  obtain ⟨a, dx, fs, rfl, ha, q⟩ := h
  obtain ⟨u, rfl, ru⟩ := vals1 r
  cases (show u = Value.ref a from ru)
  obtain ⟨od, J⟩ := inst_at I ha
  have hu := hr.units
  have hr2 : Room n X.A.in1.in1 := (show Room (n + 1) X.A.in1 from Room.in1 hr).in1
  refine PySem.W.kso_call (by show X.A.units + 1 + 1 < cLine; omega) I.kIn J hs hf ?_
  refine wpAny_mono (wpAny_call (SlX.run_at (us := [.ref a]) (ws := [.ref a]) F hr2 I.env0.in1.in1 hx I (.cons rfl .nil) q)) (fun w s' z => ?_) fun _ _ x => x
  obtain ⟨z', H', I', rz, y, ez, qz⟩ := z
  subst ez
  obtain ⟨t, rfl⟩ := (show ∃ t, w = Value.str y t from rz)
  exact ⟨.str y, H', I', ⟨t, rfl⟩, qz⟩
/-- repr(x), x an instance whose class has __repr__ -/
theorem call_reprOwn (hs : PySem.W.findIn X.K (.ref C) "__repr__" = some (some (.ref g))) (hf : PySem.W.isFn X.K (.ref g) = true)
    (F : FnR X.prog X.w X.K X.mg X.base CX n g sp) (hr : Room (n + 1) X.A) (hx : Passes CX X E) : CallR X (.builtin "repr") (rOwnTx C sp E) := by
  intro pins s σ H xs us Q I r h
  obtain ⟨a, dx, fs, rfl, ha, q⟩ := h
  obtain ⟨u, rfl, ru⟩ := vals1 r
  cases (show u = Value.ref a from ru)
  obtain ⟨od, J⟩ := inst_at I ha
  have hu := hr.units
  refine Calls.call_function_entry PySem.F.kind_repr PySem.F.plain_repr PySem.F.entry_repr (PySem.F.args_repr1 _) ?_
  unfold Builtin.«repr»
  refine wpAny_bind (m := oneArg "repr" _) (wpAny_pure ?_)
  refine wpAny_bind (m := cRoomFor _ _) (wpAny_cRoomFor (by show X.A.units + 1 < cLine; omega) ?_)
  refine wpAny_bind (wpAny_bind (J.type.here ((PySem.W.looks_findIn I.kIn hs).here ?_)))
  refine wpAny_bind (m := callSpecialIfBound? (.ref a) (Str.ofString "__repr__")) (PySem.W.ifBound_K I.kIn J hs hf ?_)
  refine wpAny_mono (wpAny_call (SlX.run_at (us := [.ref a]) (ws := [.ref a]) F hr.in1 I.env0.in1 hx I (.cons rfl .nil) q)) (fun w s' z => ?_) fun _ _ x => x
  obtain ⟨z', H', I', rz, y, ez, qz⟩ := z
  subst ez
  obtain ⟨t, rfl⟩ := (show ∃ t, w = Value.str y t from rz)
  refine wpAny_bind (wpAny_isInstance (T := "str") (b := true) rfl isSubtype_str_str ?_)
  exact wpAny_pure ⟨_, rfl, .str y, H', I', ⟨t, rfl⟩, qz⟩
end
end Lb

set_option Elab.async false
set_option linter.all false
set_option maxRecDepth 100000
set_option maxHeartbeats 4000000
namespace Lb
open PySem PySem.Spec PyProof.Rows L2
open SlX (cmpback)

/-! repr of data: wants that no repr is running -/
mutual
theorem dp_plain {K : PySem.W.Frag} {H : Hp} : ∀ (d : PyData) (v : V), Dp K H v d → d.hasDict = false
  | .none, _, _ => by simp only [PyData.hasDict]
  | .bool _, _, _ => by simp only [PyData.hasDict]
  | .int _, _, _ => by simp only [PyData.hasDict]
  | .str _, _, _ => by simp only [PyData.hasDict]
  | .list ds, _, h => by
    cases h with
    | lst _ q => simp only [PyData.hasDict]; exact dp_plains ds _ q
  | .tuple ds, _, h => by
    cases h with
    | tup _ q => simp only [PyData.hasDict]; exact dp_plains ds _ q
  | .dict _, _, h => by cases h
theorem dp_plains {K : PySem.W.Frag} {H : Hp} : ∀ (ds : List PyData) (vs : List V), DpAll K H vs ds → PyData.hasDictAll ds = false
  | [], _, _ => by simp only [PyData.hasDictAll]
  | d :: ds, _, h => by
    cases h with
    | cons h1 h2 => simp only [PyData.hasDictAll, dp_plain d _ h1, dp_plains ds _ h2, Bool.or_self]
end
section
variable {X : Cx}
def rRepr (K : PySem.W.Frag) : List V → Hp → VK → Prop := fun xs H Q =>
  ∃ x d, xs = [x] ∧ Dp K H x d ∧ d.showable = true ∧ d.shown.length ≤ sizeLine ∧ d.depth ≤ 60 ∧ Q (.str d.shown) H
theorem call_repr {K : PySem.W.Frag} (hK : X.K = K) (hg : X.A.guards = some []) (hu : X.A.units + 64 < cLine) : CallR X (.builtin "repr") (rRepr K) := by
  subst hK
  intro pins s σ H xs us Q I r h
  obtain ⟨x, d, rfl, hd, hs, hz, hdp, q⟩ := h
  obtain ⟨u, rfl, ru⟩ := vals1 r
  have hpl := dp_plain d x hd
  obtain ⟨as, rd⟩ := Dp.reads I d x u hd ru
  cases x with
  | non =>
    cases hd
    cases (show u = Value.none from ru)
    exact PySem.P.repr_of_none ⟨.str _, H, I.tok _, ⟨_, rfl⟩, q⟩
  | bl b =>
    cases hd
    cases (show u = Value.bool b from ru)
    exact PySem.P.repr_of_bool ⟨.str _, H, I.tok _, ⟨_, rfl⟩, q⟩
  | int i =>
    cases hd
    obtain ⟨t, rfl⟩ := (show ∃ t, u = Value.int i t from ru)
    have hi : i.natAbs.log2 < 1920 := of_decide_eq_true (by simpa only [PyData.showable] using hs)
    exact PySem.P.repr_of_int hi ⟨.str _, H, I.tok _, ⟨_, rfl⟩, q⟩
  | str y =>
    cases hd
    obtain ⟨t, rfl⟩ := (show ∃ t, u = Value.str y t from ru)
    exact PySem.P.repr_of_str ⟨.str _, H, I.tok _, ⟨_, rfl⟩, q⟩ hz
  | byt y => cases hd
  | flt y => cases hd
  | ty y => cases hd
  | ref a =>
    cases (show u = Value.ref a from ru)
    refine PySem.repr_of_reads' rd hs (PyData.noDict_hsm hpl) hg (by omega) (fun _ _ e => e) (fun h' w tk k => ?_) hz
    exact ⟨.str _, H, I.kept k, ⟨_, rfl⟩, q⟩

/-! the layer's rules with the written part told apart (within a comprehension the context is another) -/
variable {K : PySem.W.Frag}
theorem ix_listK (hK : X.K = K) : IxR X (rIxL K) := by subst hK; exact ix_list
theorem ix_tupK (hK : X.K = K) : IxR X (rIxT K) := by subst hK; exact ix_tup
theorem sl_listK (hK : X.K = K) : SlR X (rSlL K) := by subst hK; exact sl_list
theorem call_lenK (hK : X.K = K) : CallR X (.builtin "len") (fun xs H Q => ∃ p ys, xs = [.ref p] ∧ (SqL K H p ys ∨ SqT K H p ys) ∧ Q (.int ys.length) H) := by subst hK; exact call_len_seq
theorem call_isiK' (hK : X.K = K) : CallR X (.builtin "isinstance") (rIsi K) := by subst hK; exact call_isi
theorem cr_allK (hK : X.K = K) (hc : X.calm = true) : CallR X (.builtin "all") (rAll K) := by subst hK; exact cr_all hc
theorem cr_anyK (hK : X.K = K) (hc : X.calm = true) : CallR X (.builtin "any") (rAny K) := by subst hK; exact cr_any hc
theorem pe_fldK {e : Expr} {f : Str} {pos : Pos} {ta : TE} (hK : X.K = K) (he : PE X e ta) (hb : attributeBase e f X.env (eval e X.env) = eval e X.env) : PE X (.Attribute e f pos) (tFld K ta f) := by subst hK; exact pe_fld he hb
theorem ps_fldK {o value : Expr} {f : Str} {pos pos' : Pos} {ta tv : TE} (hK : X.K = K) (ha : PE X o ta) (hv : PE X value tv) (hs : swapsWith value (some (.Attribute o f pos')) pos.line X.env = pure false) :
    PS X (.Assign [.Attribute o f pos'] value pos) (sFld K ta tv f) := by subst hK; exact ps_fld ha hv hs
theorem pg_tupK {pos : Pos} {es : List Expr} {k : Nat} {t : TGs} {n : Nat} (hK : X.K = K) (hc : X.calm = true) (h : PGs X es t)
    (hn : (assignEach es X.env).length = n := by rfl) (hst : (assignEach es X.env).findIdx? (·.1) = none := by rfl) : PG X (.Tuple es k pos) (gTup K n t) := by subst hK; exact pg_tup hc h hn hst
theorem pi_listK {tg l : Expr} {tl : TE} (hK : X.K = K) (hl : PE X l tl) : PI X tg l (iList K tl) := by subst hK; exact pi_list hl
end
end Lb

set_option Elab.async false
set_option linter.all false
set_option maxRecDepth 100000
set_option maxHeartbeats 4000000
namespace Lb
open PySem PySem.Spec PyProof.Rows L2

/-! defs that may show data (repr): they are called where no repr runs -/
structure FnG (P : Program) (w : World) (K : PySem.W.Frag) (mg : Str → Option Value) (base : Heap) (CX : CXT)
    (k : Nat) (f : Addr) (fd : FuncData) (ps : List Str) (sp : Sp) : Prop where
  len : ∀ vs H Q E, sp vs H Q E → vs.length = ps.length
  run : ∀ (A : Around) (outer : List Env) (s : Shared) (H : Hp) (args : Args) (us : List Value) (vs : List V) (Q : VK) (E : XK),
    A.guards = some [] → Room k A → Env0 P w K mg base A outer s H → BindsTo s fd args (ps.zip us) → Vals vs us → sp vs H Q E →
    codeAny (model P w) A (.call (.ref f) args) (CR CX outer P w H s Q E) s

section
variable {P : Program} {w : World} {K : PySem.W.Frag} {mg : Str → Option Value} {base : Heap} {CX : CXT} {k j : Nat} {f : Addr} {fd : FuncData} {ps : List Str} {sp : Sp}
theorem FnG.of (F : FnOk P w K mg base CX k f fd ps sp) : FnG P w K mg base CX k f fd ps sp :=
  ⟨F.len, fun A outer s H args us vs Q E _ hr e0 hb r hs => F.run A outer s H args us vs Q E hr e0 hb r hs⟩
theorem FnG.mono (F : FnG P w K mg base CX j f fd ps sp) (h : j ≤ k) : FnG P w K mg base CX k f fd ps sp :=
  ⟨F.len, fun A outer s H args us vs Q E g hr => F.run A outer s H args us vs Q E g (hr.mono h)⟩
/-- the rule for the body of such a def -/
theorem okG {x qual : Str} {st : Stmt} {N : List Str} (F : Fun K x qual st f fd) (S : FnScope N ps (defScope st))
    (len : ∀ vs H Q E, sp vs H Q E → vs.length = ps.length)
    (hbody : ∀ (cdv : Value) (A : Around) (outer : List Env) (s : Shared) (H : Hp) (vs : List V) (Q : VK) (E : XK),
      (A.deeper (envOfC qual (defScope st) s.heap.objs.size f cdv)).guards = some [] →
      Room k (A.deeper (envOfC qual (defScope st) s.heap.objs.size f cdv)) → sp vs H Q E →
      ∃ t, PSs (cxOf CX P w K mg base N qual (defScope st) f cdv A outer s H E).nox (defBody st) t ∧
        t { nx := fun _ H' => Q .non H', rt := Q } (start N vs) H) :
    FnG P w K mg base CX (k + 1) f fd ps sp := by
  obtain ⟨oc, od, kV, doc, pm, an, cdv, ct, osl, rfl, lk, hcd⟩ := F.ex
  refine ⟨len, fun A outer s H args us vs Q E hgu hr e0 hb r hsp => ?_⟩
  have hl := len vs H Q E hsp
  have KX : K.In s.heap := e0.mod.kin.keeps fun b o e => (e0.bs b o e).1
  have lim : s.heap.NoLimit := e0.mod.nolimit.keeps fun b o e => (e0.bs b o e).1
  have hkind : ∀ y ∈ ps.zip us, (defScope st).names.lookup y.1 = some .local ∨
      ((defScope st).names.lookup y.1 = some .cell ∧ ((cellsFrom (s.heap.objs.size + 1) (defScope st).names []).lookup y.1).isSome = true) := by
    rintro ⟨n, v⟩ hy
    rcases S.par n (List.of_mem_zip hy).1 with q | q
    · exact .inl q
    · exact .inr ⟨q, PySem.W.cellsFrom_some _ _ _ (.inl q)⟩
  refine codeAny_call_function hr.depth (KX _ _ lk) rfl S.co S.gen rfl (PySem.W.codeRec_of KX hcd) (hb _ _ _ _ ?_)
  refine wpAny_newFunctionEnv_cells S.kind hkind fun env he s1 y => ?_
  subst he
  refine ⟨lim.keeps y.toInCall.keep, codeAny_func ?_⟩
  have hgd : (A.deeper (envOfC qual (defScope st) s.heap.objs.size f cdv)).guards = some [] := by
    first
      | exact hgu
      | simpa [Around.deeper] using hgu
  obtain ⟨t, ht, hq⟩ := hbody cdv A outer s H vs Q E hgd (hr.deeper _) hsp
  have I := inv_start (CX := CX) (E := E) S hr.hd e0 hl r y
  have fin : ∀ {σ' : L2.St} {H' : Hp} {s' : Shared} {v : V} {u : Value},
      Inv (cxOf CX P w K mg base N qual (defScope st) f cdv A outer s H E) [] σ' H' s' → RelV v u → Q v H' → CE outer P w H s Q u s' :=
    fun {σ' H' s' v u} J rv q => ⟨v, H', J.os, J.bare, J.base, J.hok, rv, q⟩
  refine wpAny_mono (ht.nox.run [] s1 (start N vs) H _ I hq) (fun fl s' hs => ?_) fun _ _ hs => hs
  cases fl with
  | ret u =>
    obtain ⟨v, σ', H', J, rv, q⟩ := hs
    exact fin J rv q
  | next =>
    obtain ⟨σ', H', J, q⟩ := hs
    exact fin (v := V.non) (u := Value.none) J rfl q
  | brk => exact hs.elim fun _ h => h.elim fun _ h => h.2.elim
  | cont => exact hs.elim fun _ h => h.elim fun _ h => h.2.elim
end

section
variable {X : Cx} {CX : CXT} {k : Nat} {f : Addr} {fd : FuncData} {ps : List Str} {sp : Sp} {dvs : List V} {ds : List Value} {E : XK} {x : Str} {p pos : Pos} {e : Expr} {es : List Expr} {t : TA}
theorem run_fnG {pins : List (Addr × Obj)} {σ : L2.St} {H : Hp} {s : Shared} {Q : VK} {us : List Value} {vs : List V} (F : FnG X.prog X.w X.K X.mg X.base CX k f fd ps sp) (gu : X.A.guards = some [])
    (hr : Room k X.A) (hb : Binds X.K fd ps ds) (hd : Vals dvs ds) (hx : Passes CX X E) (I : Inv X pins σ H s) (r : Vals vs us) (h : sp (vs ++ dvs) H Q E) :
    wpAny (model X.prog X.w) X.A (call (.ref f) us) (EP X pins σ Q) X.xe s := by
  have r2 := r.append hd
  have hl : (us ++ ds).length = ps.length := r2.length ▸ F.len _ H Q E h
  have code := F.run X.A X.stack s H ⟨us, []⟩ (us ++ ds) (vs ++ dvs) Q E gu hr I.env0 (hb s us I.kIn hl) r2 h
  refine wpAny_call (codeAny_mono code fun r s' hq => ?_)
  rcases r with er | fl
  · first | exact hx pins σ H s er s' I hq | (cases er <;> first | exact I.after hq | exact hq.elim)
  · first | (cases fl <;> first | exact I.after hq | exact hq.elim) | exact hx pins σ H s fl s' I hq
theorem pe_callG (F : FnG X.prog X.w X.K X.mg X.base CX k f fd ps sp) (gu : X.A.guards = some []) (hr : Room k X.A) (hg : Gl X x) (hm : X.mg x = some (.ref f))
    (hk : PySem.W.keepIn X.K (.ref f) = true) (hb : Binds X.K fd ps ds) (hd : Vals dvs ds) (hx : Passes CX X E) (ha : PA X (e :: es) t)
    (hdb : (x == ("__debug__" : Str)) = false := by decide) (he : starEach (e :: es) X.env = (false, eval e X.env) :: starEach es X.env := by rfl)
    (hpl : (backTo pos (starEach es X.env)).any (·.1) = false := by rfl) : PE X (.Call (.Name x p) (e :: es) [] pos) (tCall sp dvs E t) := by
  refine ⟨fun pins s σ H Q I h => wpAny_Call_Name_kw (ld_glob I hg hm ?_ hdb)⟩
  refine PySem.W.callWith_K (h₀ := X.base) I.ok.mod.kin hk (thn (ha.run pos pins s σ H _ I h) fun us s1 q => ?_) he hpl
  obtain ⟨vs, H1, I1, r, q⟩ := q
  exact ⟨I1.kIn, run_fnG F gu hr hb hd hx I1 r q⟩
theorem pe_call0G (F : FnG X.prog X.w X.K X.mg X.base CX k f fd ps sp) (gu : X.A.guards = some []) (hr : Room k X.A) (hg : Gl X x) (hm : X.mg x = some (.ref f))
    (hk : PySem.W.keepIn X.K (.ref f) = true) (hb : Binds X.K fd ps ds) (hd : Vals dvs ds) (hx : Passes CX X E)
    (hdb : (x == ("__debug__" : Str)) = false := by decide) : PE X (.Call (.Name x p) [] [] pos) (tCall sp dvs E tNil) :=
  ⟨fun pins s σ H Q I h => wpAny_Call_Name_kw (ld_glob I hg hm (PySem.W.callWith_K0 I.kIn hk (run_fnG (us := []) F gu hr hb hd hx I .nil h)) hdb)⟩
end

/-- the law's call: like the layer's own end, for such a def -/
theorem law_callG {P : Program} {w : World} {K : PySem.W.Frag} {mg mb : Str → Option Value} {CX : CXT} {k : Nat} {fa a : Addr} {fd : FuncData} {x : Str} {sp : Sp} {s1 : Shared} {vs : List Value} {ns : List Int}
    (KX : K.In s1.heap) (hns : s1.heap.Ns mainGlobals mg) (hb : s1.heap.Ns builtinsNs mb) (hbb : ∀ x : Str, x ≠ "__name__" → mb x = bootBuiltins x) (hlim : s1.heap.NoLimit) (hg : s1.gens = #[])
    (ha : s1.heap.get? a = some { cls := .type "list", data := .seq vs.toArray }) (hi : IntsAre vs ns) (hl : ns.length ≤ sizeLine) (hr : Room k callerA)
    (F : ∀ base : Heap, K.In base → base.Ns mainGlobals mg → FnG P w K mg base CX k fa fd [x] sp) (hbind : ∀ (s : Shared) (u : Value), BindsTo s fd ⟨[u], []⟩ [(x, u)])
    (hsp : ∀ H : Hp, Only H → SqL K H a (ns.map V.int) → sp [.ref a] H (fun v _ => v = .bl true) fun _ _ _ => False)
    (hCX : ∀ H e s', CX [] H s1 (fun _ _ _ => False) e s' → False) :
    codeAny (model P w) callerA (.call (.ref fa) ⟨[.ref a], []⟩) (fun r s' => r = .ok (.ret (.bool true)) ∧ OldK s1.heap s'.heap ∧ s'.os = s1.os ∧ AllBare s'.gens) s1 := by
  have rv := vals_ints hi
  have core : ∀ H : Hp, Only H → SqL K H a (ns.map V.int) → HOk P w H s1.heap → (∀ b u, H b = some u → b = a) → (∀ u, H a = some u → K.lookup a = none) →
      codeAny (model P w) callerA (.call (.ref fa) ⟨[.ref a], []⟩) (fun r s' => r = .ok (.ret (.bool true)) ∧ OldK s1.heap s'.heap ∧ s'.os = s1.os ∧ AllBare s'.gens) s1 := by
    intro H hO hS hok hA hK
    have free_of : ∀ {b : Addr} {o : Obj}, s1.heap.get? b = some o → (∀ z : Data, o.data = z → ∃ es ep, z = .dict es ep) → H b = none := by
      intro b o e d
      cases q : H b with
      | none => rfl
      | some u =>
        cases hA b u q
        rw [ha] at e
        cases e
        obtain ⟨es, ep, z⟩ := d _ rfl
        cases z
    have nsK : ∀ {b : Addr} {m : Str → Option Value}, s1.heap.Ns b m → (hidT s1.heap H).Ns b m := by
      rintro b m ⟨o, es, ep, e, d, r⟩
      exact ⟨o, es, ep, hidT_get e (free_of e fun z hz => ⟨es, ep, hz ▸ d⟩), d, r⟩
    have hKb : K.In (hidT s1.heap H) := by
      intro b o e
      refine hidT_get (KX b o e) ?_
      cases q : H b with
      | none => rfl
      | some u =>
        cases hA b u q
        rw [hK u q] at e
        cases e
    have hM : Mod K mg (hidT s1.heap H) := by
      obtain ⟨mc, c1, c2⟩ := hlim
      exact ⟨hKb, nsK hns, ⟨mb, nsK hb, hbb⟩, ⟨mc, nsK c1, c2⟩⟩
    have e0 : Env0 P w K mg (hidT s1.heap H) callerA [] s1 H :=
      ⟨rfl, hM, fun b o e => of_hidT e, Nat.le_of_eq (hidT_size _ _), trivial, fun b hb => (List.not_mem_nil hb).elim, hok, .of_eq hg⟩
    have code := (F _ hKb (nsK hns)).run callerA [] s1 H ⟨[.ref a], []⟩ [.ref a] [.ref a] _ _ rfl hr e0 (hbind s1 (.ref a)) (.cons rfl .nil) (hsp H hO hS)
    refine codeAny_mono code fun r s' h => ?_
    cases r with
    | error e => exact (hCX H e s' h).elim
    | ok fl =>
      cases fl with
      | ret u =>
        obtain ⟨v, H', os, bare, un, hok', r', q⟩ := h
        cases (show v = .bl true from q)
        cases (show u = Value.bool true from r')
        refine ⟨rfl, .of_keep fun b o e => ?_, os, bare⟩
        rcases hO b with z | ⟨ob, xs, z⟩
        · exact un.keep b o e z (fun z => List.not_mem_nil z) (fun z => List.not_mem_nil z)
        · obtain ⟨e1, _⟩ := hok b _ z
          obtain ⟨e2, _⟩ := hok' b _ (un.frzs b ob _ z)
          rw [e] at e1
          cases e1
          exact e2
      | next => exact h.elim
      | brk => exact h.elim
      | cont => exact h.elim
  cases hk : K.lookup a with
  | some o =>
    have e := KX a o hk
    rw [ha] at e
    cases e
    refine core (fun _ => none) (fun _ => .inl rfl) (.inr ⟨_, vs.toArray, _, hk, rfl, rfl, rfl, ?_, ?_⟩) (fun b u z => nomatch (show (none : Option HO) = some u from z)) (fun b u z => nomatch (show (none : Option HO) = some u from z)) (fun u z => nomatch (show (none : Option HO) = some u from z))
    · rw [List.size_toArray, hi.length]
      exact hl
    · simpa using rv
  | none =>
    have at_ : ∀ {b : Addr} {u : HO}, (if b = a then some (HO.frz { cls := .type "list", data := .seq vs.toArray } (.lst (ns.map V.int))) else none) = some u →
        b = a ∧ u = HO.frz { cls := .type "list", data := .seq vs.toArray } (.lst (ns.map V.int)) := by
      intro b u e
      by_cases hb : b = a
      · rw [if_pos hb] at e
        exact ⟨hb, (Option.some.inj e).symm⟩
      · rw [if_neg hb] at e
        cases e
    refine core (fun b => if b = a then some (.frz { cls := .type "list", data := .seq vs.toArray } (.lst (ns.map V.int))) else none) (fun b => ?_)
      (.inl (.inr ⟨{ cls := .type "list", data := .seq vs.toArray }, if_pos rfl⟩)) (fun b u e => ?_) (fun b u e => (at_ e).1) (fun _ _ => hk)
    · by_cases hb : b = a
      · exact .inr ⟨_, _, if_pos hb⟩
      · exact .inl (if_neg hb)
    · obtain ⟨rfl, rfl⟩ := at_ e
      exact ⟨ha, by rw [List.length_map]; exact hl, vs, _, rv, ha⟩

theorem walkG {l : PySem.W.OpenLaw} {n k : Nat} {q : Program} {loose : List Str} {XP : (Str → Option Value) → Heap → Prop} {YP : World → Heap → Prop} {d : DefRec} {K : Params → PySem.W.Frag} {sp : PySem.W.Frag → Sp} {x : Str}
    (hn : l.most = some n) (hn2 : n ≤ sizeLine) (hdf : d.params.defaults = []) (hr : Room k callerA)
    (hY : ∀ (w : World) (h : Heap), YP w h → (K w.params).In h)
    (F : ∀ (w : World) (mg : Str → Option Value) (fa : Addr) (h : Heap), (K w.params).In h → h.Ns mainGlobals mg → mg d.name = some (.ref fa) →
      ∃ fd : FuncData, (∀ (s : Shared) (u : Value), BindsTo s fd ⟨[u], []⟩ [(x, u)]) ∧
        ∀ base : Heap, (K w.params).In base → base.Ns mainGlobals mg → FnG l.prog w (K w.params) mg base CX0 k fa fd [x] (sp (K w.params)))
    (hsp : ∀ (K : PySem.W.Frag) (H : Hp) (a : Addr) (ns : List Int), ns.length ≤ n → Only H → SqL K H a (ns.map V.int) → sp K [.ref a] H (fun v _ => v = .bl true) fun _ _ _ => False) :
    PySem.W.WalkO q loose XP YP l.row.toRowW d [] (fun f vs => PySem.call f vs) := by
  refine Att.attach_call hn hdf fun w s0 s1 mg mb fa o pm cd doc a vs ns G Y ho hd hcd hmg hobj hints hlen hg => ?_
  obtain ⟨fd, hb, hF⟩ := F w mg fa _ (hY w _ Y) G.T.g hmg
  exact law_callG (hY w _ Y) G.T.g G.T.b G.T.builtins G.T.nolimit hg hobj hints (Nat.le_trans hlen hn2) hr hF hb (fun H hO hS => hsp _ H a ns hlen hO hS) fun _ _ _ z => z
end Lb

set_option Elab.async false
set_option linter.all false
set_option maxRecDepth 100000
set_option maxHeartbeats 4000000
namespace Lb
open PySem PySem.Spec PyProof.Rows L2

/-! sizes of ints -/
/-- fewer than n bits -/
def Bd (n : Nat) (x : Int) : Prop := x.natAbs < 2 ^ n
theorem Bd.mono {n m : Nat} {x : Int} (h : Bd n x) (k : n ≤ m) : Bd m x := Nat.lt_of_lt_of_le h (Nat.pow_le_pow_right (by decide) k)
theorem Bd.mul {n m : Nat} {x y : Int} (h : Bd n x) (k : Bd m y) : Bd (n + m) (x * y) := by
  unfold Bd at *
  rw [Int.natAbs_mul, Nat.pow_add]
  exact Nat.mul_lt_mul'' h k
theorem Bd.add {n : Nat} {x y : Int} (h : Bd n x) (k : Bd n y) : Bd (n + 1) (x + y) := by
  unfold Bd at *
  have := Int.natAbs_add_le x y
  rw [Nat.pow_succ]
  omega
theorem Bd.neg {n : Nat} {x : Int} (h : Bd n x) : Bd n (-x) := by
  unfold Bd at *
  rw [Int.natAbs_neg]
  exact h
theorem Bd.sub {n : Nat} {x y : Int} (h : Bd n x) (k : Bd n y) : Bd (n + 1) (x - y) := by
  rw [Int.sub_eq_add_neg]
  exact h.add k.neg
theorem Bd.le {n : Nat} {x y : Int} (h : Bd n x) (k : y.natAbs ≤ x.natAbs) : Bd n y := Nat.lt_of_le_of_lt k h
theorem Bd.of {n : Nat} {x : Int} (h : x.natAbs < 2 ^ n) : Bd n x := h
theorem Bd.cm {n m : Nat} {x y : Int} (h : Bd n x) (k : Bd m y) (l : n + m ≤ 134217728) : CMulX x y := mulx_ok h k l
theorem Bd.log {n : Nat} {x : Int} (h : Bd n x) (p : 0 < n) : x.natAbs.log2 < n := PySem.Flt.log2_lt_of p h
theorem Bd.cd {n : Nat} {x y : Int} (h : Bd n y) (p : 0 < y) (l : n ≤ 8999) : CDivW x y := wide_div p (h.mono (Nat.le_succ n)) (Nat.succ_pos n) (by omega)
/-- a divisor of few bits is divided by C itself -/
theorem divp_small {i j : Int} (p : 0 < j) (h : Bd 8000 j) : CDivP i j := by
  refine ⟨p, ?_⟩
  have hj : (j == 0) = false := by simpa using (show j ≠ 0 by omega)
  have hl := h.log (by decide)
  have h1 : (j.natAbs.log2) / 30 + 1 ≤ 300 := by omega
  show (decide ((if j == 0 then 0 else j.natAbs.log2 / 30 + 1) > 300) && _) = false
  rw [hj]
  simp only [Bool.false_eq_true, if_false]
  rw [decide_eq_false (by omega), Bool.false_and]

/-! the pot: two ints, turned by each draw -/
def PotAt (H : Hp) (p : Addr) : Prop := ∃ a b : Int, H p = some (.lst [.int a, .int b]) ∧ 0 ≤ a ∧ 0 ≤ b ∧ b ≤ 2147483629
/-- all but p is kept -/
structure Mov (p : Addr) (H H' : Hp) : Prop where
  keep : ∀ b o, b ≠ p → H b = some o → H' b = some o
  pot : PotAt H' p
theorem Mov.trans {p : Addr} {H H1 H2 : Hp} (a : Mov p H H1) (b : Mov p H1 H2) : Mov p H H2 := ⟨fun c o n e => b.keep c o n (a.keep c o n e), b.pot⟩
theorem Mov.same {p : Addr} {H H1 H2 : Hp} (a : Mov p H H1) (b : Same H1 H2) : Mov p H H2 :=
  ⟨fun c o n e => b _ _ (a.keep c o n e), let ⟨x, y, e, r⟩ := a.pot; ⟨x, y, b _ _ e, r⟩⟩
theorem Same.mov {p : Addr} {H H1 : Hp} (a : Same H H1) (q : PotAt H p) : Mov p H H1 :=
  ⟨fun c o _ e => a _ _ e, let ⟨x, y, e, r⟩ := q; ⟨x, y, a _ _ e, r⟩⟩
theorem Mov.refl {p : Addr} {H : Hp} (q : PotAt H p) : Mov p H H := ⟨fun _ _ _ e => e, q⟩
theorem Mov.tup {p b : Addr} {H H1 : Hp} {xs : List V} (a : Mov p H H1) (q : PotAt H p) (e : H b = some (.tup xs)) : H1 b = some (.tup xs) :=
  a.keep _ _ (let ⟨_, _, e', _⟩ := q; ne_of e e' (fun z => nomatch z)) e
theorem Mov.ins {p b C dx : Addr} {H H1 : Hp} {fs : List (Str × V)} (a : Mov p H H1) (q : PotAt H p) (e : H b = some (.ins C dx fs)) : H1 b = some (.ins C dx fs) :=
  a.keep _ _ (let ⟨_, _, e', _⟩ := q; ne_of e e' (fun z => nomatch z)) e
theorem Mov.free {p b : Addr} {H H1 : Hp} (a : Mov p H H1) (q : PotAt H p) (e : H1 b = none) : H b = none := by
  cases z : H b with
  | none => rfl
  | some o =>
    by_cases hb : b = p
    · subst hb
      obtain ⟨_, _, e', _⟩ := a.pot
      rw [e] at e'
      cases e'
    · rw [a.keep b o hb z] at e
      cases e
theorem Same.upd {H : Hp} {p : Addr} {o : HO} (h : H p = none) : Same H (upd H p o) := fun a u e => by
  rw [upd_ne (ne_of_none e h)]
  exact e
theorem SqL.mov {K : PySem.W.Frag} {p a : Addr} {H H1 : Hp} {xs : List V} (m : Mov p H H1) (n : a ≠ p) (h : SqL K H a xs) : SqL K H1 a xs := by
  rcases h with (h | ⟨o, h⟩) | h
  · exact .inl (.inl (m.keep _ _ n h))
  · exact .inl (.inr ⟨o, m.keep _ _ n h⟩)
  · exact .inr h
theorem SqT.same {K : PySem.W.Frag} {a : Addr} {H H1 : Hp} {xs : List V} (m : Same H H1) (h : SqT K H a xs) : SqT K H1 a xs := by
  rcases h with (h | ⟨o, h⟩) | h
  · exact .inl (.inl (m _ _ h))
  · exact .inl (.inr ⟨o, m _ _ h⟩)
  · exact .inr h
/-- a written list's size -/
theorem sz {n : Nat} (h : Nat.ble n 1000 = true := by rfl) : n ≤ sizeLine :=
  Nat.le_trans (Nat.le_of_ble_eq_true h) (by decide)
theorem szlt {n : Nat} (k : n ≤ 10000) : n < sizeLine := Nat.lt_of_le_of_lt k (by decide)
theorem szle {n : Nat} (k : n ≤ 10000) : n ≤ sizeLine := Nat.le_of_lt (szlt k)
end Lb

set_option Elab.async false
set_option linter.all false
set_option maxRecDepth 100000
set_option maxHeartbeats 4000000
namespace Lb
open PySem PySem.Spec PyProof.Rows L2

/-- // by any divisor but 0, of few bits -/
def CDivX (_ j : Int) : Prop := j ≠ 0 ∧ j.natAbs.log2 < 9000
theorem op_fdivX {X : Cx} : OpR X (binaryOp .FloorDiv) (rI CDivX fun i j => .int (i.fdiv j)) :=
  opI fun i j _ _ _ _ _ hc q => floordiv_int hc.1 q (.inl (PyProof.noPylong_of_log2 hc.2))
theorem Bd.cx {n : Nat} {x y : Int} (h : Bd n y) (p : y ≠ 0) (l : n ≤ 8999) : CDivX x y :=
  ⟨p, Nat.lt_of_lt_of_le ((h.mono (Nat.le_succ n)).log (Nat.succ_pos n)) (by omega)⟩

/-! two lists, item by item -/
theorem Paired.imp {α β : Type} {F G : α → β → Prop} : ∀ {xs : List α} {ys : List β}, Paired F xs ys → (∀ a b, F a b → G a b) → Paired G xs ys
  | _, _, .nil, _ => .nil
  | _, _, .cons r t, f => .cons (f _ _ r) (Paired.imp t f)
theorem Paired.snoc {α β : Type} {F : α → β → Prop} {a : α} {b : β} (h : F a b) : ∀ {xs : List α} {ys : List β}, Paired F xs ys → Paired F (xs ++ [a]) (ys ++ [b])
  | _, _, .nil => .cons h .nil
  | _, _, .cons r t => .cons r (Paired.snoc h t)
theorem Paired.at_ {α β : Type} {F : α → β → Prop} : ∀ {xs : List α} {ys : List β} {i : Nat} {a : α}, Paired F xs ys → xs[i]? = some a → ∃ b, ys[i]? = some b ∧ F a b
  | _, _, i, _, .nil, e => by simp at e
  | _, _, 0, a, .cons r t, e => by simp at e; subst e; exact ⟨_, rfl, r⟩
  | _, _, i + 1, a, .cons r t, e => by
    obtain ⟨b, h1, h2⟩ := Paired.at_ (i := i) (a := a) t (by simpa using e)
    exact ⟨b, by simpa using h1, h2⟩
theorem Paired.at_r {α β : Type} {F : α → β → Prop} : ∀ {xs : List α} {ys : List β} {i : Nat} {b : β}, Paired F xs ys → ys[i]? = some b → ∃ a, xs[i]? = some a ∧ F a b
  | _, _, i, _, .nil, e => by simp at e
  | _, _, 0, a, .cons r t, e => by simp at e; subst e; exact ⟨_, rfl, r⟩
  | _, _, i + 1, a, .cons r t, e => by
    obtain ⟨b, h1, h2⟩ := Paired.at_r (i := i) (b := a) t (by simpa using e)
    exact ⟨b, by simpa using h1, h2⟩
theorem Paired.len {α β : Type} {F : α → β → Prop} : ∀ {xs : List α} {ys : List β}, Paired F xs ys → xs.length = ys.length
  | _, _, .nil => rfl
  | _, _, .cons _ t => congrArg Nat.succ (Paired.len t)
/-- a tuple of two ints -/
def Fr (H : Hp) (q : Addr) (t b : Int) : Prop := H q = some (.tup [.int t, .int b])
abbrev Rows (H : Hp) (as : List Addr) (fr : List (Int × Int)) : Prop := Paired (fun a x => Fr H a x.1 x.2) as fr
theorem Rows.same {H H' : Hp} {as : List Addr} {fr : List (Int × Int)} (r : Rows H as fr) (s : Same H H') : Rows H' as fr := Paired.imp r fun _ _ h => s _ _ h
theorem Rows.mov {p : Addr} {H H' : Hp} {as : List Addr} {fr : List (Int × Int)} (r : Rows H as fr) (m : Mov p H H') (hp : PotAt H p) : Rows H' as fr := Paired.imp r fun _ _ h => m.tup hp h
/-- a test with a known answer -/
theorem iteP {c A B : Prop} [Decidable c] (hc : c) (h : A) : if c then A else B := by rw [if_pos hc]; exact h
theorem iteN {c A B : Prop} [Decidable c] (hc : ¬ c) (h : B) : if c then A else B := by rw [if_neg hc]; exact h
theorem al3 {H H2 : Hp} {p : Addr} {o : HO} (e : upd H p o = H2) (h : H p = none) : Same H H2 ∧ H2 p = some o := by
  subst e
  exact ⟨Lb.Same.upd h, upd_same⟩
theorem Rows.snoc {H : Hp} {as : List Addr} {fr : List (Int × Int)} {q : Addr} {t b : Int} (r : Rows H as fr) (f : H q = some (.tup [.int t, .int b])) : Rows H (as ++ [q]) (fr ++ [(t, b)]) := Paired.snoc (F := fun (a : Addr) (x : Int × Int) => Fr H a x.1 x.2) (b := (t, b)) f r
theorem Rows.nil {H : Hp} : Rows H [] [] := Paired.nil
theorem Mov.ne {p l : Addr} {H H1 : Hp} (m : Mov p H H1) (h : H1 l = none) : l ≠ p := by
  obtain ⟨_, _, e, _⟩ := m.pot
  exact (ne_of_none e h).symm
/-- a list of another length is not the pot -/
theorem PotAt.ne {p l : Addr} {H : Hp} {xs : List V} (m : PotAt H p) (h : H l = some (.lst xs)) (n : xs.length ≠ 2) : l ≠ p := by
  rintro rfl
  obtain ⟨_, _, e, _⟩ := m
  rw [h] at e
  injection e with e
  injection e with e
  rw [e] at n
  exact n rfl
/-- a new object is changed -/
theorem Same.updl {H H2 : Hp} {l : Addr} {o : HO} (s : L2.Same H H2) (hl : H l = none) : L2.Same H (L2.upd H2 l o) := fun b u e => by
  rw [upd_ne (ne_of_none e hl)]
  exact s _ _ e
/-- what isinstance and the comparisons ask of the class at C -/
structure Inst (K : PySem.W.Frag) (C : Addr) : Prop where
  ca : PySem.W.findIn K (.ref C) "__class__" = some (some (.builtin "object.__class__"))
  cn : PySem.W.specialIn K (.builtin "object.__class__") "__get__" = some (some (.builtin "getset_descriptor.__get__"))
  ct : PySem.W.takesIn K (.builtin "object.__class__") = some true
  cm : PySem.W.mroIn K C (.type "object") = some true
  kNone : PySem.W.kitOne K (.type "NoneType") (.ref C) = some false
  kBool : PySem.W.kitOne K (.type "bool") (.ref C) = some false
  kInt : PySem.W.kitOne K (.type "int") (.ref C) = some false
  kStr : PySem.W.kitOne K (.type "str") (.ref C) = some false
  kList : PySem.W.kitOne K (.type "list") (.ref C) = some false
  kTup : PySem.W.kitOne K (.type "tuple") (.ref C) = some false
  kDict : PySem.W.kitOne K (.type "dict") (.ref C) = some false
  nNone : PySem.W.notFirst K C (.type "NoneType") = true
  nBool : PySem.W.notFirst K C (.type "bool") = true
  nInt : PySem.W.notFirst K C (.type "int") = true
  nStr : PySem.W.notFirst K C (.type "str") = true
  nList : PySem.W.notFirst K C (.type "list") = true
  nTup : PySem.W.notFirst K C (.type "tuple") = true
  nDict : PySem.W.notFirst K C (.type "dict") = true
theorem Inst.kSelf {K : PySem.W.Frag} {C : Addr} : PySem.W.kitOne K (.ref C) (.ref C) = some true := by
  unfold PySem.W.kitOne
  rw [if_pos (beq_self_eq_true _)]
theorem Inst.nSelf {K : PySem.W.Frag} {C : Addr} : PySem.W.notFirst K C (.ref C) = true := by
  unfold PySem.W.notFirst
  rw [beq_self_eq_true, Bool.true_or]
theorem Inst.ty {K : PySem.W.Frag} {C x dx : Addr} {H : Hp} {fs : List (Str × V)} (I : Inst K C) (cl : Cls K C) (e : H x = some (.ins C dx fs)) : TyOf K H (.ref x) (.ref C) := .ins e cl I.ca I.cn I.ct I.cm
theorem kit_own {K : PySem.W.Frag} {C : Addr} {T : String} (h1 : PySem.W.isClsIn K C = true) (h2 : PySem.W.typeIn K (.ref C) = some (.type "type")) (h3 : PySem.W.subIn K (.type T) (.ref C) = some false) :
    PySem.W.kitOne K (.type T) (.ref C) = some false ∧ PySem.W.notFirst K C (.type T) = true := by
  have ne : (Value.type T == Value.ref C) = false := Bool.eq_false_iff.mpr fun q => nomatch beq_iff_eq.mp q
  constructor
  · unfold PySem.W.kitOne
    rw [ne, if_neg (by decide)]
    unfold PySem.W.kitCls
    have h1' : (PySem.W.clsIn K C).isSome = true := h1
    dsimp only
    rw [h1', h2]
    rw [if_pos (by simp)]
    exact h3
  · unfold PySem.W.notFirst
    rw [h3]
    simp
/-- a def of the class by its special name -/
structure OwnM (K : PySem.W.Frag) (C : Addr) (x : Str) (f : Addr) : Prop where
  at_ : PySem.W.findIn K (.ref C) x = some (some (.ref f))
  fn : PySem.W.isFn K (.ref f) = true
/-- a value that is plainly no instance of the class at C: how isinstance and the comparisons see it -/
def NotC (K : PySem.W.Frag) (C : Addr) (H : Hp) (y : V) : Prop := ∃ t, TyOf K H y t ∧ PySem.W.kitOne K t (.ref C) = some false ∧ PySem.W.notFirst K C t = true
end Lb

set_option Elab.async false
set_option linter.all false
set_option maxRecDepth 100000
set_option maxHeartbeats 4000000
namespace Lb
open PySem PySem.Spec PyProof.Rows L2

/-! lists of bools, shown -/
theorem dp_bools {K : PySem.W.Frag} {H : Hp} : ∀ bs : List Bool, DpAll K H (bs.map V.bl) (bs.map PyData.bool)
  | [] => .nil
  | b :: r => .cons (.bl b) (dp_bools r)
theorem show_bools : ∀ bs : List Bool, PyData.showableAll (bs.map PyData.bool) = true
  | [] => by simp only [List.map_nil, PyData.showableAll]
  | b :: r => by simp only [List.map_cons, PyData.showableAll, PyData.showable, show_bools r, Bool.and_self]
theorem depth_bools : ∀ bs : List Bool, PyData.depthAll (bs.map PyData.bool) ≤ 1
  | [] => by simp only [List.map_nil, PyData.depthAll]; omega
  | b :: r => by
    have := depth_bools r
    simp only [List.map_cons, PyData.depthAll, PyData.depth]
    omega
theorem len_bools : ∀ bs : List Bool, ((PyData.shownAll (bs.map PyData.bool)).map (·.length)).sum ≤ 5 * bs.length ∧ (PyData.shownAll (bs.map PyData.bool)).length = bs.length
  | [] => by simp only [List.map_nil, PyData.shownAll]; exact ⟨Nat.le_refl _, rfl⟩
  | b :: r => by
    obtain ⟨h1, h2⟩ := len_bools r
    simp only [List.map_cons, PyData.shownAll, List.sum_cons, List.length_cons, h2]
    refine ⟨?_, trivial⟩
    have : (PyData.shown (.bool b)).length ≤ 5 := by
      simp only [PyData.shown]
      cases b <;> decide +kernel
    omega
theorem bools_ok (bs : List Bool) (n : bs.length ≤ 1000) : (PyData.list (bs.map PyData.bool)).showable = true ∧ (PyData.list (bs.map PyData.bool)).shown.length ≤ sizeLine ∧ (PyData.list (bs.map PyData.bool)).depth ≤ 60 := by
  refine ⟨?_, ?_, ?_⟩
  · simp only [PyData.showable, show_bools]
  · have e := listText_len_le (PyData.shownAll (bs.map PyData.bool))
    obtain ⟨h1, h2⟩ := len_bools bs
    simp only [PyData.shown]
    have : sizeLine = 16777216 := by decide
    omega
  · have := depth_bools bs
    simp only [PyData.depth]
    omega
theorem TyOf.same {K : PySem.W.Frag} {H H' : Hp} {y : V} {t : Value} (s : L2.Same H H') (h : TyOf K H y t) : TyOf K H' y t := by
  cases h with
  | non => exact .non
  | bl x => exact .bl x
  | int i => exact .int i
  | str x => exact .str x
  | flt x => exact .flt x
  | lst e => exact .lst (s _ _ e)
  | frz e => exact .frz (s _ _ e)
  | tup e => exact .tup (s _ _ e)
  | dK e => exact .dK (s _ _ e)
  | dT e => exact .dT (s _ _ e)
  | ins e cl a b c d => exact .ins (s _ _ e) cl a b c d
theorem NotC.same {K : PySem.W.Frag} {C : Addr} {H H' : Hp} {y : V} (s : L2.Same H H') (h : NotC K C H y) : NotC K C H' y := by
  obtain ⟨t, a, b, c⟩ := h
  exact ⟨t, TyOf.same s a, b, c⟩
theorem map_replicate_bl (n : Nat) (b : Bool) : (List.replicate n b).map V.bl = List.replicate n (V.bl b) := by simp
theorem all_replicate_true (n : Nat) : (List.replicate n true).all id = true := by simp
end Lb

set_option Elab.async false
set_option linter.all false
set_option maxRecDepth 100000
set_option maxHeartbeats 4000000
namespace Lb
open PySem PySem.Spec PyProof.Rows L2

/-- for i, x in enumerate(xs) -/
theorem for_enum {K : PySem.W.Frag} {a : Addr} {xs : List V} {g : TG} {tb : TS} {D : Ends} {σ : L2.St} {H : Hp} (Pv : Nat → L2.St → Hp → Prop) (h0 : Pv 0 σ H) (hq : ∀ i σ H, Pv i σ H → SqL K H a xs)
    (hs : ∀ (i : Nat) (x : V) (T : Addr) (σ : L2.St) (H : Hp), xs[i]? = some x → Pv i σ H → H T = none → g (.ref T) σ (L2.upd H T (.tup [.int (i : Nat), x])) fun σ2 H2 => tb { D with nx := Pv (i + 1), ct := Pv (i + 1), bk := D.nx } σ2 H2)
    (hd : ∀ σ H, Pv xs.length σ H → D.nx σ H) :
    ∃ W : Nat → Nat → L2.St → Hp → Prop, (∃ m, W 0 m σ H) ∧ ∀ i m σ H, W i m σ H →
      ((Ite K a).stop i H ∧ D.nx σ H) ∨ ((Ite K a).go i H ∧ ∃ N : L2.St → Hp → Prop, (∀ σ' H', N σ' H' → ∃ m', m' < m ∧ W (i + 1) m' σ' H') ∧
        ∀ v H', (Ite K a).yld i H v H' → g v σ H' fun σ2 H2 => tb { D with nx := N, ct := N, bk := D.nx } σ2 H2) := by
  refine ⟨fun i m σ H => m = xs.length - i ∧ i ≤ xs.length ∧ Pv i σ H, ⟨xs.length, rfl, Nat.zero_le _, h0⟩, ?_⟩
  rintro i m σ H ⟨rfl, hi, p⟩
  have q := hq i σ H p
  rcases Nat.lt_or_ge i xs.length with h | h
  · have hx : xs[i]? = some xs[i] := List.getElem?_eq_getElem h
    refine .inr ⟨⟨xs, _, q, hx⟩, Pv (i + 1), fun σ' H' p' => ⟨xs.length - (i + 1), by omega, rfl, h, p'⟩, ?_⟩
    rintro v H' ⟨T, x, rfl, hT, rfl, f⟩
    exact hs i x T σ H (f xs q) p hT
  · have e : i = xs.length := by omega
    subst e
    exact .inl ⟨⟨xs, q, Nat.le_refl _⟩, hd σ H p⟩

/-! a list that is being made at D, above the heap H0 -/
structure Blt {α : Type} (R : Hp → Addr → α → Prop) (H0 : Hp) (D : Addr) (done : List α) (H : Hp) : Prop where
  same : L2.Same H0 H
  ex : ∃ bs : List Addr, H D = some (.lst (bs.map V.ref)) ∧ Paired (R H) bs done
theorem Blt.start {α : Type} {R : Hp → Addr → α → Prop} {H0 : Hp} {D : Addr} (h : H0 D = none) : Blt R H0 D [] (L2.upd H0 D (.lst [])) :=
  ⟨Lb.Same.upd h, [], upd_same, .nil⟩
/-- one more item, made on the way from H to H2 -/
theorem Blt.step {α : Type} {R : Hp → Addr → α → Prop} {H0 H H2 : Hp} {D r : Addr} {done : List α} {x : α} (b : Blt R H0 D done H) (hD : H0 D = none) (s : L2.Same H H2)
    (keep : ∀ H H' a x, R H a x → (∀ o, H a = some o → H' a = some o) → R H' a x) (nl : ∀ H a x l, R H a x → H a = some (.lst l) → False) (hr : R H2 r x) :
    ∃ acc, H2 D = some (.lst acc) ∧ acc.length = done.length ∧ Blt R H0 D (done ++ [x]) (L2.upd H2 D (.lst (acc ++ [V.ref r]))) := by
  obtain ⟨s0, bs, e, p⟩ := b
  have e2 := s _ _ e
  have ch : ∀ a y, R H2 a y → R (L2.upd H2 D (.lst (bs.map V.ref ++ [V.ref r]))) a y := by
    intro a y h
    refine keep _ _ a y h fun o ho => ?_
    have na : a ≠ D := by
      rintro rfl
      exact nl _ _ _ _ h e2
    rw [upd_ne na]
    exact ho
  refine ⟨_, e2, by rw [List.length_map, Paired.len p], Same.updl (s0.trans s) hD, bs ++ [r], by rw [upd_same, List.map_append]; rfl, ?_⟩
  exact Paired.snoc (ch _ _ hr) (Paired.imp p fun a y h => ch _ _ (keep _ _ a y h fun o ho => s _ _ ho))

/-! an element of a list of ints -/
theorem inV_ints (z : Int) : ∀ ns : List Int, inV (.int z) (ns.map V.int) = decide (z ∈ ns)
  | [] => by simp [inV]
  | n :: r => by
    have ih := inV_ints z r
    unfold inV at ih ⊢
    rw [List.map_cons, List.any_cons, ih]
    have : eqV (.int n) (.int z) = decide (z = n) := by
      by_cases h : z = n
      · subst h; simp [eqV]
      · have h' : ¬ n = z := fun e => h e.symm
        simp [eqV, h, h']
    rw [this]
    by_cases h : z = n <;> simp [h]
theorem flat_ints : ∀ ns : List Int, (ns.map V.int).all flatV = true
  | [] => rfl
  | n :: r => by rw [List.map_cons, List.all_cons, flat_ints r]; rfl
end Lb

set_option Elab.async false
set_option linter.all false
set_option maxRecDepth 100000
set_option maxHeartbeats 4000000
namespace Lb
open PySem PySem.Spec PyProof.Rows L2
open SlX (cmpback)

/-! own operators between an instance and an int, or two instances -/
/-- what the text holds of an operator of a class beside ints: its def at g, the turned one at r -/
structure OwnBin (K : PySem.W.Frag) (C : Addr) (op : Operator) (g r : Addr) : Prop where
  first : PySem.W.selfFirst K C = true
  at_ : PySem.W.findIn K (.ref C) (PySem.dunder op.info.2) = some (some (.ref g))
  fn : PySem.W.isFn K (.ref g) = true
  rat : PySem.W.findIn K (.ref C) (dunderR op.info.2) = some (some (.ref r))
  rfn : PySem.W.isFn K (.ref r) = true
  i1 : ∃ fo, PySem.W.findIn K (.type "int") (PySem.dunder op.info.2) = some fo
  i2 : ∃ ro, PySem.W.findIn K (.type "int") (dunderR op.info.2) = some ro
  ss1 : PySem.W.subIn K (.type "int") (.ref C) = some false
  ss2 : PySem.W.subIn K (.ref C) (.type "int") = some false
  tyC : ∀ T, Value.type T ≠ .ref C := by intro T z; cases z

section
variable {X : Cx} {pins : List (Addr × Obj)} {σ : L2.St} {H : Hp} {s : Shared} {a C dx p g r : Addr} {f : Str} {n : Nat} {sp : Sp} {E : XK} {v : V} {u : Value} {op : Operator}

/-- a def that raises nothing, run in an expression -/
theorem run_at0 {A : Around} {Q : VK} {us : List Value} {ws : List V} (F : FnR X.prog X.w X.K X.mg X.base CX0 n g sp) (hr : Room n A) (e0 : Env0 X.prog X.w X.K X.mg X.base A X.stack s H) (I : Inv X pins σ H s) (r : Vals ws us) (h : sp ws H Q E) :
    codeAny (model X.prog X.w) A (.call (.ref g) ⟨us, []⟩) (fun r s' => match r with | .ok (.ret v) => EP X pins σ Q v s' | _ => False) s := by
  refine codeAny_mono (F A X.stack s H us ws Q E hr e0 r h) fun r s' hq => ?_
  cases r with
  | error e => exact False.elim hq
  | ok fl =>
    cases fl with
    | ret u => exact I.after hq
    | next => exact False.elim hq
    | brk => exact False.elim hq
    | cont => exact False.elim hq
theorem call_at0 {A : Around} {Ex : Value → Shared → Prop} {Q : VK} {us : List Value} {ws : List V} (F : FnR X.prog X.w X.K X.mg X.base CX0 n g sp) (hr : Room n A) (e0 : Env0 X.prog X.w X.K X.mg X.base A X.stack s H) (I : Inv X pins σ H s) (r : Vals ws us) (h : sp ws H Q E) :
    wpAny (model X.prog X.w) A (call (.ref g) us) (EP X pins σ Q) Ex s := by
  refine wpAny_call (codeAny_mono (run_at0 F hr e0 I r h) fun r s' hq => ?_)
  cases r with
  | error e => exact False.elim hq
  | ok fl => cases fl <;> first | exact hq | exact False.elim hq
/-- an operator, wherever it is run -/
def OpRA (X : Cx) (A : Around) (f : Value → Value → Sem Value) (r : R2) : Prop :=
  ∀ (pins : List (Addr × Obj)) (s : Shared) (σ : L2.St) (H : Hp) (x y : V) (v u : Value) (Q : VK) (Ex : Value → Shared → Prop), Inv X pins σ H s → Env0 X.prog X.w X.K X.mg X.base A X.stack s H → RelV x v → RelV y u → r x y H Q →
    wpAny (model X.prog X.w) A (f v u) (EP X pins σ Q) Ex s
theorem OpRA.here {f : Value → Value → Sem Value} {r : R2} (h : OpRA X X.A f r) : OpR X f r := fun pins s σ H x y v u Q I rx ry q => h pins s σ H x y v u Q _ I I.env0 rx ry q
theorem OpRA.or {A : Around} {f : Value → Value → Sem Value} {r r' : R2} (h : OpRA X A f r) (h' : OpRA X A f r') : OpRA X A f (fun x y H Q => r x y H Q ∨ r' x y H Q) := fun pins s σ H x y v u Q Ex I e0 rx ry q =>
  q.elim (h pins s σ H x y v u Q Ex I e0 rx ry) (h' pins s σ H x y v u Q Ex I e0 rx ry)
/-- x OP y, x an instance, y an int or an instance of its class -/
def rBin (C : Addr) (sp : Sp) (E : XK) : R2 := fun x y H Q =>
  ∃ a dx fs, x = .ref a ∧ H a = some (.ins C dx fs) ∧ ((∃ m, y = .int m) ∨ ∃ b dy fy, y = .ref b ∧ H b = some (.ins C dy fy)) ∧ sp [x, y] H Q E
theorem ownBin_at {K : PySem.W.Frag} {A : Around} (hK : X.K = K) (B : OwnBin K C op g r) (F : FnR X.prog X.w X.K X.mg X.base CX0 n g sp) (hr : Room n A) : OpRA X A (binaryOp op) (rBin C sp E) := by
  subst hK
  intro pins s σ H x y v u Q Ex I e0 rx ry h
  obtain ⟨a, dx, fs, rfl, ha, hy, q⟩ := h
  cases (show v = Value.ref a from rx)
  obtain ⟨od, J⟩ := inst_at I ha
  obtain ⟨m, hF⟩ := I.fr
  have one : wpAny (model X.prog X.w) A (call (.ref g) [.ref a, u]) (PySem.W.CmpBack (EP X pins σ Q)) Ex s := by
    refine wpAny_mono (call_at0 (us := [.ref a, u]) (ws := [.ref a, y]) F hr e0 I (.cons rfl (.cons ry .nil)) q) (fun w s' z => ?_) fun _ _ x => x
    obtain ⟨z', H', I', rz, qz⟩ := z
    exact cmpback rz ⟨z', H', I', rz, qz⟩
  rcases hy with ⟨k, rfl⟩ | ⟨b, dy, fy, rfl, hb⟩
  · obtain ⟨t, rfl⟩ := ry
    obtain ⟨fo, h1⟩ := B.i1
    obtain ⟨ro, h2⟩ := B.i2
    exact PySem.W.ksp_binT (T := "int") hF I.ok.mod.kin J rfl B.first B.at_ B.fn B.rat (.inr ⟨_, rfl⟩) h1 h2 B.ss1 one
  · cases (show u = Value.ref b from ry)
    obtain ⟨od', J'⟩ := inst_at I hb
    exact PySem.W.binop_K hF I.ok.mod.kin J J'.type B.first B.at_ B.fn one
/-- n OP y, y an instance: its turned def, where the int's own says nothing -/
def rBinR (C : Addr) (sp : Sp) (E : XK) : R2 := fun x y H Q =>
  ∃ m b dy fy, x = .int m ∧ y = .ref b ∧ H b = some (.ins C dy fy) ∧ sp [y, x] H Q E
/-- what the library says of an int's own operator -/
structure IntBin (op : Operator) (id : String) (nm : String) (f : Int → Int → Sem Fin) : Prop where
  fills : fillsNumberSlot (.type "int") op.info.2 = pure true
  slot : Slot "int" (PySem.dunder op.info.2) id
  entry : entryFor table id = some (Builtin.Int.intBinary nm f)
  args : ∀ x y, argsOk id ⟨[x, y], []⟩
theorem int_no {M : Model} {A : Around} {Ex : Value → Shared → Prop} {Q : Fin → Shared → Prop} {k : Int} {t : Tok} {b : Addr} {nm : String} {fI : Int → Int → Sem Fin} (J : s.heap.get? b = some (PySem.W.instObj C dx))
    (h : Q (.done (.ret .notImplemented)) s) : wpAny M A (Builtin.Int.intBinary nm fI false ⟨[.int k t, .ref b], []⟩) Q Ex s := by
  unfold Builtin.Int.intBinary
  refine wpAny_bind (m := slotArgs _ _ _) (wpAny_pure ?_)
  refine wpAny_bind (m := Builtin.Int.intOfSelf _) (wpAny_pure ?_)
  refine wpAny_bind (m := asInt? _) (wpAny_bind (wpAny_load J (wpAny_pure ?_)))
  exact wpAny_bind (wpAny_rule (wpAny_pure h))
theorem int_add : IntBin .Add "int.__add__" "__add__" (fun x y => retInt (x + y)) := ⟨F.fills_int_add, F.slot_int_add, F.entry_int_add, F.args_int_add_2⟩
theorem int_sub : IntBin .Sub "int.__sub__" "__sub__" (fun x y => retInt (x - y)) := ⟨F.fills_int_sub, F.slot_int_sub, F.entry_int_sub, F.args_int_sub_2⟩
theorem int_mul : IntBin .Mult "int.__mul__" "__mul__" (fun x y => Builtin.intProduct "__mul__" x y) := ⟨F.fills_int_mul, F.slot_int_mul, F.entry_int_mul, F.args_int_mul_2⟩
theorem ownBinR_at {K : PySem.W.Frag} {A : Around} {id nm : String} {fI : Int → Int → Sem Fin} (hK : X.K = K) (L : IntBin op id nm fI) (B : OwnBin K C op g r) (F : FnR X.prog X.w X.K X.mg X.base CX0 n r sp) (hr : Room n A) : OpRA X A (binaryOp op) (rBinR C sp E) := by
  subst hK
  intro pins s σ H x y v u Q Ex I e0 rx ry h
  obtain ⟨k, b, dy, fy, rfl, rfl, hb, q⟩ := h
  obtain ⟨t, rfl⟩ := rx
  cases (show u = Value.ref b from ry)
  obtain ⟨od, J⟩ := inst_at I hb
  have KX := I.kIn
  obtain ⟨cd, rest, hcd, hm⟩ := PySem.W.ksp_first B.first
  have L4 : PySem.W.Looks (model X.prog X.w) s.heap (fillsNumberSlot (.ref C) op.info.2) true := PySem.W.fills_K KX hcd hm B.at_
  have L5 : PySem.W.Looks (model X.prog X.w) s.heap (isSubtype (.ref C) (.type "int")) false := PySem.W.looks_subIn KX B.ss2
  have two : wpAny (model X.prog X.w) A (call (.ref r) [.ref b, .int k t]) (PySem.W.CmpBack (EP X pins σ Q)) Ex s := by
    refine wpAny_mono (call_at0 (us := [.ref b, .int k t]) (ws := [.ref b, .int k]) F hr e0 I (.cons rfl (.cons ⟨t, rfl⟩ .nil)) q) (fun w s' z => ?_) fun _ _ x => x
    obtain ⟨z', H', I', rz, qz⟩ := z
    exact cmpback rz ⟨z', H', I', rz, qz⟩
  have rt := B.rat
  have fl := L.fills
  have sl := L.slot
  rcases hi : op.info with ⟨sym, nm'⟩
  rw [hi] at L4 rt fl sl
  dsimp only at L4 rt fl sl
  have hne : (Value.type "int" == Value.ref C) = false := Bool.eq_false_iff.mpr fun q => by cases beq_iff_eq.mp q
  simp only [binaryOp, hi]
  refine wpAny_holding (wpAny_bind ?_)
  unfold binaryOp1
  refine wpAny_bind (wpAny_of_eq (show typeOf (.int k t) = pure (.type "int") from rfl) (wpAny_bind (J.type.here (wpAny_bind (wpAny_of_eq fl ?_)))))
  simp only [hne, Bool.false_eq_true, if_false]
  refine wpAny_bind (L4.here ?_)
  simp only [Bool.and_self, if_true]
  refine wpAny_bind (L5.here ?_)
  have hpy : numberSlotInPython (.type "int") nm' = pure false := rfl
  simp only [Bool.false_eq_true, if_false, pure_bind, Bool.not_false, Bool.and_self, if_true, hpy]
  simp only [tryMethod]
  refine wpAny_bind (wpAny_bind (wpAny_callSpecial?_slot (typeIs_int _ _ _) sl (wpAny_call_entry sl (typeIs_int _ _ _) L.entry ?_ (L.args _ _))))
  refine int_no J.at_ ⟨_, rfl, ?_⟩
  refine wpAny_pure ?_
  refine wpAny_bind (wpAny_bind (PySem.W.special_fn KX J rt (beq_iff_eq.mp B.rfn) (wpAny_mono two (fun v s' hv => ?_) fun _ _ e => e)))
  cases v <;> first | exact hv.elim | exact wpAny_pure (wpAny_bind (wpAny_rule (wpAny_pure (wpAny_pure hv))))
theorem op_ownBin {K : PySem.W.Frag} (hK : X.K = K) (B : OwnBin K C op g r) (F : FnR X.prog X.w X.K X.mg X.base CX0 n g sp) (hr : Room n X.A) : OpR X (binaryOp op) (rBin C sp E) := (ownBin_at hK B F hr).here
theorem op_ownBinR {K : PySem.W.Frag} {id nm : String} {fI : Int → Int → Sem Fin} (hK : X.K = K) (L : IntBin op id nm fI) (B : OwnBin K C op g r) (F : FnR X.prog X.w X.K X.mg X.base CX0 n r sp) (hr : Room n X.A) : OpR X (binaryOp op) (rBinR C sp E) := (ownBinR_at hK L B F hr).here
/-! -x, abs(x), bool(x) of an instance -/
def rUnOwn (C : Addr) (sp : Sp) (E : XK) : V → Hp → VK → Prop := fun x H Q => ∃ a dx fs, x = .ref a ∧ H a = some (.ins C dx fs) ∧ sp [x] H Q E
theorem un_ownNeg {K : PySem.W.Frag} (hK : X.K = K) (hs : PySem.W.findIn K (.ref C) "__neg__" = some (some (.ref g))) (hf : PySem.W.isFn K (.ref g) = true) (F : FnR X.prog X.w X.K X.mg X.base CX0 n g sp) (hr : Room n X.A) :
    UnR X (unaryOp .USub) (rUnOwn C sp E) := by
  subst hK
  intro pins s σ H x v Q I rx h
  obtain ⟨a, dx, fs, rfl, ha, q⟩ := h
  cases (show v = Value.ref a from rx)
  obtain ⟨od, J⟩ := inst_at I ha
  obtain ⟨m, hF⟩ := I.fr
  exact PySem.W.ksp_neg hF I.ok.mod.kin J hs hf (call_at0 (us := [.ref a]) (ws := [.ref a]) F hr I.env0 I (.cons rfl .nil) q)
def rCallOwn (C : Addr) (sp : Sp) (E : XK) : List V → Hp → VK → Prop := fun xs H Q => ∃ a dx fs, xs = [.ref a] ∧ H a = some (.ins C dx fs) ∧ sp xs H Q E
theorem call_absOwn (hs : PySem.W.findIn X.K (.ref C) "__abs__" = some (some (.ref g))) (hf : PySem.W.isFn X.K (.ref g) = true) (F : FnR X.prog X.w X.K X.mg X.base CX0 n g sp) (hr : Room (n + 1) X.A) :
    CallR X (.builtin "abs") (rCallOwn C sp E) := by
  intro pins s σ H xs us Q I r h
  obtain ⟨a, dx, fs, rfl, ha, q⟩ := h
  obtain ⟨u, rfl, ru⟩ := vals1 r
  cases (show u = Value.ref a from ru)
  obtain ⟨od, J⟩ := inst_at I ha
  refine Calls.call_function_entry kind_abs plain_abs entry_abs (args_abs _) ?_
  unfold Builtin.«abs»
  refine wpAny_bind (m := oneArg "abs" _) (wpAny_pure ?_)
  refine wpAny_bind (PySem.W.special_fn I.kIn J hs (beq_iff_eq.mp hf) ?_)
  refine wpAny_mono (call_at0 (us := [.ref a]) (ws := [.ref a]) F hr.in1 I.env0.in1 I (.cons rfl .nil) q) (fun w s' z => ?_) fun _ _ x => x
  exact wpAny_pure ⟨_, rfl, z⟩
end
/-! sum of a list of instances -/
/-- how the sum goes: N i v H, the sum v of the first i -/
structure SumG (K : PySem.W.Frag) (add : R2) (l : Addr) (as : List Addr) (N : Nat → V → Hp → Prop) : Prop where
  zero : ∀ v H, N 0 v H → v = .int 0
  more : ∀ i v H, N (i + 1) v H → ∃ a, v = .ref a
  list : ∀ i v H, N i v H → SqL K H l (as.map V.ref)
  step : ∀ i v a H, as[i]? = some a → N i v H → add v (.ref a) H (N (i + 1))
theorem turn_fp {X : Cx} {pins : List (Addr × Obj)} {σ : L2.St} {H : Hp} {s : Shared} {it : Addr} {h' : Heap} {t' : Nat} (I : Inv X pins σ H s) (f : FpOk X pins H it) (k : ∀ b o, b ≠ it → s.heap.get? b = some o → h'.get? b = some o) : Inv X pins σ H { s with heap := h', toks := t' } := by
  obtain ⟨f0, f1, f2, f3, f4, f5⟩ := f
  exact I.turned k f0 f1 f3 f4 f5
section
variable {X : Cx} {pins : List (Addr × Obj)} {σ : L2.St} {add : R2} {l : Addr} {as : List Addr} {N : Nat → V → Hp → Prop} {Q : VK}
theorem sum_loop (hc : X.calm = true) (hadd : OpRA X X.A.in1 (binaryOp .Add) add) (G : SumG X.K add l as N) (hQ : ∀ v H, N as.length v H → Q v H) (it S : Addr) (hne : S ≠ it) :
    ∀ (k i : Nat) (s : Shared) (H : Hp) (v : V) (u : Value) (c : Nat) (st : Int), as.length - i = k → i ≤ as.length → Inv X pins σ H s → N i v H → RelV v u → ((st = 0 ∧ ∃ t, u = .int 0 t) ∨ (st = 2 ∧ ∃ a, u = .ref a)) →
      s.heap.IsListIter it l i → s.heap.get? S = some { cls := .type "list", dict := none, data := .seq #[u] c, slots := #[] } → FpOk X pins H it → FpOk X pins H S →
      codeAny (model X.prog X.w) X.A (.builtin "sum.loop" ⟨[.ref it, .ref S, rawInt st, rawInt 0], []⟩) (fun r s' => match r with | .ok (.ret v) => EP X pins σ Q v s' | _ => False) s := by
  intro k
  induction k with
  | zero =>
    intro i s H v u c st hk hi I n rv hu hit hS fi fS
    obtain ⟨its, rl, pl, hsz⟩ := I.list (G.list _ _ _ n)
    have hlen : its.length = as.length := by rw [← rl.length, List.length_map]
    have hin : i = as.length := by omega
    refine codeAny_builtin F.entry_sum_loop ?_
    rw [Around.under_plainId F.plain_sum_loop _]
    show wpAny _ X.A.in1 (seqItems? (.ref S) >>= _) _ _ s
    refine wpAny_bind (wpAny_seqItems hS rfl ?_)
    show wpAny _ X.A.in1 (tryCatch (pyNext (.ref it)) _ >>= _) _ _ s
    refine wpAny_bind (wpAny_tryCatch (wpAny_pyNext_list_end (I.ok.hd hc) hit pl.isList (by rw [List.getElem?_toArray, List.getElem?_eq_none (by omega)]) fun h' he => ?_))
    have I' := turn_fp (t' := s.toks) I fi he
    have q : Q v H := hQ _ _ (hin ▸ n)
    rcases hu with ⟨_, t, rfl⟩ | ⟨_, a, rfl⟩
    · exact wpAny_pure ⟨v, H, I', rv, q⟩
    · exact wpAny_pure ⟨v, H, I', rv, q⟩
  | succ k ih =>
    intro i s H v u c st hk hi I n rv hu hit hS fi fS
    obtain ⟨its, rl, pl, hsz⟩ := I.list (G.list _ _ _ n)
    have hlen : its.length = as.length := by rw [← rl.length, List.length_map]
    have hlt : i < as.length := by omega
    obtain ⟨u2, hu2, rx⟩ := rl.get (i := i) (x := .ref as[i]) (by rw [List.getElem?_map, List.getElem?_eq_getElem hlt]; rfl)
    cases (show u2 = Value.ref as[i] from rx)
    refine codeAny_builtin F.entry_sum_loop ?_
    rw [Around.under_plainId F.plain_sum_loop _]
    show wpAny _ X.A.in1 (seqItems? (.ref S) >>= _) _ _ s
    refine wpAny_bind (wpAny_seqItems hS rfl ?_)
    show wpAny _ X.A.in1 (tryCatch (pyNext (.ref it)) _ >>= _) _ _ s
    refine wpAny_bind (wpAny_tryCatch (wpAny_pyNext_list_item hit pl.isList (x := .ref as[i]) (by rw [List.getElem?_toArray]; exact hu2) fun h' hit' hs => ?_))
    have I' := turn_fp (t' := s.toks) I fi hs.extBut
    have hS' : h'.get? S = some { cls := .type "list", dict := none, data := .seq #[u] c, slots := #[] } := hs.extBut S _ hne hS
    -- both kept while the operator runs
    have fps : ∀ b ∈ [it, S], FpOk X pins H b := by
      intro b hb
      rcases List.mem_cons.mp hb with e | hb
      · exact e ▸ fi
      · exact (List.mem_singleton.mp hb) ▸ fS
    obtain ⟨oi, hoi, hci, hdi⟩ := id hit'
    have IP := I'.pinned (fp := [it, S]) fps (by
      intro b hb
      rcases List.mem_cons.mp hb with e | hb
      · exact ⟨oi, by rw [e]; exact hoi, fun v z => by rw [hdi] at z; cases z⟩
      · exact ⟨_, by rw [List.mem_singleton.mp hb]; exact hS', fun v z => by cases z⟩)
    have main : ∀ (Ex : Value → Shared → Prop), wpAny (model X.prog X.w) X.A.in1 (binaryOp .Add u (.ref as[i])) (fun r s' => ∃ a v' H', r = .ref a ∧ v' = .ref a ∧ Inv X pins σ H' s' ∧ N (i + 1) v' H' ∧ s'.heap.IsListIter it l (i + 1) ∧
        s'.heap.get? S = some { cls := .type "list", dict := none, data := .seq #[u] c, slots := #[] } ∧ FpOk X pins H' it ∧ FpOk X pins H' S) Ex { s with heap := h' } := fun Ex => by
      refine wpAny_mono (hadd _ _ σ H v (.ref as[i]) u (.ref as[i]) (N (i + 1)) Ex IP IP.env0.in1 rv rfl (G.step _ _ _ _ (List.getElem?_eq_getElem hlt) n)) (fun r s' z => ?_) fun _ _ e => e
      obtain ⟨v', H', I2, r2, n2⟩ := z
      obtain ⟨a, rfl⟩ := G.more _ _ _ n2
      have p1 := I2.pin (it, oi) (List.mem_append_right _ (List.mem_append_right _ (mem_pinsAt (by simp) hoi)))
      have p2 := I2.pin (S, _) (List.mem_append_right _ (List.mem_append_right _ (mem_pinsAt (by simp) hS')))
      exact ⟨a, _, H', r2, rfl, I2.unpinned, n2, ⟨oi, p1.1, hci, hdi⟩, p2.1, ⟨p1.2.1, fi.2⟩, ⟨p2.2.1, fS.2⟩⟩
    -- the sum is set
    have last : ∀ (s' : Shared) (H' : Hp) (a : Addr), Inv X pins σ H' s' → N (i + 1) (.ref a) H' → s'.heap.IsListIter it l (i + 1) → s'.heap.get? S = some { cls := .type "list", dict := none, data := .seq #[u] c, slots := #[] } → FpOk X pins H' it → FpOk X pins H' S →
        wpAny (model X.prog X.w) X.A.in1 (updateSeq S (fun _ => #[.ref a]) >>= fun _ => letGo [u, .ref as[i]] [] >>= fun _ => updateSeq S (fun _ => #[.ref a]) >>= fun _ => again (.builtin "sum.loop" ⟨[.ref it, .ref S, rawInt 2, rawInt 0], []⟩))
          (fun fin s' => match fin with | .done f => (match (Except.ok f : Result) with | .ok (.ret v) => EP X pins σ Q v s' | _ => False) | .again c' => c'.quiet = true ∧ codeAny (model X.prog X.w) X.A c' (fun r s' => match r with | .ok (.ret v) => EP X pins σ Q v s' | _ => False) s') (fun _ _ => False) s' := by
      intro s' H' a I2 n2 hit2 hS2 fi2 fS2
      refine wpAny_bind (wpAny_updateSeq hS2 rfl ?_)
      have hS3 := Heap.get?_update_self (Obj.mapSeq fun _ => #[Value.ref a]) hS2 rfl
      refine wpAny_bind (wpAny_letGo ?_)
      refine wpAny_bind (wpAny_updateSeq hS3 rfl ?_)
      have hS4 := Heap.get?_update_self (Obj.mapSeq fun _ => #[Value.ref a]) hS3 rfl
      have keep : ∀ b o, b ≠ S → s'.heap.get? b = some o → ((s'.heap.update S (Obj.mapSeq fun _ => #[Value.ref a])).update S (Obj.mapSeq fun _ => #[Value.ref a])).get? b = some o := fun b o nb e =>
        (Heap.get?_update_other _ _ (Ne.symm nb)).trans ((Heap.get?_update_other _ _ (Ne.symm nb)).trans e)
      have I3 := turn_fp (t' := s'.toks) I2 fS2 keep
      refine wpAny_pure ⟨plainId_quiet F.plain_sum_loop _, ih (i + 1) _ H' (.ref a) (.ref a) _ 2 (by omega) hlt I3 n2 rfl (.inr ⟨rfl, _, rfl⟩) ?_ hS4 fi2 fS2⟩
      obtain ⟨o, e, x, y⟩ := hit2
      exact ⟨o, keep _ _ (Ne.symm hne) e, x, y⟩
    rcases hu with ⟨rfl, t, rfl⟩ | ⟨rfl, a0, rfl⟩
    · refine wpAny_bind (wpAny_rule ?_)
      refine wpAny_bind (wpAny_attempt (wpAny_holding (wpAny_mono (main _) (fun r s' z => ?_) fun _ _ e => e)))
      obtain ⟨a, v', H', rfl, rfl, I2, n2, hit2, hS2, fi2, fS2⟩ := z
      exact last s' H' a I2 n2 hit2 hS2 fi2 fS2
    · refine wpAny_bind (wpAny_attempt (wpAny_holding (wpAny_mono (main _) (fun r s' z => ?_) fun _ _ e => e)))
      obtain ⟨a, v', H', rfl, rfl, I2, n2, hit2, hS2, fi2, fS2⟩ := z
      exact last s' H' a I2 n2 hit2 hS2 fi2 fS2
/-- sum(xs), xs a list of instances -/
def rSumOwn (K : PySem.W.Frag) (add : R2) : List V → Hp → VK → Prop := fun vs H Q => ∃ (l : Addr) (as : List Addr) (N : Nat → V → Hp → Prop), vs = [.ref l] ∧ SumG K add l as N ∧ N 0 (.int 0) H ∧ ∀ v H', N as.length v H' → Q v H'
theorem cr_sumOwn {K : PySem.W.Frag} (hK : X.K = K) (hc : X.calm = true) (hadd : OpRA X X.A.in1 (binaryOp .Add) add) : CallR X (.builtin "sum") (rSumOwn K add) := by
  subst hK
  intro pins s σ H xs us Q I r h
  obtain ⟨l, as, N, rfl, G, n0, q⟩ := h
  obtain ⟨u, rfl, ru⟩ := vals1 r
  cases (show u = Value.ref l from ru)
  obtain ⟨its, rl, pl, hsz⟩ := I.list (G.list _ _ _ n0)
  refine call_function_tree F.kind_sum F.plain_sum F.entry_sum (F.args_sum1 _) ?_
  unfold Builtin.«sum»
  simp only [List.length_cons, List.length_nil]
  rw [if_neg (by decide)]
  refine wpAny_bind (wpAny_of_eq (show Builtin.Builtins.bindParams "sum" ["start"] 0 { } = pure [none] from rfl) ?_)
  refine wpAny_bind (wpAny_pyIter_list pl.isList ?_)
  refine wpAny_bind (wpAny_mkInt ?_)
  refine wpAny_bind (wpAny_pure ?_)
  simp only [List.forIn_cons, List.forIn_nil]
  refine wpAny_bind (wpAny_bind (wpAny_bind (wpAny_isInstance (T := "int") (b := false) (typeIs_int _ _ _) PySem.sub_int_str ?_)))
  simp only [Bool.false_eq_true, if_false]
  refine wpAny_pure (wpAny_bind (wpAny_bind (wpAny_isInstance (T := "int") (b := false) (typeIs_int _ _ _) PySem.sub_int_bytes ?_)))
  simp only [Bool.false_eq_true, if_false]
  refine wpAny_pure (wpAny_bind (wpAny_bind (wpAny_isInstance (T := "int") (b := false) (typeIs_int _ _ _) PySem.sub_int_bytearray ?_)))
  simp only [Bool.false_eq_true, if_false]
  refine wpAny_pure (wpAny_pure ?_)
  refine wpAny_bind (wpAny_newObj_type ?_)
  have k1 : ∀ b o, s.heap.get? b = some o → ((s.heap.push ({ cls := .type "list_iterator", data := .fields #[.ref l, .int 0 0] } : Obj)).push ({ cls := .type "list", dict := none, data := .seq #[Value.int 0 s.toks] } : Obj)).get? b = some o := fun b o e => Heap.get?_push_of_some _ (Heap.get?_push_of_some _ e)
  have e1 : (s.heap.push ({ cls := .type "list_iterator", data := .fields #[.ref l, .int 0 0] } : Obj)).objs.size = s.heap.objs.size + 1 := Heap.size_push ..
  have I1 := I.kept (t' := s.toks + 1) k1
  have n1 : H (s.heap.push ({ cls := .type "list_iterator", data := .fields #[.ref l, .int 0 0] } : Obj)).objs.size = none := I.hok.fresh (by rw [e1]; exact Nat.le_succ _)
  have n2 : H s.heap.objs.size = none := I.hok.fresh (Nat.le_refl _)
  have f1 : FpOk X pins H s.heap.objs.size := I.fpOk (Nat.le_refl _) n2
  have f2 : FpOk X pins H (s.heap.push ({ cls := .type "list_iterator", data := .fields #[.ref l, .int 0 0] } : Obj)).objs.size := I.fpOk (by rw [e1]; exact Nat.le_succ _) n1
  refine wpAny_pure ⟨plainId_quiet F.plain_sum_loop _, codeAny_mono (sum_loop (N := N) (Q := Q) hc hadd G q s.heap.objs.size (s.heap.push ({ cls := .type "list_iterator", data := .fields #[.ref l, .int 0 0] } : Obj)).objs.size (by rw [e1]; exact Nat.succ_ne_self _) as.length 0 _ H (.int 0) (.int 0 s.toks) 0 0 (by omega) (Nat.zero_le _) I1 n0 ⟨_, rfl⟩ (.inl ⟨rfl, _, rfl⟩) ?_ ?_ f1 f2) ?_⟩
  · exact ⟨_, Heap.get?_push_of_some _ (Heap.get?_push_size _ rfl), rfl, rfl⟩
  · exact Heap.get?_push_size _ rfl
  · intro r s' z
    cases r with
    | error e => exact False.elim z
    | ok fl => cases fl <;> first | exact z | exact False.elim z
end
end Lb

set_option Elab.async false
set_option linter.all false
set_option maxRecDepth 100000
set_option maxHeartbeats 4000000
namespace Lb
open PySem PySem.Spec PyProof.Rows L2
section
variable {X : Cx} {CX : CXT} {k : Nat} {f C p g : Addr} {fd : FuncData} {ps ks : List Str} {sp : Sp} {E : XK} {x m : Str} {pos np apos : Pos} {o : Expr} {kws : List Keyword} {ta : TE} {tk : TA} {gf : List Value → List Value → List Value} {gV : List V → List V → List V}
theorem run_kbn {n : Nat} {pins : List (Addr × Obj)} {σ : L2.St} {H : Hp} {s : Shared} {Q : VK} {us ws : List Value} {vs zs : List V} (F : FnOk X.prog X.w X.K X.mg X.base CX k f fd ps sp) (hr : Room k X.A) (hb : KBn X.K fd ps n ks gf gV) (hx : Passes CX X E)
    (I : Inv X pins σ H s) (r : Vals vs us) (rz : Vals zs ws) (l1 : vs.length = n) (l2 : zs.length = ks.length) (h : sp (gV vs zs) H Q E) : wpAny (model X.prog X.w) X.A (call (.ref f) us (ks.zip ws)) (EP X pins σ Q) X.xe s := by
  refine wpAny_call (codeAny_mono (F.run X.A X.stack s H ⟨us, ks.zip ws⟩ (gf us ws) (gV vs zs) Q E hr I.env0 (hb.to s us ws I.kIn (r.length.symm.trans l1) (rz.length.symm.trans l2)) (hb.rel r rz) h) fun r s' hq => ?_)
  cases r with
  | error e => exact hx pins σ H s e s' I hq
  | ok fl =>
    cases fl with
    | ret u => exact I.after hq
    | next => exact False.elim hq
    | brk => exact False.elim hq
    | cont => exact False.elim hq
/-- f(k = v, ..) -/
def tCallK0 (m : Nat) (sp : Sp) (gV : List V → List V → List V) (E : XK) (tk : TA) : TE := fun σ H Q => tk σ H fun zs H2 => zs.length = m ∧ sp (gV [] zs) H2 Q E
theorem pe_callK0 (F : FnOk X.prog X.w X.K X.mg X.base CX k f fd ps sp) (hr : Room k X.A) (hg : Gl X x) (hm : X.mg x = some (.ref f)) (hk : PySem.W.keepIn X.K (.ref f) = true) (hb : KBn X.K fd ps 0 ks gf gV) (hx : Passes CX X E) (hkw : PK X kws tk)
    (hall : (backToKw pos (keywordEach kws X.env)).all (·.1.isSome) = true := by rfl) (hks : (backToKw pos (keywordEach kws X.env)).filterMap (·.1) = ks := by rfl) (hdb : (x == ("__debug__" : Str)) = false := by decide)
    (hpl : ((backTo pos (starEach [] X.env)).any (·.1) || (backToKw pos (keywordEach kws X.env)).any (·.1.isNone)) = false := by rfl) :
    PE X (.Call (.Name x np) [] kws pos) (tCallK0 ks.length sp gV E tk) := by
  refine ⟨fun pins s σ H Q I h => ?_⟩
  refine wpAny_Call_Name_kw (ld_glob I hg hm ?_ hdb)
  refine PySem.W.callWith_KW0 (h₀ := X.base) I.ok.mod.kin hk hall ?_ hpl
  refine thn (hkw.run pos pins s σ H _ I h) fun ws s2 ⟨zs, H2, I2, rz, l2, q2⟩ => ⟨I2.kIn, ?_⟩
  rw [hks]
  exact run_kbn (us := []) (vs := []) F hr hb hx I2 .nil rz rfl l2 q2
/-- o.m(k = v, ..) -/
def tMethK0 (C : Addr) (m : Str) (nk : Nat) (sp : Sp) (gV : List V → List V → List V) (E : XK) (ta : TE) (tk : TA) : TE := fun σ H Q => ta σ H fun x H1 => ∃ a dx fs, x = .ref a ∧ H1 a = some (.ins C dx fs) ∧ fs.lookup m = none ∧ tk σ H1 fun zs H2 => zs.length = nk ∧ sp (gV [.ref a] zs) H2 Q E
theorem pe_methK0 {pl : Sem Bool} (he : PE X o ta) (c : Cls X.K C) (hm : Meth X.K C m f) (F : FnOk X.prog X.w X.K X.mg X.base CX k f fd ps sp) (hr : Room k X.A) (hb : KBn X.K fd ps 1 ks gf gV) (hx : Passes CX X E) (hkw : PK X kws tk)
    (hall : (backToKw pos (keywordEach kws X.env)).all (·.1.isSome) = true := by rfl) (hks : (backToKw pos (keywordEach kws X.env)).filterMap (·.1) = ks := by rfl)
    (hpl : ((backTo pos (starEach [] X.env)).any (·.1) || (backToKw pos (keywordEach kws X.env)).any (·.1.isNone)) = false := by rfl)
    (ht : eval (.Call (.Attribute o m apos) [] kws pos) X.env = (do
      let ov ← eval o X.env
      standAt apos.atName
      let (f, first) ← holding [ov] (getMethod ov m pl)
      callWith pos f first (backTo pos (starEach [] X.env)) (backToKw pos (keywordEach kws X.env))) := by rfl) :
    PE X (.Call (.Attribute o m apos) [] kws pos) (tMethK0 C m ks.length sp gV E ta tk) := by
  refine ⟨fun pins s σ H Q I h => ?_⟩
  refine PySem.W.methodCall_KW (pl := pl) (thn (he.run pins s σ H _ I h) fun u s1 ⟨x, H1, I1, rx, a, dx, fs, ex, ea, l, q⟩ => ?_) ht
  subst ex
  obtain rfl : u = Value.ref a := rx
  refine getmeth_ok I1 ea c hm l ?_
  refine PySem.W.callWith_KW0 (first := [.ref a]) (h₀ := X.base) I.ok.mod.kin hm.kp hall ?_ hpl
  refine thn (hkw.run pos pins s1 σ H1 _ I1 q) fun ws s2 ⟨zs, H2, I2, rz, l2, q2⟩ => ⟨I2.kIn, ?_⟩
  rw [hks]
  exact run_kbn (us := [.ref a]) (vs := [.ref a]) F hr hb hx I2 (.cons rfl .nil) rz rfl l2 q2
/-- C.m(), m a classmethod -/
theorem pe_cmeth0 {mc : Value} {pl : Sem Bool} (he : PE X o ta) (r : ClX.CRead X.K C mc) (c : ClX.CMet X.K C mc m p g) (F : FnR X.prog X.w X.K X.mg X.base CX k g sp) (hr : Room k X.A) (hx : Passes CX X E)
    (ht : eval (.Call (.Attribute o m apos) [] [] pos) X.env = (do
      let ov ← eval o X.env
      standAt apos.atName
      let (f, first) ← holding [ov] (getMethod ov m pl)
      callWith pos f first (backTo pos (starEach [] X.env)) (backToKw pos (keywordEach [] X.env))) := by rfl) :
    PE X (.Call (.Attribute o m apos) [] [] pos) (ClX.tCMeth C sp E ta tNil) := by
  refine ⟨fun pins s σ H Q I h => ?_⟩
  refine PySem.W.methodCall_KW (pl := pl) (thn (he.run pins s σ H _ I h) fun u s1 ⟨x, H1, I1, rx, ex, q⟩ => ?_) ht
  subst ex
  obtain rfl : u = Value.ref C := rx
  refine ClX.getmethcm_ok I1 r c fun s2 I2 => ?_
  have hb := ClX.base_none I1 (Nat.le_refl _)
  refine PySem.W.callWith_M0 (K := X.K) (first := []) ⟨ClX.pin_at I2, I2.kIn⟩ c.fi ?_
  exact ClX.run_cm (us := []) (vs := []) F hr hx I2 .nil q
/-- x(e, ..), x a local that holds a class -/
def tMakeL (i : Nat) (C : Addr) (sp : Sp) (dvs : List V) (E : XK) (t : TA) : TE := fun σ H Q => σ[i]? = some (some (.ref C)) ∧ tMake C sp dvs E t σ H Q
theorem pe_makeL {i : Nat} {e : Expr} {es : List Expr} {t : TA} {ds : List Value} {dvs : List V} (M : Mk X.K C f) (F : FnOk X.prog X.w X.K X.mg X.base CX k f fd ps sp) (hr : Room (k + 1) X.A) (hN : X.N[i]? = some x) (hv : Vis X.env.scope x) (hb : Binds X.K fd ps ds) (hd : Vals dvs ds) (hx : Passes CX X E)
    (ha : PA X (e :: es) t) (hdb : (x == ("__debug__" : Str)) = false := by decide) (hcd : (x == ("__classdict__" : Str)) = false := by decide) (he : starEach (e :: es) X.env = (false, eval e X.env) :: starEach es X.env := by rfl) (hpl : (backTo pos (starEach es X.env)).any (·.1) = false := by rfl) :
    PE X (.Call (.Name x np) (e :: es) [] pos) (tMakeL i C sp dvs E t) := by
  refine ⟨fun pins s σ H Q I h => ?_⟩
  obtain ⟨hs, ht⟩ := h
  refine wpAny_Call_Name_kw (thn ((pe_var (pos := np) hN hv hdb hcd).run pins s σ H (fun v H1 => v = .ref C ∧ H1 = H) I ⟨.ref C, hs, rfl, rfl⟩) fun u s1 ⟨v, H1, I1, r1, q1⟩ => ?_)
  obtain ⟨rfl, rfl⟩ := q1
  cases r1
  refine PySem.W.callWith_K (h₀ := X.base) I.ok.mod.kin M.kp (thn (ha.run pos pins s1 σ _ _ I1 ht) fun us s2 ⟨vs, H2, I2, r, q⟩ => ⟨I2.kIn, ?_⟩) he hpl
  exact run_make M F hr hb hd hx I2 r q
/-! bool(x) -/
theorem call_boolOwn {n : Nat} (hs : PySem.W.findIn X.K (.ref C) "__bool__" = some (some (.ref g))) (hf : PySem.W.isFn X.K (.ref g) = true) (F : FnR X.prog X.w X.K X.mg X.base CX0 n g sp) (hr : Room (n + 2) X.A) :
    CallR X (.type "bool") (fun xs H Q => ∃ a dx fs, xs = [.ref a] ∧ H a = some (.ins C dx fs) ∧ sp xs H (fun z H' => ∃ b, z = .bl b ∧ Q z H') E) := by
  intro pins s σ H xs us Q I r h
  obtain ⟨a, dx, fs, rfl, ha, q⟩ := h
  obtain ⟨u, rfl, ru⟩ := vals1 r
  cases (show u = Value.ref a from ru)
  obtain ⟨od, J⟩ := inst_at I ha
  obtain ⟨m, hF⟩ := I.fr
  have hr2 : Room n X.A.in1.in1 := (show Room (n + 1) X.A.in1 from Room.in1 hr).in1
  have one : wpAny (model X.prog X.w) X.A.in1.in1 (truthy (.ref a)) (fun b s' => EP X pins σ Q (.bool b) s') X.xe s := by
    refine PySem.W.truthy_K hF I.ok.mod.kin J hs hf (wpAny_mono (call_at0 (us := [.ref a]) (ws := [.ref a]) F hr2 I.env0.in1.in1 I (.cons rfl .nil) q) (fun w s' z => ?_) fun _ _ x => x)
    obtain ⟨z', H', I', rz, b, ez, qz⟩ := z
    subst ez
    cases (show w = Value.bool b from rz)
    exact ⟨.bl b, H', I', rfl, qz⟩
  refine callType_codes (T := "bool") (Bi := Builtin.«object.__init__») (Q₁ := fun r s₁ => ∃ b, r = .bool b ∧ EP X pins σ Q r s₁) PySem.F.called_bool (PySem.F.typeCall_bool_1 _) PySem.F.entry_object_init ?_ ?_
  · refine codeAny_call_builtin (by decide +kernel) PySem.F.entry_bool_new (wpAny_of_eq (PySem.F.newCall_bool_1 _) ?_)
    unfold Builtin.«bool.__new__»
    refine wpAny_bind (wpAny_of_eq (show isType (.type "bool") = pure true from rfl) ?_)
    simp only [Bool.not_true, Bool.false_eq_true, if_false]
    refine wpAny_bind (wpAny_of_eq PySem.F.conv_sub_bool ?_)
    simp only [Bool.not_true, Bool.false_eq_true, if_false]
    refine wpAny_bind (m := someArgs _ _ _ _) (wpAny_pure ?_)
    refine wpAny_bind (wpAny_mono one (fun b s₁ z => ?_) fun _ _ e => e)
    exact wpAny_pure ⟨b, rfl, z⟩
  · rintro obj s₁ ⟨b, rfl, hq⟩
    exact ⟨PySem.typeIs_bool _ _, PySem.F.args_object_init_2 _ _, object_init_meets PySem.F.called_bool.init.lookup PySem.F.called_bool.made PySem.F.newNe_bool X.prog X.w X.A.in1 _ s₁ ⟨PySem.typeIs_bool _ _, rfl, hq⟩⟩
end
/-! how a def binds -/
theorem kbn_of {K : PySem.W.Frag} {x qual : Str} {st : Stmt} {f : Addr} {fd : FuncData} {ps ks : List Str} {n : Nat} (F : Fun K x qual st f fd)
    (h : ∀ (kV doc pm : Value) (an : Option Addr) (cdv ct : Value) (us ws : List Value), us.length = n → ws.length = ks.length → bindArgs (PySem.W.fnOf x qual (defArgs st) (defBody st) (defScope st) .none kV doc pm an cdv ct) ⟨us, ks.zip ws⟩ = pure (ps.zip (us ++ ws))) :
    KBn K fd ps n ks (fun us ws => us ++ ws) (fun vs zs => vs ++ zs) := by
  obtain ⟨oc, od, kV, doc, pm, an, cdv, ct, osl, rfl, lk, hcd⟩ := F.ex
  exact ⟨fun s us ws X l1 l2 => BindsTo.of_eq (h kV doc pm an cdv ct us ws l1 l2), fun r1 r2 => r1.append r2⟩
/-- def f(a, *v) that raises nothing -/
theorem star_ok {P : Program} {w : World} {K : PySem.W.Frag} {mg : Str → Option Value} {base : Heap} {x qual : Str} {st : Stmt} {f : Addr} {fd : FuncData} {N ps : List Str} {pv : Str} {k : Nat} {sp : Sp} (F : Fun K x qual st f fd) (S : FnScope N (ps ++ [pv]) (defScope st))
    (hb : ∀ (kV doc pm : Value) (an : Option Addr) (cdv ct : Value) (us rest : List Value), us.length = ps.length → bindArgs (PySem.W.fnOf x qual (defArgs st) (defBody st) (defScope st) .none kV doc pm an cdv ct) ⟨us ++ rest, []⟩ = (newTuple rest >>= fun t => pure (ps.zip us ++ [(pv, t)])))
    (hbody : ∀ (cdv : Value) (A : Around) (outer : List Env) (s : Shared) (H : Hp) (vs : List V) (Q : VK) (E : XK), Room k (A.deeper (envOfC qual (defScope st) s.heap.objs.size f cdv)) → sp vs H Q E →
      ∃ t, PSs (cxOf CX0 P w K mg base N qual (defScope st) f cdv A outer s H E).nox (defBody st) t ∧ t { nx := fun _ H' => Q .non H', rt := Q } (start N vs) H) :
    FnR P w K mg base CX0 (k + 1) f (fun vs H Q E => ∃ ws rest, vs = ws ++ rest ∧ ws.length = ps.length ∧ rest.length ≤ sizeLine ∧ ∀ p, H p = Option.none → sp (ws ++ [V.ref p]) (upd H p (.tup rest)) Q E) := by
  obtain ⟨oc, od, kV, doc, pm, an, cdv, ct, osl, rfl, lk, hcd⟩ := F.ex
  exact StX.fn_star lk hcd S StX.cxUp_none (fun us rest l => hb kV doc pm an cdv ct us rest l) (fun A outer s H vs Q E hr h => let ⟨t, h1, q⟩ := hbody cdv A outer s H vs Q E hr h; ⟨t, h1.nox, q⟩)
end Lb

set_option Elab.async false
set_option linter.all false
set_option maxRecDepth 100000
set_option maxHeartbeats 4000000
namespace Lb
open PySem

/-! the digits of a number, cut -/
def pad : Nat → Nat → List Char
  | 0, _ => []
  | k + 1, r => pad k (r / 10) ++ [Nat.digitChar (r % 10)]
theorem digits_cut {n : Nat} (hn : 0 < n) : ∀ (k r : Nat), r < 10 ^ k → Nat.toDigits 10 (n * 10 ^ k + r) = Nat.toDigits 10 n ++ pad k r
  | 0, r, h => by
    have : r = 0 := by simpa using h
    subst this
    simp [pad]
  | k + 1, r, h => by
    have h1 : r / 10 < 10 ^ k := by
      rw [Nat.pow_succ] at h
      omega
    have ih := digits_cut hn k (r / 10) h1
    have e : n * 10 ^ (k + 1) + r = 10 * (n * 10 ^ k + r / 10) + r % 10 := by
      rw [Nat.pow_succ]
      have := Nat.div_add_mod r 10
      rw [← Nat.mul_assoc]
      omega
    have p : 0 < n * 10 ^ k + r / 10 := Nat.add_pos_left (Nat.mul_pos hn (Nat.pow_pos (by decide))) _
    rw [e, ← Nat.toDigits_append_toDigits (by decide) p (Nat.mod_lt _ (by decide)), ih, Nat.toDigits_of_lt_base (Nat.mod_lt _ (by decide))]
    simp [pad]
theorem pad_zero : ∀ k, pad k 0 = List.replicate k '0'
  | 0 => rfl
  | k + 1 => by
    rw [pad, pad_zero k, List.replicate_succ']
    rfl
theorem pad_eq : ∀ (k r : Nat), 1 ≤ k → r < 10 ^ k → pad k r = List.replicate (k - (Nat.toDigits 10 r).length) '0' ++ Nat.toDigits 10 r
  | 1, r, _, h => by
    have h : r < 10 := by simpa using h
    rw [Nat.toDigits_of_lt_base h]
    simp [pad, Nat.mod_eq_of_lt h]
  | k + 2, r, _, h => by
    have h1 : r / 10 < 10 ^ (k + 1) := by
      rw [Nat.pow_succ] at h
      omega
    have ih := pad_eq (k + 1) (r / 10) (by omega) h1
    rw [pad]
    by_cases h0 : r < 10
    · have : r / 10 = 0 := by omega
      rw [this, pad_zero, Nat.toDigits_of_lt_base h0, Nat.mod_eq_of_lt h0]
      rfl
    · have e : Nat.toDigits 10 r = Nat.toDigits 10 (r / 10) ++ [Nat.digitChar (r % 10)] := by
        rw [← Nat.toDigits_of_lt_base (Nat.mod_lt r (by decide : 10 > 0)), Nat.toDigits_append_toDigits (by decide) (by omega) (Nat.mod_lt _ (by decide)), Nat.div_add_mod]
      rw [ih, e, List.length_append]
      rw [show k + 1 + 1 - ((Nat.toDigits 10 (r / 10)).length + [Nat.digitChar (r % 10)].length) = k + 1 - (Nat.toDigits 10 (r / 10)).length by simp only [List.length_cons, List.length_nil]; omega]
      simp
/-- the text of digits -/
def chS (l : List Char) : Str := ⟨(l.map Char.toNat).toArray⟩
theorem chS_append (a b : List Char) : chS (a ++ b) = chS a ++ chS b := by
  show Str.mk _ = Str.mk _
  congr 1
  simp [chS]
theorem toS (n : Nat) : ((toString (n : Int) : String) : Str) = chS (Nat.toDigits 10 n) := by
  rw [show ((toString (n : Int) : String) : Str) = Str.ofString (toString (n : Int)) from rfl, Str.ofString_eq_toList]
  unfold chS
  congr 3
  show (Int.repr (n : Int)).toList = _
  simp [Int.repr, Nat.repr]
theorem zf {k r : Nat} (hk : 1 ≤ k) (hr : r < 10 ^ k) : Txt.zfill (chS (Nat.toDigits 10 r)) (k : Nat) = chS (pad k r) := by
  have hlen : (chS (Nat.toDigits 10 r)).length = (Nat.toDigits 10 r).length := by
    show (chS (Nat.toDigits 10 r)).cps.size = _
    simp [chS]
  rw [pad_eq k r hk hr]
  unfold Txt.zfill
  rw [hlen]
  by_cases h : ((k : Nat) : Int) ≤ ((Nat.toDigits 10 r).length : Nat)
  · rw [if_pos h, show k - (Nat.toDigits 10 r).length = 0 by omega]
    simp
  · rw [if_neg h]
    have e0 : (chS (Nat.toDigits 10 r)).cps[0]? = ((Nat.toDigits 10 r)[0]?).map Char.toNat := by simp [chS]
    have key : (chS (Nat.toDigits 10 r)).cps[0]? ≠ some 43 ∧ (chS (Nat.toDigits 10 r)).cps[0]? ≠ some 45 := by
      rw [e0]
      cases hd : (Nat.toDigits 10 r)[0]? with
      | none => simp
      | some c =>
        have hc := Nat.isDigit_of_mem_toDigits (by decide) (by decide) (List.mem_of_getElem? hd)
        have : 48 ≤ c.toNat := by
          have := hc
          simp only [Char.isDigit, Bool.and_eq_true, decide_eq_true_eq] at this
          exact UInt32.le_iff_toNat_le.mp this.1
        simp only [Option.map_some, ne_eq, Option.some.injEq]
        omega
    have e : zfilled (chS (Nat.toDigits 10 r)) (Int.toNat k - (Nat.toDigits 10 r).length) = Builtin.Str.padded (chS (Nat.toDigits 10 r)) (Int.toNat k - (Nat.toDigits 10 r).length) 0 48 := by
      unfold zfilled
      split
      · rename_i q; exact absurd q key.1
      · rename_i q; exact absurd q key.2
      · rfl
    rw [e, chS_append]
    unfold Builtin.Str.padded
    show Str.mk _ = Str.mk _
    congr 1
    simp [chS]
def cat : List Str → Str
  | [] => Str.empty
  | x :: r => x ++ cat r
theorem empty_add (x : Str) : Str.empty ++ x = x := by
  show Str.mk _ = Str.mk _
  simp [Str.empty]
theorem add_empty (x : Str) : x ++ Str.empty = x := by
  show Str.mk _ = Str.mk _
  simp [Str.empty]
theorem cat_append (a b : List Str) : cat (a ++ b) = cat a ++ cat b := by
  induction a with
  | nil => exact (empty_add _).symm
  | cons x r ih => rw [List.cons_append, cat, cat, ih, Str.append_assoc]
theorem cat_foldl : ∀ (l : List Str) (x : Str), (⟨l.foldl (fun acc p => acc ++ Str.empty.cps ++ p.cps) x.cps⟩ : Str) = x ++ cat l
  | [], x => (add_empty x).symm
  | y :: r, x => by
    rw [List.foldl_cons]
    have e : x.cps ++ Str.empty.cps ++ y.cps = (x ++ y).cps := by
      show _ = x.cps ++ y.cps
      simp [Str.empty]
    rw [e, cat_foldl r (x ++ y), cat, Str.append_assoc]
theorem join_empty : ∀ l : List Str, Txt.join Str.empty l = cat l
  | [] => rfl
  | x :: r => cat_foldl r x
theorem cat_length : ∀ l : List Str, (cat l).length = (l.map (·.length)).sum
  | [] => rfl
  | x :: r => by rw [cat, Str.length_append, cat_length r, List.map_cons, List.sum_cons]
theorem chS_length (l : List Char) : (chS l).length = l.length := by
  show (chS l).cps.size = _
  simp [chS]
theorem pad_length : ∀ k r, (pad k r).length = k
  | 0, _ => rfl
  | k + 1, r => by rw [pad, List.length_append, pad_length k]; rfl
/-- one turn: the last sixty digits are cut off -/
theorem turn60 {n : Nat} (h : 10 ^ 60 ≤ n) : ((toString (n : Int) : String) : Str) = ((toString ((n / 10 ^ 60 : Nat) : Int) : String) : Str) ++ Txt.zfill ((toString ((n % 10 ^ 60 : Nat) : Int) : String) : Str) (60 : Nat) ∧
    (Txt.zfill ((toString ((n % 10 ^ 60 : Nat) : Int) : String) : Str) (60 : Nat)).length = 60 := by
  have q : 0 < n / 10 ^ 60 := Nat.div_pos h (Nat.pow_pos (by decide))
  have r : n % 10 ^ 60 < 10 ^ 60 := Nat.mod_lt _ (Nat.pow_pos (by decide))
  rw [toS, toS, toS, zf (by decide) r]
  refine ⟨?_, by rw [chS_length, pad_length]⟩
  conv => lhs; rw [← Nat.div_add_mod n (10 ^ 60), Nat.mul_comm]
  rw [digits_cut q 60 _ r, chS_append]
end Lb
namespace Lb
open PySem L2
theorem vals_rev : ∀ {vs : List V} {us : List Value}, Vals vs us → Vals vs.reverse us.reverse
  | [], _, .nil => .nil
  | _ :: _, _, .cons r t => by
    rw [List.reverse_cons, List.reverse_cons]
    exact (vals_rev t).append (.cons r .nil)
theorem kit_of_own {K : PySem.W.Frag} {C : Addr} {T : String} (hm : PySem.W.kitMeta T = true) (h : PySem.W.subIn K (.ref C) (.type T) = some false) : PySem.W.kitOne K (.ref C) (.type T) = some false := by
  have ne : (Value.ref C == Value.type T) = false := Bool.eq_false_iff.mpr fun q => nomatch beq_iff_eq.mp q
  unfold PySem.W.kitOne
  rw [ne, if_neg (by decide)]
  unfold PySem.W.kitCls
  dsimp only
  rw [if_pos hm]
  exact h
end Lb

set_option Elab.async false
set_option linter.all false
set_option maxRecDepth 100000
set_option maxHeartbeats 4000000
set_option exponentiation.threshold 10000
namespace Lb
open PySem L2

/-! fractions in lowest terms -/
abbrev Q2 := Int × Int
theorem bd_one {n : Nat} : Bd (n + 1) 1 := by
  show 1 < 2 ^ (n + 1)
  exact Nat.one_lt_two_pow (Nat.succ_ne_zero n)
def rdD (t b : Int) : Int := if b < 0 then -((Nat.gcd t.natAbs b.natAbs : Nat) : Int) else ((Nat.gcd t.natAbs b.natAbs : Nat) : Int)
def rdT (t b : Int) : Int := t.fdiv (rdD t b)
def rdB (t b : Int) : Int := b.fdiv (rdD t b)
theorem rdT_one (t : Int) : rdT t 1 = t := by
  unfold rdT rdD
  simp [Int.fdiv_one]
theorem rdB_one (t : Int) : rdB t 1 = 1 := by
  unfold rdB rdD
  simp [Int.fdiv_one]
/-- a fraction in lowest terms, its parts below a power of two -/
structure Low (n : Nat) (x : Q2) : Prop where
  t : Bd n x.1
  b : Bd n x.2
  pos : 0 < x.2
  g : x.1.gcd x.2 = 1
theorem Low.mono {n m : Nat} {x : Q2} (h : Low n x) (k : n ≤ m) : Low m x := ⟨h.t.mono k, h.b.mono k, h.pos, h.g⟩
def rd (t b : Int) : Q2 := (rdT t b, rdB t b)
theorem rd_spec {t b : Int} (hb : b ≠ 0) : 0 < rdB t b ∧ (rdT t b).gcd (rdB t b) = 1 ∧ t = (rdD t b) * rdT t b ∧ b = (rdD t b) * rdB t b := by
  have hg : 0 < t.gcd b := Int.gcd_pos_of_ne_zero_right t hb
  obtain ⟨t1, ht⟩ := Int.gcd_dvd_left t b
  obtain ⟨b1, hb1⟩ := Int.gcd_dvd_right t b
  have g1 : t1.gcd b1 = 1 := by
    have h := Int.gcd_mul_left (t.gcd b : Int) t1 b1
    rw [← ht, ← hb1] at h
    have h' : t.gcd b * 1 = t.gcd b * t1.gcd b1 := by simpa using h
    exact (Nat.eq_of_mul_eq_mul_left hg h').symm
  have key : ∀ D x y : Int, D ≠ 0 → t = D * x → b = D * y → t.fdiv D = x ∧ b.fdiv D = y := fun D x y hD h1 h2 => by
    rw [h1, h2]
    exact ⟨Int.mul_fdiv_cancel_left _ hD, Int.mul_fdiv_cancel_left _ hD⟩
  have eg : ((Nat.gcd t.natAbs b.natAbs : Nat) : Int) = (t.gcd b : Int) := rfl
  unfold rdT rdB
  by_cases h : b < 0
  · have eD : rdD t b = -(t.gcd b : Int) := by unfold rdD; rw [if_pos h, eg]
    obtain ⟨e1, e2⟩ := key (rdD t b) (-t1) (-b1) (by omega) (by rw [eD, Int.neg_mul_neg]; exact ht) (by rw [eD, Int.neg_mul_neg]; exact hb1)
    rw [e1, e2]
    have hb2 : b1 < 0 := by
      have : (t.gcd b : Int) * b1 < (t.gcd b : Int) * 0 := by omega
      exact Int.lt_of_mul_lt_mul_left this (by omega)
    refine ⟨by omega, ?_, by rw [eD, Int.neg_mul_neg]; exact ht, by rw [eD, Int.neg_mul_neg]; exact hb1⟩
    rw [Int.neg_gcd, Int.gcd_neg]
    exact g1
  · have eD : rdD t b = (t.gcd b : Int) := by unfold rdD; rw [if_neg h, eg]
    obtain ⟨e1, e2⟩ := key (rdD t b) t1 b1 (by omega) (by rw [eD]; exact ht) (by rw [eD]; exact hb1)
    rw [e1, e2]
    have hb2 : 0 < b1 := by
      have : (t.gcd b : Int) * 0 < (t.gcd b : Int) * b1 := by omega
      exact Int.lt_of_mul_lt_mul_left this (by omega)
    exact ⟨hb2, g1, by rw [eD]; exact ht, by rw [eD]; exact hb1⟩
theorem rd_low {n : Nat} {t b : Int} (hb : b ≠ 0) (h1 : Bd n t) (h2 : Bd n b) : Low n (rd t b) := by
  obtain ⟨p, g, e3, e4⟩ := rd_spec (t := t) (b := b) hb
  have hD : 1 ≤ (rdD t b).natAbs := by
    rcases Nat.eq_zero_or_pos (rdD t b).natAbs with e | e
    · have := Int.natAbs_eq_zero.mp e
      rw [this, Int.zero_mul] at e4
      exact absurd e4 hb
    · exact e
  have le : ∀ z : Int, z.natAbs ≤ (rdD t b * z).natAbs := fun z => by
    rw [Int.natAbs_mul]
    exact Nat.le_mul_of_pos_left _ hD
  exact ⟨h1.le (by conv => rhs; rw [e3]
                   exact le _), h2.le (by conv => rhs; rw [e4]
                                          exact le _), p, g⟩
theorem rd_self {t b : Int} (p : 0 < b) (g : t.gcd b = 1) : rdT t b = t ∧ rdB t b = b := by
  have e : rdD t b = 1 := by
    unfold rdD
    rw [if_neg (by omega)]
    show ((t.gcd b : Nat) : Int) = 1
    omega
  unfold rdT rdB
  rw [e, Int.fdiv_one, Int.fdiv_one]
  exact ⟨rfl, rfl⟩

theorem mul_pos_ne {x y : Int} (h : 0 < x) (k : 0 < y) : x * y ≠ 0 := by
  have := Int.mul_pos h k
  omega
/-- the number -/
def val (x : Q2) : Rat := (x.1 : Rat) / (x.2 : Rat)
theorem ne_cast {b : Int} (h : b ≠ 0) : (b : Rat) ≠ 0 := fun z => h (Rat.intCast_inj.mp (z.trans Rat.intCast_zero.symm))
theorem pos_cast {b : Int} (h : 0 < b) : (0 : Rat) < (b : Rat) := by
  have := Rat.intCast_lt_intCast.mpr h
  simpa using this
theorem val_rd {t b : Int} (hb : b ≠ 0) : val (rd t b) = (t : Rat) / (b : Rat) := by
  obtain ⟨p, g, e3, e4⟩ := rd_spec (t := t) (b := b) hb
  have hD : rdD t b ≠ 0 := fun z => by
    rw [z, Int.zero_mul] at e4
    exact hb e4
  have h1 : (t : Rat) = (rdD t b : Rat) * (rdT t b : Rat) := by
    rw [← Rat.intCast_mul, ← e3]
  have h2 : (b : Rat) = (rdD t b : Rat) * (rdB t b : Rat) := by
    rw [← Rat.intCast_mul, ← e4]
  have h3 := ne_cast hD
  have h4 := ne_cast (show rdB t b ≠ 0 by omega)
  show (rdT t b : Rat) / (rdB t b : Rat) = _
  rw [h1, h2]
  grind
theorem val_lt {x y : Q2} (hx : 0 < x.2) (hy : 0 < y.2) : (x.1 * y.2 < y.1 * x.2) ↔ val x < val y := by
  have px := pos_cast hx
  have py := pos_cast hy
  have e1 : val x * ((x.2 : Rat) * y.2) = (x.1 : Rat) * y.2 := by unfold val; grind
  have e2 : val y * ((x.2 : Rat) * y.2) = (y.1 : Rat) * x.2 := by unfold val; grind
  have pp : (0 : Rat) < (x.2 : Rat) * y.2 := Rat.mul_pos px py
  rw [← Rat.intCast_lt_intCast, Rat.intCast_mul, Rat.intCast_mul, ← e1, ← e2]
  constructor
  · intro h
    exact Rat.lt_of_mul_lt_mul_right h (Rat.le_of_lt pp)
  · intro h
    exact Rat.mul_lt_mul_of_pos_right h pp
theorem val_le {x y : Q2} (hx : 0 < x.2) (hy : 0 < y.2) : (x.1 * y.2 ≤ y.1 * x.2) ↔ val x ≤ val y := by
  rw [← Int.not_lt, val_lt hy hx, Rat.not_lt]
theorem low_eq {t b t' b' : Int} (hb : 0 < b) (hb' : 0 < b') (g : t.gcd b = 1) (g' : t'.gcd b' = 1) (h : t * b' = t' * b) : t = t' ∧ b = b' := by
  have d1 : b ∣ b' := by
    have : b ∣ (b.gcd t : Int) * b' := Int.dvd_gcd_mul_iff_dvd_mul.mpr ⟨t', by grind⟩
    rw [Int.gcd_comm, g] at this
    simpa using this
  have d2 : b' ∣ b := by
    have : b' ∣ (b'.gcd t' : Int) * b := Int.dvd_gcd_mul_iff_dvd_mul.mpr ⟨t, by grind⟩
    rw [Int.gcd_comm, g'] at this
    simpa using this
  have e : b = b' := by
    have h1 := Int.le_of_dvd hb' d1
    have h2 := Int.le_of_dvd hb d2
    omega
  subst e
  refine ⟨?_, rfl⟩
  have : (t - t') * b = 0 := by grind
  rcases Int.mul_eq_zero.mp this with e | e <;> omega
theorem val_inj {n m : Nat} {x y : Q2} (hx : Low n x) (hy : Low m y) (h : val x = val y) : x = y := by
  have px := ne_cast (show x.2 ≠ 0 from by have := hx.pos; omega)
  have py := ne_cast (show y.2 ≠ 0 from by have := hy.pos; omega)
  have e : (x.1 : Rat) * y.2 = (y.1 : Rat) * x.2 := by
    unfold val at h
    grind
  rw [← Rat.intCast_mul, ← Rat.intCast_mul, Rat.intCast_inj] at e
  obtain ⟨h1, h2⟩ := low_eq hx.pos hy.pos hx.g hy.g e
  exact Prod.ext h1 h2
theorem val_add {x y : Q2} (hx : 0 < x.2) (hy : 0 < y.2) : val (rd (x.1 * y.2 + y.1 * x.2) (x.2 * y.2)) = val x + val y := by
  have px := ne_cast (show x.2 ≠ 0 by omega)
  have py := ne_cast (show y.2 ≠ 0 by omega)
  rw [val_rd (mul_pos_ne hx hy), Rat.intCast_add, Rat.intCast_mul, Rat.intCast_mul, Rat.intCast_mul]
  unfold val
  grind
theorem val_sub {x y : Q2} (hx : 0 < x.2) (hy : 0 < y.2) : val (rd (x.1 * y.2 - y.1 * x.2) (x.2 * y.2)) = val x - val y := by
  have px := ne_cast (show x.2 ≠ 0 by omega)
  have py := ne_cast (show y.2 ≠ 0 by omega)
  rw [val_rd (mul_pos_ne hx hy), Rat.intCast_sub, Rat.intCast_mul, Rat.intCast_mul, Rat.intCast_mul]
  unfold val
  grind
theorem val_mul {x y : Q2} (hx : 0 < x.2) (hy : 0 < y.2) : val (rd (x.1 * y.1) (x.2 * y.2)) = val x * val y := by
  have px := ne_cast (show x.2 ≠ 0 by omega)
  have py := ne_cast (show y.2 ≠ 0 by omega)
  rw [val_rd (mul_pos_ne hx hy), Rat.intCast_mul, Rat.intCast_mul]
  unfold val
  grind
theorem val_div {x y : Q2} (hx : 0 < x.2) (hy : 0 < y.2) (h0 : y.1 ≠ 0) : val (rd (x.1 * y.2) (x.2 * y.1)) = val x / val y := by
  have px := ne_cast (show x.2 ≠ 0 by omega)
  have py := ne_cast (show y.2 ≠ 0 by omega)
  have p0 := ne_cast h0
  rw [val_rd (Int.mul_ne_zero (by omega) h0), Rat.intCast_mul, Rat.intCast_mul]
  unfold val
  grind
theorem val_neg (x : Q2) : val (-x.1, x.2) = - val x := by
  show ((-x.1 : Int) : Rat) / x.2 = - ((x.1 : Rat) / x.2)
  rw [Rat.intCast_neg]
  grind
theorem val_zero : val (0, 1) = 0 := by
  show ((0 : Int) : Rat) / ((1 : Int) : Rat) = 0
  rw [Rat.intCast_zero]
  grind
theorem val_eq0 {x : Q2} (hx : 0 < x.2) : x.1 = 0 ↔ val x = 0 := by
  have px := ne_cast (show x.2 ≠ 0 by omega)
  constructor
  · intro h
    unfold val
    rw [h, Rat.intCast_zero]
    grind
  · intro h
    refine Classical.byContradiction fun k => ?_
    have := ne_cast k
    unfold val at h
    grind
theorem val_pos {x : Q2} (hx : 0 < x.2) : 0 < x.1 ↔ 0 < val x := by
  have h := val_lt (x := (0, 1)) (y := x) (by decide) hx
  rw [val_zero] at h
  rw [← h]
  simp
theorem val_negl {x : Q2} (hx : 0 < x.2) : x.1 < 0 ↔ val x < 0 := by
  have h := val_lt (x := x) (y := (0, 1)) hx (by decide)
  rw [val_zero] at h
  rw [← h]
  simp
end Lb

set_option Elab.async false
set_option linter.all false
set_option maxRecDepth 100000
set_option maxHeartbeats 4000000
namespace Lb
open PySem PySem.Spec PyProof.Rows L2
section
variable {X : Cx} {CX : CXT} {k : Nat} {f C p g : Addr} {fd : FuncData} {ps ks : List Str} {sp : Sp} {E : XK} {x m : Str} {pos np apos : Pos} {o fe e : Expr} {es : List Expr} {kws : List Keyword} {ta tf : TE} {t tk : TA} {gf : List Value → List Value → List Value} {gV : List V → List V → List V}
/-! an instance is called -/
def tCallI (C : Addr) (sp : Sp) (E : XK) (tf : TE) (t : TA) : TE := fun σ H Q => tf σ H fun y H1 => ∃ a, y = V.ref a ∧ t σ H1 fun vs H2 => (∃ dx fs, H2 a = some (.ins C dx fs)) ∧ sp (V.ref a :: vs) H2 Q E
theorem pe_callI (hf : PE X fe tf) (c : StX.CallO X.K C g) (F : FnR X.prog X.w X.K X.mg X.base CX k g sp) (hr : Room k X.A) (hx : Passes CX X E) (ha : PA X (e :: es) t)
    (ht : eval (.Call fe (e :: es) [] pos) X.env = (do callWith pos (← eval fe X.env) [] (backTo pos (starEach (e :: es) X.env)) (backToKw pos (keywordEach [] X.env))) := by rfl)
    (he : starEach (e :: es) X.env = (false, eval e X.env) :: starEach es X.env := by rfl) (hpl : (backTo pos (starEach es X.env)).any (·.1) = false := by rfl) : PE X (.Call fe (e :: es) [] pos) (tCallI C sp E tf t) := by
  refine ⟨fun pins s σ H Q I h => ?_⟩
  refine Call_ (thn (hf.run pins s σ H _ I h) fun u s1 ⟨y, H1, I1, ry, a, ey, q⟩ => ?_) ht
  subst ey
  obtain rfl : u = Value.ref a := ry
  refine StX.callO_with (thn (ha.run pos pins s1 σ H1 _ I1 q) fun us s2 ⟨vs, H2, I2, r, ⟨dx, fs, hi⟩, q2⟩ => ?_) he hpl
  obtain ⟨ox, od, J, hd⟩ := StX.insC_at I2 (X := X) (.inr ⟨dx, fs, hi⟩)
  exact ⟨⟨C, ox, od, J, hd⟩, StX.run_callO c F hr hx I2 (.inr ⟨dx, fs, hi⟩) r q2⟩
/-! C.m(e, ..), m a staticmethod -/
structure SMet (K : PySem.W.Frag) (C : Addr) (m : Str) (p g : Addr) : Prop where
  ty : PySem.W.typeIn K (.ref C) = some (.type "type")
  rd : PySem.W.readsIn K C (.type "type") = true
  ga : PySem.W.specialIn K (.ref C) "__getattribute__" = some (some (.builtin "type.__getattribute__"))
  at_ : PySem.W.findCls K (.ref C) (.type "type") m = some (.get (.builtin "staticmethod.__get__") (.ref p) .none (.ref C))
  rc : ∃ rest, PySem.W.recIn K p "staticmethod" = some (.ref g :: rest)
  kp : PySem.W.keepIn K (.ref g) = true
def tSMeth (C : Addr) (sp : Sp) (E : XK) (ta : TE) (t : TA) : TE := fun σ H Q => ta σ H fun x H1 => x = .ref C ∧ t σ H1 fun vs H2 => sp vs H2 Q E
theorem getsm_ok {pins : List (Addr × Obj)} {σ : L2.St} {H : Hp} {s : Shared} {A : Around} {Ex : Value → Shared → Prop} {pl : Sem Bool} {Q : Value × List Value → Shared → Prop} (I : Inv X pins σ H s) (c : SMet X.K C m p g)
    (h : ∀ s', Inv X pins σ H s' → Q (.ref g, []) s') : wpAny (model X.prog X.w) A (getMethod (.ref C) m pl) Q Ex s := by
  obtain ⟨rest, hp⟩ := c.rc
  obtain ⟨mm, F⟩ := I.fr
  exact PySem.W.method_cls I.kIn c.ga (PySem.W.cls_sm F I.ok.mod.kin c.ty c.rd c.at_ hp rfl (h _ (I.tok _)))
theorem pe_smeth {pl : Sem Bool} {ds : List Value} {dvs : List V} (he : PE X o ta) (c : SMet X.K C m p g) (F : FnOk X.prog X.w X.K X.mg X.base CX k g fd ps sp) (hr : Room k X.A) (hb : Binds X.K fd ps ds) (hd : Vals dvs ds) (hx : Passes CX X E) (ha : PA X (e :: es) t)
    (hst : starEach (e :: es) X.env = (false, eval e X.env) :: starEach es X.env := by rfl) (hpl : (backTo pos (starEach es X.env)).any (·.1) = false := by rfl)
    (ht : eval (.Call (.Attribute o m apos) (e :: es) [] pos) X.env = (do
      let ov ← eval o X.env
      standAt apos.atName
      let (f, first) ← holding [ov] (getMethod ov m pl)
      callWith pos f first (backTo pos (starEach (e :: es) X.env)) (backToKw pos (keywordEach [] X.env))) := by rfl) :
    PE X (.Call (.Attribute o m apos) (e :: es) [] pos) (tSMeth C (fun vs H Q E => sp (vs ++ dvs) H Q E) E ta t) := by
  refine ⟨fun pins s σ H Q I h => ?_⟩
  refine PySem.W.methodCall_KW (pl := pl) (thn (he.run pins s σ H _ I h) fun u s1 ⟨x, H1, I1, rx, ex, q⟩ => ?_) ht
  subst ex
  obtain rfl : u = Value.ref C := rx
  refine getsm_ok I1 c fun s2 I2 => ?_
  refine PySem.W.callWith_K (first := []) (h₀ := X.base) I.ok.mod.kin c.kp (thn (ha.run pos pins s2 σ H1 _ I2 q) fun us s3 ⟨vs, H2, I3, rv, q2⟩ => ⟨I3.kIn, ?_⟩) hst hpl
  exact run_fn F hr hb hd hx I3 rv q2
/-! an instance is called with keywords alone -/
abbrev KeptBy (s : Shared) (o : Addr) : Prop := ∃ D y z, PySem.W.InstAt s.heap o y D z ∧ y.data = .plain
theorem inst_kw {M : Model} {A : Around} {Bad : Value → Shared → Prop} {Fin : Value → Shared → Prop} {t : Shared} {o : Addr} {pos : Pos} {us : List (Bool × Sem Value)} {ns : List (Option Str × Sem Value)} (no : (us.any (·.1) || ns.any (·.1.isNone)) = false)
    (run : wpAny M A (evalArgs (.ref o) true us ns) (fun got t' => KeptBy t' o ∧ wpAny M A (call (.ref o) got.pos got.kw) Fin Bad t') Bad t) :
    wpAny M A (callWith pos (.ref o) [] us ns) Fin Bad t := by
  have last : ∀ {go : Sem Value} {t' : Shared}, wpAny M A go Fin Bad t' → wpAny M A (go >>= fun v => holding [v] point >>= fun _ => pure v) Fin Bad t' := by
    intro go t' g
    apply wpAny_bind
    refine wpAny_mono g ?_ fun _ _ b => b
    intro v t2 fin
    exact wpAny_bind (wpAny_holding (wpAny_point (wpAny_pure fin)))
  unfold callWith
  apply wpAny_bind
  apply wpAny_holding
  refine wpAny_mono run ?_ fun _ _ b => b
  rintro got t' ⟨⟨D, y, z, inst, dat⟩, go⟩
  apply wpAny_bind
  apply wpAny_standAt
  have keeper := PySem.W.kco_keeper (M := M) inst dat
  simp only [no]
  apply wpAny_bind
  apply keeper.here
  exact last (wpAny_operateT go)
def tCallIK (nk : Nat) (C : Addr) (sp : Sp) (gV : List V → List V → List V) (E : XK) (tf : TE) (tk : TA) : TE := fun σ H Q => tf σ H fun y H1 => ∃ a, y = V.ref a ∧ tk σ H1 fun zs H2 => (∃ dx fs, H2 a = some (.ins C dx fs)) ∧ zs.length = nk ∧ sp (gV [.ref a] zs) H2 Q E
theorem pe_callIK (hf : PE X fe tf) (c : StX.CallO X.K C g) (F : FnOk X.prog X.w X.K X.mg X.base CX k g fd ps sp) (hr : Room k X.A) (hb : KBn X.K fd ps 1 ks gf gV) (hx : Passes CX X E) (hkw : PK X kws tk)
    (hall : (backToKw pos (keywordEach kws X.env)).all (·.1.isSome) = true := by rfl) (hks : (backToKw pos (keywordEach kws X.env)).filterMap (·.1) = ks := by rfl)
    (hpl : ((backTo pos (starEach [] X.env)).any (·.1) || (backToKw pos (keywordEach kws X.env)).any (·.1.isNone)) = false := by rfl)
    (ht : eval (.Call fe [] kws pos) X.env = (do callWith pos (← eval fe X.env) [] (backTo pos (starEach [] X.env)) (backToKw pos (keywordEach kws X.env))) := by rfl) : PE X (.Call fe [] kws pos) (tCallIK ks.length C sp gV E tf tk) := by
  refine ⟨fun pins s σ H Q I h => ?_⟩
  rw [ht]
  refine wpAny_bind (thn (hf.run pins s σ H _ I h) fun u s1 ⟨y, H1, I1, ry, a, ey, q⟩ => ?_)
  subst ey
  obtain rfl : u = Value.ref a := ry
  refine inst_kw hpl (evalArgs_kw2_nil hall ?_)
  refine thn (hkw.run pos pins s1 σ H1 _ I1 q) fun ws s2 ⟨zs, H2, I2, rz, ⟨dx, fs, hi⟩, l2, q2⟩ => ?_
  obtain ⟨ox, od, J, hd⟩ := StX.insC_at I2 (X := X) (.inr ⟨dx, fs, hi⟩)
  refine ⟨⟨C, ox, od, J, hd⟩, ?_⟩
  rw [hks]
  refine wpAny_call (PySem.W.kco_code I2.kIn J hd c.at_ c.fn c.fi ?_)
  refine codeAny_mono (F.run X.A X.stack s2 H2 ⟨[.ref a], ks.zip ws⟩ (gf [.ref a] ws) (gV [.ref a] zs) Q E hr I2.env0 (hb.to s2 [.ref a] ws I2.kIn rfl (rz.length.symm.trans l2)) (hb.rel (.cons rfl .nil) rz) q2) fun r s' hq => ?_
  cases r with
  | error e => exact hx pins σ H2 s2 e s' I2 hq
  | ok fl =>
    cases fl with
    | ret u => exact I2.after hq
    | next => exact False.elim hq
    | brk => exact False.elim hq
    | cont => exact False.elim hq
end
end Lb

set_option Elab.async false
set_option linter.all false
set_option maxRecDepth 100000
set_option maxHeartbeats 4000000
namespace Lb
open PySem PySem.Spec PyProof.Rows L2
/-! enumerate of whatever iter() turns into a new object, with one argument -/
abbrev EnO (k : Nat) : Obj := { cls := .type "enumerate", data := .fields #[.none, .bool false, .ref k, rawInt 0, .none, .none] }
theorem made_enum {v : Value} {o : Obj} {Z : Heap → Prop} (B : Begins v o Z) :
    Meets (Builtin.«enumerate.__new__» ⟨[.type "enumerate", v], []⟩) (fun _ R s => Z s.heap ∧ R (.ok (.ret (.ref (s.heap.push o).objs.size))) { s with heap := (s.heap.push o).push (EnO s.heap.objs.size) }) := by
  refine .of_wp fun P w A R s ⟨z, fin⟩ => ?_
  obtain ⟨hp, gl, od, tk, out⟩ := s
  have sb := sub_enumerate
  have it : ∀ {A' : Around} {Bad Q : Value → Shared → Prop}, Q (.ref hp.objs.size) ⟨hp.push o, gl, od, tk, out⟩ → wpAny (model P w) A' (pyIter v) Q Bad ⟨hp, gl, od, tk, out⟩ := fun q => B.iter P w _ _ ⟨hp, gl, od, tk, out⟩ _ z q
  wp_walk using it
  refine wpAny_stack_any fun _ => wpAny_pure ?_
  split
  · rename_i cc _ _ _ _ _
    cases (cc == Value.type "enumerate") <;> (wp_walk using it; exact ⟨_, rfl, fin⟩)
  · wp_walk using it
    exact ⟨_, rfl, fin⟩
theorem enum_called {P : Program} {w : World} {A : Around} {Bad : Value → Shared → Prop} {s : Shared} {v : Value} {o : Obj} {Z : Heap → Prop} {Q : Value → Shared → Prop} (B : Begins v o Z) (z : Z s.heap)
    (fin : ∀ h2, IsEnum h2 (s.heap.objs.size + 1) s.heap.objs.size 0 .none → h2.get? s.heap.objs.size = some o → (∀ b ob, s.heap.get? b = some ob → h2.get? b = some ob) → Q (.ref (s.heap.objs.size + 1)) { s with heap := h2 }) :
    wpAny (model P w) A (call (.type "enumerate") [v]) Q Bad s := by
  refine callType_new F.called_enumerate (by decide) (F.typeCall_enumerate_1 _) (F.newCall_enumerate_1 _) (fun ob => F.args_object_init_2 ob _) F.entry_enumerate_new (made_enum B) ⟨z, ?_⟩
  have n1 : (s.heap.push o).objs.size = s.heap.objs.size + 1 := Heap.size_push ..
  have top : ((s.heap.push o).push (EnO s.heap.objs.size)).get? (s.heap.push o).objs.size = some (EnO s.heap.objs.size) := Heap.get?_push_size _ rfl
  rw [n1] at top
  show _ ∧ _
  rw [n1]
  exact ⟨⟨_, top, rfl⟩, fin _ top (Heap.get?_push_of_some _ (Heap.get?_push_size _ B.free)) fun b ob q => Heap.get?_push_of_some _ (Heap.get?_push_of_some _ q)⟩
/-- the tuple at a, each item in a new pair with its place -/
def IteT (K : PySem.W.Frag) (a : Addr) : It where
  go i H := ∃ (xs : List V) (x : V), SqT K H a xs ∧ xs[i]? = some x
  yld i H v H' := ∃ T x, v = .ref T ∧ H T = none ∧ H' = L2.upd H T (.tup [.int (i : Nat), x]) ∧ ∀ xs, SqT K H a xs → xs[i]? = some x
  stop i H := ∃ xs : List V, SqT K H a xs ∧ xs.length ≤ i
theorem enum_turn {P : Program} {w : World} {K : PySem.W.Frag} {elts : List Expr} {kk : Nat} {tpos : Pos} (a e it : Addr) :
    Turn P w K (.Tuple elts kk tpos) (IteT K a) [e, it] e (fun i h => (∃ old, IsEnum h e it ((i : Nat) : Int) old) ∧ h.IsTupleIter it a i ∧ e ≠ it) where
  mem := List.mem_cons_self
  self := fun A i s Q E st h => by
    obtain ⟨⟨_, he⟩, _⟩ := st
    exact wpAny_pyIter_enum he h
  obj := by
    rintro i h ⟨⟨old, he⟩, ⟨o, ho, hc, hd⟩, _⟩ b hb
    rw [List.mem_cons, List.mem_singleton] at hb
    rcases hb with rfl | rfl
    · exact ⟨_, he, fun v q => nomatch q⟩
    · exact ⟨o, ho, fun v q => by rw [hd] at q; cases q⟩
  keep := by
    rintro i h h' ⟨⟨old, he⟩, hi, ne⟩ k
    exact ⟨⟨old, k e (by simp) _ he⟩, hi.at fun o q => k it (by simp) o q, ne⟩
  item := by
    rintro X rfl rfl rfl hc i pins s σ H E I hf ⟨⟨old, he⟩, hi, ne⟩ ⟨xs, x, hq, hx⟩
    obtain ⟨its, rv, ⟨ot, hot, cot, rt⟩, hz⟩ := I.tuple hq
    obtain ⟨u, hu, ru⟩ := rv.get hx
    have ai : a ≠ it := by
      rintro rfl
      obtain ⟨o, ho, hc', _⟩ := id hi
      have := hot.symm.trans ho
      injection this with this
      rw [← this, cot] at hc'
      exact absurd hc' (by decide)
    have ae : e ≠ a := by
      rintro rfl
      have := hot.symm.trans he
      injection this with this
      rw [this] at cot
      injection cot with cot
      exact absurd cot (by decide)
    have D := Draws.tuple (prog := X.prog) (w := X.w) (A := X.A.in1) (I.ok.hd hc) it a ai its.toArray
    have li := rv.length
    have lt : i < its.toArray.size := by
      have := (List.getElem?_eq_some_iff.mp hu).1
      simpa using this
    have be : e < s.heap.objs.size := Heap.lt_size he
    have bi : it < s.heap.objs.size := by obtain ⟨_, q, _⟩ := id hi; exact Heap.lt_size q
    refine wpAny_pyNext_enum_itemD D he ⟨hi, ⟨ot, hot, cot, rt⟩⟩ lt ne (by simp [ne, ae]) fun y h' tk py ho st' hT _ hk => ?_
    obtain rfl : y = u := by
      have : its.toArray[i]? = some u := by simpa using hu
      exact Option.some.inj (py.symm.trans this)
    refine ⟨_, rfl, wpAny_letOwnedTupleGo_enum (s := { s with heap := h', toks := tk + 1 }) ho fun h2 he2 sb => ?_⟩
    have new : ObjOk X.prog X.w (L2.upd H s.heap.objs.size (.tup [.int (i : Nat), x])) h2 s.heap.objs.size (.tup [.int (i : Nat), x]) :=
      ⟨by show 2 ≤ sizeLine; decide, [.int i tk, y], .cons ⟨_, rfl⟩ (.cons ru .nil), ⟨_, (sb.2 _ (Nat.ne_of_gt be)).trans hT, rfl, _, rfl⟩⟩
    have I1 : Inv X pins σ (L2.upd H s.heap.objs.size (.tup [.int (i : Nat), x])) { s with heap := h2, toks := tk + 1 } := by
      refine I.turnedNew (ch := [e, it]) (fun b ob hb q => ?_) hf (Nat.le_refl _) new
      simp only [List.mem_cons, List.not_mem_nil, or_false, not_or] at hb
      exact (sb.2 b hb.1).trans (hk b ob hb.1 hb.2 q)
    refine ⟨.ref s.heap.objs.size, _, I1, rfl, ⟨_, x, rfl, I.hok.fresh (Nat.le_refl _), rfl, fun ys hy => by rw [I.tuple_inj hy hq]; exact hx⟩, ⟨⟨y, ?_⟩, st'.1.at fun o q => (sb.2 it (Ne.symm ne)).trans q, ne⟩, fun b hb => ?_⟩
    · rw [show ((i + 1 : Nat) : Int) = (i : Int) + 1 by omega]
      exact he2
    · have : b < s.heap.objs.size := by
        rw [List.mem_cons, List.mem_singleton] at hb
        rcases hb with rfl | rfl
        · exact be
        · exact bi
      rw [upd_ne (Nat.ne_of_lt this)]
      exact (hf b hb).1
  done := by
    rintro X rfl rfl rfl hc i pins s σ H E I hf ⟨⟨old, he⟩, hi, ne⟩ ⟨xs, hq, hx⟩
    obtain ⟨its, rv, ⟨ot, hot, cot, rt⟩, hz⟩ := I.tuple hq
    have ll := rv.length
    have out : its.toArray[i]? = none := by
      rw [Array.getElem?_eq_none_iff]
      show its.length ≤ i
      omega
    have D : Draws X.prog X.w X.A.in1 it [it, a] 0 (fun _ _ => True) (fun _ h => h.IsTupleIter it a i ∧ h.IsTuple a its.toArray) :=
      { live := fun _ _ st => by
          obtain ⟨⟨o, ho, _⟩, _⟩ := st
          exact ⟨o, ho⟩
        frame := fun _ _ _ st k => ⟨st.1.at fun o q => k it (by simp) o q, st.2.at fun o q => k a (by simp) o q⟩
        item := fun j _ _ _ lt => absurd lt (Nat.not_lt_zero _)
        done := fun t Q E' st q => wpAny_nextOf_tuple_end (I.ok.hd hc) st.1 st.2 out q }
    obtain ⟨f0, f1, f2, f3, f4, f5⟩ := hf it (by simp)
    exact wpAny_pyNext_enum_endD D he ⟨hi, ⟨ot, hot, cot, rt⟩⟩ fun h2 eb => ⟨rfl, I.turned (t' := s.toks) (fun b o nb q => eb b o nb q) f0 f1 f3 f4 f5⟩
def iEnumT (K : PySem.W.Frag) (ta : TA) : TI := fun σ H R => ta σ H fun vs H1 => ∃ a xs, vs = [.ref a] ∧ SqT K H1 a xs ∧ R (IteT K a) H1
theorem pi_enumT {X : Cx} {e : Expr} {ta : TA} {p pos tpos : Pos} {elts : List Expr} {kk : Nat} (hg : Gl X "enumerate") (hm : X.mg "enumerate" = none) (ha : PA X [e] ta) (hs : starEach [e] X.env = [(false, eval e X.env)] := by rfl) :
    PI X (.Tuple elts kk tpos) (.Call (.Name "enumerate" p) [e] [] pos) (iEnumT X.K ta) := by
  constructor
  intro pins s σ H R I h
  refine Call_ (ld_blt I hg hm boot_enumerate (PyProof.Rows.callWith_type1 (thn (ha.run pos pins s σ H _ I h) ?_) hs rfl))
  rintro us s1 ⟨vs, H1, I1, r1, a, xs, rfl, hq, q⟩
  obtain ⟨u, rfl⟩ : ∃ u, us = [u] := by
    cases r1 with
    | cons r rr => cases rr; exact ⟨_, rfl⟩
  obtain rfl : u = Value.ref a := by
    cases r1 with
    | cons r rr => exact r
  obtain ⟨its, rv, tt, hz⟩ := I1.tuple hq
  refine enum_called (begins_tuple a its.toArray) tt fun h2 he hi hk => wpAny_pyIter_enum he ?_
  have I2 : Inv X pins σ H1 { s1 with heap := h2 } := I1.kept (t' := s1.toks) hk
  refine ⟨_, [s1.heap.objs.size + 1, s1.heap.objs.size], _, _, H1, rfl, I2, enum_turn a _ s1.heap.objs.size, ⟨⟨.none, he⟩, ⟨_, hi, rfl, rfl⟩, Nat.succ_ne_self _⟩, fun b hb => ?_, q⟩
  have nb : s1.heap.objs.size ≤ b := by
    rw [List.mem_cons, List.mem_singleton] at hb
    rcases hb with z | z
    · rw [z]
      exact Nat.le_succ _
    · rw [z]
      exact Nat.le_refl _
  exact I1.fpOk nb (I1.hok.fresh nb)
/-- for i, x in enumerate(a tuple) -/
theorem for_enumT {K : PySem.W.Frag} {a : Addr} {xs : List V} {g : TG} {tb : TS} {D : Ends} {σ : L2.St} {H : Hp} (Pv : Nat → L2.St → Hp → Prop) (h0 : Pv 0 σ H) (hq : ∀ i σ H, Pv i σ H → SqT K H a xs)
    (hs : ∀ (i : Nat) (x : V) (T : Addr) (σ : L2.St) (H : Hp), xs[i]? = some x → Pv i σ H → H T = none → g (.ref T) σ (L2.upd H T (.tup [.int (i : Nat), x])) fun σ2 H2 => tb { D with nx := Pv (i + 1), ct := Pv (i + 1), bk := D.nx } σ2 H2)
    (hd : ∀ σ H, Pv xs.length σ H → D.nx σ H) :
    ∃ W : Nat → Nat → L2.St → Hp → Prop, (∃ m, W 0 m σ H) ∧ ∀ i m σ H, W i m σ H →
      ((IteT K a).stop i H ∧ D.nx σ H) ∨ ((IteT K a).go i H ∧ ∃ N : L2.St → Hp → Prop, (∀ σ' H', N σ' H' → ∃ m', m' < m ∧ W (i + 1) m' σ' H') ∧
        ∀ v H', (IteT K a).yld i H v H' → g v σ H' fun σ2 H2 => tb { D with nx := N, ct := N, bk := D.nx } σ2 H2) := by
  refine ⟨fun i m σ H => m = xs.length - i ∧ i ≤ xs.length ∧ Pv i σ H, ⟨xs.length, rfl, Nat.zero_le _, h0⟩, ?_⟩
  rintro i m σ H ⟨rfl, hi, p⟩
  have q := hq i σ H p
  by_cases h : i < xs.length
  · refine .inr ⟨⟨xs, xs[i], q, List.getElem?_eq_getElem h⟩, Pv (i + 1), fun σ' H' p' => ⟨xs.length - (i + 1), by omega, rfl, h, p'⟩, ?_⟩
    rintro v H' ⟨T, x, rfl, hT, rfl, f⟩
    exact hs i x T σ H (f xs q) p hT
  · obtain rfl : i = xs.length := by omega
    exact .inl ⟨⟨xs, q, Nat.le_refl _⟩, hd σ H p⟩
theorem pi_tupK {X : Cx} {K : PySem.W.Frag} {tg l : Expr} {tl : TE} (hK : X.K = K) (hl : PE X l tl) : PI X tg l (iTup K tl) := by subst hK; exact pi_tup hl
end Lb

set_option Elab.async false
set_option linter.all false
set_option maxRecDepth 100000
set_option maxHeartbeats 4000000
namespace Lb
open PySem L2
/-- all but lists is kept -/
def NL (H H' : Hp) : Prop := ∀ b o, (∀ l, o ≠ HO.lst l) → H b = some o → H' b = some o
theorem NL.trans {H H1 H2 : Hp} (h : NL H H1) (k : NL H1 H2) : NL H H2 := fun b o n e => k b o n (h b o n e)
theorem NL.of {H H1 : Hp} (h : L2.Same H H1) : NL H H1 := fun b o _ e => h b o e
theorem NL.refl {H : Hp} : NL H H := fun _ _ _ e => e
theorem NL.mov {p : Addr} {H H1 : Hp} (m : Mov p H H1) (hp : PotAt H p) : NL H H1 := fun b o n e => m.keep b o (fun z => by
  obtain ⟨x, y, q, _⟩ := hp
  rw [z, q] at e
  exact n _ (Option.some.inj e).symm) e
theorem NL.upd {H : Hp} {l : Addr} {ys : List V} {o : HO} (h : H l = some (.lst ys)) : NL H (L2.upd H l o) := fun b u n e => by
  have : b ≠ l := fun z => by
    rw [z, h] at e
    exact n _ (Option.some.inj e).symm
  rw [upd_ne this]
  exact e
theorem Mov.updl {p l : Addr} {H H' : Hp} {o : HO} (m : Mov p H H') (h : H l = none) (n : l ≠ p) : Mov p H (L2.upd H' l o) := by
  refine ⟨fun b u nb e => ?_, ?_⟩
  · rw [upd_ne (ne_of_none e h)]
    exact m.keep b u nb e
  · obtain ⟨x, y, q, z⟩ := m.pot
    exact ⟨x, y, by rw [upd_ne (Ne.symm n)]; exact q, z⟩
theorem Same.free {H H' : Hp} {b : Addr} (s : L2.Same H H') (h : H' b = none) : H b = none := by
  cases z : H b with
  | none => rfl
  | some o =>
    rw [s b o z] at h
    cases h
theorem Fr.nl {p : Addr} {H H' : Hp} {t b : Int} (h : Fr H p t b) (s : NL H H') : Fr H' p t b := s _ _ (fun _ z => nomatch z) h
theorem eqv2 (x y : Int) : PyData.eqv (.list [.int x, .int y]) (.list [.int 0, .int 0]) = (decide (x = 0) && decide (y = 0)) := by
  simp only [PyData.eqv, PyData.eqvAll, Bool.and_true]
  rfl
end Lb

set_option Elab.async false
set_option linter.all false
set_option maxRecDepth 100000
set_option maxHeartbeats 4000000
/-! == of lists and tuples whose items have an own ==: either answer -/
namespace LbE
open PySem PySem.SeqAt
open AutoSeq1 (wpAny_loadPart')
open MeetsSeq MeetsSeq2 MeetsSeq3 SeqRoads2
open GQ (FinOf call_here)
section
variable {prog : Program} {w : World} {A : Around} {R : Result → Shared → Prop}
/-- at each moment the two lists are read anew: N items each; how the i-th two compare -/
def ListB (prog : Program) (w : World) (A : Around) (E : Value → Shared → Prop) (l b : Addr) (N : Nat) (e : Nat → Bool) (I : Shared → Prop) : Prop :=
  ∀ s, I s → ∃ (items items2 : Array Value) (n n2 : Nat), s.heap.get? l = some { cls := .type "list", data := .seq items n } ∧ s.heap.get? b = some { cls := .type "list", data := .seq items2 n2 } ∧ items.size = N ∧ items2.size = N ∧
    ∀ (i : Nat) (h1 : i < items.size) (h2 : i < items2.size), wpAny (model prog w) A.in1 (eqBool items[i] items2[i]) (fun r s' => r = e i ∧ I s') E s
theorem eq_loopB (l b : Addr) (N : Nat) (e : Nat → Bool) (I : Shared → Prop) (hl : ListB prog w A (fun e s' => R (.error e) s') l b N e I) (k : Nat) :
    ∀ i : Nat, N - i = k → i ≤ N → (∀ s, I s → R (.ok (.ret (.bool (((List.range N).drop i).all e)))) s) → ∀ s, I s →
      wpAny (model prog w) A.in1 (Builtin.«list.__eq__.loop» ⟨[.ref l, .ref b, rawInt i, rawInt 2], []⟩) (FinOf prog w A R) (fun e s' => R (.error e) s') s := by
  induction k with
  | zero =>
    intro i hk hi fin s h
    obtain ⟨items, items2, n, n2, hl1, hb1, hs1, hs2, _⟩ := hl _ h
    have hi' : i = N := by omega
    have hd : (List.range N).drop i = [] := by simp; omega
    have hR := fin s h
    rw [hd] at hR
    obtain ⟨hp, g, d, tk, os⟩ := s
    wp_walk using wpAny_loadPart' hl1, wpAny_loadPart' hb1
    have hi1 : items[((i : Nat) : Int).toNat]? = none := by simp; omega
    have hi2 : items2[((i : Nat) : Int).toNat]? = none := by simp; omega
    rw [hi1, hi2]
    wp_walk using wpAny_loadPart' hl1, wpAny_loadPart' hb1
    show R (.ok (.ret (.bool (items.size == items2.size)))) _
    rw [hs1, hs2]
    simpa using hR
  | succ k ih =>
    intro i hk hi fin s h
    obtain ⟨items, items2, n, n2, hl1, hb1, hs1, hs2, turn⟩ := hl _ h
    have hlt : i < items.size := by omega
    have hlt2 : i < items2.size := by omega
    have ht := turn i hlt hlt2
    have hd : (List.range N).drop i = i :: (List.range N).drop (i + 1) := by
      rw [List.drop_eq_getElem_cons (by rw [List.length_range]; omega)]
      simp
    rw [hd] at fin
    obtain ⟨hp, g, d, tk, os⟩ := s
    wp_walk using wpAny_loadPart' hl1, wpAny_loadPart' hb1
    have hi1 : items[((i : Nat) : Int).toNat]? = some items[i] := by simp [hlt]
    have hi2 : items2[((i : Nat) : Int).toNat]? = some items2[i] := by simp [hlt2]
    have hc : ((i : Int) + 1) = ((i + 1 : Nat) : Int) := by omega
    rw [hi1, hi2]
    refine wpAny_bind (wpAny_mono ht (fun r s2 h2 => ?_) fun _ _ x => x)
    obtain ⟨hr, h2⟩ := h2
    subst hr
    cases hb' : e i with
    | true =>
      have hrec := ih (i + 1) (by omega) (by omega) (fun s hs => by
        have := fin s hs
        rw [List.all_cons, hb'] at this
        simpa using this) s2 h2
      obtain ⟨hp2, g2, d2, tk2, os2⟩ := s2
      wp_walk
      rw [hc]
      exact ⟨plainId_quiet plain_eq_loop _, codeAny_builtin entry_eq_loop (by
        rw [Around.under_plainId plain_eq_loop _]
        exact hrec)⟩
    | false =>
      have hR := fin s2 h2
      rw [List.all_cons, hb'] at hR
      obtain ⟨items3, items4, n3, n4, hl3, hb3, hs3, hs4, _⟩ := hl _ h2
      obtain ⟨hp2, g2, d2, tk2, os2⟩ := s2
      wp_walk using wpAny_loadPart' hl3, wpAny_loadPart' hb3
      have hi3 : items3[((i : Nat) : Int).toNat]? = some (items3[i]'(by omega)) := by simp [show i < items3.size by omega]
      have hi4 : items4[((i : Nat) : Int).toNat]? = some (items4[i]'(by omega)) := by simp [show i < items4.size by omega]
      rw [hi3, hi4]
      wp_walk
      simpa using hR
theorem list_eqB (l b : Addr) (N : Nat) (e : Nat → Bool) (I : Shared → Prop) (hl : ListB prog w A (fun e s' => R (.error e) s') l b N e I)
    (fin : ∀ s, I s → R (.ok (.ret (.bool ((List.range N).all e)))) s) {s : Shared} (h : I s) :
    wpAny (model prog w) A.in1 (Builtin.«list.__eq__» ⟨[.ref l, .ref b], []⟩) (FinOf prog w A R) (fun e s' => R (.error e) s') s := by
  obtain ⟨items, items2, n, n2, hl1, hb1, hs1, hs2, _⟩ := hl _ h
  have hrec := eq_loopB (A := A) (R := R) l b N e I hl _ 0 rfl (Nat.zero_le _) (by simpa using fin) s h
  obtain ⟨hp, g, d, tk, os⟩ := s
  have f3 := AutoSeq1.sub_list_list
  have hne : ¬ (items.size != items2.size) = true := by simp [hs1, hs2]
  wp_walk using wpAny_loadPart' hl1, wpAny_loadPart' hb1
  exact ⟨plainId_quiet plain_eq_loop _, codeAny_builtin entry_eq_loop (by
    rw [Around.under_plainId plain_eq_loop _]
    exact hrec)⟩
theorem list_neB (l b : Addr) {items items2 : Array Value} {n n2 : Nat} {s : Shared} (hl1 : s.heap.get? l = some { cls := .type "list", data := .seq items n }) (hb1 : s.heap.get? b = some { cls := .type "list", data := .seq items2 n2 }) (hs : items.size ≠ items2.size)
    (fin : R (.ok (.ret (.bool false))) s) :
    wpAny (model prog w) A.in1 (Builtin.«list.__eq__» ⟨[.ref l, .ref b], []⟩) (FinOf prog w A R) (fun e s' => R (.error e) s') s := by
  obtain ⟨hp, g, d, tk, os⟩ := s
  have f3 := AutoSeq1.sub_list_list
  have hne : (items.size != items2.size) = true := by simp [hs]
  wp_walk using wpAny_loadPart' hl1, wpAny_loadPart' hb1
  exact fin
theorem tuple_eqB (l b : Addr) (items items2 : Array Value) (n n2 : Nat) (dd dd2 : Option Addr) (sl sl2 : Array (Option Value)) (hsz : items.size = items2.size) (e : Nat → Bool) (I : Shared → Prop)
    (turn : ∀ i (h1 : i < items.size) (h2 : i < items2.size) s, I s → wpAny (model prog w) A.in1 (eqBool items[i] items2[i]) (fun r s' => r = e i ∧ I s') (fun e s' => R (.error e) s') s)
    (fin : ∀ s, I s → R (.ok (.ret (.bool ((List.range items.size).all e)))) s) {s : Shared} (hl1 : s.heap.get? l = some { cls := .type "tuple", dict := dd, data := .seq items n, slots := sl }) (hb1 : s.heap.get? b = some { cls := .type "tuple", dict := dd2, data := .seq items2 n2, slots := sl2 }) (h : I s) :
    wpAny (model prog w) A.in1 (Builtin.«tuple.__eq__» ⟨[.ref l, .ref b], []⟩) (FinOf prog w A R) (fun e s' => R (.error e) s') s := by
  have f2 := AutoSeq1.sub_tuple_tuple
  have hZ : (items.toList.zip items2.toList).length = items.size := by simp [hsz]
  have h0 := h
  obtain ⟨hp, g, d, tk, os⟩ := s
  wp_walk using wpAny_loadPart' hl1, wpAny_loadPart' hb1, wpAny_forIn_list _ (fun rest b s' => I s' ∧ ∃ i, i ≤ items.size ∧ ((b.1 = none ∧ rest = (items.toList.zip items2.toList).drop i ∧ ((List.range items.size).take i).all e = true))) _
  case turn =>
    rintro ⟨y, x⟩ rest b s' ⟨hI, i, hi, hb', hz, hall⟩
    have hlt : i < (items.toList.zip items2.toList).length := by
      rcases Nat.lt_or_ge i (items.toList.zip items2.toList).length with h' | h'
      · exact h'
      · rw [List.drop_of_length_le h'] at hz; cases hz
    have h1 : i < items.size := hZ ▸ hlt
    have h2 : i < items2.size := hsz ▸ h1
    rw [List.drop_eq_getElem_cons hlt] at hz
    injection hz with hyx hrest
    have hy : y = items[i] := by have := congrArg Prod.fst hyx; simpa using this
    have hx : x = items2[i] := by have := congrArg Prod.snd hyx; simpa using this
    subst hy hx
    refine wpAny_bind (wpAny_mono (turn i h1 h2 s' hI) (fun r s2 q2 => ?_) fun _ _ x => x)
    obtain ⟨hr, q2⟩ := q2
    subst hr
    cases he : e i with
    | true =>
      wp_walk
      refine ⟨q2, i + 1, h1, rfl, hrest, ?_⟩
      rw [List.take_succ, List.all_append, hall, List.getElem?_range h1]
      simp [he]
    | false =>
      have hR : R (.ok (.ret (.bool false))) s2 := by
        have := fin s2 q2
        have e1 : (List.range items.size).all e = false := List.all_eq_false.mpr ⟨i, List.mem_range.mpr h1, by simp [he]⟩
        rw [e1] at this
        exact this
      wp_walk
      exact hR
  case fin =>
    rintro ⟨b1, b2⟩ s' ⟨hI, i, hi, hb', hz, hall⟩
    simp only at hb'
    subst hb'
    have hge : items.size ≤ i := by
      rcases Nat.lt_or_ge i (items.toList.zip items2.toList).length with h' | h'
      · rw [List.drop_eq_getElem_cons h'] at hz; cases hz
      · exact hZ ▸ h'
    have hi' : i = items.size := by omega
    have e1 : (List.range items.size).all e = true := by
      rw [hi', List.take_of_length_le (by simp)] at hall
      exact hall
    have hR : R (.ok (.ret (.bool true))) s' := by
      have := fin s' hI
      rw [e1] at this
      exact this
    wp_walk
    simpa [Builtin.Tuple.tupleCompareSizes, hsz] using hR
  case h =>
    exact ⟨h0, 0, Nat.zero_le _, rfl, rfl, rfl⟩
end
section
variable {prog : Program} {w : World} {A : Around} {E : Value → Shared → Prop} {s : Shared}
theorem rc_listB {l b : Addr} {N : Nat} {e : Nat → Bool} {Q : Value → Shared → Prop} (hu : A.units < cLine) (I : Shared → Prop) (hl : ListB prog w A E l b N e I)
    (fin : ∀ s, I s → Q (.bool ((List.range N).all e)) s) (h : I s) : wpAny (model prog w) A (richCompare .Eq (.ref l) (.ref b)) Q E s := by
  obtain ⟨items, items2, n, n2, hl1, hb1, _, _, _⟩ := hl _ h
  refine wpAny_richCompare_same_room (op := .Eq) ⟨_, hl1, rfl⟩ ⟨_, hb1, rfl⟩ F.slot_list_eq (call_here F.slot_list_eq ⟨_, hl1, rfl⟩ F.entry_list_eq (F.args_list_eq_2 _ _) ?_) hu
  exact list_eqB (R := wants (fun v s' => v ≠ .notImplemented ∧ Q v s') E) l b N e I hl (fun s' q => ⟨(fun x => nomatch x), fin s' q⟩) h
theorem rc_listN {l b : Addr} {items items2 : Array Value} {n n2 : Nat} {Q : Value → Shared → Prop} (hu : A.units < cLine) (hl1 : s.heap.get? l = some { cls := .type "list", data := .seq items n }) (hb1 : s.heap.get? b = some { cls := .type "list", data := .seq items2 n2 }) (hs : items.size ≠ items2.size)
    (fin : Q (.bool false) s) : wpAny (model prog w) A (richCompare .Eq (.ref l) (.ref b)) Q E s := by
  refine wpAny_richCompare_same_room (op := .Eq) ⟨_, hl1, rfl⟩ ⟨_, hb1, rfl⟩ F.slot_list_eq (call_here F.slot_list_eq ⟨_, hl1, rfl⟩ F.entry_list_eq (F.args_list_eq_2 _ _) ?_) hu
  exact list_neB (R := wants (fun v s' => v ≠ .notImplemented ∧ Q v s') E) l b hl1 hb1 hs ⟨(fun x => nomatch x), fin⟩
theorem rc_tupB {l b : Addr} {items items2 : Array Value} {Q : Value → Shared → Prop} {e : Nat → Bool} (hsz : items.size = items2.size) (hu : A.units < cLine) (I : Shared → Prop)
    (hl : s.heap.IsTuple l items) (hb : s.heap.IsTuple b items2)
    (turn : ∀ i (h1 : i < items.size) (h2 : i < items2.size) s, I s → wpAny (model prog w) A.in1 (eqBool items[i] items2[i]) (fun r s' => r = e i ∧ I s') E s)
    (fin : ∀ s, I s → Q (.bool ((List.range items.size).all e)) s) (h : I s) : wpAny (model prog w) A (richCompare .Eq (.ref l) (.ref b)) Q E s := by
  obtain ⟨⟨cls, dd, data, sl⟩, ho, hc, n, hd⟩ := id hl
  obtain ⟨⟨cls2, dd2, data2, sl2⟩, ho2, hc2, n2, hd2⟩ := id hb
  simp only at hc hd hc2 hd2
  subst hc hd hc2 hd2
  refine wpAny_richCompare_same_room (op := .Eq) ⟨_, ho, rfl⟩ ⟨_, ho2, rfl⟩ F.slot_tuple_eq (call_here F.slot_tuple_eq ⟨_, ho, rfl⟩ F.entry_tuple_eq (F.args_tuple_eq_2 _ _) ?_) hu
  exact tuple_eqB (R := wants (fun v s' => v ≠ .notImplemented ∧ Q v s') E) l b items items2 n n2 dd dd2 sl sl2 hsz e I turn (fun s' q => ⟨(fun x => nomatch x), fin s' q⟩) ho ho2 h
end
end LbE
namespace Lb
open PySem PySem.Spec PyProof.Rows L2
/-- how two values compare, by the abstract heap -/
abbrev EqvB := V → V → Hp → Bool → Prop
def MonB (D : EqvB) : Prop := ∀ x y H H' c, Ext H H' → D x y H c → D x y H' c
def EqGB (X : Cx) (n : Nat) (D : EqvB) : Prop :=
  ∀ (A : Around) (pins : List (Addr × Obj)) (s : Shared) (σ : L2.St) (H : Hp) (x y : V) (u v : Value) (c : Bool), L2.Sub X n A → Inv X pins σ H s → RelV x u → RelV y v → D x y H c →
    wpAny (model X.prog X.w) A (eqBool u v) (fun r s' => r = c ∧ ∃ H', Inv X pins σ H' s' ∧ Ext H H') X.xe s
def RcGB (X : Cx) (n : Nat) (D : EqvB) : Prop :=
  ∀ (A : Around) (pins : List (Addr × Obj)) (s : Shared) (σ : L2.St) (H : Hp) (x y : V) (u v : Value) (c : Bool), L2.Sub X n A → Inv X pins σ H s → RelV x u → RelV y v → D x y H c →
    wpAny (model X.prog X.w) A (richCompare .Eq u v) (fun r s' => r = .bool c ∧ ∃ H', Inv X pins σ H' s' ∧ Ext H H') X.xe s
section
variable {X : Cx} {n m : Nat} {D D' : EqvB}
theorem EqGB.mono (h : EqGB X n D) (hn : n ≤ m) : EqGB X m D := fun A pins s σ H x y u v c sb => h A pins s σ H x y u v c (sb.mono hn)
theorem EqGB.or (h : EqGB X n D) (h' : EqGB X n D') : EqGB X n (fun x y H c => D x y H c ∨ D' x y H c) := fun A pins s σ H x y u v c sb I rx ry d => by
  rcases d with d | d
  · exact h A pins s σ H x y u v c sb I rx ry d
  · exact h' A pins s σ H x y u v c sb I rx ry d
theorem MonB.or (h : MonB D) (h' : MonB D') : MonB (fun x y H c => D x y H c ∨ D' x y H c) := fun x y H H' c e d => d.elim (fun d => .inl (h x y H H' c e d)) fun d => .inr (h' x y H H' c e d)
/-- item by item -/
structure PrsB (D : EqvB) (xs ys : List V) (H : Hp) (e : Nat → Bool) : Prop where
  len : xs.length = ys.length
  at_ : ∀ (i : Nat) x y, xs[i]? = some x → ys[i]? = some y → D x y H (e i)
theorem PrsB.mon (hD : MonB D) {xs ys : List V} {H H' : Hp} {c : Nat → Bool} (e : Ext H H') (p : PrsB D xs ys H c) : PrsB D xs ys H' c := ⟨p.len, fun i x y h1 h2 => hD x y H H' _ e (p.at_ i x y h1 h2)⟩
theorem turnB (hD : MonB D) (h : EqGB X n D) {A : Around} (sb : L2.Sub X (n + 1) A) {pins : List (Addr × Obj)} {σ : L2.St} {H : Hp} {xs ys : List V} {its its2 : List Value} {e : Nat → Bool} (p : PrsB D xs ys H e) (r : Vals xs its) (r2 : Vals ys its2)
    (i : Nat) (h1 : i < its.toArray.size) (h2 : i < its2.toArray.size) (s' : Shared) (l : LoopI X pins σ H s') :
    wpAny (model X.prog X.w) A.in1 (eqBool its.toArray[i] its2.toArray[i]) (fun r s2 => r = e i ∧ LoopI X pins σ H s2) X.xe s' := by
  obtain ⟨H1, I1, e1⟩ := l
  have g1 : its[i]? = some its.toArray[i] := by
    have h1' : i < its.length := by simpa using h1
    rw [List.getElem?_eq_getElem h1'] <;> simp
  have g2 : its2[i]? = some its2.toArray[i] := by
    have h2' : i < its2.length := by simpa using h2
    rw [List.getElem?_eq_getElem h2'] <;> simp
  have k1 : i < xs.length := by rw [r.length]; simpa using h1
  have k2 : i < ys.length := by rw [r2.length]; simpa using h2
  obtain ⟨u, hu, ru⟩ := r.get (List.getElem?_eq_getElem k1)
  obtain ⟨v, hv, rv⟩ := r2.get (List.getElem?_eq_getElem k2)
  rw [g1] at hu
  rw [g2] at hv
  rw [Option.some.inj hu, Option.some.inj hv]
  refine wpAny_mono (h A.in1 pins s' σ H1 _ _ u v _ sb.in1 I1 ru rv (hD _ _ _ _ _ e1 (p.at_ i _ _ (List.getElem?_eq_getElem k1) (List.getElem?_eq_getElem k2)))) (fun r s2 q => ?_) fun _ _ x => x
  obtain ⟨hr, H2, I2, e2⟩ := q
  exact ⟨hr, H2, I2, e1.trans e2⟩
def DListB (D : EqvB) : EqvB := fun x y H c => ∃ a b xs ys, x = .ref a ∧ y = .ref b ∧ H a = some (.lst xs) ∧ H b = some (.lst ys) ∧ ((xs.length ≠ ys.length ∧ c = false) ∨ ∃ e, PrsB D xs ys H e ∧ c = (List.range xs.length).all e)
def DTupB (K : PySem.W.Frag) (D : EqvB) : EqvB := fun x y H c => ∃ a b xs ys e, x = .ref a ∧ y = .ref b ∧ SqT K H a xs ∧ SqT K H b ys ∧ PrsB D xs ys H e ∧ c = (List.range xs.length).all e
theorem mon_listB (hD : MonB D) : MonB (DListB D) := fun x y H H' c e d => by
  obtain ⟨a, b, xs, ys, hx, hy, h1, h2, p⟩ := d
  exact ⟨a, b, xs, ys, hx, hy, e _ _ h1, e _ _ h2, p.imp id fun ⟨f, p, q⟩ => ⟨f, p.mon hD e, q⟩⟩
theorem mon_tupB {K : PySem.W.Frag} (hD : MonB D) : MonB (DTupB K D) := fun x y H H' c e d => by
  obtain ⟨a, b, xs, ys, f, hx, hy, h1, h2, p, q⟩ := d
  exact ⟨a, b, xs, ys, f, hx, hy, L2.SqT.ext h1 e, L2.SqT.ext h2 e, p.mon hD e, q⟩
theorem rcGB_list (hD : MonB D) (h : EqGB X n D) : RcGB X (n + 1) (DListB D) := by
  intro A pins s σ H x y u v c sb I rx ry d
  obtain ⟨a, b, xs, ys, rfl, rfl, ha, hb, p⟩ := d
  cases rx
  cases ry
  rcases p with ⟨hne, rfl⟩ | ⟨f, p, rfl⟩
  · obtain ⟨z, its, k, r, e⟩ := I.hok a _ ha
    obtain ⟨z2, its2, k2, r2, e2⟩ := I.hok b _ hb
    refine LbE.rc_listN sb.room.units0 e e2 ?_ ⟨rfl, H, I, Ext.rfl'⟩
    rw [List.size_toArray, List.size_toArray, ← r.length, ← r2.length]
    exact hne
  · refine LbE.rc_listB (N := xs.length) (e := f) sb.room.units0 (fun s' => LoopI X pins σ H s') (fun s' q => ?_) (fun s' q => ⟨rfl, q⟩) ⟨H, I, Ext.rfl'⟩
    obtain ⟨H1, I1, e1⟩ := id q
    obtain ⟨z, its, k, r, e⟩ := I1.hok a _ (e1 _ _ ha)
    obtain ⟨z2, its2, k2, r2, e2⟩ := I1.hok b _ (e1 _ _ hb)
    refine ⟨its.toArray, its2.toArray, k, k2, e, e2, by rw [List.size_toArray, ← r.length], by rw [List.size_toArray, ← r2.length, ← p.len], fun i h1 h2 => ?_⟩
    exact turnB hD h sb p r r2 i h1 h2 s' q
theorem rcGB_tup (hD : MonB D) (h : EqGB X n D) : RcGB X (n + 1) (DTupB X.K D) := by
  intro A pins s σ H x y u v c sb I rx ry d
  obtain ⟨a, b, xs, ys, f, rfl, rfl, ha, hb, p, rfl⟩ := d
  cases rx
  cases ry
  obtain ⟨its, r, e, z⟩ := I.tuple ha
  obtain ⟨its2, r2, e2, z2⟩ := I.tuple hb
  have hsz : its.toArray.size = its2.toArray.size := by rw [List.size_toArray, List.size_toArray, ← r.length, ← r2.length]; exact p.len
  refine LbE.rc_tupB (e := f) hsz sb.room.units0 (fun s' => LoopI X pins σ H s') e e2 (fun i h1 h2 s' q => turnB hD h sb p r r2 i h1 h2 s' q) (fun s' q => ?_) ⟨H, I, Ext.rfl'⟩
  rw [List.size_toArray, ← r.length]
  exact ⟨rfl, q⟩
/-- from a rich comparison of references to == inside a list or tuple: the same object is equal to itself -/
theorem RcGB.eqG (h : RcGB X n D) (hr : ∀ x y H c, D x y H c → ∃ a b, x = .ref a ∧ y = .ref b ∧ (a = b → c = true)) : EqGB X n D := by
  intro A pins s σ H x y u v c sb I rx ry d
  obtain ⟨a, b, rfl, rfl, hs⟩ := hr _ _ _ _ d
  cases rx
  cases ry
  by_cases hab : a = b
  · obtain rfl := hs hab
    subst hab
    exact SeqAt.EqAt.same (A := A) (s := s) (.ref a) X.prog X.w X.xe _ ⟨rfl, H, I, Ext.rfl'⟩
  · refine GQ.eqBool_refG hab (wpAny_mono (h A pins s σ H (.ref a) (.ref b) _ _ c sb I rfl rfl d) (fun r s' q => ?_) fun _ _ x => x)
    obtain ⟨hr', q⟩ := q
    exact ⟨c, hr', rfl, q⟩
/-- instances of the class at C with the text's own == -/
def DInsB (C : Addr) (R : Addr → Addr → Hp → Bool → Prop) : EqvB := fun x y H c => ∃ a b dx dy fs gs, x = .ref a ∧ y = .ref b ∧ H a = some (.ins C dx fs) ∧ H b = some (.ins C dy gs) ∧ R a b H c
theorem mon_insB {C : Addr} {R : Addr → Addr → Hp → Bool → Prop} (hR : ∀ a b H H' c, Ext H H' → R a b H c → R a b H' c) : MonB (DInsB C R) := fun x y H H' c e d => by
  obtain ⟨a, b, dx, dy, fs, gs, hx, hy, h1, h2, r⟩ := d
  exact ⟨a, b, dx, dy, fs, gs, hx, hy, e _ _ h1, e _ _ h2, hR a b H H' c e r⟩
theorem rcGB_ins {CX : CXT} {C f : Addr} {fd : FuncData} {ps : List Str} {sp : Sp} {R : Addr → Addr → Hp → Bool → Prop} {E : XK} (F : FnOk X.prog X.w X.K X.mg X.base CX n f fd ps sp)
    (hR : ∀ a b H c, R a b H c → ∀ Q : VK, (∀ H', Ext H H' → Q (.bl c) H') → sp [.ref a, .ref b] H Q E)
    (hs : PySem.W.findIn X.K (.ref C) "__eq__" = some (some (.ref f))) (hf : PySem.W.isFn X.K (.ref f) = true) (hb : Binds X.K fd ps []) (hx : Passes CX X E) : RcGB X n (DInsB C R) := by
  intro A pins s σ H x y u v c sb I rx ry d
  obtain ⟨a, b, dx, dy, fs, gs, rfl, rfl, ha, hb', hr⟩ := d
  cases rx
  cases ry
  obtain ⟨mA, J, _⟩ := ins_get I.hok ha
  obtain ⟨mB, J', _⟩ := ins_get I.hok hb'
  obtain ⟨od, J, _⟩ := J.look
  obtain ⟨od', J', _⟩ := J'.look
  obtain ⟨m, hF⟩ := I.fr
  refine PySem.W.cmp_K (op := .Eq) (tb := .ref C) sb.room.units0 hF I.ok.mod.kin J J'.type (by simp [PySem.W.notFirst]) hs hf ?_
  have hsp := hR a b H c hr (fun v H' => v = .bl c ∧ Ext H H') fun H' e => ⟨rfl, e⟩
  have e0 : Env0 X.prog X.w X.K X.mg X.base A X.stack s H := by
    have e := I.env0
    exact ⟨by rw [sb.fr]; exact e.frames, e.mod, e.bs, e.bsz, e.funs, e.frf, e.hok, e.bare⟩
  have hl := F.len _ _ _ _ hsp
  have r2 : Vals [V.ref a, V.ref b] [Value.ref a, Value.ref b] := .cons rfl (.cons rfl .nil)
  refine wpAny_call (codeAny_mono (F.run A X.stack s H ⟨[.ref a, .ref b], []⟩ [.ref a, .ref b] [.ref a, .ref b] _ E sb.room e0 (by
    have := hb s [.ref a, .ref b] I.kIn (by simpa using hl)
    simpa using this) r2 hsp) fun r s' hq => ?_)
  cases r with
  | error e => exact hx pins σ H s e s' I hq
  | ok fl =>
    cases fl with
    | ret w =>
      obtain ⟨z, H', I', rz, ez, ex⟩ := I.after hq
      subst ez
      cases rz
      exact ⟨rfl, H', I', ex⟩
    | next => exact False.elim hq
    | brk => exact False.elim hq
    | cont => exact False.elim hq
/-- x == y as an expression -/
def rEqGB (D : EqvB) : R2 := fun x y H Q => ∃ c, D x y H c ∧ ∀ H', Ext H H' → Q (.bl c) H'
theorem op_eqGB (h : RcGB X n D) (hr : Room n X.A) : OpR X (compareOp .Eq) (rEqGB D) := by
  intro pins s σ H x y v u Q I rx ry hq
  obtain ⟨c, d, q⟩ := hq
  show wpAny (model X.prog X.w) X.A (richCompare .Eq v u) (EP X pins σ Q) X.xe s
  refine wpAny_mono (h X.A pins s σ H x y v u c ⟨hr, rfl⟩ I rx ry d) (fun r s' z => ?_) fun _ _ x => x
  obtain ⟨hr', H', I', e⟩ := z
  subst hr'
  exact ⟨.bl c, H', I', rfl, q H' e⟩
end
end Lb

set_option Elab.async false
set_option linter.all false
set_option maxRecDepth 100000
set_option maxHeartbeats 4000000
/-! list(zip(a, b)): a, b two tuples or two lists -/
namespace LbZ
open PySem PyProof.Rows

section
variable {prog : Program} {w : World} {A : Around} {E : Value → Shared → Prop} {s : Shared}
/-- one step of a zip of tuples whose last pair is still held -/
theorem heldT_item {z TI TO T i1 i2 l1 l2 : Addr} {f : Bool} {oT : Obj} {k : Nat} {xs ys : Array Value} {x y : Value} {Q : Option Value → Shared → Prop} (D : ZipApart z TI TO i1 i2 l1 l2)
    (hz : IsZipHeld s.heap z TI TO T f) (hT : s.heap.get? T = some oT) (hTI : IsPair s.heap TI (.ref i1) (.ref i2))
    (j1 : s.heap.IsTupleIter i1 l1 k) (j2 : s.heap.IsTupleIter i2 l2 k) (t1 : s.heap.IsTuple l1 xs) (t2 : s.heap.IsTuple l2 ys) (hx : xs[k]? = some x) (hy : ys[k]? = some y)
    (go : ∀ h', IsZipHeld h' z TI TO T true → h'.IsTupleIter i1 l1 (k + 1) → h'.IsTupleIter i2 l2 (k + 1) → IsPair h' s.heap.objs.size x y →
      (∀ c o, c ≠ z → c ≠ i1 → c ≠ i2 → s.heap.get? c = some o → h'.get? c = some o) → Q (some (.ref s.heap.objs.size)) { s with heap := h' }) :
    wpAny (model prog w) A (pyNext (.ref z)) Q E s := by
  have ty : s.TypeIs (.ref z) "zip" := ⟨_, hz, rfl⟩
  unfold pyNext
  refine wpAny_bind (wpAny_attempt (wpAny_callSpecial?_slot (name := Str.ofString "__next__") ty F.slot_zip_next (wpAny_call_entry F.slot_zip_next ty F.entry_zip_next ?_ (F.args_zip_next_1 _))))
  show wpAny _ _ (field (.ref z) 2 >>= _) _ _ _
  refine wpAny_bind (wpAny_field hz rfl (x := .bool false) rfl ?_)
  show wpAny _ _ (field (.ref z) 3 >>= _) _ _ _
  refine wpAny_bind (wpAny_field hz rfl (x := .ref TI) rfl (wpAny_bind (wpAny_seqItems hTI rfl ?_)))
  show wpAny _ _ (Builtin.SmallTypes.ownedTupleIsFree (.ref z) >>= _) _ _ _
  refine wpAny_bind (wpAny_tupleHeld_zip hz hT fun ha za sa => ?_)
  simp only [Bool.false_eq_true, if_false]
  refine wpAny_bind ?_
  rw [← Array.forIn_toList]
  simp only [List.forIn_cons, List.forIn_nil]
  refine wpAny_bind (wpAny_bind (wpAny_holding ?_))
  show wpAny _ _ (Builtin.SmallTypes.nextOf (.ref i1) >>= _) _ _ _
  refine wpAny_bind (RZ.nextOf_tuple_item (s := { s with heap := ha }) (j1.extBut sa.extBut D.i1z) (t1.extBut sa.extBut D.l1z) hx fun hb j1b sb => wpAny_pure (wpAny_pure ?_))
  refine wpAny_bind (wpAny_bind (wpAny_holding ?_))
  show wpAny _ _ (Builtin.SmallTypes.nextOf (.ref i2) >>= _) _ _ _
  refine wpAny_bind (RZ.nextOf_tuple_item (s := { s with heap := hb }) ((j2.extBut sa.extBut D.i2z).extBut sb.extBut D.i12.symm) ((t2.extBut sa.extBut D.l2z).extBut sb.extBut D.l2i1) hy fun hc j2c sc => wpAny_pure (wpAny_pure (wpAny_pure ?_)))
  show wpAny _ _ (newTuple [x, y] >>= _) _ _ _
  refine wpAny_bind (wpAny_newTuple (wpAny_pure ⟨_, rfl, wpAny_pure ?_⟩))
  have sz : hc.objs.size = s.heap.objs.size := by rw [sc.1, sb.1, sa.1]
  have zc : IsZipHeld hc z TI TO T true := sc.extBut _ _ D.i2z.symm (sb.extBut _ _ D.i1z.symm za)
  have j1c : hc.IsTupleIter i1 l1 (k + 1) := j1b.extBut sc.extBut D.i12
  have pr : IsPair (hc.push { cls := .type "tuple", data := .seq #[x, y] }) hc.objs.size x y := Heap.get?_push_size _ rfl
  show Q (some (.ref hc.objs.size)) _
  rw [sz] at pr ⊢
  exact go _ (Heap.get?_push_of_some _ zc) (j1c.at fun o e => Heap.get?_push_of_some _ e) (j2c.at fun o e => Heap.get?_push_of_some _ e) pr
    fun c o n1 n2 n3 e => Heap.get?_push_of_some _ (sc.extBut _ _ n3 (sb.extBut _ _ n2 (sa.extBut _ _ n1 e)))
theorem heldT_end {z TI TO T i1 i2 l1 l2 : Addr} {f : Bool} {oT : Obj} {k : Nat} {xs ys : Array Value} {Q : Option Value → Shared → Prop} (hh : A.handled = none) (D : ZipApart z TI TO i1 i2 l1 l2)
    (hz : IsZipHeld s.heap z TI TO T f) (hT : s.heap.get? T = some oT) (hTI : IsPair s.heap TI (.ref i1) (.ref i2))
    (j1 : s.heap.IsTupleIter i1 l1 k) (j2 : s.heap.IsTupleIter i2 l2 k) (t1 : s.heap.IsTuple l1 xs) (t2 : s.heap.IsTuple l2 ys) (over : xs[k]? = none ∨ ys[k]? = none)
    (go : ∀ h', (∀ c o, c ≠ z → c ≠ i1 → c ≠ i2 → s.heap.get? c = some o → h'.get? c = some o) → Q none { s with heap := h' }) : wpAny (model prog w) A (pyNext (.ref z)) Q E s := by
  have ty : s.TypeIs (.ref z) "zip" := ⟨_, hz, rfl⟩
  have out : ∀ h' e, (∀ c o, c ≠ z → c ≠ i1 → c ≠ i2 → s.heap.get? c = some o → h'.get? c = some o) → (∃ o, h'.get? e = some o ∧ o.cls = .type "StopIteration") →
      wpAny (model prog w) A (do if ← isInstance (.ref e) (.type "StopIteration") then pure (none : Option Value) else throw (.ref e)) Q E { s with heap := h' } := fun h' e hk ⟨o, ho, hc⟩ =>
    wpAny_bind (wpAny_isInstance (T := "StopIteration") (b := true) ⟨o, ho, hc⟩ isSubtype_stop (wpAny_pure (go _ hk)))
  unfold pyNext
  refine wpAny_bind (wpAny_attempt (wpAny_callSpecial?_slot (name := Str.ofString "__next__") ty F.slot_zip_next (wpAny_call_entry F.slot_zip_next ty F.entry_zip_next ?_ (F.args_zip_next_1 _))))
  show wpAny _ _ (field (.ref z) 2 >>= _) _ _ _
  refine wpAny_bind (wpAny_field hz rfl (x := .bool false) rfl ?_)
  show wpAny _ _ (field (.ref z) 3 >>= _) _ _ _
  refine wpAny_bind (wpAny_field hz rfl (x := .ref TI) rfl (wpAny_bind (wpAny_seqItems hTI rfl ?_)))
  show wpAny _ _ (Builtin.SmallTypes.ownedTupleIsFree (.ref z) >>= _) _ _ _
  refine wpAny_bind (wpAny_tupleHeld_zip hz hT fun ha za sa => ?_)
  simp only [Bool.false_eq_true, if_false]
  refine wpAny_bind ?_
  rw [← Array.forIn_toList]
  simp only [List.forIn_cons, List.forIn_nil]
  refine wpAny_bind (wpAny_bind (wpAny_holding ?_))
  show wpAny _ _ (Builtin.SmallTypes.nextOf (.ref i1) >>= _) _ _ _
  cases hx : xs[k]? with
  | none =>
    refine wpAny_bind (RZ.nextOf_tuple_end (s := { s with heap := ha }) hh (j1.extBut sa.extBut D.i1z) (t1.extBut sa.extBut D.l1z) hx fun hb e sb he => ?_)
    exact out hb e (fun c o n1 n2 _ q => sb _ _ n2 (sa.extBut _ _ n1 q)) he
  | some x =>
    have hy : ys[k]? = none := by
      rcases over with h | h
      · rw [hx] at h; cases h
      · exact h
    refine wpAny_bind (RZ.nextOf_tuple_item (s := { s with heap := ha }) (j1.extBut sa.extBut D.i1z) (t1.extBut sa.extBut D.l1z) hx fun hb j1b sb => wpAny_pure (wpAny_pure ?_))
    refine wpAny_bind (wpAny_bind (wpAny_holding ?_))
    show wpAny _ _ (Builtin.SmallTypes.nextOf (.ref i2) >>= _) _ _ _
    refine wpAny_bind (RZ.nextOf_tuple_end (s := { s with heap := hb }) hh ((j2.extBut sa.extBut D.i2z).extBut sb.extBut D.i12.symm) ((t2.extBut sa.extBut D.l2z).extBut sb.extBut D.l2i1) hy fun hc e sc he => ?_)
    exact out hc e (fun c o n1 n2 n3 q => sc _ _ n3 (sb.extBut _ _ n2 (sa.extBut _ _ n1 q))) he
end
end LbZ
namespace LbZ
open PySem
theorem zip_no_len : typeLookup (.type "zip") "__len__" = pure none := am_miss_of_fast (by decide +kernel)
theorem zip_no_hint : typeLookup (.type "zip") "__length_hint__" = pure none := am_miss_of_fast (by decide +kernel)
end LbZ
namespace Lb
open PySem PySem.Spec PyProof.Rows L2
/-- how a zip of the tuples at a and b stands before its turn i -/
structure ZSt (H : Hp) (h : Heap) (z TI TO i1 i2 a b : Addr) (i : Nat) : Prop where
  zip : IsZip h z TI TO .none ∨ ∃ T fl ys, IsZipHeld h z TI TO T fl ∧ H T = some (.tup ys)
  ti : IsPair h TI (.ref i1) (.ref i2)
  to : ∃ x y, IsPair h TO x y
  j1 : h.IsTupleIter i1 a i
  j2 : h.IsTupleIter i2 b i
theorem ZSt.live {H : Hp} {h : Heap} {z TI TO i1 i2 a b c : Addr} {i : Nat} (st : ZSt H h z TI TO i1 i2 a b i) (hc : c ∈ [z, TI, TO, i1, i2]) : ∃ o, h.get? c = some o := by
  simp only [List.mem_cons, List.not_mem_nil, or_false] at hc
  rcases hc with rfl | rfl | rfl | rfl | rfl
  · rcases st.zip with h | ⟨_, _, _, h, _⟩
    · exact ⟨_, h⟩
    · exact ⟨_, h⟩
  · exact ⟨_, st.ti⟩
  · obtain ⟨_, _, e⟩ := st.to
    exact ⟨_, e⟩
  · obtain ⟨o, e, _⟩ := st.j1
    exact ⟨o, e⟩
  · obtain ⟨o, e, _⟩ := st.j2
    exact ⟨o, e⟩
section
variable {X : Cx} {pins : List (Addr × Obj)} {σ : L2.St} {H : Hp} {s : Shared} {z TI TO i1 i2 a b q : Addr} {i : Nat} {xs ys : List V} {A : Around} {E : Value → Shared → Prop}
theorem FpOk.other {H' : Hp} {c : Addr} (f : FpOk X pins H c) (h : H' c = none) : FpOk X pins H' c := ⟨h, f.2⟩
abbrev Chain (X : Cx) (pins : List (Addr × Obj)) (H : Hp) (z TI TO i1 i2 : Addr) : Prop := ∀ c ∈ [z, TI, TO, i1, i2], FpOk X pins H c
theorem zip_turn {x y : V} (D : ZipApart z TI TO i1 i2 a b) (I : Inv X pins σ H s) (hf : Chain X pins H z TI TO i1 i2) (st : ZSt H s.heap z TI TO i1 i2 a b i)
    (qx : SqT X.K H a xs) (qy : SqT X.K H b ys) (hx : xs[i]? = some x) (hy : ys[i]? = some y) :
    wpAny (model X.prog X.w) A (pyNext (.ref z)) (fun r s' => ∃ T, r = some (.ref T) ∧ H T = none ∧ Inv X pins σ (L2.upd H T (.tup [x, y])) s' ∧ ZSt (L2.upd H T (.tup [x, y])) s'.heap z TI TO i1 i2 a b (i + 1) ∧ Chain X pins (L2.upd H T (.tup [x, y])) z TI TO i1 i2) E s := by
  obtain ⟨its, rv, p, _⟩ := I.tuple qx
  obtain ⟨its2, rv2, p2, _⟩ := I.tuple qy
  obtain ⟨u, hu, ru⟩ := rv.get hx
  obtain ⟨u2, hu2, ru2⟩ := rv2.get hy
  have fr : H s.heap.objs.size = none := I.hok.fresh (Nat.le_refl _)
  have chain : Chain X pins (L2.upd H s.heap.objs.size (.tup [x, y])) z TI TO i1 i2 := fun c hc =>
    let ⟨o, e⟩ := st.live hc
    FpOk.other (hf c hc) (by rw [upd_ne (Nat.ne_of_lt (Heap.lt_size e))]; exact (hf c hc).1)
  have new : ∀ {h' : Heap}, IsPair h' s.heap.objs.size u u2 → ObjOk X.prog X.w (L2.upd H s.heap.objs.size (.tup [x, y])) h' s.heap.objs.size (.tup [x, y]) := fun hT =>
    ⟨by show 2 ≤ sizeLine; decide, [u, u2], .cons ru (.cons ru2 .nil), ⟨_, hT, rfl, _, rfl⟩⟩
  obtain ⟨v, w, hTO⟩ := st.to
  rcases st.zip with hz | ⟨T, fl, zs, hz, hT⟩
  · refine RZ.pyNext_zipT_item D hz st.ti hTO st.j1 st.j2 p p2 (x := u) (y := u2) (by simpa using hu) (by simpa using hu2) fun h' z' TO' k1 k2 hN _ hk => ?_
    have I1 : Inv X pins σ (L2.upd H s.heap.objs.size (.tup [x, y])) { s with heap := h' } :=
      I.turnedNew (t' := s.toks) (ch := [z, TI, TO, i1, i2]) (fun c o hb e => hk c o (fun e' => hb (by simp [e'])) (fun e' => hb (by simp [e'])) (fun e' => hb (by simp [e'])) (fun e' => hb (by simp [e'])) e) hf (Nat.le_refl _) (new hN)
    exact ⟨_, rfl, fr, I1, ⟨.inr ⟨_, false, _, z', upd_same⟩, hk _ _ D.TIz D.TITO D.TIi1 D.TIi2 st.ti, ⟨_, _, TO'⟩, k1, k2⟩, chain⟩
  · obtain ⟨_, _, _, oT, hoT, _⟩ := I.hok T _ hT
    refine LbZ.heldT_item D hz hoT st.ti st.j1 st.j2 p p2 (x := u) (y := u2) (by simpa using hu) (by simpa using hu2) fun h' z' k1 k2 hN hk => ?_
    have I1 : Inv X pins σ (L2.upd H s.heap.objs.size (.tup [x, y])) { s with heap := h' } :=
      I.turnedNew (t' := s.toks) (ch := [z, TI, TO, i1, i2]) (fun c o hb e => hk c o (fun e' => hb (by simp [e'])) (fun e' => hb (by simp [e'])) (fun e' => hb (by simp [e'])) e) hf (Nat.le_refl _) (new hN)
    exact ⟨_, rfl, fr, I1, ⟨.inr ⟨T, true, zs, z', by rw [upd_ne (ne_of_none hT fr)]; exact hT⟩, hk _ _ D.TIz D.TIi1 D.TIi2 st.ti, ⟨_, _, hk _ _ D.TOz D.TOi1 D.TOi2 hTO⟩, k1, k2⟩, chain⟩
theorem zip_over (hh : A.handled = none) (D : ZipApart z TI TO i1 i2 a b) (I : Inv X pins σ H s) (hf : Chain X pins H z TI TO i1 i2) (st : ZSt H s.heap z TI TO i1 i2 a b i)
    (qx : SqT X.K H a xs) (qy : SqT X.K H b ys) (over : xs.length ≤ i ∨ ys.length ≤ i) :
    wpAny (model X.prog X.w) A (pyNext (.ref z)) (fun r s' => r = none ∧ Inv X pins σ H s') E s := by
  obtain ⟨its, rv, p, _⟩ := I.tuple qx
  obtain ⟨its2, rv2, p2, _⟩ := I.tuple qy
  have l1 := rv.length
  have l2 := rv2.length
  have he : its.toArray[i]? = none ∨ its2.toArray[i]? = none := by
    rcases over with q | q
    · exact .inl (by simp; omega)
    · exact .inr (by simp; omega)
  obtain ⟨v, w, hTO⟩ := st.to
  rcases st.zip with hz | ⟨T, fl, zs, hz, hT⟩
  · exact RZ.pyNext_zipT_end hh D hz st.ti hTO st.j1 st.j2 p p2 he fun h' hk => ⟨rfl, I.turnedL (t' := s.toks) (ch := [z, TI, TO, i1, i2]) (fun c o hb e =>
      hk c o (fun e' => hb (by simp [e'])) (fun e' => hb (by simp [e'])) (fun e' => hb (by simp [e'])) (fun e' => hb (by simp [e'])) e) hf⟩
  · obtain ⟨_, _, _, oT, hoT, _⟩ := I.hok T _ hT
    exact LbZ.heldT_end hh D hz hoT st.ti st.j1 st.j2 p p2 he fun h' hk => ⟨rfl, I.turnedL (t' := s.toks) (ch := [z, TI, TO, i1, i2]) (fun c o hb e =>
      hk c o (fun e' => hb (by simp [e'])) (fun e' => hb (by simp [e'])) (fun e' => hb (by simp [e'])) e) hf⟩
/-- a new pair -/
def PairAt (H : Hp) (T : Addr) (p : V × V) : Prop := H T = some (.tup [p.1, p.2])
theorem zip_loop {Rs : Result → Shared → Prop} {A1 : Around} {H0 : Hp} (hh : A1.in1.handled = none) (D : ZipApart z TI TO i1 i2 a b) (l1 : xs.length ≤ 10000) (qa : a ≠ q) (qb : b ≠ q)
    (hdone : ∀ H' s' ts, Inv X pins σ H' s' → H' q = some (.lst (ts.map V.ref)) → Paired (PairAt H') ts (xs.zip ys) → (∀ c o, c ≠ q → H0 c = some o → H' c = some o) → Rs (.ok (.ret .none)) s') (herr : ∀ e s, X.xe e s → Rs (.error e) s) (qx0 : SqT X.K H0 a xs) (qy0 : SqT X.K H0 b ys) :
    ∀ (m i : Nat) (H : Hp) (s : Shared) (ts : List Addr), min xs.length ys.length - i = m → i ≤ min xs.length ys.length → Inv X pins σ H s → Chain X pins H z TI TO i1 i2 → ZSt H s.heap z TI TO i1 i2 a b i →
      H q = some (.lst (ts.map V.ref)) → Paired (PairAt H) ts ((xs.zip ys).take i) → (∀ c o, c ≠ q → H0 c = some o → H c = some o) →
      codeAny (model X.prog X.w) A1 (.builtin "list.extend.loop" ⟨[.ref q, .ref z, .none], []⟩) Rs s := by
  have sqk : ∀ {H : Hp} {c : Addr} {zs : List V}, c ≠ q → (∀ c o, c ≠ q → H0 c = some o → H c = some o) → SqT X.K H0 c zs → SqT X.K H c zs := fun n k h =>
    h.elim (fun h => .inl (h.elim (fun h => .inl (k _ _ n h)) fun ⟨o, h⟩ => .inr ⟨o, k _ _ n h⟩)) fun h => .inr h
  intro m
  induction m with
  | zero =>
    intro i H s ts hm hi I hf st hq pt kp
    refine codeAny_builtin PySem.F.entry_extend_loop ?_
    rw [Around.under_plainId PySem.F.plain_extend_loop _]
    show wpAny _ A1.in1 (pyNext (.ref z) >>= _) _ _ s
    refine wpAny_bind (wpAny_mono (zip_over hh D I hf st (sqk qa kp qx0) (sqk qb kp qy0) (by omega)) (fun r s' hr => ?_) fun e s' he => herr e s' he)
    obtain ⟨rfl, I'⟩ := hr
    rw [List.take_of_length_le (by rw [List.length_zip]; omega)] at pt
    exact wpAny_pure (hdone H s' ts I' hq pt kp)
  | succ m ih =>
    intro i H s ts hm hi I hf st hq pt kp
    refine codeAny_builtin PySem.F.entry_extend_loop ?_
    rw [Around.under_plainId PySem.F.plain_extend_loop _]
    show wpAny _ A1.in1 (pyNext (.ref z) >>= _) _ _ s
    have h1 : i < xs.length := by omega
    have h2 : i < ys.length := by omega
    have hx := List.getElem?_eq_getElem h1
    have hy := List.getElem?_eq_getElem h2
    refine wpAny_bind (wpAny_mono (zip_turn D I hf st (sqk qa kp qx0) (sqk qb kp qy0) hx hy) (fun r s' hr => ?_) fun e s' he => herr e s' he)
    obtain ⟨T, rfl, hT, I', st', hf'⟩ := hr
    show wpAny _ A1.in1 (updateSeq q (·.push (.ref T)) >>= _) _ _ _
    have hq' : (L2.upd H T (.tup [xs[i], ys[i]])) q = some (.lst (ts.map V.ref)) := by rw [upd_ne (ne_of_none hq hT)]; exact hq
    have ht : ts.length = i := by
      have := Paired.len pt
      rw [List.length_take, List.length_zip] at this
      omega
    obtain ⟨zz, its, k, r2, hl, e⟩ := I'.lstM hq'
    have hl' : its.length = i := by rw [← hl, List.length_map, ht]
    have sl : sizeLine = 16777216 := by decide
    refine wpAny_bind (wpAny_updateSeq e rfl (wpAny_pure ⟨plainId_quiet PySem.F.plain_extend_loop _, ?_⟩) (by rw [List.size_toArray]; omega) (by show (its.toArray.push (.ref T)).size ≤ sizeLine + 1; rw [Array.size_push, List.size_toArray]; omega))
    have I2 := I'.lset (f := (·.push (.ref T))) (its' := its ++ [.ref T]) (ys := (ts ++ [T]).map V.ref) (t' := s'.toks) hq' e (by simp) (by rw [List.map_append]; exact r2.append (.cons rfl .nil)) (by rw [List.length_map, List.length_append]; show ts.length + 1 ≤ _; omega)
    have nc : ∀ c ∈ [z, TI, TO, i1, i2], c ≠ q := fun c hc e' => by
      have := (hf c hc).1
      rw [e', hq] at this
      cases this
    have keep : ∀ c o, c ≠ q → s'.heap.get? c = some o → (s'.heap.update q (Obj.mapSeq (·.push (.ref T)))).get? c = some o := fun c o n e' => (Heap.get?_update_other _ _ (Ne.symm n)).trans e'
    have st2 : ZSt (L2.upd (L2.upd H T (.tup [xs[i], ys[i]])) q (.lst ((ts ++ [T]).map V.ref))) (s'.heap.update q (Obj.mapSeq (·.push (.ref T)))) z TI TO i1 i2 a b (i + 1) := by
      refine ⟨?_, keep _ _ (nc TI (by simp)) st'.ti, let ⟨v, w, e'⟩ := st'.to; ⟨v, w, keep _ _ (nc TO (by simp)) e'⟩, st'.j1.at fun o e' => keep _ _ (nc i1 (by simp)) e', st'.j2.at fun o e' => keep _ _ (nc i2 (by simp)) e'⟩
      rcases st'.zip with hz | ⟨T1, fl, zs, hz, h1'⟩
      · exact .inl (keep _ _ (nc z (by simp)) hz)
      · refine .inr ⟨T1, fl, zs, keep _ _ (nc z (by simp)) hz, ?_⟩
        have : T1 ≠ q := fun e' => by
          rw [e', hq'] at h1'
          cases h1'
        rw [upd_ne this]
        exact h1'
    have up2 : ∀ c o, c ≠ q → H c = some o → (L2.upd (L2.upd H T (.tup [xs[i], ys[i]])) q (.lst ((ts ++ [T]).map V.ref))) c = some o := fun c o n e' => by
      rw [upd_ne n, upd_ne (ne_of_none e' hT)]
      exact e'
    have nT : T ≠ q := fun e' => by
      rw [e', hq] at hT
      cases hT
    refine ih (i + 1) _ _ (ts ++ [T]) (by omega) (by omega) I2 (fun c hc => FpOk.other (hf' c hc) (by rw [upd_ne (nc c hc)]; exact (hf' c hc).1)) st2 upd_same ?_ (fun c o n e' => up2 c o n (kp c o n e'))
    have hz : (xs.zip ys)[i]? = some (xs[i], ys[i]) := by
      rw [List.getElem?_zip_eq_some]
      exact ⟨hx, hy⟩
    rw [List.take_succ, hz]
    refine Paired.snoc (F := PairAt _) ?_ (Paired.imp pt fun t p h => up2 _ _ (fun e' => ?_) h)
    · show (L2.upd (L2.upd H T (.tup [xs[i], ys[i]])) q (.lst ((ts ++ [T]).map V.ref))) T = _
      rw [upd_ne nT, upd_same]
    · have h : H t = some (.tup [p.1, p.2]) := h
      rw [e', hq] at h
      cases h
/-- list(zip(a, b)) of two tuples -/
def tListZip (K : PySem.W.Frag) (ta : TA) : TE := fun σ H Q => ta σ H fun vs H1 => ∃ a b xs ys, vs = [.ref a, .ref b] ∧ SqT K H1 a xs ∧ SqT K H1 b ys ∧ xs.length ≤ 10000 ∧
  ∀ H' q ts, L2.Same H1 H' → H1 q = none → H' q = some (.lst (ts.map V.ref)) → Paired (PairAt H') ts (xs.zip ys) → Q (.ref q) H'
theorem call_zip_it {Q : VK} (hh : X.A.handled = none) (D : ZipApart z TI TO i1 i2 a b) (l1 : xs.length ≤ 10000) (I : Inv X pins σ H s) (hf : Chain X pins H z TI TO i1 i2) (hz0 : IsZip s.heap z TI TO .none) (st : ZSt H s.heap z TI TO i1 i2 a b 0)
    (qx : SqT X.K H a xs) (qy : SqT X.K H b ys) (go : ∀ H' q ts, L2.Same H H' → H q = none → H' q = some (.lst (ts.map V.ref)) → Paired (PairAt H') ts (xs.zip ys) → Q (.ref q) H') :
    wpAny (model X.prog X.w) X.A (call (.type "list") [.ref z]) (EP X pins σ Q) X.xe s := by
  refine callType_codes (Q₁ := fun obj s₁ => obj = .ref s.heap.objs.size ∧ s₁ = { s with heap := s.heap.push { cls := .type "list", data := .seq #[] } }) PySem.F.called_list (PySem.F.typeCall_list_1 _) PySem.F.entry_list_init
    (code_list_new _ ⟨rfl, rfl⟩) fun obj s₁ h₁ => ?_
  obtain ⟨rfl, rfl⟩ := h₁
  have hS : (s.heap.push { cls := .type "list", data := .seq #[] }).get? s.heap.objs.size = some { cls := .type "list", data := .seq #[] } := Heap.get?_push_size _ rfl
  refine ⟨⟨_, hS, rfl⟩, PySem.F.args_list_init_2 _ _, ?_⟩
  have fr : H s.heap.objs.size = none := I.hok.fresh (Nat.le_refl _)
  have ns : ∀ c ∈ [z, TI, TO, i1, i2], c ≠ s.heap.objs.size := fun c hc => let ⟨o, e⟩ := st.live hc; Nat.ne_of_lt (Heap.lt_size e)
  have la : a ≠ s.heap.objs.size ∧ b ≠ s.heap.objs.size := by
    obtain ⟨its, rv, ⟨o, e, _⟩, _⟩ := I.tuple qx
    obtain ⟨its2, rv2, ⟨o2, e2, _⟩, _⟩ := I.tuple qy
    exact ⟨Nat.ne_of_lt (Heap.lt_size e), Nat.ne_of_lt (Heap.lt_size e2)⟩
  have I1 : Inv X pins σ (L2.upd H s.heap.objs.size (.lst [])) { s with heap := s.heap.push { cls := .type "list", data := .seq #[] } } := I.lnew (its := []) (t' := s.toks) .nil (Nat.zero_le _)
  generalize hq : s.heap.objs.size = q at *
  show wpAny _ _ (do let old ← Builtin.List.listItems (.ref q); Builtin.List.listUpdate (.ref q) (fun _ => #[]); letGo old.toList.reverse; Builtin.List.listExtendWith (.ref q) (.ref z) .none) _ _ _
  refine wpAny_bind ?_
  unfold Builtin.List.listItems
  refine wpAny_bind (wpAny_seqItems hS rfl (wpAny_pure ?_))
  show wpAny _ _ (updateSeq q (fun _ => #[]) >>= fun _ => letGo (#[] : Array Value).toList.reverse >>= fun _ => Builtin.List.listExtendWith (.ref q) (.ref z) .none) _ _ _
  refine wpAny_bind (wpAny_updateSeq hS rfl ?_)
  have I2 := I1.lset (f := fun _ => #[]) (its := []) (its' := []) (ys := []) (t' := s.toks) upd_same hS rfl .nil (Nat.zero_le _)
  rw [upd_upd] at I2
  refine wpAny_bind (wpAny_letGo ?_)
  have nz : z ≠ q := ns z (by simp)
  unfold Builtin.List.listExtendWith
  have keep2 : ∀ c o, c ≠ q → s.heap.get? c = some o → ((s.heap.push { cls := .type "list", data := .seq #[] }).update q (Obj.mapSeq fun _ => #[])).get? c = some o := fun c o n e => (Heap.get?_update_other _ _ (Ne.symm n)).trans (Heap.get?_push_of_some _ e)
  have zty : Shared.TypeIs { s with heap := (s.heap.push { cls := .type "list", data := .seq #[] }).update q (Obj.mapSeq fun _ => #[]) } (.ref z) "zip" := ⟨_, keep2 _ _ nz hz0, rfl⟩
  refine wpAny_bind (wpAny_typeOf zty ?_)
  have g1 : Builtin.List.listSameRef (.ref q) (.ref z) = false := by simp [Builtin.List.listSameRef, nz.symm]
  have g2 : (Value.type "zip" == Value.type "list") = false := by decide
  have g3 : (Value.type "zip" == Value.type "tuple") = false := by decide
  simp only [g1, g2, g3, Bool.or_false, Bool.false_eq_true, if_false]
  refine wpAny_bind (wpAny_pyIter_zip (keep2 _ _ nz hz0) ?_)
  refine wpAny_bind (wpAny_holding ?_)
  unfold Builtin.List.listLengthHint
  refine wpAny_bind (wpAny_specialOf zty LbZ.zip_no_len ?_)
  show wpAny _ _ (specialOf (Value.ref z) (Str.ofString "__length_hint__") >>= _) _ _ _
  refine wpAny_bind (wpAny_specialOf zty LbZ.zip_no_hint (wpAny_pure ?_))
  obtain ⟨_, its3, k3, r3, _, e3⟩ := I2.lstM upd_same
  cases r3
  show wpAny _ _ (rule "list.extend.makes-room" >>= fun _ => Builtin.List.listTouch (.ref q) >>= fun _ => again (.builtin "list.extend.loop" ⟨[.ref q, .ref z, .none], []⟩)) _ _ _
  refine wpAny_bind (wpAny_rule (wpAny_bind ?_))
  show wpAny _ _ (updateSeq q (·.push .none) >>= fun _ => updateSeq q (·.pop)) _ _ _
  refine wpAny_bind (wpAny_updateSeq e3 rfl ?_)
  have I3 := I2.lset (f := (·.push Value.none)) (its' := [Value.none]) (ys := [.non]) (t' := s.toks) upd_same e3 (by simp) (.cons rfl .nil) (by decide)
  obtain ⟨_, its4, k4, r4, _, e4⟩ := I3.lstM upd_same
  obtain ⟨u4, rfl, _⟩ := r4.one
  refine wpAny_updateSeq e4 rfl ?_ (by show 1 ≤ sizeLine; decide) (by show 0 ≤ sizeLine + 1; exact Nat.zero_le _)
  have I4 := I3.lset (f := (·.pop)) (its := [u4]) (its' := []) (ys := []) (t' := s.toks) upd_same e4 (by rfl) .nil (Nat.zero_le _)
  rw [upd_upd, upd_upd] at I4
  have keep4 : ∀ c o, c ≠ q → s.heap.get? c = some o → ((((s.heap.push { cls := .type "list", data := .seq #[] }).update q (Obj.mapSeq fun _ => #[])).update q (Obj.mapSeq (·.push Value.none))).update q (Obj.mapSeq (·.pop))).get? c = some o := fun c o n e =>
    (Heap.get?_update_other _ _ (Ne.symm n)).trans ((Heap.get?_update_other _ _ (Ne.symm n)).trans (keep2 c o n e))
  have st4 : ZSt (L2.upd H q (.lst [])) ((((s.heap.push { cls := .type "list", data := .seq #[] }).update q (Obj.mapSeq fun _ => #[])).update q (Obj.mapSeq (·.push Value.none))).update q (Obj.mapSeq (·.pop))) z TI TO i1 i2 a b 0 :=
    ⟨.inl (keep4 _ _ nz hz0), keep4 _ _ (ns TI (by simp)) st.ti, let ⟨v, w, e⟩ := st.to; ⟨v, w, keep4 _ _ (ns TO (by simp)) e⟩, st.j1.at fun o e => keep4 _ _ (ns i1 (by simp)) e, st.j2.at fun o e => keep4 _ _ (ns i2 (by simp)) e⟩
  have S0 : L2.Same H (L2.upd H q (.lst [])) := Lb.Same.upd fr
  refine wpAny_pure ⟨plainId_quiet PySem.F.plain_extend_loop _, zip_loop (q := q) (H0 := L2.upd H q (.lst [])) (A1 := X.A.in1) (Rs := wants (fun r s₂ => r = .none ∧ EP X pins σ Q (.ref q) s₂) X.xe) hh D l1 la.1 la.2 ?_ (fun e s' he => he) (SqT.same S0 qx) (SqT.same S0 qy) _ 0 _ _ [] rfl (Nat.zero_le _) I4
    (fun c hc => FpOk.other (hf c hc) (by rw [upd_ne (ns c hc)]; exact (hf c hc).1)) st4 upd_same ?_ (fun c o n e => e)⟩
  · intro H' s' ts I' e pt kp
    exact ⟨rfl, .ref q, H', I', rfl, go H' q ts (fun c o e' => kp c o (ne_of_none e' fr) (by rw [upd_ne (ne_of_none e' fr)]; exact e')) fr e pt⟩
  · rw [List.take_zero]
    exact .nil
theorem pe_listZip {e e2 : Expr} {ta : TA} {p p2 pos pos2 : Pos} (hcalm : X.calm = true) (hg : Gl X "list") (hm : X.mg "list" = none) (hg2 : Gl X "zip") (hm2 : X.mg "zip" = none) (ha : PA X [e, e2] ta)
    (hs : starEach [e, e2] X.env = (false, eval e X.env) :: starEach [e2] X.env := by rfl) (hpl : (backTo pos2 (starEach [e2] X.env)).any (·.1) = false := by rfl)
    (hs2 : starEach [.Call (.Name "zip" p2) [e, e2] [] pos2] X.env = (false, eval (.Call (.Name "zip" p2) [e, e2] [] pos2) X.env) :: starEach [] X.env := by rfl) :
    PE X (.Call (.Name "list" p) [.Call (.Name "zip" p2) [e, e2] [] pos2] [] pos) (tListZip X.K ta) := by
  refine ⟨fun pins s σ H Q I h => ?_⟩
  refine wpAny_Call_Name_kw (ld_blt I hg hm (by decide +kernel : bootBuiltins "list" = some (.type "list")) ?_)
  refine PyProof.Rows.callWith_type1 ?_ hs2 rfl
  rw [hs2]
  refine Calls.spliced_cons ?_
  refine wpAny_Call_Name_kw (ld_blt I hg2 hm2 PyProof.Rows.boot_zip ?_)
  refine PyProof.Rows.callWith_type1 (thn (ha.run pos2 pins s σ H _ I h) fun us s1 ⟨vs, H1, I1, r1, q1⟩ => ?_) hs hpl
  obtain ⟨a, b, xs, ys, rfl, qx, qy, l1, go⟩ := q1
  cases r1 with
  | cons r rr =>
    cases rr with
    | cons r' rr =>
      cases rr
      cases r
      cases r'
      obtain ⟨its, rv, p1, _⟩ := I1.tuple qx
      obtain ⟨its2, rv2, p2, _⟩ := I1.tuple qy
      obtain ⟨o1, ho1, _⟩ := id p1
      obtain ⟨o2, ho2, _⟩ := id p2
      refine RZ.call_zipT (xs := its.toArray) (ys := its2.toArray) p1 p2 fun h' hz hTI hTO k1 k2 _ hk => ?_
      have I2 : Inv X pins σ H1 { s1 with heap := h' } := I1.kept (t' := s1.toks) hk
      have chain : Chain X pins H1 (s1.heap.objs.size + 4) (s1.heap.objs.size + 2) (s1.heap.objs.size + 3) s1.heap.objs.size (s1.heap.objs.size + 1) := fun c hc => by
        have hle : s1.heap.objs.size ≤ c := by
          simp only [List.mem_cons, List.not_mem_nil, or_false] at hc
          rcases hc with h | h | h | h | h <;> (rw [h]; first | exact Nat.le_add_right _ _ | exact Nat.le_refl _)
        exact I1.fpOk hle (I1.hok.fresh hle)
      show wpAny _ _ (pure []) _ _ _
      refine wpAny_pure ?_
      exact call_zip_it (I1.ok.hd hcalm) (PySem.W.ktu_apart s1.heap.objs.size a b (Heap.lt_size ho1) (Heap.lt_size ho2)) l1 I2 chain hz ⟨.inl hz, hTI, ⟨_, _, hTO⟩, k1, k2⟩ qx qy go
end
end Lb

set_option Elab.async false
set_option linter.all false
set_option maxRecDepth 100000
set_option maxHeartbeats 4000000
namespace Lb
open PySem PySem.Spec PyProof.Rows L2
/-- a thing is equal to itself -/
def ReflB (D : EqvB) : Prop := ∀ x H c, D x x H c → c = true
def DTupH (D : EqvB) : EqvB := fun x y H c => ∃ a b xs ys e, x = .ref a ∧ y = .ref b ∧ H a = some (.tup xs) ∧ H b = some (.tup ys) ∧ PrsB D xs ys H e ∧ c = (List.range xs.length).all e
section
variable {X : Cx} {n : Nat} {D : EqvB}
theorem RcGB.imp {D' : EqvB} (h : RcGB X n D) (k : ∀ x y H c, D' x y H c → D x y H c) : RcGB X n D' := fun A pins s σ H x y u v c sb I rx ry d => h A pins s σ H x y u v c sb I rx ry (k _ _ _ _ d)
theorem rcGB_tupH (hD : MonB D) (h : EqGB X n D) : RcGB X (n + 1) (DTupH D) :=
  (rcGB_tup hD h).imp fun _ _ _ _ ⟨a, b, xs, ys, e, h1, h2, h3, h4, h5, h6⟩ => ⟨a, b, xs, ys, e, h1, h2, SqT.of h3, SqT.of h4, h5, h6⟩
theorem mon_tupH (hD : MonB D) : MonB (DTupH D) := fun x y H H' c e d => by
  obtain ⟨a, b, xs, ys, f, hx, hy, h1, h2, p, q⟩ := d
  exact ⟨a, b, xs, ys, f, hx, hy, e _ _ h1, e _ _ h2, p.mon hD e, q⟩
theorem prs_refl (hD : ReflB D) {xs : List V} {H : Hp} {e : Nat → Bool} (p : PrsB D xs xs H e) : (List.range xs.length).all e = true := by
  rw [List.all_eq_true]
  intro i hi
  have hi := List.mem_range.mp hi
  have hx := List.getElem?_eq_getElem hi
  exact hD _ _ _ (p.at_ i _ _ hx hx)
theorem refl_tupH (hD : ReflB D) : ReflB (DTupH D) := by
  rintro x H c ⟨a, b, xs, ys, e, h1, h2, h3, h4, p, rfl⟩
  rw [h1] at h2
  cases h2
  rw [h3] at h4
  cases h4
  exact prs_refl hD p
theorem refl_list (hD : ReflB D) : ReflB (DListB D) := by
  rintro x H c ⟨a, b, xs, ys, h1, h2, h3, h4, p⟩
  rw [h1] at h2
  cases h2
  rw [h3] at h4
  cases h4
  rcases p with ⟨h, _⟩ | ⟨e, p, rfl⟩
  · exact absurd rfl h
  · exact prs_refl hD p
theorem eqGB_tupH (hD : MonB D) (hR : ReflB D) (h : EqGB X n D) : EqGB X (n + 1) (DTupH D) :=
  (rcGB_tupH hD h).eqG fun x y H c d => by
    obtain ⟨a, b, xs, ys, e, h1, h2, h3, h4, p, h5⟩ := id d
    refine ⟨a, b, h1, h2, fun q => ?_⟩
    subst q
    rw [← h2] at h1
    subst h1
    exact refl_tupH hR _ _ _ d
theorem eqGB_list (hD : MonB D) (hR : ReflB D) (h : EqGB X n D) : EqGB X (n + 1) (DListB D) :=
  (rcGB_list hD h).eqG fun x y H c d => by
    obtain ⟨a, b, xs, ys, h1, h2, h3, h4, p⟩ := id d
    refine ⟨a, b, h1, h2, fun q => ?_⟩
    subst q
    rw [← h2] at h1
    subst h1
    exact refl_list hR _ _ _ d
end
/-- item by item, by a decidable equality -/
theorem all_range_eq {α : Type} [DecidableEq α] (d : α) : ∀ {xs ys : List α}, xs.length = ys.length → (List.range xs.length).all (fun i => decide (xs.getD i d = ys.getD i d)) = decide (xs = ys) := by
  intro xs ys h
  rw [Bool.eq_iff_iff, List.all_eq_true, decide_eq_true_eq]
  constructor
  · intro k
    refine List.ext_getElem h fun i h1 h2 => ?_
    have := of_decide_eq_true (k i (List.mem_range.mpr h1))
    rw [List.getD_eq_getElem?_getD, List.getD_eq_getElem?_getD, List.getElem?_eq_getElem h1, List.getElem?_eq_getElem h2] at this
    exact this
  · rintro rfl i _
    exact decide_eq_true rfl
theorem atI_last2 {α : Type} {xs : List α} {j : Nat} (h : xs.length = j + 2) : atI xs (-2) = xs[j]? := by
  unfold atI ixN
  rw [if_neg (by decide), if_pos (by omega)]
  show xs[(_ : Int).toNat]? = _
  congr 1
  omega
end Lb

set_option Elab.async false
set_option linter.all false
set_option maxRecDepth 100000
set_option maxHeartbeats 4000000
namespace Lb
open PySem PySem.Spec PyProof.Rows L2
section
variable {X : Cx} {K : PySem.W.Frag}
theorem pg_lstK {pos : Pos} {es : List Expr} {k : Nat} {t : TGs} {n : Nat} (hK : X.K = K) (hc : X.calm = true) (h : PGs X es t)
    (hn : (assignEach es X.env).length = n := by rfl) (hst : (assignEach es X.env).findIdx? (·.1) = none := by rfl) : PG X (.Tuple es k pos) (gLst K n t) := by subst hK; exact pg_lst hc h hn hst
theorem pi_zipAK {e e2 : Expr} {ta : TA} {p pos tpos : Pos} {elts : List Expr} {kk : Nat} (hK : X.K = K) (hg : Gl X "zip") (hm : X.mg "zip" = none) (ha : PA X [e, e2] ta)
    (hs : starEach [e, e2] X.env = (false, eval e X.env) :: starEach [e2] X.env := by rfl) (hpl : (backTo pos (starEach [e2] X.env)).any (·.1) = false := by rfl) :
    PI X (.Tuple elts kk tpos) (.Call (.Name "zip" p) [e, e2] [] pos) (RZ.iZipA K ta) := by subst hK; exact RZ.pi_zipA hg hm ha hs hpl
end
theorem walk_zipT {K : PySem.W.Frag} {a b : Addr} {xs ys : List V} {n : Nat} (hn : n = min xs.length ys.length) : Walk (RZ.ItzT K a b) n (fun H => SqT K H a xs ∧ SqT K H b ys) (YPair (fun i => xs[i]?) (fun i => ys[i]?)) := by
  subst hn
  refine ⟨fun i _ hi q => ?_, fun _ q => ⟨xs, ys, q.1, q.2, by omega⟩, fun i H v H' _ q y => ?_⟩
  · have h1 : i < xs.length := by omega
    have h2 : i < ys.length := by omega
    exact ⟨xs, ys, xs[i], ys[i], q.1, q.2, by simp [h1], by simp [h2]⟩
  · obtain ⟨T, x, z, h1, h2, h3, h4, h5⟩ := y
    exact ⟨T, x, z, h1, h2, h3, h4 xs q.1, h5 ys q.2⟩
/-! data of whole numbers -/
def q2D (x : Q2) : PyData := .tuple [.int x.1, .int x.2]
def ptD (z : Q2 × Q2) : PyData := .tuple [q2D z.1, q2D z.2]
theorem eqv_q2 (x y : Q2) : PyData.eqv (q2D x) (q2D y) = decide (x = y) := by
  unfold q2D
  simp only [PyData.eqv, PyData.eqvAll, Bool.and_true]
  rw [Bool.eq_iff_iff]
  simp [Prod.ext_iff]
theorem eqv_pt (x y : Q2 × Q2) : PyData.eqv (ptD x) (ptD y) = decide (x = y) := by
  unfold ptD
  simp only [PyData.eqv, PyData.eqvAll, Bool.and_true, eqv_q2]
  rw [Bool.eq_iff_iff]
  simp [Prod.ext_iff]
theorem eqvAll_map {α : Type} [DecidableEq α] {f : α → PyData} (h : ∀ x y, PyData.eqv (f x) (f y) = decide (x = y)) : ∀ xs ys : List α, PyData.eqvAll (xs.map f) (ys.map f) = decide (xs = ys)
  | [], [] => by simp [PyData.eqvAll]
  | [], _ :: _ => by simp [PyData.eqvAll]
  | _ :: _, [] => by simp [PyData.eqvAll]
  | x :: xs, y :: ys => by
    simp only [List.map_cons, PyData.eqvAll, h, eqvAll_map h xs ys]
    rw [Bool.eq_iff_iff]
    simp
theorem eqv_list {α : Type} [DecidableEq α] {f : α → PyData} (h : ∀ x y, PyData.eqv (f x) (f y) = decide (x = y)) (xs ys : List α) : PyData.eqv (.list (xs.map f)) (.list (ys.map f)) = decide (xs = ys) := by
  simp only [PyData.eqv]
  exact eqvAll_map h xs ys
theorem lay_q2 (x : Q2) : PyData.canLay0 (q2D x) = true := by simp [q2D, PyData.canLay0, PyData.canLayAll0]
theorem lay_pt (z : Q2 × Q2) : PyData.canLay0 (ptD z) = true := by simp [ptD, PyData.canLay0, PyData.canLayAll0, lay_q2]
theorem dep_q2 (x : Q2) : PyData.depth (q2D x) = 1 := by simp [q2D, PyData.depth, PyData.depthAll]
theorem dep_pt (z : Q2 × Q2) : PyData.depth (ptD z) = 2 := by simp [ptD, PyData.depth, PyData.depthAll, dep_q2]
theorem lay_map {α : Type} {f : α → PyData} (h : ∀ x, PyData.canLay0 (f x) = true) : ∀ xs : List α, PyData.canLayAll0 (xs.map f) = true
  | [] => by simp [PyData.canLayAll0]
  | x :: xs => by simp [PyData.canLayAll0, h, lay_map h xs]
theorem dep_map {α : Type} {f : α → PyData} {k : Nat} (h : ∀ x, PyData.depth (f x) ≤ k) : ∀ xs : List α, PyData.depthAll (xs.map f) ≤ k
  | [] => by simp [PyData.depthAll]
  | x :: xs => by
    have h1 := h x
    have h2 := dep_map h xs
    simp only [List.map_cons, PyData.depthAll]
    omega
theorem shaped_of {d : PyData} (h : PyData.canLay0 d = true) (k : PyData.depth d ≤ 60) : SeqAt.shaped d = true := by
  unfold SeqAt.shaped
  rw [h, decide_eq_true (by omega)]
  rfl
theorem lay_list {α : Type} {f : α → PyData} (h : ∀ x, PyData.canLay0 (f x) = true) (xs : List α) : PyData.canLay0 (.list (xs.map f)) = true := by
  simp only [PyData.canLay0]
  exact lay_map h xs
theorem dep_list {α : Type} {f : α → PyData} {k : Nat} (h : ∀ x, PyData.depth (f x) ≤ k) (xs : List α) : PyData.depth (.list (xs.map f)) ≤ k + 1 := by
  simp only [PyData.depth]
  have := dep_map h xs
  omega
theorem rd_lt {t t' b : Int} (hb : 0 < b) (h : t < t') : val (rd t b) < val (rd t' b) := by
  rw [val_rd (by omega), val_rd (by omega), Rat.div_def, Rat.div_def]
  exact Rat.mul_lt_mul_of_pos_right (Rat.intCast_lt_intCast.mpr h) (Rat.inv_pos.mpr (pos_cast hb))
theorem rd_zero {b : Int} (hb : 0 < b) : rd 0 b = (0, 1) := by
  have h1 : Low (b.natAbs + 1) (rd 0 b) := rd_low (by omega) (show (0 : Nat) < _ from Nat.pow_pos (by decide)) (show b.natAbs < _ from Nat.lt_of_lt_of_le Nat.lt_two_pow_self (Nat.pow_le_pow_right (by decide) (Nat.le_succ _)))
  refine val_inj (m := 1) h1 ⟨by unfold Bd; decide, by unfold Bd; decide, by decide, by decide⟩ ?_
  rw [val_rd (by omega), val_zero, Rat.intCast_zero]
  grind
end Lb

set_option Elab.async false
set_option linter.all false
/-! a comprehension within one; tuple(list) within one -/
namespace Lb
open PySem L2
theorem blkOk_any {N : List Str} {sc scope : Scope} {own : List (Str × Nat)} (h : blkC N { kind := .function, names := [], isGenerator := false, isCoroutine := false } scope own = true) : BlkOk N sc scope own :=
  let b := blkOk_by h
  ⟨b.kind, b.uniq, b.ix, fun y hy e => (b.free y hy e).elim (fun q => nomatch q) (fun q => nomatch q), b.own⟩
section
variable {X : Cx} {K : PySem.W.Frag}
theorem call_tuple_ofK (hK : X.K = K) : CallR X (.type "tuple") (fun xs H Q => ∃ p ys, xs = [.ref p] ∧ ((SqL K H p ys ∧ ∀ l, H l = none → Q (.ref l) (upd H l (.tup ys))) ∨ (SqT K H p ys ∧ Q (.ref p) H))) := by subst hK; exact call_tuple_of
end
theorem kit_two {K : PySem.W.Frag} {A C : Addr} (h1 : PySem.W.isClsIn K C = true) (h2 : PySem.W.typeIn K (.ref C) = some (.type "type")) (h3 : PySem.W.subIn K (.ref A) (.ref C) = some false) (h4 : PySem.W.subIn K (.ref C) (.ref C) = some true) :
    PySem.W.kitOne K (.ref A) (.ref C) = some false ∧ PySem.W.notFirst K C (.ref A) = true := by
  have ne : (Value.ref A == Value.ref C) = false := Bool.eq_false_iff.mpr fun q => by
    have e := beq_iff_eq.mp q
    cases e
    rw [h3] at h4
    cases h4
  constructor
  · unfold PySem.W.kitOne
    rw [ne, if_neg (by decide)]
    unfold PySem.W.kitCls
    have h1' : (PySem.W.clsIn K C).isSome = true := h1
    dsimp only
    rw [h1', h2]
    rw [if_pos (by simp)]
    exact h3
  · unfold PySem.W.notFirst
    rw [h3]
    simp
end Lb

set_option Elab.async false
set_option linter.all false
set_option maxRecDepth 100000
set_option maxHeartbeats 2000000
/-! own exceptions with an own __init__ that keeps one value: made, raised -/
namespace Lb
open PySem L2
/-- the class and its __init__ -/
structure Exq (K : PySem.W.Frag) (mg : Str → Option Value) (x : Str) (C f : Addr) : Prop where
  mC : mg x = some (.ref C)
  ox : OexC K C
  xf : XfC K C
  iC : PySem.W.findIn K (.ref C) "__init__" = some (some (.ref f))
  tI : PySem.W.typeIn K (.ref f) = some (.type "function")
  te : PySem.W.exmOne K (.ref C) (.ref C) = some true
/-- __init__(self, value): self.f = value -/
def sp_exq (K : PySem.W.Frag) (C : Addr) (f : Str) : Sp := fun vs H Q _ => ∃ (q : Addr) (y : V), vs = [.ref q, y] ∧ H q = some (exo q C none) ∧
  ∀ dx, H dx = none → dx ≠ q → Q .non (upd (upd H dx (exd dx [(f, y)])) q (exo q C (some dx)))
/-- what is known behind such a raise -/
theorem exq_way {H : Hp} {q C : Addr} {f : Str} {y : V} {Q : XK} (hq : H q = none) (k : ∀ H' d, Same H H' → H d = none → H' d = some (.xd [(f, y)]) → Q (.ref C) (some d) H') :
    ∀ dx, (upd H q (exo q C none)) dx = none → dx ≠ q → ∃ (d : Addr) (fs : List (Str × V)), (upd (upd (upd H q (exo q C none)) dx (exd dx [(f, y)])) q (exo q C (some dx))) q = some (exo q C (some d)) ∧
      (upd (upd (upd H q (exo q C none)) dx (exd dx [(f, y)])) q (exo q C (some dx))) d = some (exd d fs) ∧ H d = none ∧ Q (.ref C) (some d) (upd (del (upd (upd (upd H q (exo q C none)) dx (exd dx [(f, y)])) q (exo q C (some dx))) q) d (.xd fs)) := by
  intro dx hdx ne
  have hd : H dx = none := by rw [upd_ne ne] at hdx; exact hdx
  refine ⟨dx, [(f, y)], upd_same, by rw [upd_ne ne, upd_same], hd, k _ dx (fun b o e => ?_) hd upd_same⟩
  have bq : b ≠ q := ne_of_none e hq
  have bd : b ≠ dx := ne_of_none e hd
  rw [upd_ne bd, del_ne bq, upd_ne bq, upd_ne bd, upd_ne bq]
  exact e
/-- a def that may raise, called where nothing is raised -/
theorem passF {X : Cx} : Passes (L2.CX X.prog X.w) X E0 := fun _ _ _ _ _ _ _ h => by
  obtain ⟨_, _, _, _, _, _, _, _, _, _, _, _, h⟩ := h
  exact h.elim
end Lb

set_option Elab.async false
set_option linter.all false
set_option maxRecDepth 100000
set_option maxHeartbeats 4000000
/-! try with several clauses that each give the exception a name -/
namespace Lb
open PySem PySem.Spec PyProof.Rows L2
/-- one clause: its class, the name's place, its suite -/
abbrev Clause := Value × Nat × (Addr → Value → Option Addr → TS)
/-- what is asked of an exception, clause by clause -/
def wNamed (K : PySem.W.Frag) (Wo : WX) (D : Ends) : List Clause → WX
  | [] => Wo
  | (c, i, ts) :: more => fun k dd τ G => ∃ yes, PySem.W.exmOne K k c = some yes ∧ (yes = false → wNamed K Wo D more k dd τ G) ∧
      (yes = true → ∀ e, G e = none → ts e k dd ⟨fun τ' G' => D.nx (τ'.set i none) G', D.rt, fun τ' G' => D.bk (τ'.set i none) G', fun τ' G' => D.ct (τ'.set i none) G'⟩ (τ.set i (some (.ref e))) G)
/-- the clauses and their readings -/
inductive HdsN (X : Cx) : List ExceptHandler → List Clause → Prop
  | nil : HdsN X [] []
  | cons {x n : Str} {i : Nat} {c : Value} {ts : Addr → Value → Option Addr → TS} {st : Stmt} {sts : List Stmt} {p q : Pos} {hds : List ExceptHandler} {l : List Clause} (nm : Names X x c) (at_ : X.N[i]? = some n) (lo : X.env.kindOf n = some .local)
      (su : ∀ (e : Addr) (oe : Obj) (k : Value) (dd : Option Addr) (pn : List (Addr × Obj)), Zc k dd oe → (∃ vs, oe.data = .fields vs) → PSs (X.suite e ((e, oe) :: pn)) (st :: sts) (ts e k dd)) (more : HdsN X hds l) :
      HdsN X (.ExceptHandler (some (.Name x p)) (some n) (st :: sts) q :: hds) ((c, i, ts) :: l)
section
variable {X : Cx} {body : List Stmt} {h0 : ExceptHandler} {hds : List ExceptHandler} {l : List Clause} {pos : Pos} {tb : WX → TS} {Wo : WX}
/-- an exception that has landed stands in no frame -/
theorem out_of_frames {bs h : Heap} {st : List Env} {e : Addr} {o : Obj} {vs : Array Value} (ff : h.FunFrames bs st) (at_ : h.get? e = some o) (fd : o.data = .fields vs) : e ∉ frs st := fun m => by
  obtain ⟨_, u, at2, no⟩ := ff.mem m
  cases at_.symm.trans at2
  exact no _ fd
variable {pins : List (Addr × Obj)} {τ : L2.St} {G : Hp} {D : Ends} {e : Addr} {bs h3 : Heap} {s0 s1 : Shared} {k : Value} {dd : Option Addr}
/-- the clauses are gone through, the exception being at e -/
theorem handle_named (st : X.stack = X.env :: X.outer) (fr : X.env.frame = some X.env.locals) (nd : X.N.Nodup) (tk : Takes X Wo) (ok : X.Ok) (jj : Inv X pins τ G s0) (nb : ∀ b o, s0.heap.get? b = some o → b ∉ frs X.stack → bs.get? b = some o)
    (up : s0.heap.UpToSlots s1.heap) (os : s1.os = s0.os) (ag : AllBare s1.gens) (na : G e = none) (u3 : s1.heap.UpToSlots h3) (fl : HandSPX.FlyingZ bs (X.env :: X.outer) e (Zc k dd) h3) :
    ∀ {hs : List ExceptHandler} {l : List Clause}, HdsN X hs l → wNamed X.K Wo D l k dd τ G → wpAny (model X.prog X.w) X.A (handleBy (.ref e) X.env hs) (SP X pins D) X.xe { s1 with heap := h3 } := by
  have here : Inv X pins τ G { s1 with heap := h3 } := jj.landed nb fl.1 (up.trans u3) os ag
  obtain ⟨o3, f3, at3, z3, d3⟩ := fl.there
  have out := out_of_frames fl.2.2.1 at3 d3
  have outL : e ≠ X.env.locals := fun q => out (List.mem_filterMap.mpr ⟨X.env, List.mem_cons_self, by rw [fr, q]⟩)
  have outF : e ∉ X.fs := fun m => by
    obtain ⟨env, m1, m2⟩ := List.mem_filterMap.mp m
    exact out (List.mem_filterMap.mpr ⟨env, List.mem_cons_of_mem _ m1, m2⟩)
  have inS := here.suite at3 d3 na outL outF
  intro hs l hk
  induction hk with
  | nil =>
    intro w
    have away : wpAny (model X.prog X.w) X.A (setFlight (.ref e) X.env.frame) (fun _ s4 => wpAny (model X.prog X.w) X.A (throw (.ref e) : Sem Flow) (SP X pins D) X.xe s4) X.xe { s1 with heap := h3 } := by
      rw [fr]
      exact HandSPX.setFlight_upZ fl fun h4 held u4 => wpAny_throw (tk _ _ ⟨e, bs, s0, pins, τ, G, k, dd, rfl, jj, nb, (up.trans u3).trans u4, .inr (.inr (by rw [st]; exact held)), na, os, ag, w⟩)
    obtain ⟨_, _, _, oe, vs, T, oT, _, ate, _, dte, first_, _⟩ := id fl
    refine wpAny_handleBy_nil ?_
    unfold PySem.passOn
    refine wpAny_bind (wpAny_field ate dte first_ ?_)
    rw [if_neg (by simp : ¬ ((Value.ref T == Value.none) = true))]
    first
      | exact wpAny_bind away
      | exact wpAny_bind (wpAny_pure (wpAny_bind away))
  | @cons x n i c ts st1 sts p q hds2 l2 nm pl lo su more ih =>
    rintro ⟨yes, ans, no, go⟩
    refine wpAny_handleBy_cons (codeAny_handlers_test ?_) (fun z => by cases z)
    have cl : PySem.W.Looks (model X.prog X.w) h3 (typeOf (.ref e)) k := fun A Q E s keep done => wpAny_typeOf_ref (keep _ _ at3) (by rw [z3.1]; exact done)
    have told := PySem.W.exm_one (M := model X.prog X.w) here.kIn cl ans
    have name : ∀ {Q E : Value → Shared → Prop}, Q c { s1 with heap := h3 } → wpAny (model X.prog X.w) (X.A.mark (some (.ref e))) (eval (.Name x p) X.env) Q E { s1 with heap := h3 } := fun {Q E} done => by
      obtain ⟨g1, g2, g3 | ⟨g3, g4, g5⟩⟩ := nm
      · exact ld_glob (X := X.suite e ((e, o3) :: (X.pn ++ pins))) inS g1 g3 done g2
      · exact ld_blt (X := X.suite e ((e, o3) :: (X.pn ++ pins))) inS g1 g3 g4 done g5 g2
    refine name (told.here ?_)
    cases yes with
    | false =>
      show wpAny _ X.A (handleBy (.ref e) X.env hds2) _ _ _
      exact ih (no rfl)
    | true =>
      refine codeAny_handlers_suite_as (HandSPX.lands_againZ fl fun h4 fl4 u4 => ?_)
      have here4 : Inv X pins τ G { s1 with heap := h4 } := jj.landed nb fl4.1 ((up.trans u3).trans u4) os ag
      obtain ⟨o4, f4, at4, z4, d4⟩ := fl4.there
      refine store_ok (X := X.suite e ((e, o4) :: (X.pn ++ pins))) (v := .ref e) (here4.suite at4 d4 na outL outF) nd pl (.inl lo) rfl (fun s5 in5 => ?_) (.inr lo)
      have clear : ∀ {σ6 : L2.St} {H6 : Hp} {s6 : Shared} {Q : Shared → Prop}, Inv (X.suite e ((e, o4) :: (X.pn ++ pins))) [] σ6 H6 s6 → (∀ s7, Inv X pins (σ6.set i none) H6 s7 → Q s7) →
          wpAny (model X.prog X.w) X.A (do bindName X.env n .none; unbindBehindTheSuite X.env n q) (fun _ s7 => Q s7) X.xe s6 := fun in6 then_ => gone_ok (in6.unsuite ok) nd pl lo then_
      refine wpAny_mono ((su e o4 k dd (X.pn ++ pins) z4 ⟨_, d4⟩).run [] s5 _ G _ in5 (go rfl e na)) (fun f s6 end_ => ?_) (fun _ _ z => z.elim)
      cases f with
      | ret u =>
        obtain ⟨v6, _, _, in6, rel, fin⟩ := end_
        exact clear in6 fun s7 in7 => ⟨_, _, _, in7, rel, fin⟩
      | next =>
        obtain ⟨_, _, in6, fin⟩ := end_
        exact clear in6 fun s7 in7 => ⟨_, _, in7, fin⟩
      | brk =>
        obtain ⟨_, _, in6, fin⟩ := end_
        exact clear in6 fun s7 in7 => ⟨_, _, in7, fin⟩
      | cont =>
        obtain ⟨_, _, in6, fin⟩ := end_
        exact clear in6 fun s7 in7 => ⟨_, _, in7, fin⟩
theorem ps_try_named (st : X.stack = X.env :: X.outer) (fr : X.env.frame = some X.env.locals) (nd : X.N.Nodup) (tk : Takes X Wo)
    (bd : ∀ (W : WX) (pn : List (Addr × Obj)) (xe : Value → Shared → Prop), Takes (X.tr pn xe) W → PassesOwn (model X.prog X.w) X.A X.env xe → PSs (X.tr pn xe) body (tb W)) (cs : HdsN X (h0 :: hds) l) :
    PS X (.Try body (h0 :: hds) [] [] pos) (fun D σ H => tb (wNamed X.K Wo D l) D σ H) := by
  refine ⟨fun pins s σ H D I way => ?_⟩
  have ok := I.ok
  have seen : X.A.frames = some (X.env :: X.outer) := by rw [ok.frames, st]
  refine wpAny_Try_except ?_
  refine wpAny_mono ((bd (wNamed X.K Wo D l) (X.pn ++ pins) (fun u s₁ => wpAny (model X.prog X.w) X.A (noteFrame u X.env) (fun _ s₂ => wpAny (model X.prog X.w) X.A (setFlight u none)
    (fun _ s₃ => wpAny (model X.prog X.w) X.A (handleBy u X.env (h0 :: hds)) (SP X pins D) X.xe s₃) X.xe s₂) X.xe s₁) (fun u s' flies => ?_) PassesOwn.looking).run [] s σ H D (I.toTry _) way) (fun f s1 fin => ?_) (fun u s1 away => away)
  · obtain ⟨e, bs, s0, pp, τ, G, k, dd, rfl, jj, nb, up, sky, na, os, ag, w⟩ := flies
    refine Sky.land Zc.steady seen fr (by rw [← st]; exact sky) fun h3 fl u3 => ?_
    exact handle_named st fr nd tk ok (jj.ofTry ok) nb up os ag na u3 fl cs w
  · cases f with
    | ret u =>
      obtain ⟨v, _, _, j, rel, way2⟩ := fin
      exact ⟨v, _, _, j.ofTry ok, rel, way2⟩
    | next =>
      obtain ⟨_, _, j, way2⟩ := fin
      exact wpAny_execs_nil ⟨_, _, j.ofTry ok, way2⟩
    | brk =>
      obtain ⟨_, _, j, way2⟩ := fin
      exact ⟨_, _, j.ofTry ok, way2⟩
    | cont =>
      obtain ⟨_, _, j, way2⟩ := fin
      exact ⟨_, _, j.ofTry ok, way2⟩
end
end Lb

set_option Elab.async false
set_option linter.all false
set_option maxRecDepth 100000
set_option maxHeartbeats 4000000
/-! isinstance of a caught exception that has an own dict -/
namespace Lb
open PySem PySem.Spec PyProof.Rows L2
/-- isinstance(e, c), e held by the suite at a, an instance of D with the dict dd -/
def rIsX (K : PySem.W.Frag) (D a : Addr) (k : Value) (d : Option Addr) : List V → Hp → VK → Prop := fun xs H Q =>
  ∃ (c : V) (u : Value) (b : Bool) (dd : Addr) (fs : List (Str × V)), xs = [.ref a, c] ∧ k = .ref D ∧ d = some dd ∧ H dd = some (.xd fs) ∧ (∀ v, RelV c v → v = u) ∧ PySem.W.kitOne K (.ref D) u = some b ∧ Q (.bl b) H
theorem call_isX {X : Cx} {a D : Addr} {oe : Obj} {k : Value} {d : Option Addr} {pn : List (Addr × Obj)} (C : ExcC X.K D) (z : Zc k d oe) (f : ∃ vs, oe.data = .fields vs) : CallR (X.suite a ((a, oe) :: pn)) (.builtin "isinstance") (rIsX X.K D a k d) := by
  intro pins s σ H xs us Q I r h
  obtain ⟨c, u, b, dd, fs, rfl, rfl, rfl, ed, only, ans, q⟩ := h
  obtain ⟨u1, u2, rfl, r1, r2⟩ := vals2 r
  cases r1
  cases only _ r2
  obtain ⟨at_, _⟩ := I.pin (a, oe) (List.mem_append_left _ List.mem_cons_self)
  obtain ⟨mA, hns, _⟩ : ObjOk X.prog X.w H s.heap dd (.xd fs) := I.hok dd _ ed
  obtain ⟨od, ho, _⟩ := lookIn_ns hns
  obtain ⟨vs, hd⟩ := f
  have J : PySem.W.InstAt s.heap a oe D (some od) := ⟨at_, z.1, by unfold PySem.W.notCls; rw [hd] <;> rfl, by rw [z.2]; exact ho⟩
  have cl : (PySem.W.clsIn X.K D).isSome = true := by
    obtain ⟨cd, hc, _⟩ := PySem.W.any_some C.hd
    rw [hc]
    rfl
  exact PySem.W.kia_one (PySem.W.kitx_exc cl C.hg C.hk C.hs C.ha C.hn C.ht C.hm) I.kIn J ans (fun z => nomatch z) fun tk => ⟨.bl b, H, I.kept (t' := tk) fun _ _ z => z, rfl, q⟩
end Lb

set_option Elab.async false
set_option linter.all false
set_option maxRecDepth 100000
set_option maxHeartbeats 4000000
/-! texts cut at a sign: partition, split, removeprefix -/
namespace Lb
open PySem PyProof.Rows
/-- the text of these signs -/
def tx (l : List Nat) : Str := ⟨l.toArray⟩
theorem tx_list (l : List Nat) : (tx l).cps.toList = l := rfl
theorem tx_of (x : Str) : tx x.cps.toList = x := by
  cases x
  rfl
theorem tx_inj {a b : List Nat} (h : tx a = tx b) : a = b := by
  have := congrArg (fun x : Str => x.cps.toList) h
  exact this
theorem tx_app (a b : List Nat) : tx (a ++ b) = tx a ++ tx b := by
  show (⟨(a ++ b).toArray⟩ : Str) = ⟨a.toArray ++ b.toArray⟩
  simp
theorem tx_len (l : List Nat) : (tx l).length = l.length := List.size_toArray
/-- pieces put together -/
def glue (c : Nat) : List (List Nat) → List Nat
  | [] => []
  | [p] => p
  | p :: q :: r => p ++ c :: glue c (q :: r)
theorem glue_join (c : Nat) : ∀ ps : List Str, Str.join (tx [c]) ps = tx (glue c (ps.map fun p => p.cps.toList))
  | [] => rfl
  | [p] => (tx_of p).symm
  | p :: q :: r => by
    show p ++ tx [c] ++ Str.join (tx [c]) (q :: r) = tx (p.cps.toList ++ c :: glue c ((q :: r).map fun p => p.cps.toList))
    rw [glue_join c (q :: r), show p.cps.toList ++ c :: glue c ((q :: r).map fun p => p.cps.toList) = (p.cps.toList ++ [c]) ++ glue c ((q :: r).map fun p => p.cps.toList) by simp, tx_app, tx_app, tx_of]
theorem head_cut {c : Nat} : ∀ {a b x y : List Nat}, c ∉ a → c ∉ b → a ++ c :: x = b ++ c :: y → a = b ∧ x = y
  | [], [], _, _, _, _, h => ⟨rfl, (List.cons.inj h).2⟩
  | [], d :: b, _, _, _, hb, h => absurd (by rw [(List.cons.inj h).1]; simp) hb
  | d :: a, [], _, _, ha, _, h => absurd (by rw [← (List.cons.inj h).1]; simp) ha
  | d :: a, e :: b, x, y, ha, hb, h => by
    obtain ⟨h1, h2⟩ := List.cons.inj h
    obtain ⟨h3, h4⟩ := head_cut (fun m => ha (List.mem_cons_of_mem _ m)) (fun m => hb (List.mem_cons_of_mem _ m)) h2
    exact ⟨by rw [h1, h3], h4⟩
theorem glue_inj {c : Nat} : ∀ {ps qs : List (List Nat)}, ps ≠ [] → qs ≠ [] → (∀ p ∈ ps, c ∉ p) → (∀ p ∈ qs, c ∉ p) → glue c ps = glue c qs → ps = qs
  | [], _, h, _, _, _, _ => absurd rfl h
  | _, [], _, h, _, _, _ => absurd rfl h
  | [p], [q], _, _, _, _, h => by rw [show p = q from h]
  | [p], q :: r :: s, _, _, hp, _, h => absurd (by rw [show p = q ++ c :: glue c (r :: s) from h]; simp) (hp p (by simp))
  | p :: r :: s, [q], _, _, _, hq, h => absurd (by rw [show q = p ++ c :: glue c (r :: s) from h.symm]; simp) (hq q (by simp))
  | p :: p2 :: ps, q :: q2 :: qs, _, _, hp, hq, h => by
    obtain ⟨h1, h2⟩ := head_cut (hp p (by simp)) (hq q (by simp)) (show p ++ c :: glue c (p2 :: ps) = q ++ c :: glue c (q2 :: qs) from h)
    rw [h1, glue_inj (by simp) (by simp) (fun p h => hp p (List.mem_cons_of_mem _ h)) (fun p h => hq p (List.mem_cons_of_mem _ h)) h2]
/-- split tells the pieces -/
theorem split_pieces {c : Nat} {ps : List (List Nat)} (hn : ps ≠ []) (hf : ∀ p ∈ ps, c ∉ p) : Txt.split (tx (glue c ps)) (tx [c]) = ps.map tx := by
  have e := StrLaws.join_split (tx (glue c ps)) (tx [c])
  rw [glue_join] at e
  have e2 := tx_inj e
  have ne : Txt.split (tx (glue c ps)) (tx [c]) ≠ [] := fun z => by
    have := split_pos (tx (glue c ps)) (tx [c])
    rw [z] at this
    exact absurd this (by decide)
  have e3 := glue_inj (c := c) (by simpa using ne) hn (fun p hp => by
    obtain ⟨q, hq, rfl⟩ := List.mem_map.mp hp
    exact StrLaws.split_free (tx (glue c ps)) c q hq) hf e2
  have e4 := congrArg (List.map tx) e3
  rw [List.map_map] at e4
  have id_ : (tx ∘ fun p : Str => p.cps.toList) = id := funext tx_of
  rw [id_, List.map_id] at e4
  exact e4
/-- each text has its pieces -/
theorem pieces_of (c : Nat) : ∀ x : List Nat, ∃ ps : List (List Nat), ps ≠ [] ∧ (∀ p ∈ ps, c ∉ p) ∧ x = glue c ps
  | [] => ⟨[[]], by simp, by simp, rfl⟩
  | d :: x => by
    obtain ⟨ps, hn, hf, e⟩ := pieces_of c x
    by_cases h : d = c
    · subst h
      refine ⟨[] :: ps, by simp, fun p hp => ?_, ?_⟩
      · rcases List.mem_cons.mp hp with h | h
        · rw [h]; simp
        · exact hf p h
      · cases ps with
        | nil => exact absurd rfl hn
        | cons p r => rw [e]; rfl
    · cases ps with
      | nil => exact absurd rfl hn
      | cons p r =>
        refine ⟨(d :: p) :: r, by simp, fun q hq => ?_, ?_⟩
        · rcases List.mem_cons.mp hq with hq | hq
          · rw [hq]
            intro m
            rcases List.mem_cons.mp m with m | m
            · exact h m.symm
            · exact hf p (by simp) m
          · exact hf q (List.mem_cons_of_mem _ hq)
        · rw [e]
          cases r <;> rfl
theorem at_of {x : List Nat} {c i : Nat} : StrLaws.At (tx x) (tx [c]) (tx x).length i ↔ x[i]? = some c := by
  unfold StrLaws.At
  rw [StrLaws.subAt_eq]
  show (i + 1 ≤ (tx x).length ∧ ((x.drop i).take 1 == [c]) = true) ↔ _
  rw [tx_len]
  constructor
  · rintro ⟨h1, h2⟩
    have h2 := beq_iff_eq.mp h2
    have h3 : (x.drop i)[0]? = some c := by
      have := congrArg (fun l : List Nat => l[0]?) h2
      simpa using this
    simpa using h3
  · intro h
    have hi := (List.getElem?_eq_some_iff.mp h).1
    refine ⟨by omega, beq_iff_eq.mpr ?_⟩
    obtain ⟨_, e⟩ := List.getElem?_eq_some_iff.mp h
    rw [List.drop_eq_getElem_cons hi, e]
    rfl
/-- partition where the sign stands nowhere, and where it stands -/
theorem partition_none {x : List Nat} {c : Nat} (h : c ∉ x) : Txt.partition (tx x) (tx [c]) = (tx x, Str.empty, Str.empty) := by
  unfold Txt.partition
  rcases StrLaws.occ_head (tx x) (tx [c]) 1 (Nat.le_refl 1) with ⟨h0, _⟩ | ⟨i, r, _, hi, _⟩
  · rw [h0]
  · exact absurd (List.mem_of_getElem? (at_of.mp hi)) h
theorem partition_some {a b : List Nat} {c : Nat} (h : c ∉ a) : Txt.partition (tx (a ++ c :: b)) (tx [c]) = (tx a, tx [c], tx b) := by
  have ha : (a ++ c :: b)[a.length]? = some c := by simp
  unfold Txt.partition
  rcases StrLaws.occ_head (tx (a ++ c :: b)) (tx [c]) 1 (Nat.le_refl 1) with ⟨_, hn⟩ | ⟨i, r, h0, hi, hf⟩
  · exact absurd (at_of.mpr ha) (hn a.length)
  · have e : i = a.length := by
      rcases Nat.lt_trichotomy i a.length with q | q | q
      · have := at_of.mp hi
        rw [List.getElem?_append_left q] at this
        exact absurd (List.mem_of_getElem? this) h
      · exact q
      · exact absurd (at_of.mpr ha) (hf _ q)
    subst e
    rw [h0]
    show (Builtin.Str.strSub _ 0 a.length, tx [c], Builtin.Str.strSub _ (a.length + 1) _) = _
    rw [strSub_mk, strSub_mk, tx_list]
    have e1 : ((a ++ c :: b).drop 0).take (a.length - 0) = a := by simp
    have e2 : ((a ++ c :: b).drop (a.length + 1)).take ((tx (a ++ c :: b)).length - (a.length + 1)) = b := by
      rw [tx_len]
      simp
      rw [show a.length + (b.length + 1) - (a.length + 1) = b.length by omega, List.take_length]
    rw [e1, e2]
    rfl
/-- removeprefix of one sign -/
theorem removeprefix_one {x : List Nat} {c : Nat} : Txt.removeprefix (tx x) (tx [c]) = match x with
    | [] => tx []
    | d :: r => if d = c then tx r else tx (d :: r) := by
  rw [StrLaws.removeprefix_eq, StrLaws.subAt_eq, tx_len, tx_len]
  cases x with
  | nil => rfl
  | cons d r =>
    by_cases h : d = c
    · subst h
      simp [tx]
    · show (if (decide (0 + 1 ≤ (d :: r).length) && (List.take 1 (d :: r) == [c])) = true then _ else tx (d :: r)) = if d = c then tx r else tx (d :: r)
      rw [if_neg (by simp [h]), if_neg h]
end Lb

set_option Elab.async false
set_option linter.all false
set_option maxRecDepth 100000
set_option maxHeartbeats 4000000
/-! numbers written: which texts are written as the program writes them -/
namespace Lb
open PySem L2 NumText TL
theorem numL_head : ∀ n : Nat, 0 < n → (numL n).head? ≠ some 48 := by
  intro n
  induction n using Nat.strongRecOn with
  | ind n ih =>
    intro h
    by_cases h10 : n < 10
    · rw [numL_lt h10]
      intro z
      have := Option.some.inj z
      omega
    · rw [numL_step (by omega)]
      have ih := ih (n / 10) (by omega) (by omega)
      have ne := numL_ne (n / 10)
      cases e : numL (n / 10) with
      | nil => exact absurd e ne
      | cons d r =>
        rw [e] at ih
        exact ih
/-- no nought ahead -/
def canon (w : List Nat) : Prop := w = [48] ∨ w.head? ≠ some 48
instance (w : List Nat) : Decidable (canon w) := inferInstanceAs (Decidable (_ ∨ _))
theorem val_snoc (w : List Nat) (d : Nat) : digitsVal (w ++ [d]) = digitsVal w * 10 + (d - 48) := by
  unfold digitsVal
  rw [List.foldl_append]
  rfl
theorem numL_back : ∀ (k : Nat) (w : List Nat), w.length = k → AllDigits w → w ≠ [] → w.head? ≠ some 48 → 0 < digitsVal w ∧ numL (digitsVal w) = w
  | 0, w, hl, _, hn, _ => absurd (List.eq_nil_of_length_eq_zero hl) hn
  | k + 1, w, hl, hd, hn, hh => by
    obtain ⟨r, d, rfl⟩ : ∃ r d, w = r ++ [d] := ⟨w.dropLast, w.getLast hn, (List.dropLast_concat_getLast hn).symm⟩
    have hd1 : 48 ≤ d ∧ d ≤ 57 := hd d (by simp)
    rw [val_snoc]
    by_cases hr : r = []
    · subst hr
      have h48 : d ≠ 48 := fun z => hh (by rw [z]; rfl)
      have e0 : digitsVal [] = 0 := rfl
      rw [e0, Nat.zero_mul, Nat.zero_add, numL_lt (by omega)]
      refine ⟨by omega, ?_⟩
      rw [List.nil_append, show 48 + (d - 48) = d by omega]
    · have hr0 : r.head? ≠ some 48 := by
        cases r with
        | nil => exact absurd rfl hr
        | cons c s => exact hh
      obtain ⟨p, e⟩ := numL_back k r (by rw [List.length_append, List.length_singleton] at hl; omega) (fun c hc => hd c (List.mem_append_left _ hc)) hr hr0
      refine ⟨by omega, ?_⟩
      rw [numL_step (by omega), show (digitsVal r * 10 + (d - 48)) / 10 = digitsVal r by omega, show (digitsVal r * 10 + (d - 48)) % 10 = d - 48 by omega, e, show 48 + (d - 48) = d by omega]
theorem canon_iff {w : List Nat} (hd : AllDigits w) (hn : w ≠ []) : numL (digitsVal w) = w ↔ canon w := by
  constructor
  · intro e
    by_cases h : digitsVal w = 0
    · left
      rw [h] at e
      rw [← e]
      rfl
    · right
      rw [← e]
      exact numL_head _ (by omega)
  · rintro (h | h)
    · subst h
      rfl
    · exact (numL_back w.length w rfl hd hn h).2
/-- a whole number, written -/
def decL (t : Int) : List Nat := if t < 0 then 45 :: numL t.natAbs else numL t.natAbs
def shownL (t b : Int) : List Nat := if b = 1 then decL t else decL t ++ 47 :: decL b
def sgnI (neg : Bool) (n : Nat) : Int := if neg = true then -(n : Int) else (n : Int)
def preL (neg : Bool) : List Nat := if neg = true then [45] else []
theorem dig_no {w : List Nat} {c : Nat} (hd : AllDigits w) (h : c < 48 ∨ 57 < c) : c ∉ w := fun m => by
  have := hd c m
  omega
theorem val48 {w : List Nat} (hd : AllDigits w) (hn : w ≠ []) (hc : canon w) (h0 : digitsVal w = 0) : w = [48] := by
  rw [← (canon_iff hd hn).mpr hc, h0]
  rfl
theorem one_iff {neg : Bool} {w : List Nat} (hd : AllDigits w) (hn : w ≠ []) : decL (sgnI neg (digitsVal w)) = preL neg ++ w ↔ (canon w ∧ ¬ (neg = true ∧ w = [48])) := by
  unfold decL sgnI preL
  cases neg with
  | false =>
    simp only [Bool.false_eq_true, if_false, List.nil_append, false_and, not_false_eq_true, and_true]
    rw [if_neg (by omega), Int.natAbs_natCast]
    exact canon_iff hd hn
  | true =>
    simp only [if_true, true_and, Int.natAbs_neg, Int.natAbs_natCast]
    by_cases h0 : digitsVal w = 0
    · rw [h0, if_neg (by simp)]
      constructor
      · intro e
        exfalso
        have : (numL 0).head? = some 45 := by rw [e]; rfl
        revert this
        decide
      · rintro ⟨hc, h1⟩
        exact absurd (val48 hd hn hc h0) h1
    · rw [if_pos (by omega)]
      constructor
      · intro e
        have e := (List.cons.inj e).2
        refine ⟨(canon_iff hd hn).mp e, fun z => h0 ?_⟩
        rw [z]
        rfl
      · rintro ⟨hc, _⟩
        rw [(canon_iff hd hn).mpr hc]
        rfl
theorem dec_no47 (t : Int) : 47 ∉ decL t := by
  unfold decL
  split
  · intro m
    rcases List.mem_cons.mp m with m | m
    · exact absurd m (by decide)
    · exact numL_free (.inl (by decide)) m
  · exact numL_free (.inl (by decide))
theorem pre_no47 {neg : Bool} {w : List Nat} (hd : AllDigits w) : 47 ∉ preL neg ++ w := by
  intro m
  rcases List.mem_append.mp m with m | m
  · unfold preL at m
    split at m
    · exact absurd (List.mem_singleton.mp m) (by decide)
    · exact absurd m List.not_mem_nil
  · exact dig_no hd (.inl (by decide)) m
theorem two_iff {neg : Bool} {w v : List Nat} {t b : Int} (hd : AllDigits w) (hn : w ≠ []) (hdv : AllDigits v) (hnv : v ≠ []) (hm : 0 < digitsVal v) (hb : 0 < b) (hg : t.gcd b = 1) (e : sgnI neg (digitsVal w) * b = t * (digitsVal v : Int)) :
    (shownL t b = preL neg ++ w ++ 47 :: v ↔ (canon w ∧ canon v ∧ 2 ≤ digitsVal v ∧ Nat.gcd (digitsVal w) (digitsVal v) = 1)) ∧ (shownL t b = preL neg ++ w ++ 47 :: v → t = sgnI neg (digitsVal w) ∧ b = (digitsVal v : Int)) := by
  have gs : ∀ n m : Nat, (sgnI neg n).gcd (m : Int) = Nat.gcd n m := by
    intro n m
    unfold sgnI Int.gcd
    split <;> simp
  have fwd : shownL t b = preL neg ++ w ++ 47 :: v → (canon w ∧ canon v ∧ 2 ≤ digitsVal v ∧ Nat.gcd (digitsVal w) (digitsVal v) = 1) ∧ t = sgnI neg (digitsVal w) ∧ b = (digitsVal v : Int) := by
    intro h
    unfold shownL at h
    by_cases hb1 : b = 1
    · rw [if_pos hb1] at h
      exact absurd (by rw [h]; simp) (dec_no47 t)
    · rw [if_neg hb1] at h
      obtain ⟨h1, h2⟩ := head_cut (dec_no47 t) (pre_no47 hd) h
      have h2' : numL b.natAbs = v := by
        unfold decL at h2
        rw [if_neg (by omega)] at h2
        exact h2
      have vb : digitsVal v = b.natAbs := by rw [← h2', numL_val]
      have eb : b = (digitsVal v : Int) := by omega
      have et : t = sgnI neg (digitsVal w) := by
        rw [← eb] at e
        exact (Int.eq_of_mul_eq_mul_right (by omega) e).symm
      have cv : canon v := (canon_iff hdv hnv).mp (by rw [vb]; exact h2')
      rw [et] at h1 hg
      rw [eb, gs] at hg
      exact ⟨⟨((one_iff hd hn).mp h1).1, cv, by omega, hg⟩, et, eb⟩
  refine ⟨⟨fun h => (fwd h).1, ?_⟩, fun h => (fwd h).2⟩
  rintro ⟨cw, cv, h2, hg1⟩
  have lo := low_eq (t := sgnI neg (digitsVal w)) (b := (digitsVal v : Int)) (t' := t) (b' := b) (by omega) hb (by rw [gs]; exact hg1) hg e
  obtain ⟨et, eb⟩ := lo
  unfold shownL
  rw [← et, ← eb, if_neg (by omega)]
  have e1 : decL (sgnI neg (digitsVal w)) = preL neg ++ w := (one_iff hd hn).mpr ⟨cw, fun ⟨_, z⟩ => by
    rw [z] at hg1
    have : Nat.gcd (digitsVal [48]) (digitsVal v) = digitsVal v := Nat.gcd_zero_left _
    omega⟩
  have e2 : decL ((digitsVal v : Nat) : Int) = v := by
    unfold decL
    rw [if_neg (by omega), Int.natAbs_natCast]
    exact (canon_iff hdv hnv).mpr cv
  rw [e1, e2]
end Lb

set_option Elab.async false
set_option linter.all false
set_option maxRecDepth 100000
set_option maxHeartbeats 4000000
/-! C.m(e, ..), m a staticmethod that may raise, in the body of a try -/
namespace Lb
open PySem PySem.Spec PyProof.Rows L2
section
variable {X : Cx} {CX : CXT} {k : Nat} {C p g : Addr} {fd : FuncData} {ps : List Str} {sp : Sp} {E : L2.St → XK} {m : Str} {pos apos : Pos} {o e : Expr} {es : List Expr} {ta : TE} {t : TA}
def tSMethS (C : Addr) (sp : Sp) (E : L2.St → XK) (ta : TE) (t : TA) : TE := fun σ H Q => ta σ H fun x H1 => x = .ref C ∧ t σ H1 fun vs H2 => sp vs H2 Q (E σ)
theorem pe_smethS {pl : Sem Bool} (he : PE X o ta) (c : SMet X.K C m p g) (F : FnOk X.prog X.w X.K X.mg X.base CX k g fd ps sp) (hr : Room k X.A) (hb : Binds X.K fd ps []) (hx : ∀ σ, PassesAt CX X σ (E σ)) (ha : PA X (e :: es) t)
    (hst : starEach (e :: es) X.env = (false, eval e X.env) :: starEach es X.env := by rfl) (hpl : (backTo pos (starEach es X.env)).any (·.1) = false := by rfl)
    (ht : eval (.Call (.Attribute o m apos) (e :: es) [] pos) X.env = (do
      let ov ← eval o X.env
      standAt apos.atName
      let (f, first) ← holding [ov] (getMethod ov m pl)
      callWith pos f first (backTo pos (starEach (e :: es) X.env)) (backToKw pos (keywordEach [] X.env))) := by rfl) :
    PE X (.Call (.Attribute o m apos) (e :: es) [] pos) (tSMethS C sp E ta t) := by
  refine ⟨fun pins s σ H Q I h => ?_⟩
  refine PySem.W.methodCall_KW (pl := pl) (thn (he.run pins s σ H _ I h) fun u s1 ⟨x, H1, I1, rx, ex, q⟩ => ?_) ht
  subst ex
  obtain rfl : u = Value.ref C := rx
  refine getsm_ok I1 c fun s2 I2 => ?_
  refine PySem.W.callWith_K (first := []) (h₀ := X.base) I.ok.mod.kin c.kp (thn (ha.run pos pins s2 σ H1 _ I2 q) fun us s3 ⟨vs, H2, I3, rv, q2⟩ => ⟨I3.kIn, ?_⟩) hst hpl
  exact run_fnS F hr hb (hx σ) I3 rv q2
end
end Lb

set_option Elab.async false
set_option linter.all false
set_option maxRecDepth 100000
set_option maxHeartbeats 4000000
/-! C.m(k = v, ..), m a staticmethod that may raise, in the body of a try -/
namespace Lb
open PySem PySem.Spec PyProof.Rows L2
section
variable {X : Cx} {CX : CXT} {k : Nat} {f C p g : Addr} {fd : FuncData} {ps ks : List Str} {sp : Sp} {E : L2.St → XK} {m : Str} {pos apos : Pos} {o : Expr} {kws : List Keyword} {ta : TE} {tk : TA} {gf : List Value → List Value → List Value} {gV : List V → List V → List V}
theorem run_kbnS {n : Nat} {pins : List (Addr × Obj)} {σ : L2.St} {H : Hp} {s : Shared} {Q : VK} {us ws : List Value} {vs zs : List V} (F : FnOk X.prog X.w X.K X.mg X.base CX k f fd ps sp) (hr : Room k X.A) (hb : KBn X.K fd ps n ks gf gV) (hx : PassesAt CX X σ (E σ))
    (I : Inv X pins σ H s) (r : Vals vs us) (rz : Vals zs ws) (l1 : vs.length = n) (l2 : zs.length = ks.length) (h : sp (gV vs zs) H Q (E σ)) : wpAny (model X.prog X.w) X.A (call (.ref f) us (ks.zip ws)) (EP X pins σ Q) X.xe s := by
  refine wpAny_call (codeAny_mono (F.run X.A X.stack s H ⟨us, ks.zip ws⟩ (gf us ws) (gV vs zs) Q (E σ) hr I.env0 (hb.to s us ws I.kIn (r.length.symm.trans l1) (rz.length.symm.trans l2)) (hb.rel r rz) h) fun r s' hq => ?_)
  cases r with
  | error e => exact hx pins H s e s' I hq
  | ok fl =>
    cases fl with
    | ret u => exact I.after hq
    | next => exact False.elim hq
    | brk => exact False.elim hq
    | cont => exact False.elim hq
def tSMethKS (C : Addr) (nk : Nat) (sp : Sp) (gV : List V → List V → List V) (E : L2.St → XK) (ta : TE) (tk : TA) : TE := fun σ H Q => ta σ H fun x H1 => x = .ref C ∧ tk σ H1 fun zs H2 => zs.length = nk ∧ sp (gV [] zs) H2 Q (E σ)
theorem pe_smethKS {pl : Sem Bool} (he : PE X o ta) (c : SMet X.K C m p g) (F : FnOk X.prog X.w X.K X.mg X.base CX k g fd ps sp) (hr : Room k X.A) (hb : KBn X.K fd ps 0 ks gf gV) (hx : ∀ σ, PassesAt CX X σ (E σ)) (hkw : PK X kws tk)
    (hall : (backToKw pos (keywordEach kws X.env)).all (·.1.isSome) = true := by rfl) (hks : (backToKw pos (keywordEach kws X.env)).filterMap (·.1) = ks := by rfl)
    (hpl : ((backTo pos (starEach [] X.env)).any (·.1) || (backToKw pos (keywordEach kws X.env)).any (·.1.isNone)) = false := by rfl)
    (ht : eval (.Call (.Attribute o m apos) [] kws pos) X.env = (do
      let ov ← eval o X.env
      standAt apos.atName
      let (f, first) ← holding [ov] (getMethod ov m pl)
      callWith pos f first (backTo pos (starEach [] X.env)) (backToKw pos (keywordEach kws X.env))) := by rfl) :
    PE X (.Call (.Attribute o m apos) [] kws pos) (tSMethKS C ks.length sp gV E ta tk) := by
  refine ⟨fun pins s σ H Q I h => ?_⟩
  refine PySem.W.methodCall_KW (pl := pl) (thn (he.run pins s σ H _ I h) fun u s1 ⟨x, H1, I1, rx, ex, q⟩ => ?_) ht
  subst ex
  obtain rfl : u = Value.ref C := rx
  refine getsm_ok I1 c fun s2 I2 => ?_
  refine PySem.W.callWith_KW0 (first := []) (h₀ := X.base) I.ok.mod.kin c.kp hall ?_ hpl
  refine thn (hkw.run pos pins s2 σ H1 _ I2 q) fun ws s3 ⟨zs, H2, I3, rz, l2, q2⟩ => ⟨I3.kIn, ?_⟩
  rw [hks]
  exact run_kbnS (us := []) (vs := []) F hr hb (hx σ) I3 .nil rz rfl l2 q2
end
end Lb

set_option Elab.async false
set_option linter.all false
set_option maxRecDepth 100000
set_option maxHeartbeats 2000000
/-! own error classes: what except and isinstance say -/
namespace Lb
open PySem L2
theorem exm_sub {K : PySem.W.Frag} {S C : Addr} (h1 : PySem.W.subIn K (.ref S) (.type "BaseException") = some true) (e1 : PySem.W.subIn K (.ref C) (.type "BaseException") = some true) (h2 : PySem.W.isClsIn K C = true) (h3 : PySem.W.typeIn K (.ref C) = some (.type "type")) (h4 : PySem.W.subIn K (.ref S) (.ref C) = some b) :
    PySem.W.exmOne K (.ref S) (.ref C) = some b := by
  have e1 : (PySem.W.subIn K (.ref C) (.type "BaseException") == some true) = true := by rw [e1] <;> rfl
  have e2 : ((PySem.W.clsIn K C).isSome && PySem.W.typeIn K (.ref C) == some (.type "type")) = true := by
    have h2' : (PySem.W.clsIn K C).isSome = true := h2
    rw [h2', h3] <;> rfl
  show (if (PySem.W.subIn K (.ref C) (.type "BaseException") == some true) = true then (if ((PySem.W.clsIn K C).isSome && PySem.W.typeIn K (.ref C) == some (.type "type")) = true then PySem.W.subIn K (.ref S) (.ref C) else none) else none) = some b
  rw [if_pos e1, if_pos e2]
  exact h4
theorem kit_sub {K : PySem.W.Frag} {A C : Addr} (h1 : PySem.W.isClsIn K C = true) (h2 : PySem.W.typeIn K (.ref C) = some (.type "type")) (h3 : PySem.W.subIn K (.ref A) (.ref C) = some true) :
    PySem.W.kitOne K (.ref A) (.ref C) = some true := by
  unfold PySem.W.kitOne
  split
  · rfl
  · unfold PySem.W.kitCls
    have h1' : (PySem.W.clsIn K C).isSome = true := h1
    dsimp only
    rw [h1', h2]
    rw [if_pos (by simp)]
    exact h3
end Lb

set_option Elab.async false
set_option linter.all false
set_option maxRecDepth 100000
set_option maxHeartbeats 4000000
/-! repr of what is told in one of several ways; repr of a dict of plain data -/
namespace Lb
open PySem PySem.Spec PyProof.Rows L2
theorem callR_or {X : Cx} {f : Value} {r1 r2 : List V → Hp → VK → Prop} (h1 : CallR X f r1) (h2 : CallR X f r2) : CallR X f (fun xs H Q => r1 xs H Q ∨ r2 xs H Q) := by
  intro pins s σ H xs us Q I r h
  rcases h with h | h
  · exact h1 pins s σ H xs us Q I r h
  · exact h2 pins s σ H xs us Q I r h
/-- a call that is never reached -/
theorem callR_never {X : Cx} {f : Value} : CallR X f (fun _ _ _ => False) := fun _ _ _ _ _ _ _ _ _ h => h.elim
def keyD : Key → PyData
  | .inl i => .int i
  | .inr x => .str x
mutual
def flatD : PyData → Bool
  | .list _ => false
  | .dict _ => false
  | .tuple ds => flatDs ds
  | _ => true
def flatDs : List PyData → Bool
  | [] => true
  | d :: ds => flatD d && flatDs ds
end
mutual
theorem reads_flat {h : Heap} : ∀ {v : Value} {d : PyData} {as : List Addr}, Reads h v d as → flatD d = true → as = []
  | _, _, _, .none, _ => rfl
  | _, _, _, .bool _, _ => rfl
  | _, _, _, .int _ _, _ => rfl
  | _, _, _, .str _ _, _ => rfl
  | _, _, _, .list _ _ _ _, f => by simp [flatD] at f
  | _, _, _, .tuple _ _ _ r, f => reads_flats r (by simpa [flatD] using f)
  | _, _, _, .dict _ _ _ _ _, f => by simp [flatD] at f
theorem reads_flats {h : Heap} : ∀ {vs : List Value} {ds : List PyData} {as : List Addr}, ReadsAll h vs ds as → flatDs ds = true → as = []
  | _, _, _, .nil, _ => rfl
  | _, _, _, .cons r1 r2, f => by
    simp only [flatDs, Bool.and_eq_true] at f
    rw [reads_flat r1 f.1, reads_flats r2 f.2]
    rfl
end
theorem dpAll_len {K : PySem.W.Frag} {H : Hp} : ∀ {vs : List V} {ds : List PyData}, DpAll K H vs ds → vs.length = ds.length
  | _, _, .nil => rfl
  | _, _, .cons _ h => by rw [List.length_cons, List.length_cons, dpAll_len h]
theorem keys_flat : ∀ kvs : List (Key × V), flatDs (kvs.map fun q => keyD q.1) = true
  | [] => rfl
  | (k, _) :: r => by
    simp only [List.map_cons, flatDs, keys_flat r, Bool.and_true]
    cases k <;> rfl
section
variable {X : Cx} {pins : List (Addr × Obj)} {σ : L2.St} {H : Hp} {s : Shared}
theorem keys_read {P : Program} {w : World} {h : Heap} : ∀ {kvs : List (Key × V)} {vs : List (Key × Value)} {es : List DictEntry}, KV kvs vs → Pairs (mixKind P w) es vs → ∃ as, ReadsAll h (es.map (·.key)) (kvs.map fun q => keyD q.1) as := by
  intro kvs vs es r
  induction r generalizing es with
  | nil =>
    intro h3
    cases h3
    exact ⟨_, .nil⟩
  | @cons p q ps qs h1 _ ih =>
    intro h3
    cases h3 with
    | @cons e _ es2 _ hk hval hv =>
      obtain ⟨as, r2⟩ := ih hv
      have r1 : Reads h e.key (keyD p.1) [] := by
        rw [h1.1]
        rcases keyIs_shape (show keyIs _ _ = true from hk) with ⟨i, t, e1, e2⟩ | ⟨x, t, e1, e2⟩
        · rw [e1, e2]; exact .int i t
        · rw [e1, e2]; exact .str x t
      exact ⟨_, .cons r1 r2⟩
theorem vals_kv : ∀ {kvs : List (Key × V)} {vs : List (Key × Value)}, KV kvs vs → Vals (kvs.map (·.2)) (vs.map (·.2)) := by
  intro kvs vs r
  induction r with
  | nil => exact .nil
  | cons h1 _ ih => exact .cons h1.2 ih
theorem vals_es {P : Program} {w : World} : ∀ {vs : List (Key × Value)} {es : List DictEntry}, Pairs (mixKind P w) es vs → es.map (·.val) = vs.map (·.2) := by
  intro vs es h
  induction h with
  | nil => rfl
  | cons _ hv _ ih => rw [List.map_cons, List.map_cons, ih, hv]
/-- a tracked dict of plain data reads as such -/
theorem dict_reads (I : Inv X pins σ H s) {a : Addr} {kvs : List (Key × V)} {ds : List PyData} (e : H a = some (.dK kvs)) (hd : DpAll X.K H (kvs.map (·.2)) ds) (f : flatDs ds = true) :
    Reads s.heap (.ref a) (.dict ((kvs.map fun q => keyD q.1).zip ds)) [a] ∧ sysModules ≠ a := by
  obtain ⟨_, hsm, vs, r, o, es, ep, h1, h2, h3, _, h5, _⟩ := dk_of I.hok e
  obtain ⟨as, r1⟩ := keys_read (h := s.heap) r h5
  have ve : es.toList.map (·.val) = vs.map (·.2) := vals_es h5
  obtain ⟨bs, r2⟩ := Dp.readsAll I ds _ _ hd (vals_kv r)
  have e1 := reads_flats r1 (keys_flat kvs)
  have e2 := reads_flats r2 f
  subst e1
  subst e2
  have ln : (kvs.map fun q => keyD q.1).length = ds.length := by
    have := dpAll_len hd
    rw [List.length_map] at this ⊢
    exact this
  refine ⟨?_, fun z => ?_⟩
  · have q := Reads.dict (as := []) (bs := []) (kvs := (kvs.map fun q => keyD q.1).zip ds) h1 h2.1 h3 (by rw [List.map_fst_zip (Nat.le_of_eq ln)]; exact r1) (by rw [List.map_snd_zip (Nat.le_of_eq ln.symm), ve]; exact r2)
    exact q
  · rw [z] at hsm
    simp at hsm
end
section
variable {X : Cx}
/-- repr(d), d a tracked dict of plain data -/
def rReprDc (K : PySem.W.Frag) : List V → Hp → VK → Prop := fun xs H Q =>
  ∃ a kvs ds, xs = [.ref a] ∧ H a = some (.dK kvs) ∧ DpAll K H (kvs.map (·.2)) ds ∧ flatDs ds = true ∧ (PyData.dict ((kvs.map fun q => keyD q.1).zip ds)).showable = true ∧ (PyData.dict ((kvs.map fun q => keyD q.1).zip ds)).shown.length ≤ sizeLine ∧
    (PyData.dict ((kvs.map fun q => keyD q.1).zip ds)).depth ≤ 60 ∧ Q (.str (PyData.dict ((kvs.map fun q => keyD q.1).zip ds)).shown) H
theorem call_reprDc {K : PySem.W.Frag} (hK : X.K = K) (hg : X.A.guards = some []) (hu : X.A.units + 64 < cLine) : CallR X (.builtin "repr") (rReprDc K) := by
  subst hK
  intro pins s σ H xs us Q I r h
  obtain ⟨a, kvs, ds, rfl, e, hd, f, sh, hz, dp, q⟩ := h
  obtain ⟨u, rfl, ru⟩ := vals1 r
  cases (show u = Value.ref a from ru)
  obtain ⟨rd, ne⟩ := dict_reads I e hd f
  refine PySem.repr_of_reads' rd sh (fun _ z => ne (List.mem_singleton.mp z)) hg (by omega) (fun _ _ e => e) (fun h' w tk k => ?_) hz
  exact ⟨.str _, H, I.kept k, ⟨_, rfl⟩, q⟩
end
end Lb

set_option Elab.async false
set_option linter.all false
set_option maxRecDepth 100000
set_option maxHeartbeats 4000000
/-! defs that raise nothing, called while an exception is handled -/
namespace Lb
open PySem PySem.Spec PyProof.Rows L2
open L2H (RoomH PinOk cxH inv_startH)
structure FnQ (P : Program) (w : World) (K : PySem.W.Frag) (mg : Str → Option Value) (base : Heap) (k : Nat) (f : Addr) (fd : FuncData) (ps : List Str) (sp : Sp) : Prop where
  len : ∀ vs H Q E, sp vs H Q E → vs.length = ps.length
  run : ∀ (A : Around) (outer : List Env) (s : Shared) (H : Hp) (args : Args) (us : List Value) (vs : List V) (Q : VK) (p : Addr × Obj), RoomH k A → PinOk outer H s p → Env0 P w K mg base A outer s H →
    BindsTo s fd args (ps.zip us) → Vals vs us → sp vs H Q E0 → codeAny (model P w) A (.call (.ref f) args) (CR CX0 outer P w H s Q E0) s
section
variable {P : Program} {w : World} {K : PySem.W.Frag} {mg : Str → Option Value} {base : Heap} {k j : Nat} {f : Addr} {fd : FuncData} {ps : List Str} {sp : Sp}
theorem FnQ.mono (F : FnQ P w K mg base j f fd ps sp) (h : j ≤ k) : FnQ P w K mg base k f fd ps sp :=
  ⟨F.len, fun A outer s H args us vs Q p hr => F.run A outer s H args us vs Q p (hr.mono h)⟩
theorem okQ {x qual : Str} {st : Stmt} {N : List Str} (F : Fun K x qual st f fd) (S : FnScope N ps (defScope st)) (len : ∀ vs H Q E, sp vs H Q E → vs.length = ps.length)
    (hbody : ∀ (cdv : Value) (A : Around) (outer : List Env) (s : Shared) (H : Hp) (vs : List V) (Q : VK) (p : Addr × Obj), RoomH k (A.deeper (envOfC qual (defScope st) s.heap.objs.size f cdv)) → sp vs H Q E0 →
      ∃ t, PSs (cxH CX0 P w K mg base N qual (defScope st) f cdv A outer s H E0 p) (defBody st) t ∧ t { nx := fun _ H' => Q .non H', rt := Q } (start N vs) H) :
    FnQ P w K mg base (k + 1) f fd ps sp := by
  obtain ⟨oc, od, kV, doc, pm, an, cdv, ct, osl, rfl, lk, hcd⟩ := F.ex
  refine ⟨len, fun A outer s H args us vs Q p room pin e0 bnd r way => ?_⟩
  have same_len := len vs H Q E0 way
  have inK : K.In s.heap := e0.mod.kin.keeps fun b o e => (e0.bs b o e).1
  have noLim : s.heap.NoLimit := e0.mod.nolimit.keeps fun b o e => (e0.bs b o e).1
  refine codeAny_call_function room.depth (inK _ _ lk) rfl S.co S.gen rfl (PySem.W.codeRec_of inK hcd) (bnd _ _ _ _ ?_)
  refine wpAny_newFunctionEnv_cells S.kind ?_ fun env he s1 y => ?_
  · rintro ⟨n, v⟩ hy
    rcases S.par n (List.of_mem_zip hy).1 with q | q
    · exact .inl q
    · exact .inr ⟨q, PySem.W.cellsFrom_some _ _ _ (.inl q)⟩
  · subst he
    refine ⟨noLim.keeps y.toInCall.keep, codeAny_func ?_⟩
    obtain ⟨t, ht, hq⟩ := hbody cdv A outer s H vs Q p (room.deeper _) way
    have I := inv_startH (CX := CX0) (E := E0) S pin e0 same_len r y
    refine wpAny_mono (ht.run [] s1 (start N vs) H _ I hq) (fun fl s' hs => ?_) fun _ _ hs => hs
    cases fl with
    | ret u => exact let ⟨v, _, H', J, rv, q⟩ := hs; ⟨v, H', J.os, J.bare, J.base, J.hok, rv, q⟩
    | next => exact let ⟨_, H', J, q⟩ := hs; ⟨V.non, H', J.os, J.bare, J.base, J.hok, rfl, q⟩
    | brk => exact hs.elim fun _ h => h.elim fun _ h => h.2.elim
    | cont => exact hs.elim fun _ h => h.elim fun _ h => h.2.elim
end
section
variable {X : Cx} {k : Nat} {f C g : Addr} {fd : FuncData} {ps : List Str} {sp : Sp} {x m : Str} {q pos apos : Pos} {e o : Expr} {es : List Expr} {ta : TE} {t : TA}
theorem run_atQ {pins : List (Addr × Obj)} {σ : L2.St} {H : Hp} {s : Shared} {A : Around} {Q : VK} {us : List Value} {vs : List V} (F : FnQ X.prog X.w X.K X.mg X.base k f fd ps sp) (hr : RoomH k A) (hc : ∃ p, p ∈ X.pn) (e0 : Env0 X.prog X.w X.K X.mg X.base A X.stack s H)
    (hb : Binds X.K fd ps []) (I : Inv X pins σ H s) (r : Vals vs us) (h : sp vs H Q E0) :
    codeAny (model X.prog X.w) A (.call (.ref f) ⟨us, []⟩) (fun r s' => match r with | .ok (.ret v) => EP X pins σ Q v s' | .ok _ => False | .error e => X.xe e s') s := by
  obtain ⟨p, hp⟩ := hc
  have ln : us.length = ps.length := by rw [← r.length]; exact F.len _ _ _ _ h
  have b := hb s us I.kIn (by rw [List.append_nil]; exact ln)
  rw [List.append_nil] at b
  have here := I.pin p (List.mem_append_left _ hp)
  have pin : PinOk X.stack H s p := ⟨here.1, here.2.1, fun z => (List.mem_cons.mp (I.stkSub p.1 z)).elim here.2.2.1 here.2.2.2.1, here.2.2.2.2⟩
  refine codeAny_mono (F.run A X.stack s H ⟨us, []⟩ us vs Q p hr pin e0 b r h) fun r s' z => ?_
  rcases r with er | fl
  · first | exact z.elim | (cases er <;> first | exact I.after z | exact z.elim)
  · first | (cases fl <;> first | exact I.after z | exact z.elim) | exact z.elim
theorem pe_callQ (F : FnQ X.prog X.w X.K X.mg X.base k f fd ps sp) (hr : RoomH k X.A) (hc : ∃ p, p ∈ X.pn) (hg : Gl X x) (hm : X.mg x = some (.ref f)) (hk : PySem.W.keepIn X.K (.ref f) = true) (hb : Binds X.K fd ps []) (ha : PA X (e :: es) t)
    (hdb : (x == ("__debug__" : Str)) = false := by decide) (he : starEach (e :: es) X.env = (false, eval e X.env) :: starEach es X.env := by rfl) (hpl : (backTo pos (starEach es X.env)).any (·.1) = false := by rfl) :
    PE X (.Call (.Name x q) (e :: es) [] pos) (tCall sp [] E0 t) := by
  refine ⟨fun pins s σ H Q I h => wpAny_Call_Name_kw (ld_glob I hg hm ?_ hdb)⟩
  refine PySem.W.callWith_K (h₀ := X.base) I.ok.mod.kin hk (thn (ha.run pos pins s σ H _ I h) fun us s1 z => ?_) he hpl
  obtain ⟨vs, H1, I1, r, z⟩ := z
  rw [List.append_nil] at z
  refine ⟨I1.kIn, wpAny_call (codeAny_mono (run_atQ F hr hc I1.env0 hb I1 r z) fun r s' y => ?_)⟩
  rcases r with er | fl
  · exact y
  · cases fl <;> first | exact y | exact y.elim
/-- repr(x) there, x an instance whose class has __repr__ -/
theorem call_reprQ (hs : PySem.W.findIn X.K (.ref C) "__repr__" = some (some (.ref g))) (hf : PySem.W.isFn X.K (.ref g) = true)
    (F : FnQ X.prog X.w X.K X.mg X.base k g fd ["self"] sp) (hr : RoomH (k + 1) X.A) (hc : ∃ p, p ∈ X.pn) (hb : Binds X.K fd ["self"] []) : CallR X (.builtin "repr") (rOwnTx C sp E0) := by
  intro pins s σ H xs us Q I r h
  obtain ⟨a, dx, fs, rfl, ha, z⟩ := h
  obtain ⟨u, rfl, ru⟩ := vals1 r
  cases (show u = Value.ref a from ru)
  obtain ⟨od, J⟩ := inst_at I ha
  have hu := hr.un
  have hr1 : RoomH k X.A.in1 := ⟨by have := hr.dp; show X.A.depth + 3 * k + 5 < _; omega, by show X.A.units + 1 + 16 * k + 200 < _; omega⟩
  refine Calls.call_function_entry PySem.F.kind_repr PySem.F.plain_repr PySem.F.entry_repr (PySem.F.args_repr1 _) ?_
  unfold Builtin.«repr»
  refine wpAny_bind (m := oneArg "repr" _) (wpAny_pure ?_)
  refine wpAny_bind (m := cRoomFor _ _) (wpAny_cRoomFor (by show X.A.units + 1 < cLine; omega) ?_)
  refine wpAny_bind (wpAny_bind (J.type.here ((PySem.W.looks_findIn I.kIn hs).here ?_)))
  refine wpAny_bind (m := callSpecialIfBound? (.ref a) (Str.ofString "__repr__")) (PySem.W.ifBound_K I.kIn J hs hf ?_)
  refine wpAny_mono (wpAny_call (codeAny_mono (run_atQ (us := [.ref a]) (vs := [.ref a]) F hr1 hc I.env0.in1 hb I (.cons rfl .nil) z) fun r s' y => y)) (fun w s' z => ?_) fun _ _ x => x
  obtain ⟨z', H', I', rz, y, ez, qz⟩ := z
  subst ez
  obtain ⟨t, rfl⟩ := (show ∃ t, w = Value.str y t from rz)
  refine wpAny_bind (wpAny_isInstance (T := "str") (b := true) rfl isSubtype_str_str ?_)
  exact wpAny_pure ⟨_, rfl, .str y, H', I', ⟨t, rfl⟩, qz⟩
end
end Lb

set_option Elab.async false
set_option linter.all false
set_option maxRecDepth 100000
set_option maxHeartbeats 4000000
/-! lambdas: the maker's rule, the law's call with tables of code objects -/
namespace Lb
open PySem PySem.Spec PyProof.Rows L2
open LamX (TabB Tabs TabS CodeO ExtN)
/-- σ has its length wherever an exception is taken -/
theorem takes_len {X : Cx} {W : WX} (t : Takes X W) : Takes X (fun c d σ H => σ.length = X.N.length → W c d σ H) := fun u s' ⟨a, B, sI, pins, σ, H, cls, d, e, I, nb, up, sky, na, os, ag, w⟩ =>
  t u s' ⟨a, B, sI, pins, σ, H, cls, d, e, I, nb, up, sky, na, os, ag, w I.len⟩
/-- a def that makes lambdas: its code object is known -/
theorem okGL {P : Program} {w : World} {K : PySem.W.Frag} {mg : Str → Option Value} {base : Heap} {CX : CXT} {k : Nat} {f c : Addr} {fd : FuncData} {ps : List Str} {sp : Sp} {x qual : Str} {st : Stmt} {N : List Str} (F : Fun K x qual st f fd) (hcode : fd.code = .ref c) (S : FnScope N ps (defScope st))
    (len : ∀ vs H Q E, sp vs H Q E → vs.length = ps.length)
    (hbody : ∀ (A : Around) (outer : List Env) (s : Shared) (H : Hp) (vs : List V) (Q : VK) (E : XK),
      (A.deeper (envOfC qual (defScope st) s.heap.objs.size f (.ref c))).guards = some [] → Room k (A.deeper (envOfC qual (defScope st) s.heap.objs.size f (.ref c))) → sp vs H Q E →
      ∃ t, PSs (cxOf CX P w K mg base N qual (defScope st) f (.ref c) A outer s H E).nox (defBody st) t ∧ t { nx := fun _ H' => Q .non H', rt := Q } (start N vs) H) :
    FnG P w K mg base CX (k + 1) f fd ps sp := by
  obtain ⟨oc, od, kV, doc, pm, an, cdv, ct, osl, rfl, lk, hcd⟩ := F.ex
  obtain rfl : cdv = .ref c := hcode
  refine ⟨len, fun A outer s H args us vs Q E hgu room e0 bnd r way => ?_⟩
  have same_len := len vs H Q E way
  have inK : K.In s.heap := e0.mod.kin.keeps fun b o e => (e0.bs b o e).1
  have noLim : s.heap.NoLimit := e0.mod.nolimit.keeps fun b o e => (e0.bs b o e).1
  refine codeAny_call_function room.depth (inK _ _ lk) rfl S.co S.gen rfl (PySem.W.codeRec_of inK hcd) (bnd _ _ _ _ ?_)
  refine wpAny_newFunctionEnv_cells S.kind ?_ fun env he s1 y => ?_
  · rintro ⟨n, v⟩ hy
    rcases S.par n (List.of_mem_zip hy).1 with q | q
    · exact .inl q
    · exact .inr ⟨q, PySem.W.cellsFrom_some _ _ _ (.inl q)⟩
  · subst he
    refine ⟨noLim.keeps y.toInCall.keep, codeAny_func ?_⟩
    have gd : (A.deeper (envOfC qual (defScope st) s.heap.objs.size f (.ref c))).guards = some [] := by
      first
        | exact hgu
        | simpa [Around.deeper] using hgu
    obtain ⟨t, ht, hq⟩ := hbody A outer s H vs Q E gd (room.deeper _) way
    have I := inv_start (CX := CX) (E := E) S room.hd e0 same_len r y
    refine wpAny_mono (ht.nox.run [] s1 (start N vs) H _ I hq) (fun fl s' hs => ?_) fun _ _ hs => hs
    cases fl with
    | ret u => exact let ⟨v, _, H', J, rv, q⟩ := hs; ⟨v, H', J.os, J.bare, J.base, J.hok, rv, q⟩
    | next => exact let ⟨_, H', J, q⟩ := hs; ⟨V.non, H', J.os, J.bare, J.base, J.hok, rfl, q⟩
    | brk => exact hs.elim fun _ h => h.elim fun _ h => h.2.elim
    | cont => exact hs.elim fun _ h => h.elim fun _ h => h.2.elim
/-- what is tracked when the law is called: the script, the empty tables -/
def StartH (a : Addr) (cs : List (Addr × Addr)) (H : Hp) : Prop := ∀ b u, H b = some u → (b = a ∧ ∃ o xs, u = .frz o (.lst xs)) ∨ (b ∈ cs.map (·.2) ∧ u = .tbl #[])
theorem law_callTG {P : Program} {w : World} {K : PySem.W.Frag} {mg mb : Str → Option Value} {k : Nat} {fa a : Addr} {cs : List (Addr × Addr)} {fd : FuncData} {x : Str} {sp : Sp} {s1 : Shared} {vs : List Value} {ns : List Int}
    (KX : K.In s1.heap) (hns : s1.heap.Ns mainGlobals mg) (hb : s1.heap.Ns builtinsNs mb) (hbb : ∀ x : Str, x ≠ "__name__" → mb x = bootBuiltins x) (hlim : s1.heap.NoLimit) (hg : s1.gens = #[])
    (tabs : ∀ p ∈ cs, PySem.W.CodeHd s1.heap p.1 p.2 ∧ s1.heap.get? p.2 = some (PySem.W.tabObj #[])) (nK : ∀ p ∈ cs, K.lookup p.2 = none)
    (bmain : ∃ (bm : Addr) (ob : Obj), mg "__builtins__" = some (.ref bm) ∧ bm ≠ builtinsNs ∧ s1.heap.get? bm = some ob ∧ ob.cls = .type "module" ∧ ob.dict = some builtinsNs ∧ ob.data = .plain)
    (ha : s1.heap.get? a = some { cls := .type "list", data := .seq vs.toArray }) (hi : IntsAre vs ns) (hl : ns.length ≤ sizeLine) (hr : Room k callerA)
    (F : ∀ base : Heap, K.In base → base.Ns mainGlobals mg → (∀ p ∈ cs, TabB base mg p.1 p.2) → FnG P w K mg base CX0 k fa fd [x] sp) (hbind : ∀ (s : Shared) (u : Value), BindsTo s fd ⟨[u], []⟩ [(x, u)])
    (hsp : ∀ H : Hp, (∀ p ∈ cs, H p.2 = some (.tbl #[])) → SqL K H a (ns.map V.int) → sp [.ref a] H (fun v _ => v = .bl true) fun _ _ _ => False) :
    codeAny (model P w) callerA (.call (.ref fa) ⟨[.ref a], []⟩) (fun r s' => r = .ok (.ret (.bool true)) ∧ OldK s1.heap s'.heap ∧ s'.os = s1.os ∧ AllBare s'.gens) s1 := by
  have rv := vals_ints hi
  have isTab : ∀ b, b ∈ cs.map (·.2) → ∃ p ∈ cs, p.2 = b := fun b hb => List.mem_map.mp hb
  have apart : a ∉ cs.map (·.2) := fun z => by
    obtain ⟨p, hp, e⟩ := isTab a z
    have q := (tabs p hp).2
    rw [e, ha] at q
    exact nomatch (congrArg Obj.cls (Option.some.inj q))
  have core : ∀ H : Hp, StartH a cs H → (∀ p ∈ cs, H p.2 = some (.tbl #[])) → SqL K H a (ns.map V.int) → HOk P w H s1.heap → (∀ u, H a = some u → K.lookup a = none) →
      codeAny (model P w) callerA (.call (.ref fa) ⟨[.ref a], []⟩) (fun r s' => r = .ok (.ret (.bool true)) ∧ OldK s1.heap s'.heap ∧ s'.os = s1.os ∧ AllBare s'.gens) s1 := by
    intro H hO hH hS hok hK
    -- what is neither a list nor an empty table is not tracked
    have free_of : ∀ {b : Addr} {o : Obj}, s1.heap.get? b = some o → o.cls ≠ .type "list" → o.data ≠ .fields #[] → H b = none := by
      intro b o e n1 n2
      cases q : H b with
      | none => rfl
      | some u =>
        exfalso
        rcases hO b u q with ⟨rfl, _⟩ | ⟨hm, _⟩
        · rw [ha] at e
          cases e
          exact n1 rfl
        · obtain ⟨p, hp, rfl⟩ := isTab b hm
          rw [(tabs p hp).2] at e
          cases e
          exact n2 rfl
    have nsK : ∀ {b : Addr} {m : Str → Option Value}, s1.heap.Ns b m → (hidT s1.heap H).Ns b m := by
      rintro b m ⟨o, es, ep, e, d, r⟩
      refine ⟨o, es, ep, hidT_get e ?_, d, r⟩
      cases q : H b with
      | none => rfl
      | some u =>
        exfalso
        rcases hO b u q with ⟨rfl, _⟩ | ⟨hm, _⟩
        · rw [ha] at e
          cases e
          cases d
        · obtain ⟨p, hp, rfl⟩ := isTab b hm
          rw [(tabs p hp).2] at e
          cases e
          cases d
    have hKb : K.In (hidT s1.heap H) := by
      intro b o e
      refine hidT_get (KX b o e) ?_
      cases q : H b with
      | none => rfl
      | some u =>
        exfalso
        rcases hO b u q with ⟨rfl, _⟩ | ⟨hm, _⟩
        · rw [hK u q] at e
          cases e
        · obtain ⟨p, hp, rfl⟩ := isTab b hm
          rw [nK p hp] at e
          cases e
    have hM : Mod K mg (hidT s1.heap H) := by
      obtain ⟨mc, c1, c2⟩ := hlim
      exact ⟨hKb, nsK hns, ⟨mb, nsK hb, hbb⟩, ⟨mc, nsK c1, c2⟩⟩
    have TB : ∀ p ∈ cs, TabB (hidT s1.heap H) mg p.1 p.2 := by
      intro p hp
      obtain ⟨cd, tb⟩ := tabs p hp
      refine ⟨?_, ?_, fun z => ?_⟩
      · obtain ⟨o, us, fl, tf, fg, tg, inF, tx, tt, e1, e2, e3, e4, more⟩ := cd
        refine ⟨o, us, fl, tf, fg, tg, inF, tx, tt, hidT_get e1 (free_of e1 (fun z => ?_) fun z => ?_), e2, e3, e4, more⟩
        · rw [e2] at z
          injection z with z
          exact absurd z (by decide)
        · rw [e3] at z
          cases z
          cases e4
      · obtain ⟨bm, ob, b1, b2, b3, b4, b5, b6⟩ := bmain
        refine ⟨bm, ob, b1, b2, fun q => ?_, fun q => ?_, hidT_get b3 (free_of b3 (fun z => ?_) fun z => ?_), b4, b5, b6⟩
        · obtain ⟨o, es, ep, e, hd, _⟩ := hns
          rw [q, e] at b3
          cases b3
          rw [hd] at b6
          cases b6
        · rw [q, tb] at b3
          cases b3
          cases b6
        · rw [b4] at z
          injection z with z
          exact absurd z (by decide)
        · rw [b6] at z
          cases z
      · obtain ⟨o, es, ep, e, hd, _⟩ := hns
        rw [z, tb] at e
        cases e
        cases hd
    have e0 : Env0 P w K mg (hidT s1.heap H) callerA [] s1 H :=
      ⟨rfl, hM, fun b o e => of_hidT e, Nat.le_of_eq (hidT_size _ _), trivial, fun b hb => (List.not_mem_nil hb).elim, hok, .of_eq hg⟩
    have code := (F _ hKb (nsK hns) TB).run callerA [] s1 H ⟨[.ref a], []⟩ [.ref a] [.ref a] _ _ rfl hr e0 (hbind s1 (.ref a)) (.cons rfl .nil) (hsp H hH hS)
    refine codeAny_mono code fun r s' h => ?_
    cases r with
    | error e => exact h.elim
    | ok fl =>
      cases fl with
      | ret u =>
        obtain ⟨v, H', os, bare, un, hok', r', q⟩ := h
        cases (show v = .bl true from q)
        cases (show u = Value.bool true from r')
        -- what was there is as it was, but for the tables, which grow
        have stays : ∀ b o, b ∉ cs.map (·.2) → s1.heap.get? b = some o → s'.heap.get? b = some o := by
          intro b o nb e
          cases z : H b with
          | none => exact un.keep b o e z (fun z => List.not_mem_nil z) (fun z => List.not_mem_nil z)
          | some v =>
            rcases hO b v z with ⟨_, ob, xs, rfl⟩ | ⟨hm, _⟩
            · obtain ⟨e1, _⟩ := hok b _ z
              obtain ⟨e2, _⟩ := hok' b _ (un.frzs b ob _ z)
              rw [e] at e1
              cases e1
              exact e2
            · exact absurd hm nb
        have grows : ∀ p ∈ cs, ∃ more, s'.heap.get? p.2 = some (PySem.W.tabObj more) := by
          intro p hp
          obtain ⟨more, z⟩ := un.tbls p.2 _ (hH p hp)
          exact ⟨_, hok' p.2 _ z⟩
        refine ⟨rfl, ⟨fun b o e => ?_, fun b o e => ?_⟩, os, bare⟩
        · by_cases hm : b ∈ cs.map (·.2)
          · obtain ⟨p, hp, rfl⟩ := isTab b hm
            obtain ⟨more, z⟩ := grows p hp
            obtain ⟨cd, tb⟩ := tabs p hp
            rw [tb] at e
            cases e
            exact .inr (.inl ⟨(cd.tab tb).isCodeTable, rfl, #[], more, rfl, by rw [Array.empty_append]; exact z⟩)
          · exact .inl (stays b o hm e)
        · by_cases hm : b ∈ cs.map (·.2)
          · obtain ⟨p, hp, rfl⟩ := isTab b hm
            obtain ⟨more, z⟩ := grows p hp
            exact ⟨_, z⟩
          · exact ⟨o, stays b o hm e⟩
      | next => exact h.elim
      | brk => exact h.elim
      | cont => exact h.elim
  -- the heap to begin with
  have begin_ : ∀ (own : Bool), (own = true → K.lookup a = none) → (own = false → SqL K (fun b => if b ∈ cs.map (·.2) then some (.tbl #[]) else none) a (ns.map V.int)) →
      codeAny (model P w) callerA (.call (.ref fa) ⟨[.ref a], []⟩) (fun r s' => r = .ok (.ret (.bool true)) ∧ OldK s1.heap s'.heap ∧ s'.os = s1.os ∧ AllBare s'.gens) s1 := by
    intro own h1 h2
    have atA : ∀ {b : Addr} {u : HO}, (if b = a ∧ own = true then some (HO.frz { cls := .type "list", data := .seq vs.toArray } (.lst (ns.map V.int))) else if b ∈ cs.map (·.2) then some (.tbl #[]) else none) = some u →
        (b = a ∧ own = true ∧ u = HO.frz { cls := .type "list", data := .seq vs.toArray } (.lst (ns.map V.int))) ∨ (b ∈ cs.map (·.2) ∧ u = .tbl #[]) := by
      intro b u e
      by_cases c1 : b = a ∧ own = true
      · rw [if_pos c1] at e
        exact .inl ⟨c1.1, c1.2, (Option.some.inj e).symm⟩
      · rw [if_neg c1] at e
        by_cases c2 : b ∈ cs.map (·.2)
        · rw [if_pos c2] at e
          exact .inr ⟨c2, (Option.some.inj e).symm⟩
        · rw [if_neg c2] at e
          cases e
    refine core (fun b => if b = a ∧ own = true then some (.frz { cls := .type "list", data := .seq vs.toArray } (.lst (ns.map V.int))) else if b ∈ cs.map (·.2) then some (.tbl #[]) else none) (fun b u e => ?_) (fun p hp => ?_) ?_ (fun b u e => ?_) (fun u e => ?_)
    · rcases atA e with ⟨c1, _, rfl⟩ | c2
      · exact .inl ⟨c1, _, _, rfl⟩
      · exact .inr c2
    · have hm : p.2 ∈ cs.map (·.2) := List.mem_map.mpr ⟨p, hp, rfl⟩
      have ne : ¬ (p.2 = a ∧ own = true) := fun z => apart (z.1 ▸ hm)
      show (if p.2 = a ∧ own = true then _ else if p.2 ∈ cs.map (·.2) then _ else _) = _
      rw [if_neg ne, if_pos hm]
    · cases own with
      | true => exact .inl (.inr ⟨{ cls := .type "list", data := .seq vs.toArray }, if_pos ⟨rfl, rfl⟩⟩)
      | false =>
        have q := h2 rfl
        have e : (fun b => if b = a ∧ false = true then some (HO.frz { cls := .type "list", data := .seq vs.toArray } (.lst (ns.map V.int))) else if b ∈ cs.map (·.2) then some (HO.tbl #[]) else none) = (fun b => if b ∈ cs.map (·.2) then some (HO.tbl #[]) else none) := by
          funext b
          rw [if_neg (fun z => Bool.noConfusion z.2)]
        rw [e]
        exact q
    · rcases atA e with ⟨rfl, _, rfl⟩ | ⟨hm, rfl⟩
      · exact ⟨ha, by rw [List.length_map]; exact hl, vs, _, rv, ha⟩
      · obtain ⟨p, hp, rfl⟩ := isTab b hm
        exact (tabs p hp).2
    · rcases atA e with ⟨_, o1, _⟩ | ⟨hm, _⟩
      · exact h1 o1
      · exact absurd hm apart
  cases hk : K.lookup a with
  | none => exact begin_ true (fun _ => hk) (fun z => Bool.noConfusion z)
  | some o =>
    have e := KX a o hk
    rw [ha] at e
    cases e
    refine begin_ false (fun z => Bool.noConfusion z) (fun _ => .inr ⟨_, vs.toArray, _, hk, rfl, rfl, rfl, ?_, ?_⟩)
    · rw [List.size_toArray, hi.length]
      exact hl
    · simpa using rv
/-- the end: the promise is told of the makers' code objects and tables -/
theorem walkTG {l : PySem.W.OpenLaw} {n k : Nat} {q : Program} {loose : List Str} {XP : (Str → Option Value) → Heap → Prop} {YP : World → Heap → Prop} {d : DefRec} {K : Params → PySem.W.Frag} {sp : PySem.W.Frag → List (Addr × Addr) → Sp} {x : Str}
    (hn : l.most = some n) (hn2 : n ≤ sizeLine) (hdf : d.params.defaults = []) (hr : Room k callerA) (hY : ∀ (w : World) (h : Heap), YP w h → (K w.params).In h)
    (F : ∀ (w : World) (mg : Str → Option Value) (fa : Addr) (h : Heap), (K w.params).In h → h.Ns mainGlobals mg → mg d.name = some (.ref fa) →
      ∃ (fd : FuncData) (cs : List (Addr × Addr)), (∀ p ∈ cs, ∃ (y : Str) (dd : DefRec), (recsOf q).find? (fun e => e.name == y) = some dd ∧ PySem.W.tabIn (K w.params) y = some p) ∧ (∀ p ∈ cs, (K w.params).lookup p.2 = none) ∧
        (∀ (s : Shared) (u : Value), BindsTo s fd ⟨[u], []⟩ [(x, u)]) ∧
        ∀ base : Heap, (K w.params).In base → base.Ns mainGlobals mg → (∀ p ∈ cs, TabB base mg p.1 p.2) → FnG l.prog w (K w.params) mg base CX0 k fa fd [x] (sp (K w.params) cs))
    (hsp : ∀ (K : PySem.W.Frag) (cs : List (Addr × Addr)) (H : Hp) (a : Addr) (ns : List Int), ns.length ≤ n → (∀ p ∈ cs, H p.2 = some (.tbl #[])) → SqL K H a (ns.map V.int) → sp K cs [.ref a] H (fun v _ => v = .bl true) fun _ _ _ => False) :
    PySem.W.WalkO q loose XP YP l.row.toRowW d [] (fun f vs => PySem.call f vs) := by
  refine Att.attach_call hn hdf fun w s0 s1 mg mb fa o pm cd doc a vs ns G Y ho hd hcd hmg hobj hints hlen hg => ?_
  obtain ⟨fd, cs, hT, nK, hb, hF⟩ := F w mg fa _ (hY w _ Y) G.T.g hmg
  refine law_callTG (cs := cs) (hY w _ Y) G.T.g G.T.b G.T.builtins G.T.nolimit hg (fun p hp => ?_) nK G.T.bmain hobj hints (Nat.le_trans hlen hn2) hr hF hb (fun H hH hS => hsp _ cs H a ns hlen hH hS)
  obtain ⟨y, dd, e1, e2⟩ := hT p hp
  exact PySem.W.tab_of G.T (hY w _ Y) e1 e2
end Lb

set_option Elab.async false
set_option linter.all false
set_option maxRecDepth 100000
set_option maxHeartbeats 4000000
/-! def f(a, *v) that may raise; one contract of two -/
namespace Lb
open PySem PySem.Spec PyProof.Rows L2
theorem FnOk.up {P : Program} {w : World} {K : PySem.W.Frag} {mg : Str → Option Value} {base : Heap} {CX : CXT} {k : Nat} {f : Addr} {fd : FuncData} {ps : List Str} {sp : Sp} (F : L2.FnOk P w K mg base CX0 k f fd ps sp) : L2.FnOk P w K mg base CX k f fd ps sp :=
  ⟨F.len, fun A outer s H args us vs Q E hr e0 hb r h => codeAny_mono (F.run A outer s H args us vs Q E hr e0 hb r h) fun r s' z => by
    rcases r with er | fl
    · exact False.elim z
    · cases fl <;> exact z⟩
theorem FnOk.either {P : Program} {w : World} {K : PySem.W.Frag} {mg : Str → Option Value} {base : Heap} {CX : CXT} {k : Nat} {f : Addr} {fd : FuncData} {ps : List Str} {sp sq : Sp} (F : L2.FnOk P w K mg base CX k f fd ps sp) (G : L2.FnOk P w K mg base CX k f fd ps sq) :
    L2.FnOk P w K mg base CX k f fd ps (fun vs H Q E => sp vs H Q E ∨ sq vs H Q E) :=
  ⟨fun vs H Q E h => h.elim (F.len vs H Q E) (G.len vs H Q E), fun A outer s H args us vs Q E hr e0 hb r h => h.elim (F.run A outer s H args us vs Q E hr e0 hb r) (G.run A outer s H args us vs Q E hr e0 hb r)⟩
theorem star_okX {P : Program} {w : World} {K : PySem.W.Frag} {mg : Str → Option Value} {base : Heap} {x qual : Str} {st : Stmt} {f : Addr} {fd : FuncData} {N ps : List Str} {pv : Str} {k : Nat} {sp : Sp} (F : Fun K x qual st f fd) (S : FnScope N (ps ++ [pv]) (defScope st))
    (hb : ∀ (kV doc pm : Value) (an : Option Addr) (cdv ct : Value) (us rest : List Value), us.length = ps.length → bindArgs (PySem.W.fnOf x qual (defArgs st) (defBody st) (defScope st) .none kV doc pm an cdv ct) ⟨us ++ rest, []⟩ = (newTuple rest >>= fun t => pure (ps.zip us ++ [(pv, t)])))
    (hbody : ∀ (cdv : Value) (A : Around) (outer : List Env) (s : Shared) (H : Hp) (vs : List V) (Q : VK) (E : XK), Room k (A.deeper (envOfC qual (defScope st) s.heap.objs.size f cdv)) → sp vs H Q E →
      ∃ t, PSs (cxOf (L2.CX P w) P w K mg base N qual (defScope st) f cdv A outer s H E) (defBody st) t ∧ t { nx := fun _ H' => Q .non H', rt := Q } (start N vs) H) :
    FnR P w K mg base (L2.CX P w) (k + 1) f (fun vs H Q E => ∃ ws rest, vs = ws ++ rest ∧ ws.length = ps.length ∧ rest.length ≤ sizeLine ∧ ∀ p, H p = Option.none → sp (ws ++ [V.ref p]) (upd H p (.tup rest)) Q E) := by
  obtain ⟨oc, od, kV, doc, pm, an, cdv, ct, osl, rfl, lk, hcd⟩ := F.ex
  exact StX.fn_star lk hcd S StX.cxUp (fun us rest l => hb kV doc pm an cdv ct us rest l) fun A outer s H vs Q E hr h => hbody cdv A outer s H vs Q E hr h
end Lb

set_option Elab.async false
set_option linter.all false
set_option maxRecDepth 100000
set_option maxHeartbeats 4000000
/-! repr of lists and tuples, one within another, that hold instances of own classes -/
namespace Lb
open PySem PySem.Spec PyProof.Rows L2
/-- what is shown: a plain value, an instance, a list, a tuple -/
inductive Tr where
  | lf (t : Str) | ow (t : Str) | ls (l : List Tr) | tp (l : List Tr)
mutual
def Tr.text : Tr → Str
  | .lf t => t
  | .ow t => t
  | .ls l => listText (Tr.texts l)
  | .tp l => tupleText (Tr.texts l)
def Tr.texts : List Tr → List Str
  | [] => []
  | t :: r => t.text :: Tr.texts r
end
mutual
def Tr.sz : Tr → Nat
  | .lf _ => 0
  | .ow _ => 0
  | .ls l => Tr.szs l + 1
  | .tp l => Tr.szs l + 1
def Tr.szs : List Tr → Nat
  | [] => 0
  | t :: r => t.sz + Tr.szs r
end
mutual
def Tr.dep : Tr → Nat
  | .lf _ => 0
  | .ow _ => 0
  | .ls l => Tr.deps l + 1
  | .tp l => Tr.deps l + 1
def Tr.deps : List Tr → Nat
  | [] => 0
  | t :: r => max t.dep (Tr.deps r)
end
/-- a value that is no object, and its text -/
def Lf : V → Str → Prop
  | .non, t => t = "None"
  | .bl true, t => t = "True"
  | .bl false, t => t = "False"
  | .int i, t => i.natAbs.log2 < 1920 ∧ t = (toString i : String)
  | .str x, t => t = reprText x
  | _, _ => False
mutual
def Sh (K : PySem.W.Frag) (O : Addr → Hp → Str → Prop) (H : Hp) : Tr → V → Prop
  | .lf t, v => Lf v t
  | .ow t, v => ∃ a, v = .ref a ∧ O a H t
  | .ls l, v => ∃ a xs, v = .ref a ∧ SqL K H a xs ∧ Shs K O H l xs
  | .tp l, v => ∃ a xs, v = .ref a ∧ SqT K H a xs ∧ Shs K O H l xs
def Shs (K : PySem.W.Frag) (O : Addr → Hp → Str → Prop) (H : Hp) : List Tr → List V → Prop
  | [], xs => xs = []
  | t :: ts, xs => ∃ x r, xs = x :: r ∧ Sh K O H t x ∧ Shs K O H ts r
end
section
variable {K : PySem.W.Frag} {O : Addr → Hp → Str → Prop} {H H' : Hp}
theorem texts_map : ∀ l : List Tr, Tr.texts l = l.map Tr.text
  | [] => rfl
  | t :: r => by simp only [Tr.texts, List.map_cons, texts_map r]
theorem texts_len (l : List Tr) : (Tr.texts l).length = l.length := by rw [texts_map, List.length_map]
theorem texts_get {l : List Tr} {i : Nat} {T : Tr} (h : l[i]? = some T) : (Tr.texts l)[i]? = some T.text := by rw [texts_map, List.getElem?_map, h]; rfl
theorem sz_le : ∀ {l : List Tr} {T : Tr}, T ∈ l → T.sz ≤ Tr.szs l
  | t :: r, T, h => by
    simp only [Tr.szs]
    rcases List.mem_cons.mp h with e | h
    · rw [e]; omega
    · have := sz_le h; omega
theorem dep_le : ∀ {l : List Tr} {T : Tr}, T ∈ l → T.dep ≤ Tr.deps l
  | t :: r, T, h => by
    simp only [Tr.deps]
    rcases List.mem_cons.mp h with e | h
    · rw [e]; omega
    · have := dep_le h; omega
theorem Shs.get : ∀ {l : List Tr} {xs : List V} {i : Nat} {T : Tr}, Shs K O H l xs → l[i]? = some T → ∃ x, xs[i]? = some x ∧ Sh K O H T x
  | [], _, _, _, _, e => by simp at e
  | t :: r, xs, i, T, h, e => by
    simp only [Shs] at h
    obtain ⟨x, q, rfl, h1, h2⟩ := h
    cases i with
    | zero => simp at e; subst e; exact ⟨x, rfl, h1⟩
    | succ i =>
      obtain ⟨y, e1, e2⟩ := Shs.get h2 (i := i) (by simpa using e)
      exact ⟨y, by simpa using e1, e2⟩
theorem Shs.len : ∀ {l : List Tr} {xs : List V}, Shs K O H l xs → xs.length = l.length
  | [], _, h => by simp only [Shs] at h; rw [h]; rfl
  | t :: r, xs, h => by
    simp only [Shs] at h
    obtain ⟨x, q, rfl, h1, h2⟩ := h
    simp only [List.length_cons, Shs.len h2]
mutual
theorem Sh.same (hO : ∀ a t, O a H t → O a H' t) (e : Same H H') : ∀ (T : Tr) (v : V), Sh K O H T v → Sh K O H' T v
  | .lf _, _, h => by simp only [Sh] at h ⊢; exact h
  | .ow _, _, h => by simp only [Sh] at h ⊢; obtain ⟨a, q, o⟩ := h; exact ⟨a, q, hO _ _ o⟩
  | .ls l, _, h => by simp only [Sh] at h ⊢; obtain ⟨a, xs, q, o, z⟩ := h; exact ⟨a, xs, q, e.seq o, Shs.same hO e l xs z⟩
  | .tp l, _, h => by simp only [Sh] at h ⊢; obtain ⟨a, xs, q, o, z⟩ := h; exact ⟨a, xs, q, SqT.ext o e, Shs.same hO e l xs z⟩
theorem Shs.same (hO : ∀ a t, O a H t → O a H' t) (e : Same H H') : ∀ (l : List Tr) (xs : List V), Shs K O H l xs → Shs K O H' l xs
  | [], _, h => by simp only [Shs] at h ⊢; exact h
  | t :: r, _, h => by simp only [Shs] at h ⊢; obtain ⟨x, q, w, h1, h2⟩ := h; exact ⟨x, q, w, Sh.same hO e t x h1, Shs.same hO e r q h2⟩
end
end
/-- what is asked of the texts of other objects: they stay while what is known stays, and are those of instances or dicts -/
structure OwnT (O : Addr → Hp → Str → Prop) : Prop where
  mono : ∀ a H H' t, Same H H' → O a H t → O a H' t
  ins : ∀ a H t, O a H t → (∃ C dx fs, H a = some (.ins C dx fs)) ∨ ∃ kvs, H a = some (.dK kvs)
section
variable {X : Cx} {O : Addr → Hp → Str → Prop} {pins : List (Addr × Obj)} {σ : L2.St} {H : Hp} {s : Shared}
theorem at_list (I : Inv X pins σ H s) {a : Addr} {xs : List V} (h : SqL X.K H a xs) : ∃ (its : List Value) (o : Obj) (n : Nat), Vals xs its ∧ s.heap.get? a = some o ∧ o.cls = .type "list" ∧ o.data = .seq its.toArray n := by
  obtain ⟨its, r, ⟨o, n, e, c, _, d⟩, _⟩ := I.list h
  exact ⟨its, o, n, r, e, c, d⟩
theorem at_tup (I : Inv X pins σ H s) {a : Addr} {xs : List V} (h : SqT X.K H a xs) : ∃ (its : List Value) (o : Obj) (n : Nat), Vals xs its ∧ s.heap.get? a = some o ∧ o.cls = .type "tuple" ∧ o.data = .seq its.toArray n := by
  rcases h with h | ⟨o, its, n, hk, hc, hd, hs, r⟩
  · obtain ⟨_, its, r, o, e, c, n, d⟩ := h.ok I.hok
    exact ⟨its, o, n, r, e, c, d⟩
  · exact ⟨its.toList, o, n, r, I.kIn a o hk, hc, by simpa using hd⟩
theorem cls_list (I : Inv X pins σ H s) {a : Addr} {xs : List V} (h : SqL X.K H a xs) : ∃ o, s.heap.get? a = some o ∧ o.cls = .type "list" :=
  let ⟨_, o, _, _, e, c, _⟩ := at_list I h
  ⟨o, e, c⟩
theorem cls_tup (I : Inv X pins σ H s) {a : Addr} {xs : List V} (h : SqT X.K H a xs) : ∃ o, s.heap.get? a = some o ∧ o.cls = .type "tuple" :=
  let ⟨_, o, _, _, e, c, _⟩ := at_tup I h
  ⟨o, e, c⟩
theorem cls_own (I : Inv X pins σ H s) (hO : OwnT O) {a : Addr} {t : Str} (h : O a H t) : ∃ o, s.heap.get? a = some o ∧ o.cls ≠ .type "list" ∧ o.cls ≠ .type "tuple" := by
  rcases hO.ins _ _ _ h with ⟨C, dx, fs, e⟩ | ⟨kvs, e⟩
  · obtain ⟨_, _, _, g, _⟩ := I.hok a _ e
    exact ⟨_, g, by simp [PySem.W.instObj], by simp [PySem.W.instObj]⟩
  · obtain ⟨_, _, _, _, o, _, _, g, h2, _⟩ := dk_of I.hok e
    exact ⟨o, g, by rw [h2.1]; decide, by rw [h2.1]; decide⟩
theorem list_one (I : Inv X pins σ H s) {a : Addr} {xs ys : List V} (h : SqL X.K H a xs) (h' : SqL X.K H a ys) : xs = ys := by
  obtain ⟨its, o, n, r, e, _, d⟩ := at_list I h
  obtain ⟨its', o', n', r', e', _, d'⟩ := at_list I h'
  rw [e] at e'
  cases e'
  rw [d] at d'
  cases d'
  exact r.inj r'
theorem tup_one (I : Inv X pins σ H s) {a : Addr} {xs ys : List V} (h : SqT X.K H a xs) (h' : SqT X.K H a ys) : xs = ys := by
  obtain ⟨its, o, n, r, e, _, d⟩ := at_tup I h
  obtain ⟨its', o', n', r', e', _, d'⟩ := at_tup I h'
  rw [e] at e'
  cases e'
  rw [d] at d'
  cases d'
  exact r.inj r'
theorem apartC {h : Heap} {a : Addr} {c d : Value} (h1 : ∃ o, h.get? a = some o ∧ o.cls = c) (h2 : ∃ o, h.get? a = some o ∧ o.cls = d) : c = d := by
  obtain ⟨o, e, z⟩ := h1
  obtain ⟨o', e', z'⟩ := h2
  rw [e] at e'
  cases e'
  rw [← z, ← z']
mutual
theorem sz_one (I : Inv X pins σ H s) (hO : OwnT O) : ∀ (T T' : Tr) (v : V), Sh X.K O H T v → Sh X.K O H T' v → T.sz = T'.sz
  | .lf _, .lf _, _, _, _ => by simp only [Tr.sz]
  | .lf _, .ow _, _, _, _ => by simp only [Tr.sz]
  | .ow _, .lf _, _, _, _ => by simp only [Tr.sz]
  | .ow _, .ow _, _, _, _ => by simp only [Tr.sz]
  | .lf _, .ls _, _, h, h' => by simp only [Sh] at h h'; obtain ⟨a, xs, rfl, _⟩ := h'; exact h.elim
  | .lf _, .tp _, _, h, h' => by simp only [Sh] at h h'; obtain ⟨a, xs, rfl, _⟩ := h'; exact h.elim
  | .ls _, .lf _, _, h', h => by simp only [Sh] at h h'; obtain ⟨a, xs, rfl, _⟩ := h'; exact h.elim
  | .tp _, .lf _, _, h', h => by simp only [Sh] at h h'; obtain ⟨a, xs, rfl, _⟩ := h'; exact h.elim
  | .ow _, .ls _, _, h, h' => by
    simp only [Sh] at h h'
    obtain ⟨a, rfl, o⟩ := h
    obtain ⟨b, xs, e, q, _⟩ := h'
    cases e
    obtain ⟨o1, e1, c1, c2⟩ := cls_own I hO o
    exact absurd (apartC ⟨o1, e1, rfl⟩ (cls_list I q)) c1
  | .ow _, .tp _, _, h, h' => by
    simp only [Sh] at h h'
    obtain ⟨a, rfl, o⟩ := h
    obtain ⟨b, xs, e, q, _⟩ := h'
    cases e
    obtain ⟨o1, e1, c1, c2⟩ := cls_own I hO o
    exact absurd (apartC ⟨o1, e1, rfl⟩ (cls_tup I q)) c2
  | .ls _, .ow _, _, h', h => by
    simp only [Sh] at h h'
    obtain ⟨a, rfl, o⟩ := h
    obtain ⟨b, xs, e, q, _⟩ := h'
    cases e
    obtain ⟨o1, e1, c1, c2⟩ := cls_own I hO o
    exact absurd (apartC ⟨o1, e1, rfl⟩ (cls_list I q)) c1
  | .tp _, .ow _, _, h', h => by
    simp only [Sh] at h h'
    obtain ⟨a, rfl, o⟩ := h
    obtain ⟨b, xs, e, q, _⟩ := h'
    cases e
    obtain ⟨o1, e1, c1, c2⟩ := cls_own I hO o
    exact absurd (apartC ⟨o1, e1, rfl⟩ (cls_tup I q)) c2
  | .ls _, .tp _, _, h, h' => by
    simp only [Sh] at h h'
    obtain ⟨a, xs, rfl, o, _⟩ := h
    obtain ⟨b, ys, e, q, _⟩ := h'
    cases e
    exact absurd (apartC (cls_list I o) (cls_tup I q)) (by simp)
  | .tp _, .ls _, _, h', h => by
    simp only [Sh] at h h'
    obtain ⟨a, xs, rfl, o, _⟩ := h
    obtain ⟨b, ys, e, q, _⟩ := h'
    cases e
    exact absurd (apartC (cls_list I o) (cls_tup I q)) (by simp)
  | .ls l, .ls l', _, h, h' => by
    simp only [Sh] at h h'
    obtain ⟨a, xs, rfl, o, z⟩ := h
    obtain ⟨b, ys, e, q, z'⟩ := h'
    cases e
    have := list_one I o q
    subst this
    simp only [Tr.sz, szs_one I hO l l' xs z z']
  | .tp l, .tp l', _, h, h' => by
    simp only [Sh] at h h'
    obtain ⟨a, xs, rfl, o, z⟩ := h
    obtain ⟨b, ys, e, q, z'⟩ := h'
    cases e
    have := tup_one I o q
    subst this
    simp only [Tr.sz, szs_one I hO l l' xs z z']
theorem szs_one (I : Inv X pins σ H s) (hO : OwnT O) : ∀ (l l' : List Tr) (xs : List V), Shs X.K O H l xs → Shs X.K O H l' xs → Tr.szs l = Tr.szs l'
  | [], [], _, _, _ => rfl
  | [], _ :: _, _, h, h' => by
    simp only [Shs] at h h'
    obtain ⟨x, r, e, _⟩ := h'
    rw [h] at e
    cases e
  | _ :: _, [], _, h', h => by
    simp only [Shs] at h h'
    obtain ⟨x, r, e, _⟩ := h'
    rw [h] at e
    cases e
  | t :: l, t' :: l', _, h, h' => by
    simp only [Shs] at h h'
    obtain ⟨x, r, rfl, h1, h2⟩ := h
    obtain ⟨y, q, e, h3, h4⟩ := h'
    cases e
    simp only [Tr.szs, sz_one I hO t t' x h1 h3, szs_one I hO l l' r h2 h4]
end
end
end Lb

set_option Elab.async false
set_option linter.all false
set_option maxRecDepth 100000
set_option maxHeartbeats 4000000
/-! .. how it runs -/
namespace Lb
open PySem PySem.Spec PyProof.Rows L2
open PySem.Builtin
/-- where a repr runs: within m others -/
structure AtR (X : Cx) (A : Around) (g : List Code) (m : Nat) : Prop where
  gd : A.guards = some g
  fr : A.frames = X.A.frames
  hd : A.handled = X.A.handled
  dp : A.depth ≤ X.A.depth + m
  un : A.units ≤ X.A.units + m
theorem AtR.loop {X : Cx} {A : Around} {g : List Code} {m : Nat} (h : AtR X A g m) (args : Args) : AtR X (A.under (.builtin "list.__repr__.loop" args)) (.builtin "list.__repr__.loop" args :: g) (m + 1) := by
  have w1 : (Code.builtin "list.__repr__.loop" args).weight ≤ 1 := by
    simp [Code.weight, Code.isCreation, Code.isGuard, Code.isCaller, Code.frames, Code.isFrame, guardIds]
  have h1 := h.dp
  have h2 := h.un
  refine ⟨guards_under_guard (isGuard_list_loop _) h.gd, ?_, h.hd, ?_, ?_⟩
  · have : (A.under (.builtin "list.__repr__.loop" args)).frames = A.frames := by simp [Around.under, Code.envs, Code.isFrame, pushEnvs]
    rw [this]
    exact h.fr
  · show A.depth + _ ≤ _
    omega
  · rw [units_under_list_loop]
    omega
theorem AtR.tup {X : Cx} {A : Around} {g : List Code} {m : Nat} (h : AtR X A g m) {id : String} {args : Args} (hi : id = "tuple.__repr__" ∨ id = "tuple.__repr__.under") : AtR X (A.under (.builtin id args)) (.builtin id args :: g) (m + 1) := by
  have w1 : (Code.builtin id args).weight ≤ 1 := by
    rcases hi with rfl | rfl <;> simp [Code.weight, Code.isCreation, Code.isGuard, Code.isCaller, Code.frames, Code.isFrame, guardIds]
  have hcg : (Code.builtin id args).isGuard = true := by
    rcases hi with rfl | rfl
    · exact isGuard_tuple_repr _
    · exact isGuard_tuple_repr_under _
  have hcu : (A.under (.builtin id args)).units = A.units + 1 := by
    rcases hi with rfl | rfl
    · exact units_under_tuple_repr _ _
    · exact units_under_tuple_repr_under _ _
  have h1 := h.dp
  have h2 := h.un
  refine ⟨guards_under_guard hcg h.gd, ?_, h.hd, ?_, ?_⟩
  · have : (A.under (.builtin id args)).frames = A.frames := by
      rcases hi with rfl | rfl <;> simp [Around.under, Code.envs, Code.isFrame, pushEnvs]
    rw [this]
    exact h.fr
  · show A.depth + _ ≤ _
    omega
  · rw [hcu]
    omega
/-- what is being shown is greater than n -/
def Above (K : PySem.W.Frag) (O : Addr → Hp → Str → Prop) (H : Hp) (g : List Code) (n : Nat) : Prop :=
  ∀ id v rest kw, Code.builtin id ⟨v :: rest, kw⟩ ∈ g → ∃ c T, v = .ref c ∧ Sh K O H T (.ref c) ∧ n < T.sz
section
variable {X : Cx} {O : Addr → Hp → Str → Prop} {pins : List (Addr × Obj)} {σ : L2.St} {H : Hp} {s : Shared} {D : Nat}
theorem Above.same {K : PySem.W.Frag} {H H' : Hp} {g : List Code} {n : Nat} (hO : OwnT O) (e : Same H H') (h : Above K O H g n) : Above K O H' g n := fun id v rest kw m =>
  let ⟨c, T, q, z, l⟩ := h id v rest kw m
  ⟨c, T, q, Sh.same (fun a t o => hO.mono _ _ _ _ e o) e T _ z, l⟩
theorem Above.le {K : PySem.W.Frag} {H : Hp} {g : List Code} {n k : Nat} (h : Above K O H g n) (l : k ≤ n) : Above K O H g k := fun id v rest kw m =>
  let ⟨c, T, q, z, x⟩ := h id v rest kw m
  ⟨c, T, q, z, by omega⟩
theorem Above.clear {g : List Code} {T : Tr} {b : Addr} (I : Inv X pins σ H s) (hO : OwnT O) (h : Above X.K O H g T.sz) (hT : Sh X.K O H T (.ref b)) : Clear g b := fun id v rest kw m e => by
  obtain ⟨c, T', q, z, l⟩ := h id v rest kw m
  rw [q] at e
  cases e
  have := sz_one I hO T T' _ hT z
  omega
theorem Above.cons {K : PySem.W.Frag} {g : List Code} {n : Nat} {id : String} {a : Addr} {rest : List Value} {kw : List (Str × Value)} {T : Tr} (h : Above K O H g n) (hT : Sh K O H T (.ref a)) (l : n < T.sz) :
    Above K O H (.builtin id ⟨.ref a :: rest, kw⟩ :: g) n := fun id' v rest' kw' m => by
  rcases List.mem_cons.mp m with e | m
  · cases e
    exact ⟨a, T, rfl, hT, l⟩
  · exact h _ _ _ _ m
/-- a tree is shown -/
def RpT (X : Cx) (O : Addr → Hp → Str → Prop) (D : Nat) (T : Tr) : Prop :=
  ∀ (base : Nat) (A : Around) (g : List Code) (m : Nat) (pins : List (Addr × Obj)) (σ : L2.St) (H : Hp) (s : Shared) (x : V) (u : Value) (Q : Str → Shared → Prop), Sh X.K O H T x → base + T.text.length ≤ sizeLine → AtR X A g m → m + T.dep ≤ D →
    Above X.K O H g T.sz → Inv X pins σ H s → RelV x u → (∀ s' H2, Same H H2 → Inv X pins σ H2 s' → Q T.text s') → wpAny (model X.prog X.w) A (pyReprUnder base u) Q X.xe s
theorem strs_of : ∀ {ts : List Str} {its : List Value}, Vals (ts.map V.str) its → ∃ l : List (Str × Tok), its = strValues l ∧ l.map (·.1) = ts
  | [], _, h => by
    cases h
    exact ⟨[], rfl, rfl⟩
  | t :: r, _, h => by
    cases h with
    | cons h1 h2 =>
      obtain ⟨k, rfl⟩ := (show ∃ k, _ = Value.str t k from h1)
      obtain ⟨l, e1, e2⟩ := strs_of h2
      exact ⟨(t, k) :: l, by rw [e1]; rfl, by rw [← e2]; rfl⟩
theorem upd_same_hp {G H : Hp} {P : Addr} {o : HO} (h : Same G H) (hP : G P = none) : Same G (upd H P o) := fun b u e => by
  have : b ≠ P := fun z => by rw [z, hP] at e; cases e
  rw [upd_ne this]
  exact h b u e
theorem loopT {m base : Nat} {a P : Addr} {l : List Tr} {xs : List V} {A : Around} {g : List Code} {G : Hp} {R : Result → Shared → Prop} (hO : OwnT O)
    (hT : ∀ T ∈ l, RpT X O D T) (hA : AtR X A g m) (hd : ∀ T ∈ l, m + 1 + T.dep ≤ D) (hL : SqL X.K G a xs) (hS : Shs X.K O G l xs) (hab : Above X.K O G g (Tr.szs l + 1)) (hP : G P = none)
    (hsz : base + (listText (Tr.texts l)).length ≤ sizeLine) (hE : ∀ e s', X.xe e s' → R (.error e) s') (hR : ∀ H' s' u, Same G H' → Inv X pins σ H' s' → R (.ok (.ret (.str (listText (Tr.texts l)) u))) s') :
    ∀ (k i : Nat) (s : Shared) (H : Hp), l.length - i = k → i ≤ l.length → Same G H → H P = some (.lst (((Tr.texts l).take i).map V.str)) → Inv X pins σ H s →
    codeAny (model X.prog X.w) A (.builtin "list.__repr__.loop" ⟨[.ref a, rawInt i, .ref P, rawInt ((base + piled ((Tr.texts l).take i) : Nat) : Int)], []⟩) R s := by
  have hX : (listText (Tr.texts l)).length = (textFrom 0 "[" (Tr.texts l)).length + 1 := by
    show (textFrom 0 "[" (Tr.texts l) ++ "]").length = _
    rw [strLen_append]; rfl
  have hLn := textFrom_len (Tr.texts l) 0 "["
  have hln := texts_len l
  have hsz1 : l.length ≤ sizeLine := by
    have h1 := hLn.1
    rw [if_neg (Nat.lt_irrefl 0), hln] at h1
    omega
  have hsz2 : ∀ t ∈ Tr.texts l, t.length ≤ sizeLine := fun t ht => by
    have h2 := hLn.2.1 t ht
    omega
  have hsz3 : (listText (Tr.texts l)).length ≤ sizeLine := by omega
  have hp3 := piled_le_listText (Tr.texts l)
  have hSl := hS.len
  have hShT : Sh X.K O G (.ls l) (.ref a) := by
    simp only [Sh]
    exact ⟨a, xs, rfl, hL, hS⟩
  intro k
  induction k with
  | zero =>
    intro i s H hk hi e hPl I
    have hin : i = l.length := by omega
    obtain ⟨its, o, n, r, ea, _, da⟩ := at_list I (e.seq hL)
    obtain ⟨_, pts, pn, pr, _, ep⟩ := I.lstM hPl
    refine codeAny_builtin F.entry_list_repr_loop ?_
    show wpAny _ _ («list.__repr__.loop» ⟨[.ref a, .int i 0, .ref P, .int ((base + piled ((Tr.texts l).take i) : Nat) : Int) 0], []⟩) _ _ s
    rw [repr_loop_tree]
    refine wpAny_bind (wpAny_listItems ea da ?_)
    have hnone : its.toArray[(i : Int).toNat]? = none := by
      have := r.length
      simp only [Int.toNat_natCast, List.getElem?_toArray]
      exact List.getElem?_eq_none_iff.mpr (by omega)
    simp only [hnone]
    unfold reprEnd
    refine wpAny_bind (wpAny_listItems ep rfl ?_)
    obtain ⟨done, rfl, hdone⟩ := strs_of pr
    rw [List.toList_toArray, repr_fold]
    refine wpAny_bind (wpAny_pure ?_)
    have hall : done.map (·.1) = Tr.texts l := by rw [hdone, hin, ← hln, List.take_length]
    rw [hall]
    exact wpAny_bind (wpAny_mkStr (wpAny_pure (hR H _ _ e (I.tok _))) hsz3)
  | succ k ih =>
    intro i s H hk hi e hPl I
    have hlt : i < l.length := by omega
    have hget : l[i]? = some l[i] := by simp [hlt]
    obtain ⟨x, hx, hshx⟩ := hS.get hget
    have ht := texts_get hget
    have hp1 := piled_take_succ ht
    have hp2 := piled_take_le (Tr.texts l) (i + 1)
    have hmem : l[i] ∈ l := List.getElem_mem hlt
    obtain ⟨its, o, n, r, ea, _, da⟩ := at_list I (e.seq hL)
    obtain ⟨u, hu, ru⟩ := r.get hx
    refine codeAny_builtin F.entry_list_repr_loop ?_
    show wpAny _ _ («list.__repr__.loop» ⟨[.ref a, .int i 0, .ref P, .int ((base + piled ((Tr.texts l).take i) : Nat) : Int) 0], []⟩) _ _ s
    rw [repr_loop_tree]
    refine wpAny_bind (wpAny_listItems ea da ?_)
    have hsome : its.toArray[(i : Int).toNat]? = some u := by
      simp only [Int.toNat_natCast, List.getElem?_toArray]
      exact hu
    simp only [hsome]
    rw [Int.toNat_natCast]
    have hszT := sz_le hmem
    have mono : ∀ b t, O b G t → O b H t := fun b t z => hO.mono _ _ _ _ e z
    refine wpAny_bind (wpAny_holding (wpAny_mono (hT _ hmem (base + piled ((Tr.texts l).take i) + 1) _ _ (m + 1) pins σ H s x u _ (Sh.same mono e _ _ hshx) (by omega) (hA.loop _) (by have := hd _ hmem; omega)
      (((hab.le (by omega)).same hO e).cons (Sh.same mono e _ _ hShT) (by simp only [Tr.sz]; omega)) I ru fun s' H2 e2 I2 => ?_) (fun _ _ z => z) fun _ _ z => hE _ _ z))
    refine wpAny_bind (wpAny_mkStr ?_ (hsz2 _ (List.mem_of_getElem? ht)))
    refine wpAny_bind ?_
    show wpAny _ _ (updateSeq P _) _ _ _
    have hP2 := e2 _ _ hPl
    obtain ⟨zz, pts, pn, pr, pl, ep⟩ := I2.lstM hP2
    rw [List.length_map] at zz pl
    refine wpAny_updateSeq ep rfl (wpAny_pure ⟨F.quiet_list_repr_loop _, ?_⟩) (by simp only [List.size_toArray]; omega)
    have e1 : ((i : Int) + 1) = ((i + 1 : Nat) : Int) := by omega
    have e3 : base + piled ((Tr.texts l).take i) + ((l[i]).text.length + 2) = base + piled ((Tr.texts l).take (i + 1)) := by omega
    rw [e1, e3]
    have htk : (Tr.texts l).take (i + 1) = (Tr.texts l).take i ++ [(l[i]).text] := by simp [List.take_add_one, ht]
    refine ih (i + 1) _ (upd H2 P (.lst (((Tr.texts l).take (i + 1)).map V.str))) (by omega) hlt (upd_same_hp (e.trans e2) hP) upd_same ?_
    refine I2.lset hP2 ep (its' := pts ++ [.str (l[i]).text s'.toks]) (by simp) ?_ ?_
    · rw [htk, List.map_append]
      exact pr.append (.cons ⟨_, rfl⟩ .nil)
    · rw [List.length_map, List.length_take]
      omega
end
end Lb

set_option Elab.async false
set_option linter.all false
set_option maxRecDepth 100000
set_option maxHeartbeats 4000000
/-! .. the whole, and repr(x) of it -/
namespace Lb
open PySem PySem.Spec PyProof.Rows L2
open PySem.Builtin
section
variable {X : Cx} {O : Addr → Hp → Str → Prop} {pins : List (Addr × Obj)} {σ : L2.St} {H : Hp} {s : Shared} {D : Nat}
/-- the body of list.__repr__, the list not empty -/
theorem bodyL {m base : Nat} {a : Addr} {t0 : Tr} {l0 : List Tr} {xs : List V} {A : Around} {g : List Code} {R : Result → Shared → Prop} (hO : OwnT O)
    (hT : ∀ T ∈ t0 :: l0, RpT X O D T) (hA : AtR X A g m) (hd : ∀ T ∈ t0 :: l0, m + 1 + T.dep ≤ D) (hL : SqL X.K H a xs) (hS : Shs X.K O H (t0 :: l0) xs) (hab : Above X.K O H g (Tr.ls (t0 :: l0)).sz)
    (hsz : base + (listText (Tr.texts (t0 :: l0))).length ≤ sizeLine) (I : Inv X pins σ H s) (hE : ∀ e s', X.xe e s' → R (.error e) s')
    (hR : ∀ H' s' u, Same H H' → Inv X pins σ H' s' → R (.ok (.ret (.str (listText (Tr.texts (t0 :: l0))) u))) s') :
    wpAny (model X.prog X.w) A.in1 (Builtin.listReprAt base ⟨[.ref a], []⟩) (fun fin s' => match fin with | .done f => R (.ok f) s' | .again c' => c'.quiet = true ∧ codeAny (model X.prog X.w) A c' R s') (fun e s' => R (.error e) s') s := by
  have hSh : Sh X.K O H (.ls (t0 :: l0)) (.ref a) := by
    simp only [Sh]
    exact ⟨a, xs, rfl, hL, hS⟩
  have hcl := hab.clear I hO hSh
  obtain ⟨its, o, n, r, ea, _, da⟩ := at_list I hL
  have ln := hS.len
  have ln2 := r.length
  cases its with
  | nil =>
    rw [ln] at ln2
    simp at ln2
  | cons u us =>
    refine wpAny_list_repr_head (A := A.in1) hA.gd (fun v rest kw hm => listSameRef_of_ne (hcl _ _ _ _ hm)) ea da ?_
    refine wpAny_bind (m := newList []) (wpAny_newObj_type ?_)
    refine wpAny_pure ⟨F.quiet_list_repr_loop _, ?_⟩
    have I2 := I.lnew (its := []) (ys := []) (t' := s.toks) .nil (by simp)
    exact loopT hO hT hA hd hL hS (hab.le (by simp only [Tr.sz]; omega)) I.fresh hsz hE hR _ 0 _ _ rfl (Nat.zero_le _) (upd_same_hp (Same.refl H) I.fresh) upd_same I2
theorem tupT {m : Nat} {A : Around} {g : List Code} {Y : Hp} (hO : OwnT O) (hA : AtR X A g m) (hab0 : ∀ T', Tr.sz T' ≤ Tr.sz T' ) : ∀ (l : List Tr) (us : List Value) (xs : List V) (acc : Array Str) (n : Nat) (s : Shared) (H : Hp) (Q : (Array Str × Nat) → Shared → Prop),
    (∀ T ∈ l, RpT X O D T) → (∀ T ∈ l, m + T.dep ≤ D) → (∀ T ∈ l, Above X.K O H g T.sz) → Shs X.K O H l xs → Vals xs us → n + piled (Tr.texts l) ≤ sizeLine → Inv X pins σ H s →
    (∀ s' H2, Same H H2 → Inv X pins σ H2 s' → Q ⟨acc ++ (Tr.texts l).toArray, n + piled (Tr.texts l)⟩ s') → wpAny (model X.prog X.w) A (forIn us (⟨acc, n⟩ : (Array Str × Nat)) tupBody) Q X.xe s := by
  intro l
  induction l with
  | nil =>
    intro us xs acc n s H Q hT hd hab hS r hn I h
    simp only [Shs] at hS
    subst hS
    cases r
    have h0 := h s H (Same.refl H) I
    simp only [List.forIn_nil]
    exact wpAny_pure (by simpa [piled, Tr.texts] using h0)
  | cons T l ih =>
    intro us xs acc n s H Q hT hd hab hS r hn I h
    simp only [Shs] at hS
    obtain ⟨x, xs', rfl, hx, hxs⟩ := hS
    cases r with
    | @cons _ u _ us' ru rus =>
      simp only [Tr.texts] at hn h
      rw [piled_cons] at hn
      rw [List.forIn_cons]
      refine wpAny_bind (wpAny_bind (hT T List.mem_cons_self (n + 1) A g m pins σ H s x u _ hx (by omega) hA (hd T List.mem_cons_self) (hab T List.mem_cons_self) I ru fun s1 H1 e1 I1 => wpAny_pure ?_))
      refine ih us' xs' (acc.push T.text) (n + (T.text.length + 2)) s1 H1 Q (fun T' m' => hT T' (List.mem_cons_of_mem _ m')) (fun T' m' => hd T' (List.mem_cons_of_mem _ m')) (fun T' m' => (hab T' (List.mem_cons_of_mem _ m')).same hO e1) (Shs.same (fun a t z => hO.mono _ _ _ _ e1 z) e1 _ _ hxs) rus (by omega) I1 fun s2 H2 e2 I2 => ?_
      have h1 := h s2 H2 (e1.trans e2) I2
      have e : n + piled (T.text :: Tr.texts l) = n + (T.text.length + 2) + piled (Tr.texts l) := by rw [piled_cons]; omega
      rw [e] at h1
      simpa using h1
/-- the body of tuple.__repr__ -/
theorem bodyT {m base : Nat} {a : Addr} {l : List Tr} {xs : List V} {A : Around} {g : List Code} {R : Result → Shared → Prop} {id : String} {rest : List Value} (hi : id = "tuple.__repr__" ∨ id = "tuple.__repr__.under") (hO : OwnT O)
    (hT : ∀ T ∈ l, RpT X O D T) (hA : AtR X A g m) (hd : ∀ T ∈ l, m + 1 + T.dep ≤ D) (hL : SqT X.K H a xs) (hS : Shs X.K O H l xs) (hab : Above X.K O H g (Tr.tp l).sz)
    (hsz : base + (tupleText (Tr.texts l)).length ≤ sizeLine) (I : Inv X pins σ H s) (hE : ∀ e s', X.xe e s' → R (.error e) s')
    (hR : ∀ H' s' u, Same H H' → Inv X pins σ H' s' → R (.ok (.ret (.str (tupleText (Tr.texts l)) u))) s') :
    wpOwn (model X.prog X.w) A (.builtin id ⟨.ref a :: rest, []⟩) (Builtin.tupleReprAt base ⟨[.ref a], []⟩) (fun fin s' => match fin with | .done f => R (.ok f) s' | .again c' => c'.quiet = true ∧ codeAny (model X.prog X.w) A c' R s') (fun e s' => R (.error e) s') s := by
  have hSh : Sh X.K O H (.tp l) (.ref a) := by
    simp only [Sh]
    exact ⟨a, xs, rfl, hL, hS⟩
  have hcl := hab.clear I hO hSh
  obtain ⟨its, o, n, r, ea, _, da⟩ := at_tup I hL
  have ln := hS.len
  have ln2 := r.length
  have ln3 := texts_len l
  have hlen : (Tr.texts l).length = its.length := by omega
  have hp := piled_le_tupleText (Tr.texts l)
  have hsz0 : (tupleText (Tr.texts l)).length ≤ sizeLine := by omega
  rw [tuple_repr_tree, tupleReprUnderWay_eq]
  refine wpOwn_bind (wpOwn_stackTailAny hA.gd (tupGuardF_off _) (tupGuardF_pos _) ?_)
  have hn : (g.any fun c => tupGuardF (.ref a) (c, default)) = false := by
    rw [List.any_eq_false]
    intro c hcm
    rw [tupGuardF_of_clear hcl c hcm]
    exact Bool.false_ne_true
  rw [hn]
  refine wpOwn_of_wpAny ?_
  show wpAny _ _ (tupleReprRest base (.ref a)) _ _ s
  unfold tupleReprRest Builtin.Tuple.tupleItemsOf
  refine wpAny_bind (wpAny_bind (wpAny_seqItems ea da (wpAny_pure ?_)))
  rw [← Array.forIn_toList, List.toList_toArray]
  refine wpAny_bind (wpAny_mono (tupT (m := m + 1) (Y := H) hO (hA.tup hi) (fun _ => Nat.le_refl _) l its xs _ _ s H _ hT hd (fun T hm => (hab.le (by have := sz_le hm; simp only [Tr.sz]; omega)).cons hSh (by have := sz_le hm; simp only [Tr.sz]; omega)) hS r (by omega) I fun s' H2 e2 I2 => ?_) (fun _ _ z => z) fun _ _ z => hE _ _ z)
  refine wpAny_bind (wpAny_mkStr (wpAny_pure ?_) (by simpa [tupleText, hlen] using hsz0))
  have h1 := hR H2 _ s'.toks e2 (I2.tok (s'.toks + 1))
  simpa [tupleText, hlen] using h1
theorem rp_leaf {t : Str} : RpT X O D (.lf t) := by
  intro base A g m pins σ H s x u Q hS hz hA hd hab I r hQ
  simp only [Sh] at hS
  simp only [Tr.text] at hz hQ
  cases x with
  | non =>
    cases (show u = Value.none from r)
    rw [show t = ("None" : Str) from hS] at hz hQ
    exact ReprIs.none base hz A _ s Q fun tk => hQ _ H (Same.refl H) (I.tok tk)
  | bl b =>
    cases (show u = Value.bool b from r)
    cases b with
    | true =>
      rw [show t = ("True" : Str) from hS] at hz hQ
      exact ReprIs.bool (prog := X.prog) (w := X.w) true base hz A _ s Q fun tk => hQ _ H (Same.refl H) (I.tok tk)
    | false =>
      rw [show t = ("False" : Str) from hS] at hz hQ
      exact ReprIs.bool (prog := X.prog) (w := X.w) false base hz A _ s Q fun tk => hQ _ H (Same.refl H) (I.tok tk)
  | int i =>
    obtain ⟨k, rfl⟩ := (show ∃ k, u = Value.int i k from r)
    obtain ⟨hi, e⟩ := (show i.natAbs.log2 < 1920 ∧ t = (toString i : String) from hS)
    rw [e] at hz hQ
    exact ReprIs.int k hi base hz A _ s Q fun tk => hQ _ H (Same.refl H) (I.tok tk)
  | str y =>
    obtain ⟨k, rfl⟩ := (show ∃ k, u = Value.str y k from r)
    rw [show t = reprText y from hS] at hz hQ
    exact ReprIs.str y k (by omega) base hz A _ s Q fun tk => hQ _ H (Same.refl H) (I.tok tk)
  | byt y => exact hS.elim
  | flt y => exact hS.elim
  | ty y => exact hS.elim
  | ref a => exact hS.elim
theorem rp_list {l : List Tr} (hu : X.A.units + D + 64 < cLine) (hO : OwnT O) (hT : ∀ T ∈ l, RpT X O D T) : RpT X O D (.ls l) := by
  intro base A g m pins σ H s x u Q hS hz hA hd hab I r hQ
  have hS' := hS
  simp only [Sh] at hS
  simp only [Tr.text] at hz hQ
  simp only [Tr.dep] at hd
  obtain ⟨a, xs, rfl, hL, hSs⟩ := hS
  cases (show u = Value.ref a from r)
  obtain ⟨its, o, n, rv, ea, ca, da⟩ := at_list I hL
  have hun := hA.un
  have hTy : s.TypeIs (.ref a) "list" := ⟨o, ea, ca⟩
  refine wpAny_pyReprUnder_ref (by omega) ?_
  cases l with
  | nil =>
    simp only [Shs] at hSs
    subst hSs
    cases rv
    exact wpAny_pyReprObjUnder_list_empty hTy (by omega) ea da ⟨_, _, rfl, hQ _ H (Same.refl H) (I.tok _)⟩
  | cons t0 l0 =>
    refine wpAny_pyReprObjUnder_twin (twin := "list.__repr__.under") hTy F.slot_list_repr.toG rfl (by omega) ?_
    refine call_twin_plain F.plain_list_repr_under F.entry_list_repr_under F.check_list_repr_under hTy F.slot_list_repr.toG (F.args_list_repr_1 _) ?_
    exact bodyL (R := callEnd _ _) hO hT hA (fun T hm => by have := dep_le hm; omega) hL hSs hab hz I (fun e s' z => z) fun H' s' k e I' => ⟨⟨_, _, rfl⟩, _, _, rfl, hQ _ H' e I'⟩
theorem rp_tup {l : List Tr} (hu : X.A.units + D + 64 < cLine) (hO : OwnT O) (hT : ∀ T ∈ l, RpT X O D T) : RpT X O D (.tp l) := by
  intro base A g m pins σ H s x u Q hS hz hA hd hab I r hQ
  simp only [Sh] at hS
  simp only [Tr.text] at hz hQ
  simp only [Tr.dep] at hd
  obtain ⟨a, xs, rfl, hL, hSs⟩ := hS
  cases (show u = Value.ref a from r)
  obtain ⟨its, o, n, rv, ea, ca, da⟩ := at_tup I hL
  have hun := hA.un
  have hTy : s.TypeIs (.ref a) "tuple" := ⟨o, ea, ca⟩
  refine wpAny_pyReprUnder_ref (by omega) ?_
  refine wpAny_pyReprObjUnder_twin (twin := "tuple.__repr__.under") hTy F.slot_tuple_repr rfl (by omega) ?_
  refine call_twin_own (F.quiet_tuple_repr_under _) F.entry_tuple_repr_under F.check_tuple_repr_under hTy F.slot_tuple_repr (F.args_tuple_repr_1 _) ?_
  exact bodyT (R := callEnd _ _) (.inr rfl) hO hT hA (fun T hm => by have := dep_le hm; omega) hL hSs hab hz I (fun e s' z => z) fun H' s' k e I' => ⟨⟨_, _, rfl⟩, _, _, rfl, hQ _ H' e I'⟩
/-- another object is shown -/
def OwR (X : Cx) (D : Nat) (O : Addr → Hp → Str → Prop) : Prop :=
  ∀ (t : Str) (base : Nat) (A : Around) (g : List Code) (m : Nat) (pins : List (Addr × Obj)) (σ : L2.St) (H : Hp) (s : Shared) (a : Addr) (Q : Str → Shared → Prop), O a H t → base + t.length ≤ sizeLine → AtR X A g m → m ≤ D →
    Clear g a → Inv X pins σ H s → (∀ s' H2, Same H H2 → Inv X pins σ H2 s' → Q t s') → wpAny (model X.prog X.w) A (pyReprUnder base (.ref a)) Q X.xe s
theorem OwR.or {O' : Addr → Hp → Str → Prop} (h : OwR X D O) (h' : OwR X D O') : OwR X D (fun a H t => O a H t ∨ O' a H t) :=
  fun t base A g m pins σ H s a Q ho => ho.elim (fun z => h t base A g m pins σ H s a Q z) fun z => h' t base A g m pins σ H s a Q z
theorem OwnT.or {O O' : Addr → Hp → Str → Prop} (h : OwnT O) (h' : OwnT O') : OwnT (fun a H t => O a H t ∨ O' a H t) :=
  ⟨fun a H H' t e z => z.elim (fun z => .inl (h.mono _ _ _ _ e z)) fun z => .inr (h'.mono _ _ _ _ e z), fun a H t z => z.elim (h.ins a H t) (h'.ins a H t)⟩
theorem rp_ow (hO : OwnT O) (h : OwR X D O) (t : Str) : RpT X O D (.ow t) := by
  intro base A g m pins σ H s x u Q hS hz hA hd hab I r hQ
  have hS' := hS
  simp only [Sh] at hS
  simp only [Tr.text] at hz hQ
  obtain ⟨a, rfl, o⟩ := hS
  cases (show u = Value.ref a from r)
  exact h t base A g m pins σ H s a Q o hz hA (by omega) (hab.clear I hO hS') I hQ
mutual
theorem rp (hu : X.A.units + D + 64 < cLine) (hO : OwnT O) (hI : OwR X D O) : ∀ T : Tr, RpT X O D T
  | .lf t => rp_leaf
  | .ow t => rp_ow hO hI t
  | .ls l => rp_list hu hO (rps hu hO hI l)
  | .tp l => rp_tup hu hO (rps hu hO hI l)
theorem rps (hu : X.A.units + D + 64 < cLine) (hO : OwnT O) (hI : OwR X D O) : ∀ l : List Tr, ∀ T ∈ l, RpT X O D T
  | [], _, h => nomatch h
  | t :: r, T, h => by
    rcases List.mem_cons.mp h with e | h
    · rw [e]
      exact rp hu hO hI t
    · exact rps hu hO hI r T h
end
theorem top_list {A : Around} {l : List Tr} {a : Addr} {xs : List V} {Q : Option Value → Shared → Prop} (hu : X.A.units + D + 64 < cLine) (hO : OwnT O) (hT : ∀ T ∈ l, RpT X O D T) (hA : AtR X A [] 1) (hd : Tr.deps l + 2 ≤ D)
    (hL : SqL X.K H a xs) (hS : Shs X.K O H l xs) (hz : (listText (Tr.texts l)).length ≤ sizeLine) (I : Inv X pins σ H s) (hQ : ∀ k s' H2, Same H H2 → Inv X pins σ H2 s' → Q (some (.str (listText (Tr.texts l)) k)) s') :
    wpAny (model X.prog X.w) A (callSpecialIfBound? (.ref a) (Str.ofString "__repr__")) Q X.xe s := by
  obtain ⟨its, o, n, rv, ea, ca, da⟩ := at_list I hL
  have hTy : s.TypeIs (.ref a) "list" := ⟨o, ea, ca⟩
  refine wpAny_callSpecialIfBound?_slot (name := Str.ofString "__repr__") hTy F.slot_list_repr ?_
  cases l with
  | nil =>
    simp only [Shs] at hS
    subst hS
    cases rv
    exact call_list_repr_empty hTy ea da (hQ _ _ H (Same.refl H) (I.tok _))
  | cons t0 l0 =>
    refine wpAny_call (codeAny_call_builtin F.slot_list_repr.plain F.entry_list_repr (F.slot_list_repr.check _ _ _ _ _ _ _ _ hTy (F.args_list_repr_1 _) ?_))
    exact bodyL (base := 0) (R := callEnd _ _) hO hT hA (fun T hm => by have := dep_le hm; omega) hL hS (fun _ _ _ _ z => nomatch z) (by omega) I (fun e s' z => z) fun H' s' k e I' => hQ _ _ H' e I'
theorem top_tup {A : Around} {l : List Tr} {a : Addr} {xs : List V} {Q : Option Value → Shared → Prop} (hu : X.A.units + D + 64 < cLine) (hO : OwnT O) (hT : ∀ T ∈ l, RpT X O D T) (hA : AtR X A [] 1) (hd : Tr.deps l + 2 ≤ D)
    (hL : SqT X.K H a xs) (hS : Shs X.K O H l xs) (hz : (tupleText (Tr.texts l)).length ≤ sizeLine) (I : Inv X pins σ H s) (hQ : ∀ k s' H2, Same H H2 → Inv X pins σ H2 s' → Q (some (.str (tupleText (Tr.texts l)) k)) s') :
    wpAny (model X.prog X.w) A (callSpecialIfBound? (.ref a) (Str.ofString "__repr__")) Q X.xe s := by
  obtain ⟨its, o, n, rv, ea, ca, da⟩ := at_tup I hL
  have hTy : s.TypeIs (.ref a) "tuple" := ⟨o, ea, ca⟩
  refine wpAny_callSpecialIfBound?_slotG (name := Str.ofString "__repr__") hTy F.slot_tuple_repr ?_
  refine wpAny_call (codeAny_call_builtin_own (Code.quiet_builtin _ (by decide +kernel)) F.entry_tuple_repr (F.slot_tuple_repr.check _ _ _ _ _ _ _ _ hTy (F.args_tuple_repr_1 _) ?_))
  exact bodyT (base := 0) (R := callEnd _ _) (.inl rfl) hO hT hA (fun T hm => by have := dep_le hm; omega) hL hS (fun _ _ _ _ z => nomatch z) (by omega) I (fun e s' z => z) fun H' s' k e I' => hQ _ _ H' e I'
/-- repr(x), x a list or a tuple of such -/
def rShow (K : PySem.W.Frag) (O : Addr → Hp → Str → Prop) (D : Nat) : List V → Hp → VK → Prop := fun xs H Q =>
  ∃ x T, xs = [x] ∧ Sh K O H T x ∧ (∃ l, T = .ls l ∨ T = .tp l) ∧ T.text.length ≤ sizeLine ∧ T.dep + 1 ≤ D ∧ ∀ H', Same H H' → Q (.str T.text) H'
theorem call_show {K : PySem.W.Frag} (hK : X.K = K) (hg : X.A.guards = some []) (hu : X.A.units + D + 64 < cLine) (hO : OwnT O) (hI : OwR X D O) : CallR X (.builtin "repr") (rShow K O D) := by
  subst hK
  intro pins s σ H xs us Q I r h
  obtain ⟨x, T, rfl, hS, ⟨l, hk⟩, hz, hd, q⟩ := h
  obtain ⟨u, rfl, ru⟩ := vals1 r
  have hA : AtR X X.A.in1 [] 1 := ⟨hg, rfl, rfl, Nat.le_succ _, Nat.le_refl _⟩
  refine Calls.call_function_entry PySem.F.kind_repr PySem.F.plain_repr PySem.F.entry_repr (PySem.F.args_repr1 _) ?_
  unfold Builtin.«repr»
  refine wpAny_bind (m := oneArg "repr" _) (wpAny_pure ?_)
  refine wpAny_bind (m := cRoomFor _ _) (wpAny_cRoomFor (by show X.A.units + 1 < cLine; omega) ?_)
  rcases hk with rfl | rfl
  · simp only [Sh] at hS
    simp only [Tr.text] at hz q
    simp only [Tr.dep] at hd
    obtain ⟨a, xs, rfl, hL, hSs⟩ := hS
    cases (show u = Value.ref a from ru)
    obtain ⟨its, o, n, rv, ea, ca, da⟩ := at_list I hL
    have hTy : s.TypeIs (.ref a) "list" := ⟨o, ea, ca⟩
    refine wpAny_bind (wpAny_specialOf (name := Str.ofString "__repr__") hTy F.slot_list_repr.lookup ?_)
    refine wpAny_bind (m := callSpecialIfBound? (.ref a) (Str.ofString "__repr__")) (top_list hu hO (rps hu hO hI l) hA (by omega) hL hSs hz I fun k s' H2 e I2 => ?_)
    exact wpAny_bind (wpAny_isInstance (T := "str") (b := true) rfl isSubtype_str_str (wpAny_pure ⟨_, rfl, .str _, H2, I2, ⟨_, rfl⟩, q H2 e⟩))
  · simp only [Sh] at hS
    simp only [Tr.text] at hz q
    simp only [Tr.dep] at hd
    obtain ⟨a, xs, rfl, hL, hSs⟩ := hS
    cases (show u = Value.ref a from ru)
    obtain ⟨its, o, n, rv, ea, ca, da⟩ := at_tup I hL
    have hTy : s.TypeIs (.ref a) "tuple" := ⟨o, ea, ca⟩
    refine wpAny_bind (wpAny_specialOf (name := Str.ofString "__repr__") hTy F.slot_tuple_repr.lookup ?_)
    refine wpAny_bind (m := callSpecialIfBound? (.ref a) (Str.ofString "__repr__")) (top_tup hu hO (rps hu hO hI l) hA (by omega) hL hSs hz I fun k s' H2 e I2 => ?_)
    exact wpAny_bind (wpAny_isInstance (T := "str") (b := true) rfl isSubtype_str_str (wpAny_pure ⟨_, rfl, .str _, H2, I2, ⟨_, rfl⟩, q H2 e⟩))
end
end Lb

set_option Elab.async false
set_option linter.all false
set_option maxRecDepth 100000
set_option maxHeartbeats 4000000
/-! instances of own classes: shown within lists, in f-strings, asked with `in` -/
namespace Lb
open PySem PySem.Spec PyProof.Rows L2
section
variable {X : Cx} {D : Nat} {C g : Addr} {sp : Sp} {E : XK} {CX : CXT} {n : Nat}
theorem ifBoundBy_own {M : Model} {A : Around} {E : Value → Shared → Prop} {s : Shared} {K : PySem.W.Frag} {x C f : Addr} {ox : Obj} {od : Option Obj} {base : Nat} {Q : Option Value → Shared → Prop} (X : K.In s.heap) (I : PySem.W.InstAt s.heap x ox C od)
    (hs : PySem.W.findIn K (.ref C) "__repr__" = some (some (.ref f))) (hf : PySem.W.isFn K (.ref f) = true) (h : wpAny M A (call (.ref f) [.ref x]) (fun v => Q (some v)) E s) :
    wpAny M A (callSpecialIfBoundBy? (fun g first => match reprUnder? g, first with
      | some twin, [self] => call twin [self, rawInt base]
      | _, _ => call g (first ++ [])) (.ref x) (Str.ofString "__repr__")) Q E s := by
  simp only [callSpecialIfBoundBy?, bindSpecialIfBound?]
  refine wpAny_holding (wpAny_bind (wpAny_bind (wpAny_bind (I.type.here ((PySem.W.looks_findIn X hs).here ?_)))))
  refine wpAny_bind (wpAny_askSetting (wpAny_ite ?_))
  have fin : wpAny M A (call (.ref f) ([.ref x] ++ []) >>= fun v => pure (some v)) Q E s := wpAny_bind (wpAny_mono h (fun v s' h' => wpAny_pure h') fun _ _ h' => h')
  split
  · exact wpAny_bind ((PySem.W.bind_fn X _ (beq_iff_eq.mp hf)).here (wpAny_pure (by exact fin)))
  · exact wpAny_tryCatch (wpAny_bind ((PySem.W.bind_fn X _ (beq_iff_eq.mp hf)).here (wpAny_pure (by exact fin))))
/-- an instance whose class has __repr__ -/
theorem ow_repr {O : Addr → Hp → Str → Prop} (hs : PySem.W.findIn X.K (.ref C) "__repr__" = some (some (.ref g))) (hf : PySem.W.isFn X.K (.ref g) = true) (F : FnR X.prog X.w X.K X.mg X.base CX n g sp) (hr : Room (n + D) X.A) (hx : Passes CX X E)
    (hO : ∀ a H t, O a H t → (∃ dx fs, H a = some (.ins C dx fs)) ∧ ∀ Q : VK, (∀ H', Same H H' → Q (.str t) H') → sp [.ref a] H Q E) : OwR X D O := by
  intro t base A gs m pins σ H s a Q o hz hA hm hcl I hQ
  obtain ⟨⟨dx, fs, ha⟩, hsp⟩ := hO _ _ _ o
  obtain ⟨od, J⟩ := inst_at I ha
  have h1 := hA.dp
  have h2 := hA.un
  have hr1 := hr.dp
  have hr2 := hr.un
  refine wpAny_pyReprUnder_ref (by omega) ?_
  unfold pyReprObjUnder pyReprObjBy
  refine wpAny_bind (wpAny_cRoomFor (by omega) ?_)
  refine wpAny_bind (wpAny_bind (J.type.here ((PySem.W.looks_findIn I.kIn hs).here ?_)))
  have hrA : Room n A := ⟨by rw [hA.hd]; exact hr.hd, by omega, by omega⟩
  have e0 : Env0 X.prog X.w X.K X.mg X.base A X.stack s H := ⟨by rw [hA.fr]; exact I.env0.frames, I.env0.mod, I.env0.bs, I.env0.bsz, I.env0.funs, I.env0.frf, I.env0.hok, I.env0.bare⟩
  refine wpAny_bind (ifBoundBy_own I.kIn J hs hf ?_)
  refine wpAny_mono (wpAny_call (SlX.run_at (us := [.ref a]) (ws := [.ref a]) (Q := fun v H' => v = .str t ∧ Same H H') F hrA e0 hx I (.cons rfl .nil) (hsp _ fun H' e => ⟨rfl, e⟩))) (fun w s' z => ?_) fun _ _ x => x
  obtain ⟨z', H', I', rz, ez, e⟩ := z
  subst ez
  obtain ⟨k, rfl⟩ := (show ∃ k, w = Value.str t k from rz)
  exact wpAny_bind (wpAny_isInstance (T := "str") (b := true) rfl isSubtype_str_str (wpAny_pure ⟨_, _, rfl, hQ _ H' e I'⟩))
/-- an empty dict -/
def OEmpty : Addr → Hp → Str → Prop := fun a H t => H a = some (.dK []) ∧ t = "{}"
theorem own_empty : OwnT OEmpty := ⟨fun a H H' t e h => ⟨e _ _ h.1, h.2⟩, fun a H t h => .inr ⟨_, h.1⟩⟩
theorem ow_empty (hu : X.A.units + D + 64 < cLine) : OwR X D OEmpty := by
  intro t base A gs m pins σ H s a Q o hz hA hm hcl I hQ
  obtain ⟨e, rfl⟩ := o
  obtain ⟨_, hsm, vs, r, o, es, ep, h1, h2, h3, _, h5, _⟩ := dk_of I.hok e
  cases r
  have he : es = #[] := by
    cases es with
    | mk l =>
      cases (show Pairs _ l [] from h5)
      rfl
  subst he
  have h2' := hA.un
  have hk : ReprK X.prog X.w [a] s.heap 1 (.ref a) (dictText []) := ReprK.dict (d := 0) (as := []) h1 h2.1 h3 hsm (by simp) .nil
  exact hk base hz A gs X.xe s Q hA.gd (fun b hb => by rw [List.mem_singleton.mp hb]; exact hcl) (by omega) (fun _ _ z => z) fun h' tk k => hQ _ H (Same.refl H) (I.kept k)
/-- {x} of an instance whose class has __str__ -/
def tFmtOwn (C : Addr) (sp : Sp) (E : XK) (te : TE) : TE := fun σ H Q => te σ H fun x H1 => ∃ a dx fs, x = .ref a ∧ H1 a = some (.ins C dx fs) ∧ sp [x] H1 (fun z H' => ∃ y, z = .str y ∧ Q (.str y) H') E
theorem pe_fmtOwn {e : Expr} {te : TE} {pos : Pos} (hfm : PySem.W.findIn X.K (.ref C) "__format__" = some (some (.builtin "object.__format__"))) (hm : PySem.W.mroIn X.K C (.type "object") = some true)
    (hs : PySem.W.findIn X.K (.ref C) "__str__" = some (some (.ref g))) (hf : PySem.W.isFn X.K (.ref g) = true) (F : FnR X.prog X.w X.K X.mg X.base CX n g sp) (hr : Room (n + 1) X.A) (hx : Passes CX X E) (he : PE X e te) :
    PE X (.FormattedValue e (-1) none pos) (tFmtOwn C sp E te) := by
  refine ⟨fun pins s σ H Q I h => ?_⟩
  refine wpAny_FormattedValue_plain (thn (he.run pins s σ H _ I h) fun v s1 hv => ?_)
  obtain ⟨x, H1, I1, r1, a, dx, fs, rfl, ha, q⟩ := hv
  cases (show v = Value.ref a from r1)
  obtain ⟨od, J⟩ := inst_at I1 ha
  have hu := hr.un
  refine PySem.W.kfo_fieldS (by show X.A.units + 1 < cLine; omega) I1.kIn J hfm hm hs hf ?_
  refine wpAny_mono (wpAny_call (SlX.run_at (us := [.ref a]) (ws := [.ref a]) F hr.in1 (I1.tok (s1.toks + 1)).env0.in1 hx (I1.tok (s1.toks + 1)) (.cons rfl .nil) q)) (fun w s' z => ?_) fun _ _ x => x
  obtain ⟨z', H', I', rz, y, ez, qz⟩ := z
  subst ez
  obtain ⟨t, rfl⟩ := (show ∃ t, w = Value.str y t from rz)
  exact ⟨.str y, H', I', ⟨t, rfl⟩, qz⟩
/-- {x!r} of an instance whose class has __repr__ -/
def tFmtOwnR (C : Addr) (sp : Sp) (E : XK) (te : TE) : TE := fun σ H Q => te σ H fun x H1 => ∃ a dx fs, x = .ref a ∧ H1 a = some (.ins C dx fs) ∧ sp [x] H1 (fun z H' => ∃ y, z = .str y ∧ y.length ≤ sizeLine ∧ Q (.str y) H') E
theorem pe_fmtOwnR {e : Expr} {te : TE} {pos : Pos} (hs : PySem.W.findIn X.K (.ref C) "__repr__" = some (some (.ref g))) (hf : PySem.W.isFn X.K (.ref g) = true) (F : FnR X.prog X.w X.K X.mg X.base CX n g sp) (hr : Room (n + 1) X.A) (hx : Passes CX X E) (he : PE X e te) :
    PE X (.FormattedValue e 114 none pos) (tFmtOwnR C sp E te) := by
  refine ⟨fun pins s σ H Q I h => ?_⟩
  refine wpAny_FormattedValue_repr (thn (he.run pins s σ H _ I h) fun v s1 hv => ?_)
  obtain ⟨x, H1, I1, r1, a, dx, fs, rfl, ha, q⟩ := hv
  cases (show v = Value.ref a from r1)
  obtain ⟨od, J⟩ := inst_at I1 ha
  have hu := hr.un
  unfold pyReprObj
  refine wpAny_bind (wpAny_cRoomFor (by omega) ?_)
  refine wpAny_bind (wpAny_bind (J.type.here ((PySem.W.looks_findIn I1.kIn hs).here ?_)))
  refine wpAny_bind (m := callSpecialIfBound? (.ref a) (Str.ofString "__repr__")) (PySem.W.ifBound_K I1.kIn J hs hf ?_)
  refine wpAny_mono (wpAny_call (SlX.run_at (us := [.ref a]) (ws := [.ref a]) F (hr.mono (Nat.le_succ _)) I1.env0 hx I1 (.cons rfl .nil) q)) (fun w s' z => ?_) fun _ _ x => x
  obtain ⟨z', H', I', rz, y, ez, hz, qz⟩ := z
  subst ez
  obtain ⟨t, rfl⟩ := (show ∃ t, w = Value.str y t from rz)
  refine wpAny_bind (wpAny_isInstance (T := "str") (b := true) rfl isSubtype_str_str (wpAny_pure ?_))
  exact wpAny_formatField_str ⟨.str y, H', I', ⟨t, rfl⟩, qz⟩ ⟨.str y, H', I'.tok _, ⟨_, rfl⟩, qz⟩ hz
/-- v in x, x an instance whose class has __contains__, which answers True or False -/
def rInOwn (C : Addr) (sp : Sp) (E : XK) : R2 := fun v x H Q => ∃ a dx fs, x = .ref a ∧ H a = some (.ins C dx fs) ∧ sp [x, v] H (fun z H' => ∃ b, z = .bl b ∧ Q (.bl b) H') E
theorem op_inOwn {K : PySem.W.Frag} (hK : X.K = K) (hs : PySem.W.findIn K (.ref C) "__contains__" = some (some (.ref g))) (hf : PySem.W.isFn K (.ref g) = true) (F : FnR X.prog X.w X.K X.mg X.base CX n g sp) (hr : Room n X.A) (hx : Passes CX X E) :
    OpR X (compareOp .In) (rInOwn C sp E) := by
  subst hK
  intro pins s σ H x y v u Q I rx ry h
  obtain ⟨a, dx, fs, rfl, ha, q⟩ := h
  cases (show u = Value.ref a from ry)
  obtain ⟨od, J⟩ := inst_at I ha
  obtain ⟨m, hF⟩ := I.fr
  refine PySem.W.in_K hF I.ok.mod.kin J hs hf ?_
  refine wpAny_mono (wpAny_call (SlX.run_at (us := [.ref a, v]) (ws := [.ref a, x]) F hr I.env0 hx I (.cons rfl (.cons rx .nil)) q)) (fun w s' z => ?_) fun _ _ x => x
  obtain ⟨z', H', I', rz, b, ez, qz⟩ := z
  subst ez
  cases (show w = Value.bool b from rz)
  exact wpAny_truthy_bool ⟨.bl b, H', I', rfl, qz⟩
end
end Lb

set_option Elab.async false
set_option linter.all false
set_option maxRecDepth 100000
set_option maxHeartbeats 4000000
/-! [f(x) for x in ..], each of it found from one of the other's -/
namespace Lb
open PySem PySem.Spec PyProof.Rows L2
theorem paired_mono {α β : Type} {F G : α → β → Prop} (h : ∀ a b, F a b → G a b) : ∀ {l : List α} {m : List β}, Paired F l m → Paired G l m
  | _, _, .nil => .nil
  | _, _, .cons r t => .cons (h _ _ r) (paired_mono h t)
theorem paired_snoc {α β : Type} {F : α → β → Prop} {x : α} {y : β} (r : F x y) : ∀ {l : List α} {m : List β}, Paired F l m → Paired F (l ++ [x]) (m ++ [y])
  | _, _, .nil => .cons r .nil
  | _, _, .cons q t => .cons q (paired_snoc r t)
/-- what is known after i steps -/
def MapP (R : V → V → Hp → Prop) (H1 : Hp) (D : Addr) (xs : List V) (i : Nat) (H : Hp) : Prop :=
  Same H1 H ∧ ∃ acc, H D = some (.lst acc) ∧ acc.length = i ∧ Paired (fun x y => R x y H) (xs.take i) acc
section
variable {K : PySem.W.Frag} {a D : Addr} {xs : List V} {g : TG} {te : TE} {vs : List Nat} {σ : L2.St} {H1 : Hp} {Qd : Hp → Prop} (R : V → V → Hp → Prop)
theorem mapP (hR : ∀ x y H H', Same H H' → R x y H → R x y H') (hU : ∀ x y H acc o, H D = some (.lst acc) → R x y H → R x y (upd H D o)) (hD : H1 D = none) (hlen : xs.length ≤ 1000)
    (hs : ∀ (i : Nat) (x : V) (H : Hp), xs[i]? = some x → Same H1 H → ∀ Q' : VK, (∀ y H4, Same H H4 → R x y H4 → Q' y H4) → g x (wipe σ vs) H fun σ2 H2 => wipe σ2 vs = wipe σ vs ∧ te σ2 H2 Q') (i : Nat) (x : V) (H : Hp) (e : xs[i]? = some x)
    (p : MapP R H1 D xs i H) :
    g x (wipe σ vs) H fun σ2 H2 => wipe σ2 vs = wipe σ vs ∧ tYes σ2 H2 fun b H3 =>
      if b = true then te σ2 H3 fun y H4 => ∃ acc, H4 D = some (.lst acc) ∧ acc.length < sizeLine ∧ MapP R H1 D xs (i + 1) (upd H4 D (.lst (acc ++ [y]))) else MapP R H1 D xs (i + 1) H3 := by
  obtain ⟨s, acc, ed, el, pr⟩ := p
  have hi : i < xs.length := by
    rcases Nat.lt_or_ge i xs.length with h | h
    · exact h
    · rw [List.getElem?_eq_none h] at e
      cases e
  refine hs i x H e s (fun y H4 => ∃ acc, H4 D = some (.lst acc) ∧ acc.length < sizeLine ∧ MapP R H1 D xs (i + 1) (upd H4 D (.lst (acc ++ [y])))) fun y H4 s4 r4 => ?_
  refine ⟨acc, s4 _ _ ed, szlt (by omega), fun b o eb => ?_, _, upd_same, by simp [el], ?_⟩
  · have nb : b ≠ D := ne_of_none eb hD
    rw [upd_ne nb]
    exact s4 _ _ (s _ _ eb)
  · have et : xs.take (i + 1) = xs.take i ++ [x] := by simp [List.take_add_one, e]
    rw [et]
    exact paired_snoc (F := fun u z => R u z (upd H4 D (.lst (acc ++ [y])))) (hU _ _ _ _ _ (s4 _ _ ed) r4) (paired_mono (fun x y r => hU _ _ _ _ _ (s4 _ _ ed) (hR _ _ _ _ s4 r)) pr)
/-- over a tuple -/
theorem map_tup (hR : ∀ x y H H', Same H H' → R x y H → R x y H') (hU : ∀ x y H acc o, H D = some (.lst acc) → R x y H → R x y (upd H D o)) (hD : H1 D = none) (hlen : xs.length ≤ 1000) (hS : SqT K H1 a xs)
    (hs : ∀ (i : Nat) (x : V) (H : Hp), xs[i]? = some x → Same H1 H → ∀ Q' : VK, (∀ y H4, Same H H4 → R x y H4 → Q' y H4) → g x (wipe σ vs) H fun σ2 H2 => wipe σ2 vs = wipe σ vs ∧ te σ2 H2 Q')
    (hd : ∀ H ys, Same H1 H → H D = some (.lst ys) → Paired (fun x y => R x y H) xs ys → Qd H) :
    ∃ W : Nat → Nat → Hp → Prop, (∃ m, W 0 m (upd H1 D (.lst []))) ∧ ∀ i m H, W i m H →
      ((Itt K a).stop i H ∧ Qd H) ∨ ((Itt K a).go i H ∧ ∃ Nx : Hp → Prop, (∀ H', Nx H' → ∃ m', m' < m ∧ W (i + 1) m' H') ∧ ∀ x H', (Itt K a).yld i H x H' → g x (wipe σ vs) H' fun σ2 H2 => wipe σ2 vs = wipe σ vs ∧ tYes σ2 H2 fun b H3 =>
        if b = true then te σ2 H3 fun y H4 => ∃ acc, H4 D = some (.lst acc) ∧ acc.length < sizeLine ∧ Nx (upd H4 D (.lst (acc ++ [y]))) else Nx H3) :=
  lc_tup (Qd := Qd) (MapP R H1 D xs) ⟨upd_same_hp (Same.refl H1) hD, [], upd_same, rfl, .nil⟩ (fun i H _ p => SqT.ext hS p.1) (fun i x H e p => mapP R hR hU hD hlen hs i x H e p)
    fun H p => let ⟨s, acc, ed, el, pr⟩ := p; hd H acc s ed (by rw [List.take_length] at pr; exact pr)
/-- over a list -/
theorem map_lst (hR : ∀ x y H H', Same H H' → R x y H → R x y H') (hU : ∀ x y H acc o, H D = some (.lst acc) → R x y H → R x y (upd H D o)) (hD : H1 D = none) (hlen : xs.length ≤ 1000) (hS : SqL K H1 a xs)
    (hs : ∀ (i : Nat) (x : V) (H : Hp), xs[i]? = some x → Same H1 H → ∀ Q' : VK, (∀ y H4, Same H H4 → R x y H4 → Q' y H4) → g x (wipe σ vs) H fun σ2 H2 => wipe σ2 vs = wipe σ vs ∧ te σ2 H2 Q')
    (hd : ∀ H ys, Same H1 H → H D = some (.lst ys) → Paired (fun x y => R x y H) xs ys → Qd H) :
    ∃ W : Nat → Nat → Hp → Prop, (∃ m, W 0 m (upd H1 D (.lst []))) ∧ ∀ i m H, W i m H →
      ((Itl K a).stop i H ∧ Qd H) ∨ ((Itl K a).go i H ∧ ∃ Nx : Hp → Prop, (∀ H', Nx H' → ∃ m', m' < m ∧ W (i + 1) m' H') ∧ ∀ x H', (Itl K a).yld i H x H' → g x (wipe σ vs) H' fun σ2 H2 => wipe σ2 vs = wipe σ vs ∧ tYes σ2 H2 fun b H3 =>
        if b = true then te σ2 H3 fun y H4 => ∃ acc, H4 D = some (.lst acc) ∧ acc.length < sizeLine ∧ Nx (upd H4 D (.lst (acc ++ [y]))) else Nx H3) :=
  lc_list (Qd := Qd) (MapP R H1 D xs) ⟨upd_same_hp (Same.refl H1) hD, [], upd_same, rfl, .nil⟩ (fun i H _ p => Same.seq p.1 hS) (fun i x H e p => mapP R hR hU hD hlen hs i x H e p)
    fun H p => let ⟨s, acc, ed, el, pr⟩ := p; hd H acc s ed (by rw [List.take_length] at pr; exact pr)
end
end Lb

set_option Elab.async false
set_option linter.all false
set_option maxRecDepth 100000
set_option maxHeartbeats 1000000
/-! x(lambda: body, y): a def that is given a lambda and a value -/
namespace Lb
open PySem PySem.Spec PyProof.Rows L2 LamX
def GivesTo2 (X : Cx) (Ng : List Str) (x : Str) (sg : Scope) (g : Addr) (cdg : Value) (bg : List Stmt) (a : Str) (q : Str) (TT : V → (XK → Hp → VK → Prop) → Hp → VK → Prop) : Prop :=
  ∀ (f c' : Addr) (s : Shared) (H : Hp) (Q : VK) (tl : XK → Hp → VK → Prop) (v : V),
    (∀ (W : WX) (pn : List (Addr × Obj)) (xe : Value → Shared → Prop) (E : XK) (σ0 : List (Option V)) (p1 p2 : Pos), Takes ((cxOf C8.CX0 X.prog X.w X.K X.mg X.base Ng x sg g cdg X.A X.stack s H C8.E0).tr pn xe) W → (∀ cls d H', E cls d H' → W cls d σ0 H') →
      PE ((cxOf C8.CX0 X.prog X.w X.K X.mg X.base Ng x sg g cdg X.A X.stack s H C8.E0).tr pn xe) (.Call (.Name a p1) [] [] p2) (fun σZ HZ Q => σZ = σ0 ∧ σZ[0]? = some (some (.ref f)) ∧ HZ c' = some (CodeO c' q) ∧ tl E HZ Q)) →
    H c' = some (CodeO c' q) → TT v tl H Q →
    ∃ t, PSs (cxOf C8.CX0 X.prog X.w X.K X.mg X.base Ng x sg g cdg X.A X.stack s H C8.E0).nox bg t ∧ t { nx := fun _ H' => Q .non H', rt := Q } (L2.start Ng [.ref f, v]) H
def tLam2 (T : List (Addr × Str)) (j : Nat) (TT : V → (XK → Hp → VK → Prop) → Hp → VK → Prop) (t : XK → TE) : TE := fun σ H Q => ∃ v, σ[j]? = some (some v) ∧ Tabs T H ∧ ∀ H1, ExtN H H1 → Tabs T H1 → TT v (fun E H' Q' => t E σ H' Q') H1 Q
section
variable {X : Cx} {pins : List (Addr × Obj)} {σ : List (Option V)} {H : Hp} {s : Shared}
/-- the lambda's run, from the body that calls it -/
theorem lam_run {A : Around} {outer : List Env} {f c' : Addr} {q : Str} {pm ctv : Value} {params : Arguments} {body : Expr} {scope : Scope} {k : Nat} {E : XK} {tb : TE} {HZ : Hp} {sZ : Shared} {Q : VK}
    (I : Inv X pins σ H s) (L : LamS X.env.scope scope) (of1 : sZ.heap.get? f = some (PySem.W.kla_obj "<lambda>" (X.env.qual ++ "<lambda>") params body scope (cloFrom X.env.cells scope.names []) pm c' ctv)) (hc : HZ c' = some (CodeO c' q))
    (hbind : bindArgs (PySem.W.kla_fn "<lambda>" (X.env.qual ++ "<lambda>") params body scope (cloFrom X.env.cells scope.names []) pm (.ref c') ctv) ⟨[], []⟩ = pure []) (hq : q = X.env.qual ++ "<lambda>") (hr : Room (k + 1) A) (e0 : Env0 X.prog X.w X.K X.mg X.base A outer sZ HZ) (lim : sZ.heap.NoLimit)
    (un : Un (frs X.stack) [] H HZ s.heap sZ.heap) (hbody : ∀ (A : Around) (outer : List Env) (s : Shared) (H : Hp), Room k (A.deeper (lamEnv X scope s.heap.objs.size f c')) → PE (lamCx X A outer s H E scope f c') body tb) (ht : tb σ HZ Q) :
    codeAny (model X.prog X.w) A (.call (.ref f) ⟨[], []⟩) (CR (L2.CX X.prog X.w) outer X.prog X.w HZ sZ Q E) sZ := by
  subst hq
  obtain ⟨⟨oc, vs, t, hoc, hdc, hvc⟩, _, _⟩ := e0.hok c' _ hc
  refine PySem.W.kla_callFunE hr.depth of1 rfl L.co L.gen rfl ⟨c', oc, vs, t, rfl, hoc, hdc, hvc⟩ ?_
  rw [hbind]
  refine wpAny_pure (wpAny_newFunctionEnv (fun y hy => (L.own y hy).2) (fun y hy => absurd hy (by simp)) (fun h₁ hns hsb => ⟨lim.fresh _ hsb, ?_⟩) L.kind)
  show codeAny _ _ (.expr body (lamEnv X scope sZ.heap.objs.size f c')) _ _
  refine PySem.W.kla_codeExpr (wpAny_mono ((hbody A outer sZ HZ (hr.deeper _)).run [] _ _ HZ Q (lam_start2 I L e0 hr.hd un hns fun b o e => hsb.extBut b o (Nat.ne_of_lt (Heap.lt_size e)) (Heap.get?_push_of_some _ e)) ht) (fun v s' z => ?_) fun e s' z => z)
  obtain ⟨w', H', J', rv, z⟩ := z
  exact ⟨w', H', J'.os, J'.bare, J'.base, J'.hok, rv, z⟩
/-- x(), in the def that got the lambda, the frame's values known -/
theorem pe_act2 {CXg : CXT} {Eg : XK} {Ng : List Str} {qg : Str} {sg : Scope} {g f c' : Addr} {cdg pm ctv : Value} {params : Arguments} {body : Expr} {scope : Scope} {k i : Nat} {a : Str} {pn : List (Addr × Obj)} {xe : Value → Shared → Prop} {W : WX} {E : XK} {tb : TE} {σ0 : List (Option V)} {p1 p2 : Pos}
    (I : Inv X pins σ H s) (L : LamS X.env.scope scope) (hf : s.heap.get? f = some (PySem.W.kla_obj "<lambda>" (X.env.qual ++ "<lambda>") params body scope (cloFrom X.env.cells scope.names []) pm c' ctv)) (hfn : H f = none) (hfr : f ∉ frs X.stack)
    (hbind : bindArgs (PySem.W.kla_fn "<lambda>" (X.env.qual ++ "<lambda>") params body scope (cloFrom X.env.cells scope.names []) pm (.ref c') ctv) ⟨[], []⟩ = pure [])
    (tk : Takes ((cxOf CXg X.prog X.w X.K X.mg X.base Ng qg sg g cdg X.A X.stack s H Eg).tr pn xe) W) (hW : ∀ cls d H', E cls d H' → W cls d σ0 H') (hr : Room (k + 1) (X.A.deeper (envOfC qg sg s.heap.objs.size g cdg)))
    (hbody : ∀ (A : Around) (outer : List Env) (s : Shared) (H : Hp), Room k (A.deeper (lamEnv X scope s.heap.objs.size f c')) → PE (lamCx X A outer s H E scope f c') body tb)
    (hN : Ng[i]? = some a) (hv : Vis sg a) (hd : (a == ("__debug__" : Str)) = false := by decide) (hcd : (a == ("__classdict__" : Str)) = false := by decide) :
    PE ((cxOf CXg X.prog X.w X.K X.mg X.base Ng qg sg g cdg X.A X.stack s H Eg).tr pn xe) (.Call (.Name a p1) [] [] p2)
      (fun σZ HZ Q => σZ = σ0 ∧ σZ[i]? = some (some (.ref f)) ∧ HZ c' = some (CodeO c' (X.env.qual ++ "<lambda>")) ∧ tb σ HZ Q) := by
  refine ⟨fun pinsZ sZ σZ HZ Q IZ h => ?_⟩
  obtain ⟨rfl, hs, hc, ht⟩ := h
  refine wpAny_Call_Name_kw (thn ((pe_var (pos := p1) (i := i) hN hv hd hcd).run pinsZ sZ σZ HZ (fun v H1 => v = .ref f ∧ H1 = HZ) IZ ⟨.ref f, hs, rfl, rfl⟩) fun u s1 ⟨v, H1, I1, r1, q1⟩ => ?_)
  obtain ⟨ev, eH⟩ := q1
  subst ev
  rw [eH] at I1
  obtain rfl : u = Value.ref f := r1
  have of1 : s1.heap.get? f = some (PySem.W.kla_obj "<lambda>" (X.env.qual ++ "<lambda>") params body scope (cloFrom X.env.cells scope.names []) pm c' ctv) := I1.base.keep f _ hf hfn hfr (fun z => nomatch (show f ∈ ([] : List Addr) from z))
  refine PySem.W.callWith_F0 ⟨_, _, _, _, of1⟩ ?_
  have lim : s1.heap.NoLimit := I1.nolimit
  have un : Un (frs X.stack) [] H HZ s.heap s1.heap := I1.base
  have e0 : Env0 X.prog X.w X.K X.mg X.base (X.A.deeper (envOfC qg sg s.heap.objs.size g cdg)) (envOfC qg sg s.heap.objs.size g cdg :: X.stack) s1 HZ := I1.env0
  have rc := lam_run (X := X) (E := E) (Q := Q) I L of1 hc hbind rfl hr e0 lim un hbody ht
  refine wpAny_call (codeAny_mono rc fun r s' z => ?_)
  cases r with
  | error er => exact tk er s' (XE.of_call I1 (fun cls d H' h => hW cls d H' h) z)
  | ok fl =>
    cases fl with
    | ret u => exact I1.after z
    | next => exact False.elim z
    | brk => exact False.elim z
    | cont => exact False.elim z
theorem pe_lamcall2 {T : List (Addr × Str)} {TT : V → (XK → Hp → VK → Prop) → Hp → VK → Prop} {x a b : Str} {g c P : Addr} {k j : Nat} {pg : Arguments} {bg : List Stmt} {sg : Scope} {dV kV doc pm cdv ct oc : Value} {an od : Option Addr} {osl : Array (Option Value)} {Ng : List Str}
    {params : Arguments} {body e2 : Expr} {scope : Scope} {t : XK → TE} {p lpos pos : Pos} (hg : Gl X x) (hm : X.mg x = some (.ref g)) (hk : PySem.W.keepIn X.K (.ref g) = true)
    (lk : X.K.lookup g = some ⟨oc, od, .func (PySem.W.fnOf x x pg bg sg dV kV doc pm an cdv ct), osl⟩) (hcg : PySem.W.codeIn X.K cdv x = true) (hb : L2.Binds X.K (PySem.W.fnOf x x pg bg sg dV kV doc pm an cdv ct) [a, b] []) (Sg : FnScope Ng [a, b] sg) (hNg : Ng[0]? = some a) (hva : Vis sg a)
    (hG : GivesTo2 X Ng x sg g cdv bg a (X.env.qual ++ "<lambda>") TT) (he2 : PE X e2 (tVar j))
    (TB : TabB X.base X.mg c P) (hcode : X.env.code = .ref c) (hmT : (P, X.env.qual ++ "<lambda>") ∈ T) (hu : ∀ p ∈ T, p.1 = P → p.2 = X.env.qual ++ "<lambda>") (hr : Room (k + 2) X.A) (L : LamS X.env.scope scope) (hdef : defaultsOf params X.env = ([], []))
    (hbind : ∀ (q : Str) (cl : List (Str × Addr)) (pm cv ctv : Value), bindArgs (PySem.W.kla_fn "<lambda>" q params body scope cl pm cv ctv) ⟨[], []⟩ = pure [])
    (hbody : ∀ (A : Around) (outer : List Env) (s : Shared) (H : Hp) (E : XK) (f c' : Addr), Room k (A.deeper (lamEnv X scope s.heap.objs.size f c')) → PE (lamCx X A outer s H E scope f c') body (t E))
    (hs2 : starEach [e2] X.env = (false, eval e2 X.env) :: starEach [] X.env := by rfl)
    (hdb : (x == ("__debug__" : Str)) = false := by decide) (hd : (a == ("__debug__" : Str)) = false := by decide) (hcd : (a == ("__classdict__" : Str)) = false := by decide) :
    PE X (.Call (.Name x p) [.Lambda params body scope lpos, e2] [] pos) (tLam2 T j TT t) := by
  refine ⟨fun pins s σ H Q I h => ?_⟩
  obtain ⟨v2, hv2, hT, h⟩ := h
  refine wpAny_Call_Name_kw (ld_glob I hg hm ?_ hdb)
  refine PySem.W.callWith_K (h₀ := X.base) I.ok.mod.kin hk ?_ (by rfl) (by rw [hs2]; rfl)
  show wpAny _ _ (spliced ((false, eval (.Lambda params body scope lpos) X.env) :: backTo pos (starEach [e2] X.env))) _ _ s
  refine Calls.spliced_cons (lam_make2 I TB hcode hmT hu hT hdef (L.has I.ok) fun f c' pm' ctv H1 s' I1 eN T1 hf hfn hfr hco => ?_)
  rw [hs2]
  show wpAny _ _ (spliced ((false, eval e2 X.env) :: backTo pos (starEach [] X.env))) _ _ s'
  have fd : ∀ {b : Addr} {o : Obj} {es ep}, s'.heap.get? b = some o → o.data = .dict es ep → f ≠ b := fun {b o es ep} e d z => by
    rw [← z, hf] at e
    cases e
    cases d
  have nL : f ≠ X.env.locals := by
    obtain ⟨m, ⟨o, es, ep, ho, hd', _⟩, _⟩ := I1.loc
    exact fd ho hd'
  have nF : f ∉ X.fs := fun hb => by
    refine hfr ?_
    rcases I1.ok.stk with e | ⟨e, hfm⟩
    · rw [e]
      exact hb
    · rw [e]
      unfold frs
      rw [List.filterMap_cons, hfm]
      exact List.mem_cons_of_mem _ hb
  have I1p : Inv X ((f, PySem.W.kla_obj "<lambda>" (X.env.qual ++ "<lambda>") params body scope (cloFrom X.env.cells scope.names []) pm' c' ctv) :: pins) σ H1 s' :=
    ⟨I1.ok, I1.os, I1.bare, I1.base, I1.loc, I1.cell, I1.free, I1.freeC, fun p hp => by
        rcases List.mem_append.mp hp with hp | hp
        · exact I1.pin p (List.mem_append_left _ hp)
        · rcases List.mem_cons.mp hp with rfl | hp
          · exact ⟨hf, hfn, nL, nF, fun v z => nomatch z⟩
          · exact I1.pin p (List.mem_append_right _ hp), I1.hok, I1.len⟩
  refine Calls.spliced_cons (thn (he2.run _ s' σ H1 (fun v H2 => v = v2 ∧ H2 = H1) I1p ⟨v2, hv2, rfl, rfl⟩) fun u s2 ⟨v, H2, I2, r2, q2⟩ => ?_)
  obtain ⟨rfl, rfl⟩ := q2
  have hf2 := (I2.pin _ (List.mem_append_right _ List.mem_cons_self)).1
  have I2' : Inv X pins σ H2 s2 := ⟨I2.ok, I2.os, I2.bare, I2.base, I2.loc, I2.cell, I2.free, I2.freeC, fun p hp => I2.pin p (by
    rcases List.mem_append.mp hp with hp | hp
    · exact List.mem_append_left _ hp
    · exact List.mem_append_right _ (List.mem_cons_of_mem _ hp)), I2.hok, I2.len⟩
  refine Calls.spliced_nil ⟨I2'.kIn, ?_⟩
  have rc : codeAny (model X.prog X.w) X.A (.call (.ref g) ⟨[.ref f, u], []⟩) (CR C8.CX0 X.stack X.prog X.w H2 s2 Q C8.E0) s2 := by
    refine run_ofS (N := Ng) (ps := [a, b]) (us := [.ref f, u]) (vs := [.ref f, v]) lk hcg Sg hr I2'.env0 (hb s2 [.ref f, u] I2'.kIn rfl) (.cons rfl (.cons r2 .nil)) rfl fun hr' => ?_
    obtain ⟨t', ht', hq'⟩ := hG f c' s2 H2 Q (fun E H' Q' => t E σ H' Q') v (fun W pn xe E σ0 p1 p2 tk hW => pe_act2 (i := 0) I2' L hf2 hfn hfr (hbind _ _ _ _ _) tk hW hr' (fun A outer s H hr2 => hbody A outer s H E f c' hr2) hNg hva hd hcd) hco (h H2 eN T1)
    exact ⟨t', ht'.nox, hq'⟩
  refine wpAny_call (codeAny_mono rc fun r s3 hq => ?_)
  cases r with
  | error e => exact (show False from hq).elim
  | ok fl =>
    cases fl with
    | ret u => exact I2'.after hq
    | next => exact False.elim hq
    | brk => exact False.elim hq
    | cont => exact False.elim hq
end
end Lb

set_option Elab.async false
set_option linter.all false
set_option maxRecDepth 100000
set_option maxHeartbeats 4000000
namespace K48
open PySem L2 Lb
def top (i : Nat) : Stmt := PySem.Challenge.pw_surepipes_k48_stretches.main.body.getD i (.Pass ⟨0, 0, 0, 0⟩)
abbrev s_InvalidAmount_init_ : Stmt := (inClass (top 5) 0)
theorem sc_InvalidAmount_init_ : FnScope ["self", "value"] ["self", "value"] (defScope s_InvalidAmount_init_) := ⟨rfl, rfl, rfl, by decide +kernel, rfl, by decide +kernel, by decide +kernel⟩
abbrev s_is_integer : Stmt := (top 11)
theorem sc_is_integer : FnScope ["value"] ["value"] (defScope s_is_integer) := ⟨rfl, rfl, rfl, by decide +kernel, rfl, by decide +kernel, by decide +kernel⟩
abbrev s_is_amount : Stmt := (top 12)
theorem sc_is_amount : FnScope ["value"] ["value"] (defScope s_is_amount) := ⟨rfl, rfl, rfl, by decide +kernel, rfl, by decide +kernel, by decide +kernel⟩
abbrev s_amount_of : Stmt := (top 13)
theorem sc_amount_of : FnScope ["value"] ["value"] (defScope s_amount_of) := ⟨rfl, rfl, rfl, by decide +kernel, rfl, by decide +kernel, by decide +kernel⟩
abbrev s_decimal : Stmt := (top 14)
theorem sc_decimal : FnScope ["number", "parts", "part"] ["number"] (defScope s_decimal) := ⟨rfl, rfl, rfl, by decide +kernel, rfl, by decide +kernel, by decide +kernel⟩
abbrev s_Amount_init_ : Stmt := (inClass (top 18) 0)
theorem sc_Amount_init_ : FnScope ["self", "top", "bottom", "divisor"] ["self", "top", "bottom"] (defScope s_Amount_init_) := ⟨rfl, rfl, rfl, by decide +kernel, rfl, by decide +kernel, by decide +kernel⟩
abbrev s_Amount_add_ : Stmt := (inClass (top 18) 4)
theorem sc_Amount_add_ : FnScope ["self", "other", "right"] ["self", "other"] (defScope s_Amount_add_) := ⟨rfl, rfl, rfl, by decide +kernel, rfl, by decide +kernel, by decide +kernel⟩
abbrev s_Amount_radd_ : Stmt := (inClass (top 18) 5)
theorem sc_Amount_radd_ : FnScope ["self", "other"] ["self", "other"] (defScope s_Amount_radd_) := ⟨rfl, rfl, rfl, by decide +kernel, rfl, by decide +kernel, by decide +kernel⟩
abbrev s_Amount_neg_ : Stmt := (inClass (top 18) 11)
theorem sc_Amount_neg_ : FnScope ["self"] ["self"] (defScope s_Amount_neg_) := ⟨rfl, rfl, rfl, by decide +kernel, rfl, by decide +kernel, by decide +kernel⟩
abbrev s_Amount_eq_ : Stmt := (inClass (top 18) 14)
theorem sc_Amount_eq_ : FnScope ["self", "other"] ["self", "other"] (defScope s_Amount_eq_) := ⟨rfl, rfl, rfl, by decide +kernel, rfl, by decide +kernel, by decide +kernel⟩
abbrev s_Amount_lt_ : Stmt := (inClass (top 18) 15)
theorem sc_Amount_lt_ : FnScope ["self", "other"] ["self", "other"] (defScope s_Amount_lt_) := ⟨rfl, rfl, rfl, by decide +kernel, rfl, by decide +kernel, by decide +kernel⟩
abbrev s_Amount_str_ : Stmt := (inClass (top 18) 19)
theorem sc_Amount_str_ : FnScope ["self"] ["self"] (defScope s_Amount_str_) := ⟨rfl, rfl, rfl, by decide +kernel, rfl, by decide +kernel, by decide +kernel⟩
abbrev s_Amount_repr_ : Stmt := (inClass (top 18) 20)
theorem sc_Amount_repr_ : FnScope ["self"] ["self"] (defScope s_Amount_repr_) := ⟨rfl, rfl, rfl, by decide +kernel, rfl, by decide +kernel, by decide +kernel⟩
abbrev s_Stretch_init_ : Stmt := (inClass (top 20) 0)
theorem sc_Stretch_init_ : FnScope ["self", "low", "high"] ["self", "low", "high"] (defScope s_Stretch_init_) := ⟨rfl, rfl, rfl, by decide +kernel, rfl, by decide +kernel, by decide +kernel⟩
abbrev s_Stretchlow : Stmt := (inClass (top 20) 1)
theorem sc_Stretchlow : FnScope ["self"] ["self"] (defScope s_Stretchlow) := ⟨rfl, rfl, rfl, by decide +kernel, rfl, by decide +kernel, by decide +kernel⟩
abbrev s_Stretchhigh : Stmt := (inClass (top 20) 2)
theorem sc_Stretchhigh : FnScope ["self"] ["self"] (defScope s_Stretchhigh) := ⟨rfl, rfl, rfl, by decide +kernel, rfl, by decide +kernel, by decide +kernel⟩
abbrev s_Stretchis_single : Stmt := (inClass (top 20) 3)
theorem sc_Stretchis_single : FnScope ["self"] ["self"] (defScope s_Stretchis_single) := ⟨rfl, rfl, rfl, by decide +kernel, rfl, by decide +kernel, by decide +kernel⟩
abbrev s_Stretch_contains_ : Stmt := (inClass (top 20) 4)
theorem sc_Stretch_contains_ : FnScope ["self", "value", "amount"] ["self", "value"] (defScope s_Stretch_contains_) := ⟨rfl, rfl, rfl, by decide +kernel, rfl, by decide +kernel, by decide +kernel⟩
abbrev s_Stretch_eq_ : Stmt := (inClass (top 20) 5)
theorem sc_Stretch_eq_ : FnScope ["self", "other"] ["self", "other"] (defScope s_Stretch_eq_) := ⟨rfl, rfl, rfl, by decide +kernel, rfl, by decide +kernel, by decide +kernel⟩
abbrev s_Stretch_str_ : Stmt := (inClass (top 20) 6)
theorem sc_Stretch_str_ : FnScope ["self"] ["self"] (defScope s_Stretch_str_) := ⟨rfl, rfl, rfl, by decide +kernel, rfl, by decide +kernel, by decide +kernel⟩
abbrev s_Stretch_repr_ : Stmt := (inClass (top 20) 7)
theorem sc_Stretch_repr_ : FnScope ["self"] ["self"] (defScope s_Stretch_repr_) := ⟨rfl, rfl, rfl, by decide +kernel, rfl, by decide +kernel, by decide +kernel⟩
abbrev s_Stretchplus : Stmt := (inClass (top 20) 8)
theorem sc_Stretchplus : FnScope ["self", "other"] ["self", "other"] (defScope s_Stretchplus) := ⟨rfl, rfl, rfl, by decide +kernel, rfl, by decide +kernel, by decide +kernel⟩
abbrev s_Stretchturned : Stmt := (inClass (top 20) 9)
theorem sc_Stretchturned : FnScope ["self"] ["self"] (defScope s_Stretchturned) := ⟨rfl, rfl, rfl, by decide +kernel, rfl, by decide +kernel, by decide +kernel⟩
abbrev s_pot : Stmt := (top 22)
theorem sc_pot : FnScope ["_law_script", "_law_k", "_law_cell"] ["_law_script", "_law_k"] (defScope s_pot) := ⟨rfl, rfl, rfl, by decide +kernel, rfl, by decide +kernel, by decide +kernel⟩
abbrev s_draw : Stmt := (top 23)
theorem sc_draw : FnScope ["_law_pot_here", "_law_many", "_law_digit"] ["_law_pot_here", "_law_many"] (defScope s_draw) := ⟨rfl, rfl, rfl, by decide +kernel, rfl, by decide +kernel, by decide +kernel⟩
abbrev s_pick : Stmt := (top 24)
theorem sc_pick : FnScope ["_law_pot_here", "_law_some"] ["_law_pot_here", "_law_some"] (defScope s_pick) := ⟨rfl, rfl, rfl, by decide +kernel, rfl, by decide +kernel, by decide +kernel⟩
abbrev s_less : Stmt := (top 25)
theorem sc_less : FnScope ["_law_one", "_law_thing"] ["_law_one", "_law_thing"] (defScope s_less) := ⟨rfl, rfl, rfl, by decide +kernel, rfl, by decide +kernel, by decide +kernel⟩
abbrev s_fraction : Stmt := (top 26)
theorem sc_fraction : FnScope ["_law_pot_here", "_law_many"] ["_law_pot_here"] (defScope s_fraction) := ⟨rfl, rfl, rfl, by decide +kernel, rfl, by decide +kernel, by decide +kernel⟩
abbrev s_lowest : Stmt := (top 27)
theorem sc_lowest : FnScope ["_law_some", "_law_one", "_law_thing"] ["_law_some"] (defScope s_lowest) := ⟨rfl, rfl, rfl, by decide +kernel, rfl, by decide +kernel, by decide +kernel⟩
abbrev s_text : Stmt := (top 28)
theorem sc_text : FnScope ["_law_some", "_law_top", "_law_bottom"] ["_law_some"] (defScope s_text) := ⟨rfl, rfl, rfl, by decide +kernel, rfl, by decide +kernel, by decide +kernel⟩
abbrev s_name : Stmt := (top 29)
theorem sc_name : FnScope ["_law_some", "_law_top", "_law_bottom"] ["_law_some"] (defScope s_name) := ⟨rfl, rfl, rfl, by decide +kernel, rfl, by decide +kernel, by decide +kernel⟩
abbrev s_handed : Stmt := (top 30)
theorem sc_handed : FnScope ["_law_pot_here", "_law_some"] ["_law_pot_here", "_law_some"] (defScope s_handed) := ⟨rfl, rfl, rfl, by decide +kernel, rfl, by decide +kernel, by decide +kernel⟩
abbrev s_ends : Stmt := (top 31)
theorem sc_ends : FnScope ["_law_pot_here", "_law_one", "_law_thing"] ["_law_pot_here"] (defScope s_ends) := ⟨rfl, rfl, rfl, by decide +kernel, rfl, by decide +kernel, by decide +kernel⟩
abbrev s_is_in : Stmt := (top 32)
theorem sc_is_in : FnScope ["_law_ends_here", "_law_some"] ["_law_ends_here", "_law_some"] (defScope s_is_in) := ⟨rfl, rfl, rfl, by decide +kernel, rfl, by decide +kernel, by decide +kernel⟩
abbrev s_in_right : Stmt := (top 33)
theorem sc_in_right : FnScope ["_law_pot_here", "_law_made", "_law_ends_here", "_law_bottom", "_law_top", "_law_some", "_law_told", "_law_one", "_law_odd", "_law_thing"] ["_law_pot_here", "_law_made", "_law_ends_here"] (defScope s_in_right) := ⟨rfl, rfl, rfl, by decide +kernel, rfl, by decide +kernel, by decide +kernel⟩
abbrev s_shown_right : Stmt := (top 34)
theorem sc_shown_right : FnScope ["_law_made", "_law_ends_here", "_law_bottom", "_law_top", "_law_one", "_law_is_single", "_law_due"] ["_law_made", "_law_ends_here"] (defScope s_shown_right) := ⟨rfl, rfl, rfl, by decide +kernel, rfl, by decide +kernel, by decide +kernel⟩
abbrev s_sum : Stmt := (top 35)
theorem sc_sum : FnScope ["_law_one", "_law_thing"] ["_law_one", "_law_thing"] (defScope s_sum) := ⟨rfl, rfl, rfl, by decide +kernel, rfl, by decide +kernel, by decide +kernel⟩
abbrev s_reckoned_right : Stmt := (top 36)
theorem sc_reckoned_right : FnScope ["_law_pot_here", "_law_made", "_law_ends_here", "_law_more", "_law_mate", "_law_both", "_law_turned", "_law_is_same", "_law_one", "_law_odd", "_law_thing"] ["_law_pot_here", "_law_made", "_law_ends_here"] (defScope s_reckoned_right) := ⟨rfl, rfl, rfl, by decide +kernel, rfl, by decide +kernel, by decide +kernel⟩
abbrev s_refused : Stmt := (top 37)
theorem sc_refused : FnScope ["_law_query", "_law_value", "_law_told", "e"] ["_law_query", "_law_value"] (defScope s_refused) := ⟨rfl, rfl, rfl, by decide +kernel, rfl, by decide +kernel, by decide +kernel⟩
abbrev s_refusals_right : Stmt := (top 38)
theorem sc_refusals_right : FnScope ["_law_pot_here", "_law_ends_here", "_law_some", "_law_odd", "_law_more", "_law_bottom", "_law_top", "_law_below"] ["_law_pot_here", "_law_ends_here"] (defScope s_refusals_right) := ⟨rfl, rfl, rfl, by decide +kernel, rfl, by decide +kernel, by decide +kernel⟩
abbrev s_right : Stmt := (top 39)
theorem sc_right : FnScope ["_law_pot_here", "_law_ends_here", "_law_made"] ["_law_pot_here"] (defScope s_right) := ⟨rfl, rfl, rfl, by decide +kernel, rfl, by decide +kernel, by decide +kernel⟩
abbrev s_law : Stmt := (top 40)
theorem sc_law : FnScope ["_law_script", "_law_k"] ["_law_script"] (defScope s_law) := ⟨rfl, rfl, rfl, by decide +kernel, rfl, by decide +kernel, by decide +kernel⟩
structure Ad where
  f_InvalidAmount_init_ : Addr
  d_InvalidAmount_init_ : FuncData
  f_is_integer : Addr
  d_is_integer : FuncData
  f_is_amount : Addr
  d_is_amount : FuncData
  f_amount_of : Addr
  d_amount_of : FuncData
  f_decimal : Addr
  d_decimal : FuncData
  f_Amount_init_ : Addr
  d_Amount_init_ : FuncData
  f_Amount_add_ : Addr
  d_Amount_add_ : FuncData
  f_Amount_radd_ : Addr
  d_Amount_radd_ : FuncData
  f_Amount_neg_ : Addr
  d_Amount_neg_ : FuncData
  f_Amount_eq_ : Addr
  d_Amount_eq_ : FuncData
  f_Amount_lt_ : Addr
  d_Amount_lt_ : FuncData
  f_Amount_str_ : Addr
  d_Amount_str_ : FuncData
  f_Amount_repr_ : Addr
  d_Amount_repr_ : FuncData
  f_Stretch_init_ : Addr
  d_Stretch_init_ : FuncData
  f_Stretchlow : Addr
  d_Stretchlow : FuncData
  f_Stretchhigh : Addr
  d_Stretchhigh : FuncData
  f_Stretchis_single : Addr
  d_Stretchis_single : FuncData
  f_Stretch_contains_ : Addr
  d_Stretch_contains_ : FuncData
  f_Stretch_eq_ : Addr
  d_Stretch_eq_ : FuncData
  f_Stretch_str_ : Addr
  d_Stretch_str_ : FuncData
  f_Stretch_repr_ : Addr
  d_Stretch_repr_ : FuncData
  f_Stretchplus : Addr
  d_Stretchplus : FuncData
  f_Stretchturned : Addr
  d_Stretchturned : FuncData
  f_pot : Addr
  d_pot : FuncData
  f_draw : Addr
  d_draw : FuncData
  f_pick : Addr
  d_pick : FuncData
  f_less : Addr
  d_less : FuncData
  f_fraction : Addr
  d_fraction : FuncData
  f_lowest : Addr
  d_lowest : FuncData
  f_text : Addr
  d_text : FuncData
  f_name : Addr
  d_name : FuncData
  f_handed : Addr
  d_handed : FuncData
  f_ends : Addr
  d_ends : FuncData
  f_is_in : Addr
  d_is_in : FuncData
  f_in_right : Addr
  d_in_right : FuncData
  f_shown_right : Addr
  d_shown_right : FuncData
  f_sum : Addr
  d_sum : FuncData
  f_reckoned_right : Addr
  d_reckoned_right : FuncData
  f_refused : Addr
  d_refused : FuncData
  f_refusals_right : Addr
  d_refusals_right : FuncData
  f_right : Addr
  d_right : FuncData
  f_law : Addr
  d_law : FuncData
  c_Amount : Addr
  c_Stretch : Addr
  c_InvalidAmount : Addr
  c_PipeError : Addr
  p_low : Addr
  p_high : Addr
  p_is_single : Addr
  cc_refusals_right : Addr
  PP_refusals_right : Addr
structure Txt (K : PySem.W.Frag) (mg : Str → Option Value) (a : Ad) : Prop where
  F_InvalidAmount_init_ : Fun K "__init__" "InvalidAmount.__init__" s_InvalidAmount_init_ a.f_InvalidAmount_init_ a.d_InvalidAmount_init_
  F_is_integer : Fun K "is_integer" "is_integer" s_is_integer a.f_is_integer a.d_is_integer
  m_is_integer : mg "is_integer" = some (.ref a.f_is_integer)
  F_is_amount : Fun K "is_amount" "is_amount" s_is_amount a.f_is_amount a.d_is_amount
  m_is_amount : mg "is_amount" = some (.ref a.f_is_amount)
  F_amount_of : Fun K "amount_of" "amount_of" s_amount_of a.f_amount_of a.d_amount_of
  m_amount_of : mg "amount_of" = some (.ref a.f_amount_of)
  F_decimal : Fun K "_decimal" "_decimal" s_decimal a.f_decimal a.d_decimal
  m_decimal : mg "_decimal" = some (.ref a.f_decimal)
  F_Amount_init_ : FunD K "__init__" "Amount.__init__" (defArgs s_Amount_init_) (defBody s_Amount_init_) (defScope s_Amount_init_) [.int 1] [] a.f_Amount_init_ a.d_Amount_init_
  F_Amount_add_ : Fun K "__add__" "Amount.__add__" s_Amount_add_ a.f_Amount_add_ a.d_Amount_add_
  F_Amount_radd_ : Fun K "__radd__" "Amount.__radd__" s_Amount_radd_ a.f_Amount_radd_ a.d_Amount_radd_
  F_Amount_neg_ : Fun K "__neg__" "Amount.__neg__" s_Amount_neg_ a.f_Amount_neg_ a.d_Amount_neg_
  F_Amount_eq_ : Fun K "__eq__" "Amount.__eq__" s_Amount_eq_ a.f_Amount_eq_ a.d_Amount_eq_
  F_Amount_lt_ : Fun K "__lt__" "Amount.__lt__" s_Amount_lt_ a.f_Amount_lt_ a.d_Amount_lt_
  F_Amount_str_ : Fun K "__str__" "Amount.__str__" s_Amount_str_ a.f_Amount_str_ a.d_Amount_str_
  F_Amount_repr_ : Fun K "__repr__" "Amount.__repr__" s_Amount_repr_ a.f_Amount_repr_ a.d_Amount_repr_
  F_Stretch_init_ : Fun K "__init__" "Stretch.__init__" s_Stretch_init_ a.f_Stretch_init_ a.d_Stretch_init_
  F_Stretchlow : Fun K "low" "Stretch.low" s_Stretchlow a.f_Stretchlow a.d_Stretchlow
  F_Stretchhigh : Fun K "high" "Stretch.high" s_Stretchhigh a.f_Stretchhigh a.d_Stretchhigh
  F_Stretchis_single : Fun K "is_single" "Stretch.is_single" s_Stretchis_single a.f_Stretchis_single a.d_Stretchis_single
  F_Stretch_contains_ : Fun K "__contains__" "Stretch.__contains__" s_Stretch_contains_ a.f_Stretch_contains_ a.d_Stretch_contains_
  F_Stretch_eq_ : Fun K "__eq__" "Stretch.__eq__" s_Stretch_eq_ a.f_Stretch_eq_ a.d_Stretch_eq_
  F_Stretch_str_ : Fun K "__str__" "Stretch.__str__" s_Stretch_str_ a.f_Stretch_str_ a.d_Stretch_str_
  F_Stretch_repr_ : Fun K "__repr__" "Stretch.__repr__" s_Stretch_repr_ a.f_Stretch_repr_ a.d_Stretch_repr_
  F_Stretchplus : Fun K "plus" "Stretch.plus" s_Stretchplus a.f_Stretchplus a.d_Stretchplus
  F_Stretchturned : Fun K "turned" "Stretch.turned" s_Stretchturned a.f_Stretchturned a.d_Stretchturned
  F_pot : Fun K "_law_pot" "_law_pot" s_pot a.f_pot a.d_pot
  m_pot : mg "_law_pot" = some (.ref a.f_pot)
  F_draw : Fun K "_law_draw" "_law_draw" s_draw a.f_draw a.d_draw
  m_draw : mg "_law_draw" = some (.ref a.f_draw)
  F_pick : Fun K "_law_pick" "_law_pick" s_pick a.f_pick a.d_pick
  m_pick : mg "_law_pick" = some (.ref a.f_pick)
  F_less : Fun K "_law_less" "_law_less" s_less a.f_less a.d_less
  m_less : mg "_law_less" = some (.ref a.f_less)
  F_fraction : Fun K "_law_fraction" "_law_fraction" s_fraction a.f_fraction a.d_fraction
  m_fraction : mg "_law_fraction" = some (.ref a.f_fraction)
  F_lowest : Fun K "_law_lowest" "_law_lowest" s_lowest a.f_lowest a.d_lowest
  m_lowest : mg "_law_lowest" = some (.ref a.f_lowest)
  F_text : Fun K "_law_text" "_law_text" s_text a.f_text a.d_text
  m_text : mg "_law_text" = some (.ref a.f_text)
  F_name : Fun K "_law_name" "_law_name" s_name a.f_name a.d_name
  m_name : mg "_law_name" = some (.ref a.f_name)
  F_handed : Fun K "_law_handed" "_law_handed" s_handed a.f_handed a.d_handed
  m_handed : mg "_law_handed" = some (.ref a.f_handed)
  F_ends : Fun K "_law_ends" "_law_ends" s_ends a.f_ends a.d_ends
  m_ends : mg "_law_ends" = some (.ref a.f_ends)
  F_is_in : Fun K "_law_is_in" "_law_is_in" s_is_in a.f_is_in a.d_is_in
  m_is_in : mg "_law_is_in" = some (.ref a.f_is_in)
  F_in_right : Fun K "_law_in_right" "_law_in_right" s_in_right a.f_in_right a.d_in_right
  m_in_right : mg "_law_in_right" = some (.ref a.f_in_right)
  F_shown_right : Fun K "_law_shown_right" "_law_shown_right" s_shown_right a.f_shown_right a.d_shown_right
  m_shown_right : mg "_law_shown_right" = some (.ref a.f_shown_right)
  F_sum : Fun K "_law_sum" "_law_sum" s_sum a.f_sum a.d_sum
  m_sum : mg "_law_sum" = some (.ref a.f_sum)
  F_reckoned_right : Fun K "_law_reckoned_right" "_law_reckoned_right" s_reckoned_right a.f_reckoned_right a.d_reckoned_right
  m_reckoned_right : mg "_law_reckoned_right" = some (.ref a.f_reckoned_right)
  F_refused : Fun K "_law_refused" "_law_refused" s_refused a.f_refused a.d_refused
  m_refused : mg "_law_refused" = some (.ref a.f_refused)
  F_refusals_right : Fun K "_law_refusals_right" "_law_refusals_right" s_refusals_right a.f_refusals_right a.d_refusals_right
  m_refusals_right : mg "_law_refusals_right" = some (.ref a.f_refusals_right)
  F_right : Fun K "_law_right" "_law_right" s_right a.f_right a.d_right
  m_right : mg "_law_right" = some (.ref a.f_right)
  F_law : Fun K "law" "law" s_law a.f_law a.d_law
  m_law : mg "law" = some (.ref a.f_law)
  C_refusals_right : a.d_refusals_right.code = .ref a.cc_refusals_right
  mP : mg "PipeError" = some (.ref a.c_PipeError)
  eInvalidAmount : ExcC K a.c_InvalidAmount
  kInvalidAmount : PySem.W.kitOne K (.ref a.c_InvalidAmount) (.ref a.c_PipeError) = some true
  vInvalidAmount : PySem.W.kitOne K (.ref a.c_InvalidAmount) (.type "ValueError") = some true
  cl : Cls K a.c_Amount
  nT : NoAttr K a.c_Amount "_top"
  nB : NoAttr K a.c_Amount "_bottom"
  mA : mg "Amount" = some (.ref a.c_Amount)
  mkA : Mk K a.c_Amount a.f_Amount_init_
  m_gcd : mg "gcd" = some (.builtin "math.gcd")
  I : Inst K a.c_Amount
  nInvalidAmount : PySem.W.findIn K (.ref a.c_InvalidAmount) "value" = some none
  xInvalidAmount : Exq K mg "InvalidAmount" a.c_InvalidAmount a.f_InvalidAmount_init_
  gPart : ∃ t, mg "PART" = some (.int (10 ^ 60) t)
  gLen : ∃ t, mg "PART_LENGTH" = some (.int 60 t)
  oAdd : OwnBin K a.c_Amount .Add a.f_Amount_add_ a.f_Amount_radd_
  cSt : OwnM K a.c_Amount "__str__" a.f_Amount_str_
  cRe : OwnM K a.c_Amount "__repr__" a.f_Amount_repr_
  cEq : OwnM K a.c_Amount "__eq__" a.f_Amount_eq_
  cLt : OwnM K a.c_Amount "__lt__" a.f_Amount_lt_
  cNg : OwnM K a.c_Amount "__neg__" a.f_Amount_neg_
  fmA : PySem.W.findIn K (.ref a.c_Amount) "__format__" = some (some (.builtin "object.__format__"))
  clS : Cls K a.c_Stretch
  nL : NoAttr K a.c_Stretch "_low"
  nH : NoAttr K a.c_Stretch "_high"
  mS : mg "Stretch" = some (.ref a.c_Stretch)
  mkS : Mk K a.c_Stretch a.f_Stretch_init_
  IS : Inst K a.c_Stretch
  sSI : PySem.W.subIn K (.ref a.c_Stretch) (.type "int") = some false
  kSA : PySem.W.kitOne K (.ref a.c_Stretch) (.ref a.c_Amount) = some false
  kAS : PySem.W.kitOne K (.ref a.c_Amount) (.ref a.c_Stretch) = some false
  fSA : PySem.W.notFirst K a.c_Stretch (.ref a.c_Amount) = true
  neS : PySem.W.findIn K (.ref a.c_Stretch) "__ne__" = some (some (.builtin "object.__ne__"))
  sSt : OwnM K a.c_Stretch "__str__" a.f_Stretch_str_
  sRe : OwnM K a.c_Stretch "__repr__" a.f_Stretch_repr_
  sEq : OwnM K a.c_Stretch "__eq__" a.f_Stretch_eq_
  sIn : OwnM K a.c_Stretch "__contains__" a.f_Stretch_contains_
  p_low : PropOf K a.c_Stretch "low" a.p_low a.f_Stretchlow
  p_high : PropOf K a.c_Stretch "high" a.p_high a.f_Stretchhigh
  p_is_single : PropOf K a.c_Stretch "is_single" a.p_is_single a.f_Stretchis_single
  mPlus : Meth K a.c_Stretch "plus" a.f_Stretchplus
  mTurned : Meth K a.c_Stretch "turned" a.f_Stretchturned
  b_ValueError : mg "ValueError" = none
  b_len : mg "len" = none
  b_abs : mg "abs" = none
  b_max : mg "max" = none
  b_min : mg "min" = none
  b_int : mg "int" = none
  b_divmod : mg "divmod" = none
  b_all : mg "all" = none
  b_repr : mg "repr" = none
  b_isinstance : mg "isinstance" = none
  b_str : mg "str" = none
  b_range : mg "range" = none
  b_bool : mg "bool" = none
theorem b_InvalidAmount_init_ {K : PySem.W.Frag} {mg : Str → Option Value} {a : Ad} (T : Txt K mg a) : Binds K a.d_InvalidAmount_init_ ["self", "value"] [] := T.F_InvalidAmount_init_.binds (ps := ["self", "value"]) fun _ _ _ _ _ _ us hl => match us, hl with | [_, _], _ => rfl
theorem b_is_integer {K : PySem.W.Frag} {mg : Str → Option Value} {a : Ad} (T : Txt K mg a) : Binds K a.d_is_integer ["value"] [] := T.F_is_integer.binds (ps := ["value"]) fun _ _ _ _ _ _ us hl => match us, hl with | [_], _ => rfl
theorem b_is_amount {K : PySem.W.Frag} {mg : Str → Option Value} {a : Ad} (T : Txt K mg a) : Binds K a.d_is_amount ["value"] [] := T.F_is_amount.binds (ps := ["value"]) fun _ _ _ _ _ _ us hl => match us, hl with | [_], _ => rfl
theorem b_amount_of {K : PySem.W.Frag} {mg : Str → Option Value} {a : Ad} (T : Txt K mg a) : Binds K a.d_amount_of ["value"] [] := T.F_amount_of.binds (ps := ["value"]) fun _ _ _ _ _ _ us hl => match us, hl with | [_], _ => rfl
theorem b_decimal {K : PySem.W.Frag} {mg : Str → Option Value} {a : Ad} (T : Txt K mg a) : Binds K a.d_decimal ["number"] [] := T.F_decimal.binds (ps := ["number"]) fun _ _ _ _ _ _ us hl => match us, hl with | [_], _ => rfl
theorem b_Amount_init_ {K : PySem.W.Frag} {mg : Str → Option Value} {a : Ad} (T : Txt K mg a) : Binds K a.d_Amount_init_ ["self", "top", "bottom"] [] := by
  obtain ⟨ds, r, b⟩ := T.F_Amount_init_.binds1 (ps := ["self", "top", "bottom"]) 3 1 (by simp) rfl (fun _ _ _ _ _ _ _ us its h1 h2 => match us, its, h1, h2 with | [_, _, _], [_], _, _ => ⟨_, rfl, rfl⟩)
  cases r
  exact b
theorem b_Amount_add_ {K : PySem.W.Frag} {mg : Str → Option Value} {a : Ad} (T : Txt K mg a) : Binds K a.d_Amount_add_ ["self", "other"] [] := T.F_Amount_add_.binds (ps := ["self", "other"]) fun _ _ _ _ _ _ us hl => match us, hl with | [_, _], _ => rfl
theorem b_Amount_radd_ {K : PySem.W.Frag} {mg : Str → Option Value} {a : Ad} (T : Txt K mg a) : Binds K a.d_Amount_radd_ ["self", "other"] [] := T.F_Amount_radd_.binds (ps := ["self", "other"]) fun _ _ _ _ _ _ us hl => match us, hl with | [_, _], _ => rfl
theorem b_Amount_neg_ {K : PySem.W.Frag} {mg : Str → Option Value} {a : Ad} (T : Txt K mg a) : Binds K a.d_Amount_neg_ ["self"] [] := T.F_Amount_neg_.binds (ps := ["self"]) fun _ _ _ _ _ _ us hl => match us, hl with | [_], _ => rfl
theorem b_Amount_eq_ {K : PySem.W.Frag} {mg : Str → Option Value} {a : Ad} (T : Txt K mg a) : Binds K a.d_Amount_eq_ ["self", "other"] [] := T.F_Amount_eq_.binds (ps := ["self", "other"]) fun _ _ _ _ _ _ us hl => match us, hl with | [_, _], _ => rfl
theorem b_Amount_lt_ {K : PySem.W.Frag} {mg : Str → Option Value} {a : Ad} (T : Txt K mg a) : Binds K a.d_Amount_lt_ ["self", "other"] [] := T.F_Amount_lt_.binds (ps := ["self", "other"]) fun _ _ _ _ _ _ us hl => match us, hl with | [_, _], _ => rfl
theorem b_Amount_str_ {K : PySem.W.Frag} {mg : Str → Option Value} {a : Ad} (T : Txt K mg a) : Binds K a.d_Amount_str_ ["self"] [] := T.F_Amount_str_.binds (ps := ["self"]) fun _ _ _ _ _ _ us hl => match us, hl with | [_], _ => rfl
theorem b_Amount_repr_ {K : PySem.W.Frag} {mg : Str → Option Value} {a : Ad} (T : Txt K mg a) : Binds K a.d_Amount_repr_ ["self"] [] := T.F_Amount_repr_.binds (ps := ["self"]) fun _ _ _ _ _ _ us hl => match us, hl with | [_], _ => rfl
theorem b_Stretch_init_ {K : PySem.W.Frag} {mg : Str → Option Value} {a : Ad} (T : Txt K mg a) : Binds K a.d_Stretch_init_ ["self", "low", "high"] [] := T.F_Stretch_init_.binds (ps := ["self", "low", "high"]) fun _ _ _ _ _ _ us hl => match us, hl with | [_, _, _], _ => rfl
theorem b_Stretchlow {K : PySem.W.Frag} {mg : Str → Option Value} {a : Ad} (T : Txt K mg a) : Binds K a.d_Stretchlow ["self"] [] := T.F_Stretchlow.binds (ps := ["self"]) fun _ _ _ _ _ _ us hl => match us, hl with | [_], _ => rfl
theorem b_Stretchhigh {K : PySem.W.Frag} {mg : Str → Option Value} {a : Ad} (T : Txt K mg a) : Binds K a.d_Stretchhigh ["self"] [] := T.F_Stretchhigh.binds (ps := ["self"]) fun _ _ _ _ _ _ us hl => match us, hl with | [_], _ => rfl
theorem b_Stretchis_single {K : PySem.W.Frag} {mg : Str → Option Value} {a : Ad} (T : Txt K mg a) : Binds K a.d_Stretchis_single ["self"] [] := T.F_Stretchis_single.binds (ps := ["self"]) fun _ _ _ _ _ _ us hl => match us, hl with | [_], _ => rfl
theorem b_Stretch_contains_ {K : PySem.W.Frag} {mg : Str → Option Value} {a : Ad} (T : Txt K mg a) : Binds K a.d_Stretch_contains_ ["self", "value"] [] := T.F_Stretch_contains_.binds (ps := ["self", "value"]) fun _ _ _ _ _ _ us hl => match us, hl with | [_, _], _ => rfl
theorem b_Stretch_eq_ {K : PySem.W.Frag} {mg : Str → Option Value} {a : Ad} (T : Txt K mg a) : Binds K a.d_Stretch_eq_ ["self", "other"] [] := T.F_Stretch_eq_.binds (ps := ["self", "other"]) fun _ _ _ _ _ _ us hl => match us, hl with | [_, _], _ => rfl
theorem b_Stretch_str_ {K : PySem.W.Frag} {mg : Str → Option Value} {a : Ad} (T : Txt K mg a) : Binds K a.d_Stretch_str_ ["self"] [] := T.F_Stretch_str_.binds (ps := ["self"]) fun _ _ _ _ _ _ us hl => match us, hl with | [_], _ => rfl
theorem b_Stretch_repr_ {K : PySem.W.Frag} {mg : Str → Option Value} {a : Ad} (T : Txt K mg a) : Binds K a.d_Stretch_repr_ ["self"] [] := T.F_Stretch_repr_.binds (ps := ["self"]) fun _ _ _ _ _ _ us hl => match us, hl with | [_], _ => rfl
theorem b_Stretchplus {K : PySem.W.Frag} {mg : Str → Option Value} {a : Ad} (T : Txt K mg a) : Binds K a.d_Stretchplus ["self", "other"] [] := T.F_Stretchplus.binds (ps := ["self", "other"]) fun _ _ _ _ _ _ us hl => match us, hl with | [_, _], _ => rfl
theorem b_Stretchturned {K : PySem.W.Frag} {mg : Str → Option Value} {a : Ad} (T : Txt K mg a) : Binds K a.d_Stretchturned ["self"] [] := T.F_Stretchturned.binds (ps := ["self"]) fun _ _ _ _ _ _ us hl => match us, hl with | [_], _ => rfl
theorem b_pot {K : PySem.W.Frag} {mg : Str → Option Value} {a : Ad} (T : Txt K mg a) : Binds K a.d_pot ["_law_script", "_law_k"] [] := T.F_pot.binds (ps := ["_law_script", "_law_k"]) fun _ _ _ _ _ _ us hl => match us, hl with | [_, _], _ => rfl
theorem b_draw {K : PySem.W.Frag} {mg : Str → Option Value} {a : Ad} (T : Txt K mg a) : Binds K a.d_draw ["_law_pot_here", "_law_many"] [] := T.F_draw.binds (ps := ["_law_pot_here", "_law_many"]) fun _ _ _ _ _ _ us hl => match us, hl with | [_, _], _ => rfl
theorem b_pick {K : PySem.W.Frag} {mg : Str → Option Value} {a : Ad} (T : Txt K mg a) : Binds K a.d_pick ["_law_pot_here", "_law_some"] [] := T.F_pick.binds (ps := ["_law_pot_here", "_law_some"]) fun _ _ _ _ _ _ us hl => match us, hl with | [_, _], _ => rfl
theorem b_less {K : PySem.W.Frag} {mg : Str → Option Value} {a : Ad} (T : Txt K mg a) : Binds K a.d_less ["_law_one", "_law_thing"] [] := T.F_less.binds (ps := ["_law_one", "_law_thing"]) fun _ _ _ _ _ _ us hl => match us, hl with | [_, _], _ => rfl
theorem b_fraction {K : PySem.W.Frag} {mg : Str → Option Value} {a : Ad} (T : Txt K mg a) : Binds K a.d_fraction ["_law_pot_here"] [] := T.F_fraction.binds (ps := ["_law_pot_here"]) fun _ _ _ _ _ _ us hl => match us, hl with | [_], _ => rfl
theorem b_lowest {K : PySem.W.Frag} {mg : Str → Option Value} {a : Ad} (T : Txt K mg a) : Binds K a.d_lowest ["_law_some"] [] := T.F_lowest.binds (ps := ["_law_some"]) fun _ _ _ _ _ _ us hl => match us, hl with | [_], _ => rfl
theorem b_text {K : PySem.W.Frag} {mg : Str → Option Value} {a : Ad} (T : Txt K mg a) : Binds K a.d_text ["_law_some"] [] := T.F_text.binds (ps := ["_law_some"]) fun _ _ _ _ _ _ us hl => match us, hl with | [_], _ => rfl
theorem b_name {K : PySem.W.Frag} {mg : Str → Option Value} {a : Ad} (T : Txt K mg a) : Binds K a.d_name ["_law_some"] [] := T.F_name.binds (ps := ["_law_some"]) fun _ _ _ _ _ _ us hl => match us, hl with | [_], _ => rfl
theorem b_handed {K : PySem.W.Frag} {mg : Str → Option Value} {a : Ad} (T : Txt K mg a) : Binds K a.d_handed ["_law_pot_here", "_law_some"] [] := T.F_handed.binds (ps := ["_law_pot_here", "_law_some"]) fun _ _ _ _ _ _ us hl => match us, hl with | [_, _], _ => rfl
theorem b_ends {K : PySem.W.Frag} {mg : Str → Option Value} {a : Ad} (T : Txt K mg a) : Binds K a.d_ends ["_law_pot_here"] [] := T.F_ends.binds (ps := ["_law_pot_here"]) fun _ _ _ _ _ _ us hl => match us, hl with | [_], _ => rfl
theorem b_is_in {K : PySem.W.Frag} {mg : Str → Option Value} {a : Ad} (T : Txt K mg a) : Binds K a.d_is_in ["_law_ends_here", "_law_some"] [] := T.F_is_in.binds (ps := ["_law_ends_here", "_law_some"]) fun _ _ _ _ _ _ us hl => match us, hl with | [_, _], _ => rfl
theorem b_in_right {K : PySem.W.Frag} {mg : Str → Option Value} {a : Ad} (T : Txt K mg a) : Binds K a.d_in_right ["_law_pot_here", "_law_made", "_law_ends_here"] [] := T.F_in_right.binds (ps := ["_law_pot_here", "_law_made", "_law_ends_here"]) fun _ _ _ _ _ _ us hl => match us, hl with | [_, _, _], _ => rfl
theorem b_shown_right {K : PySem.W.Frag} {mg : Str → Option Value} {a : Ad} (T : Txt K mg a) : Binds K a.d_shown_right ["_law_made", "_law_ends_here"] [] := T.F_shown_right.binds (ps := ["_law_made", "_law_ends_here"]) fun _ _ _ _ _ _ us hl => match us, hl with | [_, _], _ => rfl
theorem b_sum {K : PySem.W.Frag} {mg : Str → Option Value} {a : Ad} (T : Txt K mg a) : Binds K a.d_sum ["_law_one", "_law_thing"] [] := T.F_sum.binds (ps := ["_law_one", "_law_thing"]) fun _ _ _ _ _ _ us hl => match us, hl with | [_, _], _ => rfl
theorem b_reckoned_right {K : PySem.W.Frag} {mg : Str → Option Value} {a : Ad} (T : Txt K mg a) : Binds K a.d_reckoned_right ["_law_pot_here", "_law_made", "_law_ends_here"] [] := T.F_reckoned_right.binds (ps := ["_law_pot_here", "_law_made", "_law_ends_here"]) fun _ _ _ _ _ _ us hl => match us, hl with | [_, _, _], _ => rfl
theorem b_refused {K : PySem.W.Frag} {mg : Str → Option Value} {a : Ad} (T : Txt K mg a) : Binds K a.d_refused ["_law_query", "_law_value"] [] := T.F_refused.binds (ps := ["_law_query", "_law_value"]) fun _ _ _ _ _ _ us hl => match us, hl with | [_, _], _ => rfl
theorem b_refusals_right {K : PySem.W.Frag} {mg : Str → Option Value} {a : Ad} (T : Txt K mg a) : Binds K a.d_refusals_right ["_law_pot_here", "_law_ends_here"] [] := T.F_refusals_right.binds (ps := ["_law_pot_here", "_law_ends_here"]) fun _ _ _ _ _ _ us hl => match us, hl with | [_, _], _ => rfl
theorem b_right {K : PySem.W.Frag} {mg : Str → Option Value} {a : Ad} (T : Txt K mg a) : Binds K a.d_right ["_law_pot_here"] [] := T.F_right.binds (ps := ["_law_pot_here"]) fun _ _ _ _ _ _ us hl => match us, hl with | [_], _ => rfl
theorem b_law {K : PySem.W.Frag} {mg : Str → Option Value} {a : Ad} (T : Txt K mg a) : Binds K a.d_law ["_law_script"] [] := T.F_law.binds (ps := ["_law_script"]) fun _ _ _ _ _ _ us hl => match us, hl with | [_], _ => rfl
end K48

set_option Elab.async false
set_option linter.all false
set_option maxRecDepth 100000
set_option maxHeartbeats 4000000
namespace K48
open PySem L2 Lb
open C8 (pss_cut)
theorem b1_Amount_init_ {K : PySem.W.Frag} {mg : Str → Option Value} {a : Ad} (T : Txt K mg a) : ∃ ds, Vals [V.int 1] ds ∧ Binds K a.d_Amount_init_ ["self", "top", "bottom"] ds := by
  obtain ⟨ds, r, b⟩ := T.F_Amount_init_.binds1 (ps := ["self", "top", "bottom"]) 2 0 (by simp) rfl (fun _ _ _ _ _ _ _ us its h1 h2 => match us, its, h1, h2 with | [_, _], [_], _, _ => ⟨_, rfl, rfl⟩)
  exact ⟨ds, r, b⟩
theorem kb_Amount_init_ {K : PySem.W.Frag} {mg : Str → Option Value} {a : Ad} (T : Txt K mg a) : ∃ its : List Value, KBn K a.d_Amount_init_ ["self", "top", "bottom"] 1 ["bottom", "top"] (fun us ws => us ++ ws.reverse) (fun vs zs => vs ++ zs.reverse) := by
  obtain ⟨its, h⟩ := T.F_Amount_init_.kbindsD (ps := ["self", "top", "bottom"]) 1 ["bottom", "top"] (fun us _ ws => us ++ ws.reverse) (by simp) (fun r1 _ r3 => r1.append (vals_rev r3))
    (fun _ _ _ _ _ _ _ us its ws h1 h2 h3 => match us, its, ws, h1, h2, h3 with | [_], [_], [_, _], _, _, _ => ⟨_, rfl, rfl⟩)
  exact ⟨its, h⟩
theorem kb_amount_of {K : PySem.W.Frag} {mg : Str → Option Value} {a : Ad} (T : Txt K mg a) : KBn K a.d_amount_of ["value"] 0 ["value"] (fun us ws => us ++ ws) (fun vs zs => vs ++ zs) :=
  kbn_of T.F_amount_of fun _ _ _ _ _ _ us ws h1 h2 => match us, ws, h1, h2 with | [], [_], _, _ => rfl
theorem tb_ : ¬ (("_bottom" : Str) = "_top") := by decide +kernel
theorem bt_ : ¬ (("_top" : Str) = "_bottom") := by decide +kernel
def am (t b : Int) : List (Str × V) := putF "_bottom" (.int b) (putF "_top" (.int t) [])
theorem am_top (t b : Int) : (am t b).lookup ("_top" : Str) = some (.int t) := by
  unfold am
  rw [lookup_putF, if_neg bt_, lookup_putF, if_pos rfl]
theorem am_bot (t b : Int) : (am t b).lookup ("_bottom" : Str) = some (.int b) := by
  unfold am
  rw [lookup_putF, if_pos rfl]
theorem am_no (t b : Int) {m : Str} (h1 : ¬ m = "_bottom") (h2 : ¬ m = "_top") : (am t b).lookup m = none := by
  unfold am
  rw [lookup_putF, if_neg h1, lookup_putF, if_neg h2]
  all_goals rfl
def AmAt (C : Addr) (H : Hp) (q : Addr) (t b : Int) : Prop := ∃ dx, H q = some (.ins C dx (am t b))
theorem AmAt.same {C p : Addr} {H H' : Hp} {t b : Int} (h : AmAt C H p t b) (s : Same H H') : AmAt C H' p t b := let ⟨dx, e⟩ := h; ⟨dx, s _ _ e⟩
/-- what is passed: an int or an amount -/
def IsP (C : Addr) (H : Hp) (v : V) (t b : Int) : Prop := (v = .int t ∧ b = 1) ∨ ∃ q, v = .ref q ∧ AmAt C H q t b
theorem IsP.same {C : Addr} {v : V} {H H' : Hp} {t b : Int} (h : IsP C H v t b) (s : Same H H') : IsP C H' v t b := by
  rcases h with h | ⟨q, e, h⟩
  · exact .inl h
  · exact .inr ⟨q, e, h.same s⟩
theorem IsP.bin {C : Addr} {v : V} {H : Hp} {t b : Int} (h : IsP C H v t b) : (∃ m, v = V.int m) ∨ ∃ q dy fy, v = V.ref q ∧ H q = some (.ins C dy fy) := by
  rcases h with ⟨e, _⟩ | ⟨q, e, dx, h⟩
  · exact .inl ⟨_, e⟩
  · exact .inr ⟨q, dx, _, e, h⟩
def sp_is_integer (C : Addr) : Sp := fun vs H Q _ => ∃ v t b, vs = [v] ∧ IsP C H v t b ∧ (v = .int t → Q (.bl true) H) ∧ ((∃ q, v = .ref q) → Q (.bl false) H)
def sp_is_amount (C : Addr) : Sp := fun vs H Q _ => ∃ v t b, vs = [v] ∧ IsP C H v t b ∧ Q (.bl true) H
def sp_amount_of (C : Addr) : Sp := fun vs H Q _ => ∃ v t b, vs = [v] ∧ IsP C H v t b ∧ Bd 8000 t ∧ ∀ H' q, Same H H' → AmAt C H' q t b → Q (.ref q) H'
def sp_Amount_init_ (C : Addr) : Sp := fun vs H Q _ => ∃ (q dx : Addr) (t b : Int), vs = [.ref q, .int t, .int b] ∧ b ≠ 0 ∧ Bd 8000 t ∧ Bd 8000 b ∧ H q = some (.ins C dx []) ∧
  ∀ H', (∀ x o, x ≠ q → H x = some o → H' x = some o) → H' q = some (.ins C dx (am (rdT t b) (rdB t b))) → Q .non H'
/-- what C(t, b) gives -/
theorem made_am {C : Addr} {H : Hp} {x dx : Addr} {H' : Hp} {t b : Int} (h1 : H x = none) (h2 : H dx = none) (ne : dx ≠ x) (k : ∀ y o, y ≠ x → (upd (upd H dx (.own x)) x (.ins C dx [])) y = some o → H' y = some o) (e : H' x = some (.ins C dx (am t b))) :
    Same H H' ∧ AmAt C H' x t b := by
  refine ⟨fun y o hy => k y o (ne_of_none hy h1) ?_, dx, e⟩
  rw [upd_ne (ne_of_none hy h1), upd_ne (ne_of_none hy h2)]
  exact hy
section
variable {P : Program} {w : World} {K : PySem.W.Frag} {mg : Str → Option Value} {base : Heap} {a : Ad}
theorem ok_is_integer (T : Txt K mg a) : FnOk P w K mg base CX0 1 a.f_is_integer a.d_is_integer ["value"] (sp_is_integer a.c_Amount) := by
  refine T.F_is_integer.ok sc_is_integer (fun vs H Q E h => ?_) (fun cdv A outer s H vs Q E hr h => ?_)
  · obtain ⟨v, t, b, rfl, _⟩ := h
    rfl
  · obtain ⟨v, t, b, rfl, hv, k1, k2⟩ := h
    refine ⟨_, (pss_one (ps_ret (pe_and (pe_callB (call_isiK' (K := K) rfl) (by rfl) T.b_isinstance (by decide +kernel) (pa_cons (pv 0) (pa_cons (pe_bltn (v := .ty "int") (by rfl) T.b_int (by decide +kernel) rfl) pa_nil))) (pe_one (pe_not (pe_callB (call_isiK' (K := K) rfl) (by rfl) T.b_isinstance (by decide +kernel) (pa_cons (pv 0) (pa_cons (pe_bltn (v := .ty "bool") (by rfl) T.b_bool (by decide +kernel) rfl) pa_nil)))))))), ?_⟩
    rcases hv with ⟨rfl, _⟩ | ⟨q, rfl, dx, hq⟩
    · refine ⟨_, rfl, _, _, _, _, true, rfl, .ty _, .base (.int _), kit_ty (by decide +kernel), true, rfl, iteT ?_⟩
      exact ⟨_, rfl, _, _, _, _, false, rfl, .ty _, .base (.int _), kit_ty (by decide +kernel), false, rfl, k1 rfl⟩
    · refine ⟨_, rfl, _, _, _, _, false, rfl, .ty _, .base (T.I.ty T.cl hq), kit_of_own (by decide +kernel) T.oAdd.ss2, false, rfl, iteF ?_⟩
      exact k2 ⟨q, rfl⟩
theorem ok_is_amount (T : Txt K mg a) : FnOk P w K mg base CX0 2 a.f_is_amount a.d_is_amount ["value"] (sp_is_amount a.c_Amount) := by
  refine T.F_is_amount.ok sc_is_amount (fun vs H Q E h => ?_) (fun cdv A outer s H vs Q E hr h => ?_)
  · obtain ⟨v, t, b, rfl, _⟩ := h
    rfl
  · obtain ⟨v, t, b, rfl, hv, k⟩ := h
    refine ⟨_, (pss_one (ps_ret (pe_or (pe_call (ok_is_integer T) (hr.mono (by decide)) (by rfl) T.m_is_integer T.F_is_integer.kp (b_is_integer T) .nil pass0 (pa_cons (pv 0) pa_nil)) (pe_one (pe_callB (call_isiK' (K := K) rfl) (by rfl) T.b_isinstance (by decide +kernel) (pa_cons (pv 0) (pa_cons (pe_glob (v := .ref a.c_Amount) rfl T.mA rfl) pa_nil))))))), ?_⟩
    refine ⟨_, rfl, v, t, b, rfl, hv, fun e => ⟨true, rfl, iteT k⟩, fun ⟨q, e⟩ => ⟨false, rfl, iteF ?_⟩⟩
    subst e
    rcases hv with ⟨e, _⟩ | ⟨q', e, dx, hq⟩
    · cases e
    · cases e
      exact ⟨_, rfl, _, _, _, _, true, rfl, .own _, .base (T.I.ty T.cl hq), Inst.kSelf, k⟩
theorem ok_Amount_init_ (T : Txt K mg a) : FnOk P w K mg base CX0 2 a.f_Amount_init_ a.d_Amount_init_ ["self", "top", "bottom"] (sp_Amount_init_ a.c_Amount) := by
  refine T.F_Amount_init_.ok sc_Amount_init_ (fun vs H Q E h => ?_) (fun cdv A outer s H vs Q E hr h => ?_)
  · obtain ⟨q, dx, t, b, rfl, _⟩ := h
    rfl
  · obtain ⟨q, dx, t, b, rfl, hb, bt, bb, hq, k⟩ := h
    refine ⟨_, (pss_cons (ps_if (pt_not (pt_val (pe_call (ok_is_integer T) (hr.mono (by decide)) (by rfl) T.m_is_integer T.F_is_integer.kp (b_is_integer T) .nil pass0 (pa_cons (pv 1) pa_nil)))) (pss_one ps_never) pss_nil)
 (pss_cons (ps_if (PW.pt (pw_or (pt_not (pt_val (pe_call (ok_is_integer T) (hr.mono (by decide)) (by rfl) T.m_is_integer T.F_is_integer.kp (b_is_integer T) .nil pass0 (pa_cons (pv 2) pa_nil)))) (pw_or1 (pt_cmpR op_eq (pv 2) pe_int (nomark _))))) (pss_one ps_never) pss_nil)
 (pss_cons (ps_set (i := 3) sc_Amount_init_.nd rfl (by first | exact Or.inl rfl | exact Or.inr rfl) (pe_callBfun cr_gcd (by rfl) T.m_gcd (pa_cons (pv 1) (pa_cons (pv 2) pa_nil))))
 (pss_cut (ps_if (pt_cmpR op_lt (pv 2) pe_int (nomark _)) (pss_one (ps_set (i := 3) sc_Amount_init_.nd rfl (by first | exact Or.inl rfl | exact Or.inr rfl) (pe_un un_neg (pv 3)))) pss_nil)
 (pss_cons (ps_fldK (K := K) rfl (pv 0) (pe_op op_fdivX (pv 1) (pv 3)) rfl)
 (pss_one (ps_fldK (K := K) rfl (pv 0) (pe_op op_fdivX (pv 2) (pv 3)) rfl))))))), ?_⟩
    refine ⟨_, rfl, _, t, 1, rfl, .inl ⟨rfl, rfl⟩, fun _ => ⟨true, rfl, iteF ?_⟩, fun ⟨_, e⟩ => nomatch e⟩
    refine ⟨_, rfl, _, b, 1, rfl, .inl ⟨rfl, rfl⟩, fun _ => ⟨true, rfl, iteF ?_⟩, fun ⟨_, e⟩ => nomatch e⟩
    refine ⟨_, rfl, rfl, _, rfl, iteN ?_ ?_⟩
    · intro z
      have z := of_decide_eq_true z
      injection z with z
      exact hb z
    refine ⟨_, rfl, _, rfl, _, _, rfl, ?_⟩
    refine ⟨fun σ H' => H' = H ∧ σ = [some (.ref q), some (.int t), some (.int b), some (.int (rdD t b))], ?_, ?_⟩
    · refine ⟨_, rfl, _, _, rfl, rfl, _, rfl, ?_⟩
      refine ite2 (fun h1 => ?_) (fun h1 => ?_)
      · have h1 : b < 0 := by simpa using h1
        refine ⟨_, rfl, _, rfl, rfl, ?_⟩
        unfold rdD
        rw [if_pos h1]
        rfl
      · have h1 : ¬ b < 0 := by simpa using h1
        refine ⟨rfl, ?_⟩
        unfold rdD
        rw [if_neg h1]
        rfl
    rintro σ H' ⟨rfl, rfl⟩
    have hd : rdD t b ≠ 0 := by
      have : 0 < Nat.gcd t.natAbs b.natAbs := Nat.gcd_pos_of_pos_right _ (by omega)
      unfold rdD
      split <;> omega
    have bd : Bd 8000 (rdD t b) := by
      have : Nat.gcd t.natAbs b.natAbs ≤ b.natAbs := Nat.gcd_le_right _ (by omega)
      refine bb.le ?_
      unfold rdD
      split <;> omega
    refine ⟨_, rfl, _, rfl, _, _, rfl, rfl, bd.cx hd (by decide), _, rfl, q, _, dx, _, rfl, hq, T.cl, T.nT, (by show 0 < 1000; decide), ?_⟩
    refine ⟨_, rfl, _, rfl, _, _, rfl, rfl, bd.cx hd (by decide), _, rfl, q, _, dx, _, rfl, upd_same, T.cl, T.nB, (by show 1 < 1000; decide), ?_⟩
    refine k _ (fun x o n e => ?_) ?_
    · rw [upd_ne n, upd_ne n]
      exact e
    · rw [upd_same]
      rfl
theorem ok_amount_of (T : Txt K mg a) : FnOk P w K mg base CX0 4 a.f_amount_of a.d_amount_of ["value"] (sp_amount_of a.c_Amount) := by
  refine T.F_amount_of.ok sc_amount_of (fun vs H Q E h => ?_) (fun cdv A outer s H vs Q E hr h => ?_)
  · obtain ⟨v, t, b, rfl, _⟩ := h
    rfl
  · obtain ⟨v, t, b, rfl, hv, bt, k⟩ := h
    refine ⟨_, (pss_cons (ps_if (pt_val (pe_callB (call_isiK' (K := K) rfl) (by rfl) T.b_isinstance (by decide +kernel) (pa_cons (pv 0) (pa_cons (pe_glob (v := .ref a.c_Amount) rfl T.mA rfl) pa_nil)))) (pss_one (ps_ret (pv 0))) pss_nil)
 (pss_cons (ps_if (pt_val (pe_call (ok_is_integer T) (hr.mono (by decide)) (by rfl) T.m_is_integer T.F_is_integer.kp (b_is_integer T) .nil pass0 (pa_cons (pv 0) pa_nil))) (pss_one (ps_ret (pe_make T.mkA (ok_Amount_init_ T) (hr.mono (by decide)) (by rfl) T.mA (b1_Amount_init_ T).choose_spec.2 (b1_Amount_init_ T).choose_spec.1 pass0 (pa_cons (pv 0) pa_nil)))) pss_nil)
 (pss_one ps_never))), ?_⟩
    rcases id hv with ⟨rfl, rfl⟩ | ⟨q, rfl, dx, hq⟩
    · refine ⟨_, rfl, _, _, _, _, false, rfl, .own _, .base (.int _), T.I.kInt, false, rfl, iteF ?_⟩
      refine ⟨_, rfl, _, t, 1, rfl, hv, fun _ => ⟨true, rfl, iteT ?_⟩, fun ⟨_, e⟩ => nomatch e⟩
      refine ⟨_, rfl, fun x dx hx hdx ne => ⟨x, dx, t, 1, rfl, by decide, bt, bd_one, upd_same, fun H' kp e => ⟨rfl, ?_⟩⟩⟩
      rw [rdT_one, rdB_one] at e
      obtain ⟨s, m⟩ := made_am hx hdx ne kp e
      exact k _ _ s m
    · refine ⟨_, rfl, _, _, _, _, true, rfl, .own _, .base (T.I.ty T.cl hq), Inst.kSelf, true, rfl, iteT ?_⟩
      exact ⟨_, rfl, k _ _ (Same.refl _) ⟨dx, hq⟩⟩
end
end K48

set_option Elab.async false
set_option linter.all false
set_option maxRecDepth 100000
set_option maxHeartbeats 4000000
set_option exponentiation.threshold 10000
namespace K48
open PySem L2 Lb
abbrev I4 := Int → Int → Int → Int → Int
def sp_bin (C : Addr) (f g : I4) : Sp := fun vs H Q _ => ∃ p v t b t' b', vs = [.ref p, v] ∧ AmAt C H p t b ∧ IsP C H v t' b' ∧ Bd 3000 t ∧ Bd 3000 b ∧ Bd 3000 t' ∧ Bd 3000 b' ∧ g t b t' b' ≠ 0 ∧
  ∀ H' q, Same H H' → AmAt C H' q (rdT (f t b t' b') (g t b t' b')) (rdB (f t b t' b') (g t b t' b')) → Q (.ref q) H'
def fAdd : I4 := fun t b t' b' => t * b' + t' * b
def gBot : I4 := fun _ b _ b' => b * b'
def fSub : I4 := fun t b t' b' => t * b' - t' * b
def fMul : I4 := fun t _ t' _ => t * t'
def fOver : I4 := fun t _ _ b' => t * b'
def gOver : I4 := fun _ b t' _ => b * t'
def sw (f : I4) : I4 := fun t b t' b' => f t' b' t b
def sp_un (C : Addr) (f : Int → Int) : Sp := fun vs H Q _ => ∃ p t b, vs = [.ref p] ∧ AmAt C H p t b ∧ Bd 3000 t ∧ Bd 3000 b ∧ b ≠ 0 ∧
  ∀ H' q, Same H H' → AmAt C H' q (rdT (f t) b) (rdB (f t) b) → Q (.ref q) H'
def sp_get (C : Addr) (f : Int → Int → V) : Sp := fun vs H Q _ => ∃ p t b, vs = [.ref p] ∧ AmAt C H p t b ∧ Q (f t b) H
def sg (t : Int) : Int := if t = 0 then 0 else if t > 0 then 1 else -1
section
variable {P : Program} {w : World} {K : PySem.W.Frag} {mg : Str → Option Value} {base : Heap} {a : Ad}
theorem ok_Amount_add_ (T : Txt K mg a) : FnOk P w K mg base CX0 5 a.f_Amount_add_ a.d_Amount_add_ ["self", "other"] (sp_bin a.c_Amount fAdd gBot) := by
  refine T.F_Amount_add_.ok sc_Amount_add_ (fun vs H Q E h => ?_) (fun cdv A outer s H vs Q E hr h => ?_)
  · obtain ⟨p, v, t, b, t', b', rfl, _⟩ := h
    rfl
  · obtain ⟨p, v, t, b, t', b', rfl, ⟨dx, hp⟩, hv, bt, bb, bt', bb', g0, k⟩ := h
    refine ⟨_, (pss_cons (ps_if (pt_not (pt_val (pe_call (ok_is_amount T) (hr.mono (by decide)) (by rfl) T.m_is_amount T.F_is_amount.kp (b_is_amount T) .nil pass0 (pa_cons (pv 1) pa_nil)))) (pss_one ps_never) pss_nil)
 (pss_cons (ps_set (i := 2) sc_Amount_add_.nd rfl (by first | exact Or.inl rfl | exact Or.inr rfl) (pe_call (ok_amount_of T) (hr.mono (by decide)) (by rfl) T.m_amount_of T.F_amount_of.kp (b_amount_of T) .nil pass0 (pa_cons (pv 1) pa_nil)))
 (pss_one (ps_ret (pe_make T.mkA (ok_Amount_init_ T) (hr.mono (by decide)) (by rfl) T.mA (b_Amount_init_ T) .nil pass0 (pa_cons (pe_op op_add (pe_op op_mulX (pe_fldK (K := K) rfl (pv 0) rfl) (pe_fldK (K := K) rfl (pv 2) rfl)) (pe_op op_mulX (pe_fldK (K := K) rfl (pv 2) rfl) (pe_fldK (K := K) rfl (pv 0) rfl))) (pa_cons (pe_op op_mulX (pe_fldK (K := K) rfl (pv 0) rfl) (pe_fldK (K := K) rfl (pv 2) rfl)) pa_nil))))))), ?_⟩
    refine ⟨_, rfl, v, t', b', rfl, hv, true, rfl, iteF ?_⟩
    refine ⟨_, rfl, v, t', b', rfl, hv, bt'.mono (by decide), fun H1 q s1 ⟨dy, hq⟩ => ?_⟩
    have hp := s1 _ _ hp
    refine ⟨_, rfl, p, _, dx, _, _, rfl, hp, T.cl, T.nT, am_top _ _, _, rfl, q, _, dy, _, _, rfl, hq, T.cl, T.nB, am_bot _ _, _, _, rfl, rfl, bt.cm bb' (by decide), ?_⟩
    refine ⟨_, rfl, q, _, dy, _, _, rfl, hq, T.cl, T.nT, am_top _ _, _, rfl, p, _, dx, _, _, rfl, hp, T.cl, T.nB, am_bot _ _, _, _, rfl, rfl, bt'.cm bb (by decide), _, _, rfl, rfl, ?_⟩
    refine ⟨_, rfl, p, _, dx, _, _, rfl, hp, T.cl, T.nB, am_bot _ _, _, rfl, q, _, dy, _, _, rfl, hq, T.cl, T.nB, am_bot _ _, _, _, rfl, rfl, bb.cm bb' (by decide), ?_⟩
    refine fun x dz hx hdx ne => ⟨x, dz, _, _, rfl, g0, ((bt.mul bb').add (bt'.mul bb)).mono (by decide), (bb.mul bb').mono (by decide), upd_same, fun H' kp e => ⟨rfl, ?_⟩⟩
    obtain ⟨s, m⟩ := made_am hx hdx ne kp e
    exact k _ _ (s1.trans s) m
theorem ok_Amount_neg_ (T : Txt K mg a) : FnOk P w K mg base CX0 4 a.f_Amount_neg_ a.d_Amount_neg_ ["self"] (sp_un a.c_Amount fun t => -t) := by
  refine T.F_Amount_neg_.ok sc_Amount_neg_ (fun vs H Q E h => ?_) (fun cdv A outer s H vs Q E hr h => ?_)
  · obtain ⟨p, t, b, rfl, _⟩ := h
    rfl
  · obtain ⟨p, t, b, rfl, ⟨dx, hp⟩, bt, bb, hb, k⟩ := h
    refine ⟨_, (pss_one (ps_ret (pe_make T.mkA (ok_Amount_init_ T) (hr.mono (by decide)) (by rfl) T.mA (b_Amount_init_ T) .nil pass0 (pa_cons (pe_un un_neg (pe_fldK (K := K) rfl (pv 0) rfl)) (pa_cons (pe_fldK (K := K) rfl (pv 0) rfl) pa_nil))))), ?_⟩
    refine ⟨_, rfl, p, _, dx, _, _, rfl, hp, T.cl, T.nT, am_top _ _, _, rfl, _, rfl, p, _, dx, _, _, rfl, hp, T.cl, T.nB, am_bot _ _, ?_⟩
    refine fun x dz hx hdx ne => ⟨x, dz, _, _, rfl, hb, bt.neg.mono (by decide), bb.mono (by decide), upd_same, fun H' kp e => ⟨rfl, ?_⟩⟩
    obtain ⟨s, m⟩ := made_am hx hdx ne kp e
    exact k _ _ s m
theorem ok_Amount_radd_ (T : Txt K mg a) : FnOk P w K mg base CX0 6 a.f_Amount_radd_ a.d_Amount_radd_ ["self", "other"] (sp_bin a.c_Amount (sw fAdd) (sw gBot)) := by
  refine T.F_Amount_radd_.ok sc_Amount_radd_ (fun vs H Q E h => ?_) (fun cdv A outer s H vs Q E hr h => ?_)
  · obtain ⟨p, v, t, b, t', b', rfl, _⟩ := h
    rfl
  · obtain ⟨p, v, t, b, t', b', rfl, hp, hv, bt, bb, bt', bb', g0, k⟩ := h
    refine ⟨_, (pss_cons (ps_if (pt_not (pt_val (pe_call (ok_is_amount T) (hr.mono (by decide)) (by rfl) T.m_is_amount T.F_is_amount.kp (b_is_amount T) .nil pass0 (pa_cons (pv 1) pa_nil)))) (pss_one ps_never) pss_nil)
 (pss_one (ps_ret (pe_op (op_ownBin (K := K) (E := E0) rfl T.oAdd ((ok_Amount_add_ T).raw (b_Amount_add_ T) .nil) (hr.mono (by decide))) (pe_call (ok_amount_of T) (hr.mono (by decide)) (by rfl) T.m_amount_of T.F_amount_of.kp (b_amount_of T) .nil pass0 (pa_cons (pv 1) pa_nil)) (pv 0))))), ?_⟩
    refine ⟨_, rfl, v, t', b', rfl, hv, true, rfl, iteF ?_⟩
    refine ⟨_, rfl, v, t', b', rfl, hv, bt'.mono (by decide), fun H1 q s1 hq => ?_⟩
    obtain ⟨dy, eq⟩ := id hq
    have hp := hp.same s1
    exact ⟨_, rfl, q, dy, _, rfl, eq, .inr (let ⟨dx, ep⟩ := hp; ⟨p, dx, _, rfl, ep⟩), q, _, t', b', t, b, rfl, hq, .inr ⟨p, rfl, hp⟩, bt', bb', bt, bb, g0, fun H2 r s2 hr => k _ _ (s1.trans s2) hr⟩
end
end K48

set_option Elab.async false
set_option linter.all false
set_option maxRecDepth 100000
set_option maxHeartbeats 4000000
set_option exponentiation.threshold 10000
namespace K48
open PySem L2 Lb
def ival : L2.St → Int := fun σ => match σ[0]? with
  | some (some (V.int y)) => y
  | _ => 0
abbrev itS (n : Int) : Str := ((toString n : String) : Str)
theorem itS_len {n : Int} (h : Bd 1800 n) : (itS n).length ≤ 601 := by
  rw [show (itS n).length = (toString n : String).length from ofString_length _]
  exact int_text_length_le10 (k := 600) (by decide) (Nat.lt_trans h (by decide))
theorem itS_neg {n : Int} (h : n < 0) : itS n = Str.empty ++ "-" ++ itS (-n) := by
  obtain ⟨k, rfl⟩ : ∃ k : Nat, n = -((k + 1 : Nat) : Int) := ⟨(-n).toNat - 1, by omega⟩
  rw [Int.neg_neg]
  have e : (toString (-((k + 1 : Nat) : Int)) : String) = "-" ++ toString ((k + 1 : Nat) : Int) := rfl
  show Str.ofString (toString (-((k + 1 : Nat) : Int))) = Str.empty ++ Str.ofString "-" ++ Str.ofString (toString ((k + 1 : Nat) : Int))
  rw [e, empty_add, Str.ofString_eq_toList, Str.ofString_eq_toList, Str.ofString_eq_toList]
  show Str.mk _ = Str.mk _
  simp
def sp_decimal0 : Sp := fun vs H Q _ => ∃ (n : Nat), vs = [.int (n : Int)] ∧ Bd 1800 (n : Int) ∧ ∀ H', Same H H' → Q (.str (itS n)) H'
def sp_decimal : Sp := fun vs H Q _ => ∃ (n : Int), vs = [.int n] ∧ Bd 1800 n ∧ ∀ H', Same H H' → Q (.str (itS n)) H'
theorem cut_cat {n m : Nat} {ps : List Str} (h : 10 ^ 60 ≤ m) (e : itS n = itS m ++ cat ps.reverse) (hl : ∀ x ∈ ps, x.length = 60) :
    itS n = itS ((m / 10 ^ 60 : Nat) : Int) ++ cat (ps ++ [Txt.zfill (itS ((m % 10 ^ 60 : Nat) : Int)) (60 : Nat)]).reverse ∧ ∀ x ∈ ps ++ [Txt.zfill (itS ((m % 10 ^ 60 : Nat) : Int)) (60 : Nat)], x.length = 60 := by
  obtain ⟨e1, e2⟩ := turn60 h
  refine ⟨?_, fun x hx => ?_⟩
  · rw [e, List.reverse_append, List.reverse_cons, List.reverse_nil, List.nil_append, List.singleton_append, cat, ← Str.append_assoc, ← e1]
  · rcases List.mem_append.mp hx with hx | hx
    · exact hl x hx
    · rw [List.mem_singleton.mp hx]
      exact e2
theorem len60 : ∀ {ps : List Str}, (∀ x ∈ ps, x.length = 60) → (ps.map (·.length)).sum = 60 * ps.length
  | [], _ => rfl
  | x :: r, h => by
    rw [List.map_cons, List.sum_cons, h x (List.mem_cons_self ..), len60 fun y hy => h y (List.mem_cons_of_mem _ hy), List.length_cons]
    omega
theorem few {n m : Nat} {ps : List Str} (hb : Bd 1800 (n : Int)) (e : itS n = itS m ++ cat ps.reverse) (hl : ∀ x ∈ ps, x.length = 60) : 60 * ps.length ≤ 601 := by
  have h := itS_len hb
  rw [e, Str.length_append, cat_length, List.map_reverse, List.sum_reverse, len60 hl] at h
  omega
section
variable {P : Program} {w : World} {K : PySem.W.Frag} {mg : Str → Option Value} {base : Heap} {a : Ad}
theorem ok_decimal0 (T : Txt K mg a) : FnOk P w K mg base CX0 1 a.f_decimal a.d_decimal ["number"] sp_decimal0 := by
  refine T.F_decimal.ok sc_decimal (fun vs H Q E h => ?_) (fun cdv A outer s H vs Q E hr h => ?_)
  · obtain ⟨n, rfl, _⟩ := h
    rfl
  · obtain ⟨n, rfl, hb, k⟩ := h
    refine ⟨_, (pss_cons (ps_if (pt_cmpR op_lt (pv 0) pe_int (nomark _)) (pss_one ps_never) pss_nil)
 (pss_cons (ps_set (i := 1) sc_decimal.nd rfl (by first | exact Or.inl rfl | exact Or.inr rfl) (pe_lst pa_nil))
 (pss_cons (ps_while PassesOwn.never (pt_cmpR op_ge (pv 0) (pe_glob (v := .int (10 ^ 60)) rfl T.gPart.choose_spec ⟨_, rfl⟩) (nomark _)) (pss_cons (ps_asg (pe_callB call_divmodW (by rfl) T.b_divmod (by decide +kernel) (pa_cons (pv 0) (pa_cons (pe_glob (v := .int (10 ^ 60)) rfl T.gPart.choose_spec ⟨_, rfl⟩) pa_nil))) (pg_tupK (K := K) (n := 2) rfl rfl (pgs_cons (pg_name (i := 0) sc_decimal.nd rfl (by first | exact Or.inl rfl | exact Or.inr rfl)) (pgs_cons (pg_name (i := 2) sc_decimal.nd rfl (by first | exact Or.inl rfl | exact Or.inr rfl)) pgs_nil))))
 (pss_one (ps_expr (pe_bm PySem.F.plainAttrs_list PySem.F.slot_list_append PySem.F.type_list_append mt_append (pv 1) (pa_cons (pe_bm PySem.F.plainAttrs_str PySem.F.slot_str_zfill PySem.F.type_str_zfill mt_zfill (pe_callTy call_str_int (by rfl) T.b_str (by decide +kernel) (pa_cons (pv 2) pa_nil)) (pa_cons (pe_glob (v := .int 60) rfl T.gLen.choose_spec ⟨_, rfl⟩) pa_nil)) pa_nil))))))
 (pss_cons (ps_expr (pe_bm PySem.F.plainAttrs_list PySem.F.slot_list_append PySem.F.type_list_append mt_append (pv 1) (pa_cons (pe_callTy call_str_int (by rfl) T.b_str (by decide +kernel) (pa_cons (pv 0) pa_nil)) pa_nil)))
 (pss_cons (ps_expr (pe_bm0 PySem.F.plainAttrs_list PySem.F.slot_list_reverse PySem.F.type_list_reverse mt_reverse (pv 1)))
 (pss_one (ps_ret (pe_join pe_str (pv 1))))))))), ?_⟩
    refine ⟨_, rfl, _, _, rfl, rfl, _, rfl, iteN (by simp) ?_⟩
    refine ⟨sz, fun l hl => ?_⟩
    have lp : Bd 200 ((10 : Int) ^ 60) := by show _ < _; decide
    refine while_by (fun σ H' => ∃ (m : Nat) (ps : List Str) (u : Option V), σ = [some (.int (m : Int)), some (.ref l), u] ∧ H' l = some (.lst (ps.map V.str)) ∧ Same H H' ∧ itS n = itS m ++ cat ps.reverse ∧ (∀ x ∈ ps, x.length = 60) ∧ m ≤ n) (fun σ _ => (ival σ).toNat)
      ⟨n, [], none, rfl, upd_same, Lb.Same.upd hl, (add_empty _).symm, fun _ h => absurd h (List.not_mem_nil), Nat.le_refl _⟩ ?_ (fun σ H Q Q' k ⟨v, e, i, j, e1, e2, b, e3, q⟩ => ⟨v, e, i, j, e1, e2, b, e3, k _ _ q⟩)
    rintro σ H1 ⟨m, ps, u, rfl, fl, s1, e, h60, hm⟩
    have hps := few hb e h60
    refine ⟨_, rfl, _, _, rfl, rfl, _, rfl, ite2 (fun h1 => ?_) (fun h1 => ?_)⟩
    · have h1 : 10 ^ 60 ≤ m := by
        have := of_decide_eq_true h1
        omega
      refine ⟨_, rfl, _, _, rfl, divp_small (by decide) (lp.mono (by decide)), fun t ht => ?_⟩
      generalize e_H2 : upd _ t _ = H2
      obtain ⟨s2, ft⟩ := al3 e_H2 ht
      clear e_H2
      (try dsimp only at ft)
      refine ⟨_, _, rfl, SqT.of ft, rfl, _, _, rfl, _, _, rfl, rfl, ?_⟩
      have e1 : (m : Int) / 10 ^ 60 = ((m / 10 ^ 60 : Nat) : Int) := by omega
      have e2 : (m : Int) % 10 ^ 60 = ((m % 10 ^ 60 : Nat) : Int) := by omega
      have fl := s2 _ _ fl
      obtain ⟨c1, c2⟩ := cut_cat h1 e h60
      have lr : (m % 10 ^ 60 : Nat) < 10 ^ 60 := Nat.mod_lt _ (by decide)
      have hlog : ((m : Int) % 10 ^ 60).natAbs.log2 < 1920 := by
        have : ((m : Int) % 10 ^ 60).natAbs < 2 ^ 200 := Nat.lt_of_lt_of_le (m := 10 ^ 60) (by omega) (by decide)
        exact Nat.lt_of_lt_of_le (PySem.Flt.log2_lt_of (by decide) this) (by decide)
      refine ⟨_, rfl, .inl ⟨rfl, _, SqL.of fl⟩, _, rfl, _, rfl, hlog, rfl, _, _, rfl, rfl, rfl, l, _, _, rfl, rfl, fl, szlt (by rw [List.length_map]; omega), ?_⟩
      refine ⟨⟨m / 10 ^ 60, ps ++ [Txt.zfill (itS ((m % 10 ^ 60 : Nat) : Int)) (60 : Nat)], _, by rw [e1]; rfl, ?_, Lb.Same.updl (s1.trans s2) hl, c1, c2, Nat.le_trans (Nat.div_le_self _ _) hm⟩, ?_⟩
      · rw [upd_same, e2, List.map_append]
        rfl
      · show ((m : Int) / 10 ^ 60).toNat < (m : Int).toNat
        omega
    · have h1 : m < 10 ^ 60 := by
        have h1 : ¬ ((m : Int) ≥ 10 ^ 60) := fun q => h1 (decide_eq_true q)
        omega
      have hlog : (m : Int).natAbs.log2 < 1920 := by
        have : (m : Int).natAbs < 2 ^ 200 := Nat.lt_of_lt_of_le (m := 10 ^ 60) (by omega) (by decide)
        exact Nat.lt_of_lt_of_le (PySem.Flt.log2_lt_of (by decide) this) (by decide)
      refine ⟨_, rfl, .inl ⟨rfl, _, SqL.of fl⟩, _, rfl, _, rfl, hlog, l, _, _, rfl, rfl, fl, szlt (by rw [List.length_map]; omega), ?_⟩
      refine ⟨_, rfl, .inl ⟨rfl, _, SqL.of upd_same⟩, l, _, rfl, rfl, upd_same, ?_⟩
      have er : (ps.map V.str ++ [V.str (itS (m : Int))]).reverse = ((itS (m : Int)) :: ps.reverse).map V.str := by simp
      rw [er]
      refine ⟨⟨_, rfl⟩, _, rfl, _, l, (itS (m : Int)) :: ps.reverse, rfl, rfl, .inl (SqL.of upd_same), ?_, ?_⟩
      · have l1 : (itS (m : Int)).length ≤ 61 := by
          rw [show (itS (m : Int)).length = (toString (m : Int) : String).length from ofString_length _]
          exact int_text_length_le10 (k := 60) (by decide) (by omega)
        rw [List.map_cons, List.sum_cons, List.map_reverse, List.sum_reverse, len60 h60]
        show _ + _ * 0 ≤ _
        omega
      · rw [show (Str.ofString "") = Str.empty from by decide +kernel, join_empty]
        rw [e] at k
        exact k _ (Lb.Same.updl (Lb.Same.updl s1 hl) hl)
theorem ok_decimal (T : Txt K mg a) : FnOk P w K mg base CX0 2 a.f_decimal a.d_decimal ["number"] sp_decimal := by
  refine T.F_decimal.ok sc_decimal (fun vs H Q E h => ?_) (fun cdv A outer s H vs Q E hr h => ?_)
  · obtain ⟨n, rfl, _⟩ := h
    rfl
  · obtain ⟨n, rfl, hb, k⟩ := h
    refine ⟨_, (pss_cons (ps_if (pt_cmpR op_lt (pv 0) pe_int (nomark _)) (pss_one (ps_ret (pe_joined (.cons pe_str (.cons (pe_fmt (pe_call (ok_decimal0 T) (hr.mono (by decide)) (by rfl) T.m_decimal T.F_decimal.kp (b_decimal T) .nil pass0 (pa_cons (pe_un un_neg (pv 0)) pa_nil))) .nil))))) pss_nil)
 (pss_cons (ps_set (i := 1) sc_decimal.nd rfl (by first | exact Or.inl rfl | exact Or.inr rfl) (pe_lst pa_nil))
 (pss_cons (ps_while PassesOwn.never (pt_cmpR op_ge (pv 0) (pe_glob (v := .int (10 ^ 60)) rfl T.gPart.choose_spec ⟨_, rfl⟩) (nomark _)) (pss_cons (ps_asg (pe_callB call_divmodW (by rfl) T.b_divmod (by decide +kernel) (pa_cons (pv 0) (pa_cons (pe_glob (v := .int (10 ^ 60)) rfl T.gPart.choose_spec ⟨_, rfl⟩) pa_nil))) (pg_tupK (K := K) (n := 2) rfl rfl (pgs_cons (pg_name (i := 0) sc_decimal.nd rfl (by first | exact Or.inl rfl | exact Or.inr rfl)) (pgs_cons (pg_name (i := 2) sc_decimal.nd rfl (by first | exact Or.inl rfl | exact Or.inr rfl)) pgs_nil))))
 (pss_one (ps_expr (pe_bm PySem.F.plainAttrs_list PySem.F.slot_list_append PySem.F.type_list_append mt_append (pv 1) (pa_cons (pe_bm PySem.F.plainAttrs_str PySem.F.slot_str_zfill PySem.F.type_str_zfill mt_zfill (pe_callTy call_str_int (by rfl) T.b_str (by decide +kernel) (pa_cons (pv 2) pa_nil)) (pa_cons (pe_glob (v := .int 60) rfl T.gLen.choose_spec ⟨_, rfl⟩) pa_nil)) pa_nil))))))
 (pss_cons (ps_expr (pe_bm PySem.F.plainAttrs_list PySem.F.slot_list_append PySem.F.type_list_append mt_append (pv 1) (pa_cons (pe_callTy call_str_int (by rfl) T.b_str (by decide +kernel) (pa_cons (pv 0) pa_nil)) pa_nil)))
 (pss_cons (ps_expr (pe_bm0 PySem.F.plainAttrs_list PySem.F.slot_list_reverse PySem.F.type_list_reverse mt_reverse (pv 1)))
 (pss_one (ps_ret (pe_join pe_str (pv 1))))))))), ?_⟩
    refine ⟨_, rfl, _, _, rfl, rfl, _, rfl, ite2 (fun h0 => ?_) (fun h0 => ?_)⟩
    · have h0 : n < 0 := by simpa using h0
      obtain ⟨m, hm⟩ : ∃ m : Nat, -n = (m : Int) := ⟨(-n).toNat, by omega⟩
      have hb' : Bd 1800 (-n) := hb.neg
      refine ⟨_, rfl, sz, _, rfl, _, rfl, m, by show [V.int (-n)] = _; rw [hm], hm ▸ hb', fun H' s' => .inl ⟨_, rfl, szle (by rw [← hm]; have := itS_len hb'; omega), _, rfl, ?_, ?_⟩⟩
      · rw [← hm]
        have := itS_len hb'
        rw [Str.length_append]
        exact szle (by show 1 + _ ≤ _; omega)
      · rw [← hm]
        have e := k _ s'
        rw [itS_neg h0] at e
        exact e
    · obtain ⟨n, rfl⟩ : ∃ m : Nat, n = (m : Int) := ⟨n.toNat, (Int.toNat_of_nonneg (Int.not_lt.mp (by simpa using h0))).symm⟩
      refine ⟨sz, fun l hl => ?_⟩
      have lp : Bd 200 ((10 : Int) ^ 60) := by show _ < _; decide
      refine while_by (fun σ H' => ∃ (m : Nat) (ps : List Str) (u : Option V), σ = [some (.int (m : Int)), some (.ref l), u] ∧ H' l = some (.lst (ps.map V.str)) ∧ Same H H' ∧ itS n = itS m ++ cat ps.reverse ∧ (∀ x ∈ ps, x.length = 60) ∧ m ≤ n) (fun σ _ => (ival σ).toNat)
        ⟨n, [], none, rfl, upd_same, Lb.Same.upd hl, (add_empty _).symm, fun _ h => absurd h (List.not_mem_nil), Nat.le_refl _⟩ ?_ (fun σ H Q Q' k ⟨v, e, i, j, e1, e2, b, e3, q⟩ => ⟨v, e, i, j, e1, e2, b, e3, k _ _ q⟩)
      rintro σ H1 ⟨m, ps, u, rfl, fl, s1, e, h60, hm⟩
      have hps := few hb e h60
      refine ⟨_, rfl, _, _, rfl, rfl, _, rfl, ite2 (fun h1 => ?_) (fun h1 => ?_)⟩
      · have h1 : 10 ^ 60 ≤ m := by
          have := of_decide_eq_true h1
          omega
        refine ⟨_, rfl, _, _, rfl, divp_small (by decide) (lp.mono (by decide)), fun t ht => ?_⟩
        generalize e_H2 : upd _ t _ = H2
        obtain ⟨s2, ft⟩ := al3 e_H2 ht
        clear e_H2
        (try dsimp only at ft)
        refine ⟨_, _, rfl, SqT.of ft, rfl, _, _, rfl, _, _, rfl, rfl, ?_⟩
        have e1 : (m : Int) / 10 ^ 60 = ((m / 10 ^ 60 : Nat) : Int) := by omega
        have e2 : (m : Int) % 10 ^ 60 = ((m % 10 ^ 60 : Nat) : Int) := by omega
        have fl := s2 _ _ fl
        obtain ⟨c1, c2⟩ := cut_cat h1 e h60
        have lr : (m % 10 ^ 60 : Nat) < 10 ^ 60 := Nat.mod_lt _ (by decide)
        have hlog : ((m : Int) % 10 ^ 60).natAbs.log2 < 1920 := by
          have : ((m : Int) % 10 ^ 60).natAbs < 2 ^ 200 := Nat.lt_of_lt_of_le (m := 10 ^ 60) (by omega) (by decide)
          exact Nat.lt_of_lt_of_le (PySem.Flt.log2_lt_of (by decide) this) (by decide)
        refine ⟨_, rfl, .inl ⟨rfl, _, SqL.of fl⟩, _, rfl, _, rfl, hlog, rfl, _, _, rfl, rfl, rfl, l, _, _, rfl, rfl, fl, szlt (by rw [List.length_map]; omega), ?_⟩
        refine ⟨⟨m / 10 ^ 60, ps ++ [Txt.zfill (itS ((m % 10 ^ 60 : Nat) : Int)) (60 : Nat)], _, by rw [e1]; rfl, ?_, Lb.Same.updl (s1.trans s2) hl, c1, c2, Nat.le_trans (Nat.div_le_self _ _) hm⟩, ?_⟩
        · rw [upd_same, e2, List.map_append]
          rfl
        · show ((m : Int) / 10 ^ 60).toNat < (m : Int).toNat
          omega
      · have h1 : m < 10 ^ 60 := by
          have h1 : ¬ ((m : Int) ≥ 10 ^ 60) := fun q => h1 (decide_eq_true q)
          omega
        have hlog : (m : Int).natAbs.log2 < 1920 := by
          have : (m : Int).natAbs < 2 ^ 200 := Nat.lt_of_lt_of_le (m := 10 ^ 60) (by omega) (by decide)
          exact Nat.lt_of_lt_of_le (PySem.Flt.log2_lt_of (by decide) this) (by decide)
        refine ⟨_, rfl, .inl ⟨rfl, _, SqL.of fl⟩, _, rfl, _, rfl, hlog, l, _, _, rfl, rfl, fl, szlt (by rw [List.length_map]; omega), ?_⟩
        refine ⟨_, rfl, .inl ⟨rfl, _, SqL.of upd_same⟩, l, _, rfl, rfl, upd_same, ?_⟩
        have er : (ps.map V.str ++ [V.str (itS (m : Int))]).reverse = ((itS (m : Int)) :: ps.reverse).map V.str := by simp
        rw [er]
        refine ⟨⟨_, rfl⟩, _, rfl, _, l, (itS (m : Int)) :: ps.reverse, rfl, rfl, .inl (SqL.of upd_same), ?_, ?_⟩
        · have l1 : (itS (m : Int)).length ≤ 61 := by
            rw [show (itS (m : Int)).length = (toString (m : Int) : String).length from ofString_length _]
            exact int_text_length_le10 (k := 60) (by decide) (by omega)
          rw [List.map_cons, List.sum_cons, List.map_reverse, List.sum_reverse, len60 h60]
          show _ + _ * 0 ≤ _
          omega
        · rw [show (Str.ofString "") = Str.empty from by decide +kernel, join_empty]
          rw [e] at k
          exact k _ (Lb.Same.updl (Lb.Same.updl s1 hl) hl)
/-- str and repr of an amount -/
def txS (t b : Int) : Str := if b = 1 then itS t else itS t ++ "/" ++ itS b
def txR (t b : Int) : Str := "Amount(" ++ itS t ++ ", " ++ itS b ++ ")"
def sp_tx (C : Addr) (f : Int → Int → Str) : Sp := fun vs H Q _ => ∃ (p : Addr) (t b : Int), vs = [.ref p] ∧ AmAt C H p t b ∧ Bd 1800 t ∧ Bd 1800 b ∧ ∀ H', Same H H' → Q (.str (f t b)) H'
theorem ok_Amount_str_ (T : Txt K mg a) : FnOk P w K mg base CX0 3 a.f_Amount_str_ a.d_Amount_str_ ["self"] (sp_tx a.c_Amount txS) := by
  refine T.F_Amount_str_.ok sc_Amount_str_ (fun vs H Q E h => ?_) (fun cdv A outer s H vs Q E hr h => ?_)
  · obtain ⟨p, t, b, rfl, _⟩ := h
    rfl
  · obtain ⟨p, t, b, rfl, ⟨dx, hp⟩, ht, hb, k⟩ := h
    refine ⟨_, (pss_cons (ps_if (pt_cmpR op_eq (pe_fldK (K := K) rfl (pv 0) rfl) pe_int (nomark _)) (pss_one (ps_ret (pe_callTy SkE.call_str_str (by rfl) T.b_str (by decide +kernel) (pa_cons (pe_call (ok_decimal T) (hr.mono (by decide)) (by rfl) T.m_decimal T.F_decimal.kp (b_decimal T) .nil pass0 (pa_cons (pe_fldK (K := K) rfl (pv 0) rfl) pa_nil)) pa_nil)))) pss_nil)
 (pss_one (ps_ret (pe_joined (.cons (pe_fmt (pe_call (ok_decimal T) (hr.mono (by decide)) (by rfl) T.m_decimal T.F_decimal.kp (b_decimal T) .nil pass0 (pa_cons (pe_fldK (K := K) rfl (pv 0) rfl) pa_nil))) (.cons pe_str (.cons (pe_fmt (pe_call (ok_decimal T) (hr.mono (by decide)) (by rfl) T.m_decimal T.F_decimal.kp (b_decimal T) .nil pass0 (pa_cons (pe_fldK (K := K) rfl (pv 0) rfl) pa_nil))) .nil))))))), ?_⟩
    unfold txS at k
    refine ⟨_, rfl, p, _, dx, _, _, rfl, hp, T.cl, T.nB, am_bot _ _, rfl, _, rfl, ite2 (fun h1 => ?_) (fun h1 => ?_)⟩
    · rw [if_pos (by simpa using h1)] at k
      refine ⟨_, rfl, p, _, dx, _, _, rfl, hp, T.cl, T.nT, am_top _ _, t, rfl, ht, fun H1 s1 => ⟨_, rfl, k _ s1⟩⟩
    · rw [if_neg (by simpa using h1)] at k
      refine ⟨_, rfl, p, _, dx, _, _, rfl, hp, T.cl, T.nT, am_top _ _, t, rfl, ht, fun H1 s1 => ?_⟩
      have l1 := itS_len ht
      have l2 := itS_len hb
      refine .inl ⟨_, rfl, szle (by omega), _, rfl, ?_, _, rfl, ?_, ?_⟩
      · rw [Str.length_append]
        exact szle (by show 0 + _ ≤ _; omega)
      · rw [Str.length_append, Str.length_append]
        exact szle (by show 0 + _ + 1 ≤ _; omega)
      refine ⟨_, rfl, p, _, dx, _, _, rfl, s1 _ _ hp, T.cl, T.nB, am_bot _ _, b, rfl, hb, fun H2 s2 => .inl ⟨_, rfl, szle (by omega), _, rfl, ?_, ?_⟩⟩
      · rw [Str.length_append, Str.length_append, Str.length_append]
        exact szle (by show 0 + _ + 1 + _ ≤ _; omega)
      · have q := k _ (s1.trans s2)
        rw [← empty_add (itS t)] at q
        exact q
theorem ok_Amount_repr_ (T : Txt K mg a) : FnOk P w K mg base CX0 3 a.f_Amount_repr_ a.d_Amount_repr_ ["self"] (sp_tx a.c_Amount txR) := by
  refine T.F_Amount_repr_.ok sc_Amount_repr_ (fun vs H Q E h => ?_) (fun cdv A outer s H vs Q E hr h => ?_)
  · obtain ⟨p, t, b, rfl, _⟩ := h
    rfl
  · obtain ⟨p, t, b, rfl, ⟨dx, hp⟩, ht, hb, k⟩ := h
    refine ⟨_, (pss_one (ps_ret (pe_joined (.cons pe_str (.cons (pe_fmt (pe_call (ok_decimal T) (hr.mono (by decide)) (by rfl) T.m_decimal T.F_decimal.kp (b_decimal T) .nil pass0 (pa_cons (pe_fldK (K := K) rfl (pv 0) rfl) pa_nil))) (.cons pe_str (.cons (pe_fmt (pe_call (ok_decimal T) (hr.mono (by decide)) (by rfl) T.m_decimal T.F_decimal.kp (b_decimal T) .nil pass0 (pa_cons (pe_fldK (K := K) rfl (pv 0) rfl) pa_nil))) (.cons pe_str .nil)))))))), ?_⟩
    have l1 := itS_len ht
    have l2 := itS_len hb
    have l3 : ("Amount(" : Str).length = 7 := by decide +kernel
    have l4 : (", " : Str).length = 2 := by decide +kernel
    have l5 : (")" : Str).length = 1 := by decide +kernel
    have l0 : (Str.empty).length = 0 := rfl
    refine ⟨_, rfl, sz, _, rfl, p, _, dx, _, _, rfl, hp, T.cl, T.nT, am_top _ _, t, rfl, ht, fun H1 s1 => .inl ⟨_, rfl, szle (by omega), _, rfl, ?_, _, rfl, ?_, ?_⟩⟩
    · rw [Str.length_append, Str.length_append]
      exact szle (by omega)
    · rw [Str.length_append, Str.length_append, Str.length_append]
      exact szle (by omega)
    refine ⟨_, rfl, p, _, dx, _, _, rfl, s1 _ _ hp, T.cl, T.nB, am_bot _ _, b, rfl, hb, fun H2 s2 => .inl ⟨_, rfl, szle (by omega), _, rfl, ?_, _, rfl, ?_, ?_⟩⟩
    · rw [Str.length_append, Str.length_append, Str.length_append, Str.length_append]
      exact szle (by omega)
    · rw [Str.length_append, Str.length_append, Str.length_append, Str.length_append, Str.length_append]
      exact szle (by omega)
    · have q := k _ (s1.trans s2)
      unfold txR at q
      rw [← empty_add ("Amount(" : Str)] at q
      exact q
end
end K48

set_option Elab.async false
set_option linter.all false
set_option maxRecDepth 100000
set_option maxHeartbeats 4000000
namespace K48
open PySem L2 Lb
open C8 (pss_cut)
def fLt : Int → Int → Int → Int → Bool := fun t b t' b' => decide (t * b' < t' * b)
def sp_lt (C : Addr) : Sp := fun vs H Q _ => ∃ (p q : Addr) (t b t' b' : Int), vs = [.ref p, .ref q] ∧ AmAt C H p t b ∧ AmAt C H q t' b' ∧ Bd 8000 t ∧ Bd 8000 b ∧ Bd 8000 t' ∧ Bd 8000 b' ∧ Q (.bl (fLt t b t' b')) H
def sp_eq (C : Addr) : Sp := fun vs H Q _ => ∃ (p q : Addr) (t b t' b' : Int), vs = [.ref p, .ref q] ∧ AmAt C H p t b ∧ AmAt C H q t' b' ∧ Q (.bl (decide (t = t') && decide (b = b'))) H
section
variable {P : Program} {w : World} {K : PySem.W.Frag} {mg : Str → Option Value} {base : Heap} {a : Ad}
theorem ok_Amount_lt_ (T : Txt K mg a) : FnOk P w K mg base CX0 1 a.f_Amount_lt_ a.d_Amount_lt_ ["self", "other"] (sp_lt a.c_Amount) := by
  refine T.F_Amount_lt_.ok sc_Amount_lt_ (fun vs H Q E h => ?_) (fun cdv A outer s H vs Q E hr h => ?_)
  · obtain ⟨p, q, t, b, t', b', rfl, _⟩ := h
    rfl
  · obtain ⟨p, q, t, b, t', b', rfl, ⟨dx, hp⟩, ⟨dy, hq⟩, bt, bb, bt', bb', k⟩ := h
    refine ⟨_, (pss_cons (ps_if (pt_not (pt_val (pe_callB (call_isiK' (K := K) rfl) (by rfl) T.b_isinstance (by decide +kernel) (pa_cons (pv 1) (pa_cons (pe_glob (v := .ref a.c_Amount) rfl T.mA rfl) pa_nil))))) (pss_one ps_never) pss_nil)
 (pss_one (ps_ret (pe_cmpR op_lt (pe_op op_mulX (pe_fldK (K := K) rfl (pv 0) rfl) (pe_fldK (K := K) rfl (pv 1) rfl)) (pe_op op_mulX (pe_fldK (K := K) rfl (pv 1) rfl) (pe_fldK (K := K) rfl (pv 0) rfl)) (nomark _))))), ?_⟩
    refine ⟨_, rfl, _, _, _, _, true, rfl, .own _, .base (T.I.ty T.cl hq), Inst.kSelf, true, rfl, iteF ?_⟩
    refine ⟨_, rfl, p, _, dx, _, _, rfl, hp, T.cl, T.nT, am_top _ _, _, rfl, q, _, dy, _, _, rfl, hq, T.cl, T.nB, am_bot _ _, _, _, rfl, rfl, bt.cm bb' (by decide), ?_⟩
    exact ⟨_, rfl, q, _, dy, _, _, rfl, hq, T.cl, T.nT, am_top _ _, _, rfl, p, _, dx, _, _, rfl, hp, T.cl, T.nB, am_bot _ _, _, _, rfl, rfl, bt'.cm bb (by decide), _, _, rfl, rfl, k⟩
theorem ok_Amount_eq_ (T : Txt K mg a) : FnOk P w K mg base CX0 1 a.f_Amount_eq_ a.d_Amount_eq_ ["self", "other"] (sp_eq a.c_Amount) := by
  refine T.F_Amount_eq_.ok sc_Amount_eq_ (fun vs H Q E h => ?_) (fun cdv A outer s H vs Q E hr h => ?_)
  · obtain ⟨p, q, t, b, t', b', rfl, _⟩ := h
    rfl
  · obtain ⟨p, q, t, b, t', b', rfl, ⟨dx, hp⟩, ⟨dy, hq⟩, k⟩ := h
    refine ⟨_, (pss_one (ps_ret (pe_and (pe_callB (call_isiK' (K := K) rfl) (by rfl) T.b_isinstance (by decide +kernel) (pa_cons (pv 1) (pa_cons (pe_glob (v := .ref a.c_Amount) rfl T.mA rfl) pa_nil))) (pe_and (pe_cmpR op_eq (pe_fldK (K := K) rfl (pv 0) rfl) (pe_fldK (K := K) rfl (pv 1) rfl) (nomark _)) (pe_one (pe_cmpR op_eq (pe_fldK (K := K) rfl (pv 0) rfl) (pe_fldK (K := K) rfl (pv 1) rfl) (nomark _))))))), ?_⟩
    refine ⟨_, rfl, _, _, _, _, true, rfl, .own _, .base (T.I.ty T.cl hq), Inst.kSelf, true, rfl, iteT ?_⟩
    refine ⟨_, rfl, p, _, dx, _, _, rfl, hp, T.cl, T.nT, am_top _ _, _, rfl, q, _, dy, _, _, rfl, hq, T.cl, T.nT, am_top _ _, rfl, _, rfl, ?_⟩
    rw [show decide (V.int t = V.int t') = decide (t = t') by simp]
    refine ite2 (fun h1 => ?_) (fun h1 => ?_)
    · refine ⟨_, rfl, p, _, dx, _, _, rfl, hp, T.cl, T.nB, am_bot _ _, _, rfl, q, _, dy, _, _, rfl, hq, T.cl, T.nB, am_bot _ _, rfl, ?_⟩
      rw [h1, Bool.true_and] at k
      rw [show decide (V.int b = V.int b') = decide (b = b') by simp]
      exact k
    · rw [Bool.eq_false_iff.mpr h1, Bool.false_and] at k
      exact k
end
end K48

set_option Elab.async false
set_option linter.all false
set_option maxRecDepth 100000
set_option maxHeartbeats 4000000
namespace K48
open PySem L2 Lb
open C8 (pss_cut)
/-- a value that is no amount; CS: the class of stretches -/
inductive OddN (CS : Addr) (H : Hp) : V → Prop
  | non : OddN CS H .non
  | bl (x : Bool) : OddN CS H (.bl x)
  | str (x : Str) : OddN CS H (.str x)
  | lst {p : Addr} {xs : List V} (e : H p = some (.lst xs)) : OddN CS H (.ref p)
  | tup {p : Addr} {xs : List V} (e : H p = some (.tup xs)) : OddN CS H (.ref p)
  | dct {p : Addr} {kvs : List (Key × V)} (e : H p = some (.dK kvs)) : OddN CS H (.ref p)
  | sch {p dx : Addr} {fs : List (Str × V)} (e : H p = some (.ins CS dx fs)) : OddN CS H (.ref p)
theorem OddN.same {CS : Addr} {H H' : Hp} {v : V} (h : OddN CS H v) (s : Same H H') : OddN CS H' v := by
  cases h with
  | non => exact .non
  | bl x => exact .bl x
  | str x => exact .str x
  | lst e => exact .lst (s _ _ e)
  | tup e => exact .tup (s _ _ e)
  | dct e => exact .dct (s _ _ e)
  | sch e => exact .sch (s _ _ e)
/-- is_integer of any value -/
def sp_is_integerX (C CS : Addr) : Sp := fun vs H Q _ => ∃ v, vs = [v] ∧ ((∃ i, v = .int i ∧ Q (.bl true) H) ∨ ((OddN CS H v ∨ ∃ q t b, v = .ref q ∧ AmAt C H q t b) ∧ Q (.bl false) H))
def sp_is_amountX (C CS : Addr) : Sp := fun vs H Q _ => ∃ v, vs = [v] ∧ ((∃ t b, IsP C H v t b ∧ Q (.bl true) H) ∨ (OddN CS H v ∧ Q (.bl false) H))
def sp_amount_ofX (CA CS : Addr) : Sp := fun vs H _ E => ∃ v, vs = [v] ∧ OddN CS H v ∧ ∀ H' d, Same H H' → H d = none → H' d = some (.xd [("value", v)]) → E (.ref CA) (some d) H'
section
variable {P : Program} {w : World} {K : PySem.W.Frag} {mg : Str → Option Value} {base : Heap} {a : Ad}
/-- as isinstance(v, Amount) sees it -/
theorem OddN.kit (T : Txt K mg a) {H : Hp} {v : V} (h : OddN a.c_Stretch H v) : ∃ t, TyX K H v t ∧ PySem.W.kitOne K t (.ref a.c_Amount) = some false := by
  cases h with
  | non => exact ⟨_, .base .non, T.I.kNone⟩
  | bl x => exact ⟨_, .base (.bl _), T.I.kBool⟩
  | str x => exact ⟨_, .base (.str _), T.I.kStr⟩
  | lst e => exact ⟨_, .base (.lst e), T.I.kList⟩
  | tup e => exact ⟨_, .base (.tup e), T.I.kTup⟩
  | dct e => exact ⟨_, .base (.dK e), T.I.kDict⟩
  | sch e => exact ⟨_, .base (T.IS.ty T.clS e), T.kSA⟩
theorem ok_InvalidAmount_init_ (T : Txt K mg a) : FnOk P w K mg base CX0 1 a.f_InvalidAmount_init_ a.d_InvalidAmount_init_ ["self", "value"] (sp_exq K a.c_InvalidAmount "value") := by
  refine T.F_InvalidAmount_init_.ok sc_InvalidAmount_init_ (fun vs H Q E h => ?_) (fun cdv A outer s H vs Q E hr h => ?_)
  · obtain ⟨q, y, rfl, _⟩ := h
    rfl
  · obtain ⟨q, y, rfl, hq, k⟩ := h
    refine ⟨_, (pss_one (ps_ost (pv 0) (pv 1))), ?_⟩
    exact ⟨_, rfl, _, rfl, q, a.c_InvalidAmount, rfl, T.xInvalidAmount.ox, T.nInvalidAmount, .inl ⟨hq, fun dx hdx ne => k dx hdx ne⟩⟩
theorem ok_is_integerX (T : Txt K mg a) : FnOk P w K mg base CX0 1 a.f_is_integer a.d_is_integer ["value"] (sp_is_integerX a.c_Amount a.c_Stretch) := by
  refine T.F_is_integer.ok sc_is_integer (fun vs H Q E h => ?_) (fun cdv A outer s H vs Q E hr h => ?_)
  · obtain ⟨v, rfl, _⟩ := h
    rfl
  · obtain ⟨v, rfl, hv⟩ := h
    refine ⟨_, (pss_one (ps_ret (pe_and (pe_callB (call_isiK' (K := K) rfl) (by rfl) T.b_isinstance (by decide +kernel) (pa_cons (pv 0) (pa_cons (pe_bltn (v := .ty "int") (by rfl) T.b_int (by decide +kernel) rfl) pa_nil))) (pe_one (pe_not (pe_callB (call_isiK' (K := K) rfl) (by rfl) T.b_isinstance (by decide +kernel) (pa_cons (pv 0) (pa_cons (pe_bltn (v := .ty "bool") (by rfl) T.b_bool (by decide +kernel) rfl) pa_nil)))))))), ?_⟩
    rcases hv with ⟨i, rfl, k⟩ | ⟨hv | ⟨q, t, b, rfl, dx, hq⟩, k⟩
    · refine ⟨_, rfl, _, _, _, _, true, rfl, .ty _, .base (.int _), kit_ty (by decide +kernel), true, rfl, iteT ?_⟩
      exact ⟨_, rfl, _, _, _, _, false, rfl, .ty _, .base (.int _), kit_ty (by decide +kernel), false, rfl, k⟩
    · cases hv with
      | non => exact ⟨_, rfl, _, _, _, _, false, rfl, .ty _, .base .non, kit_ty (by decide +kernel), false, rfl, iteF k⟩
      | bl x =>
        refine ⟨_, rfl, _, _, _, _, true, rfl, .ty _, .base (.bl _), kit_ty (by decide +kernel), true, rfl, iteT ?_⟩
        exact ⟨_, rfl, _, _, _, _, true, rfl, .ty _, .base (.bl _), kit_ty (by decide +kernel), true, rfl, k⟩
      | str x => exact ⟨_, rfl, _, _, _, _, false, rfl, .ty _, .base (.str _), kit_ty (by decide +kernel), false, rfl, iteF k⟩
      | lst e => exact ⟨_, rfl, _, _, _, _, false, rfl, .ty _, .base (.lst e), kit_ty (by decide +kernel), false, rfl, iteF k⟩
      | tup e => exact ⟨_, rfl, _, _, _, _, false, rfl, .ty _, .base (.tup e), kit_ty (by decide +kernel), false, rfl, iteF k⟩
      | dct e => exact ⟨_, rfl, _, _, _, _, false, rfl, .ty _, .base (.dK e), kit_ty (by decide +kernel), false, rfl, iteF k⟩
      | sch e => exact ⟨_, rfl, _, _, _, _, false, rfl, .ty _, .base (T.IS.ty T.clS e), kit_of_own (by decide +kernel) T.sSI, false, rfl, iteF k⟩
    · exact ⟨_, rfl, _, _, _, _, false, rfl, .ty _, .base (T.I.ty T.cl hq), kit_of_own (by decide +kernel) T.oAdd.ss2, false, rfl, iteF k⟩
theorem ok_is_amountX (T : Txt K mg a) : FnOk P w K mg base CX0 2 a.f_is_amount a.d_is_amount ["value"] (sp_is_amountX a.c_Amount a.c_Stretch) := by
  refine T.F_is_amount.ok sc_is_amount (fun vs H Q E h => ?_) (fun cdv A outer s H vs Q E hr h => ?_)
  · obtain ⟨v, rfl, _⟩ := h
    rfl
  · obtain ⟨v, rfl, hv⟩ := h
    refine ⟨_, (pss_one (ps_ret (pe_or (pe_call (ok_is_integerX T) (hr.mono (by decide)) (by rfl) T.m_is_integer T.F_is_integer.kp (b_is_integer T) .nil pass0 (pa_cons (pv 0) pa_nil)) (pe_one (pe_callB (call_isiK' (K := K) rfl) (by rfl) T.b_isinstance (by decide +kernel) (pa_cons (pv 0) (pa_cons (pe_glob (v := .ref a.c_Amount) rfl T.mA rfl) pa_nil))))))), ?_⟩
    rcases hv with ⟨t, b, ⟨rfl, rfl⟩ | ⟨q, rfl, dx, hq⟩, k⟩ | ⟨ho, k⟩
    · exact ⟨_, rfl, .int t, rfl, .inl ⟨t, rfl, true, rfl, iteT k⟩⟩
    · refine ⟨_, rfl, .ref q, rfl, .inr ⟨.inr ⟨q, t, b, rfl, dx, hq⟩, false, rfl, iteF ?_⟩⟩
      exact ⟨_, rfl, _, _, _, _, true, rfl, .own _, .base (T.I.ty T.cl hq), Inst.kSelf, k⟩
    · obtain ⟨t, ty, kt⟩ := ho.kit T
      refine ⟨_, rfl, v, rfl, .inr ⟨.inl ho, false, rfl, iteF ?_⟩⟩
      exact ⟨_, rfl, _, _, _, _, false, rfl, .own _, ty, kt, k⟩
theorem ok_amount_ofX (T : Txt K mg a) : FnOk P w K mg base (L2.CX P w) 4 a.f_amount_of a.d_amount_of ["value"] (sp_amount_ofX a.c_InvalidAmount a.c_Stretch) := by
  refine T.F_amount_of.okX sc_amount_of (fun vs H Q E h => ?_) (fun cdv A outer s H vs Q E hr h => ?_)
  · obtain ⟨v, rfl, _⟩ := h
    rfl
  · obtain ⟨v, rfl, ho, k⟩ := h
    refine ⟨_, (pss_cons (ps_if (pt_val (pe_callB (call_isiK' (K := K) rfl) (by rfl) T.b_isinstance (by decide +kernel) (pa_cons (pv 0) (pa_cons (pe_glob (v := .ref a.c_Amount) rfl T.mA rfl) pa_nil)))) (pss_one (ps_ret (pv 0))) pss_nil)
 (pss_cons (ps_if (pt_val (pe_call (ok_is_integerX T) (hr.mono (by decide)) (by rfl) T.m_is_integer T.F_is_integer.kp (b_is_integer T) .nil pass0 (pa_cons (pv 0) pa_nil))) (pss_one (ps_ret (pe_make T.mkA (ok_Amount_init_ T) (hr.mono (by decide)) (by rfl) T.mA (b1_Amount_init_ T).choose_spec.2 (b1_Amount_init_ T).choose_spec.1 pass0 (pa_cons (pv 0) pa_nil)))) pss_nil)
 (pss_one (ps_raise rfl (takes_of rfl rfl rfl rfl) (pmk_oex T.xInvalidAmount.ox T.xInvalidAmount.iC T.xInvalidAmount.tI (ok_InvalidAmount_init_ T) (hr.mono (by decide)) (b_InvalidAmount_init_ T) .nil pass0 (by rfl) T.xInvalidAmount.mC (pa_cons (pv 0) pa_nil)))))), ?_⟩
    obtain ⟨t, ty, kt⟩ := ho.kit T
    refine ⟨_, rfl, _, _, _, _, false, rfl, .own _, ty, kt, false, rfl, iteF ?_⟩
    refine ⟨_, rfl, v, rfl, .inr ⟨.inl ho, false, rfl, iteF ?_⟩⟩
    exact ⟨_, rfl, (show 1 ≤ 1000 by decide), fun q' hq' => ⟨q', v, rfl, upd_same, fun dx' hdx' ne' => ⟨rfl, exq_way hq' k dx' hdx' ne'⟩⟩⟩
end
end K48

set_option Elab.async false
set_option linter.all false
set_option maxRecDepth 100000
set_option maxHeartbeats 4000000
namespace K48
open PySem L2 Lb
open C8 (pss_cut)
theorem hl_ : ¬ (("_high" : Str) = "_low") := by decide +kernel
theorem lh_ : ¬ (("_low" : Str) = "_high") := by decide +kernel
theorem tl_ : ¬ (("_low" : Str) = "_top") := by decide +kernel
theorem th_ : ¬ (("_high" : Str) = "_top") := by decide +kernel
def st (p1 p2 : Addr) : List (Str × V) := putF "_high" (.ref p2) (putF "_low" (.ref p1) [])
theorem st_low (p1 p2 : Addr) : (st p1 p2).lookup ("_low" : Str) = some (.ref p1) := by
  unfold st
  rw [lookup_putF, if_neg lh_, lookup_putF, if_pos rfl]
theorem st_high (p1 p2 : Addr) : (st p1 p2).lookup ("_high" : Str) = some (.ref p2) := by
  unfold st
  rw [lookup_putF, if_pos rfl]
theorem st_no (p1 p2 : Addr) {m : Str} (h1 : ¬ m = "_high") (h2 : ¬ m = "_low") : (st p1 p2).lookup m = none := by
  unfold st
  rw [lookup_putF, if_neg h1, lookup_putF, if_neg h2]
  all_goals rfl
abbrev F2 := Int × Int
/-- a stretch at q, from the amount x to the amount y -/
def StAt (CA CS : Addr) (H : Hp) (q : Addr) (x y : F2) : Prop := ∃ dx p1 p2, H q = some (.ins CS dx (st p1 p2)) ∧ AmAt CA H p1 x.1 x.2 ∧ AmAt CA H p2 y.1 y.2
theorem StAt.same {CA CS q : Addr} {H H' : Hp} {x y : F2} (h : StAt CA CS H q x y) (s : Same H H') : StAt CA CS H' q x y :=
  let ⟨dx, p1, p2, e, a, b⟩ := h
  ⟨dx, p1, p2, s _ _ e, a.same s, b.same s⟩
theorem am_apart {CA D p q dx : Addr} {H : Hp} {t b : Int} {fs : List (Str × V)} (h : AmAt CA H p t b) (e : H q = some (.ins D dx fs)) (n : fs.lookup ("_top" : Str) = none) : p ≠ q := by
  rintro rfl
  obtain ⟨dz, h⟩ := h
  rw [h] at e
  cases e
  rw [am_top] at n
  cases n
theorem am_upd {CA D p q dx : Addr} {H : Hp} {t b : Int} {fs : List (Str × V)} {o : HO} (h : AmAt CA H p t b) (e : H q = some (.ins D dx fs)) (n : fs.lookup ("_top" : Str) = none) : AmAt CA (upd H q o) p t b := by
  have ne := am_apart h e n
  obtain ⟨dz, h⟩ := h
  exact ⟨dz, by rw [upd_ne ne]; exact h⟩
theorem isP_upd {CA D q dx : Addr} {H : Hp} {v : V} {t b : Int} {fs : List (Str × V)} {o : HO} (h : IsP CA H v t b) (e : H q = some (.ins D dx fs)) (n : fs.lookup ("_top" : Str) = none) : IsP CA (upd H q o) v t b := by
  rcases h with h | ⟨p, ev, h⟩
  · exact .inl h
  · exact .inr ⟨p, ev, am_upd h e n⟩
def B8 (x : F2) : Prop := Bd 8000 x.1 ∧ Bd 8000 x.2
def sp_Stretch_init_ (CA CS : Addr) : Sp := fun vs H Q _ => ∃ (q dx : Addr) (v1 v2 : V) (x y : F2), vs = [.ref q, v1, v2] ∧ IsP CA H v1 x.1 x.2 ∧ IsP CA H v2 y.1 y.2 ∧ B8 x ∧ B8 y ∧ fLt y.1 y.2 x.1 x.2 = false ∧ H q = some (.ins CS dx []) ∧
  ∀ H' p1 p2, (∀ z o, z ≠ q → H z = some o → H' z = some o) → H' q = some (.ins CS dx (st p1 p2)) → AmAt CA H' p1 x.1 x.2 → AmAt CA H' p2 y.1 y.2 → Q .non H'
/-- what is given: a Stretch -/
theorem made_st {CA C : Addr} {H : Hp} {q dx : Addr} {H' : Hp} {x y : F2} {p1 p2 : Addr} (h1 : H q = none) (h2 : H dx = none) (ne : dx ≠ q) (k : ∀ z o, z ≠ q → (upd (upd H dx (.own q)) q (.ins C dx [])) z = some o → H' z = some o) (e : H' q = some (.ins C dx (st p1 p2)))
    (a : AmAt CA H' p1 x.1 x.2) (b : AmAt CA H' p2 y.1 y.2) : Same H H' ∧ StAt CA C H' q x y := by
  refine ⟨fun z o hz => k z o (ne_of_none hz h1) ?_, dx, p1, p2, e, a, b⟩
  rw [upd_ne (ne_of_none hz h1), upd_ne (ne_of_none hz h2)]
  exact hz
section
variable {P : Program} {w : World} {K : PySem.W.Frag} {mg : Str → Option Value} {base : Heap} {a : Ad}
theorem ok_Stretch_init_ (T : Txt K mg a) : FnOk P w K mg base CX0 5 a.f_Stretch_init_ a.d_Stretch_init_ ["self", "low", "high"] (sp_Stretch_init_ a.c_Amount a.c_Stretch) := by
  refine T.F_Stretch_init_.ok sc_Stretch_init_ (fun vs H Q E h => ?_) (fun cdv A outer s H vs Q E hr h => ?_)
  · obtain ⟨q, dx, v1, v2, x, y, rfl, _⟩ := h
    rfl
  · obtain ⟨q, dx, v1, v2, x, y, rfl, i1, i2, bx, by', hlt, hq, k⟩ := h
    refine ⟨_, (pss_cons (ps_fldK (K := K) rfl (pv 0) (pe_call (ok_amount_of T) (hr.mono (by decide)) (by rfl) T.m_amount_of T.F_amount_of.kp (b_amount_of T) .nil pass0 (pa_cons (pv 1) pa_nil)) rfl)
 (pss_cons (ps_fldK (K := K) rfl (pv 0) (pe_call (ok_amount_of T) (hr.mono (by decide)) (by rfl) T.m_amount_of T.F_amount_of.kp (b_amount_of T) .nil pass0 (pa_cons (pv 2) pa_nil)) rfl)
 (pss_one (ps_if (pt_cmpR (op_ownCmp (n := 1) (C := a.c_Amount) (K := K) rfl (fun _ _ => rfl) T.cLt.at_ T.cLt.fn ((ok_Amount_lt_ T).raw (b_Amount_lt_ T) .nil) (hr.mono (by decide)) pass0) (pe_fldK (K := K) rfl (pv 0) rfl) (pe_fldK (K := K) rfl (pv 0) rfl) (nomark _)) (pss_one ps_never) pss_nil)))), ?_⟩
    refine ⟨_, rfl, v1, _, _, rfl, i1, bx.1, fun H1 p1 s1 m1 => ?_⟩
    refine ⟨_, rfl, q, _, dx, _, rfl, s1 _ _ hq, T.clS, T.nL, (by show 0 < 1000; decide), ?_⟩
    have hq1 := s1 _ _ hq
    have m1' := am_upd (o := .ins a.c_Stretch dx (putF "_low" (.ref p1) [])) m1 hq1 rfl
    have i2' := isP_upd (o := .ins a.c_Stretch dx (putF "_low" (.ref p1) [])) (i2.same s1) hq1 rfl
    refine ⟨_, rfl, v2, _, _, rfl, i2', by'.1, fun H3 p2 s3 m3 => ?_⟩
    have hq3 := s3 _ _ (upd_same (H := H1) (a := q) (o := .ins a.c_Stretch dx (putF "_low" (.ref p1) [])))
    have nt : (putF ("_low" : Str) (V.ref p1) []).lookup ("_top" : Str) = none := by
      rw [lookup_putF, if_neg (fun e => tl_ e.symm)]
      all_goals rfl
    refine ⟨_, rfl, q, _, dx, _, rfl, hq3, T.clS, T.nH, (by show 1 < 1000; decide), ?_⟩
    have m1s := am_upd (o := .ins a.c_Stretch dx (st p1 p2)) (m1'.same s3) hq3 nt
    have m3s := am_upd (o := .ins a.c_Stretch dx (st p1 p2)) m3 hq3 nt
    have m1t := m1s
    have m3t := m3s
    obtain ⟨d1, e1⟩ := m1s
    obtain ⟨d3, e3⟩ := m3s
    refine ⟨_, rfl, q, _, dx, _, _, rfl, upd_same, T.clS, T.nH, st_high _ _, ?_⟩
    refine ⟨_, rfl, q, _, dx, _, _, rfl, upd_same, T.clS, T.nL, st_low _ _, ?_⟩
    refine ⟨p2, d3, _, _, rfl, e3, T.I.ty T.cl e1, Inst.nSelf, ?_⟩
    refine ⟨p2, p1, _, _, _, _, rfl, m3t, m1t, by'.1, by'.2, bx.1, bx.2, ?_⟩
    rw [hlt]
    refine ⟨false, rfl, iteF (k _ p1 p2 (fun z o n e => ?_) upd_same m1t m3t)⟩
    rw [upd_ne n]
    refine s3 _ _ ?_
    rw [upd_ne n]
    exact s1 _ _ e
end
/-- a getter of a stretch -/
def sp_ends (CA CS : Addr) (f : F2 → F2 → F2) : Sp := fun vs H Q _ => ∃ q x y, vs = [.ref q] ∧ StAt CA CS H q x y ∧ ∀ p, AmAt CA H p (f x y).1 (f x y).2 → Q (.ref p) H
def sgl (x y : F2) : Bool := decide (x.1 = y.1) && decide (x.2 = y.2)
def sp_single (CA CS : Addr) : Sp := fun vs H Q _ => ∃ q x y, vs = [.ref q] ∧ StAt CA CS H q x y ∧ Q (.bl (sgl x y)) H
section
variable {P : Program} {w : World} {K : PySem.W.Frag} {mg : Str → Option Value} {base : Heap} {a : Ad}
theorem ok_Stretchlow (T : Txt K mg a) : FnOk P w K mg base CX0 1 a.f_Stretchlow a.d_Stretchlow ["self"] (sp_ends a.c_Amount a.c_Stretch fun x _ => x) := by
  refine T.F_Stretchlow.ok sc_Stretchlow (fun vs H Q E h => ?_) (fun cdv A outer s H vs Q E hr h => ?_)
  · obtain ⟨q, x, y, rfl, _⟩ := h
    rfl
  · obtain ⟨q, x, y, rfl, ⟨dx, p1, p2, e, m1, m2⟩, k⟩ := h
    refine ⟨_, (pss_one (ps_ret (pe_fldK (K := K) rfl (pv 0) rfl))), ?_⟩
    exact ⟨_, rfl, q, _, dx, _, _, rfl, e, T.clS, T.nL, st_low _ _, k _ m1⟩
theorem ok_Stretchhigh (T : Txt K mg a) : FnOk P w K mg base CX0 1 a.f_Stretchhigh a.d_Stretchhigh ["self"] (sp_ends a.c_Amount a.c_Stretch fun _ y => y) := by
  refine T.F_Stretchhigh.ok sc_Stretchhigh (fun vs H Q E h => ?_) (fun cdv A outer s H vs Q E hr h => ?_)
  · obtain ⟨q, x, y, rfl, _⟩ := h
    rfl
  · obtain ⟨q, x, y, rfl, ⟨dx, p1, p2, e, m1, m2⟩, k⟩ := h
    refine ⟨_, (pss_one (ps_ret (pe_fldK (K := K) rfl (pv 0) rfl))), ?_⟩
    exact ⟨_, rfl, q, _, dx, _, _, rfl, e, T.clS, T.nH, st_high _ _, k _ m2⟩
theorem ok_Stretchis_single (T : Txt K mg a) : FnOk P w K mg base CX0 2 a.f_Stretchis_single a.d_Stretchis_single ["self"] (sp_single a.c_Amount a.c_Stretch) := by
  refine T.F_Stretchis_single.ok sc_Stretchis_single (fun vs H Q E h => ?_) (fun cdv A outer s H vs Q E hr h => ?_)
  · obtain ⟨q, x, y, rfl, _⟩ := h
    rfl
  · obtain ⟨q, x, y, rfl, ⟨dx, p1, p2, e, m1, m2⟩, k⟩ := h
    refine ⟨_, (pss_one (ps_ret (pe_cmpR (op_ownCmp (n := 1) (C := a.c_Amount) (K := K) rfl (fun _ _ => rfl) T.cEq.at_ T.cEq.fn ((ok_Amount_eq_ T).raw (b_Amount_eq_ T) .nil) (hr.mono (by decide)) pass0) (pe_fldK (K := K) rfl (pv 0) rfl) (pe_fldK (K := K) rfl (pv 0) rfl) (nomark _)))), ?_⟩
    have ⟨d1, e1⟩ := m1
    have ⟨d2, e2⟩ := m2
    refine ⟨_, rfl, q, _, dx, _, _, rfl, e, T.clS, T.nL, st_low _ _, ?_⟩
    refine ⟨_, rfl, q, _, dx, _, _, rfl, e, T.clS, T.nH, st_high _ _, ?_⟩
    exact ⟨p1, d1, _, _, rfl, e1, T.I.ty T.cl e2, Inst.nSelf, p1, p2, _, _, _, _, rfl, m1, m2, k⟩
/-- the texts -/
def stS (x y : F2) : Str := if sgl x y then "[" ++ txS x.1 x.2 ++ "]" else "(" ++ txS x.1 x.2 ++ ", " ++ txS y.1 y.2 ++ ")"
def stR (x y : F2) : Str := "Stretch(" ++ txR x.1 x.2 ++ ", " ++ txR y.1 y.2 ++ ")"
def B18 (x : F2) : Prop := Bd 1800 x.1 ∧ Bd 1800 x.2
def sp_stx (CA CS : Addr) (f : F2 → F2 → Str) : Sp := fun vs H Q _ => ∃ q x y, vs = [.ref q] ∧ StAt CA CS H q x y ∧ B18 x ∧ B18 y ∧ ∀ H', Same H H' → Q (.str (f x y)) H'
theorem txR_len {t b : Int} (h1 : Bd 1800 t) (h2 : Bd 1800 b) : (txR t b).length ≤ 1300 := by
  have k1 := itS_len h1
  have k2 := itS_len h2
  unfold txR
  rw [strLen_append, strLen_append, strLen_append, strLen_append]
  show 7 + _ + 2 + _ + 1 ≤ _
  omega
theorem txS_len {t b : Int} (h1 : Bd 1800 t) (h2 : Bd 1800 b) : (txS t b).length ≤ 1300 := by
  have k1 := itS_len h1
  have k2 := itS_len h2
  unfold txS
  split
  · omega
  · rw [strLen_append, strLen_append]
    show _ + 1 + _ ≤ _
    omega
theorem ok_Stretch_repr_ (T : Txt K mg a) : FnOk P w K mg base CX0 5 a.f_Stretch_repr_ a.d_Stretch_repr_ ["self"] (sp_stx a.c_Amount a.c_Stretch stR) := by
  refine T.F_Stretch_repr_.ok sc_Stretch_repr_ (fun vs H Q E h => ?_) (fun cdv A outer s H vs Q E hr h => ?_)
  · obtain ⟨q, x, y, rfl, _⟩ := h
    rfl
  · obtain ⟨q, x, y, rfl, ⟨dx, p1, p2, e, m1, m2⟩, b1, b2, k⟩ := h
    refine ⟨_, (pss_one (ps_ret (pe_joined (.cons pe_str (.cons (pe_fmtOwnR (C := a.c_Amount) (E := E0) T.cRe.at_ T.cRe.fn ((ok_Amount_repr_ T).raw (b_Amount_repr_ T) .nil) (hr.mono (by decide)) pass0 (pe_fldK (K := K) rfl (pv 0) rfl)) (.cons pe_str (.cons (pe_fmtOwnR (C := a.c_Amount) (E := E0) T.cRe.at_ T.cRe.fn ((ok_Amount_repr_ T).raw (b_Amount_repr_ T) .nil) (hr.mono (by decide)) pass0 (pe_fldK (K := K) rfl (pv 0) rfl)) (.cons pe_str .nil)))))))), ?_⟩
    have k1 := txR_len b1.1 b1.2
    have k2 := txR_len b2.1 b2.2
    have l3 : ("Stretch(" : Str).length = 8 := by decide +kernel
    have l4 : (", " : Str).length = 2 := by decide +kernel
    have l5 : (")" : Str).length = 1 := by decide +kernel
    have l0 : (Str.empty).length = 0 := rfl
    have ⟨d1, e1⟩ := m1
    refine ⟨_, rfl, sz, _, rfl, q, _, dx, _, _, rfl, e, T.clS, T.nL, st_low _ _, p1, d1, _, rfl, e1, p1, _, _, rfl, m1, b1.1, b1.2, fun H1 s1 => ⟨_, rfl, szle (by omega), _, rfl, ?_, _, rfl, ?_, ?_⟩⟩
    · rw [Str.length_append, Str.length_append]
      exact szle (by omega)
    · rw [Str.length_append, Str.length_append, Str.length_append]
      exact szle (by omega)
    have m2' := m2.same s1
    have ⟨d2, e2⟩ := m2'
    refine ⟨_, rfl, q, _, dx, _, _, rfl, s1 _ _ e, T.clS, T.nH, st_high _ _, p2, d2, _, rfl, e2, p2, _, _, rfl, m2', b2.1, b2.2, fun H2 s2 => ⟨_, rfl, szle (by omega), _, rfl, ?_, _, rfl, ?_, ?_⟩⟩
    · rw [Str.length_append, Str.length_append, Str.length_append, Str.length_append]
      exact szle (by omega)
    · rw [Str.length_append, Str.length_append, Str.length_append, Str.length_append, Str.length_append]
      exact szle (by omega)
    · have q := k _ (s1.trans s2)
      unfold stR at q
      rw [← empty_add ("Stretch(" : Str)] at q
      exact q
theorem ok_Stretch_str_ (T : Txt K mg a) : FnOk P w K mg base CX0 5 a.f_Stretch_str_ a.d_Stretch_str_ ["self"] (sp_stx a.c_Amount a.c_Stretch stS) := by
  refine T.F_Stretch_str_.ok sc_Stretch_str_ (fun vs H Q E h => ?_) (fun cdv A outer s H vs Q E hr h => ?_)
  · obtain ⟨q, x, y, rfl, _⟩ := h
    rfl
  · obtain ⟨q, x, y, rfl, ⟨dx, p1, p2, e, m1, m2⟩, b1, b2, k⟩ := h
    refine ⟨_, (pss_cons (ps_if (pt_val (pe_prop (pv 0) T.clS T.p_is_single (ok_Stretchis_single T) (hr.mono (by decide)) (b_Stretchis_single T) .nil pass0 rfl)) (pss_one (ps_ret (pe_joined (.cons pe_str (.cons (pe_fmtOwn (C := a.c_Amount) (E := E0) T.fmA T.I.cm T.cSt.at_ T.cSt.fn ((ok_Amount_str_ T).raw (b_Amount_str_ T) .nil) (hr.mono (by decide)) pass0 (pe_fldK (K := K) rfl (pv 0) rfl)) (.cons pe_str .nil)))))) pss_nil)
 (pss_one (ps_ret (pe_joined (.cons pe_str (.cons (pe_fmtOwn (C := a.c_Amount) (E := E0) T.fmA T.I.cm T.cSt.at_ T.cSt.fn ((ok_Amount_str_ T).raw (b_Amount_str_ T) .nil) (hr.mono (by decide)) pass0 (pe_fldK (K := K) rfl (pv 0) rfl)) (.cons pe_str (.cons (pe_fmtOwn (C := a.c_Amount) (E := E0) T.fmA T.I.cm T.cSt.at_ T.cSt.fn ((ok_Amount_str_ T).raw (b_Amount_str_ T) .nil) (hr.mono (by decide)) pass0 (pe_fldK (K := K) rfl (pv 0) rfl)) (.cons pe_str .nil))))))))), ?_⟩
    have k1 := txS_len b1.1 b1.2
    have k2 := txS_len b2.1 b2.2
    have l3 : ("[" : Str).length = 1 := by decide +kernel
    have l3' : ("(" : Str).length = 1 := by decide +kernel
    have l4 : (", " : Str).length = 2 := by decide +kernel
    have l5 : ("]" : Str).length = 1 := by decide +kernel
    have l5' : (")" : Str).length = 1 := by decide +kernel
    have l0 : (Str.empty).length = 0 := rfl
    have ⟨d1, e1⟩ := m1
    refine ⟨_, rfl, q, dx, _, rfl, e, q, x, y, rfl, ⟨dx, p1, p2, e, m1, m2⟩, _, rfl, ite2 (fun h1 => ?_) (fun h1 => ?_)⟩
    · refine ⟨_, rfl, sz, _, rfl, q, _, dx, _, _, rfl, e, T.clS, T.nL, st_low _ _, p1, d1, _, rfl, e1, p1, _, _, rfl, m1, b1.1, b1.2, fun H1 s1 => ⟨_, rfl, _, rfl, ?_, _, rfl, ?_, ?_⟩⟩
      · rw [Str.length_append, Str.length_append]
        exact szle (by omega)
      · rw [Str.length_append, Str.length_append, Str.length_append]
        exact szle (by omega)
      · have q := k _ s1
        unfold stS at q
        rw [if_pos h1, ← empty_add ("[" : Str)] at q
        exact q
    · refine ⟨_, rfl, sz, _, rfl, q, _, dx, _, _, rfl, e, T.clS, T.nL, st_low _ _, p1, d1, _, rfl, e1, p1, _, _, rfl, m1, b1.1, b1.2, fun H1 s1 => ⟨_, rfl, _, rfl, ?_, _, rfl, ?_, ?_⟩⟩
      · rw [Str.length_append, Str.length_append]
        exact szle (by omega)
      · rw [Str.length_append, Str.length_append, Str.length_append]
        exact szle (by omega)
      have m2' := m2.same s1
      have ⟨d2, e2⟩ := m2'
      refine ⟨_, rfl, q, _, dx, _, _, rfl, s1 _ _ e, T.clS, T.nH, st_high _ _, p2, d2, _, rfl, e2, p2, _, _, rfl, m2', b2.1, b2.2, fun H2 s2 => ⟨_, rfl, _, rfl, ?_, _, rfl, ?_, ?_⟩⟩
      · rw [Str.length_append, Str.length_append, Str.length_append, Str.length_append]
        exact szle (by omega)
      · rw [Str.length_append, Str.length_append, Str.length_append, Str.length_append, Str.length_append]
        exact szle (by omega)
      · have q := k _ (s1.trans s2)
        unfold stS at q
        rw [if_neg h1, ← empty_add ("(" : Str)] at q
        exact q
end
end K48

set_option Elab.async false
set_option linter.all false
set_option maxRecDepth 100000
set_option maxHeartbeats 4000000
namespace K48
open PySem L2 Lb
open C8 (pss_cut)
/-- no stretch, as isinstance sees it -/
def NotS (K : PySem.W.Frag) (CS : Addr) (H : Hp) (v : V) : Prop := ∃ t, TyX K H v t ∧ PySem.W.kitOne K t (.ref CS) = some false
def both (x y x' y' : F2) : Bool := sgl x x' && sgl y y'
def sp_Stretch_eq_ (K : PySem.W.Frag) (CA CS : Addr) : Sp := fun vs H Q _ => ∃ (p : Addr) (x y : F2) (v : V), vs = [.ref p, v] ∧ StAt CA CS H p x y ∧
  ((∃ (q : Addr) (x' y' : F2), v = .ref q ∧ StAt CA CS H q x' y' ∧ Q (.bl (both x y x' y')) H) ∨ (NotS K CS H v ∧ Q (.bl false) H))
def lt2 (x y : F2) : Bool := fLt x.1 x.2 y.1 y.2
/-- is z within the stretch from x to y -/
def inb (x y z : F2) : Bool := if sgl x y then sgl z x else lt2 x z && lt2 z y
def sp_Stretch_contains_ (CA CS : Addr) : Sp := fun vs H Q _ => ∃ (p : Addr) (x y : F2) (v : V), vs = [.ref p, v] ∧ StAt CA CS H p x y ∧ B8 x ∧ B8 y ∧
  ((∃ z : F2, IsP CA H v z.1 z.2 ∧ B8 z ∧ ∀ H', Same H H' → Q (.bl (inb x y z)) H') ∨ (OddN CS H v ∧ Q (.bl false) H))
def B3 (x : F2) : Prop := Bd 3000 x.1 ∧ Bd 3000 x.2
def addF (x y : F2) : F2 := rd (x.1 * y.2 + y.1 * x.2) (x.2 * y.2)
def negF (x : F2) : F2 := rd (-x.1) x.2
def sp_Stretchplus (CA CS : Addr) : Sp := fun vs H Q _ => ∃ (p q : Addr) (x y x' y' : F2), vs = [.ref p, .ref q] ∧ StAt CA CS H p x y ∧ StAt CA CS H q x' y' ∧ B3 x ∧ B3 y ∧ B3 x' ∧ B3 y' ∧ x.2 * x'.2 ≠ 0 ∧ y.2 * y'.2 ≠ 0 ∧
  B8 (addF x x') ∧ B8 (addF y y') ∧ lt2 (addF y y') (addF x x') = false ∧ ∀ H' r, Same H H' → StAt CA CS H' r (addF x x') (addF y y') → Q (.ref r) H'
def sp_Stretchturned (CA CS : Addr) : Sp := fun vs H Q _ => ∃ (p : Addr) (x y : F2), vs = [.ref p] ∧ StAt CA CS H p x y ∧ B3 x ∧ B3 y ∧ x.2 ≠ 0 ∧ y.2 ≠ 0 ∧
  B8 (negF x) ∧ B8 (negF y) ∧ lt2 (negF x) (negF y) = false ∧ ∀ H' r, Same H H' → StAt CA CS H' r (negF y) (negF x) → Q (.ref r) H'
theorem same_new {H : Hp} {x dx : Addr} {o1 o2 : HO} (h1 : H x = none) (h2 : H dx = none) : Same H (upd (upd H dx o1) x o2) := fun b o e => by
  rw [upd_ne (ne_of_none e h1), upd_ne (ne_of_none e h2)]
  exact e
section
variable {P : Program} {w : World} {K : PySem.W.Frag} {mg : Str → Option Value} {base : Heap} {a : Ad}
theorem ok_Stretch_eq_ (T : Txt K mg a) : FnOk P w K mg base CX0 2 a.f_Stretch_eq_ a.d_Stretch_eq_ ["self", "other"] (sp_Stretch_eq_ K a.c_Amount a.c_Stretch) := by
  refine T.F_Stretch_eq_.ok sc_Stretch_eq_ (fun vs H Q E h => ?_) (fun cdv A outer s H vs Q E hr h => ?_)
  · obtain ⟨p, x, y, v, rfl, _⟩ := h
    rfl
  · obtain ⟨p, x, y, v, rfl, ⟨dx, p1, p2, e, m1, m2⟩, h⟩ := h
    refine ⟨_, (pss_one (ps_ret (pe_and (pe_callB (call_isiK' (K := K) rfl) (by rfl) T.b_isinstance (by decide +kernel) (pa_cons (pv 1) (pa_cons (pe_glob (v := .ref a.c_Stretch) rfl T.mS rfl) pa_nil))) (pe_and (pe_cmpR (op_ownCmp (n := 1) (C := a.c_Amount) (K := K) rfl (fun _ _ => rfl) T.cEq.at_ T.cEq.fn ((ok_Amount_eq_ T).raw (b_Amount_eq_ T) .nil) (hr.mono (by decide)) pass0) (pe_fldK (K := K) rfl (pv 0) rfl) (pe_fldK (K := K) rfl (pv 1) rfl) (nomark _)) (pe_one (pe_cmpR (op_ownCmp (n := 1) (C := a.c_Amount) (K := K) rfl (fun _ _ => rfl) T.cEq.at_ T.cEq.fn ((ok_Amount_eq_ T).raw (b_Amount_eq_ T) .nil) (hr.mono (by decide)) pass0) (pe_fldK (K := K) rfl (pv 0) rfl) (pe_fldK (K := K) rfl (pv 1) rfl) (nomark _))))))), ?_⟩
    rcases h with ⟨q, x', y', rfl, ⟨dx', q1, q2, e', n1, n2⟩, k⟩ | ⟨⟨t, ty, kt⟩, k⟩
    · have ⟨d1, e1⟩ := m1
      have ⟨d2, e2⟩ := m2
      have ⟨d3, e3⟩ := n1
      have ⟨d4, e4⟩ := n2
      refine ⟨_, rfl, _, _, _, _, true, rfl, .own _, .base (T.IS.ty T.clS e'), Inst.kSelf, true, rfl, iteT ?_⟩
      refine ⟨_, rfl, p, _, dx, _, _, rfl, e, T.clS, T.nL, st_low _ _, _, rfl, q, _, dx', _, _, rfl, e', T.clS, T.nL, st_low _ _, ?_⟩
      refine ⟨p1, d1, _, _, rfl, e1, T.I.ty T.cl e3, Inst.nSelf, p1, q1, _, _, _, _, rfl, m1, n1, _, rfl, ite2 (fun h1 => ?_) (fun h1 => ?_)⟩
      · refine ⟨_, rfl, p, _, dx, _, _, rfl, e, T.clS, T.nH, st_high _ _, _, rfl, q, _, dx', _, _, rfl, e', T.clS, T.nH, st_high _ _, ?_⟩
        refine ⟨p2, d2, _, _, rfl, e2, T.I.ty T.cl e4, Inst.nSelf, p2, q2, _, _, _, _, rfl, m2, n2, ?_⟩
        have h1 : sgl x x' = true := h1
        unfold both at k
        rw [h1, Bool.true_and] at k
        exact k
      · have h1 : sgl x x' = false := Bool.eq_false_iff.mpr h1
        unfold both at k
        rw [h1, Bool.false_and] at k
        exact k
    · exact ⟨_, rfl, _, _, _, _, false, rfl, .own _, ty, kt, false, rfl, iteF k⟩
theorem ok_Stretch_contains_ (T : Txt K mg a) : FnOk P w K mg base CX0 5 a.f_Stretch_contains_ a.d_Stretch_contains_ ["self", "value"] (sp_Stretch_contains_ a.c_Amount a.c_Stretch) := by
  refine T.F_Stretch_contains_.ok sc_Stretch_contains_ (fun vs H Q E h => ?_) (fun cdv A outer s H vs Q E hr h => ?_)
  · obtain ⟨p, x, y, v, rfl, _⟩ := h
    rfl
  · obtain ⟨p, x, y, v, rfl, hs, bx, by', h⟩ := h
    refine ⟨_, (pss_cons (ps_if (pt_not (pt_val (pe_call (ok_is_amountX T) (hr.mono (by decide)) (by rfl) T.m_is_amount T.F_is_amount.kp (b_is_amount T) .nil pass0 (pa_cons (pv 1) pa_nil)))) (pss_one (ps_ret pe_bl)) pss_nil)
 (pss_cons (ps_set (i := 2) sc_Stretch_contains_.nd rfl (by first | exact Or.inl rfl | exact Or.inr rfl) (pe_call (ok_amount_of T) (hr.mono (by decide)) (by rfl) T.m_amount_of T.F_amount_of.kp (b_amount_of T) .nil pass0 (pa_cons (pv 1) pa_nil)))
 (pss_cons (ps_if (pt_val (pe_prop (pv 0) T.clS T.p_is_single (ok_Stretchis_single T) (hr.mono (by decide)) (b_Stretchis_single T) .nil pass0 rfl)) (pss_one (ps_ret (pe_cmpR (op_ownCmp (n := 1) (C := a.c_Amount) (K := K) rfl (fun _ _ => rfl) T.cEq.at_ T.cEq.fn ((ok_Amount_eq_ T).raw (b_Amount_eq_ T) .nil) (hr.mono (by decide)) pass0) (pv 2) (pe_fldK (K := K) rfl (pv 0) rfl) (nomark _)))) pss_nil)
 (pss_one (ps_ret (pe_and (pe_cmpR (op_ownCmp (n := 1) (C := a.c_Amount) (K := K) rfl (fun _ _ => rfl) T.cLt.at_ T.cLt.fn ((ok_Amount_lt_ T).raw (b_Amount_lt_ T) .nil) (hr.mono (by decide)) pass0) (pe_fldK (K := K) rfl (pv 0) rfl) (pv 2) (nomark _)) (pe_one (pe_cmpR (op_ownCmp (n := 1) (C := a.c_Amount) (K := K) rfl (fun _ _ => rfl) T.cLt.at_ T.cLt.fn ((ok_Amount_lt_ T).raw (b_Amount_lt_ T) .nil) (hr.mono (by decide)) pass0) (pv 2) (pe_fldK (K := K) rfl (pv 0) rfl) (nomark _))))))))), ?_⟩
    rcases h with ⟨z, iz, bz, k⟩ | ⟨ho, k⟩
    · refine ⟨_, rfl, v, rfl, .inl ⟨_, _, iz, true, rfl, iteF ?_⟩⟩
      refine ⟨_, rfl, v, _, _, rfl, iz, bz.1, fun H1 r s1 mr => ?_⟩
      have hs1 := hs.same s1
      obtain ⟨dx, p1, p2, e, m1, m2⟩ := hs1
      have ⟨d1, e1⟩ := m1
      have ⟨d2, e2⟩ := m2
      have ⟨d3, e3⟩ := mr
      have k1 := k _ s1
      unfold inb at k1
      refine ⟨_, rfl, p, dx, _, rfl, e, p, x, y, rfl, ⟨dx, p1, p2, e, m1, m2⟩, _, rfl, ite2 (fun h1 => ?_) (fun h1 => ?_)⟩
      · rw [if_pos h1] at k1
        refine ⟨_, rfl, _, rfl, p, _, dx, _, _, rfl, e, T.clS, T.nL, st_low _ _, ?_⟩
        exact ⟨r, d3, _, _, rfl, e3, T.I.ty T.cl e1, Inst.nSelf, r, p1, _, _, _, _, rfl, mr, m1, k1⟩
      · rw [if_neg h1] at k1
        refine ⟨_, rfl, p, _, dx, _, _, rfl, e, T.clS, T.nL, st_low _ _, _, rfl, ?_⟩
        refine ⟨p1, d1, _, _, rfl, e1, T.I.ty T.cl e3, Inst.nSelf, p1, r, _, _, _, _, rfl, m1, mr, bx.1, bx.2, bz.1, bz.2, _, rfl, ite2 (fun h2 => ?_) (fun h2 => ?_)⟩
        · refine ⟨_, rfl, _, rfl, p, _, dx, _, _, rfl, e, T.clS, T.nH, st_high _ _, ?_⟩
          refine ⟨r, d3, _, _, rfl, e3, T.I.ty T.cl e2, Inst.nSelf, r, p2, _, _, _, _, rfl, mr, m2, bz.1, bz.2, by'.1, by'.2, ?_⟩
          rw [show lt2 x z = true from h2, Bool.true_and] at k1
          exact k1
        · rw [show lt2 x z = false from Bool.eq_false_iff.mpr h2, Bool.false_and] at k1
          exact k1
    · exact ⟨_, rfl, v, rfl, .inr ⟨ho, false, rfl, iteT k⟩⟩
theorem ok_Stretchplus (T : Txt K mg a) : FnOk P w K mg base CX0 7 a.f_Stretchplus a.d_Stretchplus ["self", "other"] (sp_Stretchplus a.c_Amount a.c_Stretch) := by
  refine T.F_Stretchplus.ok sc_Stretchplus (fun vs H Q E h => ?_) (fun cdv A outer s H vs Q E hr h => ?_)
  · obtain ⟨p, q, x, y, x', y', rfl, _⟩ := h
    rfl
  · obtain ⟨p, q, x, y, x', y', rfl, ⟨dx, p1, p2, e, m1, m2⟩, ⟨dx', q1, q2, e', n1, n2⟩, bx, by', bx', by'', z1, z2, b1, b2, hlt, k⟩ := h
    refine ⟨_, (pss_one (ps_ret (pe_make T.mkS (ok_Stretch_init_ T) (hr.mono (by decide)) (by rfl) T.mS (b_Stretch_init_ T) .nil pass0 (pa_cons (pe_op (op_ownBin (K := K) (E := E0) rfl T.oAdd ((ok_Amount_add_ T).raw (b_Amount_add_ T) .nil) (hr.mono (by decide))) (pe_fldK (K := K) rfl (pv 0) rfl) (pe_fldK (K := K) rfl (pv 1) rfl)) (pa_cons (pe_op (op_ownBin (K := K) (E := E0) rfl T.oAdd ((ok_Amount_add_ T).raw (b_Amount_add_ T) .nil) (hr.mono (by decide))) (pe_fldK (K := K) rfl (pv 0) rfl) (pe_fldK (K := K) rfl (pv 1) rfl)) pa_nil))))), ?_⟩
    have ⟨d1, e1⟩ := m1
    have ⟨d3, e3⟩ := n1
    refine ⟨_, rfl, p, _, dx, _, _, rfl, e, T.clS, T.nL, st_low _ _, _, rfl, q, _, dx', _, _, rfl, e', T.clS, T.nL, st_low _ _, ?_⟩
    refine ⟨p1, d1, _, rfl, e1, .inr ⟨q1, d3, _, rfl, e3⟩, p1, .ref q1, x.1, x.2, x'.1, x'.2, rfl, m1, .inr ⟨q1, rfl, n1⟩, bx.1, bx.2, bx'.1, bx'.2, z1, fun H1 r s1 mr => ?_⟩
    have m2' := m2.same s1
    have n2' := n2.same s1
    have ⟨d2, e2⟩ := m2'
    have ⟨d4, e4⟩ := n2'
    refine ⟨_, rfl, p, _, dx, _, _, rfl, s1 _ _ e, T.clS, T.nH, st_high _ _, _, rfl, q, _, dx', _, _, rfl, s1 _ _ e', T.clS, T.nH, st_high _ _, ?_⟩
    refine ⟨p2, d2, _, rfl, e2, .inr ⟨q2, d4, _, rfl, e4⟩, p2, .ref q2, y.1, y.2, y'.1, y'.2, rfl, m2', .inr ⟨q2, rfl, n2'⟩, by'.1, by'.2, by''.1, by''.2, z2, fun H2 r2 s2 mr2 => ?_⟩
    refine fun x0 dz hx hdx ne => ⟨x0, dz, .ref r, .ref r2, addF x x', addF y y', rfl, .inr ⟨r, rfl, (mr.same s2).same (same_new hx hdx)⟩, .inr ⟨r2, rfl, mr2.same (same_new hx hdx)⟩, b1, b2, hlt, upd_same, fun H' r1 r3 kp eq a1 a2 => ⟨rfl, ?_⟩⟩
    obtain ⟨s, m⟩ := made_st hx hdx ne kp eq a1 a2
    exact k _ _ (s1.trans (s2.trans s)) m
theorem ok_Stretchturned (T : Txt K mg a) : FnOk P w K mg base CX0 7 a.f_Stretchturned a.d_Stretchturned ["self"] (sp_Stretchturned a.c_Amount a.c_Stretch) := by
  refine T.F_Stretchturned.ok sc_Stretchturned (fun vs H Q E h => ?_) (fun cdv A outer s H vs Q E hr h => ?_)
  · obtain ⟨p, x, y, rfl, _⟩ := h
    rfl
  · obtain ⟨p, x, y, rfl, ⟨dx, p1, p2, e, m1, m2⟩, bx, by', z1, z2, b1, b2, hlt, k⟩ := h
    refine ⟨_, (pss_one (ps_ret (pe_make T.mkS (ok_Stretch_init_ T) (hr.mono (by decide)) (by rfl) T.mS (b_Stretch_init_ T) .nil pass0 (pa_cons (pe_un (un_ownNeg (K := K) (E := E0) rfl T.cNg.at_ T.cNg.fn ((ok_Amount_neg_ T).raw (b_Amount_neg_ T) .nil) (hr.mono (by decide))) (pe_fldK (K := K) rfl (pv 0) rfl)) (pa_cons (pe_un (un_ownNeg (K := K) (E := E0) rfl T.cNg.at_ T.cNg.fn ((ok_Amount_neg_ T).raw (b_Amount_neg_ T) .nil) (hr.mono (by decide))) (pe_fldK (K := K) rfl (pv 0) rfl)) pa_nil))))), ?_⟩
    have ⟨d2, e2⟩ := m2
    refine ⟨_, rfl, p, _, dx, _, _, rfl, e, T.clS, T.nH, st_high _ _, p2, d2, _, rfl, e2, p2, y.1, y.2, rfl, m2, by'.1, by'.2, z2, fun H1 r s1 mr => ?_⟩
    have m1' := m1.same s1
    have ⟨d1, e1⟩ := m1'
    refine ⟨_, rfl, p, _, dx, _, _, rfl, s1 _ _ e, T.clS, T.nL, st_low _ _, p1, d1, _, rfl, e1, p1, x.1, x.2, rfl, m1', bx.1, bx.2, z1, fun H2 r2 s2 mr2 => ?_⟩
    refine fun x0 dz hx hdx ne => ⟨x0, dz, .ref r, .ref r2, negF y, negF x, rfl, .inr ⟨r, rfl, (mr.same s2).same (same_new hx hdx)⟩, .inr ⟨r2, rfl, mr2.same (same_new hx hdx)⟩, b2, b1, hlt, upd_same, fun H' r1 r3 kp eq a1 a2 => ⟨rfl, ?_⟩⟩
    obtain ⟨s, m⟩ := made_st hx hdx ne kp eq a1 a2
    exact k _ _ (s1.trans (s2.trans s)) m
end
end K48

set_option Elab.async false
set_option linter.all false
set_option maxRecDepth 100000
set_option maxHeartbeats 4000000
namespace K48
open PySem L2 Lb
open C8 (pss_cut)
/-- Stretch of what is refused: z is the value that is told -/
def sp_Stretch_init_X (CA CS CE : Addr) : Sp := fun vs H _ E => ∃ (q dx : Addr) (v1 v2 z : V), vs = [.ref q, v1, v2] ∧ H q = some (.ins CS dx []) ∧
  ((OddN CS H v1 ∧ v1 ≠ .ref q ∧ z = v1) ∨ ∃ x : F2, IsP CA H v1 x.1 x.2 ∧ B8 x ∧ ((OddN CS H v2 ∧ v2 ≠ .ref q ∧ z = v2) ∨ ∃ y : F2, IsP CA H v2 y.1 y.2 ∧ B8 y ∧ lt2 y x = true ∧ z = v2)) ∧
  ∀ H' d, (∀ b o, b ≠ q → H b = some o → H' b = some o) → H d = none → H' d = some (.xd [("value", z)]) → E (.ref CE) (some d) H'
theorem odd_upd {CS q dx : Addr} {H : Hp} {v : V} {fs : List (Str × V)} {o : HO} (h : OddN CS H v) (n : v ≠ .ref q) : OddN CS (upd H q o) v := by
  have up : ∀ {p : Addr} {u : HO}, (V.ref p) ≠ .ref q → H p = some u → upd H q o p = some u := fun n e => by
    rw [upd_ne (fun z => n (by rw [z]))]
    exact e
  cases h with
  | non => exact .non
  | bl x => exact .bl x
  | str x => exact .str x
  | lst e => exact .lst (up n e)
  | tup e => exact .tup (up n e)
  | dct e => exact .dct (up n e)
  | sch e => exact .sch (up n e)
section
variable {P : Program} {w : World} {K : PySem.W.Frag} {mg : Str → Option Value} {base : Heap} {a : Ad}
theorem ok_amount_ofB (T : Txt K mg a) : FnOk P w K mg base (L2.CX P w) 4 a.f_amount_of a.d_amount_of ["value"] (fun vs H Q E => sp_amount_of a.c_Amount vs H Q E ∨ sp_amount_ofX a.c_InvalidAmount a.c_Stretch vs H Q E) :=
  FnOk.either (FnOk.up (ok_amount_of T)) (ok_amount_ofX T)
theorem ok_Stretch_init_X (T : Txt K mg a) : FnOk P w K mg base (L2.CX P w) 5 a.f_Stretch_init_ a.d_Stretch_init_ ["self", "low", "high"] (sp_Stretch_init_X a.c_Amount a.c_Stretch a.c_InvalidAmount) := by
  refine T.F_Stretch_init_.okX sc_Stretch_init_ (fun vs H Q E h => ?_) (fun cdv A outer s H vs Q E hr h => ?_)
  · obtain ⟨q, dx, v1, v2, z, rfl, _⟩ := h
    rfl
  · obtain ⟨q, dx, v1, v2, z, rfl, hq, hz, k⟩ := h
    refine ⟨_, (pss_cons (ps_fldK (K := K) rfl (pv 0) (pe_call (E := E) (ok_amount_ofB T) (hr.mono (by decide)) (by rfl) T.m_amount_of T.F_amount_of.kp (b_amount_of T) .nil (passes_call (takes_of rfl rfl rfl rfl) fun _ _ _ _ h => h) (pa_cons (pv 1) pa_nil)) rfl)
 (pss_cons (ps_fldK (K := K) rfl (pv 0) (pe_call (E := E) (ok_amount_ofB T) (hr.mono (by decide)) (by rfl) T.m_amount_of T.F_amount_of.kp (b_amount_of T) .nil (passes_call (takes_of rfl rfl rfl rfl) fun _ _ _ _ h => h) (pa_cons (pv 2) pa_nil)) rfl)
 (pss_one (ps_if (pt_cmpR (op_ownCmp (n := 1) (C := a.c_Amount) (K := K) rfl (fun _ _ => rfl) T.cLt.at_ T.cLt.fn ((ok_Amount_lt_ T).raw (b_Amount_lt_ T) .nil) (hr.mono (by decide)) pass0) (pe_fldK (K := K) rfl (pv 0) rfl) (pe_fldK (K := K) rfl (pv 0) rfl) (nomark _)) (pss_one (ps_raise rfl (takes_of rfl rfl rfl rfl) (pmk_oex T.xInvalidAmount.ox T.xInvalidAmount.iC T.xInvalidAmount.tI (ok_InvalidAmount_init_ T) (hr.mono (by decide)) (b_InvalidAmount_init_ T) .nil pass0 (by rfl) T.xInvalidAmount.mC (pa_cons (pv 2) pa_nil)))) pss_nil)))), ?_⟩
    rcases hz with ⟨o1, n1, rfl⟩ | ⟨x, i1, bx, hz⟩
    · refine ⟨_, rfl, .inr ⟨z, rfl, o1, fun H' d s1 hd e => ?_⟩⟩
      exact k H' d (fun b o _ e => s1 b o e) hd e
    refine ⟨_, rfl, .inl ⟨v1, _, _, rfl, i1, bx.1, fun H1 p1 s1 m1 => ?_⟩⟩
    have hq1 := s1 _ _ hq
    refine ⟨_, rfl, q, _, dx, _, rfl, hq1, T.clS, T.nL, (by show 0 < 1000; decide), ?_⟩
    have m1' := am_upd (o := .ins a.c_Stretch dx (putF "_low" (.ref p1) [])) m1 hq1 rfl
    have st1 : ∀ b o, b ≠ q → H b = some o → (upd H1 q (.ins a.c_Stretch dx (putF "_low" (.ref p1) []))) b = some o := fun b o n e => by
      rw [upd_ne n]
      exact s1 _ _ e
    have nd : ∀ {H2 : Hp} {d : Addr}, Same (upd H1 q (.ins a.c_Stretch dx (putF "_low" (.ref p1) []))) H2 → H2 d = none → H d = none := fun {H2 d} s2 hd => by
      have h2 := s2.free hd
      have ne : d ≠ q := fun z => by rw [z, upd_same] at h2; cases h2
      rw [upd_ne ne] at h2
      exact s1.free h2
    rcases hz with ⟨o2, n2, rfl⟩ | ⟨y, i2, by', hlt, rfl⟩
    · refine ⟨_, rfl, .inr ⟨z, rfl, odd_upd (fs := []) (dx := dx) (o2.same s1) n2, fun H' d s2 hd e => ?_⟩⟩
      exact k H' d (fun b o n e => s2 b o (st1 b o n e)) (nd (Same.refl _) hd) e
    have i2' := isP_upd (o := .ins a.c_Stretch dx (putF "_low" (.ref p1) [])) (i2.same s1) hq1 rfl
    refine ⟨_, rfl, .inl ⟨z, _, _, rfl, i2', by'.1, fun H3 p2 s3 m3 => ?_⟩⟩
    have hq3 := s3 _ _ (upd_same (H := H1) (a := q) (o := .ins a.c_Stretch dx (putF "_low" (.ref p1) [])))
    have nt : (putF ("_low" : Str) (V.ref p1) []).lookup ("_top" : Str) = none := by
      rw [lookup_putF, if_neg (fun e => tl_ e.symm)]
      all_goals rfl
    refine ⟨_, rfl, q, _, dx, _, rfl, hq3, T.clS, T.nH, (by show 1 < 1000; decide), ?_⟩
    have m1s := am_upd (o := .ins a.c_Stretch dx (st p1 p2)) (m1'.same s3) hq3 nt
    have m3s := am_upd (o := .ins a.c_Stretch dx (st p1 p2)) m3 hq3 nt
    have m1t := m1s
    have m3t := m3s
    obtain ⟨d1, e1⟩ := m1s
    obtain ⟨d3, e3⟩ := m3s
    refine ⟨_, rfl, q, _, dx, _, _, rfl, upd_same, T.clS, T.nH, st_high _ _, ?_⟩
    refine ⟨_, rfl, q, _, dx, _, _, rfl, upd_same, T.clS, T.nL, st_low _ _, ?_⟩
    refine ⟨p2, d3, _, _, rfl, e3, T.I.ty T.cl e1, Inst.nSelf, ?_⟩
    refine ⟨p2, p1, _, _, _, _, rfl, m3t, m1t, by'.1, by'.2, bx.1, bx.2, true, ?_, iteT ?_⟩
    · exact congrArg V.bl hlt
    refine ⟨_, rfl, (show 1 ≤ 1000 by decide), fun q' hq' => ⟨q', z, rfl, upd_same, fun dx' hdx' ne' => ⟨rfl, exq_way hq' (fun H' d s4 hd e => k H' d (fun b o n e => s4 b o ?_) ?_ e) dx' hdx' ne'⟩⟩⟩
    · rw [upd_ne n]
      exact s3 _ _ (st1 b o n e)
    · have ne : d ≠ q := fun z => by rw [z, upd_same] at hd; cases hd
      rw [upd_ne ne] at hd
      exact nd s3 hd
end
end K48

set_option Elab.async false
set_option linter.all false
set_option maxRecDepth 100000
set_option maxHeartbeats 4000000
namespace K48
open PySem L2 Lb
/-! the pot: two ints, turned by each draw -/
def PotAt (H : Hp) (p : Addr) : Prop := ∃ a b : Int, H p = some (.lst [.int a, .int b]) ∧ 0 ≤ a ∧ 0 ≤ b ∧ b ≤ 2147483647
/-- all but p is kept -/
structure Mov (p : Addr) (H H' : Hp) : Prop where
  keep : ∀ b o, b ≠ p → H b = some o → H' b = some o
  pot : PotAt H' p
theorem Mov.trans {p : Addr} {H H1 H2 : Hp} (a : Mov p H H1) (b : Mov p H1 H2) : Mov p H H2 := ⟨fun c o n e => b.keep c o n (a.keep c o n e), b.pot⟩
theorem Mov.same {p : Addr} {H H1 H2 : Hp} (a : Mov p H H1) (b : Same H1 H2) : Mov p H H2 :=
  ⟨fun c o n e => b _ _ (a.keep c o n e), let ⟨x, y, e, r⟩ := a.pot; ⟨x, y, b _ _ e, r⟩⟩
theorem _root_.L2.Same.mov {p : Addr} {H H1 : Hp} (a : Same H H1) (q : PotAt H p) : Mov p H H1 :=
  ⟨fun c o _ e => a _ _ e, let ⟨x, y, e, r⟩ := q; ⟨x, y, a _ _ e, r⟩⟩
theorem _root_.L2.Same.pot {p : Addr} {H H1 : Hp} (a : Same H H1) (q : PotAt H p) : PotAt H1 p := let ⟨x, y, e, r⟩ := q; ⟨x, y, a _ _ e, r⟩
theorem Mov.refl {p : Addr} {H : Hp} (q : PotAt H p) : Mov p H H := ⟨fun _ _ _ e => e, q⟩
theorem Mov.tup {p b : Addr} {H H1 : Hp} {xs : List V} (a : Mov p H H1) (q : PotAt H p) (e : H b = some (.tup xs)) : H1 b = some (.tup xs) :=
  a.keep _ _ (let ⟨_, _, e', _⟩ := q; ne_of e e' (fun z => nomatch z)) e
theorem Mov.ins {p b C dx : Addr} {H H1 : Hp} {fs : List (Str × V)} (a : Mov p H H1) (q : PotAt H p) (e : H b = some (.ins C dx fs)) : H1 b = some (.ins C dx fs) :=
  a.keep _ _ (let ⟨_, _, e', _⟩ := q; ne_of e e' (fun z => nomatch z)) e
theorem Mov.free {p b : Addr} {H H1 : Hp} (a : Mov p H H1) (q : PotAt H p) (e : H1 b = none) : H b = none := by
  cases z : H b with
  | none => rfl
  | some o =>
    by_cases hb : b = p
    · subst hb
      obtain ⟨_, _, e', _⟩ := a.pot
      rw [e] at e'
      cases e'
    · rw [a.keep b o hb z] at e
      cases e
theorem SqL.mov {K : PySem.W.Frag} {p a : Addr} {H H1 : Hp} {xs : List V} (m : Mov p H H1) (n : a ≠ p) (h : SqL K H a xs) : SqL K H1 a xs := by
  rcases h with (h | ⟨o, h⟩) | h
  · exact .inl (.inl (m.keep _ _ n h))
  · exact .inl (.inr ⟨o, m.keep _ _ n h⟩)
  · exact .inr h
theorem Mov.ne {p l : Addr} {H H1 : Hp} (m : Mov p H H1) (h : H1 l = none) : l ≠ p := by
  obtain ⟨_, _, e, _⟩ := m.pot
  exact (ne_of_none e h).symm
def sp_pot (K : PySem.W.Frag) : Sp := fun vs H Q _ => ∃ (sc : Addr) (ns : List Int) (k : Nat), vs = [.ref sc, .int k] ∧ SqL K H sc (ns.map V.int) ∧ ns.length ≤ 63 ∧ k ≤ 1000 ∧
  ∀ H' p, Same H H' → H p = none → PotAt H' p → Q (.ref p) H'
def sp_draw : Sp := fun vs H Q _ => ∃ (p : Addr) (n : Int), vs = [.ref p, .int n] ∧ PotAt H p ∧ 0 < n ∧ Bd 200 n ∧
  ∀ H' d, Mov p H H' → 0 ≤ d → d < n → Q (.int d) H'
section
variable {P : Program} {w : World} {K : PySem.W.Frag} {mg : Str → Option Value} {base : Heap} {a : Ad}
theorem ok_pot (T : Txt K mg a) : FnOk P w K mg base CX0 1 a.f_pot a.d_pot ["_law_script", "_law_k"] (sp_pot K) := by
  refine T.F_pot.ok sc_pot (fun vs H Q E h => ?_) (fun cdv A outer s H vs Q E hr h => ?_)
  · obtain ⟨sc, ns, k, rfl, _⟩ := h
    rfl
  · obtain ⟨sc, ns, k, rfl, hS, hlen, hk, q⟩ := h
    have fin : ∀ c : Int, 0 ≤ c → ∀ p, H p = none → Q (.ref p) (upd H p (.lst [.int (if c - 10 ^ (18 : Int).toNat > 0 then c - 10 ^ (18 : Int).toNat else 0), .int ((c % 2147483587 * 48271 + 60013 * (k : Int) + 481) % 2147483647)])) := by
      intro c hc p hp
      refine q _ p (Lb.Same.upd hp) hp ⟨_, _, upd_same, ?_, ?_, ?_⟩
      · split <;> omega
      · omega
      · omega
    refine ⟨_, (pss_cons (ps_set (i := 2) sc_pot.nd rfl (by first | exact Or.inl rfl | exact Or.inr rfl) (pe_ifExp (pt_cmpR op_lt (pv 1) (pe_callB (call_lenK (K := K) rfl) (by rfl) T.b_len (by decide +kernel) (pa_cons (pv 0) pa_nil)) (nomark _)) (pe_callB call_abs (by rfl) T.b_abs (by decide +kernel) (pa_cons (pe_ix (ix_listK (K := K) rfl) (pv 0) (pv 1) (fun _ _ => rfl)) pa_nil)) (pe_op op_add (pe_op op_mulX pe_int (pv 1)) pe_int)))
 (pss_one (ps_ret (pe_lst (pa_cons (pe_callB (call_max2 rfl) (by rfl) T.b_max (by decide +kernel) (pa_cons pe_int (pa_cons (pe_op op_sub (pv 2) (pe_op op_pow pe_int pe_int)) pa_nil))) (pa_cons (pe_op op_mod (pe_callTy call_int1 (by rfl) T.b_int (by decide +kernel) (pa_cons (pe_op op_add (pe_op op_add (pe_op op_mulX (pe_op op_mod (pe_callTy call_int1 (by rfl) T.b_int (by decide +kernel) (pa_cons (pv 2) pa_nil)) pe_int) pe_int) (pe_op op_mulX pe_int (pv 1))) pe_int) pa_nil)) pe_int) pa_nil)))))), ?_⟩
    refine ⟨_, rfl, _, rfl, _, _, rfl, .inl hS, _, _, rfl, rfl, _, rfl, ?_⟩
    rw [List.length_map]
    refine ite2 (fun hlt => ?_) (fun _ => ?_)
    · have hlt' : k < ns.length := by simpa using hlt
      have hget : (ns.map V.int)[k]? = some (V.int ns[k]) := by simp [hlt']
      refine ⟨_, rfl, _, rfl, _, _, _, _, rfl, rfl, hS, atI_nat hget, _, rfl, ?_⟩
      refine ⟨_, rfl, _, _, rfl, rfl, ⟨by decide, by decide, by decide⟩, _, _, rfl, rfl, _, _, rfl, ?_⟩
      refine ⟨_, rfl, .inl ⟨_, rfl, _, _, rfl, rfl, (by show (0 : Int) < _; decide), _, _, rfl, rfl, mulx_ok (a := 100) (b := 100) (by omega) (by decide) (by decide), ?_⟩⟩
      refine ⟨_, rfl, _, _, rfl, rfl, mulx_ok (a := 100) (b := 100) (by decide) (by omega) (by decide), _, _, rfl, rfl, _, _, rfl, rfl, ?_⟩
      refine .inl ⟨_, rfl, _, _, rfl, rfl, (by show (0 : Int) < _; decide), sz, fun p hp => ?_⟩
      exact fin _ (by split <;> omega) p hp
    · refine ⟨_, rfl, _, _, rfl, rfl, mulx_ok (a := 100) (b := 100) (by decide) (by omega) (by decide), _, _, rfl, rfl, ?_⟩
      refine ⟨_, rfl, _, _, rfl, rfl, ⟨by decide, by decide, by decide⟩, _, _, rfl, rfl, _, _, rfl, ?_⟩
      refine ⟨_, rfl, .inl ⟨_, rfl, _, _, rfl, rfl, (by show (0 : Int) < _; decide), _, _, rfl, rfl, mulx_ok (a := 100) (b := 100) (by omega) (by decide) (by decide), ?_⟩⟩
      refine ⟨_, rfl, _, _, rfl, rfl, mulx_ok (a := 100) (b := 100) (by decide) (by omega) (by decide), _, _, rfl, rfl, _, _, rfl, rfl, ?_⟩
      refine .inl ⟨_, rfl, _, _, rfl, rfl, (by show (0 : Int) < _; decide), sz, fun p hp => ?_⟩
      exact fin _ (by omega) p hp
theorem ok_draw (T : Txt K mg a) : FnOk P w K mg base CX0 1 a.f_draw a.d_draw ["_law_pot_here", "_law_many"] sp_draw := by
  refine T.F_draw.ok sc_draw (fun vs H Q E h => ?_) (fun cdv A outer s H vs Q E hr h => ?_)
  · obtain ⟨p, n, rfl, _⟩ := h
    rfl
  · obtain ⟨p, n, rfl, ⟨x, y, hp, hx, hy0, hy1⟩, hn, hb, q⟩ := h
    have S := SqL.of (K := K) hp
    have e0 : atI ([.int x, .int y] : List V) ((0 : Nat) : Int) = some (.int x) := atI_nat rfl
    have e1 : atI ([.int x, .int y] : List V) ((1 : Nat) : Int) = some (.int y) := atI_nat rfl
    refine ⟨_, (pss_cons (ps_if (pt_cmpR op_gt (pe_ix (ix_listK (K := K) rfl) (pv 0) pe_int (fun _ _ => rfl)) pe_int (nomark _)) (pss_cons (ps_asg (pe_callB call_divmodW (by rfl) T.b_divmod (by decide +kernel) (pa_cons (pe_ix (ix_listK (K := K) rfl) (pv 0) pe_int (fun _ _ => rfl)) (pa_cons (pv 1) pa_nil))) (pg_tupK (K := K) (n := 2) rfl rfl (pgs_cons (pg_sub (pv 0) pe_int set_list) (pgs_cons (pg_name (i := 2) sc_draw.nd rfl (by first | exact Or.inl rfl | exact Or.inr rfl)) pgs_nil))))
 (pss_one (ps_ret (pv 2)))) pss_nil)
 (pss_cons (ps_asg (pe_op op_mod (pe_callTy call_int1 (by rfl) T.b_int (by decide +kernel) (pa_cons (pe_op op_add (pe_op op_mulX (pe_ix (ix_listK (K := K) rfl) (pv 0) pe_int (fun _ _ => rfl)) pe_int) pe_int) pa_nil)) pe_int) (pg_sub (pv 0) pe_int set_list))
 (pss_one (ps_ret (pe_op op_mod (pe_callTy call_int1 (by rfl) T.b_int (by decide +kernel) (pa_cons (pe_op op_fdivW (pe_op op_mod (pe_callTy call_int1 (by rfl) T.b_int (by decide +kernel) (pa_cons (pe_op op_mulX (pe_ix (ix_listK (K := K) rfl) (pv 0) pe_int (fun _ _ => rfl)) (pe_ix (ix_listK (K := K) rfl) (pv 0) pe_int (fun _ _ => rfl))) pa_nil)) pe_int) pe_int) pa_nil)) (pv 1)))))), ?_⟩
    refine ⟨_, rfl, _, _, _, _, rfl, rfl, S, e0, _, _, rfl, rfl, _, rfl, ?_⟩
    refine ite2 (fun hlt => ?_) (fun _ => ?_)
    · have hlt : 0 < x := by simpa using hlt
      refine ⟨_, rfl, _, _, _, _, rfl, rfl, S, e0, _, rfl, _, _, rfl, divp_small hn (hb.mono (by decide)), fun t ht => ?_⟩
      have npt : p ≠ t := ne_of_none hp ht
      refine ⟨_, _, rfl, SqT.of upd_same, rfl, ?_⟩
      have hp2 : upd H t (.tup [.int (x / n), .int (x % n)]) p = some (.lst [.int x, .int y]) := by rw [upd_ne npt]; exact hp
      refine ⟨_, _, rfl, ⟨_, rfl, _, _, _, 0, rfl, rfl, hp2, rfl, _, _, rfl, ⟨rfl, ?_⟩⟩⟩
      refine ⟨_, rfl, ?_⟩
      refine q _ _ ⟨fun b o nb e => ?_, _, _, upd_same, Int.ediv_nonneg hx (by omega), hy0, hy1⟩ (Int.emod_nonneg _ (by omega)) (Int.emod_lt_of_pos _ hn)
      rw [upd_ne nb, upd_ne (ne_of_none e ht)]
      exact e
    · refine ⟨_, rfl, _, _, _, _, rfl, rfl, S, e1, _, _, rfl, rfl, mulx_ok (a := 100) (b := 100) (by omega) (by decide) (by decide), _, _, rfl, rfl, .inl ⟨_, rfl, _, _, rfl, rfl, (by show (0 : Int) < _; decide), ?_⟩⟩
      refine ⟨_, rfl, _, _, _, 1, rfl, rfl, hp, rfl, ?_⟩
      have e2 : ∀ z : Int, atI ([.int x, .int z] : List V) ((1 : Nat) : Int) = some (.int z) := fun z => atI_nat rfl
      have S2 : ∀ z : Int, SqL K (upd H p (.lst ([V.int x, V.int y].set 1 (.int z)))) p [.int x, .int z] := fun z => SqL.of upd_same
      refine ⟨_, rfl, _, _, _, _, rfl, rfl, S2 _, e2 _, _, rfl, _, _, _, _, rfl, rfl, S2 _, e2 _, _, _, rfl, rfl, mulx_ok (a := 100) (b := 100) (by omega) (by omega) (by decide), ?_⟩
      refine .inl ⟨_, rfl, _, _, rfl, rfl, (by show (0 : Int) < _; decide), _, _, rfl, rfl, ⟨(by show (0 : Int) < _; decide), (by decide)⟩, .inl ⟨_, rfl, _, rfl, _, _, rfl, rfl, hn, ?_⟩⟩
      refine q _ _ ⟨fun b o nb e => ?_, _, _, upd_same, hx, by omega, by omega⟩ (Int.emod_nonneg _ (by omega)) (Int.emod_lt_of_pos _ hn)
      rw [upd_ne nb]
      exact e
end
def sp_pick (K : PySem.W.Frag) : Sp := fun vs H Q _ => ∃ (p l : Addr) (xs : List V), vs = [.ref p, .ref l] ∧ PotAt H p ∧ SqL K H l xs ∧ l ≠ p ∧ 0 < xs.length ∧ xs.length ≤ 1000 ∧
  ∀ H' (i : Nat) v, Mov p H H' → xs[i]? = some v → Q v H'
section
variable {P : Program} {w : World} {K : PySem.W.Frag} {mg : Str → Option Value} {base : Heap} {a : Ad}
theorem ok_pick (T : Txt K mg a) : FnOk P w K mg base CX0 2 a.f_pick a.d_pick ["_law_pot_here", "_law_some"] (sp_pick K) := by
  refine T.F_pick.ok sc_pick (fun vs H Q E h => ?_) (fun cdv A outer s H vs Q E hr h => ?_)
  · obtain ⟨p, l, xs, rfl, _⟩ := h
    rfl
  · obtain ⟨p, l, xs, rfl, hp, hS, hne, h0, h1, q⟩ := h
    refine ⟨_, (pss_one (ps_ret (pe_ix (ix_listK (K := K) rfl) (pv 1) (pe_call (ok_draw T) (hr.mono (by decide)) (by rfl) T.m_draw T.F_draw.kp (b_draw T) .nil pass0 (pa_cons (pv 0) (pa_cons (pe_callB (call_lenK (K := K) rfl) (by rfl) T.b_len (by decide +kernel) (pa_cons (pv 1) pa_nil)) pa_nil))) (fun _ _ => rfl)))), ?_⟩
    refine ⟨_, rfl, _, rfl, _, rfl, _, _, rfl, .inl hS, ?_⟩
    refine ⟨p, _, rfl, hp, by omega, by unfold Bd; omega, fun H' d m d0 d1 => ?_⟩
    have hi : d.toNat < xs.length := by omega
    have e : atI xs d = some xs[d.toNat] := by
      have := atI_nat (xs := xs) (j := d.toNat) (List.getElem?_eq_getElem hi)
      rwa [Int.toNat_of_nonneg d0] at this
    exact ⟨_, _, _, _, rfl, rfl, SqL.mov m hne hS, e, q _ _ _ m (List.getElem?_eq_getElem hi)⟩
end
end K48

set_option Elab.async false
set_option linter.all false
set_option maxRecDepth 100000
set_option maxHeartbeats 4000000
set_option exponentiation.threshold 10000
namespace K48
open PySem L2 Lb
open C8 (pss_cut)
/-- one of the law's own fractions -/
def Fq (H : Hp) (q : Addr) (x : F2) : Prop := H q = some (.tup [.int x.1, .int x.2])
theorem Fq.same {H H' : Hp} {q : Addr} {x : F2} (h : Fq H q x) (s : Same H H') : Fq H' q x := s _ _ h
theorem Fq.mov {H H' : Hp} {q p : Addr} {x : F2} (h : Fq H q x) (m : Mov p H H') (hp : PotAt H p) : Fq H' q x := m.tup hp h
theorem Fq.a0 {x : F2} : atI ([.int x.1, .int x.2] : List V) ((0 : Nat) : Int) = some (.int x.1) := atI_nat rfl
theorem Fq.a1 {x : F2} : atI ([.int x.1, .int x.2] : List V) ((1 : Nat) : Int) = some (.int x.2) := atI_nat rfl
def sp_less : Sp := fun vs H Q _ => ∃ (p q : Addr) (x y : F2), vs = [.ref p, .ref q] ∧ Fq H p x ∧ Fq H q y ∧ B3 x ∧ B3 y ∧ Q (.bl (lt2 x y)) H
/-- how great a drawn fraction is -/
structure Sm (n : Nat) (x : F2) : Prop where
  t : x.1.natAbs ≤ n
  b1 : 1 ≤ x.2
  b2 : x.2 ≤ n
def sp_fraction : Sp := fun vs H Q _ => ∃ (p : Addr), vs = [.ref p] ∧ PotAt H p ∧ ∀ H' q x, Mov p H H' → Fq H' q x → H q = none → Sm 1000000000 x → Q (.ref q) H'
def sp_lowest : Sp := fun vs H Q _ => ∃ (p : Addr) (x : F2), vs = [.ref p] ∧ Fq H p x ∧ 0 < x.2 ∧ B8 x ∧ ∀ H' q, Same H H' → Fq H' q (rd x.1 x.2) → H q = none → Q (.ref q) H'
def ivals : L2.St → Nat → Int := fun σ i => match σ[i]? with
  | some (some (V.int y)) => y
  | _ => 0
theorem gcd_mod (t b : Int) : (t % b).gcd b = t.gcd b := by
  rw [Int.gcd_left_eq_iff]
  intro c hc
  have e := Int.emod_add_mul_ediv t b
  obtain ⟨k, hk⟩ := hc
  constructor
  · rintro ⟨m, hm⟩
    exact ⟨m + k * (t / b), by rw [← e, hm]; grind⟩
  · rintro ⟨m, hm⟩
    exact ⟨m - k * (t / b), by grind⟩
section
variable {P : Program} {w : World} {K : PySem.W.Frag} {mg : Str → Option Value} {base : Heap} {a : Ad}
theorem ok_less (T : Txt K mg a) : FnOk P w K mg base CX0 1 a.f_less a.d_less ["_law_one", "_law_thing"] sp_less := by
  refine T.F_less.ok sc_less (fun vs H Q E h => ?_) (fun cdv A outer s H vs Q E hr h => ?_)
  · obtain ⟨p, q, x, y, rfl, _⟩ := h
    rfl
  · obtain ⟨p, q, x, y, rfl, hp, hq, bx, by', k⟩ := h
    refine ⟨_, (pss_one (ps_ret (pe_cmpR op_lt (pe_op op_mulX (pe_ix (ix_tupK (K := K) rfl) (pv 0) pe_int (fun _ _ => rfl)) (pe_ix (ix_tupK (K := K) rfl) (pv 1) pe_int (fun _ _ => rfl))) (pe_op op_mulX (pe_ix (ix_tupK (K := K) rfl) (pv 1) pe_int (fun _ _ => rfl)) (pe_ix (ix_tupK (K := K) rfl) (pv 0) pe_int (fun _ _ => rfl))) (nomark _)))), ?_⟩
    refine ⟨_, rfl, _, _, _, _, rfl, rfl, SqT.of hp, Fq.a0, _, rfl, _, _, _, _, rfl, rfl, SqT.of hq, Fq.a1, _, _, rfl, rfl, bx.1.cm by'.2 (by decide), ?_⟩
    exact ⟨_, rfl, _, _, _, _, rfl, rfl, SqT.of hq, Fq.a0, _, rfl, _, _, _, _, rfl, rfl, SqT.of hp, Fq.a1, _, _, rfl, rfl, by'.1.cm bx.2 (by decide), _, _, rfl, rfl, k⟩
theorem ok_fraction (T : Txt K mg a) : FnOk P w K mg base CX0 3 a.f_fraction a.d_fraction ["_law_pot_here"] sp_fraction := by
  refine T.F_fraction.ok sc_fraction (fun vs H Q E h => ?_) (fun cdv A outer s H vs Q E hr h => ?_)
  · obtain ⟨p, rfl, _⟩ := h
    rfl
  · obtain ⟨p, rfl, hp, k⟩ := h
    refine ⟨_, (pss_cons (ps_set (i := 1) sc_fraction.nd rfl (by first | exact Or.inl rfl | exact Or.inr rfl) (pe_call (ok_pick T) (hr.mono (by decide)) (by rfl) T.m_pick T.F_pick.kp (b_pick T) .nil pass0 (pa_cons (pv 0) (pa_cons (pe_lst (pa_cons pe_int (pa_cons pe_int (pa_cons (pe_op op_pow pe_int pe_int) pa_nil)))) pa_nil))))
 (pss_one (ps_ret (pe_tup (pa_cons (pe_op op_sub (pe_call (ok_draw T) (hr.mono (by decide)) (by rfl) T.m_draw T.F_draw.kp (b_draw T) .nil pass0 (pa_cons (pv 0) (pa_cons (pe_op op_mulX pe_int (pv 1)) pa_nil))) (pv 1)) (pa_cons (pe_call (ok_pick T) (hr.mono (by decide)) (by rfl) T.m_pick T.F_pick.kp (b_pick T) .nil pass0 (pa_cons (pv 0) (pa_cons (pe_lst (pa_cons pe_int (pa_cons pe_int (pa_cons pe_int (pa_cons pe_int (pa_cons pe_int (pa_cons pe_int pa_nil))))))) pa_nil))) pa_nil)))))), ?_⟩
    refine ⟨_, rfl, _, _, rfl, rfl, ⟨by decide, by decide, by decide⟩, sz, fun l hl => ?_⟩
    have nl : l ≠ p := by
      obtain ⟨_, _, e, _⟩ := hp
      exact (ne_of_none e hl).symm
    refine ⟨p, l, _, rfl, (Lb.Same.upd hl).pot hp, SqL.of upd_same, nl, by decide, by decide, fun H1 i v m1 e1 => ?_⟩
    have hm : ∃ n : Int, v = .int n ∧ 1 ≤ n ∧ n ≤ 1000000000 := by
      rcases i with _ | _ | _ | i
      · cases e1; exact ⟨_, rfl, by decide, by decide⟩
      · cases e1; exact ⟨_, rfl, by decide, by decide⟩
      · cases e1; exact ⟨_, rfl, by decide, by decide⟩
      · simp at e1
    obtain ⟨n, rfl, n0, n1⟩ := hm
    have hb : Bd 100 n := by unfold Bd; omega
    refine ⟨_, rfl, _, rfl, _, _, rfl, rfl, mulx_ok (a := 100) (b := 100) (by decide) hb (by decide), ?_⟩
    refine ⟨p, _, rfl, m1.pot, by omega, by unfold Bd; omega, fun H2 d m2 d0 d1 => ?_⟩
    refine ⟨_, rfl, _, _, rfl, rfl, _, rfl, sz, fun l2 hl2 => ?_⟩
    have nl2 : l2 ≠ p := by
      obtain ⟨_, _, e, _⟩ := m2.pot
      exact (ne_of_none e hl2).symm
    refine ⟨p, l2, _, rfl, (Lb.Same.upd hl2).pot m2.pot, SqL.of upd_same, nl2, by decide, by decide, fun H3 i2 v2 m3 e2 => ?_⟩
    have hm2 : ∃ b : Int, v2 = .int b ∧ 1 ≤ b ∧ b ≤ 9 := by
      rcases i2 with _ | _ | _ | _ | _ | _ | i2
      · cases e2; exact ⟨_, rfl, by decide, by decide⟩
      · cases e2; exact ⟨_, rfl, by decide, by decide⟩
      · cases e2; exact ⟨_, rfl, by decide, by decide⟩
      · cases e2; exact ⟨_, rfl, by decide, by decide⟩
      · cases e2; exact ⟨_, rfl, by decide, by decide⟩
      · cases e2; exact ⟨_, rfl, by decide, by decide⟩
      · simp at e2
    obtain ⟨b, rfl, b0, b1⟩ := hm2
    refine ⟨sz, fun q hq => ?_⟩
    have mm : Mov p H H3 := ((Lb.Same.upd hl).mov hp).trans (m1.trans (m2.trans (((Lb.Same.upd hl2).mov m2.pot).trans m3)))
    refine k _ q (d - n, b) (mm.same (Lb.Same.upd hq)) upd_same (mm.free hp hq) ⟨?_, b0, ?_⟩
    · dsimp only; omega
    · dsimp only; omega
theorem ok_lowest (T : Txt K mg a) : FnOk P w K mg base CX0 1 a.f_lowest a.d_lowest ["_law_some"] sp_lowest := by
  refine T.F_lowest.ok sc_lowest (fun vs H Q E h => ?_) (fun cdv A outer s H vs Q E hr h => ?_)
  · obtain ⟨p, x, rfl, _⟩ := h
    rfl
  · obtain ⟨p, ⟨x, y⟩, rfl, hp, hy, ⟨bx, bY⟩, q⟩ := h
    dsimp only at hy bx bY q
    refine ⟨_, (pss_cons (ps_par (i := 1) (j := 2) rfl sc_lowest.nd rfl rfl (by decide) rfl rfl (pa_cons (pe_callB call_abs (by rfl) T.b_abs (by decide +kernel) (pa_cons (pe_ix (ix_tupK (K := K) rfl) (pv 0) pe_int (fun _ _ => rfl)) pa_nil)) (pa_cons (pe_ix (ix_tupK (K := K) rfl) (pv 0) pe_int (fun _ _ => rfl)) pa_nil)) (by rfl))
 (pss_cons (ps_while PassesOwn.never (pt_cmpR op_ne (pv 2) pe_int (nomark _)) (pss_one (ps_par (i := 1) (j := 2) rfl sc_lowest.nd rfl rfl (by decide) rfl rfl (pa_cons (pv 2) (pa_cons (pe_op op_mod (pe_callTy call_int1 (by rfl) T.b_int (by decide +kernel) (pa_cons (pv 1) pa_nil)) (pv 2)) pa_nil)) (by rfl))))
 (pss_one (ps_ret (pe_tup (pa_cons (pe_op op_fdivX (pe_ix (ix_tupK (K := K) rfl) (pv 0) pe_int (fun _ _ => rfl)) (pv 1)) (pa_cons (pe_op op_fdivX (pe_ix (ix_tupK (K := K) rfl) (pv 0) pe_int (fun _ _ => rfl)) (pv 1)) pa_nil))))))), ?_⟩
    refine ⟨_, rfl, _, _, _, _, rfl, rfl, SqT.of hp, Fq.a0, _, rfl, _, rfl, _, _, _, _, rfl, rfl, SqT.of hp, Fq.a1, _, _, rfl, ?_⟩
    refine while_by (fun σ H' => H' = H ∧ ∃ u v : Int, σ = [some (.ref p), some (.int u), some (.int v)] ∧ 0 ≤ u ∧ 0 ≤ v ∧ u.gcd v = x.gcd y) (fun σ _ => (ivals σ 2).toNat)
      ⟨rfl, _, _, rfl, by split <;> omega, by omega, ?_⟩ ?_ (fun σ H Q Q' k ⟨v, e, e1, b, e3, q⟩ => ⟨v, e, e1, b, e3, k _ _ q⟩)
    · split <;> simp
    · rintro σ H' ⟨rfl, u, v, rfl, hu, hv, g⟩
      refine ⟨_, rfl, rfl, _, rfl, ite2 (fun hlt => ?_) (fun hlt => ?_)⟩
      · have hlt : 0 < v := by
          have : v ≠ 0 := by simpa using hlt
          omega
        refine ⟨_, rfl, _, rfl, .inl ⟨_, rfl, _, rfl, _, _, rfl, rfl, hlt, _, _, rfl, ?_⟩⟩
        refine ⟨⟨rfl, _, _, rfl, hv, Int.emod_nonneg _ (by omega), ?_⟩, ?_⟩
        · rw [Int.gcd_comm, gcd_mod]
          exact g
        · show (u % v).toNat < v.toNat
          have := Int.emod_lt_of_pos u hlt
          have := Int.emod_nonneg u (show v ≠ 0 by omega)
          omega
      · have e0 : v = 0 := by simpa using hlt
        subst e0
        have e : u = ((Nat.gcd x.natAbs y.natAbs : Nat) : Int) := by
          have g' : u.natAbs = Nat.gcd x.natAbs y.natAbs := by
            rw [Int.gcd_zero] at g
            exact g
          omega
        subst e
        have hd : rdD x y ≠ 0 := by
          have : 0 < Nat.gcd x.natAbs y.natAbs := Nat.gcd_pos_of_pos_right _ (by omega)
          unfold rdD
          split <;> omega
        have bd : Bd 8000 (rdD x y) := by
          have : Nat.gcd x.natAbs y.natAbs ≤ y.natAbs := Nat.gcd_le_right _ (by omega)
          refine bY.le ?_
          unfold rdD
          split <;> omega
        have eD : ((Nat.gcd x.natAbs y.natAbs : Nat) : Int) = rdD x y := by unfold rdD; rw [if_neg (by omega)]
        rw [eD]
        refine ⟨_, rfl, _, _, _, _, rfl, rfl, SqT.of hp, Fq.a0, _, rfl, _, _, rfl, rfl, bd.cx hd (by decide), _, rfl, _, _, _, _, rfl, rfl, SqT.of hp, Fq.a1, _, rfl, _, _, rfl, rfl, bd.cx hd (by decide), sz, fun r hr => q _ r (Lb.Same.upd hr) upd_same hr⟩
end
end K48

set_option Elab.async false
set_option linter.all false
set_option maxRecDepth 100000
set_option maxHeartbeats 4000000
set_option exponentiation.threshold 10000
namespace K48
open PySem L2 Lb
open C8 (pss_cut)
theorem bd_log {n : Nat} {z : Int} (h : Bd n z) (k : n ≤ 1900 := by decide) : z.natAbs.log2 < 1920 := by
  have : z.natAbs < 2 ^ 1900 := Nat.lt_of_lt_of_le h (Nat.pow_le_pow_right (by decide) k)
  exact Nat.lt_of_lt_of_le (PySem.Flt.log2_lt_of (by decide) this) (by decide)
theorem rd_whole {t b : Int} (hb : 0 < b) (h : t % b = 0) : rd t b = (t.fdiv b, 1) := by
  have e : rdD t b = b := by
    unfold rdD
    rw [if_neg (by omega)]
    have : Nat.gcd t.natAbs b.natAbs = b.natAbs := Nat.gcd_eq_right (Int.natAbs_dvd_natAbs.mpr (Int.dvd_of_emod_eq_zero h))
    rw [this]
    omega
  unfold rd rdT rdB
  rw [e, Int.fdiv_self (by omega)]
def B17 (x : F2) : Prop := Bd 1700 x.1 ∧ Bd 1700 x.2
def sp_ftext (f : F2 → Str) : Sp := fun vs H Q _ => ∃ (p : Addr) (x : F2), vs = [.ref p] ∧ Fq H p x ∧ 0 < x.2 ∧ B17 x ∧ ∀ H', Same H H' → Q (.str (f (rd x.1 x.2))) H'
def sp_handed (C : Addr) : Sp := fun vs H Q _ => ∃ (p q : Addr) (x : F2), vs = [.ref p, .ref q] ∧ PotAt H p ∧ Fq H q x ∧ 0 < x.2 ∧ B8 x ∧ ∀ H' v, Mov p H H' → IsP C H' v (rd x.1 x.2).1 (rd x.1 x.2).2 → Q v H'
/-- the ends of a stretch, as the law draws them -/
def Ends (H : Hp) (q : Addr) (x y : F2) : Prop := ∃ l h, H q = some (.tup [.ref l, .ref h]) ∧ Fq H l x ∧ Fq H h y
theorem Ends.same {H H' : Hp} {q : Addr} {x y : F2} (e : Ends H q x y) (s : Same H H') : Ends H' q x y := let ⟨l, h, a, b, c⟩ := e; ⟨l, h, s _ _ a, s _ _ b, s _ _ c⟩
theorem Ends.mov {H H' : Hp} {q p : Addr} {x y : F2} (e : Ends H q x y) (m : Mov p H H') (hp : PotAt H p) : Ends H' q x y := let ⟨l, h, a, b, c⟩ := e; ⟨l, h, m.tup hp a, m.tup hp b, m.tup hp c⟩
def sp_ends2 : Sp := fun vs H Q _ => ∃ (p : Addr), vs = [.ref p] ∧ PotAt H p ∧ ∀ H' q x y, Mov p H H' → Ends H' q x y → Sm 3000000000 x → Sm 3000000000 y → lt2 y x = false → Q (.ref q) H'
/-- is z within, as the law says it -/
def inR (x y z : F2) : Bool := if lt2 x y then lt2 x z && lt2 z y else !lt2 z x && !lt2 x z
def sp_is_in : Sp := fun vs H Q _ => ∃ (q r : Addr) (x y z : F2), vs = [.ref q, .ref r] ∧ Ends H q x y ∧ Fq H r z ∧ B3 x ∧ B3 y ∧ B3 z ∧ Q (.bl (inR x y z)) H
def sumF (x y : F2) : F2 := (x.1 * y.2 + y.1 * x.2, x.2 * y.2)
def sp_sum : Sp := fun vs H Q _ => ∃ (p q : Addr) (x y : F2), vs = [.ref p, .ref q] ∧ Fq H p x ∧ Fq H q y ∧ B3 x ∧ B3 y ∧ ∀ r, H r = none → Q (.ref r) (upd H r (.tup [.int (sumF x y).1, .int (sumF x y).2]))
section
variable {P : Program} {w : World} {K : PySem.W.Frag} {mg : Str → Option Value} {base : Heap} {a : Ad}
theorem ok_text (T : Txt K mg a) : FnOk P w K mg base CX0 3 a.f_text a.d_text ["_law_some"] (sp_ftext fun x => txS x.1 x.2) := by
  refine T.F_text.ok sc_text (fun vs H Q E h => ?_) (fun cdv A outer s H vs Q E hr h => ?_)
  · obtain ⟨p, x, rfl, _⟩ := h
    rfl
  · obtain ⟨p, x, rfl, hp, px, bx, k⟩ := h
    refine ⟨_, (pss_cons (ps_asg (pe_call (ok_lowest T) (hr.mono (by decide)) (by rfl) T.m_lowest T.F_lowest.kp (b_lowest T) .nil pass0 (pa_cons (pv 0) pa_nil)) (pg_tupK (K := K) (n := 2) rfl rfl (pgs_cons (pg_name (i := 1) sc_text.nd rfl (by first | exact Or.inl rfl | exact Or.inr rfl)) (pgs_cons (pg_name (i := 2) sc_text.nd rfl (by first | exact Or.inl rfl | exact Or.inr rfl)) pgs_nil))))
 (pss_one (ps_ret (pe_ifExp (pt_cmpR op_eq (pv 2) pe_int (nomark _)) (pe_callTy call_str_int (by rfl) T.b_str (by decide +kernel) (pa_cons (pv 1) pa_nil)) (pe_op op_add_str (pe_op op_add_str (pe_callTy call_str_int (by rfl) T.b_str (by decide +kernel) (pa_cons (pv 1) pa_nil)) pe_str) (pe_callTy call_str_int (by rfl) T.b_str (by decide +kernel) (pa_cons (pv 2) pa_nil))))))), ?_⟩
    refine ⟨_, rfl, p, x, rfl, hp, px, ⟨bx.1.mono (by decide), bx.2.mono (by decide)⟩, fun H1 q s1 f1 hq => ?_⟩
    have lw := rd_low (n := 1700) (show x.2 ≠ 0 by omega) bx.1 bx.2
    have k1 := k _ s1
    generalize rd x.1 x.2 = r at lw k1 f1
    have l1 : r.1.natAbs.log2 < 1920 := bd_log lw.t
    have l2 : r.2.natAbs.log2 < 1920 := bd_log lw.b
    have z1 : (Str.ofString (toString r.1 : String)).length ≤ 601 := itS_len (n := r.1) (Bd.mono lw.t (by decide))
    have z2 : (Str.ofString (toString r.2 : String)).length ≤ 601 := itS_len (n := r.2) (Bd.mono lw.b (by decide))
    dsimp only at k1
    have z3 : ("/" : Str).length = 1 := by decide +kernel
    refine ⟨_, _, rfl, SqT.of f1, rfl, _, _, rfl, _, _, rfl, rfl, ?_⟩
    refine ⟨_, rfl, rfl, _, rfl, ite2 (fun h1 => ?_) (fun h1 => ?_)⟩
    · refine ⟨_, rfl, _, rfl, l1, ?_⟩
      have h1 : r.2 = 1 := by simpa using h1
      unfold txS at k1
      rw [if_pos h1] at k1
      exact k1
    · refine ⟨_, rfl, _, rfl, l1, _, _, rfl, rfl, szle (by omega), _, rfl, _, rfl, l2, _, _, rfl, rfl, ?_, ?_⟩
      · rw [Str.length_append]
        exact szle (by omega)
      · have h1 : ¬ r.2 = 1 := by simpa using h1
        unfold txS at k1
        rw [if_neg h1] at k1
        exact k1
theorem ok_name (T : Txt K mg a) : FnOk P w K mg base CX0 3 a.f_name a.d_name ["_law_some"] (sp_ftext fun x => txR x.1 x.2) := by
  refine T.F_name.ok sc_name (fun vs H Q E h => ?_) (fun cdv A outer s H vs Q E hr h => ?_)
  · obtain ⟨p, x, rfl, _⟩ := h
    rfl
  · obtain ⟨p, x, rfl, hp, px, bx, k⟩ := h
    refine ⟨_, (pss_cons (ps_asg (pe_call (ok_lowest T) (hr.mono (by decide)) (by rfl) T.m_lowest T.F_lowest.kp (b_lowest T) .nil pass0 (pa_cons (pv 0) pa_nil)) (pg_tupK (K := K) (n := 2) rfl rfl (pgs_cons (pg_name (i := 1) sc_name.nd rfl (by first | exact Or.inl rfl | exact Or.inr rfl)) (pgs_cons (pg_name (i := 2) sc_name.nd rfl (by first | exact Or.inl rfl | exact Or.inr rfl)) pgs_nil))))
 (pss_one (ps_ret (pe_op op_add_str (pe_op op_add_str (pe_op op_add_str (pe_op op_add_str pe_str (pe_callTy call_str_int (by rfl) T.b_str (by decide +kernel) (pa_cons (pv 1) pa_nil))) pe_str) (pe_callTy call_str_int (by rfl) T.b_str (by decide +kernel) (pa_cons (pv 2) pa_nil))) pe_str)))), ?_⟩
    refine ⟨_, rfl, p, x, rfl, hp, px, ⟨bx.1.mono (by decide), bx.2.mono (by decide)⟩, fun H1 q s1 f1 hq => ?_⟩
    have lw := rd_low (n := 1700) (show x.2 ≠ 0 by omega) bx.1 bx.2
    have k1 := k _ s1
    generalize rd x.1 x.2 = r at lw k1 f1
    have l1 : r.1.natAbs.log2 < 1920 := bd_log lw.t
    have l2 : r.2.natAbs.log2 < 1920 := bd_log lw.b
    have z1 : (Str.ofString (toString r.1 : String)).length ≤ 601 := itS_len (n := r.1) (Bd.mono lw.t (by decide))
    have z2 : (Str.ofString (toString r.2 : String)).length ≤ 601 := itS_len (n := r.2) (Bd.mono lw.b (by decide))
    dsimp only at k1
    have z3 : ("Amount(" : Str).length = 7 := by decide +kernel
    have z4 : (", " : Str).length = 2 := by decide +kernel
    have z5 : (")" : Str).length = 1 := by decide +kernel
    refine ⟨_, _, rfl, SqT.of f1, rfl, _, _, rfl, _, _, rfl, rfl, ?_⟩
    refine ⟨_, rfl, _, rfl, l1, _, _, rfl, rfl, szle (by omega), _, _, rfl, rfl, ?_, _, rfl, _, rfl, l2, _, _, rfl, rfl, ?_, _, _, rfl, rfl, ?_, k1⟩
    · rw [Str.length_append]
      exact szle (by omega)
    · rw [Str.length_append, Str.length_append]
      exact szle (by omega)
    · rw [Str.length_append, Str.length_append, Str.length_append]
      exact szle (by omega)
theorem ok_handed (T : Txt K mg a) : FnOk P w K mg base CX0 4 a.f_handed a.d_handed ["_law_pot_here", "_law_some"] (sp_handed a.c_Amount) := by
  refine T.F_handed.ok sc_handed (fun vs H Q E h => ?_) (fun cdv A outer s H vs Q E hr h => ?_)
  · obtain ⟨p, q, x, rfl, _⟩ := h
    rfl
  · obtain ⟨p, q, x, rfl, hp, hq, px, bx, k⟩ := h
    refine ⟨_, (pss_cons (ps_if (PW.pt (pw_and (pt_cmpR op_eq (pe_op op_mod (pe_callTy call_int1 (by rfl) T.b_int (by decide +kernel) (pa_cons (pe_ix (ix_tupK (K := K) rfl) (pv 1) pe_int (fun _ _ => rfl)) pa_nil)) (pe_ix (ix_tupK (K := K) rfl) (pv 1) pe_int (fun _ _ => rfl))) pe_int (nomark _)) (pw_and1 (pt_cmpR op_eq (pe_call (ok_draw T) (hr.mono (by decide)) (by rfl) T.m_draw T.F_draw.kp (b_draw T) .nil pass0 (pa_cons (pv 0) (pa_cons pe_int pa_nil))) pe_int (nomark _))))) (pss_one (ps_ret (pe_op op_fdivX (pe_ix (ix_tupK (K := K) rfl) (pv 1) pe_int (fun _ _ => rfl)) (pe_ix (ix_tupK (K := K) rfl) (pv 1) pe_int (fun _ _ => rfl))))) pss_nil)
 (pss_one (ps_ret (pe_make T.mkA (ok_Amount_init_ T) (hr.mono (by decide)) (by rfl) T.mA (b_Amount_init_ T) .nil pass0 (pa_cons (pe_ix (ix_tupK (K := K) rfl) (pv 1) pe_int (fun _ _ => rfl)) (pa_cons (pe_ix (ix_tupK (K := K) rfl) (pv 1) pe_int (fun _ _ => rfl)) pa_nil)))))), ?_⟩
    have fin : ∀ H1, Mov p H H1 → ∀ u, (∀ (x0 dx : Addr), H1 x0 = none → H1 dx = none → dx ≠ x0 → sp_Amount_init_ a.c_Amount (V.ref x0 :: ([V.int x.1, V.int x.2] ++ [])) (upd (upd H1 dx (HO.own x0)) x0 (HO.ins a.c_Amount dx [])) (fun v H2 => v = V.non ∧ Q (V.ref x0) H2) u) := by
      intro H1 m1 u x0 dz hx hdx ne
      refine ⟨x0, dz, _, _, rfl, by omega, bx.1, bx.2, upd_same, fun H' kp e => ⟨rfl, ?_⟩⟩
      obtain ⟨s, m⟩ := made_am hx hdx ne kp e
      exact k _ _ (m1.same s) (.inr ⟨x0, rfl, m⟩)
    have mk : ∀ H1, Mov p H H1 → tRet (tMake a.c_Amount (sp_Amount_init_ a.c_Amount) [] E0 (tCons (tOp (rIxT K) (tVar 1) (tC (V.int 0))) (tCons (tOp (rIxT K) (tVar 1) (tC (V.int 1))) tNil)))
        { nx := fun x H' => Q V.non H', rt := Q } (L2.start ["_law_pot_here", "_law_some"] [V.ref p, V.ref q]) H1 := by
      intro H1 m1
      exact ⟨_, rfl, _, _, _, _, rfl, rfl, SqT.of (hq.mov m1 hp), Fq.a0, _, rfl, _, _, _, _, rfl, rfl, SqT.of (hq.mov m1 hp), Fq.a1, fin H1 m1 _⟩
    refine ⟨_, rfl, _, _, _, _, rfl, rfl, SqT.of hq, Fq.a0, .inl ⟨_, rfl, _, rfl, _, _, _, _, rfl, rfl, SqT.of hq, Fq.a1, _, _, rfl, rfl, px, rfl, _, rfl, ite2 (fun h1 => ?_) (fun h1 => ?_)⟩⟩
    · have h1 : x.1 % x.2 = 0 := by simpa using h1
      refine ⟨_, rfl, p, _, rfl, hp, by decide, by unfold Bd; decide, fun H1 d m1 d0 d1 => ⟨rfl, _, rfl, ite2 (fun h2 => ?_) (fun h2 => mk H1 m1)⟩⟩
      refine ⟨_, rfl, _, _, _, _, rfl, rfl, SqT.of (hq.mov m1 hp), Fq.a0, _, rfl, _, _, _, _, rfl, rfl, SqT.of (hq.mov m1 hp), Fq.a1, _, _, rfl, rfl, bx.2.cx (by omega) (by decide), ?_⟩
      refine k _ _ m1 (.inl ?_)
      rw [rd_whole px h1]
      exact ⟨rfl, rfl⟩
    · exact mk H (Mov.refl hp)
theorem ok_sum (T : Txt K mg a) : FnOk P w K mg base CX0 1 a.f_sum a.d_sum ["_law_one", "_law_thing"] sp_sum := by
  refine T.F_sum.ok sc_sum (fun vs H Q E h => ?_) (fun cdv A outer s H vs Q E hr h => ?_)
  · obtain ⟨p, q, x, y, rfl, _⟩ := h
    rfl
  · obtain ⟨p, q, x, y, rfl, hp, hq, bx, by', k⟩ := h
    refine ⟨_, (pss_one (ps_ret (pe_tup (pa_cons (pe_op op_add (pe_op op_mulX (pe_ix (ix_tupK (K := K) rfl) (pv 0) pe_int (fun _ _ => rfl)) (pe_ix (ix_tupK (K := K) rfl) (pv 1) pe_int (fun _ _ => rfl))) (pe_op op_mulX (pe_ix (ix_tupK (K := K) rfl) (pv 1) pe_int (fun _ _ => rfl)) (pe_ix (ix_tupK (K := K) rfl) (pv 0) pe_int (fun _ _ => rfl)))) (pa_cons (pe_op op_mulX (pe_ix (ix_tupK (K := K) rfl) (pv 0) pe_int (fun _ _ => rfl)) (pe_ix (ix_tupK (K := K) rfl) (pv 1) pe_int (fun _ _ => rfl))) pa_nil))))), ?_⟩
    refine ⟨_, rfl, _, _, _, _, rfl, rfl, SqT.of hp, Fq.a0, _, rfl, _, _, _, _, rfl, rfl, SqT.of hq, Fq.a1, _, _, rfl, rfl, bx.1.cm by'.2 (by decide), ?_⟩
    refine ⟨_, rfl, _, _, _, _, rfl, rfl, SqT.of hq, Fq.a0, _, rfl, _, _, _, _, rfl, rfl, SqT.of hp, Fq.a1, _, _, rfl, rfl, by'.1.cm bx.2 (by decide), _, _, rfl, rfl, ?_⟩
    refine ⟨_, rfl, _, _, _, _, rfl, rfl, SqT.of hp, Fq.a1, _, rfl, _, _, _, _, rfl, rfl, SqT.of hq, Fq.a1, _, _, rfl, rfl, bx.2.cm by'.2 (by decide), sz, fun r hr => k r hr⟩
theorem ok_is_in (T : Txt K mg a) : FnOk P w K mg base CX0 2 a.f_is_in a.d_is_in ["_law_ends_here", "_law_some"] sp_is_in := by
  refine T.F_is_in.ok sc_is_in (fun vs H Q E h => ?_) (fun cdv A outer s H vs Q E hr h => ?_)
  · obtain ⟨q, r, x, y, z, rfl, _⟩ := h
    rfl
  · obtain ⟨q, r, x, y, z, rfl, ⟨l, h, e, hl, hh⟩, hz, bx, by', bz, k⟩ := h
    have a0 : atI ([.ref l, .ref h] : List V) ((0 : Nat) : Int) = some (.ref l) := atI_nat rfl
    have a1 : atI ([.ref l, .ref h] : List V) ((1 : Nat) : Int) = some (.ref h) := atI_nat rfl
    refine ⟨_, (pss_cons (ps_if (pt_not (pt_val (pe_call (ok_less T) (hr.mono (by decide)) (by rfl) T.m_less T.F_less.kp (b_less T) .nil pass0 (pa_cons (pe_ix (ix_tupK (K := K) rfl) (pv 0) pe_int (fun _ _ => rfl)) (pa_cons (pe_ix (ix_tupK (K := K) rfl) (pv 0) pe_int (fun _ _ => rfl)) pa_nil))))) (pss_one (ps_ret (pe_and (pe_not (pe_call (ok_less T) (hr.mono (by decide)) (by rfl) T.m_less T.F_less.kp (b_less T) .nil pass0 (pa_cons (pv 1) (pa_cons (pe_ix (ix_tupK (K := K) rfl) (pv 0) pe_int (fun _ _ => rfl)) pa_nil)))) (pe_one (pe_not (pe_call (ok_less T) (hr.mono (by decide)) (by rfl) T.m_less T.F_less.kp (b_less T) .nil pass0 (pa_cons (pe_ix (ix_tupK (K := K) rfl) (pv 0) pe_int (fun _ _ => rfl)) (pa_cons (pv 1) pa_nil)))))))) pss_nil)
 (pss_one (ps_ret (pe_and (pe_call (ok_less T) (hr.mono (by decide)) (by rfl) T.m_less T.F_less.kp (b_less T) .nil pass0 (pa_cons (pe_ix (ix_tupK (K := K) rfl) (pv 0) pe_int (fun _ _ => rfl)) (pa_cons (pv 1) pa_nil))) (pe_one (pe_call (ok_less T) (hr.mono (by decide)) (by rfl) T.m_less T.F_less.kp (b_less T) .nil pass0 (pa_cons (pv 1) (pa_cons (pe_ix (ix_tupK (K := K) rfl) (pv 0) pe_int (fun _ _ => rfl)) pa_nil)))))))), ?_⟩
    refine ⟨_, rfl, _, _, _, _, rfl, rfl, SqT.of e, a0, _, rfl, _, _, _, _, rfl, rfl, SqT.of e, a1, l, h, x, y, rfl, hl, hh, bx, by', _, rfl, ?_⟩
    unfold inR at k
    cases hxy : lt2 x y with
    | false =>
      rw [hxy, if_neg (by decide)] at k
      refine iteT ⟨_, rfl, _, rfl, _, _, _, _, rfl, rfl, SqT.of e, a0, r, l, z, x, rfl, hz, hl, bz, bx, _, rfl, ?_⟩
      cases hzx : lt2 z x with
      | true =>
        rw [hzx] at k
        exact ⟨_, rfl, iteF k⟩
      | false =>
        rw [hzx] at k
        exact ⟨_, rfl, iteT ⟨_, rfl, _, _, _, _, rfl, rfl, SqT.of e, a0, _, rfl, l, r, x, z, rfl, hl, hz, bx, bz, _, rfl, k⟩⟩
    | true =>
      rw [hxy, if_pos rfl] at k
      refine iteF ⟨_, rfl, _, _, _, _, rfl, rfl, SqT.of e, a0, _, rfl, l, r, x, z, rfl, hl, hz, bx, bz, ?_⟩
      cases hxz : lt2 x z with
      | false =>
        rw [hxz] at k
        exact ⟨_, rfl, iteF k⟩
      | true =>
        rw [hxz] at k
        exact ⟨_, rfl, iteT ⟨_, rfl, _, rfl, _, _, _, _, rfl, rfl, SqT.of e, a1, r, h, z, y, rfl, hz, hh, bz, by', k⟩⟩
theorem ok_ends (T : Txt K mg a) : FnOk P w K mg base CX0 4 a.f_ends a.d_ends ["_law_pot_here"] sp_ends2 := by
  refine T.F_ends.ok sc_ends (fun vs H Q E h => ?_) (fun cdv A outer s H vs Q E hr h => ?_)
  · obtain ⟨p, rfl, _⟩ := h
    rfl
  · obtain ⟨p, rfl, hp, k⟩ := h
    refine ⟨_, (pss_cons (ps_par (i := 1) (j := 2) rfl sc_ends.nd rfl rfl (by decide) rfl rfl (pa_cons (pe_call (ok_fraction T) (hr.mono (by decide)) (by rfl) T.m_fraction T.F_fraction.kp (b_fraction T) .nil pass0 (pa_cons (pv 0) pa_nil)) (pa_cons (pe_call (ok_fraction T) (hr.mono (by decide)) (by rfl) T.m_fraction T.F_fraction.kp (b_fraction T) .nil pass0 (pa_cons (pv 0) pa_nil)) pa_nil)) (by rfl))
 (pss_cons (ps_if (pt_cmpR op_eq (pe_call (ok_draw T) (hr.mono (by decide)) (by rfl) T.m_draw T.F_draw.kp (b_draw T) .nil pass0 (pa_cons (pv 0) (pa_cons pe_int pa_nil))) pe_int (nomark _)) (pss_one (ps_set (i := 2) sc_ends.nd rfl (by first | exact Or.inl rfl | exact Or.inr rfl) (pe_tup (pa_cons (pe_op op_mulX (pe_ix (ix_tupK (K := K) rfl) (pv 1) pe_int (fun _ _ => rfl)) pe_int) (pa_cons (pe_op op_mulX (pe_ix (ix_tupK (K := K) rfl) (pv 1) pe_int (fun _ _ => rfl)) pe_int) pa_nil))))) pss_nil)
 (pss_one (ps_ret (pe_ifExp (pt_val (pe_call (ok_less T) (hr.mono (by decide)) (by rfl) T.m_less T.F_less.kp (b_less T) .nil pass0 (pa_cons (pv 2) (pa_cons (pv 1) pa_nil)))) (pe_tup (pa_cons (pv 2) (pa_cons (pv 1) pa_nil))) (pe_tup (pa_cons (pv 1) (pa_cons (pv 2) pa_nil)))))))), ?_⟩
    refine ⟨_, rfl, p, rfl, hp, fun H1 q1 x m1 f1 n1 bx => ?_⟩
    refine ⟨_, rfl, p, rfl, m1.pot, fun H2 q2 y m2 f2 n2 by' => ?_⟩
    have f1 := f1.mov m2 m1.pot
    have as : ∀ {u v : F2}, lt2 u v = true → lt2 v u = false := fun {u v} h => by
      unfold lt2 fLt at h ⊢
      simp only [decide_eq_true_eq, decide_eq_false_iff_not] at h ⊢
      omega
    have fin : ∀ H3 q3 z, Mov p H H3 → Fq H3 q1 x → Fq H3 q3 z → Sm 3000000000 z → tRet (tIf (tB (tCall sp_less [] E0 (tCons (tVar 2) (tCons (tVar 1) tNil)))) (tTup (tCons (tVar 2) (tCons (tVar 1) tNil))) (tTup (tCons (tVar 1) (tCons (tVar 2) tNil))))
        { nx := fun x H' => Q V.non H', rt := Q } [some (.ref p), some (.ref q1), some (.ref q3)] H3 := by
      intro H3 q3 z m3 g1 g2 bz
      have bx' : Sm 3000000000 x := ⟨by have := bx.t; omega, bx.b1, by have := bx.b2; omega⟩
      have bd : ∀ {u : F2}, Sm 3000000000 u → B3 u := fun {u} s => by
        have h1 := s.t
        have h2 := s.b1
        have h3 := s.b2
        have e : (3000000000 : Nat) < 2 ^ 3000 := Nat.lt_of_lt_of_le (by decide : 3000000000 < 2 ^ 40) (Nat.pow_le_pow_right (by decide) (by decide))
        exact ⟨Nat.lt_of_le_of_lt h1 e, Nat.lt_of_le_of_lt (by omega : u.2.natAbs ≤ 3000000000) e⟩
      refine ⟨_, rfl, _, rfl, q3, q1, z, x, rfl, g2, g1, bd bz, bd bx', _, rfl, ite2 (fun h1 => ?_) (fun h1 => ?_)⟩
      · exact ⟨_, rfl, _, rfl, sz, fun r hr => k _ r z x (m3.same (Lb.Same.upd hr)) ⟨q3, q1, upd_same, g2.same (Lb.Same.upd hr), g1.same (Lb.Same.upd hr)⟩ bz bx' (as h1)⟩
      · exact ⟨_, rfl, _, rfl, sz, fun r hr => k _ r x z (m3.same (Lb.Same.upd hr)) ⟨q1, q3, upd_same, g1.same (Lb.Same.upd hr), g2.same (Lb.Same.upd hr)⟩ bx' bz (Bool.eq_false_iff.mpr h1)⟩
    have by2 : Sm 3000000000 y := ⟨by have := by'.t; omega, by'.b1, by have := by'.b2; omega⟩
    refine ⟨_, _, rfl, ?_⟩
    refine ⟨_, rfl, p, _, rfl, m2.pot, by decide, by unfold Bd; decide, fun H3 d m3 d0 d1 => ⟨rfl, _, rfl, ite2 (fun h2 => ?_) (fun h2 => ?_)⟩⟩
    · have h1 := bx.t
      have h2 := bx.b1
      have h3 := bx.b2
      have g1 := f1.mov m3 m2.pot
      have c1 : Bd 100 x.1 := by unfold Bd; omega
      have c2 : Bd 100 x.2 := by unfold Bd; omega
      refine ⟨_, rfl, _, _, _, _, rfl, rfl, SqT.of g1, Fq.a0, _, _, rfl, rfl, mulx_ok (a := 100) (b := 100) c1 (by decide) (by decide), ?_⟩
      refine ⟨_, rfl, _, _, _, _, rfl, rfl, SqT.of g1, Fq.a1, _, _, rfl, rfl, mulx_ok (a := 100) (b := 100) c2 (by decide) (by decide), sz, fun r hr => ?_⟩
      exact fin _ r (x.1 * 3, x.2 * 3) ((m1.trans (m2.trans m3)).same (Lb.Same.upd hr)) (g1.same (Lb.Same.upd hr)) upd_same ⟨by dsimp only; omega, by dsimp only; omega, by dsimp only; omega⟩
    · exact fin _ q2 y (m1.trans (m2.trans m3)) (f1.mov m3 m2.pot) (f2.mov m3 m2.pot) by2
end
end K48

set_option Elab.async false
set_option linter.all false
set_option maxRecDepth 100000
set_option maxHeartbeats 4000000
set_option exponentiation.threshold 10000
namespace K48
open PySem L2 Lb
open C8 (pss_cut)
theorem eqv_fr (x y : F2) : PyData.eqv (.tuple [.int x.1, .int x.2]) (.tuple [.int y.1, .int y.2]) = sgl x y := by
  simp [PyData.eqv, PyData.eqvAll, sgl]
  rfl
theorem eqv_ss (x y : Str) : PyData.eqv (.list [.str x, .str y]) (.list [.str x, .str y]) = true := by
  simp [PyData.eqv, PyData.eqvAll]
theorem rd_rd {n : Nat} {x : F2} (h : Low n x) : rd x.1 x.2 = x := by
  have := rd_self h.pos h.g
  exact Prod.ext this.1 this.2
def bT : Bool → Str
  | true => "True"
  | false => "False"
theorem bT_len (c : Bool) : (bT c).length ≤ 5 := by cases c <;> decide +kernel
def T3 (x y : F2) (c : Bool) : Tr := .ls [.ow (txR x.1 x.2), .ow (txR y.1 y.2), .lf (bT c)]
theorem T3_len {x y : F2} {c : Bool} (hx : B18 x) (hy : B18 y) : (T3 x y c).text.length ≤ 3000 := by
  have k1 := txR_len hx.1 hx.2
  have k2 := txR_len hy.1 hy.2
  have k3 := bT_len c
  have l1 : ("[" : Str).length = 1 := by decide +kernel
  have l2 : (", " : Str).length = 2 := by decide +kernel
  have l3 : ("]" : Str).length = 1 := by decide +kernel
  have l4 : ("" : Str).length = 0 := by decide +kernel
  show ((("[" ++ ("" : Str) ++ txR x.1 x.2) ++ ", " ++ txR y.1 y.2) ++ ", " ++ bT c ++ "]" : Str).length ≤ 3000
  simp only [strLen_append]
  omega
theorem T3_dep {x y : F2} {c : Bool} : (T3 x y c).dep + 1 ≤ 3 := by simp [T3, Tr.dep, Tr.deps]
theorem strOk_of (s : String) : PyData.strOk (Str.ofString s) = true := by
  rw [Str.ofString_eq_toList]
  unfold PyData.strOk
  rw [← Array.all_toList, List.all_eq_true]
  intro c hc
  simp only [List.mem_map] at hc
  obtain ⟨ch, _, rfl⟩ := hc
  have := ch.valid
  refine decide_eq_true ?_
  rcases this with h | h
  · exact Nat.lt_trans h (by decide)
  · exact h.2
theorem strOk_app {x y : Str} (hx : PyData.strOk x = true) (hy : PyData.strOk y = true) : PyData.strOk (x ++ y) = true := by
  unfold PyData.strOk at *
  show (x.cps ++ y.cps).all _ = true
  rw [Array.all_append, hx, hy]
  rfl
theorem txS_ok (t b : Int) : PyData.strOk (txS t b) = true := by
  unfold txS
  split
  · exact strOk_of _
  · exact strOk_app (strOk_app (strOk_of _) (strOk_of _)) (strOk_of _)
theorem txR_ok (t b : Int) : PyData.strOk (txR t b) = true := by
  unfold txR
  exact strOk_app (strOk_app (strOk_app (strOk_app (strOk_of _) (strOk_of _)) (strOk_of _)) (strOk_of _)) (strOk_of _)
theorem stS_ok (x y : F2) : PyData.strOk (stS x y) = true := by
  unfold stS
  split
  · exact strOk_app (strOk_app (strOk_of _) (txS_ok _ _)) (strOk_of _)
  · exact strOk_app (strOk_app (strOk_app (strOk_app (strOk_of _) (txS_ok _ _)) (strOk_of _)) (txS_ok _ _)) (strOk_of _)
theorem stR_ok (x y : F2) : PyData.strOk (stR x y) = true := by
  unfold stR
  exact strOk_app (strOk_app (strOk_app (strOk_app (strOk_of _) (txR_ok _ _)) (strOk_of _)) (txR_ok _ _)) (strOk_of _)
theorem ss_shaped {x y : Str} (h1 : PyData.strOk x = true) (h2 : PyData.strOk y = true) : SeqAt.shaped (.list [.str x, .str y]) = true := by
  unfold SeqAt.shaped
  simp only [PyData.canLay0, PyData.canLayAll0, h1, h2, Bool.and_true, Bool.true_and]
  simp [PyData.depth, PyData.depthAll]
theorem room3 {A : Around} {k : Nat} (h : Room k A) : A.units + 3 + 64 < cLine := by have := h.un; omega
/-- what is shown of an amount -/
def OAm (C : Addr) : Addr → Hp → Str → Prop := fun q H s => ∃ t b, AmAt C H q t b ∧ Bd 1800 t ∧ Bd 1800 b ∧ s = txR t b
theorem own_am {C : Addr} : OwnT (OAm C) := ⟨fun q H H' s e ⟨t, b, h, r⟩ => ⟨t, b, h.same e, r⟩, fun q H s ⟨t, b, ⟨dx, h⟩, _⟩ => .inl ⟨_, _, _, h⟩⟩
theorem ow_am {X : Cx} {a : Ad} {D k : Nat} (T : Txt X.K X.mg a) (hr : Room (k + D) X.A) (hk : 3 ≤ k := by decide) : OwR X D (OAm a.c_Amount) :=
  ow_repr (C := a.c_Amount) (E := E0) T.cRe.at_ T.cRe.fn ((ok_Amount_repr_ T).raw (b_Amount_repr_ T) .nil) (hr.mono (by omega)) pass0 (fun q H s ⟨t, b, h, b1, b2, e⟩ => ⟨let ⟨dx, g⟩ := h; ⟨dx, _, g⟩, fun Q k => ⟨q, t, b, rfl, h, b1, b2, fun H' s' => e ▸ k H' s'⟩⟩)
/-- a stretch and the ends that the law has of it -/
structure Ok2 (CA CS : Addr) (H : Hp) (q e : Addr) (x y : F2) : Prop where
  st : StAt CA CS H q (rd x.1 x.2) (rd y.1 y.2)
  en : Ends H e x y
  px : 0 < x.2
  py : 0 < y.2
  bx : B17 x
  bY : B17 y
theorem Ok2.same {CA CS q e : Addr} {H H' : Hp} {x y : F2} (h : Ok2 CA CS H q e x y) (s : Same H H') : Ok2 CA CS H' q e x y := ⟨h.st.same s, h.en.same s, h.px, h.py, h.bx, h.bY⟩
def sp_shown_right (CA CS : Addr) : Sp := fun vs H Q _ => ∃ (q e : Addr) (x y : F2), vs = [.ref q, .ref e] ∧ Ok2 CA CS H q e x y ∧ ∀ H', Same H H' → Q (.bl true) H'
section
variable {P : Program} {w : World} {K : PySem.W.Frag} {mg : Str → Option Value} {base : Heap} {a : Ad}
theorem ok_shown_right (T : Txt K mg a) : FnG P w K mg base CX0 10 a.f_shown_right a.d_shown_right ["_law_made", "_law_ends_here"] (sp_shown_right a.c_Amount a.c_Stretch) := by
  refine okG T.F_shown_right sc_shown_right (fun vs H Q E h => ?_) (fun cdv A outer s H vs Q E gu hr h => ?_)
  · obtain ⟨q, e, x, y, rfl, _⟩ := h
    rfl
  · obtain ⟨q, e, x, y, rfl, ok, k⟩ := h
    refine ⟨_, (pss_cons (ps_asg (pe_lc (own := [("_law_one", 4)]) (by rfl) sc_shown_right.nd (pi_tupK (K := K) rfl (pv 1)) (blkOk_by (own := [("_law_one", 4)]) (N := ["_law_made", "_law_ends_here", "_law_bottom", "_law_top", "_law_one", "_law_is_single", "_law_due"]) (sc := defScope s_shown_right) (by decide +kernel)) (fun _ _ _ _ _ => (pg_name (i := 4) sc_shown_right.nd rfl (by first | exact Or.inl rfl | exact Or.inr rfl))) (fun _ _ _ _ _ => pts_nil) (fun _ _ _ _ _ => (pe_call (ok_lowest T) (hr.mono (by decide)) (by rfl) T.m_lowest T.F_lowest.kp (b_lowest T) .nil pass0 (pa_cons (pv 4) pa_nil)))) (pg_lstK (K := K) (n := 2) rfl rfl (pgs_cons (pg_name (i := 2) sc_shown_right.nd rfl (by first | exact Or.inl rfl | exact Or.inr rfl)) (pgs_cons (pg_name (i := 3) sc_shown_right.nd rfl (by first | exact Or.inl rfl | exact Or.inr rfl)) pgs_nil))))
 (pss_cons (ps_set (i := 5) sc_shown_right.nd rfl (by first | exact Or.inl rfl | exact Or.inr rfl) (pe_cmpR (op_eqD hr.units) (pv 2) (pv 3) (nomark _)))
 (pss_cons (ps_set (i := 6) sc_shown_right.nd rfl (by first | exact Or.inl rfl | exact Or.inr rfl) (pe_lst (pa_cons (pe_make T.mkA (ok_Amount_init_ T) (hr.mono (by decide)) (by rfl) T.mA (b_Amount_init_ T) .nil pass0 (pa_cons (pe_ix (ix_tupK (K := K) rfl) (pv 2) pe_int (fun _ _ => rfl)) (pa_cons (pe_ix (ix_tupK (K := K) rfl) (pv 2) pe_int (fun _ _ => rfl)) pa_nil))) (pa_cons (pe_make T.mkA (ok_Amount_init_ T) (hr.mono (by decide)) (by rfl) T.mA (b_Amount_init_ T) .nil pass0 (pa_cons (pe_ix (ix_tupK (K := K) rfl) (pv 3) pe_int (fun _ _ => rfl)) (pa_cons (pe_ix (ix_tupK (K := K) rfl) (pv 3) pe_int (fun _ _ => rfl)) pa_nil))) (pa_cons (pv 5) pa_nil)))))
 (pss_cons (ps_if (pt_cmpR op_ne (pe_callB (call_show (K := K) (O := OAm a.c_Amount) (D := 3) rfl gu (room3 hr) own_am (ow_am T (k := 4) (hr.mono (by decide)))) (by rfl) T.b_repr (by decide +kernel) (pa_cons (pe_lst (pa_cons (pe_prop (pv 0) T.clS T.p_low (ok_Stretchlow T) (hr.mono (by decide)) (b_Stretchlow T) .nil pass0 rfl) (pa_cons (pe_prop (pv 0) T.clS T.p_high (ok_Stretchhigh T) (hr.mono (by decide)) (b_Stretchhigh T) .nil pass0 rfl) (pa_cons (pe_prop (pv 0) T.clS T.p_is_single (ok_Stretchis_single T) (hr.mono (by decide)) (b_Stretchis_single T) .nil pass0 rfl) pa_nil)))) pa_nil)) (pe_callB (call_show (K := K) (O := OAm a.c_Amount) (D := 3) rfl gu (room3 hr) own_am (ow_am T (k := 4) (hr.mono (by decide)))) (by rfl) T.b_repr (by decide +kernel) (pa_cons (pv 6) pa_nil)) (nomark _)) (pss_one (ps_ret pe_bl)) pss_nil)
 (pss_cons (ps_set (i := 6) sc_shown_right.nd rfl (by first | exact Or.inl rfl | exact Or.inr rfl) (pe_ifExp (pt_val (pv 5)) (pe_op op_add_str (pe_op op_add_str pe_str (pe_call (ok_text T) (hr.mono (by decide)) (by rfl) T.m_text T.F_text.kp (b_text T) .nil pass0 (pa_cons (pv 2) pa_nil))) pe_str) (pe_op op_add_str (pe_op op_add_str (pe_op op_add_str (pe_op op_add_str pe_str (pe_call (ok_text T) (hr.mono (by decide)) (by rfl) T.m_text T.F_text.kp (b_text T) .nil pass0 (pa_cons (pv 2) pa_nil))) pe_str) (pe_call (ok_text T) (hr.mono (by decide)) (by rfl) T.m_text T.F_text.kp (b_text T) .nil pass0 (pa_cons (pv 3) pa_nil))) pe_str)))
 (pss_one (ps_ret (pe_cmpR (op_eqD hr.units) (pe_lst (pa_cons (pe_callTy (call_strOwn (C := a.c_Stretch) T.sSt.at_ T.sSt.fn ((ok_Stretch_str_ T).raw (b_Stretch_str_ T) .nil) (hr.mono (by decide)) pass0) (by rfl) T.b_str (by decide +kernel) (pa_cons (pv 0) pa_nil)) (pa_cons (pe_callB (call_reprOwn (C := a.c_Stretch) T.sRe.at_ T.sRe.fn ((ok_Stretch_repr_ T).raw (b_Stretch_repr_ T) .nil) (hr.mono (by decide)) pass0) (by rfl) T.b_repr (by decide +kernel) (pa_cons (pv 0) pa_nil)) pa_nil))) (pe_lst (pa_cons (pv 6) (pa_cons (pe_op op_add_str (pe_op op_add_str (pe_op op_add_str (pe_op op_add_str pe_str (pe_call (ok_name T) (hr.mono (by decide)) (by rfl) T.m_name T.F_name.kp (b_name T) .nil pass0 (pa_cons (pv 2) pa_nil))) pe_str) (pe_call (ok_name T) (hr.mono (by decide)) (by rfl) T.m_name T.F_name.kp (b_name T) .nil pass0 (pa_cons (pv 3) pa_nil))) pe_str) pa_nil))) (nomark _))))))))), ?_⟩
    obtain ⟨hst, ⟨l, h, el, fl, fh⟩, px, py, bx, bY⟩ := ok
    refine ⟨_, rfl, e, rfl, ⟨_, SqT.of el⟩, fun D hD => map_tup (fun v u H => ∃ z : F2, (v = .ref l ∧ z = x ∨ v = .ref h ∧ z = y) ∧ ∃ q, u = .ref q ∧ Fq H q (rd z.1 z.2)) ?_ ?_ hD (by simp) (SqT.of el) ?_ ?_⟩
    · exact fun v u H H' s ⟨z, hz, q, e, f⟩ => ⟨z, hz, q, e, f.same s⟩
    · exact fun v u H acc o eD ⟨z, hz, q, e, f⟩ => ⟨z, hz, q, e, (upd_ne (ne_of f eD (fun h => nomatch h))).trans f⟩
    · intro i v H' ev s' Q' kq
      have b8 : ∀ {z : F2}, B17 z → B8 z := fun b => ⟨b.1.mono (by decide), b.2.mono (by decide)⟩
      rcases i with _ | _ | i
      · cases ev
        exact ⟨rfl, _, rfl, l, x, rfl, fl.same s', px, b8 bx, fun H4 q s4 f4 _ => kq _ _ s4 ⟨x, .inl ⟨rfl, rfl⟩, q, rfl, f4⟩⟩
      · cases ev
        exact ⟨rfl, _, rfl, h, y, rfl, fh.same s', py, b8 bY, fun H4 q s4 f4 _ => kq _ _ s4 ⟨y, .inr ⟨rfl, rfl⟩, q, rfl, f4⟩⟩
      · simp at ev
    intro H1 ys s1 eD pr
    cases pr with
    | cons r1 pr =>
    cases pr with
    | cons r2 pr =>
    cases pr with
    | nil =>
    obtain ⟨z1, h1, q1, rfl, f1⟩ := r1
    obtain ⟨z2, h2, q2, rfl, f2⟩ := r2
    have xy : l = h → x = y := fun e => by
      have fl := fl
      rw [e] at fl
      have := fl.symm.trans fh
      injection this with this
      injection this with this
      simp at this
      exact Prod.ext this.1 this.2
    have e1 : z1 = x := by
      rcases h1 with ⟨_, e⟩ | ⟨ev, e⟩
      · exact e
      · rw [e]
        exact (xy (V.ref.inj ev)).symm
    have e2 : z2 = y := by
      rcases h2 with ⟨ev, e⟩ | ⟨_, e⟩
      · rw [e]
        exact xy (V.ref.inj ev).symm
      · exact e
    subst e1
    subst e2
    have lx := rd_low (n := 1700) (show z1.2 ≠ 0 by omega) bx.1 bx.2
    have ly := rd_low (n := 1700) (show z2.2 ≠ 0 by omega) bY.1 bY.2
    have hst := hst.same s1
    generalize rd z1.1 z1.2 = X at *
    generalize rd z2.1 z2.2 = Y at *
    have k : ∀ H', Same H1 H' → Q (.bl true) H' := fun H' s => k H' (s1.trans s)
    clear fl fh el
    have b18 : ∀ {z : F2}, Low 1700 z → B18 z := fun l => ⟨l.t.mono (by decide), l.b.mono (by decide)⟩
    have b17 : ∀ {z : F2}, Low 1700 z → B17 z := fun l => ⟨l.t, l.b⟩
    have b8 : ∀ {z : F2}, Low 1700 z → B8 z := fun l => ⟨l.t.mono (by decide), l.b.mono (by decide)⟩
    refine ⟨_, _, rfl, SqL.of eD, rfl, _, _, rfl, _, _, rfl, rfl, ?_⟩
    refine ⟨_, rfl, _, rfl, _, _, .tup (SqT.of f1) (.cons (.int _) (.cons (.int _) .nil)), .tup (SqT.of f2) (.cons (.int _) (.cons (.int _) .nil)), rfl, rfl, ?_⟩
    rw [eqv_fr]
    have mk : ∀ {H2 : Hp} {x0 dz : Addr} {z : F2} {Q' : Hp → Prop}, Low 1700 z → H2 x0 = none → H2 dz = none → dz ≠ x0 → (∀ H', Same H2 H' → AmAt a.c_Amount H' x0 z.1 z.2 → Q' H') →
        sp_Amount_init_ a.c_Amount (V.ref x0 :: ([V.int z.1, V.int z.2] ++ [])) (upd (upd H2 dz (HO.own x0)) x0 (HO.ins a.c_Amount dz [])) (fun v H3 => v = V.non ∧ Q' H3) E0 := by
      intro H2 x0 dz z Q' lz hx hdx ne kq
      refine ⟨x0, dz, _, _, rfl, by have := lz.pos; omega, (b8 lz).1, (b8 lz).2, upd_same, fun H' kp e => ⟨rfl, ?_⟩⟩
      obtain ⟨s, m⟩ := made_am hx hdx ne kp e
      have rr := rd_self lz.pos lz.g
      rw [rr.1, rr.2] at m
      exact kq _ s m
    refine ⟨_, rfl, _, _, _, _, rfl, rfl, SqT.of f1, Fq.a0, _, rfl, _, _, _, _, rfl, rfl, SqT.of f1, Fq.a1, fun x1 d1 hx1 hd1 n1 => mk lx hx1 hd1 n1 fun H2 s2 m1 => ?_⟩
    have f2 := f2.same s2
    refine ⟨_, rfl, _, _, _, _, rfl, rfl, SqT.of f2, Fq.a0, _, rfl, _, _, _, _, rfl, rfl, SqT.of f2, Fq.a1, fun x2 d2 hx2 hd2 n2 => mk ly hx2 hd2 n2 fun H3 s3 m2 => ?_⟩
    have m1 := m1.same s3
    refine ⟨_, rfl, sz, fun L hL => ?_⟩
    have s4 : Same H3 (upd H3 L (.lst [.ref x1, .ref x2, .bl (sgl X Y)])) := Lb.Same.upd hL
    have m1 := m1.same s4
    have m2 := m2.same s4
    have S4 := s2.trans (s3.trans s4)
    have f2 := f2.same (s3.trans s4)
    have f1 := f1.same S4
    have hst := hst.same S4
    have k : ∀ H', Same (upd H3 L (.lst [.ref x1, .ref x2, .bl (sgl X Y)])) H' → Q (.bl true) H' := fun H' s => k H' (S4.trans s)
    have eL : (upd H3 L (.lst [.ref x1, .ref x2, .bl (sgl X Y)])) L = some (.lst [.ref x1, .ref x2, .bl (sgl X Y)]) := upd_same
    generalize upd H3 L (.lst [.ref x1, .ref x2, .bl (sgl X Y)]) = H4 at *
    have sh : ∀ {H' : Hp} {l r1 r2 : Addr}, H' l = some (.lst [.ref r1, .ref r2, .bl (sgl X Y)]) → AmAt a.c_Amount H' r1 X.1 X.2 → AmAt a.c_Amount H' r2 Y.1 Y.2 → Sh K (OAm a.c_Amount) H' (T3 X Y (sgl X Y)) (.ref l) := by
      intro H' l r1 r2 e a1 a2
      unfold T3
      simp only [Sh, Shs]
      refine ⟨l, _, rfl, SqL.of e, _, _, rfl, ⟨r1, rfl, _, _, a1, (b18 lx).1, (b18 lx).2, rfl⟩, _, _, rfl, ⟨r2, rfl, _, _, a2, (b18 ly).1, (b18 ly).2, rfl⟩, _, _, rfl, ?_, rfl⟩
      cases sgl X Y <;> rfl
    obtain ⟨dx, p1, p2, e0, a1, a2⟩ := hst
    have hs : StAt a.c_Amount a.c_Stretch H4 q X Y := ⟨dx, p1, p2, e0, a1, a2⟩
    refine ⟨_, rfl, q, dx, _, rfl, e0, q, X, Y, rfl, hs, fun r1 ar1 => ⟨_, rfl, q, dx, _, rfl, e0, q, X, Y, rfl, hs, fun r2 ar2 => ⟨_, rfl, q, dx, _, rfl, e0, q, X, Y, rfl, hs, sz, fun L2 hL2 => ?_⟩⟩⟩
    have s5 : Same H4 (upd H4 L2 (.lst [.ref r1, .ref r2, .bl (sgl X Y)])) := Lb.Same.upd hL2
    refine ⟨_, T3 X Y (sgl X Y), rfl, sh upd_same (ar1.same s5) (ar2.same s5), ⟨_, .inl rfl⟩, szle (by have := T3_len (c := sgl X Y) (b18 lx) (b18 ly); omega), T3_dep, fun H6 s6 => ?_⟩
    have S6 := s5.trans s6
    refine ⟨_, rfl, _, T3 X Y (sgl X Y), rfl, sh (S6 _ _ eL) (m1.same S6) (m2.same S6), ⟨_, .inl rfl⟩, szle (by have := T3_len (c := sgl X Y) (b18 lx) (b18 ly); omega), T3_dep, fun H7 s7 => ?_⟩
    have S7 := S6.trans s7
    have f1 := f1.same S7
    have f2 := f2.same S7
    have e0 := S7 _ _ e0
    have hs := hs.same S7
    have k : ∀ H', Same H7 H' → Q (.bl true) H' := fun H' s => k H' (S7.trans s)
    clear sh mk
    have z1 := txS_len (b18 lx).1 (b18 lx).2
    have z2 := txS_len (b18 ly).1 (b18 ly).2
    have z3 := txR_len (b18 lx).1 (b18 lx).2
    have z4 := txR_len (b18 ly).1 (b18 ly).2
    have z5 : ((fun x : F2 => txR x.1 x.2) X).length ≤ 1300 := z3
    have z6 : ((fun x : F2 => txR x.1 x.2) Y).length ≤ 1300 := z4
    have z7 : ((fun x : F2 => txS x.1 x.2) X).length ≤ 1300 := z1
    have z8 : ((fun x : F2 => txS x.1 x.2) Y).length ≤ 1300 := z2
    have y1 : ("[" : Str).length = 1 := by decide +kernel
    have y2 : (", " : Str).length = 2 := by decide +kernel
    have y3 : ("]" : Str).length = 1 := by decide +kernel
    have y4 : ("(" : Str).length = 1 := by decide +kernel
    have y5 : (")" : Str).length = 1 := by decide +kernel
    have y6 : ("Stretch(" : Str).length = 8 := by decide +kernel
    refine ⟨rfl, _, rfl, iteN (by simp) ?_⟩
    have tail : ∀ {H8 : Hp} {σ : List (Option V)}, Same H7 H8 → σ[0]? = some (some (.ref q)) → σ[2]? = some (some (.ref q1)) → σ[3]? = some (some (.ref q2)) → σ[6]? = some (some (.str (stS X Y))) →
        tRet (tOp (rEqD K) (tLst (tCons (tCB (rOwnTx a.c_Stretch (fun vs H Q E => sp_stx a.c_Amount a.c_Stretch stS (vs ++ []) H Q E) E0) (tCons (tVar 0) tNil)) (tCons (tCB (rOwnTx a.c_Stretch (fun vs H Q E => sp_stx a.c_Amount a.c_Stretch stR (vs ++ []) H Q E) E0) (tCons (tVar 0) tNil)) tNil)))
          (tLst (tCons (tVar 6) (tCons (tOp (fun x y H Q => ∃ i j, x = V.str i ∧ y = V.str j ∧ i.length + j.length ≤ sizeLine ∧ Q (V.str (i ++ j)) H) (tOp (fun x y H Q => ∃ i j, x = V.str i ∧ y = V.str j ∧ i.length + j.length ≤ sizeLine ∧ Q (V.str (i ++ j)) H)
            (tOp (fun x y H Q => ∃ i j, x = V.str i ∧ y = V.str j ∧ i.length + j.length ≤ sizeLine ∧ Q (V.str (i ++ j)) H) (tOp (fun x y H Q => ∃ i j, x = V.str i ∧ y = V.str j ∧ i.length + j.length ≤ sizeLine ∧ Q (V.str (i ++ j)) H) (tC (V.str "Stretch("))
              (tCall (sp_ftext fun x => txR x.1 x.2) [] E0 (tCons (tVar 2) tNil))) (tC (V.str ", "))) (tCall (sp_ftext fun x => txR x.1 x.2) [] E0 (tCons (tVar 3) tNil))) (tC (V.str ")"))) tNil))))
          { nx := fun x H' => Q V.non H', rt := Q } σ H8 := by
      intro H8 σ s8 v0 v2 v3 v6
      refine ⟨_, v0, q, dx, _, rfl, s8 _ _ e0, q, X, Y, rfl, hs.same s8, b18 lx, b18 ly, fun H9 s9 => ⟨_, rfl, ?_⟩⟩
      have S9 := s8.trans s9
      refine ⟨_, v0, q, dx, _, rfl, S9 _ _ e0, q, X, Y, rfl, hs.same S9, b18 lx, b18 ly, fun H10 s10 => ⟨_, rfl, ?_⟩⟩
      have S10 := S9.trans s10
      refine ⟨sz, fun l1 hl1 => ?_⟩
      have s11 : Same H10 (upd H10 l1 (.lst [.str (stS X Y), .str (stR X Y)])) := Lb.Same.upd hl1
      have S11 := S10.trans s11
      refine ⟨_, v6, _, v2, q1, X, rfl, f1.same S11, lx.pos, b17 lx, fun H12 s12 => ?_⟩
      have S12 := S11.trans s12
      rw [rd_rd lx]
      refine ⟨_, _, rfl, rfl, szle (by omega), _, _, rfl, rfl, ?_, _, v3, q2, Y, rfl, f2.same S12, ly.pos, b17 ly, fun H13 s13 => ?_⟩
      · rw [Str.length_append]
        exact szle (by omega)
      have S13 := S12.trans s13
      rw [rd_rd ly]
      refine ⟨_, _, rfl, rfl, ?_, _, _, rfl, rfl, ?_, sz, fun l2 hl2 => ?_⟩
      · rw [Str.length_append, Str.length_append]
        exact szle (by omega)
      · rw [Str.length_append, Str.length_append, Str.length_append]
        exact szle (by omega)
      have s14 : Same H13 (upd H13 l2 (.lst [.str (stS X Y), .str (stR X Y)])) := Lb.Same.upd hl2
      refine ⟨.list [.str (stS X Y), .str (stR X Y)], .list [.str (stS X Y), .str (stR X Y)], .lst (SqL.of ((s12.trans (s13.trans s14)) _ _ upd_same)) (.cons (.str _) (.cons (.str _) .nil)), .lst (SqL.of upd_same) (.cons (.str _) (.cons (.str _) .nil)), ss_shaped (stS_ok _ _) (stR_ok _ _), ss_shaped (stS_ok _ _) (stR_ok _ _), ?_⟩
      have e := eqv_ss (stS X Y) (stR X Y)
      have q := k _ (S13.trans s14)
      rw [← e] at q
      exact q
    refine ⟨_, rfl, _, rfl, ite2 (fun h1 => ?_) (fun h1 => ?_)⟩
    · refine ⟨_, rfl, q1, X, rfl, f1, lx.pos, b17 lx, fun H8 s8 => ?_⟩
      rw [rd_rd lx]
      refine ⟨_, _, rfl, rfl, szle (by omega), _, _, rfl, rfl, ?_, ?_⟩
      · rw [Str.length_append]
        exact szle (by omega)
      refine tail s8 rfl rfl rfl ?_
      unfold stS
      rw [if_pos h1]
      rfl
    · refine ⟨_, rfl, q1, X, rfl, f1, lx.pos, b17 lx, fun H8 s8 => ?_⟩
      rw [rd_rd lx]
      refine ⟨_, _, rfl, rfl, szle (by omega), _, _, rfl, rfl, ?_, _, rfl, q2, Y, rfl, f2.same s8, ly.pos, b17 ly, fun H9 s9 => ?_⟩
      · rw [Str.length_append]
        exact szle (by omega)
      rw [rd_rd ly]
      refine ⟨_, _, rfl, rfl, ?_, _, _, rfl, rfl, ?_, ?_⟩
      · rw [Str.length_append, Str.length_append]
        exact szle (by omega)
      · rw [Str.length_append, Str.length_append, Str.length_append]
        exact szle (by omega)
      refine tail (s8.trans s9) rfl rfl rfl ?_
      unfold stS
      rw [if_neg h1]
      rfl
end
end K48

set_option Elab.async false
set_option linter.all false
set_option maxRecDepth 100000
set_option maxHeartbeats 4000000
namespace K48
open PySem L2 Lb
theorem lt2_val {x y : F2} (px : 0 < x.2) (py : 0 < y.2) : lt2 x y = true ↔ val x < val y := by
  unfold lt2 fLt
  rw [decide_eq_true_eq]
  exact val_lt px py
theorem val_rd' {x : F2} (px : 0 < x.2) : val (rd x.1 x.2) = val x := val_rd (by omega)
theorem pos_rd {x : F2} (px : 0 < x.2) : 0 < (rd x.1 x.2).2 := (rd_spec (t := x.1) (b := x.2) (by omega)).1
theorem lt2_rd {x y : F2} (px : 0 < x.2) (py : 0 < y.2) : lt2 (rd x.1 x.2) (rd y.1 y.2) = lt2 x y := by
  rw [Bool.eq_iff_iff, lt2_val (pos_rd px) (pos_rd py), lt2_val px py, val_rd' px, val_rd' py]
theorem sgl_eq {x y : F2} : sgl x y = true ↔ x = y := by
  unfold sgl
  rw [Bool.and_eq_true, decide_eq_true_eq, decide_eq_true_eq]
  exact ⟨fun h => Prod.ext h.1 h.2, fun h => by rw [h]; exact ⟨rfl, rfl⟩⟩
theorem low_of {x : F2} (px : 0 < x.2) : ∃ n, Low n (rd x.1 x.2) := by
  have e : ∀ z : Int, ∃ n, Bd n z := fun z => ⟨z.natAbs, Nat.lt_two_pow_self⟩
  obtain ⟨n, hn⟩ := e x.1
  obtain ⟨m, hm⟩ := e x.2
  exact ⟨max n m, rd_low (by omega) (hn.mono (Nat.le_max_left _ _)) (hm.mono (Nat.le_max_right _ _))⟩
theorem sgl_rd {x y : F2} (px : 0 < x.2) (py : 0 < y.2) : sgl (rd x.1 x.2) (rd y.1 y.2) = true ↔ val x = val y := by
  rw [sgl_eq]
  obtain ⟨n, hn⟩ := low_of px
  obtain ⟨m, hm⟩ := low_of py
  constructor
  · intro h
    rw [← val_rd' px, ← val_rd' py, h]
  · intro h
    exact val_inj hn hm (by rw [val_rd' px, val_rd' py]; exact h)
theorem in_eq {x y z : F2} (px : 0 < x.2) (py : 0 < y.2) (pz : 0 < z.2) (h : lt2 y x = false) : inb (rd x.1 x.2) (rd y.1 y.2) (rd z.1 z.2) = inR x y z := by
  have hn : ¬ val y < val x := fun k => by
    rw [(lt2_val py px).mpr k] at h
    cases h
  unfold inb inR
  rw [lt2_rd px pz, lt2_rd pz py]
  by_cases e : val x = val y
  · rw [if_pos ((sgl_rd px py).mpr e)]
    have h1 : ¬ lt2 x y = true := fun k => by
      have := (lt2_val px py).mp k
      grind
    rw [if_neg h1, Bool.eq_iff_iff, sgl_rd pz px, Bool.and_eq_true, Bool.not_eq_true', Bool.not_eq_true', ← Bool.not_eq_true, ← Bool.not_eq_true, lt2_val pz px, lt2_val px pz]
    constructor
    · intro k
      grind
    · intro k
      grind
  · rw [if_neg (fun k => e ((sgl_rd px py).mp k))]
    have h1 : lt2 x y = true := (lt2_val px py).mpr (by grind)
    rw [if_pos h1]
end K48

set_option Elab.async false
set_option linter.all false
set_option maxRecDepth 100000
set_option maxHeartbeats 4000000
set_option exponentiation.threshold 10000
namespace K48
open PySem L2 Lb
open C8 (pss_cut)
def ONo : Addr → Hp → Str → Prop := fun _ _ _ => False
theorem own_no : OwnT ONo := ⟨fun _ _ _ _ _ h => h.elim, fun _ _ _ h => h.elim⟩
theorem ow_no {X : Cx} {D : Nat} : OwR X D ONo := fun _ _ _ _ _ _ _ _ _ _ _ h => h.elim
/-- the pot and a stretch -/
structure In2 (CA CS : Addr) (H : Hp) (p q e : Addr) (x y : F2) : Prop where
  pot : PotAt H p
  ok : Ok2 CA CS H q e x y
  lt : lt2 y x = false
  sx : Sm 3000000000 x
  sy : Sm 3000000000 y
def sp_in_right (CA CS : Addr) : Sp := fun vs H Q _ => ∃ (p q e : Addr) (x y : F2), vs = [.ref p, .ref q, .ref e] ∧ In2 CA CS H p q e x y ∧ ∀ H', Mov p H H' → Q (.bl true) H'
theorem shs_bools {K : PySem.W.Frag} {O : Addr → Hp → Str → Prop} {H : Hp} : ∀ bs : List Bool, Shs K O H (bs.map fun b => Tr.lf (bT b)) (bs.map V.bl)
  | [] => by simp only [List.map_nil, Shs]
  | b :: r => by
    simp only [List.map_cons, Shs]
    refine ⟨_, _, rfl, ?_, shs_bools r⟩
    simp only [Sh]
    cases b <;> rfl
def TB (bs : List Bool) : Tr := .ls (bs.map fun b => Tr.lf (bT b))
theorem sh_bools {K : PySem.W.Frag} {O : Addr → Hp → Str → Prop} {H : Hp} {l : Addr} {bs : List Bool} (e : H l = some (.lst (bs.map V.bl))) : Sh K O H (TB bs) (.ref l) := by
  unfold TB
  simp only [Sh]
  exact ⟨l, _, rfl, SqL.of e, shs_bools bs⟩
theorem piled_bools : ∀ bs : List Bool, piled (Tr.texts (bs.map fun b => Tr.lf (bT b))) ≤ 7 * bs.length
  | [] => by simp [Tr.texts, piled]
  | b :: r => by
    have h1 := piled_bools r
    have h2 := bT_len b
    simp only [List.map_cons, Tr.texts, Tr.text, piled_cons, List.length_cons]
    omega
theorem TB_len (bs : List Bool) : (TB bs).text.length ≤ 7 * bs.length + 2 := by
  have h1 := piled_bools bs
  unfold TB
  simp only [Tr.text]
  cases bs with
  | nil => decide +kernel
  | cons b r =>
    have e : ∀ (t : Str) (ts : List Str), (listText (t :: ts)).length = 2 + t.length + piled ts := by
      intro t ts
      have q := textFrom_length_pos ts 1 (("[" : Str) ++ ("" : Str) ++ t) (by decide)
      show (textFrom 1 (("[" : Str) ++ ("" : Str) ++ t) ts ++ "]").length = _
      rw [strLen_append, q]
      simp only [strLen_append]
      have l1 : ("[" : Str).length = 1 := by decide +kernel
      have l2 : ("" : Str).length = 0 := by decide +kernel
      have l3 : ("]" : Str).length = 1 := by decide +kernel
      omega
    simp only [List.map_cons, Tr.texts, piled_cons] at h1 ⊢
    rw [e]
    omega
theorem TB_dep (bs : List Bool) : (TB bs).dep + 1 ≤ 3 := by
  have : ∀ bs : List Bool, Tr.deps (bs.map fun b => Tr.lf (bT b)) = 0 := by
    intro bs
    induction bs with
    | nil => rfl
    | cons b r ih => simp only [List.map_cons, Tr.deps, Tr.dep, ih, Nat.max_self]
  unfold TB
  simp only [Tr.dep, this]
  decide
theorem paired_fun {R : V → V → Prop} (h : ∀ v u u', R v u → R v u' → u = u') : ∀ {vs us ws : List V}, Paired R vs us → Paired R vs ws → us = ws
  | _, _, _, .nil, .nil => rfl
  | _, _, _, .cons r t, .cons r' t' => by rw [h _ _ _ r r', paired_fun h t t']
theorem paired_bools {R : V → V → Prop} (h : ∀ v u, R v u → ∃ b, u = .bl b) : ∀ {vs us : List V}, Paired R vs us → ∃ bs : List Bool, us = bs.map V.bl ∧ bs.length = vs.length
  | _, _, .nil => ⟨[], rfl, rfl⟩
  | _, _, .cons r t => by
    obtain ⟨b, rfl⟩ := h _ _ r
    obtain ⟨bs, rfl, e⟩ := paired_bools h t
    exact ⟨b :: bs, rfl, by simp [e]⟩
theorem Fq.one {H : Hp} {q : Addr} {x y : F2} (h : Fq H q x) (h' : Fq H q y) : x = y := by
  have e := h.symm.trans h'
  injection e with e
  injection e with e
  simp at e
  exact Prod.ext e.1 e.2
theorem paired_const {R : V → V → Prop} {w : V} (h : ∀ v u, R v u → u = w) : ∀ {vs us : List V}, Paired R vs us → us = vs.map fun _ => w
  | _, _, .nil => rfl
  | _, _, .cons r t => by rw [h _ _ r, paired_const h t]; rfl
/-! [f(x) for x in l], the pot turned by f -/
def MapM (R : V → V → Prop) (p : Addr) (H1 : Hp) (D : Addr) (xs : List V) (i : Nat) (H : Hp) : Prop :=
  Mov p H1 H ∧ ∃ acc, H D = some (.lst acc) ∧ acc.length = i ∧ Paired R (xs.take i) acc
theorem mov_upd {p D : Addr} {H H' : Hp} {o : HO} (m : Mov p H H') (hp : PotAt H p) (hD : H D = none) : Mov p H (upd H' D o) := by
  have ne : D ≠ p := by
    obtain ⟨_, _, e, _⟩ := hp
    exact (ne_of_none e hD).symm
  refine ⟨fun b u n e => ?_, ?_⟩
  · rw [upd_ne (ne_of_none e hD)]
    exact m.keep _ _ n e
  · obtain ⟨x, y, e, r⟩ := m.pot
    exact ⟨x, y, by rw [upd_ne ne.symm]; exact e, r⟩
theorem map_mov {K : PySem.W.Frag} {a D p : Addr} {xs : List V} {g : TG} {te : TE} {vs : List Nat} {σ : L2.St} {H1 : Hp} {Qd : Hp → Prop} (R : V → V → Prop) (hp : PotAt H1 p) (hD : H1 D = none) (hlen : xs.length ≤ 1000) (hS : SqL K H1 a xs) (na : a ≠ p)
    (hs : ∀ (i : Nat) (x : V) (H : Hp), xs[i]? = some x → Mov p H1 H → ∀ Q' : VK, (∀ y H4, Mov p H H4 → R x y → Q' y H4) → g x (wipe σ vs) H fun σ2 H2 => wipe σ2 vs = wipe σ vs ∧ te σ2 H2 Q')
    (hd : ∀ H ys, Mov p H1 H → H D = some (.lst ys) → Paired R xs ys → Qd H) :
    ∃ W : Nat → Nat → Hp → Prop, (∃ m, W 0 m (upd H1 D (.lst []))) ∧ ∀ i m H, W i m H →
      ((Itl K a).stop i H ∧ Qd H) ∨ ((Itl K a).go i H ∧ ∃ Nx : Hp → Prop, (∀ H', Nx H' → ∃ m', m' < m ∧ W (i + 1) m' H') ∧ ∀ x H', (Itl K a).yld i H x H' → g x (wipe σ vs) H' fun σ2 H2 => wipe σ2 vs = wipe σ vs ∧ tYes σ2 H2 fun b H3 =>
        if b = true then te σ2 H3 fun y H4 => ∃ acc, H4 D = some (.lst acc) ∧ acc.length < sizeLine ∧ Nx (upd H4 D (.lst (acc ++ [y]))) else Nx H3) := by
  have nD : D ≠ p := by
    obtain ⟨_, _, e, _⟩ := hp
    exact (ne_of_none e hD).symm
  refine lc_list (Qd := Qd) (MapM R p H1 D xs) ⟨mov_upd (Mov.refl hp) hp hD, [], upd_same, rfl, .nil⟩ (fun i H _ q => SqL.mov q.1 na hS) (fun i x H e q => ?_) fun H q => let ⟨s, acc, ed, el, pr⟩ := q; hd H acc s ed (by rw [List.take_length] at pr; exact pr)
  obtain ⟨s, acc, ed, el, pr⟩ := q
  have hi : i < xs.length := by
    rcases Nat.lt_or_ge i xs.length with h | h
    · exact h
    · rw [List.getElem?_eq_none h] at e
      cases e
  refine hs i x H e s (fun y H4 => ∃ acc, H4 D = some (.lst acc) ∧ acc.length < sizeLine ∧ MapM R p H1 D xs (i + 1) (upd H4 D (.lst (acc ++ [y])))) fun y H4 s4 r4 => ?_
  refine ⟨acc, s4.keep _ _ nD ed, szlt (by omega), mov_upd (s.trans s4) hp hD, _, upd_same, by simp [el], ?_⟩
  have et : xs.take (i + 1) = xs.take i ++ [x] := by simp [List.take_add_one, e]
  rw [et]
  exact paired_snoc r4 pr
section
variable {P : Program} {w : World} {K : PySem.W.Frag} {mg : Str → Option Value} {base : Heap} {a : Ad}
theorem ok_in_right (T : Txt K mg a) : FnG P w K mg base CX0 8 a.f_in_right a.d_in_right ["_law_pot_here", "_law_made", "_law_ends_here"] (sp_in_right a.c_Amount a.c_Stretch) := by
  refine okG T.F_in_right sc_in_right (fun vs H Q E h => ?_) (fun cdv A outer s H vs Q E gu hr h => ?_)
  · obtain ⟨p, q, e, x, y, rfl, _⟩ := h
    rfl
  · obtain ⟨p, q, e, x, y, rfl, ⟨hp, ok, hlt, sx, sy⟩, k⟩ := h
    refine ⟨_, (pss_cons (ps_asg (pv 2) (pg_tupK (K := K) (n := 2) rfl rfl (pgs_cons (pg_name (i := 3) sc_in_right.nd rfl (by first | exact Or.inl rfl | exact Or.inr rfl)) (pgs_cons (pg_name (i := 4) sc_in_right.nd rfl (by first | exact Or.inl rfl | exact Or.inr rfl)) pgs_nil))))
 (pss_cons (ps_set (i := 5) sc_in_right.nd rfl (by first | exact Or.inl rfl | exact Or.inr rfl) (pe_lst (pa_cons (pv 3) (pa_cons (pv 4) (pa_cons (pe_tup (pa_cons (pe_op op_add (pe_op op_mulX (pe_ix (ix_tupK (K := K) rfl) (pv 3) pe_int (fun _ _ => rfl)) (pe_ix (ix_tupK (K := K) rfl) (pv 4) pe_int (fun _ _ => rfl))) (pe_op op_mulX (pe_ix (ix_tupK (K := K) rfl) (pv 4) pe_int (fun _ _ => rfl)) (pe_ix (ix_tupK (K := K) rfl) (pv 3) pe_int (fun _ _ => rfl)))) (pa_cons (pe_op op_mulX (pe_op op_mulX pe_int (pe_ix (ix_tupK (K := K) rfl) (pv 3) pe_int (fun _ _ => rfl))) (pe_ix (ix_tupK (K := K) rfl) (pv 4) pe_int (fun _ _ => rfl))) pa_nil))) (pa_cons (pe_tup (pa_cons (pe_op op_sub (pe_ix (ix_tupK (K := K) rfl) (pv 3) pe_int (fun _ _ => rfl)) pe_int) (pa_cons (pe_ix (ix_tupK (K := K) rfl) (pv 3) pe_int (fun _ _ => rfl)) pa_nil))) pa_nil))))))
 (pss_cons (ps_set (i := 5) sc_in_right.nd rfl (by first | exact Or.inl rfl | exact Or.inr rfl) (pe_op op_cat (pv 5) (pe_lst (pa_cons (pe_tup (pa_cons (pe_op op_add (pe_ix (ix_tupK (K := K) rfl) (pv 4) pe_int (fun _ _ => rfl)) pe_int) (pa_cons (pe_ix (ix_tupK (K := K) rfl) (pv 4) pe_int (fun _ _ => rfl)) pa_nil))) (pa_cons (pe_tup (pa_cons (pe_op op_add (pe_op op_mulX pe_int (pe_ix (ix_tupK (K := K) rfl) (pv 3) pe_int (fun _ _ => rfl))) pe_int) (pa_cons (pe_op op_mulX pe_int (pe_ix (ix_tupK (K := K) rfl) (pv 3) pe_int (fun _ _ => rfl))) pa_nil))) (pa_cons (pe_call (ok_fraction T) (hr.mono (by decide)) (by rfl) T.m_fraction T.F_fraction.kp (b_fraction T) .nil pass0 (pa_cons (pv 0) pa_nil)) (pa_cons (pe_tup (pa_cons pe_int (pa_cons pe_int pa_nil))) pa_nil)))))))
 (pss_cons (ps_setLc (i := 6) (own := [("_law_one", 7)]) rfl sc_in_right.nd rfl rfl (sw_true rfl rfl rfl (by decide +kernel)) (pi_listK (K := K) rfl (pv 5)) (blkOk_by (own := [("_law_one", 7)]) (N := ["_law_pot_here", "_law_made", "_law_ends_here", "_law_bottom", "_law_top", "_law_some", "_law_told", "_law_one", "_law_odd", "_law_thing"]) (sc := defScope s_in_right) (by decide +kernel)) (fun _ _ _ _ _ => (pg_name (i := 7) sc_in_right.nd rfl (by first | exact Or.inl rfl | exact Or.inr rfl))) (fun _ _ _ _ _ => pts_nil) (fun _ _ _ _ _ => (pe_cmpR (op_inOwn (C := a.c_Stretch) (E := E0) (K := K) rfl T.sIn.at_ T.sIn.fn ((ok_Stretch_contains_ T).raw (b_Stretch_contains_ T) .nil) (hr.mono (by decide)) pass0) (pe_call (ok_handed T) (hr.mono (by decide)) (by rfl) T.m_handed T.F_handed.kp (b_handed T) .nil pass0 (pa_cons (pv 0) (pa_cons (pv 7) pa_nil))) (pv 1) rfl)))
 (pss_cons (ps_if (pt_cmpR op_ne (pe_callB (call_show (K := K) (O := ONo) (D := 3) rfl gu (room3 hr) own_no ow_no) (by rfl) T.b_repr (by decide +kernel) (pa_cons (pv 6) pa_nil)) (pe_callB (call_show (K := K) (O := ONo) (D := 3) rfl gu (room3 hr) own_no ow_no) (by rfl) T.b_repr (by decide +kernel) (pa_cons (pe_lc (own := [("_law_one", 7)]) (by rfl) sc_in_right.nd (pi_listK (K := K) rfl (pv 5)) (blkOk_by (own := [("_law_one", 7)]) (N := ["_law_pot_here", "_law_made", "_law_ends_here", "_law_bottom", "_law_top", "_law_some", "_law_told", "_law_one", "_law_odd", "_law_thing"]) (sc := defScope s_in_right) (by decide +kernel)) (fun _ _ _ _ _ => (pg_name (i := 7) sc_in_right.nd rfl (by first | exact Or.inl rfl | exact Or.inr rfl))) (fun _ _ _ _ _ => pts_nil) (fun _ _ _ _ _ => (pe_call (ok_is_in T) (hr.mono (by decide)) (by rfl) T.m_is_in T.F_is_in.kp (b_is_in T) .nil pass0 (pa_cons (pv 2) (pa_cons (pv 7) pa_nil))))) pa_nil)) (nomark _)) (pss_one (ps_ret pe_bl)) pss_nil)
 (pss_cons (ps_set (i := 8) sc_in_right.nd rfl (by first | exact Or.inl rfl | exact Or.inr rfl) (pe_lst (pa_cons pe_non (pa_cons pe_bl (pa_cons pe_bl (pa_cons pe_str (pa_cons (pe_callTy (call_strOwn (C := a.c_Stretch) T.sSt.at_ T.sSt.fn ((ok_Stretch_str_ T).raw (b_Stretch_str_ T) .nil) (hr.mono (by decide)) pass0) (by rfl) T.b_str (by decide +kernel) (pa_cons (pv 1) pa_nil)) (pa_cons (pe_tup pa_nil) (pa_cons (pe_lst (pa_cons pe_int pa_nil)) (pa_cons pe_dnewK (pa_cons (pv 1) (pa_cons (pe_tup (pa_cons (pe_ix (ix_tupK (K := K) rfl) (pv 3) pe_int (fun _ _ => rfl)) (pa_cons (pe_ix (ix_tupK (K := K) rfl) (pv 3) pe_int (fun _ _ => rfl)) pa_nil))) pa_nil))))))))))))
 (pss_one (ps_ret (pe_cmpR op_eq (pe_callB (call_show (K := K) (O := ONo) (D := 3) rfl gu (room3 hr) own_no ow_no) (by rfl) T.b_repr (by decide +kernel) (pa_cons (pe_lc (own := [("_law_thing", 9)]) (by rfl) sc_in_right.nd (pi_listK (K := K) rfl (pv 8)) (blkOk_by (own := [("_law_thing", 9)]) (N := ["_law_pot_here", "_law_made", "_law_ends_here", "_law_bottom", "_law_top", "_law_some", "_law_told", "_law_one", "_law_odd", "_law_thing"]) (sc := defScope s_in_right) (by decide +kernel)) (fun _ _ _ _ _ => (pg_name (i := 9) sc_in_right.nd rfl (by first | exact Or.inl rfl | exact Or.inr rfl))) (fun _ _ _ _ _ => pts_nil) (fun _ _ _ _ _ => (pe_cmpR (op_inOwn (C := a.c_Stretch) (E := E0) (K := K) rfl T.sIn.at_ T.sIn.fn ((ok_Stretch_contains_ T).raw (b_Stretch_contains_ T) .nil) (hr.mono (by decide)) pass0) (pv 9) (pv 1) rfl))) pa_nil)) (pe_callB (call_show (K := K) (O := ONo) (D := 3) rfl gu (room3 hr) own_no ow_no) (by rfl) T.b_repr (by decide +kernel) (pa_cons (pe_op op_rep (pe_lst (pa_cons pe_bl pa_nil)) pe_int) pa_nil)) (nomark _)))))))))), ?_⟩
    obtain ⟨hst, ⟨l, h, el, fl, fh⟩, px, py, bx, bY⟩ := ok
    have bd : ∀ {z : Int}, z.natAbs ≤ 10 ^ 25 → Bd 100 z := fun {z} h => Nat.lt_of_le_of_lt h (by decide)
    have x1 := sx.t
    have x2 := sx.b1
    have x3 := sx.b2
    have y1 := sy.t
    have y2 := sy.b1
    have y3 := sy.b2
    have c1 : Bd 100 x.1 := bd (by omega)
    have c2 : Bd 100 x.2 := bd (by omega)
    have c3 : Bd 100 y.1 := bd (by omega)
    have c4 : Bd 100 y.2 := bd (by omega)
    refine ⟨_, rfl, _, _, rfl, SqT.of el, rfl, _, _, rfl, _, _, rfl, rfl, ?_⟩
    refine ⟨_, rfl, _, rfl, _, rfl, _, _, _, _, rfl, rfl, SqT.of fl, Fq.a0, _, rfl, _, _, _, _, rfl, rfl, SqT.of fh, Fq.a1, _, _, rfl, rfl, mulx_ok (a := 100) (b := 100) c1 c4 (by decide), ?_⟩
    refine ⟨_, rfl, _, _, _, _, rfl, rfl, SqT.of fh, Fq.a0, _, rfl, _, _, _, _, rfl, rfl, SqT.of fl, Fq.a1, _, _, rfl, rfl, mulx_ok (a := 100) (b := 100) c3 c2 (by decide), _, _, rfl, rfl, ?_⟩
    refine ⟨_, rfl, _, _, _, _, rfl, rfl, SqT.of fl, Fq.a1, _, _, rfl, rfl, mulx_ok (a := 100) (b := 100) (by decide) c2 (by decide), _, rfl, _, _, _, _, rfl, rfl, SqT.of fh, Fq.a1, _, _, rfl, rfl, mulx_ok (a := 100) (b := 100) (bd (by omega)) c4 (by decide), sz, fun t1 n1 => ?_⟩
    have s1 : Same H (upd H t1 (.tup [.int (x.1 * y.2 + y.1 * x.2), .int (2 * x.2 * y.2)])) := Lb.Same.upd n1
    have g1 : Fq (upd H t1 (.tup [.int (x.1 * y.2 + y.1 * x.2), .int (2 * x.2 * y.2)])) t1 (x.1 * y.2 + y.1 * x.2, 2 * x.2 * y.2) := upd_same
    generalize upd H t1 (.tup [.int (x.1 * y.2 + y.1 * x.2), .int (2 * x.2 * y.2)]) = H1 at *
    refine ⟨_, rfl, _, _, _, _, rfl, rfl, SqT.of (fl.same s1), Fq.a0, _, _, rfl, rfl, _, rfl, _, _, _, _, rfl, rfl, SqT.of (fl.same s1), Fq.a1, sz, fun t2 n2 => ?_⟩
    have s2 : Same H1 (upd H1 t2 (.tup [.int (x.1 - 1), .int x.2])) := Lb.Same.upd n2
    have g2 : Fq (upd H1 t2 (.tup [.int (x.1 - 1), .int x.2])) t2 (x.1 - 1, x.2) := upd_same
    have s2' := s1.trans s2
    generalize upd H1 t2 (.tup [.int (x.1 - 1), .int x.2]) = H2 at *
    refine ⟨sz, fun L1 n3 => ?_⟩
    have s3 : Same H2 (upd H2 L1 (.lst [.ref l, .ref h, .ref t1, .ref t2])) := Lb.Same.upd n3
    have e3 : (upd H2 L1 (.lst [.ref l, .ref h, .ref t1, .ref t2])) L1 = some (.lst [.ref l, .ref h, .ref t1, .ref t2]) := upd_same
    have s3' := s2'.trans s3
    have g1 := g1.same (s2.trans s3)
    have g2 := g2.same s3
    generalize upd H2 L1 (.lst [.ref l, .ref h, .ref t1, .ref t2]) = H3 at *
    refine ⟨_, rfl, _, rfl, _, _, _, _, rfl, rfl, SqT.of (fh.same s3'), Fq.a0, _, _, rfl, rfl, _, rfl, _, _, _, _, rfl, rfl, SqT.of (fh.same s3'), Fq.a1, sz, fun t3 n4 => ?_⟩
    have s4 : Same H3 (upd H3 t3 (.tup [.int (y.1 + 1), .int y.2])) := Lb.Same.upd n4
    have g3 : Fq (upd H3 t3 (.tup [.int (y.1 + 1), .int y.2])) t3 (y.1 + 1, y.2) := upd_same
    have s4' := s3'.trans s4
    generalize upd H3 t3 (.tup [.int (y.1 + 1), .int y.2]) = H4 at *
    refine ⟨_, rfl, _, _, _, _, rfl, rfl, SqT.of (fl.same s4'), Fq.a0, _, _, rfl, rfl, mulx_ok (a := 100) (b := 100) (by decide) c1 (by decide), _, _, rfl, rfl, _, rfl, _, _, _, _, rfl, rfl, SqT.of (fl.same s4'), Fq.a1, _, _, rfl, rfl, mulx_ok (a := 100) (b := 100) (by decide) c2 (by decide), sz, fun t4 n5 => ?_⟩
    have s5 : Same H4 (upd H4 t4 (.tup [.int (10 * x.1 + 1), .int (10 * x.2)])) := Lb.Same.upd n5
    have g4 : Fq (upd H4 t4 (.tup [.int (10 * x.1 + 1), .int (10 * x.2)])) t4 (10 * x.1 + 1, 10 * x.2) := upd_same
    have s5' := s4'.trans s5
    generalize upd H4 t4 (.tup [.int (10 * x.1 + 1), .int (10 * x.2)]) = H5 at *
    refine ⟨_, rfl, p, rfl, s5'.pot hp, fun H6 t5 z6 m6 g5 n6 b6 => ?_⟩
    refine ⟨sz, fun t6 n7 => ?_⟩
    have hp5 := s5'.pot hp
    have s7 : Same H6 (upd H6 t6 (.tup [.int 0, .int 1])) := Lb.Same.upd n7
    have g6 : Fq (upd H6 t6 (.tup [.int 0, .int 1])) t6 (0, 1) := upd_same
    have m7 : Mov p H5 (upd H6 t6 (.tup [.int 0, .int 1])) := m6.same s7
    have g5 := g5.same s7
    generalize upd H6 t6 (.tup [.int 0, .int 1]) = H7 at *
    refine ⟨sz, fun L2 n8 => ?_⟩
    have s8 : Same H7 (upd H7 L2 (.lst [.ref t3, .ref t4, .ref t5, .ref t6])) := Lb.Same.upd n8
    have e8 : (upd H7 L2 (.lst [.ref t3, .ref t4, .ref t5, .ref t6])) L2 = some (.lst [.ref t3, .ref t4, .ref t5, .ref t6]) := upd_same
    have m8 : Mov p H5 (upd H7 L2 (.lst [.ref t3, .ref t4, .ref t5, .ref t6])) := m7.same s8
    have g5 := g5.same s8
    have g6 := g6.same s8
    generalize upd H7 L2 (.lst [.ref t3, .ref t4, .ref t5, .ref t6]) = H8 at *
    have nL1 : L1 ≠ p := by
      obtain ⟨_, _, e, _⟩ := s2'.pot hp
      exact (ne_of_none e n3).symm
    refine ⟨_, _, _, _, rfl, rfl, m8.keep _ _ nL1 ((s4.trans s5) _ _ e3), e8, sz, fun L3 n9 => ?_⟩
    rw [show ([.ref l, .ref h, .ref t1, .ref t2] ++ [.ref t3, .ref t4, .ref t5, .ref t6] : List V) = [.ref l, .ref h, .ref t1, .ref t2, .ref t3, .ref t4, .ref t5, .ref t6] from rfl]
    have s9 : Same H8 (upd H8 L3 (.lst [.ref l, .ref h, .ref t1, .ref t2, .ref t3, .ref t4, .ref t5, .ref t6])) := Lb.Same.upd n9
    have e9 : (upd H8 L3 (.lst [.ref l, .ref h, .ref t1, .ref t2, .ref t3, .ref t4, .ref t5, .ref t6])) L3 = some (.lst [.ref l, .ref h, .ref t1, .ref t2, .ref t3, .ref t4, .ref t5, .ref t6]) := upd_same
    have nL3 : L3 ≠ p := by
      obtain ⟨_, _, e, _⟩ := m8.pot
      exact (ne_of_none e n9).symm
    have m9 : Mov p H5 (upd H8 L3 (.lst [.ref l, .ref h, .ref t1, .ref t2, .ref t3, .ref t4, .ref t5, .ref t6])) := m8.same s9
    have g5 := g5.same s9
    have g6 := g6.same s9
    have g1 := (g1.same (s4.trans s5)).mov m9 hp5
    have g2 := (g2.same (s4.trans s5)).mov m9 hp5
    have g3 := (g3.same s5).mov m9 hp5
    have g4 := g4.mov m9 hp5
    have fl := (fl.same s5').mov m9 hp5
    have fh := (fh.same s5').mov m9 hp5
    have el : (upd H8 L3 (.lst [.ref l, .ref h, .ref t1, .ref t2, .ref t3, .ref t4, .ref t5, .ref t6])) e = some (.tup [.ref l, .ref h]) := m9.tup hp5 (s5' _ _ el)
    have M : Mov p H (upd H8 L3 (.lst [.ref l, .ref h, .ref t1, .ref t2, .ref t3, .ref t4, .ref t5, .ref t6])) := (s5'.mov hp).trans m9
    have stm : ∀ {H' H'' : Hp} {u v : F2}, StAt a.c_Amount a.c_Stretch H' q u v → Mov p H' H'' → PotAt H' p → StAt a.c_Amount a.c_Stretch H'' q u v := fun ⟨dx, p1, p2, e, ⟨d1, a1⟩, ⟨d2, a2⟩⟩ m hp => ⟨dx, p1, p2, m.ins hp e, ⟨d1, m.ins hp a1⟩, ⟨d2, m.ins hp a2⟩⟩
    have hst := stm hst M hp
    have k : ∀ H', Mov p (upd H8 L3 (.lst [.ref l, .ref h, .ref t1, .ref t2, .ref t3, .ref t4, .ref t5, .ref t6])) H' → Q (.bl true) H' := fun H' m => k H' (M.trans m)
    have hpG := M.pot
    generalize upd H8 L3 (.lst [.ref l, .ref h, .ref t1, .ref t2, .ref t3, .ref t4, .ref t5, .ref t6]) = G at *
    have rows : ∀ v ∈ ([.ref l, .ref h, .ref t1, .ref t2, .ref t3, .ref t4, .ref t5, .ref t6] : List V), ∃ (q : Addr) (z : F2), v = .ref q ∧ Fq G q z ∧ 0 < z.2 ∧ Bd 100 z.1 ∧ Bd 100 z.2 := by
      have pxy : 0 < x.2 * y.2 := Int.mul_pos px py
      have b1 : (x.1 * y.2 + y.1 * x.2).natAbs ≤ 10 ^ 25 := by
        have h1 : (x.1 * y.2).natAbs ≤ 3000000000 * 3000000000 := by rw [Int.natAbs_mul]; exact Nat.mul_le_mul x1 (by omega)
        have h2 : (y.1 * x.2).natAbs ≤ 3000000000 * 3000000000 := by rw [Int.natAbs_mul]; exact Nat.mul_le_mul y1 (by omega)
        omega
      have b2 : (2 * x.2 * y.2).natAbs ≤ 10 ^ 25 := by
        have h1 : (x.2 * y.2).natAbs ≤ 3000000000 * 3000000000 := by rw [Int.natAbs_mul]; exact Nat.mul_le_mul (by omega) (by omega)
        rw [Int.mul_assoc]
        omega
      intro v hv
      simp only [List.mem_cons, List.not_mem_nil, or_false] at hv
      have w1 := b6.t
      have w2 := b6.b1
      have w3 := b6.b2
      rcases hv with rfl | rfl | rfl | rfl | rfl | rfl | rfl | rfl
      · exact ⟨_, _, rfl, fl, px, c1, c2⟩
      · exact ⟨_, _, rfl, fh, py, c3, c4⟩
      · exact ⟨_, _, rfl, g1, by show 0 < 2 * x.2 * y.2; rw [Int.mul_assoc]; omega, bd b1, bd b2⟩
      · exact ⟨_, _, rfl, g2, px, bd (by show (x.1 - 1).natAbs ≤ _; omega), c2⟩
      · exact ⟨_, _, rfl, g3, py, bd (by show (y.1 + 1).natAbs ≤ _; omega), c4⟩
      · exact ⟨_, _, rfl, g4, by show 0 < 10 * x.2; omega, bd (by show (10 * x.1 + 1).natAbs ≤ _; omega), bd (by show (10 * x.2).natAbs ≤ _; omega)⟩
      · exact ⟨_, _, rfl, g5, by omega, bd (by omega), bd (by omega)⟩
      · exact ⟨_, _, rfl, g6, by show (0 : Int) < 1; decide, bd (by show (0 : Int).natAbs ≤ _; decide), bd (by show (1 : Int).natAbs ≤ _; decide)⟩
    have lx := rd_low (n := 100) (show x.2 ≠ 0 by omega) c1 c2
    have ly := rd_low (n := 100) (show y.2 ≠ 0 by omega) c3 c4
    have b8l : ∀ {z : F2}, Low 100 z → B8 z := fun l => ⟨l.t.mono (by decide), l.b.mono (by decide)⟩
    have hlen : ([.ref l, .ref h, .ref t1, .ref t2, .ref t3, .ref t4, .ref t5, .ref t6] : List V).length = 8 := rfl
    generalize ([.ref l, .ref h, .ref t1, .ref t2, .ref t3, .ref t4, .ref t5, .ref t6] : List V) = vs at *
    refine ⟨_, rfl, L3, rfl, ⟨_, SqL.of e9⟩, fun D hD => map_mov (fun v u => ∃ (r : Addr) (z : F2), v = .ref r ∧ Fq G r z ∧ u = .bl (inR x y z)) hpG hD (by omega) (SqL.of e9) nL3 ?_ ?_⟩
    · intro i v H' ev m' Q' kq
      obtain ⟨r, z, rfl, gz, pz, z1, z2⟩ := rows v (List.mem_of_getElem? ev)
      have lz := rd_low (n := 100) (show z.2 ≠ 0 by omega) z1 z2
      refine ⟨rfl, _, rfl, _, rfl, p, r, z, rfl, m'.pot, gz.mov m' hpG, pz, ⟨z1.mono (by decide), z2.mono (by decide)⟩, fun H8 v8 m8 i8 => ?_⟩
      obtain ⟨dx, p1, p2, eq, a1, a2⟩ := stm hst (m'.trans m8) hpG
      refine ⟨_, rfl, q, dx, _, rfl, eq, q, _, _, v8, rfl, ⟨dx, p1, p2, eq, a1, a2⟩, b8l lx, b8l ly, .inl ⟨rd z.1 z.2, i8, b8l lz, fun H9 s9 => ⟨_, rfl, ?_⟩⟩⟩
      refine kq _ _ (m8.same s9) ⟨r, z, rfl, gz, ?_⟩
      rw [in_eq px py pz hlt]
    intro G1 us M1 eD pr
    obtain ⟨bs, rfl, hbs⟩ := paired_bools (fun v u ⟨r, z, _, _, e⟩ => ⟨_, e⟩) pr
    have tl : (TB bs).text.length ≤ sizeLine := szle (by have := TB_len bs; omega)
    refine ⟨_, rfl, _, TB bs, rfl, sh_bools eD, ⟨_, .inl rfl⟩, tl, TB_dep bs, fun G2 s10 => ?_⟩
    have M2 : Mov p G G2 := M1.same s10
    have e9' := M2.keep _ _ nL3 e9
    have b3 : ∀ {z : F2}, Bd 100 z.1 → Bd 100 z.2 → B3 z := fun h1 h2 => ⟨h1.mono (by decide), h2.mono (by decide)⟩
    refine ⟨_, rfl, L3, rfl, ⟨_, SqL.of e9'⟩, fun D2 hD2 => map_lst (fun v u _ => ∃ (r : Addr) (z : F2), v = .ref r ∧ Fq G r z ∧ u = .bl (inR x y z)) (fun _ _ _ _ _ h => h) (fun _ _ _ _ _ _ h => h) hD2 (by omega) (SqL.of e9') ?_ ?_⟩
    · intro i v H' ev s' Q' kq
      obtain ⟨r, z, rfl, gz, pz, z1, z2⟩ := rows v (List.mem_of_getElem? ev)
      have M3 := M2.same s'
      exact ⟨rfl, _, rfl, _, rfl, e, r, x, y, z, rfl, ⟨l, h, M3.tup hpG el, fl.mov M3 hpG, fh.mov M3 hpG⟩, gz.mov M3 hpG, b3 c1 c2, b3 c3 c4, b3 z1 z2, kq _ _ (Same.refl _) ⟨r, z, rfl, gz, rfl⟩⟩
    intro G3 us2 s11 eD2 pr2
    have eu : us2 = bs.map V.bl := paired_fun (fun v u u' ⟨r, z, e1, g1, e2⟩ ⟨r', z', e1', g1', e2'⟩ => by
      rw [e1] at e1'
      cases e1'
      rw [e2, e2', Fq.one g1 g1']) pr2 pr
    subst eu
    refine ⟨_, TB bs, rfl, sh_bools eD2, ⟨_, .inl rfl⟩, tl, TB_dep bs, fun G4 s12 => ⟨rfl, _, rfl, iteN (by simp) ?_⟩⟩
    have M4 : Mov p G G4 := (M2.same s11).same s12
    have hst := stm hst M4 hpG
    have fl := fl.mov M4 hpG
    have k : ∀ H', Same G4 H' → Q (.bl true) H' := fun H' s => k H' (M4.same s)
    obtain ⟨dx, p1, p2, e0, a1, a2⟩ := hst
    have hs : StAt a.c_Amount a.c_Stretch G4 q _ _ := ⟨dx, p1, p2, e0, a1, a2⟩
    have b18 : ∀ {z : F2}, Low 100 z → B18 z := fun l => ⟨l.t.mono (by decide), l.b.mono (by decide)⟩
    refine ⟨_, rfl, q, dx, _, rfl, e0, q, _, _, rfl, hs, b18 lx, b18 ly, fun G5 s13 => ⟨_, rfl, ?_⟩⟩
    refine ⟨sz, fun u1 o1 => ?_⟩
    have d1 : Same G5 (upd G5 u1 (.tup [])) := Lb.Same.upd o1
    have w1 : (upd G5 u1 (.tup [])) u1 = some (.tup []) := upd_same
    generalize upd G5 u1 (.tup []) = G6 at *
    refine ⟨sz, fun u2 o2 => ?_⟩
    have d2 : Same G6 (upd G6 u2 (.lst [.int 0])) := Lb.Same.upd o2
    have w2 : (upd G6 u2 (.lst [.int 0])) u2 = some (.lst [.int 0]) := upd_same
    generalize upd G6 u2 (.lst [.int 0]) = G7 at *
    refine fun u3 o3 => ?_
    have d3 : Same G7 (upd G7 u3 (.dK [])) := Lb.Same.upd o3
    have w3 : (upd G7 u3 (.dK [])) u3 = some (.dK []) := upd_same
    generalize upd G7 u3 (.dK []) = G8 at *
    have D8 := s13.trans (d1.trans (d2.trans d3))
    refine ⟨_, rfl, _, rfl, _, _, _, _, rfl, rfl, SqT.of (fl.same D8), Fq.a0, _, rfl, _, _, _, _, rfl, rfl, SqT.of (fl.same D8), Fq.a1, sz, fun u4 o4 => ?_⟩
    have d4 : Same G8 (upd G8 u4 (.tup [.int x.1, .int x.2])) := Lb.Same.upd o4
    have w4 : (upd G8 u4 (.tup [.int x.1, .int x.2])) u4 = some (.tup [.int x.1, .int x.2]) := upd_same
    generalize upd G8 u4 (.tup [.int x.1, .int x.2]) = G9 at *
    refine ⟨sz, fun u5 o5 => ?_⟩
    have d5 := Lb.Same.upd (o := .lst [V.non, V.bl true, V.bl false, V.str (Str.ofString "0"), V.str (stS (rd x.fst x.snd) (rd y.fst y.snd)), V.ref u1, V.ref u2, V.ref u3, V.ref q, V.ref u4]) o5
    have w5 : (upd G9 u5 (.lst [V.non, V.bl true, V.bl false, V.str (Str.ofString "0"), V.str (stS (rd x.fst x.snd) (rd y.fst y.snd)), V.ref u1, V.ref u2, V.ref u3, V.ref q, V.ref u4])) u5 = some (.lst [V.non, V.bl true, V.bl false, V.str (Str.ofString "0"), V.str (stS (rd x.fst x.snd) (rd y.fst y.snd)), V.ref u1, V.ref u2, V.ref u3, V.ref q, V.ref u4]) := upd_same
    generalize upd G9 u5 (.lst [V.non, V.bl true, V.bl false, V.str (Str.ofString "0"), V.str (stS (rd x.fst x.snd) (rd y.fst y.snd)), V.ref u1, V.ref u2, V.ref u3, V.ref q, V.ref u4]) = G10 at *
    have D10 := D8.trans (d4.trans d5)
    have odds : ∀ v ∈ [V.non, V.bl true, V.bl false, V.str (Str.ofString "0"), V.str (stS (rd x.fst x.snd) (rd y.fst y.snd)), V.ref u1, V.ref u2, V.ref u3, V.ref q, V.ref u4], OddN a.c_Stretch G10 v := by
      intro v hv
      simp only [List.mem_cons, List.not_mem_nil, or_false] at hv
      rcases hv with rfl | rfl | rfl | rfl | rfl | rfl | rfl | rfl | rfl | rfl
      · exact .non
      · exact .bl _
      · exact .bl _
      · exact .str _
      · exact .str _
      · exact .tup ((d2.trans (d3.trans (d4.trans d5))) _ _ w1)
      · exact .lst ((d3.trans (d4.trans d5)) _ _ w2)
      · exact .dct ((d4.trans d5) _ _ w3)
      · exact .sch (D10 _ _ e0)
      · exact .tup (d5 _ _ w4)
    have hs := hs.same D10
    have e0 := D10 _ _ e0
    have fin : ∀ {D3 : Addr} {G11 : Hp} {us : List V} {Qd : Hp → Prop}, Same G10 G11 → G11 D3 = some (.lst us) → Paired (fun _ u => u = V.bl false) [V.non, V.bl true, V.bl false, V.str (Str.ofString "0"), V.str (stS (rd x.fst x.snd) (rd y.fst y.snd)), V.ref u1, V.ref u2, V.ref u3, V.ref q, V.ref u4] us →
        us = (List.replicate 10 false).map V.bl := fun _ _ pr => (paired_const (fun _ _ h => h) pr).trans rfl
    have tl10 : (TB (List.replicate 10 false)).text.length ≤ sizeLine := szle (by have := TB_len (List.replicate 10 false); simp only [List.length_replicate] at this; omega)
    refine ⟨_, rfl, u5, rfl, ⟨_, SqL.of w5⟩, fun D3 hD3 => map_lst (fun _ u _ => u = V.bl false) (fun _ _ _ _ _ h => h) (fun _ _ _ _ _ _ h => h) hD3 (by simp) (SqL.of w5) ?_ ?_⟩
    · intro i v H' ev s' Q' kq
      exact ⟨rfl, _, rfl, _, rfl, q, dx, _, rfl, s' _ _ e0, q, _, _, v, rfl, hs.same s', b8l lx, b8l ly, .inr ⟨(odds v (List.mem_of_getElem? ev)).same s', _, rfl, kq _ _ (Same.refl _) rfl⟩⟩
    intro G11 us s14 eD3 pr3
    have eu := fin (Qd := fun _ => True) s14 eD3 pr3
    subst eu
    refine ⟨_, TB (List.replicate 10 false), rfl, sh_bools eD3, ⟨_, .inl rfl⟩, tl10, TB_dep _, fun G12 s15 => ?_⟩
    refine ⟨sz, fun u6 o6 => ⟨u6, 10, [.bl false], rfl, rfl, upd_same, by decide, by decide, sz, fun u7 o7 => ?_⟩⟩
    refine ⟨_, TB (List.replicate 10 false), rfl, sh_bools upd_same, ⟨_, .inl rfl⟩, tl10, TB_dep _, fun G13 s16 => ⟨rfl, ?_⟩⟩
    have q := k _ (((D10.trans s14).trans s15).trans ((Lb.Same.upd o6).trans ((Lb.Same.upd o7).trans s16)))
    have e : (decide (V.str (TB (List.replicate 10 false)).text = V.str (TB (List.replicate 10 false)).text)) = true := by simp
    rw [← e] at q
    exact q
end
end K48

set_option Elab.async false
set_option linter.all false
set_option maxRecDepth 100000
set_option maxHeartbeats 4000000
set_option exponentiation.threshold 10000
namespace K48
open PySem L2 Lb
open C8 (pss_cut)
theorem kb_Stretch_init_ {K : PySem.W.Frag} {mg : Str → Option Value} {a : Ad} (T : Txt K mg a) : KBn K a.d_Stretch_init_ ["self", "low", "high"] 1 ["low", "high"] (fun us ws => us ++ ws) (fun vs zs => vs ++ zs) :=
  kbn_of T.F_Stretch_init_ fun _ _ _ _ _ _ us ws h1 h2 => match us, ws, h1, h2 with | [_], [_, _], _, _ => rfl
theorem kb_Stretchplus {K : PySem.W.Frag} {mg : Str → Option Value} {a : Ad} (T : Txt K mg a) : KBn K a.d_Stretchplus ["self", "other"] 1 ["other"] (fun us ws => us ++ ws) (fun vs zs => vs ++ zs) :=
  kbn_of T.F_Stretchplus fun _ _ _ _ _ _ us ws h1 h2 => match us, ws, h1, h2 with | [_], [_], _, _ => rfl
theorem low_eq_val {x y : F2} (hx : ∃ n, Low n x) (hy : ∃ n, Low n y) (h : val x = val y) : x = y := let ⟨_, a⟩ := hx; let ⟨_, b⟩ := hy; val_inj a b h
theorem val_rd2 {t b : Int} (hb : 0 < b) : val (rd t b) = val (t, b) := val_rd (by omega)
theorem add_rd {x y : F2} (px : 0 < x.2) (py : 0 < y.2) : addF (rd x.1 x.2) (rd y.1 y.2) = rd (sumF x y).1 (sumF x y).2 := by
  have hx := pos_rd px
  have hy := pos_rd py
  refine low_eq_val (low_of (x := ((rd x.1 x.2).1 * (rd y.1 y.2).2 + (rd y.1 y.2).1 * (rd x.1 x.2).2, (rd x.1 x.2).2 * (rd y.1 y.2).2)) (Int.mul_pos hx hy)) (low_of (Int.mul_pos px py)) ?_
  rw [show val (addF (rd x.1 x.2) (rd y.1 y.2)) = val (rd x.1 x.2) + val (rd y.1 y.2) from val_add hx hy, show val (rd (sumF x y).1 (sumF x y).2) = val x + val y from val_add px py, val_rd' px, val_rd' py]
theorem neg_rd {x : F2} (px : 0 < x.2) : negF (rd x.1 x.2) = rd (0 - x.1) x.2 := by
  have hx := pos_rd px
  rw [Int.zero_sub]
  refine low_eq_val (low_of (x := (-(rd x.1 x.2).1, (rd x.1 x.2).2)) hx) (low_of (x := (-x.1, x.2)) px) ?_
  rw [show val (negF (rd x.1 x.2)) = val (-(rd x.1 x.2).1, (rd x.1 x.2).2) from val_rd2 hx, show val (rd (-x.1) x.2) = val (-x.1, x.2) from val_rd2 px, val_neg, val_neg, val_rd' px]
theorem not_lt2 {x y : F2} (px : 0 < x.2) (py : 0 < y.2) : lt2 y x = false ↔ ¬ val y < val x := by
  rw [← lt2_val py px, Bool.not_eq_true]
theorem sum_le {x y x' y' : F2} (px : 0 < x.2) (py : 0 < y.2) (px' : 0 < x'.2) (py' : 0 < y'.2) (h : lt2 y x = false) (h' : lt2 y' x' = false) : lt2 (sumF y y') (sumF x x') = false := by
  have e : ∀ {u v : F2}, 0 < u.2 → 0 < v.2 → val (sumF u v) = val u + val v := fun {u v} pu pv => by
    rw [← val_rd' (x := sumF u v) (Int.mul_pos pu pv)]
    exact val_add pu pv
  rw [not_lt2 (Int.mul_pos px px') (Int.mul_pos py py'), e py py', e px px']
  have h1 := (not_lt2 px py).mp h
  have h2 := (not_lt2 px' py').mp h'
  grind
theorem neg_le {x y : F2} (px : 0 < x.2) (py : 0 < y.2) (h : lt2 y x = false) : lt2 (0 - x.1, x.2) (0 - y.1, y.2) = false := by
  rw [not_lt2 (x := (0 - y.1, y.2)) (y := (0 - x.1, x.2)) py px, Int.zero_sub, Int.zero_sub, val_neg, val_neg]
  have h1 := (not_lt2 px py).mp h
  grind
theorem isP_mov {C p : Addr} {v : V} {H H' : Hp} {t b : Int} (h : IsP C H v t b) (m : Mov p H H') (hp : PotAt H p) : IsP C H' v t b := by
  rcases h with h | ⟨q, e, dx, h⟩
  · exact .inl h
  · exact .inr ⟨q, e, dx, m.ins hp h⟩
theorem stM {CA CS p q : Addr} {H H' : Hp} {u v : F2} (h : StAt CA CS H q u v) (m : Mov p H H') (hp : PotAt H p) : StAt CA CS H' q u v :=
  let ⟨dx, p1, p2, e, ⟨d1, a1⟩, ⟨d2, a2⟩⟩ := h
  ⟨dx, p1, p2, m.ins hp e, ⟨d1, m.ins hp a1⟩, ⟨d2, m.ins hp a2⟩⟩
/-- one of the law's own fractions, not too great -/
structure Cn (n : Nat) (x : F2) : Prop where
  p : 0 < x.2
  a : Bd n x.1
  b : Bd n x.2
theorem Cn.low {n : Nat} {x : F2} (c : Cn n x) : Low n (rd x.1 x.2) := rd_low (by have := c.p; omega) c.a c.b
theorem Cn.sum {n m : Nat} {x y : F2} (c : Cn n x) (d : Cn m y) : Cn (n + m + 1) (sumF x y) :=
  ⟨Int.mul_pos c.p d.p, ((c.a.mul d.b).add ((d.a.mul c.b).mono (by omega))).mono (by omega), (c.b.mul d.b).mono (by omega)⟩
theorem Cn.neg {n : Nat} {x : F2} (c : Cn n x) : Cn n (0 - x.1, x.2) := ⟨c.p, by show Bd n (0 - x.1); rw [Int.zero_sub]; exact c.a.neg, c.b⟩
theorem Cn.mono {n m : Nat} {x : F2} (c : Cn n x) (h : n ≤ m) : Cn m x := ⟨c.p, c.a.mono h, c.b.mono h⟩
theorem plus_sp {CA CS q1 q2 : Addr} {H : Hp} {Q : VK} {E : XK} {x y x' y' : F2} (h1 : StAt CA CS H q1 (rd x.1 x.2) (rd y.1 y.2)) (h2 : StAt CA CS H q2 (rd x'.1 x'.2) (rd y'.1 y'.2)) (c1 : Cn 500 x) (c2 : Cn 500 y) (c3 : Cn 500 x') (c4 : Cn 500 y')
    (l1 : lt2 y x = false) (l2 : lt2 y' x' = false) (k : ∀ H' r, Same H H' → StAt CA CS H' r (rd (sumF x x').1 (sumF x x').2) (rd (sumF y y').1 (sumF y y').2) → Q (.ref r) H') : sp_Stretchplus CA CS [.ref q1, .ref q2] H Q E := by
  have b3 : ∀ {z : F2}, Cn 500 z → B3 (rd z.1 z.2) := fun c => ⟨c.low.t.mono (by decide), c.low.b.mono (by decide)⟩
  have b8 : ∀ {z : F2}, Cn 1001 z → B8 (rd z.1 z.2) := fun c => ⟨c.low.t.mono (by decide), c.low.b.mono (by decide)⟩
  refine ⟨q1, q2, _, _, _, _, rfl, h1, h2, b3 c1, b3 c2, b3 c3, b3 c4, mul_pos_ne (pos_rd c1.p) (pos_rd c3.p), mul_pos_ne (pos_rd c2.p) (pos_rd c4.p), ?_, ?_, ?_, fun H' r s h => k H' r s ?_⟩
  · rw [add_rd c1.p c3.p]
    exact b8 (c1.sum c3)
  · rw [add_rd c2.p c4.p]
    exact b8 (c2.sum c4)
  · rw [add_rd c1.p c3.p, add_rd c2.p c4.p, lt2_rd (c2.sum c4).p (c1.sum c3).p]
    exact sum_le c1.p c2.p c3.p c4.p l1 l2
  · rw [add_rd c1.p c3.p, add_rd c2.p c4.p] at h
    exact h
theorem turn_sp {CA CS q : Addr} {H : Hp} {Q : VK} {E : XK} {x y : F2} (h1 : StAt CA CS H q (rd x.1 x.2) (rd y.1 y.2)) (c1 : Cn 1500 x) (c2 : Cn 1500 y) (l1 : lt2 y x = false)
    (k : ∀ H' r, Same H H' → StAt CA CS H' r (rd (0 - y.1) y.2) (rd (0 - x.1) x.2) → Q (.ref r) H') : sp_Stretchturned CA CS [.ref q] H Q E := by
  have b3 : ∀ {z : F2}, Cn 1500 z → B3 (rd z.1 z.2) := fun c => ⟨c.low.t.mono (by decide), c.low.b.mono (by decide)⟩
  have b8 : ∀ {z : F2}, Cn 1500 z → B8 (rd z.1 z.2) := fun c => ⟨c.low.t.mono (by decide), c.low.b.mono (by decide)⟩
  have p1 := pos_rd c1.p
  have p2 := pos_rd c2.p
  refine ⟨q, _, _, rfl, h1, b3 c1, b3 c2, by omega, by omega, ?_, ?_, ?_, fun H' r s h => k H' r s ?_⟩
  · rw [neg_rd c1.p]
    exact b8 c1.neg
  · rw [neg_rd c2.p]
    exact b8 c2.neg
  · rw [neg_rd c1.p, neg_rd c2.p]
    exact (lt2_rd (x := (0 - x.1, x.2)) (y := (0 - y.1, y.2)) c1.p c2.p).trans (neg_le c1.p c2.p l1)
  · rw [neg_rd c1.p, neg_rd c2.p] at h
    exact h
theorem nil_of {σ : List (Option V)} {H : Hp} {Q : List V → Hp → Prop} (h : Q [] H) : tNil σ H Q := h
theorem sumF_comm (x y : F2) : sumF x y = sumF y x := by
  unfold sumF
  rw [Int.add_comm, Int.mul_comm x.2 y.2]
theorem sumF_neg (x y : F2) : sumF (0 - x.1, x.2) (0 - y.1, y.2) = (0 - (sumF x y).1, (sumF x y).2) := by
  unfold sumF
  refine Prod.ext ?_ rfl
  show (0 - x.1) * y.2 + (0 - y.1) * x.2 = 0 - (x.1 * y.2 + y.1 * x.2)
  rw [Int.zero_sub, Int.zero_sub, Int.zero_sub, Int.neg_mul, Int.neg_mul, Int.neg_add]
theorem both_comm (x y u v : F2) : both x y u v = both u v x y := by
  have e : ∀ a b : F2, sgl a b = sgl b a := fun a b => by
    rw [Bool.eq_iff_iff, sgl_eq, sgl_eq]
    exact ⟨Eq.symm, Eq.symm⟩
  unfold both
  rw [e x u, e y v]
theorem eqv_ll (x y u v : F2) : PyData.eqv (.list [.tuple [.int x.1, .int x.2], .tuple [.int y.1, .int y.2]]) (.list [.tuple [.int u.1, .int u.2], .tuple [.int v.1, .int v.2]]) = both x y u v := by
  simp [PyData.eqv, PyData.eqvAll, both, sgl]
  rfl
theorem pair_low {l h : Addr} {x y : F2} {H1 H : Hp} {ys : List V} (fl : Fq H1 l x) (fh : Fq H1 h y) (pr : Paired (fun (v u : V) => ∃ z : F2, (v = .ref l ∧ z = x ∨ v = .ref h ∧ z = y) ∧ ∃ q, u = .ref q ∧ Fq H q (rd z.1 z.2)) [V.ref l, V.ref h] ys) :
    ∃ q1 q2, ys = [.ref q1, .ref q2] ∧ Fq H q1 (rd x.1 x.2) ∧ Fq H q2 (rd y.1 y.2) := by
  cases pr with
  | cons r1 pr =>
  cases pr with
  | cons r2 pr =>
  cases pr with
  | nil =>
  obtain ⟨z1, h1, q1, rfl, f1⟩ := r1
  obtain ⟨z2, h2, q2, rfl, f2⟩ := r2
  have xy : l = h → x = y := fun e => by
    rw [e] at fl
    exact Fq.one fl fh
  refine ⟨q1, q2, rfl, ?_, ?_⟩
  · rcases h1 with ⟨_, e⟩ | ⟨ev, e⟩
    · rw [← e]; exact f1
    · rw [xy (V.ref.inj ev), ← e]; exact f1
  · rcases h2 with ⟨ev, e⟩ | ⟨_, e⟩
    · rw [← xy (V.ref.inj ev).symm, ← e]; exact f2
    · rw [← e]; exact f2
theorem eqv_bbb (x y z : Bool) : PyData.eqv (.list [.bool x, .bool y, .bool z]) (.list [.bool x, .bool y, .bool z]) = true := by
  simp [PyData.eqv, PyData.eqvAll]
theorem eqv_bools : PyData.eqv (.list (List.replicate 7 (.bool false))) (.list (List.replicate 7 (.bool false))) = true := by
  simp [PyData.eqv, PyData.eqvAll, List.replicate]
theorem both_self (x y : F2) : both x y x y = true := by simp [both, sgl]
theorem stAt_ins {CA CS q : Addr} {H : Hp} {u v : F2} (h : StAt CA CS H q u v) : ∃ dx p1 p2, H q = some (.ins CS dx (st p1 p2)) := let ⟨dx, p1, p2, e, _⟩ := h; ⟨dx, p1, p2, e⟩
def sp_reckoned_right (CA CS : Addr) : Sp := fun vs H Q _ => ∃ (p q e : Addr) (x y : F2), vs = [.ref p, .ref q, .ref e] ∧ In2 CA CS H p q e x y ∧ ∀ H', Mov p H H' → Q (.bl true) H'
section
variable {P : Program} {w : World} {K : PySem.W.Frag} {mg : Str → Option Value} {base : Heap} {a : Ad}
theorem ok_reckoned_right (T : Txt K mg a) : FnG P w K mg base CX0 11 a.f_reckoned_right a.d_reckoned_right ["_law_pot_here", "_law_made", "_law_ends_here"] (sp_reckoned_right a.c_Amount a.c_Stretch) := by
  refine okG T.F_reckoned_right sc_reckoned_right (fun vs H Q E h => ?_) (fun cdv A outer s H vs Q E gu hr h => ?_)
  · obtain ⟨p, q, e, x, y, rfl, _⟩ := h
    rfl
  · obtain ⟨p, q, e, x, y, rfl, ⟨hp, ok, hlt, sx, sy⟩, k⟩ := h
    refine ⟨_, (pss_cons (ps_set (i := 3) sc_reckoned_right.nd rfl (by first | exact Or.inl rfl | exact Or.inr rfl) (pe_call (ok_ends T) (hr.mono (by decide)) (by rfl) T.m_ends T.F_ends.kp (b_ends T) .nil pass0 (pa_cons (pv 0) pa_nil)))
 (pss_cons (ps_set (i := 4) sc_reckoned_right.nd rfl (by first | exact Or.inl rfl | exact Or.inr rfl) (pe_makeK0 T.mkS (ok_Stretch_init_ T) (hr.mono (by decide)) (by rfl) T.mS (kb_Stretch_init_ T) pass0 (pk_cons (pe_call (ok_handed T) (hr.mono (by decide)) (by rfl) T.m_handed T.F_handed.kp (b_handed T) .nil pass0 (pa_cons (pv 0) (pa_cons (pe_ix (ix_tupK (K := K) rfl) (pv 3) pe_int (fun _ _ => rfl)) pa_nil))) (pk_cons (pe_call (ok_handed T) (hr.mono (by decide)) (by rfl) T.m_handed T.F_handed.kp (b_handed T) .nil pass0 (pa_cons (pv 0) (pa_cons (pe_ix (ix_tupK (K := K) rfl) (pv 3) pe_int (fun _ _ => rfl)) pa_nil))) pk_nil))))
 (pss_cons (ps_set (i := 5) sc_reckoned_right.nd rfl (by first | exact Or.inl rfl | exact Or.inr rfl) (pe_tup (pa_cons (pe_call (ok_sum T) (hr.mono (by decide)) (by rfl) T.m_sum T.F_sum.kp (b_sum T) .nil pass0 (pa_cons (pe_ix (ix_tupK (K := K) rfl) (pv 2) pe_int (fun _ _ => rfl)) (pa_cons (pe_ix (ix_tupK (K := K) rfl) (pv 3) pe_int (fun _ _ => rfl)) pa_nil))) (pa_cons (pe_call (ok_sum T) (hr.mono (by decide)) (by rfl) T.m_sum T.F_sum.kp (b_sum T) .nil pass0 (pa_cons (pe_ix (ix_tupK (K := K) rfl) (pv 2) pe_int (fun _ _ => rfl)) (pa_cons (pe_ix (ix_tupK (K := K) rfl) (pv 3) pe_int (fun _ _ => rfl)) pa_nil))) pa_nil))))
 (pss_cons (ps_set (i := 6) sc_reckoned_right.nd rfl (by first | exact Or.inl rfl | exact Or.inr rfl) (pe_tup (pa_cons (pe_tup (pa_cons (pe_op op_sub pe_int (pe_ix (ix_tupK (K := K) rfl) (pe_ix (ix_tupK (K := K) rfl) (pv 2) pe_int (fun _ _ => rfl)) pe_int (fun _ _ => rfl))) (pa_cons (pe_ix (ix_tupK (K := K) rfl) (pe_ix (ix_tupK (K := K) rfl) (pv 2) pe_int (fun _ _ => rfl)) pe_int (fun _ _ => rfl)) pa_nil))) (pa_cons (pe_tup (pa_cons (pe_op op_sub pe_int (pe_ix (ix_tupK (K := K) rfl) (pe_ix (ix_tupK (K := K) rfl) (pv 2) pe_int (fun _ _ => rfl)) pe_int (fun _ _ => rfl))) (pa_cons (pe_ix (ix_tupK (K := K) rfl) (pe_ix (ix_tupK (K := K) rfl) (pv 2) pe_int (fun _ _ => rfl)) pe_int (fun _ _ => rfl)) pa_nil))) pa_nil))))
 (pss_cons (ps_if (PW.pt (pw_or (pt_not (pt_val (pe_callG (ok_shown_right T) gu (hr.mono (by decide)) (by rfl) T.m_shown_right T.F_shown_right.kp (b_shown_right T) .nil pass0 (pa_cons (pe_methK0 (pv 1) T.clS T.mPlus (ok_Stretchplus T) (hr.mono (by decide)) (kb_Stretchplus T) pass0 (pk_cons (pv 4) pk_nil)) (pa_cons (pv 5) pa_nil))))) (pw_or1 (pt_not (pt_val (pe_callG (ok_shown_right T) gu (hr.mono (by decide)) (by rfl) T.m_shown_right T.F_shown_right.kp (b_shown_right T) .nil pass0 (pa_cons (pe_meth (pv 4) T.clS T.mPlus (ok_Stretchplus T) (hr.mono (by decide)) (b_Stretchplus T) .nil pass0 (pa_cons (pv 1) pa_nil)) (pa_cons (pv 5) pa_nil)))))))) (pss_one (ps_ret pe_bl)) pss_nil)
 (pss_cons (ps_if (PW.pt (pw_or (pt_not (pt_val (pe_callG (ok_shown_right T) gu (hr.mono (by decide)) (by rfl) T.m_shown_right T.F_shown_right.kp (b_shown_right T) .nil pass0 (pa_cons (pe_meth0 (pv 1) T.clS T.mTurned (ok_Stretchturned T) (hr.mono (by decide)) (b_Stretchturned T) .nil pass0) (pa_cons (pv 6) pa_nil))))) (pw_or1 (pt_cmpR (op_ownNe (n := 2) (C := a.c_Stretch) (K := K) rfl T.neS T.IS.cm T.sEq.at_ T.sEq.fn ((ok_Stretch_eq_ T).raw (b_Stretch_eq_ T) .nil) (hr.mono (by decide)) pass0) (pe_meth0 (pe_meth0 (pv 1) T.clS T.mTurned (ok_Stretchturned T) (hr.mono (by decide)) (b_Stretchturned T) .nil pass0) T.clS T.mTurned (ok_Stretchturned T) (hr.mono (by decide)) (b_Stretchturned T) .nil pass0) (pv 1) (nomark _))))) (pss_one (ps_ret pe_bl)) pss_nil)
 (pss_cons (ps_if (pt_cmpR (op_ownNe (n := 2) (C := a.c_Stretch) (K := K) rfl T.neS T.IS.cm T.sEq.at_ T.sEq.fn ((ok_Stretch_eq_ T).raw (b_Stretch_eq_ T) .nil) (hr.mono (by decide)) pass0) (pe_meth0 (pe_meth (pv 1) T.clS T.mPlus (ok_Stretchplus T) (hr.mono (by decide)) (b_Stretchplus T) .nil pass0 (pa_cons (pv 4) pa_nil)) T.clS T.mTurned (ok_Stretchturned T) (hr.mono (by decide)) (b_Stretchturned T) .nil pass0) (pe_meth (pe_meth0 (pv 1) T.clS T.mTurned (ok_Stretchturned T) (hr.mono (by decide)) (b_Stretchturned T) .nil pass0) T.clS T.mPlus (ok_Stretchplus T) (hr.mono (by decide)) (b_Stretchplus T) .nil pass0 (pa_cons (pe_meth0 (pv 4) T.clS T.mTurned (ok_Stretchturned T) (hr.mono (by decide)) (b_Stretchturned T) .nil pass0) pa_nil)) (nomark _)) (pss_one (ps_ret pe_bl)) pss_nil)
 (pss_cons (ps_set (i := 7) sc_reckoned_right.nd rfl (by first | exact Or.inl rfl | exact Or.inr rfl) (pe_cmpR (op_eqD hr.units) (pe_lc (own := [("_law_one", 8)]) (by rfl) sc_reckoned_right.nd (pi_tupK (K := K) rfl (pv 2)) (blkOk_by (own := [("_law_one", 8)]) (N := ["_law_pot_here", "_law_made", "_law_ends_here", "_law_more", "_law_mate", "_law_both", "_law_turned", "_law_is_same", "_law_one", "_law_odd", "_law_thing"]) (sc := defScope s_reckoned_right) (by decide +kernel)) (fun _ _ _ _ _ => (pg_name (i := 8) sc_reckoned_right.nd rfl (by first | exact Or.inl rfl | exact Or.inr rfl))) (fun _ _ _ _ _ => pts_nil) (fun _ _ _ _ _ => (pe_call (ok_lowest T) (hr.mono (by decide)) (by rfl) T.m_lowest T.F_lowest.kp (b_lowest T) .nil pass0 (pa_cons (pv 8) pa_nil)))) (pe_lc (own := [("_law_one", 8)]) (by rfl) sc_reckoned_right.nd (pi_tupK (K := K) rfl (pv 3)) (blkOk_by (own := [("_law_one", 8)]) (N := ["_law_pot_here", "_law_made", "_law_ends_here", "_law_more", "_law_mate", "_law_both", "_law_turned", "_law_is_same", "_law_one", "_law_odd", "_law_thing"]) (sc := defScope s_reckoned_right) (by decide +kernel)) (fun _ _ _ _ _ => (pg_name (i := 8) sc_reckoned_right.nd rfl (by first | exact Or.inl rfl | exact Or.inr rfl))) (fun _ _ _ _ _ => pts_nil) (fun _ _ _ _ _ => (pe_call (ok_lowest T) (hr.mono (by decide)) (by rfl) T.m_lowest T.F_lowest.kp (b_lowest T) .nil pass0 (pa_cons (pv 8) pa_nil)))) (nomark _)))
 (pss_cons (ps_if (pt_cmpR (op_neD hr.units) (pe_lst (pa_cons (pe_cmpR (op_ownCmp (n := 2) (C := a.c_Stretch) (K := K) rfl (fun _ _ => rfl) T.sEq.at_ T.sEq.fn ((ok_Stretch_eq_ T).raw (b_Stretch_eq_ T) .nil) (hr.mono (by decide)) pass0) (pv 1) (pv 4) (nomark _)) (pa_cons (pe_cmpR (op_ownCmp (n := 2) (C := a.c_Stretch) (K := K) rfl (fun _ _ => rfl) T.sEq.at_ T.sEq.fn ((ok_Stretch_eq_ T).raw (b_Stretch_eq_ T) .nil) (hr.mono (by decide)) pass0) (pv 4) (pv 1) (nomark _)) (pa_cons (pe_cmpR (op_ownNe (n := 2) (C := a.c_Stretch) (K := K) rfl T.neS T.IS.cm T.sEq.at_ T.sEq.fn ((ok_Stretch_eq_ T).raw (b_Stretch_eq_ T) .nil) (hr.mono (by decide)) pass0) (pv 1) (pv 4) (nomark _)) pa_nil)))) (pe_lst (pa_cons (pv 7) (pa_cons (pv 7) (pa_cons (pe_not (pv 7)) pa_nil)))) (nomark _)) (pss_one (ps_ret pe_bl)) pss_nil)
 (pss_cons (ps_set (i := 9) sc_reckoned_right.nd rfl (by first | exact Or.inl rfl | exact Or.inr rfl) (pe_lst (pa_cons pe_non (pa_cons pe_int (pa_cons (pe_callTy (call_strOwn (C := a.c_Stretch) T.sSt.at_ T.sSt.fn ((ok_Stretch_str_ T).raw (b_Stretch_str_ T) .nil) (hr.mono (by decide)) pass0) (by rfl) T.b_str (by decide +kernel) (pa_cons (pv 1) pa_nil)) (pa_cons (pe_callB (call_reprOwn (C := a.c_Stretch) T.sRe.at_ T.sRe.fn ((ok_Stretch_repr_ T).raw (b_Stretch_repr_ T) .nil) (hr.mono (by decide)) pass0) (by rfl) T.b_repr (by decide +kernel) (pa_cons (pv 1) pa_nil)) (pa_cons (pe_tup (pa_cons (pe_prop (pv 1) T.clS T.p_low (ok_Stretchlow T) (hr.mono (by decide)) (b_Stretchlow T) .nil pass0 rfl) (pa_cons (pe_prop (pv 1) T.clS T.p_high (ok_Stretchhigh T) (hr.mono (by decide)) (b_Stretchhigh T) .nil pass0 rfl) pa_nil))) (pa_cons (pe_lst (pa_cons (pe_prop (pv 1) T.clS T.p_low (ok_Stretchlow T) (hr.mono (by decide)) (b_Stretchlow T) .nil pass0 rfl) (pa_cons (pe_prop (pv 1) T.clS T.p_high (ok_Stretchhigh T) (hr.mono (by decide)) (b_Stretchhigh T) .nil pass0 rfl) pa_nil))) (pa_cons (pe_prop (pv 1) T.clS T.p_low (ok_Stretchlow T) (hr.mono (by decide)) (b_Stretchlow T) .nil pass0 rfl) pa_nil)))))))))
 (pss_one (ps_ret (pe_cmpR (op_eqD hr.units) (pe_lc (own := [("_law_thing", 10)]) (by rfl) sc_reckoned_right.nd (pi_listK (K := K) rfl (pv 9)) (blkOk_by (own := [("_law_thing", 10)]) (N := ["_law_pot_here", "_law_made", "_law_ends_here", "_law_more", "_law_mate", "_law_both", "_law_turned", "_law_is_same", "_law_one", "_law_odd", "_law_thing"]) (sc := defScope s_reckoned_right) (by decide +kernel)) (fun _ _ _ _ _ => (pg_name (i := 10) sc_reckoned_right.nd rfl (by first | exact Or.inl rfl | exact Or.inr rfl))) (fun _ _ _ _ _ => pts_nil) (fun _ _ _ _ _ => (pe_cmpR (op_ownCmp (n := 2) (C := a.c_Stretch) (K := K) rfl (fun _ _ => rfl) T.sEq.at_ T.sEq.fn ((ok_Stretch_eq_ T).raw (b_Stretch_eq_ T) .nil) (hr.mono (by decide)) pass0) (pv 1) (pv 10) (nomark _)))) (pe_op op_rep (pe_lst (pa_cons pe_bl pa_nil)) pe_int) (nomark _)))))))))))))), ?_⟩
    refine ⟨_, rfl, p, rfl, hp, fun H1 e2 x' y' m1 en2 sx' sy' hlt' => ?_⟩
    obtain ⟨hst, en, px, py, bx, bY⟩ := ok
    have en := en.mov m1 hp
    have hst := stM hst m1 hp
    have bd : ∀ {z : Int}, z.natAbs ≤ 10 ^ 25 → Bd 100 z := fun {z} h => Nat.lt_of_le_of_lt h (by decide)
    have sm : ∀ {z : F2}, Sm 3000000000 z → Bd 100 z.1 ∧ Bd 100 z.2 := fun s => by
      have h1 := s.t
      have h2 := s.b1
      have h3 := s.b2
      exact ⟨bd (by omega), bd (by omega)⟩
    have lw : ∀ {z : F2}, Sm 3000000000 z → Low 100 (rd z.1 z.2) := fun s => rd_low (by have := s.b1; omega) (sm s).1 (sm s).2
    have px' : 0 < x'.2 := by have := sx'.b1; omega
    have py' : 0 < y'.2 := by have := sy'.b1; omega
    have b8l : ∀ {n : Nat} {z : F2}, n ≤ 1700 → Low n z → B8 z := fun h l => ⟨l.t.mono (by omega), l.b.mono (by omega)⟩
    have b8s : ∀ {z : F2}, Sm 3000000000 z → B8 z := fun s => ⟨(sm s).1.mono (by decide), (sm s).2.mono (by decide)⟩
    have b3l : ∀ {n : Nat} {z : F2}, n ≤ 1700 → Low n z → B3 z := fun h l => ⟨l.t.mono (by omega), l.b.mono (by omega)⟩
    obtain ⟨l2, h2, em, fl2, fh2⟩ := en2
    have a0 : atI ([.ref l2, .ref h2] : List V) ((0 : Nat) : Int) = some (.ref l2) := atI_nat rfl
    have a1 : atI ([.ref l2, .ref h2] : List V) ((1 : Nat) : Int) = some (.ref h2) := atI_nat rfl
    refine ⟨_, rfl, _, rfl, _, _, _, _, rfl, rfl, SqT.of em, a0, p, l2, x', rfl, m1.pot, fl2, px', b8s sx', fun H2 v1 m2 i1 => ?_⟩
    have em := m2.tup m1.pot em
    have fl2 := fl2.mov m2 m1.pot
    have fh2 := fh2.mov m2 m1.pot
    have en := en.mov m2 m1.pot
    have hst := stM hst m2 m1.pot
    refine ⟨_, rfl, _, rfl, _, _, _, _, rfl, rfl, SqT.of em, a1, p, h2, y', rfl, m2.pot, fh2, py', b8s sy', fun H3 v2 m3 i2 => ?_⟩
    have em := m3.tup m2.pot em
    have fl2 := fl2.mov m3 m2.pot
    have fh2 := fh2.mov m3 m2.pot
    have en := en.mov m3 m2.pot
    have hst := stM hst m3 m2.pot
    have i1 := isP_mov i1 m3 m2.pot
    have M3 := m1.trans (m2.trans m3)
    refine ⟨rfl, rfl, fun q2 dz hx hdx ne => ⟨q2, dz, v1, v2, rd x'.1 x'.2, rd y'.1 y'.2, rfl, i1.same (same_new hx hdx), i2.same (same_new hx hdx), b8l (by decide) (lw sx'), b8l (by decide) (lw sy'), (lt2_rd py' px').trans hlt', upd_same, fun H4 p1 p2 kp eq b1 b2 => ⟨rfl, ?_⟩⟩⟩
    obtain ⟨s4, hst2⟩ := made_st hx hdx ne kp eq b1 b2
    have em := s4 _ _ em
    have fl2 := fl2.same s4
    have fh2 := fh2.same s4
    have hst := hst.same s4
    have M4 := M3.same s4
    obtain ⟨l, h, ee, fl, fh⟩ := en.same s4
    have k : ∀ H', Same H4 H' → Q (.bl true) H' := fun H' s => k H' (M4.same s)
    clear en M3 m1 m2 m3 i1 i2 hp
    have A0 : atI ([.ref l, .ref h] : List V) ((0 : Nat) : Int) = some (.ref l) := atI_nat rfl
    have A1 : atI ([.ref l, .ref h] : List V) ((1 : Nat) : Int) = some (.ref h) := atI_nat rfl
    have b3s : ∀ {z : F2}, Sm 3000000000 z → B3 z := fun s => ⟨(sm s).1.mono (by decide), (sm s).2.mono (by decide)⟩
    refine ⟨_, rfl, _, _, _, _, rfl, rfl, SqT.of ee, A0, _, rfl, _, _, _, _, rfl, rfl, SqT.of em, a0, l, l2, x, x', rfl, fl, fl2, b3s sx, b3s sx', fun r1 n1 => ?_⟩
    have s5 : Same H4 (upd H4 r1 (.tup [.int (sumF x x').1, .int (sumF x x').2])) := Lb.Same.upd n1
    have f1 : Fq (upd H4 r1 (.tup [.int (sumF x x').1, .int (sumF x x').2])) r1 (sumF x x') := upd_same
    generalize upd H4 r1 (.tup [.int (sumF x x').1, .int (sumF x x').2]) = H5 at *
    refine ⟨_, rfl, _, _, _, _, rfl, rfl, SqT.of (s5 _ _ ee), A1, _, rfl, _, _, _, _, rfl, rfl, SqT.of (s5 _ _ em), a1, h, h2, y, y', rfl, fh.same s5, fh2.same s5, b3s sy, b3s sy', fun r2 n2 => ?_⟩
    have s6 : Same H5 (upd H5 r2 (.tup [.int (sumF y y').1, .int (sumF y y').2])) := Lb.Same.upd n2
    have f2 : Fq (upd H5 r2 (.tup [.int (sumF y y').1, .int (sumF y y').2])) r2 (sumF y y') := upd_same
    have f1 := f1.same s6
    generalize upd H5 r2 (.tup [.int (sumF y y').1, .int (sumF y y').2]) = H6 at *
    refine ⟨sz, fun r3 n3 => ?_⟩
    have s7 : Same H6 (upd H6 r3 (.tup [.ref r1, .ref r2])) := Lb.Same.upd n3
    have enB : Ends (upd H6 r3 (.tup [.ref r1, .ref r2])) r3 (sumF x x') (sumF y y') := ⟨r1, r2, upd_same, f1.same s7, f2.same s7⟩
    have S7 := s5.trans (s6.trans s7)
    generalize upd H6 r3 (.tup [.ref r1, .ref r2]) = H7 at *
    have ee7 := S7 _ _ ee
    have fl7 := fl.same S7
    have fh7 := fh.same S7
    refine ⟨_, rfl, _, _, _, _, rfl, rfl, SqT.of ee7, A1, _, _, _, _, rfl, rfl, SqT.of fh7, Fq.a0, _, _, rfl, rfl, _, rfl, _, _, _, _, rfl, rfl, SqT.of ee7, A1, _, _, _, _, rfl, rfl, SqT.of fh7, Fq.a1, sz, fun r4 n4 => ?_⟩
    have s8 : Same H7 (upd H7 r4 (.tup [.int (0 - y.1), .int y.2])) := Lb.Same.upd n4
    have f4 : Fq (upd H7 r4 (.tup [.int (0 - y.1), .int y.2])) r4 (0 - y.1, y.2) := upd_same
    generalize upd H7 r4 (.tup [.int (0 - y.1), .int y.2]) = H8 at *
    have ee8 := s8 _ _ ee7
    have fl8 := fl7.same s8
    refine ⟨_, rfl, _, _, _, _, rfl, rfl, SqT.of ee8, A0, _, _, _, _, rfl, rfl, SqT.of fl8, Fq.a0, _, _, rfl, rfl, _, rfl, _, _, _, _, rfl, rfl, SqT.of ee8, A0, _, _, _, _, rfl, rfl, SqT.of fl8, Fq.a1, sz, fun r5 n5 => ?_⟩
    have s9 : Same H8 (upd H8 r5 (.tup [.int (0 - x.1), .int x.2])) := Lb.Same.upd n5
    have f5 : Fq (upd H8 r5 (.tup [.int (0 - x.1), .int x.2])) r5 (0 - x.1, x.2) := upd_same
    have f4 := f4.same s9
    generalize upd H8 r5 (.tup [.int (0 - x.1), .int x.2]) = H9 at *
    refine ⟨sz, fun r6 n6 => ?_⟩
    have s10 : Same H9 (upd H9 r6 (.tup [.ref r4, .ref r5])) := Lb.Same.upd n6
    have enT : Ends (upd H9 r6 (.tup [.ref r4, .ref r5])) r6 (0 - y.1, y.2) (0 - x.1, x.2) := ⟨r4, r5, upd_same, f4.same s10, f5.same s10⟩
    have S10 := s8.trans (s9.trans s10)
    generalize upd H9 r6 (.tup [.ref r4, .ref r5]) = H10 at *
    have SS := S7.trans S10
    have enB := enB.same S10
    have s10' := Same.refl H10
    have em := SS _ _ em
    have ee := SS _ _ ee
    have fl := fl.same SS
    have fh := fh.same SS
    have fl2 := fl2.same SS
    have fh2 := fh2.same SS
    have hst := hst.same SS
    have hst2 := hst2.same SS
    have k : ∀ H', Same H10 H' → Q (.bl true) H' := fun H' s => k H' (SS.trans s)
    clear f1 f2 f4 f5 ee7 ee8 fl7 fl8 fh7
    have cn : ∀ {z : F2}, Sm 3000000000 z → Cn 100 z := fun s => ⟨by have := s.b1; omega, (sm s).1, (sm s).2⟩
    have cx := cn sx
    have cy := cn sy
    have cx' := cn sx'
    have cy' := cn sy'
    have up : ∀ {z : F2}, Cn 100 z → Cn 500 z := fun c => c.mono (by decide)
    have up2 : ∀ {z : F2}, Cn 201 z → Cn 500 z := fun c => c.mono (by decide)
    have b17 : ∀ {n : Nat} {z : F2}, n ≤ 1700 → Cn n z → B17 z := fun h c => ⟨c.a.mono h, c.b.mono h⟩
    obtain ⟨dx, p1', p2', e0, t1, t2⟩ := hst
    have hst : StAt a.c_Amount a.c_Stretch H10 q (rd x.1 x.2) (rd y.1 y.2) := ⟨dx, p1', p2', e0, t1, t2⟩
    obtain ⟨dx2, q1', q2', e02, t12, t22⟩ := hst2
    have hst2 : StAt a.c_Amount a.c_Stretch H10 q2 (rd x'.1 x'.2) (rd y'.1 y'.2) := ⟨dx2, q1', q2', e02, t12, t22⟩
    have np : ∀ {u v : Addr}, (st u v).lookup ("plus" : Str) = none := fun {u v} => st_no u v (by decide +kernel) (by decide +kernel)
    have nt : ∀ {u v : Addr}, (st u v).lookup ("turned" : Str) = none := fun {u v} => st_no u v (by decide +kernel) (by decide +kernel)
    refine ⟨_, rfl, q, dx, _, rfl, e0, np, _, rfl, rfl, plus_sp hst hst2 (up cx) (up cy) (up cx') (up cy') hlt hlt' fun H11 r s11 st1 => ?_⟩
    refine ⟨_, rfl, r, r3, sumF x x', sumF y y', rfl, ⟨st1, enB.same s11, (cx.sum cx').p, (cy.sum cy').p, b17 (by decide) (cx.sum cx'), b17 (by decide) (cy.sum cy')⟩, fun H12 s12 => ⟨_, rfl, iteF ?_⟩⟩
    have S12 := s11.trans s12
    refine ⟨_, rfl, q2, dx2, _, rfl, S12 _ _ e02, np, _, rfl, nil_of (plus_sp (hst2.same S12) (hst.same S12) (up cx') (up cy') (up cx) (up cy) hlt' hlt fun H13 r7 s13 st2 => ?_)⟩
    rw [sumF_comm x' x, sumF_comm y' y] at st2
    have S13 := S12.trans s13
    refine ⟨_, rfl, r7, r3, sumF x x', sumF y y', rfl, ⟨st2, enB.same S13, (cx.sum cx').p, (cy.sum cy').p, b17 (by decide) (cx.sum cx'), b17 (by decide) (cy.sum cy')⟩, fun H14 s14 => ⟨_, rfl, iteF ?_⟩⟩
    have S14 := S13.trans s14
    refine ⟨_, rfl, q, dx, _, rfl, S14 _ _ e0, nt, nil_of (turn_sp (hst.same S14) (cx.mono (by decide)) (cy.mono (by decide)) hlt fun H15 r8 s15 st3 => ?_)⟩
    have S15 := S14.trans s15
    refine ⟨_, rfl, r8, r6, (0 - y.1, y.2), (0 - x.1, x.2), rfl, ⟨st3, enT.same (s10'.trans S15), py, px, b17 (by decide) cy.neg, b17 (by decide) cx.neg⟩, fun H16 s16 => ⟨_, rfl, iteF ?_⟩⟩
    have S16 := S15.trans s16
    have nlt : lt2 (0 - x.1, x.2) (0 - y.1, y.2) = false := neg_le px py hlt
    refine ⟨_, rfl, q, dx, _, rfl, S16 _ _ e0, nt, nil_of (turn_sp (hst.same S16) (cx.mono (by decide)) (cy.mono (by decide)) hlt fun H17 r9 s17 st4 => ?_)⟩
    obtain ⟨dx9, u9, v9, e9⟩ := stAt_ins st4
    refine ⟨r9, dx9, _, rfl, e9, nt, nil_of (turn_sp (x := (0 - y.1, y.2)) (y := (0 - x.1, x.2)) st4 (cy.neg.mono (by decide)) (cx.neg.mono (by decide)) nlt fun H18 r10 s18 st5 => ?_)⟩
    rw [show (0 : Int) - (0 - x.1) = x.1 by omega, show (0 : Int) - (0 - y.1) = y.1 by omega] at st5
    obtain ⟨dx10, u10, v10, e10⟩ := stAt_ins st5
    have S18 := S16.trans (s17.trans s18)
    refine ⟨_, rfl, r10, dx10, _, _, rfl, e10, T.IS.ty T.clS (S18 _ _ e0), Inst.nSelf, r10, _, _, _, rfl, st5, .inl ⟨q, _, _, rfl, hst.same S18, ?_⟩⟩
    rw [both_self]
    refine ⟨_, rfl, _, rfl, iteF ?_⟩
    have cs := cx.sum cx'
    have ct := cy.sum cy'
    refine ⟨_, rfl, q, dx, _, rfl, S18 _ _ e0, np, _, rfl, nil_of (plus_sp (hst.same S18) (hst2.same S18) (up cx) (up cy) (up cx') (up cy') hlt hlt' fun H19 r11 s19 st6 => ?_)⟩
    obtain ⟨dx11, u11, v11, e11⟩ := stAt_ins st6
    refine ⟨r11, dx11, _, rfl, e11, nt, nil_of (turn_sp (x := sumF x x') (y := sumF y y') st6 (cs.mono (by decide)) (ct.mono (by decide)) (sum_le px py px' py' hlt hlt') fun H20 r12 s20 st7 => ?_)⟩
    have S20 := S18.trans (s19.trans s20)
    refine ⟨_, rfl, q, dx, _, rfl, S20 _ _ e0, nt, nil_of (turn_sp (hst.same S20) (cx.mono (by decide)) (cy.mono (by decide)) hlt fun H21 r13 s21 st8 => ?_)⟩
    have S21 := S20.trans s21
    obtain ⟨dx13, u13, v13, e13⟩ := stAt_ins st8
    refine ⟨r13, dx13, _, rfl, e13, np, _, rfl, q2, dx2, _, rfl, S21 _ _ e02, nt, nil_of (turn_sp (hst2.same S21) (cx'.mono (by decide)) (cy'.mono (by decide)) hlt' fun H22 r14 s22 st9 => ?_)⟩
    refine nil_of (plus_sp (x := (0 - y.1, y.2)) (y := (0 - x.1, x.2)) (x' := (0 - y'.1, y'.2)) (y' := (0 - x'.1, x'.2)) (st8.same s22) st9 (cy.neg.mono (by decide)) (cx.neg.mono (by decide)) (cy'.neg.mono (by decide)) (cx'.neg.mono (by decide)) nlt (neg_le px' py' hlt') fun H23 r15 s23 st10 => ?_)
    rw [sumF_neg, sumF_neg] at st10
    have T23 := s21.trans (s22.trans s23)
    have st7 := st7.same T23
    have S23 := S20.trans T23
    obtain ⟨dx12, u12, v12, e12⟩ := stAt_ins st7
    obtain ⟨dx15, u15, v15, e15⟩ := stAt_ins st10
    refine ⟨r12, dx12, _, _, rfl, e12, T.IS.ty T.clS e15, Inst.nSelf, r12, _, _, _, rfl, st7, .inl ⟨r15, _, _, rfl, st10, ?_⟩⟩
    rw [both_self]
    refine ⟨_, rfl, _, rfl, iteF ?_⟩
    have ee := S23 _ _ ee
    have em := S23 _ _ em
    have fl := fl.same S23
    have fh := fh.same S23
    have fl2 := fl2.same S23
    have fh2 := fh2.same S23
    have hst := hst.same S23
    have hst2 := hst2.same S23
    have e0 := S23 _ _ e0
    have e02 := S23 _ _ e02
    have k : ∀ H', Same H23 H' → Q (.bl true) H' := fun H' s => k H' (S23.trans s)
    clear st1 st2 st3 st4 st5 st6 st7 st8 st9 st10 e9 e10 e11 e12 e13 e15 S12 S13 S14 S15 S16 S18 S20 S21 T23 enB enT
    refine ⟨_, rfl, e, rfl, ⟨_, SqT.of ee⟩, fun D hD => map_tup (fun v u H => ∃ z : F2, (v = .ref l ∧ z = x ∨ v = .ref h ∧ z = y) ∧ ∃ q, u = .ref q ∧ Fq H q (rd z.1 z.2)) ?_ ?_ hD (by simp) (SqT.of ee) ?_ ?_⟩
    · exact fun v u H H' s ⟨z, hz, q, e, f⟩ => ⟨z, hz, q, e, f.same s⟩
    · exact fun v u H acc o eD ⟨z, hz, q, e, f⟩ => ⟨z, hz, q, e, (upd_ne (ne_of f eD (fun h => nomatch h))).trans f⟩
    · intro i v H' ev s' Q' kq
      rcases i with _ | _ | i
      · cases ev
        exact ⟨rfl, _, rfl, l, x, rfl, fl.same s', px, b8s sx, fun H4 q s4 f4 _ => kq _ _ s4 ⟨x, .inl ⟨rfl, rfl⟩, q, rfl, f4⟩⟩
      · cases ev
        exact ⟨rfl, _, rfl, h, y, rfl, fh.same s', py, b8s sy, fun H4 q s4 f4 _ => kq _ _ s4 ⟨y, .inr ⟨rfl, rfl⟩, q, rfl, f4⟩⟩
      · simp at ev
    intro H24 ys s24 eD pr
    obtain ⟨q3, q4, rfl, f3, f4⟩ := pair_low fl fh pr
    refine ⟨_, rfl, e2, rfl, ⟨_, SqT.of (s24 _ _ em)⟩, fun D2 hD2 => map_tup (fun v u H => ∃ z : F2, (v = .ref l2 ∧ z = x' ∨ v = .ref h2 ∧ z = y') ∧ ∃ q, u = .ref q ∧ Fq H q (rd z.1 z.2)) ?_ ?_ hD2 (by simp) (SqT.of (s24 _ _ em)) ?_ ?_⟩
    · exact fun v u H H' s ⟨z, hz, q, e, f⟩ => ⟨z, hz, q, e, f.same s⟩
    · exact fun v u H acc o eD ⟨z, hz, q, e, f⟩ => ⟨z, hz, q, e, (upd_ne (ne_of f eD (fun h => nomatch h))).trans f⟩
    · intro i v H' ev s' Q' kq
      rcases i with _ | _ | i
      · cases ev
        exact ⟨rfl, _, rfl, l2, x', rfl, (fl2.same s24).same s', px', b8s sx', fun H4 q s4 f4 _ => kq _ _ s4 ⟨x', .inl ⟨rfl, rfl⟩, q, rfl, f4⟩⟩
      · cases ev
        exact ⟨rfl, _, rfl, h2, y', rfl, (fh2.same s24).same s', py', b8s sy', fun H4 q s4 f4 _ => kq _ _ s4 ⟨y', .inr ⟨rfl, rfl⟩, q, rfl, f4⟩⟩
      · simp at ev
    intro H25 ys2 s25 eD2 pr2
    obtain ⟨q5, q6, rfl, f5, f6⟩ := pair_low (fl2.same s24) (fh2.same s24) pr2
    have ti : ∀ {H : Hp} {q : Addr} {z : F2}, Fq H q z → Dp K H (.ref q) (.tuple [.int z.1, .int z.2]) := fun f => .tup (SqT.of f) (.cons (.int _) (.cons (.int _) .nil))
    refine ⟨_, _, .lst (SqL.of (s25 _ _ eD)) (.cons (ti (f3.same s25)) (.cons (ti (f4.same s25)) .nil)), .lst (SqL.of eD2) (.cons (ti f5) (.cons (ti f6) .nil)), rfl, rfl, ?_⟩
    rw [eqv_ll]
    have S25 := s24.trans s25
    have hst := hst.same S25
    have hst2 := hst2.same S25
    have e0 := S25 _ _ e0
    have e02 := S25 _ _ e02
    have k : ∀ H', Same H25 H' → Q (.bl true) H' := fun H' s => k H' (S25.trans s)
    refine ⟨_, rfl, _, rfl, q, dx, _, _, rfl, e0, T.IS.ty T.clS e02, Inst.nSelf, q, _, _, _, rfl, hst, .inl ⟨q2, _, _, rfl, hst2, ?_⟩⟩
    refine ⟨_, rfl, _, rfl, q2, dx2, _, _, rfl, e02, T.IS.ty T.clS e0, Inst.nSelf, q2, _, _, _, rfl, hst2, .inl ⟨q, _, _, rfl, hst, ?_⟩⟩
    rw [both_comm (rd x'.1 x'.2)]
    refine ⟨_, rfl, _, rfl, q, dx, _, _, rfl, e0, T.IS.ty T.clS e02, Inst.nSelf, q, _, _, _, rfl, hst, .inl ⟨q2, _, _, rfl, hst2, _, rfl, ?_⟩⟩
    refine ⟨sz, fun L1 n26 => ?_⟩
    have s26 := Lb.Same.upd (o := .lst [.bl (both (rd x.1 x.2) (rd y.1 y.2) (rd x'.1 x'.2) (rd y'.1 y'.2)), .bl (both (rd x.1 x.2) (rd y.1 y.2) (rd x'.1 x'.2) (rd y'.1 y'.2)), .bl (!(both (rd x.1 x.2) (rd y.1 y.2) (rd x'.1 x'.2) (rd y'.1 y'.2)))]) n26
    refine ⟨_, rfl, _, rfl, _, rfl, _, rfl, sz, fun L2 n27 => ?_⟩
    have s27 := Lb.Same.upd (o := .lst [.bl (both (rd x.1 x.2) (rd y.1 y.2) (rd x'.1 x'.2) (rd y'.1 y'.2)), .bl (both (rd x.1 x.2) (rd y.1 y.2) (rd x'.1 x'.2) (rd y'.1 y'.2)), .bl (!(both (rd x.1 x.2) (rd y.1 y.2) (rd x'.1 x'.2) (rd y'.1 y'.2)))]) n27
    refine ⟨_, _, .lst (SqL.of (s27 _ _ upd_same)) (.cons (.bl _) (.cons (.bl _) (.cons (.bl _) .nil))), .lst (SqL.of upd_same) (.cons (.bl _) (.cons (.bl _) (.cons (.bl _) .nil))), rfl, rfl, ?_⟩
    rw [eqv_bbb]
    refine ⟨_, rfl, iteF ?_⟩
    have S27 := s26.trans s27
    have hst := hst.same S27
    have e0 := S27 _ _ e0
    have k := fun H' s => k H' (S27.trans s)
    generalize upd (upd H25 L1 _) L2 _ = G at *
    have b18 : ∀ {z : F2}, Sm 3000000000 z → B18 (rd z.1 z.2) := fun s => ⟨(lw s).t.mono (by decide), (lw s).b.mono (by decide)⟩
    refine ⟨_, rfl, q, dx, _, rfl, e0, q, _, _, rfl, hst, b18 sx, b18 sy, fun G1 g1 => ⟨_, rfl, ?_⟩⟩
    refine ⟨_, rfl, q, dx, _, rfl, g1 _ _ e0, q, _, _, rfl, hst.same g1, b18 sx, b18 sy, fun G2 g2 => ⟨_, rfl, ?_⟩⟩
    have D2 := g1.trans g2
    refine ⟨_, rfl, q, dx, _, rfl, D2 _ _ e0, q, _, _, rfl, hst.same D2, fun a1 w1 => ⟨_, rfl, q, dx, _, rfl, D2 _ _ e0, q, _, _, rfl, hst.same D2, fun a2 w2 => ⟨sz, fun u1 o1 => ?_⟩⟩⟩
    have g3 : Same G2 (upd G2 u1 (.tup [.ref a1, .ref a2])) := Lb.Same.upd o1
    have x1 : (upd G2 u1 (.tup [.ref a1, .ref a2])) u1 = some (.tup [.ref a1, .ref a2]) := upd_same
    generalize upd G2 u1 (.tup [.ref a1, .ref a2]) = G3 at *
    have D3 := D2.trans g3
    refine ⟨_, rfl, q, dx, _, rfl, D3 _ _ e0, q, _, _, rfl, hst.same D3, fun a3 w3 => ⟨_, rfl, q, dx, _, rfl, D3 _ _ e0, q, _, _, rfl, hst.same D3, fun a4 w4 => ⟨sz, fun u2 o2 => ?_⟩⟩⟩
    have g4 : Same G3 (upd G3 u2 (.lst [.ref a3, .ref a4])) := Lb.Same.upd o2
    have x2 : (upd G3 u2 (.lst [.ref a3, .ref a4])) u2 = some (.lst [.ref a3, .ref a4]) := upd_same
    generalize upd G3 u2 (.lst [.ref a3, .ref a4]) = G4 at *
    have D4 := D3.trans g4
    refine ⟨_, rfl, q, dx, _, rfl, D4 _ _ e0, q, _, _, rfl, hst.same D4, fun a5 w5 => ⟨sz, fun u3 o3 => ?_⟩⟩
    have g5 := Lb.Same.upd (o := .lst [V.non, V.int 0, V.str (stS (rd x.1 x.2) (rd y.1 y.2)), V.str (stR (rd x.1 x.2) (rd y.1 y.2)), V.ref u1, V.ref u2, V.ref a5]) o3
    have x3 : (upd G4 u3 (.lst [V.non, V.int 0, V.str (stS (rd x.1 x.2) (rd y.1 y.2)), V.str (stR (rd x.1 x.2) (rd y.1 y.2)), V.ref u1, V.ref u2, V.ref a5])) u3 = some (.lst [V.non, V.int 0, V.str (stS (rd x.1 x.2) (rd y.1 y.2)), V.str (stR (rd x.1 x.2) (rd y.1 y.2)), V.ref u1, V.ref u2, V.ref a5]) := upd_same
    generalize upd G4 u3 (.lst [V.non, V.int 0, V.str (stS (rd x.1 x.2) (rd y.1 y.2)), V.str (stR (rd x.1 x.2) (rd y.1 y.2)), V.ref u1, V.ref u2, V.ref a5]) = G5 at *
    have D5 := D4.trans g5
    have odds : ∀ v ∈ [V.non, V.int 0, V.str (stS (rd x.1 x.2) (rd y.1 y.2)), V.str (stR (rd x.1 x.2) (rd y.1 y.2)), V.ref u1, V.ref u2, V.ref a5], ∀ H', Same G5 H' → ∃ t, TyOf K H' v t ∧ PySem.W.notFirst K a.c_Stretch t = true ∧ PySem.W.kitOne K t (.ref a.c_Stretch) = some false := by
      intro v hv H' s
      simp only [List.mem_cons, List.not_mem_nil, or_false] at hv
      rcases hv with rfl | rfl | rfl | rfl | rfl | rfl | rfl
      · exact ⟨_, .non, T.IS.nNone, T.IS.kNone⟩
      · exact ⟨_, .int _, T.IS.nInt, T.IS.kInt⟩
      · exact ⟨_, .str _, T.IS.nStr, T.IS.kStr⟩
      · exact ⟨_, .str _, T.IS.nStr, T.IS.kStr⟩
      · exact ⟨_, .tup ((g4.trans (g5.trans s)) _ _ x1), T.IS.nTup, T.IS.kTup⟩
      · exact ⟨_, .lst ((g5.trans s) _ _ x2), T.IS.nList, T.IS.kList⟩
      · obtain ⟨d5, w5⟩ := w5
        exact ⟨_, T.I.ty T.cl ((g5.trans s) _ _ w5), T.fSA, T.kAS⟩
    refine ⟨_, rfl, u3, rfl, ⟨_, SqL.of x3⟩, fun D3' hD3 => map_lst (fun _ u _ => u = V.bl false) (fun _ _ _ _ _ h => h) (fun _ _ _ _ _ _ h => h) hD3 (by simp) (SqL.of x3) ?_ ?_⟩
    · intro i v H' ev s' Q' kq
      obtain ⟨t, ty, nf, kt⟩ := odds v (List.mem_of_getElem? ev) H' s'
      exact ⟨rfl, _, rfl, _, rfl, q, dx, _, t, rfl, (D5.trans s') _ _ e0, ty, nf, q, _, _, v, rfl, hst.same (D5.trans s'), .inr ⟨⟨t, .base ty, kt⟩, kq _ _ (Same.refl _) rfl⟩⟩
    intro G6 us g6 eD3 pr3
    have eu : us = List.replicate 7 (V.bl false) := (paired_const (fun _ _ h => h) pr3).trans rfl
    subst eu
    refine ⟨sz, fun u6 o6 => ⟨u6, 7, [.bl false], rfl, rfl, upd_same, by decide, by decide, sz, fun u7 o7 => ?_⟩⟩
    have g7 := (Lb.Same.upd (o := .lst [.bl false]) o6).trans (Lb.Same.upd (o := .lst (List.replicate 7 [V.bl false]).flatten) o7)
    have d7 : DpAll K (upd (upd G6 u6 (.lst [.bl false])) u7 (.lst (List.replicate 7 [V.bl false]).flatten)) (List.replicate 7 (V.bl false)) (List.replicate 7 (.bool false)) :=
      .cons (.bl _) (.cons (.bl _) (.cons (.bl _) (.cons (.bl _) (.cons (.bl _) (.cons (.bl _) (.cons (.bl _) .nil))))))
    refine ⟨_, _, .lst (SqL.of (g7 _ _ eD3)) d7, .lst (SqL.of upd_same) d7, rfl, rfl, ?_⟩
    have q := k _ (D5.trans (g6.trans g7))
    rw [← eqv_bools] at q
    exact q
end
end K48

set_option Elab.async false
set_option linter.all false
set_option maxRecDepth 100000
set_option maxHeartbeats 4000000
set_option exponentiation.threshold 10000
namespace K48
open PySem L2 Lb
open C8 (pss_cut)
open LamX (ExtN CodeO)
open PySem.Spec PyProof.Rows
/-- what is shown of an amount, of an empty dict -/
def OV (C : Addr) : Addr → Hp → Str → Prop := fun q H s => OAm C q H s ∨ OEmpty q H s
theorem own_v {C : Addr} : OwnT (OV C) := own_am.or own_empty
theorem ow_v {X : Cx} {a : Ad} {D k : Nat} (T : Txt X.K X.mg a) (hr : Room (k + D) X.A) (hu : X.A.units + D + 64 < cLine) (hk : 3 ≤ k := by decide) : OwR X D (OV a.c_Amount) := (ow_am T hr hk).or (ow_empty hu)
theorem ps_ex {X : Cx} {st : Stmt} {C : XK × List (Option V) → Prop} {t : XK × List (Option V) → TS} (h : ∀ x, C x → PS X st (t x)) : PS X st (fun D σ H => ∃ x, C x ∧ t x D σ H) := ⟨fun pins s σ H D I ⟨x, c, w⟩ => (h x c).run pins s σ H D I w⟩
/-- how a refused value is shown -/
def ShV (K : PySem.W.Frag) (C : Addr) (H : Hp) (v : V) : Prop := ∃ T, Sh K (OV C) H T v ∧ T.text.length ≤ 2000 ∧ T.dep ≤ 1
theorem ShV.same {K : PySem.W.Frag} {C : Addr} {H H' : Hp} {v : V} (h : ShV K C H v) (s : Same H H') : ShV K C H' v := let ⟨T, a, b, c⟩ := h; ⟨T, Sh.same (fun a t o => own_v.mono _ _ _ _ s o) s _ _ a, b, c⟩
/-- what refused makes of an error -/
def EchR (K : PySem.W.Frag) (a : Ad) (v : V) (Q : VK) : XK := fun cls d H' => ∃ dd, d = some dd ∧ H' dd = some (.xd [("value", v)]) ∧ cls = .ref a.c_InvalidAmount ∧ ShV K a.c_Amount H' v ∧ ∀ H2, Same H' H2 → Q (.bl true) H2
def TTr (K : PySem.W.Frag) (a : Ad) : V → (XK → Hp → VK → Prop) → Hp → VK → Prop := fun v tl H Q => ∀ H1 Q', Same H H1 → tl (EchR K a v Q) H1 Q'
section
variable {P : Program} {w : World} {K : PySem.W.Frag} {mg : Str → Option Value} {base : Heap} {a : Ad}
abbrev refCx (P : Program) (w : World) (K : PySem.W.Frag) (mg : Str → Option Value) (base : Heap) (a : Ad) (cdg : Value) (A : Around) (st : List Env) (s : Shared) (H : Hp) : Cx :=
  cxOf C8.CX0 P w K mg base ["_law_query", "_law_value", "_law_told", "e"] "_law_refused" (defScope s_refused) a.f_refused cdg A st s H C8.E0
theorem refused_body (T : Txt K mg a) {A : Around} {st : List Env} {cdg : Value} {f c' : Addr} {s : Shared} {H : Hp} {q : Str} {v : V} {Q : VK} {tl : XK → Hp → VK → Prop} (gu : A.guards = some []) (hr : Room 9 A)
    (act : ∀ (W : WX) (pn : List (Addr × Obj)) (xe : Value → Shared → Prop) (E : XK) (σ0 : List (Option V)) (p1 p2 : Pos), Takes ((refCx P w K mg base a cdg A st s H).tr pn xe) W → (∀ cls d H', E cls d H' → W cls d σ0 H') →
      PE ((refCx P w K mg base a cdg A st s H).tr pn xe) (.Call (.Name "_law_query" p1) [] [] p2) (fun σZ HZ Q => σZ = σ0 ∧ σZ[0]? = some (some (.ref f)) ∧ HZ c' = some (CodeO c' q) ∧ tl E HZ Q))
    (hc : H c' = some (CodeO c' q)) (h : TTr K a v tl H Q) :
    ∃ t, PSs (refCx P w K mg base a cdg A st s H).nox (defBody s_refused) t ∧ t { nx := fun _ H' => Q .non H', rt := Q } (L2.start ["_law_query", "_law_value", "_law_told", "e"] [.ref f, v]) H := by
  have gu1 : (A.deeper (envOfC "_law_refused" (defScope s_refused) s.heap.objs.size a.f_refused cdg)).guards = some [] := by
    first
      | exact gu
      | simpa [Around.deeper] using gu
  have hr1 : Room 8 (A.deeper (envOfC "_law_refused" (defScope s_refused) s.heap.objs.size a.f_refused cdg)) := hr.deeper _
  refine ⟨_, (pss_cons (ps_set (i := 2) sc_refused.nd rfl (by first | exact Or.inl rfl | exact Or.inr rfl) (pe_lst (pa_cons pe_str pa_nil)))
 (pss_cons (ps_try_named  rfl rfl sc_refused.nd takes_none5 (fun W pn xe tk _ => (pss_one (ps_ex (C := fun x => ∀ cls d H', x.1 cls d H' → W cls d x.2 H') fun x hW => ps_expr (act _ pn xe x.1 x.2 _ _ tk hW)))) (.cons (i := 3) ⟨rfl, by decide, .inl T.xInvalidAmount.mC⟩ rfl rfl (fun e oe k dd pn hz hf => (pss_one (ps_set (i := 2) sc_refused.nd rfl (by first | exact Or.inl rfl | exact Or.inr rfl) (pe_lst (pa_cons (pe_xf T.xInvalidAmount.xf T.nInvalidAmount hz hf (pv 3)) (pa_cons (pe_and (pe_callB (call_isX T.eInvalidAmount hz hf) (by rfl) T.b_isinstance (by decide +kernel) (pa_cons (pv 3) (pa_cons (pe_glob (v := .ref a.c_PipeError) rfl T.mP rfl) pa_nil))) (pe_one (pe_callB (call_isX T.eInvalidAmount hz hf) (by rfl) T.b_isinstance (by decide +kernel) (pa_cons (pv 3) (pa_cons (pe_bltn (v := .ty "ValueError") (by rfl) T.b_ValueError (by decide +kernel) rfl) pa_nil))))) pa_nil)))))) .nil))
 (pss_one (ps_ret (pe_cmpR op_eq (pe_callB (call_show (K := K) (O := OV a.c_Amount) (D := 3) rfl gu1 (room3 hr1) own_v (ow_v T (k := 4) (hr1.mono (by decide)) (room3 hr1))) (by rfl) T.b_repr (by decide +kernel) (pa_cons (pv 2) pa_nil)) (pe_callB (call_show (K := K) (O := OV a.c_Amount) (D := 3) rfl gu1 (room3 hr1) own_v (ow_v T (k := 4) (hr1.mono (by decide)) (room3 hr1))) (by rfl) T.b_repr (by decide +kernel) (pa_cons (pe_lst (pa_cons (pv 1) (pa_cons pe_bl pa_nil))) pa_nil)) (nomark _)))))), ?_⟩
  refine ⟨sz, fun l0 hl0 => ?_⟩
  have s1 : Same H (upd H l0 (.lst [V.str "told"])) := Lb.Same.upd hl0
  refine ⟨(EchR K a v Q, _), fun cls d H' hE => ?_, rfl, rfl, s1 _ _ hc, h _ _ s1⟩
  obtain ⟨dd, rfl, ed, rfl, sv, k⟩ := hE
  refine ⟨true, T.xInvalidAmount.te, fun q => Bool.noConfusion q, fun _ e he => ?_⟩
  refine ⟨_, rfl, rfl, rfl, dd, _, v, rfl, ed, rfl, ?_⟩
  refine ⟨_, rfl, _, _, true, dd, _, rfl, rfl, rfl, ed, (fun v r => (ClsV.own _).eq r), T.kInvalidAmount, ?_⟩
  refine ⟨_, rfl, iteT ⟨_, rfl, _, _, true, dd, _, rfl, rfl, rfl, ed, (fun v r => (ClsV.ty _).eq r), T.vInvalidAmount, sz, fun l hl => ?_⟩⟩
  obtain ⟨Tv, hT, hz, hd⟩ := sv
  have sh : ∀ {H2 : Hp} {l2 : Addr}, Same H' H2 → H2 l2 = some (.lst [v, .bl true]) → Sh K (OV a.c_Amount) H2 (.ls [Tv, .lf "True"]) (.ref l2) := by
    intro H2 l2 s e
    simp only [Sh, Shs]
    exact ⟨l2, _, rfl, SqL.of e, _, _, rfl, Sh.same (fun a t o => own_v.mono _ _ _ _ s o) s _ _ hT, _, _, rfl, rfl, rfl⟩
  have len : (Tr.ls [Tv, .lf "True"]).text.length ≤ sizeLine := by
    have l1 : ("[" : Str).length = 1 := by decide +kernel
    have l2 : (", " : Str).length = 2 := by decide +kernel
    have l3 : ("]" : Str).length = 1 := by decide +kernel
    have l4 : ("" : Str).length = 0 := by decide +kernel
    have l5 : ("True" : Str).length = 4 := by decide +kernel
    show (("[" ++ ("" : Str) ++ Tv.text) ++ ", " ++ "True" ++ "]" : Str).length ≤ _
    simp only [strLen_append]
    exact szle (by omega)
  have dep : (Tr.ls [Tv, .lf "True"]).dep + 1 ≤ 3 := by
    simp only [Tr.dep, Tr.deps]
    omega
  have s2 : Same H' (upd H' l (.lst [v, .bl true])) := Lb.Same.upd hl
  refine ⟨_, rfl, _, _, rfl, sh s2 upd_same, ⟨_, .inl rfl⟩, len, dep, fun H3 s3 => ?_⟩
  refine ⟨_, rfl, sz, fun l2 hl2 => ?_⟩
  have S4 := s2.trans (s3.trans (Lb.Same.upd (o := .lst [v, .bl true]) hl2))
  refine ⟨_, _, rfl, sh S4 upd_same, ⟨_, .inl rfl⟩, len, dep, fun H5 s5 => ⟨rfl, ?_⟩⟩
  have q := k _ (S4.trans s5)
  have e : (decide (V.str (Tr.ls [Tv, .lf "True"]).text = V.str (Tr.ls [Tv, .lf "True"]).text)) = true := by simp
  rw [← e] at q
  exact q
/-- refused, given a lambda and a value -/
theorem refused_gives {X : Cx} (T : Txt X.K X.mg a) (gu : X.A.guards = some []) (hr : Room 9 X.A) (cdg : Value) (q : Str) :
    GivesTo2 X ["_law_query", "_law_value", "_law_told", "e"] "_law_refused" (defScope s_refused) a.f_refused cdg (defBody s_refused) "_law_query" q (TTr X.K a) :=
  fun f c' s H Q tl v act hc h => refused_body T gu hr act hc h
end
end K48

set_option Elab.async false
set_option linter.all false
set_option maxRecDepth 100000
set_option maxHeartbeats 4000000
set_option exponentiation.threshold 10000
namespace K48
open PySem L2 Lb
open C8 (pss_cut)
open LamX (ExtN CodeO Tabs TabB pe_lamcall lamS_by)
open PySem.Spec PyProof.Rows
def TL1 (a : Ad) : List (Addr × Str) := [(a.PP_refusals_right, ((PySem.Str.ofString "_law_refusals_right") ++ ".<locals>.") ++ "<lambda>")]
theorem hu_refusals_right {K : PySem.W.Frag} {mg : Str → Option Value} {a : Ad} (T : Txt K mg a) : ∀ p ∈ TL1 a, p.1 = a.PP_refusals_right → p.2 = ((PySem.Str.ofString "_law_refusals_right") ++ ".<locals>.") ++ "<lambda>" := by
  intro p hp e
  rw [List.mem_singleton.mp hp]
theorem pot_not {p b : Addr} {H : Hp} {o : HO} (hp : PotAt H p) (e : H b = some o) (n : ∀ xs, o ≠ .lst xs) : b ≠ p := fun z => by
  obtain ⟨x, y, q, _⟩ := hp
  rw [z, q] at e
  exact n _ (Option.some.inj e).symm
theorem tabs_mov {T : List (Addr × Str)} {p : Addr} {H H' : Hp} (t : Tabs T H) (M : Mov p H H') (hp : PotAt H p) : Tabs T H' := by
  intro q hq
  obtain ⟨ps, h1, h2, h3⟩ := t q hq
  refine ⟨ps, M.keep _ _ (pot_not hp h1 fun _ z => nomatch z) h1, h2, fun pos cv hc => ?_⟩
  obtain ⟨c, e1, e2⟩ := h3 pos cv hc
  exact ⟨c, e1, M.keep _ _ (pot_not hp e2 fun xs z => by unfold CodeO at z; cases z) e2⟩
/-- all but the pot and the tables stays -/
structure MovN (p : Addr) (H H' : Hp) : Prop where
  keep : ∀ b o, b ≠ p → H b = some o → (∀ ps, o ≠ .tbl ps) → H' b = some o
  pot : PotAt H' p
theorem PotAt.ext {p : Addr} {H H' : Hp} (h : PotAt H p) (s : ExtN H H') : PotAt H' p := let ⟨x, y, e, r⟩ := h; ⟨x, y, s _ _ e (fun _ z => nomatch z), r⟩
theorem MovN.of {p : Addr} {H H' : Hp} (M : Mov p H H') : MovN p H H' := ⟨fun b o n e _ => M.keep b o n e, M.pot⟩
theorem MovN.ext {p : Addr} {H H1 H2 : Hp} (M : MovN p H H1) (s : ExtN H1 H2) : MovN p H H2 := ⟨fun b o n e t => s _ _ (M.keep b o n e t) t, PotAt.ext M.pot s⟩
theorem MovN.mov {p : Addr} {H H1 H2 : Hp} (M : MovN p H H1) (s : Mov p H1 H2) : MovN p H H2 := ⟨fun b o n e t => s.keep _ _ n (M.keep b o n e t), s.pot⟩
theorem MovN.trans {p : Addr} {H H1 H2 : Hp} (M : MovN p H H1) (s : MovN p H1 H2) : MovN p H H2 := ⟨fun b o n e t => s.keep _ _ n (M.keep b o n e t) t, s.pot⟩
/-- the values that no stretch is made of -/
inductive Od (H : Hp) : V → Prop
  | non : Od H .non
  | bl (x : Bool) : Od H (.bl x)
  | str (x : Str) (h : (reprText x).length ≤ 2000) : Od H (.str x)
  | tup0 {p : Addr} (e : H p = some (.tup [])) : Od H (.ref p)
  | lst0 {p : Addr} (e : H p = some (.lst [.int 0])) : Od H (.ref p)
  | dct {p : Addr} (e : H p = some (.dK [])) : Od H (.ref p)
  | tup2 {p : Addr} (e : H p = some (.tup [.int 1, .int 2])) : Od H (.ref p)
theorem Od.keep {H H' : Hp} {v : V} (h : Od H v) (k : ∀ p o, v = .ref p → H p = some o → (∀ ps, o ≠ .tbl ps) → (∀ a b, o ≠ .lst [.int a, .int b]) → H' p = some o) : Od H' v := by
  cases h with
  | non => exact .non
  | bl x => exact .bl x
  | str x z => exact .str x z
  | tup0 e => exact .tup0 (k _ _ rfl e (fun _ z => nomatch z) fun _ _ z => nomatch z)
  | lst0 e => exact .lst0 (k _ _ rfl e (fun _ z => nomatch z) fun _ _ z => by simp at z)
  | dct e => exact .dct (k _ _ rfl e (fun _ z => nomatch z) fun _ _ z => nomatch z)
  | tup2 e => exact .tup2 (k _ _ rfl e (fun _ z => nomatch z) fun _ _ z => nomatch z)
theorem Od.ext {H H' : Hp} {v : V} (h : Od H v) (s : ExtN H H') : Od H' v := h.keep fun p o _ e n _ => s _ _ e n
theorem Od.mov {H H' : Hp} {v : V} {p : Addr} (h : Od H v) (m : Mov p H H') (hp : PotAt H p) : Od H' v := h.keep fun q o _ e _ n => m.keep _ _ (fun z => by
  obtain ⟨x, y, e', _⟩ := hp
  rw [z, e'] at e
  exact n x y (Option.some.inj e).symm) e
theorem Od.odd {CS : Addr} {H : Hp} {v : V} (h : Od H v) : OddN CS H v := by
  cases h with
  | non => exact .non
  | bl x => exact .bl x
  | str x _ => exact .str x
  | tup0 e => exact .tup e
  | lst0 e => exact .lst e
  | dct e => exact .dct e
  | tup2 e => exact .tup e
theorem Od.ne {H : Hp} {v : V} {x : Addr} (h : Od H v) (hx : H x = none) : v ≠ .ref x := by
  rintro rfl
  cases h <;> (rename_i e; rw [hx] at e; cases e)
theorem Od.shv {K : PySem.W.Frag} {C : Addr} {H : Hp} {v : V} (h : Od H v) : ShV K C H v := by
  cases h with
  | non => exact ⟨.lf "None", by simp only [Sh]; rfl, by decide +kernel, by decide⟩
  | bl x => exact ⟨.lf (bT x), by simp only [Sh]; cases x <;> rfl, by cases x <;> decide +kernel, by simp [Tr.dep]⟩
  | str x z => exact ⟨.lf (reprText x), by simp only [Sh]; rfl, z, by simp [Tr.dep]⟩
  | tup0 e => exact ⟨.tp [], by simp only [Sh, Shs]; exact ⟨_, _, rfl, SqT.of e, rfl⟩, by decide +kernel, by simp [Tr.dep, Tr.deps]⟩
  | lst0 e => exact ⟨.ls [.lf (toString (0 : Int) : String)], by simp only [Sh, Shs]; exact ⟨_, _, rfl, SqL.of e, _, _, rfl, ⟨by decide, rfl⟩, rfl⟩, by decide +kernel, by simp [Tr.dep, Tr.deps]⟩
  | dct e => exact ⟨.ow "{}", by simp only [Sh]; exact ⟨_, rfl, .inr ⟨e, rfl⟩⟩, by decide +kernel, by simp [Tr.dep]⟩
  | tup2 e => exact ⟨.tp [.lf (toString (1 : Int) : String), .lf (toString (2 : Int) : String)], by simp only [Sh, Shs]; exact ⟨_, _, rfl, SqT.of e, _, _, rfl, ⟨by decide, rfl⟩, _, _, rfl, ⟨by decide, rfl⟩, rfl⟩, by decide +kernel, by simp [Tr.dep, Tr.deps]⟩
theorem isP_shv {K : PySem.W.Frag} {C : Addr} {H : Hp} {v : V} {t b : Int} (h : IsP C H v t b) (h1 : Bd 1800 t) (h2 : Bd 1800 b) : ShV K C H v := by
  rcases h with ⟨rfl, _⟩ | ⟨q, rfl, h⟩
  · exact ⟨.lf (toString t : String), by simp only [Sh]; exact ⟨bd_log h1, rfl⟩, Nat.le_trans (itS_len h1) (by decide), by simp [Tr.dep]⟩
  · exact ⟨.ow (txR t b), by simp only [Sh]; exact ⟨_, rfl, .inl ⟨t, b, h, h1, h2, rfl⟩⟩, Nat.le_trans (txR_len h1 h2) (by decide), by simp [Tr.dep]⟩
theorem isP_ext {C : Addr} {H H' : Hp} {v : V} {t b : Int} (h : IsP C H v t b) (s : ExtN H H') : IsP C H' v t b := by
  rcases h with h | ⟨q, e, dx, h⟩
  · exact .inl h
  · exact .inr ⟨q, e, dx, s _ _ h (fun _ z => nomatch z)⟩
theorem Ends.extN {H H' : Hp} {q : Addr} {x y : F2} (e : Ends H q x y) (s : ExtN H H') : Ends H' q x y := let ⟨l, h, a, b, c⟩ := e; ⟨l, h, s _ _ a (fun _ z => nomatch z), s _ _ b (fun _ z => nomatch z), s _ _ c (fun _ z => nomatch z)⟩
def sp_refusals (a : Ad) : Sp := fun vs H Q _ => ∃ (p e : Addr) (x y : F2), vs = [.ref p, .ref e] ∧ PotAt H p ∧ Ends H e x y ∧ Sm 3000000000 x ∧ Sm 3000000000 y ∧ lt2 y x = false ∧ Tabs (TL1 a) H ∧ ∀ H', MovN p H H' → Tabs (TL1 a) H' → Q (.bl true) H'
section
variable {P : Program} {w : World} {K : PySem.W.Frag} {mg : Str → Option Value} {base : Heap} {a : Ad}
theorem ok_refusals_right (T : Txt K mg a) (TB : TabB base mg a.cc_refusals_right a.PP_refusals_right) : FnG P w K mg base CX0 10 a.f_refusals_right a.d_refusals_right ["_law_pot_here", "_law_ends_here"] (sp_refusals a) := by
  obtain ⟨oc0, od0, kV0, doc0, pm0, an0, cdv0, ct0, osl0, hfd, lk0, hcd0⟩ := T.F_refused.ex
  have bt0 := b_refused T
  rw [hfd] at lk0 bt0
  refine okGL T.F_refusals_right T.C_refusals_right sc_refusals_right (fun vs H Q E h => ?_) (fun A outer s H vs Q E gu hr h => ?_)
  · obtain ⟨p, e, x, y, rfl, _⟩ := h
    rfl
  · obtain ⟨p, e, x, y, rfl, hp, en, sx, sy, hlt, tb, k⟩ := h
    refine ⟨_, (pss_cons (ps_set (i := 2) sc_refusals_right.nd rfl (by first | exact Or.inl rfl | exact Or.inr rfl) (pe_lst (pa_cons pe_non (pa_cons pe_bl (pa_cons pe_bl (pa_cons pe_str (pa_cons pe_str (pa_cons (pe_tup pa_nil) (pa_cons (pe_lst (pa_cons pe_int pa_nil)) (pa_cons pe_dnewK (pa_cons (pe_tup (pa_cons pe_int (pa_cons pe_int pa_nil))) pa_nil)))))))))))
 (pss_cons (ps_asg (pe_tup (pa_cons (pe_call (ok_pick T) (hr.mono (by decide)) (by rfl) T.m_pick T.F_pick.kp (b_pick T) .nil pass0 (pa_cons (pv 0) (pa_cons (pv 2) pa_nil))) (pa_cons (pe_call (ok_pick T) (hr.mono (by decide)) (by rfl) T.m_pick T.F_pick.kp (b_pick T) .nil pass0 (pa_cons (pv 0) (pa_cons (pv 2) pa_nil))) pa_nil))) (pg_tupK (K := K) (n := 2) rfl rfl (pgs_cons (pg_name (i := 3) sc_refusals_right.nd rfl (by first | exact Or.inl rfl | exact Or.inr rfl)) (pgs_cons (pg_name (i := 4) sc_refusals_right.nd rfl (by first | exact Or.inl rfl | exact Or.inr rfl)) pgs_nil))))
 (pss_cons (ps_asg (pe_tup (pa_cons (pe_call (ok_handed T) (hr.mono (by decide)) (by rfl) T.m_handed T.F_handed.kp (b_handed T) .nil pass0 (pa_cons (pv 0) (pa_cons (pe_ix (ix_tupK (K := K) rfl) (pv 1) pe_int (fun _ _ => rfl)) pa_nil))) (pa_cons (pe_call (ok_handed T) (hr.mono (by decide)) (by rfl) T.m_handed T.F_handed.kp (b_handed T) .nil pass0 (pa_cons (pv 0) (pa_cons (pe_ix (ix_tupK (K := K) rfl) (pv 1) pe_int (fun _ _ => rfl)) pa_nil))) pa_nil))) (pg_tupK (K := K) (n := 2) rfl rfl (pgs_cons (pg_name (i := 5) sc_refusals_right.nd rfl (by first | exact Or.inl rfl | exact Or.inr rfl)) (pgs_cons (pg_name (i := 6) sc_refusals_right.nd rfl (by first | exact Or.inl rfl | exact Or.inr rfl)) pgs_nil))))
 (pss_cons (ps_if (pt_not (pt_val (pe_lamcall2 (T := TL1 a) (TT := TTr K a) (k := 7) (by rfl) T.m_refused T.F_refused.kp lk0 hcd0 bt0 sc_refused rfl (.inl rfl) (refused_gives T gu (hr.mono (by decide)) _ _) (pv 3) TB rfl List.mem_cons_self (hu_refusals_right T) (hr.mono (by decide)) (lamS_by (sc := defScope s_refusals_right) (by decide +kernel)) rfl (fun _ _ _ _ _ => rfl) (fun A2 o2 s2 H2 E f2 c2 hr2 => (pe_make (E := E) T.mkS (ok_Stretch_init_X T) (hr2.mono (by decide)) (by rfl) T.mS (b_Stretch_init_ T) .nil (passes_call (takes_of rfl rfl rfl rfl) fun _ _ _ _ h => h) (pa_cons (pv 3) (pa_cons (pv 4) pa_nil))))))) (pss_one (ps_ret pe_bl)) pss_nil)
 (pss_cons (ps_if (pt_not (pt_val (pe_lamcall2 (T := TL1 a) (TT := TTr K a) (k := 7) (by rfl) T.m_refused T.F_refused.kp lk0 hcd0 bt0 sc_refused rfl (.inl rfl) (refused_gives T gu (hr.mono (by decide)) _ _) (pv 3) TB rfl List.mem_cons_self (hu_refusals_right T) (hr.mono (by decide)) (lamS_by (sc := defScope s_refusals_right) (by decide +kernel)) rfl (fun _ _ _ _ _ => rfl) (fun A2 o2 s2 H2 E f2 c2 hr2 => (pe_make (E := E) T.mkS (ok_Stretch_init_X T) (hr2.mono (by decide)) (by rfl) T.mS (b_Stretch_init_ T) .nil (passes_call (takes_of rfl rfl rfl rfl) fun _ _ _ _ h => h) (pa_cons (pv 5) (pa_cons (pv 3) pa_nil))))))) (pss_one (ps_ret pe_bl)) pss_nil)
 (pss_cons (ps_set (i := 7) sc_refusals_right.nd rfl (by first | exact Or.inl rfl | exact Or.inr rfl) (pe_call (ok_handed T) (hr.mono (by decide)) (by rfl) T.m_handed T.F_handed.kp (b_handed T) .nil pass0 (pa_cons (pv 0) (pa_cons (pe_tup (pa_cons (pe_op op_sub (pe_op op_sub (pe_ix (ix_tupK (K := K) rfl) (pe_ix (ix_tupK (K := K) rfl) (pv 1) pe_int (fun _ _ => rfl)) pe_int (fun _ _ => rfl)) pe_int) (pe_call (ok_draw T) (hr.mono (by decide)) (by rfl) T.m_draw T.F_draw.kp (b_draw T) .nil pass0 (pa_cons (pv 0) (pa_cons pe_int pa_nil)))) (pa_cons (pe_ix (ix_tupK (K := K) rfl) (pe_ix (ix_tupK (K := K) rfl) (pv 1) pe_int (fun _ _ => rfl)) pe_int (fun _ _ => rfl)) pa_nil))) pa_nil))))
 (pss_cons (ps_if (pt_not (pt_val (pe_lamcall2 (T := TL1 a) (TT := TTr K a) (k := 7) (by rfl) T.m_refused T.F_refused.kp lk0 hcd0 bt0 sc_refused rfl (.inl rfl) (refused_gives T gu (hr.mono (by decide)) _ _) (pv 7) TB rfl List.mem_cons_self (hu_refusals_right T) (hr.mono (by decide)) (lamS_by (sc := defScope s_refusals_right) (by decide +kernel)) rfl (fun _ _ _ _ _ => rfl) (fun A2 o2 s2 H2 E f2 c2 hr2 => (pe_make (E := E) T.mkS (ok_Stretch_init_X T) (hr2.mono (by decide)) (by rfl) T.mS (b_Stretch_init_ T) .nil (passes_call (takes_of rfl rfl rfl rfl) fun _ _ _ _ h => h) (pa_cons (pv 6) (pa_cons (pv 7) pa_nil))))))) (pss_one (ps_ret pe_bl)) pss_nil)
 (pss_one (ps_ret (pe_lamcall2 (T := TL1 a) (TT := TTr K a) (k := 7) (by rfl) T.m_refused T.F_refused.kp lk0 hcd0 bt0 sc_refused rfl (.inl rfl) (refused_gives T gu (hr.mono (by decide)) _ _) (pv 4) TB rfl List.mem_cons_self (hu_refusals_right T) (hr.mono (by decide)) (lamS_by (sc := defScope s_refusals_right) (by decide +kernel)) rfl (fun _ _ _ _ _ => rfl) (fun A2 o2 s2 H2 E f2 c2 hr2 => (pe_make (E := E) T.mkS (ok_Stretch_init_X T) (hr2.mono (by decide)) (by rfl) T.mS (b_Stretch_init_ T) .nil (passes_call (takes_of rfl rfl rfl rfl) fun _ _ _ _ h => h) (pa_cons (pv 6) (pa_cons (pv 4) pa_nil)))))))))))))), ?_⟩
    refine ⟨sz, fun u1 o1 => ?_⟩
    have d1 : Same H (upd H u1 (.tup [])) := Lb.Same.upd o1
    have w1 : (upd H u1 (.tup [])) u1 = some (.tup []) := upd_same
    generalize upd H u1 (.tup []) = H1 at *
    refine ⟨sz, fun u2 o2 => ?_⟩
    have d2 : Same H1 (upd H1 u2 (.lst [.int 0])) := Lb.Same.upd o2
    have w2 : (upd H1 u2 (.lst [.int 0])) u2 = some (.lst [.int 0]) := upd_same
    generalize upd H1 u2 (.lst [.int 0]) = H2 at *
    refine fun u3 o3 => ?_
    have d3 : Same H2 (upd H2 u3 (.dK [])) := Lb.Same.upd o3
    have w3 : (upd H2 u3 (.dK [])) u3 = some (.dK []) := upd_same
    generalize upd H2 u3 (.dK []) = H3 at *
    refine ⟨sz, fun u4 o4 => ?_⟩
    have d4 : Same H3 (upd H3 u4 (.tup [.int 1, .int 2])) := Lb.Same.upd o4
    have w4 : (upd H3 u4 (.tup [.int 1, .int 2])) u4 = some (.tup [.int 1, .int 2]) := upd_same
    generalize upd H3 u4 (.tup [.int 1, .int 2]) = H4 at *
    refine ⟨sz, fun L o5 => ?_⟩
    have d5 := Lb.Same.upd (o := .lst [V.non, V.bl true, V.bl false, V.str (Str.ofString "0"), V.str (Str.ofString ""), V.ref u1, V.ref u2, V.ref u3, V.ref u4]) o5
    have w5 : (upd H4 L (.lst [V.non, V.bl true, V.bl false, V.str (Str.ofString "0"), V.str (Str.ofString ""), V.ref u1, V.ref u2, V.ref u3, V.ref u4])) L = some (.lst [V.non, V.bl true, V.bl false, V.str (Str.ofString "0"), V.str (Str.ofString ""), V.ref u1, V.ref u2, V.ref u3, V.ref u4]) := upd_same
    generalize upd H4 L (.lst [V.non, V.bl true, V.bl false, V.str (Str.ofString "0"), V.str (Str.ofString ""), V.ref u1, V.ref u2, V.ref u3, V.ref u4]) = H5 at *
    have D5 := d1.trans (d2.trans (d3.trans (d4.trans d5)))
    have ods : ∀ v ∈ [V.non, V.bl true, V.bl false, V.str (Str.ofString "0"), V.str (Str.ofString ""), V.ref u1, V.ref u2, V.ref u3, V.ref u4], Od H5 v := by
      intro v hv
      simp only [List.mem_cons, List.not_mem_nil, or_false] at hv
      rcases hv with rfl | rfl | rfl | rfl | rfl | rfl | rfl | rfl | rfl
      · exact .non
      · exact .bl _
      · exact .bl _
      · exact .str _ (by decide +kernel)
      · exact .str _ (by decide +kernel)
      · exact .tup0 ((d2.trans (d3.trans (d4.trans d5))) _ _ w1)
      · exact .lst0 ((d3.trans (d4.trans d5)) _ _ w2)
      · exact .dct ((d4.trans d5) _ _ w3)
      · exact .tup2 (d5 _ _ w4)
    have hp5 := D5.pot hp
    have nL : L ≠ p := by
      rintro rfl
      obtain ⟨x, y, e, _⟩ := hp5
      rw [w5] at e
      simp at e
    have en := en.same D5
    have tb := tb.ext D5
    refine ⟨_, rfl, _, rfl, p, L, _, rfl, hp5, SqL.of w5, nL, by simp, by simp, fun H6 i1 v1 m6 e1 => ?_⟩
    have od1 := (ods v1 (List.mem_of_getElem? e1)).mov m6 hp5
    refine ⟨_, rfl, _, rfl, p, L, _, rfl, m6.pot, SqL.of (m6.keep _ _ nL w5), nL, by simp, by simp, fun H7 i2 v2 m7 e2 => ⟨sz, fun tt htt => ?_⟩⟩
    have M7 := m6.trans m7
    have od1 := od1.mov m7 m6.pot
    have od2 := (ods v2 (List.mem_of_getElem? e2)).mov M7 hp5
    have en := en.mov M7 hp5
    have tb := tabs_mov tb M7 hp5
    clear ods w1 w2 w3 w4 w5 e1 e2
    have s8 : Same H7 (upd H7 tt (.tup [v1, v2])) := Lb.Same.upd htt
    have e8 : (upd H7 tt (.tup [v1, v2])) tt = some (.tup [v1, v2]) := upd_same
    generalize upd H7 tt (.tup [v1, v2]) = H8 at *
    have od1 := od1.ext (.of s8)
    have od2 := od2.ext (.of s8)
    have M8 := (D5.mov hp).trans (M7.same s8)
    obtain ⟨l, h, ee, fl, fh⟩ := en.same s8
    have tb := tb.ext s8
    refine ⟨_, _, rfl, SqT.of e8, rfl, _, _, rfl, _, _, rfl, rfl, ?_⟩
    have a0 : atI ([.ref l, .ref h] : List V) ((0 : Nat) : Int) = some (.ref l) := atI_nat rfl
    have a1 : atI ([.ref l, .ref h] : List V) ((1 : Nat) : Int) = some (.ref h) := atI_nat rfl
    have px : 0 < x.2 := by have := sx.b1; omega
    have py : 0 < y.2 := by have := sy.b1; omega
    have bd : ∀ {z : Int}, z.natAbs ≤ 10 ^ 25 → Bd 100 z := fun {z} h => Nat.lt_of_le_of_lt h (by decide)
    have cx : Cn 100 x := ⟨px, bd (by have := sx.t; omega), bd (by have := sx.b1; have := sx.b2; omega)⟩
    have cy : Cn 100 y := ⟨py, bd (by have := sy.t; omega), bd (by have := sy.b1; have := sy.b2; omega)⟩
    have b8 : ∀ {z : F2}, Cn 100 z → B8 (rd z.1 z.2) := fun c => ⟨c.low.t.mono (by decide), c.low.b.mono (by decide)⟩
    have b8x := b8 cx
    have b8y := b8 cy
    refine ⟨_, rfl, _, rfl, _, _, _, _, rfl, rfl, SqT.of ee, a0, p, l, x, rfl, M8.pot, fl, px, ⟨cx.a.mono (by decide), cx.b.mono (by decide)⟩, fun H9 vb m9 ib => ?_⟩
    replace ee := m9.tup M8.pot ee
    replace fl := fl.mov m9 M8.pot
    replace fh := fh.mov m9 M8.pot
    replace od1 := od1.mov m9 M8.pot
    replace od2 := od2.mov m9 M8.pot
    replace tb := tabs_mov tb m9 M8.pot
    refine ⟨_, rfl, _, rfl, _, _, _, _, rfl, rfl, SqT.of ee, a1, p, h, y, rfl, m9.pot, fh, py, ⟨cy.a.mono (by decide), cy.b.mono (by decide)⟩, fun H10 vt m10 it => ⟨sz, fun t2 n2 => ?_⟩⟩
    have s11 : Same H10 (upd H10 t2 (.tup [vb, vt])) := Lb.Same.upd n2
    have e11 : (upd H10 t2 (.tup [vb, vt])) t2 = some (.tup [vb, vt]) := upd_same
    replace ib := (isP_mov ib m10 m9.pot).same s11
    replace it := it.same s11
    replace ee := s11 _ _ (m10.tup m9.pot ee)
    replace fl := (fl.mov m10 m9.pot).same s11
    replace od1 := (od1.mov m10 m9.pot).ext (.of s11)
    replace od2 := (od2.mov m10 m9.pot).ext (.of s11)
    replace tb := (tabs_mov tb m10 m9.pot).ext s11
    have M := MovN.of (M8.trans (m9.trans (m10.same s11)))
    generalize upd H10 t2 (.tup [vb, vt]) = H11 at *
    refine ⟨_, _, rfl, SqT.of e11, rfl, _, _, rfl, _, _, rfl, rfl, ?_⟩
    clear e11 s11 m10 m9 M8 fh e8 s8
    refine ⟨v1, rfl, tb, fun Ha xa tba Hb Q' sb => ?_⟩
    refine ⟨_, rfl, _, rfl, fun z0 dz hx hdx ne => ⟨z0, dz, v1, v2, v1, rfl, upd_same, ?_, fun Hc dc sc nc ec => ?_⟩⟩
    · have X := xa.trans (.of (sb.trans (same_new (o1 := .own z0) (o2 := .ins a.c_Stretch dz []) hx hdx)))
      exact .inl ⟨(od1.ext X).odd, fun e => (od1.ext (xa.trans (.of sb))).ne hx e, rfl⟩
    have sbc : Same Hb Hc := fun b o e => sc b o (ne_of_none e hx) (same_new hx hdx b o e)
    have Xc := xa.trans (.of (sb.trans sbc))
    refine ⟨dc, rfl, ec, rfl, (od1.ext Xc).shv, fun Hd sd => ?_⟩
    have X := Xc.trans (.of sd)
    have tb := tba.ext (sb.trans (sbc.trans sd))
    refine ⟨_, rfl, iteF ?_⟩
    replace od1 := od1.ext X
    replace od2 := od2.ext X
    replace ib := isP_ext ib X
    replace it := isP_ext it X
    replace M := M.ext X
    replace ee := X _ _ ee (fun _ z => nomatch z)
    replace fl : Fq Hd l x := X _ _ fl (fun _ z => nomatch z)
    clear xa tba sb sc nc ec sbc Xc X
    refine ⟨v1, rfl, tb, fun Ha xa tba Hb Q' sb => ?_⟩
    refine ⟨_, rfl, _, rfl, fun z0 dz hx hdx ne => ⟨z0, dz, vb, v1, v1, rfl, upd_same, ?_, fun Hc dc sc nc ec => ?_⟩⟩
    · have X := xa.trans (.of (sb.trans (same_new (o1 := .own z0) (o2 := .ins a.c_Stretch dz []) hx hdx)))
      exact .inr ⟨_, isP_ext ib X, b8x, .inl ⟨(od1.ext X).odd, fun e => (od1.ext (xa.trans (.of sb))).ne hx e, rfl⟩⟩
    have sbc : Same Hb Hc := fun b o e => sc b o (ne_of_none e hx) (same_new hx hdx b o e)
    have Xc := xa.trans (.of (sb.trans sbc))
    refine ⟨dc, rfl, ec, rfl, (od1.ext Xc).shv, fun Hd sd => ?_⟩
    have X := Xc.trans (.of sd)
    have tb := tba.ext (sb.trans (sbc.trans sd))
    refine ⟨_, rfl, iteF ?_⟩
    replace od1 := od1.ext X
    replace od2 := od2.ext X
    replace ib := isP_ext ib X
    replace it := isP_ext it X
    replace M := M.ext X
    replace ee := X _ _ ee (fun _ z => nomatch z)
    replace fl : Fq Hd l x := X _ _ fl (fun _ z => nomatch z)
    clear xa tba sb sc nc ec sbc Xc X
    refine ⟨_, rfl, _, rfl, _, _, _, _, rfl, rfl, SqT.of ee, a0, _, _, _, _, rfl, rfl, SqT.of fl, Fq.a0, _, _, rfl, rfl, ?_⟩
    refine ⟨_, rfl, p, _, rfl, M.pot, by decide, by unfold Bd; decide, fun Hg d mg d0 d1 => ?_⟩
    have hpM := M.pot
    replace ee := mg.tup hpM ee
    replace fl := fl.mov mg hpM
    replace od1 := od1.mov mg hpM
    replace od2 := od2.mov mg hpM
    replace ib := isP_mov ib mg hpM
    replace it := isP_mov it mg hpM
    replace tb := tabs_mov tb mg hpM
    replace M := M.mov mg
    refine ⟨_, _, rfl, rfl, _, rfl, _, _, _, _, rfl, rfl, SqT.of ee, a0, _, _, _, _, rfl, rfl, SqT.of fl, Fq.a1, sz, fun t3 n3 => ?_⟩
    have s12 : Same Hg (upd Hg t3 (.tup [.int (x.1 - 1 - d), .int x.2])) := Lb.Same.upd n3
    have fz : Fq (upd Hg t3 (.tup [.int (x.1 - 1 - d), .int x.2])) t3 (x.1 - 1 - d, x.2) := upd_same
    generalize upd Hg t3 (.tup [.int (x.1 - 1 - d), .int x.2]) = Hh at *
    have cz : Cn 100 (x.1 - 1 - d, x.2) := ⟨px, bd (by have := sx.t; show (x.1 - 1 - d).natAbs ≤ _; omega), cx.b⟩
    have hzx : val (x.1 - 1 - d, x.2) < val x := by
      rw [← lt2_val (x := (x.1 - 1 - d, x.2)) px px]
      unfold lt2 fLt
      rw [decide_eq_true_eq]
      exact Int.mul_lt_mul_of_pos_right (by show x.1 - 1 - d < x.1; omega) px
    have hzy : lt2 (rd (x.1 - 1 - d) x.2) (rd y.1 y.2) = true := by
      rw [lt2_rd (x := (x.1 - 1 - d, x.2)) px py, lt2_val (x := (x.1 - 1 - d, x.2)) px py]
      have := (not_lt2 px py).mp hlt
      grind
    have b8z : B8 (rd (x.1 - 1 - d) x.2) := b8 cz
    have b18z : B18 (rd (x.1 - 1 - d) x.2) := ⟨cz.low.t.mono (by decide), cz.low.b.mono (by decide)⟩
    have M12 := M.ext (.of s12)
    refine ⟨p, t3, (x.1 - 1 - d, x.2), rfl, M12.pot, fz, px, ⟨cz.a.mono (by decide), cz.b.mono (by decide)⟩, fun Hi vz mi iz => ?_⟩
    replace ee := mi.tup M12.pot (s12 _ _ ee)
    replace fl := (fl.same s12).mov mi M12.pot
    replace od1 := (od1.ext (.of s12)).mov mi M12.pot
    replace od2 := (od2.ext (.of s12)).mov mi M12.pot
    replace ib := isP_mov (ib.same s12) mi M12.pot
    replace it := isP_mov (it.same s12) mi M12.pot
    replace tb := tabs_mov (tb.ext s12) mi M12.pot
    replace M := M12.mov mi
    clear M12 fz mg hpM s12
    refine ⟨vz, rfl, tb, fun Ha xa tba Hb Q' sb => ?_⟩
    refine ⟨_, rfl, _, rfl, fun z0 dz hx hdx ne => ⟨z0, dz, vt, vz, vz, rfl, upd_same, ?_, fun Hc dc sc nc ec => ?_⟩⟩
    · have X := xa.trans (.of (sb.trans (same_new (o1 := .own z0) (o2 := .ins a.c_Stretch dz []) hx hdx)))
      exact .inr ⟨_, isP_ext it X, b8y, .inr ⟨_, isP_ext iz X, b8z, hzy, rfl⟩⟩
    have sbc : Same Hb Hc := fun b o e => sc b o (ne_of_none e hx) (same_new hx hdx b o e)
    have Xc := xa.trans (.of (sb.trans sbc))
    refine ⟨dc, rfl, ec, rfl, isP_shv (isP_ext iz Xc) b18z.1 b18z.2, fun Hd sd => ?_⟩
    have X := Xc.trans (.of sd)
    have tb := tba.ext (sb.trans (sbc.trans sd))
    refine ⟨_, rfl, iteF ?_⟩
    replace od1 := od1.ext X
    replace od2 := od2.ext X
    replace ib := isP_ext ib X
    replace it := isP_ext it X
    replace M := M.ext X
    replace ee := X _ _ ee (fun _ z => nomatch z)
    replace fl : Fq Hd l x := X _ _ fl (fun _ z => nomatch z)
    replace iz := isP_ext iz X
    clear xa tba sb sc nc ec sbc Xc X
    refine ⟨v2, rfl, tb, fun Ha xa tba Hb Q' sb => ?_⟩
    refine ⟨_, rfl, _, rfl, fun z0 dz hx hdx ne => ⟨z0, dz, vt, v2, v2, rfl, upd_same, ?_, fun Hc dc sc nc ec => ?_⟩⟩
    · have X := xa.trans (.of (sb.trans (same_new (o1 := .own z0) (o2 := .ins a.c_Stretch dz []) hx hdx)))
      exact .inr ⟨_, isP_ext it X, b8y, .inl ⟨(od2.ext X).odd, fun e => (od2.ext (xa.trans (.of sb))).ne hx e, rfl⟩⟩
    have sbc : Same Hb Hc := fun b o e => sc b o (ne_of_none e hx) (same_new hx hdx b o e)
    have Xc := xa.trans (.of (sb.trans sbc))
    refine ⟨dc, rfl, ec, rfl, (od2.ext Xc).shv, fun Hd sd => ?_⟩
    have X := Xc.trans (.of sd)
    have tb := tba.ext (sb.trans (sbc.trans sd))
    exact k _ (M.ext X) tb
end
end K48

set_option Elab.async false
set_option linter.all false
set_option maxRecDepth 100000
set_option maxHeartbeats 4000000
set_option exponentiation.threshold 10000
namespace K48
open PySem L2 Lb
open C8 (pss_cut)
open LamX (ExtN CodeO Tabs TabB pe_lamcall lamS_by)
open PySem.Spec PyProof.Rows
theorem SqL.extN {K : PySem.W.Frag} {a : Addr} {H H1 : Hp} {xs : List V} (m : ExtN H H1) (h : SqL K H a xs) : SqL K H1 a xs := by
  rcases h with (h | ⟨o, h⟩) | h
  · exact .inl (.inl (m _ _ h fun _ z => nomatch z))
  · exact .inl (.inr ⟨o, m _ _ h fun _ z => nomatch z⟩)
  · exact .inr h
def sp_right (a : Ad) : Sp := fun vs H Q _ => ∃ (p : Addr), vs = [.ref p] ∧ PotAt H p ∧ Tabs (TL1 a) H ∧ ∀ H', MovN p H H' → Tabs (TL1 a) H' → Q (.bl true) H'
def sp_law (K : PySem.W.Frag) (a : Ad) : Sp := fun vs H Q _ => ∃ (sc : Addr) (ns : List Int), vs = [.ref sc] ∧ SqL K H sc (ns.map V.int) ∧ ns.length ≤ 63 ∧ Tabs (TL1 a) H ∧ ∀ H', Q (.bl true) H'
section
variable {P : Program} {w : World} {K : PySem.W.Frag} {mg : Str → Option Value} {base : Heap} {a : Ad}
theorem ok_right (T : Txt K mg a) (TB : TabB base mg a.cc_refusals_right a.PP_refusals_right) : FnG P w K mg base CX0 12 a.f_right a.d_right ["_law_pot_here"] (sp_right a) := by
  refine okG T.F_right sc_right (fun vs H Q E h => ?_) (fun cdv A outer s H vs Q E gu hr h => ?_)
  · obtain ⟨p, rfl, _⟩ := h
    rfl
  · obtain ⟨p, rfl, hp, tb, k⟩ := h
    refine ⟨_, (pss_cons (ps_set (i := 1) sc_right.nd rfl (by first | exact Or.inl rfl | exact Or.inr rfl) (pe_call (ok_ends T) (hr.mono (by decide)) (by rfl) T.m_ends T.F_ends.kp (b_ends T) .nil pass0 (pa_cons (pv 0) pa_nil)))
 (pss_cons (ps_set (i := 2) sc_right.nd rfl (by first | exact Or.inl rfl | exact Or.inr rfl) (pe_make T.mkS (ok_Stretch_init_ T) (hr.mono (by decide)) (by rfl) T.mS (b_Stretch_init_ T) .nil pass0 (pa_cons (pe_call (ok_handed T) (hr.mono (by decide)) (by rfl) T.m_handed T.F_handed.kp (b_handed T) .nil pass0 (pa_cons (pv 0) (pa_cons (pe_ix (ix_tupK (K := K) rfl) (pv 1) pe_int (fun _ _ => rfl)) pa_nil))) (pa_cons (pe_call (ok_handed T) (hr.mono (by decide)) (by rfl) T.m_handed T.F_handed.kp (b_handed T) .nil pass0 (pa_cons (pv 0) (pa_cons (pe_ix (ix_tupK (K := K) rfl) (pv 1) pe_int (fun _ _ => rfl)) pa_nil))) pa_nil))))
 (pss_cons (ps_if (PW.pt (pw_or (pt_not (pt_val (pe_callG (ok_shown_right T) gu (hr.mono (by decide)) (by rfl) T.m_shown_right T.F_shown_right.kp (b_shown_right T) .nil pass0 (pa_cons (pv 2) (pa_cons (pv 1) pa_nil))))) (pw_or1 (pt_not (pt_val (pe_callG (ok_in_right T) gu (hr.mono (by decide)) (by rfl) T.m_in_right T.F_in_right.kp (b_in_right T) .nil pass0 (pa_cons (pv 0) (pa_cons (pv 2) (pa_cons (pv 1) pa_nil))))))))) (pss_one (ps_ret pe_bl)) pss_nil)
 (pss_cons (ps_if (PW.pt (pw_or (pt_not (pt_val (pe_callG (ok_reckoned_right T) gu (hr.mono (by decide)) (by rfl) T.m_reckoned_right T.F_reckoned_right.kp (b_reckoned_right T) .nil pass0 (pa_cons (pv 0) (pa_cons (pv 2) (pa_cons (pv 1) pa_nil)))))) (pw_or1 (pt_not (pt_val (pe_callG (ok_refusals_right T TB) gu (hr.mono (by decide)) (by rfl) T.m_refusals_right T.F_refusals_right.kp (b_refusals_right T) .nil pass0 (pa_cons (pv 0) (pa_cons (pv 1) pa_nil)))))))) (pss_one (ps_ret pe_bl)) pss_nil)
 (pss_one (ps_ret (pe_callG (ok_shown_right T) gu (hr.mono (by decide)) (by rfl) T.m_shown_right T.F_shown_right.kp (b_shown_right T) .nil pass0 (pa_cons (pv 2) (pa_cons (pv 1) pa_nil))))))))), ?_⟩
    refine ⟨_, rfl, p, rfl, hp, fun H1 e x y m1 en sx sy hlt => ?_⟩
    obtain ⟨l, h, ee, fl, fh⟩ := en
    have a0 : atI ([.ref l, .ref h] : List V) ((0 : Nat) : Int) = some (.ref l) := atI_nat rfl
    have a1 : atI ([.ref l, .ref h] : List V) ((1 : Nat) : Int) = some (.ref h) := atI_nat rfl
    have px : 0 < x.2 := by have := sx.b1; omega
    have py : 0 < y.2 := by have := sy.b1; omega
    have bd : ∀ {z : Int}, z.natAbs ≤ 10 ^ 25 → Bd 100 z := fun {z} h => Nat.lt_of_le_of_lt h (by decide)
    have cx : Cn 100 x := ⟨px, bd (by have := sx.t; omega), bd (by have := sx.b1; have := sx.b2; omega)⟩
    have cy : Cn 100 y := ⟨py, bd (by have := sy.t; omega), bd (by have := sy.b1; have := sy.b2; omega)⟩
    have b8 : ∀ {z : F2}, Cn 100 z → B8 (rd z.1 z.2) := fun c => ⟨c.low.t.mono (by decide), c.low.b.mono (by decide)⟩
    refine ⟨_, rfl, _, rfl, _, _, _, _, rfl, rfl, SqT.of ee, a0, p, l, x, rfl, m1.pot, fl, px, ⟨cx.a.mono (by decide), cx.b.mono (by decide)⟩, fun H2 vb m2 ib => ?_⟩
    have ee := m2.tup m1.pot ee
    have fl := fl.mov m2 m1.pot
    have fh := fh.mov m2 m1.pot
    refine ⟨_, rfl, _, rfl, _, _, _, _, rfl, rfl, SqT.of ee, a1, p, h, y, rfl, m2.pot, fh, py, ⟨cy.a.mono (by decide), cy.b.mono (by decide)⟩, fun H3 vt m3 it => ?_⟩
    have ib := isP_mov ib m3 m2.pot
    have en : Ends H3 e x y := ⟨l, h, m3.tup m2.pot ee, fl.mov m3 m2.pot, fh.mov m3 m2.pot⟩
    have M3 := m1.trans (m2.trans m3)
    refine fun q dz hx hdx ne => ⟨q, dz, vb, vt, rd x.1 x.2, rd y.1 y.2, rfl, ib.same (same_new hx hdx), it.same (same_new hx hdx), b8 cx, b8 cy, (lt2_rd py px).trans hlt, upd_same, fun H4 p1 p2 kp eq b1 b2 => ⟨rfl, ?_⟩⟩
    obtain ⟨s4, hst⟩ := made_st hx hdx ne kp eq b1 b2
    have M4 := M3.same s4
    have ok : Ok2 a.c_Amount a.c_Stretch H4 q e x y := ⟨hst, en.same s4, px, py, ⟨cx.a.mono (by decide), cx.b.mono (by decide)⟩, ⟨cy.a.mono (by decide), cy.b.mono (by decide)⟩⟩
    have okm : ∀ {H H' : Hp}, Ok2 a.c_Amount a.c_Stretch H q e x y → Mov p H H' → PotAt H p → Ok2 a.c_Amount a.c_Stretch H' q e x y := fun o m hp => ⟨stM o.st m hp, o.en.mov m hp, o.px, o.py, o.bx, o.bY⟩
    refine ⟨_, rfl, _, rfl, q, e, x, y, rfl, ok, fun H5 s5 => ⟨_, rfl, iteF ?_⟩⟩
    have M5 := M4.same s5
    have ok5 := ok.same s5
    refine ⟨_, rfl, _, rfl, _, rfl, p, q, e, x, y, rfl, ⟨M5.pot, ok5, hlt, sx, sy⟩, fun H6 m6 => ⟨_, rfl, iteF ?_⟩⟩
    have M6 := M5.trans m6
    have ok6 := okm ok5 m6 M5.pot
    refine ⟨_, rfl, _, rfl, _, rfl, p, q, e, x, y, rfl, ⟨M6.pot, ok6, hlt, sx, sy⟩, fun H7 m7 => ⟨_, rfl, iteF ?_⟩⟩
    have M7 := M6.trans m7
    have ok7 := okm ok6 m7 M6.pot
    have tb7 := tabs_mov tb M7 hp
    refine ⟨_, rfl, _, rfl, p, e, x, y, rfl, M7.pot, ok7.en, sx, sy, hlt, tb7, fun H8 m8 tb8 => ⟨_, rfl, iteF ?_⟩⟩
    have kp : ∀ {b : Addr} {o : HO}, H7 b = some o → (∀ xs, o ≠ .lst xs) → (∀ ps, o ≠ .tbl ps) → H8 b = some o := fun e n t => m8.keep _ _ (pot_not M7.pot e n) e t
    have ok8 : Ok2 a.c_Amount a.c_Stretch H8 q e x y := by
      obtain ⟨⟨dx, p1, p2, e1, ⟨d1, e2⟩, ⟨d2, e3⟩⟩, ⟨l, h, e4, e5, e6⟩, c1, c2, c3, c4⟩ := ok7
      exact ⟨⟨dx, p1, p2, kp e1 (fun _ z => nomatch z) (fun _ z => nomatch z), ⟨d1, kp e2 (fun _ z => nomatch z) (fun _ z => nomatch z)⟩, ⟨d2, kp e3 (fun _ z => nomatch z) (fun _ z => nomatch z)⟩⟩,
        ⟨l, h, kp e4 (fun _ z => nomatch z) (fun _ z => nomatch z), kp e5 (fun _ z => nomatch z) (fun _ z => nomatch z), kp e6 (fun _ z => nomatch z) (fun _ z => nomatch z)⟩, c1, c2, c3, c4⟩
    refine ⟨_, rfl, _, rfl, q, e, x, y, rfl, ok8, fun H9 s9 => ?_⟩
    exact k _ (((MovN.of M7).trans m8).ext (.of s9)) (tb8.ext s9)
theorem ok_law (T : Txt K mg a) (TB : TabB base mg a.cc_refusals_right a.PP_refusals_right) : FnG P w K mg base CX0 13 a.f_law a.d_law ["_law_script"] (sp_law K a) := by
  refine okG T.F_law sc_law (fun vs H Q E h => ?_) (fun cdv A outer s H vs Q E gu hr h => ?_)
  · obtain ⟨sc, ns, rfl, _⟩ := h
    rfl
  · obtain ⟨sc, ns, rfl, hS, hlen, tb, k⟩ := h
    refine ⟨_, (pss_one (ps_ret (pe_callB (cr_allK (K := K) rfl rfl) (by rfl) T.b_all (by decide +kernel) (pa_cons (pe_lc (own := [("_law_k", 1)]) (by rfl) sc_law.nd (pi_range1 rfl T.b_range (pa_cons (pe_callB (call_max2 rfl) (by rfl) T.b_max (by decide +kernel) (pa_cons pe_int (pa_cons (pe_callB (call_min2 rfl) (by rfl) T.b_min (by decide +kernel) (pa_cons pe_int (pa_cons (pe_callB (call_lenK (K := K) rfl) (by rfl) T.b_len (by decide +kernel) (pa_cons (pv 0) pa_nil)) pa_nil))) pa_nil))) pa_nil)) (blkOk_by (own := [("_law_k", 1)]) (N := ["_law_script", "_law_k"]) (sc := defScope s_law) (by decide +kernel)) (fun _ _ _ _ _ => (pg_name (i := 1) sc_law.nd rfl (by first | exact Or.inl rfl | exact Or.inr rfl))) (fun _ _ _ _ _ => pts_nil) (fun _ _ _ _ _ => (pe_callG (ok_right T TB) gu (hr.mono (by decide)) (by rfl) T.m_right T.F_right.kp (b_right T) .nil pass0 (pa_cons (pe_call (ok_pot T) (hr.mono (by decide)) (by rfl) T.m_pot T.F_pot.kp (b_pot T) .nil pass0 (pa_cons (pv 0) (pa_cons (pv 1) pa_nil))) pa_nil)))) pa_nil)))), ?_⟩
    refine ⟨_, rfl, _, _, rfl, .inl hS, _, _, rfl, _, _, rfl, ?_⟩
    have hn : ∃ n : Nat, n ≤ 8 ∧ (if (if (((ns.map V.int).length : Nat) : Int) < 8 then (((ns.map V.int).length : Nat) : Int) else 8) > 1 then (if (((ns.map V.int).length : Nat) : Int) < 8 then (((ns.map V.int).length : Nat) : Int) else 8) else 1) = (n : Int) := by
      rw [List.length_map]
      refine ⟨(if (if ns.length < 8 then ns.length else 8) > 1 then (if ns.length < 8 then ns.length else 8) else 1), ?_, ?_⟩
      · split <;> (try split) <;> omega
      · split <;> split <;> (try split) <;> (try split) <;> omega
    obtain ⟨n, hn4, en⟩ := hn
    rw [en]
    refine ⟨_, rfl, (by omega), (by omega), fun D hD => ?_⟩
    have s0 := Lb.Same.upd (o := .lst []) hD
    refine lc_range (lo := 0) (n := n) (fun i H' => ExtN H H' ∧ Tabs (TL1 a) H' ∧ H' D = some (.lst ((List.replicate i true).map V.bl))) ⟨.of s0, tb.ext s0, upd_same⟩ ?_ ?_
    · rintro i H' hi ⟨x1, tb1, e1⟩
      refine ⟨rfl, ?_⟩
      refine ⟨_, rfl, _, rfl, sc, ns, i, by simp, SqL.extN x1 hS, hlen, by omega, fun H2 p s2 hp pot => ?_⟩
      refine ⟨p, rfl, pot, tb1.ext s2, fun H3 m3 tb3 => ?_⟩
      have nD : D ≠ p := fun q => by
        rw [← q, e1] at hp
        cases hp
      have x3 : ExtN H' H3 := fun b o e t => m3.keep b o (ne_of_none e hp) (s2 _ _ e) t
      have eD := x3 _ _ e1 fun _ z => nomatch z
      have up : ∀ {o}, Tabs (TL1 a) (upd H3 D o) := fun {o} => by
        intro q hq
        obtain ⟨ps, h1, h2, h3⟩ := tb3 q hq
        have n1 : q.1 ≠ D := fun z => by rw [z, eD] at h1; cases h1
        refine ⟨ps, by rw [upd_ne n1]; exact h1, h2, fun pos cv hc => ?_⟩
        obtain ⟨c, c1, c2⟩ := h3 pos cv hc
        have n2 : c ≠ D := fun z => by
          rw [z, eD] at c2
          have c2 := Option.some.inj c2
          unfold CodeO at c2
          cases c2
        exact ⟨c, c1, by rw [upd_ne n2]; exact c2⟩
      refine ⟨_, eD, ?_, ?_, up, ?_⟩
      · rw [List.length_map, List.length_replicate]
        exact szlt (by omega)
      · intro b o e t
        rw [upd_ne (ne_of_none e hD)]
        exact x3 _ _ (x1 _ _ e t) t
      · rw [upd_same, List.replicate_succ', List.map_append]
        rfl
    · rintro H' ⟨x1, tb1, e1⟩
      refine ⟨D, _, rfl, SqL.of e1, ?_⟩
      rw [all_replicate_true]
      exact k _
end
end K48

set_option Elab.async false
set_option linter.all false
set_option maxRecDepth 100000
set_option maxHeartbeats 4000000
namespace Lb
open PySem L2
theorem kit_ty_sub {K : PySem.W.Frag} {C : Addr} {T : String} {b : Bool} (h : PySem.W.subIn K (.ref C) (.type T) = some b) (hm : PySem.W.kitMeta T = true := by decide +kernel) : PySem.W.kitOne K (.ref C) (.type T) = some b := by
  have ne : (Value.ref C == Value.type T) = false := Bool.eq_false_iff.mpr fun q => nomatch beq_iff_eq.mp q
  unfold PySem.W.kitOne
  rw [ne, if_neg (by decide)]
  unfold PySem.W.kitCls
  dsimp only
  rw [if_pos hm]
  exact h
theorem FnG.imp {P : Program} {w : World} {K : PySem.W.Frag} {mg : Str → Option Value} {base : Heap} {CX : CXT} {k : Nat} {f : Addr} {fd : FuncData} {ps : List Str} {sp sq : Sp} (F : FnG P w K mg base CX k f fd ps sp) (h : ∀ vs H Q E, sq vs H Q E → sp vs H Q E) : FnG P w K mg base CX k f fd ps sq :=
  ⟨fun vs H Q E q => F.len vs H Q E (h _ _ _ _ q), fun A outer s H args us vs Q E g hr e0 hb r q => F.run A outer s H args us vs Q E g hr e0 hb r (h _ _ _ _ q)⟩
end Lb
namespace K48
open PySem L2 Lb
def spL (K : PySem.W.Frag) (cs : List (Addr × Addr)) : Sp := fun vs H Q _ => ∃ (sc : Addr) (ns : List Int), vs = [.ref sc] ∧ SqL K H sc (ns.map V.int) ∧ ns.length ≤ 63 ∧ (∀ p ∈ cs, H p.2 = some (.tbl #[])) ∧ ∀ H', Q (.bl true) H'
theorem law_imp {P : Program} {w : World} {K : PySem.W.Frag} {mg : Str → Option Value} {base : Heap} {a : Ad} {f : Addr} {fd : FuncData} {c1 : Addr} (F : FnG P w K mg base CX0 13 f fd ["_law_script"] (sp_law K a)) : FnG P w K mg base CX0 13 f fd ["_law_script"] (spL K [(c1, a.PP_refusals_right)]) :=
  FnG.imp F fun vs H Q E ⟨sc, ns, e, hS, hl, hT, q⟩ => ⟨sc, ns, e, hS, hl, fun p hp => by
    rw [List.mem_singleton.mp hp]
    exact LamX.TabS.nil (hT _ List.mem_cons_self), q⟩
end K48

set_option Elab.async false
set_option linter.all false
set_option maxRecDepth 100000
namespace K48
open PySem L2 Lb
set_option maxHeartbeats 0 in
theorem all_mk {l : PySem.W.OpenLaw} {w : World} {K : PySem.W.Frag} {h : Heap} {mg : Str → Option Value} (X : K.In h) (G : h.Ns mainGlobals mg) {fa : Addr} (hfa : mg "law" = some (.ref fa))
    {c_Amount : Addr}
    {c_Stretch : Addr}
    {c_InvalidAmount : Addr}
    {c_PipeError : Addr}
    {p_low : Addr}
    {p_high : Addr}
    {p_is_single : Addr}
    {cc_refusals_right : Addr}
    {PP_refusals_right : Addr}
    {f_InvalidAmount_init_ : Addr} {od_0 an_0 : Option Addr} {sl_0 : Array (Option Value)} {oc_0 kV_0 dc_0 pm_0 cd_0 ct_0 : Value}
    {f_is_integer : Addr} {od_1 an_1 : Option Addr} {sl_1 : Array (Option Value)} {oc_1 kV_1 dc_1 pm_1 cd_1 ct_1 : Value}
    {f_is_amount : Addr} {od_2 an_2 : Option Addr} {sl_2 : Array (Option Value)} {oc_2 kV_2 dc_2 pm_2 cd_2 ct_2 : Value}
    {f_amount_of : Addr} {od_3 an_3 : Option Addr} {sl_3 : Array (Option Value)} {oc_3 kV_3 dc_3 pm_3 cd_3 ct_3 : Value}
    {f_decimal : Addr} {od_4 an_4 : Option Addr} {sl_4 : Array (Option Value)} {oc_4 kV_4 dc_4 pm_4 cd_4 ct_4 : Value}
    {f_Amount_init_ : Addr} {od_5 an_5 : Option Addr} {sl_5 : Array (Option Value)} {oc_5 kV_5 dc_5 pm_5 cd_5 ct_5 : Value}
    {T_5 : Addr} {o_5 : Obj} {dn_5 : Nat} {its_5 : List Value}
    {f_Amount_add_ : Addr} {od_6 an_6 : Option Addr} {sl_6 : Array (Option Value)} {oc_6 kV_6 dc_6 pm_6 cd_6 ct_6 : Value}
    {f_Amount_radd_ : Addr} {od_7 an_7 : Option Addr} {sl_7 : Array (Option Value)} {oc_7 kV_7 dc_7 pm_7 cd_7 ct_7 : Value}
    {f_Amount_neg_ : Addr} {od_8 an_8 : Option Addr} {sl_8 : Array (Option Value)} {oc_8 kV_8 dc_8 pm_8 cd_8 ct_8 : Value}
    {f_Amount_eq_ : Addr} {od_9 an_9 : Option Addr} {sl_9 : Array (Option Value)} {oc_9 kV_9 dc_9 pm_9 cd_9 ct_9 : Value}
    {f_Amount_lt_ : Addr} {od_10 an_10 : Option Addr} {sl_10 : Array (Option Value)} {oc_10 kV_10 dc_10 pm_10 cd_10 ct_10 : Value}
    {f_Amount_str_ : Addr} {od_11 an_11 : Option Addr} {sl_11 : Array (Option Value)} {oc_11 kV_11 dc_11 pm_11 cd_11 ct_11 : Value}
    {f_Amount_repr_ : Addr} {od_12 an_12 : Option Addr} {sl_12 : Array (Option Value)} {oc_12 kV_12 dc_12 pm_12 cd_12 ct_12 : Value}
    {f_Stretch_init_ : Addr} {od_13 an_13 : Option Addr} {sl_13 : Array (Option Value)} {oc_13 kV_13 dc_13 pm_13 cd_13 ct_13 : Value}
    {f_Stretchlow : Addr} {od_14 an_14 : Option Addr} {sl_14 : Array (Option Value)} {oc_14 kV_14 dc_14 pm_14 cd_14 ct_14 : Value}
    {rest_14 : List Value}
    {f_Stretchhigh : Addr} {od_15 an_15 : Option Addr} {sl_15 : Array (Option Value)} {oc_15 kV_15 dc_15 pm_15 cd_15 ct_15 : Value}
    {rest_15 : List Value}
    {f_Stretchis_single : Addr} {od_16 an_16 : Option Addr} {sl_16 : Array (Option Value)} {oc_16 kV_16 dc_16 pm_16 cd_16 ct_16 : Value}
    {rest_16 : List Value}
    {f_Stretch_contains_ : Addr} {od_17 an_17 : Option Addr} {sl_17 : Array (Option Value)} {oc_17 kV_17 dc_17 pm_17 cd_17 ct_17 : Value}
    {f_Stretch_eq_ : Addr} {od_18 an_18 : Option Addr} {sl_18 : Array (Option Value)} {oc_18 kV_18 dc_18 pm_18 cd_18 ct_18 : Value}
    {f_Stretch_str_ : Addr} {od_19 an_19 : Option Addr} {sl_19 : Array (Option Value)} {oc_19 kV_19 dc_19 pm_19 cd_19 ct_19 : Value}
    {f_Stretch_repr_ : Addr} {od_20 an_20 : Option Addr} {sl_20 : Array (Option Value)} {oc_20 kV_20 dc_20 pm_20 cd_20 ct_20 : Value}
    {f_Stretchplus : Addr} {od_21 an_21 : Option Addr} {sl_21 : Array (Option Value)} {oc_21 kV_21 dc_21 pm_21 cd_21 ct_21 : Value}
    {f_Stretchturned : Addr} {od_22 an_22 : Option Addr} {sl_22 : Array (Option Value)} {oc_22 kV_22 dc_22 pm_22 cd_22 ct_22 : Value}
    {f_pot : Addr} {od_23 an_23 : Option Addr} {sl_23 : Array (Option Value)} {oc_23 kV_23 dc_23 pm_23 cd_23 ct_23 : Value}
    {f_draw : Addr} {od_24 an_24 : Option Addr} {sl_24 : Array (Option Value)} {oc_24 kV_24 dc_24 pm_24 cd_24 ct_24 : Value}
    {f_pick : Addr} {od_25 an_25 : Option Addr} {sl_25 : Array (Option Value)} {oc_25 kV_25 dc_25 pm_25 cd_25 ct_25 : Value}
    {f_less : Addr} {od_26 an_26 : Option Addr} {sl_26 : Array (Option Value)} {oc_26 kV_26 dc_26 pm_26 cd_26 ct_26 : Value}
    {f_fraction : Addr} {od_27 an_27 : Option Addr} {sl_27 : Array (Option Value)} {oc_27 kV_27 dc_27 pm_27 cd_27 ct_27 : Value}
    {f_lowest : Addr} {od_28 an_28 : Option Addr} {sl_28 : Array (Option Value)} {oc_28 kV_28 dc_28 pm_28 cd_28 ct_28 : Value}
    {f_text : Addr} {od_29 an_29 : Option Addr} {sl_29 : Array (Option Value)} {oc_29 kV_29 dc_29 pm_29 cd_29 ct_29 : Value}
    {f_name : Addr} {od_30 an_30 : Option Addr} {sl_30 : Array (Option Value)} {oc_30 kV_30 dc_30 pm_30 cd_30 ct_30 : Value}
    {f_handed : Addr} {od_31 an_31 : Option Addr} {sl_31 : Array (Option Value)} {oc_31 kV_31 dc_31 pm_31 cd_31 ct_31 : Value}
    {f_ends : Addr} {od_32 an_32 : Option Addr} {sl_32 : Array (Option Value)} {oc_32 kV_32 dc_32 pm_32 cd_32 ct_32 : Value}
    {f_is_in : Addr} {od_33 an_33 : Option Addr} {sl_33 : Array (Option Value)} {oc_33 kV_33 dc_33 pm_33 cd_33 ct_33 : Value}
    {f_in_right : Addr} {od_34 an_34 : Option Addr} {sl_34 : Array (Option Value)} {oc_34 kV_34 dc_34 pm_34 cd_34 ct_34 : Value}
    {f_shown_right : Addr} {od_35 an_35 : Option Addr} {sl_35 : Array (Option Value)} {oc_35 kV_35 dc_35 pm_35 cd_35 ct_35 : Value}
    {f_sum : Addr} {od_36 an_36 : Option Addr} {sl_36 : Array (Option Value)} {oc_36 kV_36 dc_36 pm_36 cd_36 ct_36 : Value}
    {f_reckoned_right : Addr} {od_37 an_37 : Option Addr} {sl_37 : Array (Option Value)} {oc_37 kV_37 dc_37 pm_37 cd_37 ct_37 : Value}
    {f_refused : Addr} {od_38 an_38 : Option Addr} {sl_38 : Array (Option Value)} {oc_38 kV_38 dc_38 pm_38 cd_38 ct_38 : Value}
    {f_refusals_right : Addr} {od_39 an_39 : Option Addr} {sl_39 : Array (Option Value)} {oc_39 kV_39 dc_39 pm_39 ct_39 : Value}
    {f_right : Addr} {od_40 an_40 : Option Addr} {sl_40 : Array (Option Value)} {oc_40 kV_40 dc_40 pm_40 cd_40 ct_40 : Value}
    {f_law : Addr} {od_41 an_41 : Option Addr} {sl_41 : Array (Option Value)} {oc_41 kV_41 dc_41 pm_41 cd_41 ct_41 : Value}
    {tP : Tok}
    {tL : Tok}
    {fo_add ro_add : Option Value}
    {nm_InvalidAmount qn_InvalidAmount : Str} {N_InvalidAmount : Addr} {bs_InvalidAmount : List Value} {sn_InvalidAmount : List Str} {su_InvalidAmount : List Value} {ab_InvalidAmount : Bool} {co_InvalidAmount : Option Bool} {dd_InvalidAmount : Option Addr} {m0_InvalidAmount m1_InvalidAmount m2_InvalidAmount m3_InvalidAmount m5_InvalidAmount : Option Value}
    {qq : Program}
    {dd_refusals_right : PySem.DefRec}
    (aC_Amount : PySem.W.nsIn K mainGlobals "Amount" = some (some (.ref c_Amount)))
    (aC_Stretch : PySem.W.nsIn K mainGlobals "Stretch" = some (some (.ref c_Stretch)))
    (aC_InvalidAmount : PySem.W.nsIn K mainGlobals "InvalidAmount" = some (some (.ref c_InvalidAmount)))
    (aC_PipeError : PySem.W.nsIn K mainGlobals "PipeError" = some (some (.ref c_PipeError)))
    (a_InvalidAmount_init_ : PySem.W.findIn K (.ref c_InvalidAmount) "__init__" = some (some (.ref f_InvalidAmount_init_)))
    (i_InvalidAmount_init_ : PySem.W.isFn K (.ref f_InvalidAmount_init_) = true)
    (l_InvalidAmount_init_ : K.lookup f_InvalidAmount_init_ = some ⟨oc_0, od_0, .func (PySem.W.fnOf "__init__" "InvalidAmount.__init__" (defArgs s_InvalidAmount_init_) (defBody s_InvalidAmount_init_) (defScope s_InvalidAmount_init_) .none kV_0 dc_0 pm_0 an_0 cd_0 ct_0), sl_0⟩)
    (k1_InvalidAmount_init_ : PySem.W.codeIn K cd_0 "InvalidAmount.__init__" = true)
    (k2_InvalidAmount_init_ : PySem.W.keepIn K (.ref f_InvalidAmount_init_) = true)
    (a_is_integer : PySem.W.nsIn K mainGlobals "is_integer" = some (some (.ref f_is_integer)))
    (l_is_integer : K.lookup f_is_integer = some ⟨oc_1, od_1, .func (PySem.W.fnOf "is_integer" "is_integer" (defArgs s_is_integer) (defBody s_is_integer) (defScope s_is_integer) .none kV_1 dc_1 pm_1 an_1 cd_1 ct_1), sl_1⟩)
    (k1_is_integer : PySem.W.codeIn K cd_1 "is_integer" = true)
    (k2_is_integer : PySem.W.keepIn K (.ref f_is_integer) = true)
    (a_is_amount : PySem.W.nsIn K mainGlobals "is_amount" = some (some (.ref f_is_amount)))
    (l_is_amount : K.lookup f_is_amount = some ⟨oc_2, od_2, .func (PySem.W.fnOf "is_amount" "is_amount" (defArgs s_is_amount) (defBody s_is_amount) (defScope s_is_amount) .none kV_2 dc_2 pm_2 an_2 cd_2 ct_2), sl_2⟩)
    (k1_is_amount : PySem.W.codeIn K cd_2 "is_amount" = true)
    (k2_is_amount : PySem.W.keepIn K (.ref f_is_amount) = true)
    (a_amount_of : PySem.W.nsIn K mainGlobals "amount_of" = some (some (.ref f_amount_of)))
    (l_amount_of : K.lookup f_amount_of = some ⟨oc_3, od_3, .func (PySem.W.fnOf "amount_of" "amount_of" (defArgs s_amount_of) (defBody s_amount_of) (defScope s_amount_of) .none kV_3 dc_3 pm_3 an_3 cd_3 ct_3), sl_3⟩)
    (k1_amount_of : PySem.W.codeIn K cd_3 "amount_of" = true)
    (k2_amount_of : PySem.W.keepIn K (.ref f_amount_of) = true)
    (a_decimal : PySem.W.nsIn K mainGlobals "_decimal" = some (some (.ref f_decimal)))
    (l_decimal : K.lookup f_decimal = some ⟨oc_4, od_4, .func (PySem.W.fnOf "_decimal" "_decimal" (defArgs s_decimal) (defBody s_decimal) (defScope s_decimal) .none kV_4 dc_4 pm_4 an_4 cd_4 ct_4), sl_4⟩)
    (k1_decimal : PySem.W.codeIn K cd_4 "_decimal" = true)
    (k2_decimal : PySem.W.keepIn K (.ref f_decimal) = true)
    (a_Amount_init_ : PySem.W.findIn K (.ref c_Amount) "__init__" = some (some (.ref f_Amount_init_)))
    (i_Amount_init_ : PySem.W.isFn K (.ref f_Amount_init_) = true)
    (l_Amount_init_ : K.lookup f_Amount_init_ = some ⟨oc_5, od_5, .func (PySem.W.fnOf "__init__" "Amount.__init__" (defArgs s_Amount_init_) (defBody s_Amount_init_) (defScope s_Amount_init_) (.ref T_5) kV_5 dc_5 pm_5 an_5 cd_5 ct_5), sl_5⟩)
    (k1_Amount_init_ : PySem.W.codeIn K cd_5 "Amount.__init__" = true)
    (k2_Amount_init_ : PySem.W.keepIn K (.ref f_Amount_init_) = true)
    (dl_Amount_init_ : K.lookup T_5 = some o_5)
    (do_Amount_init_ : o_5.data = .seq its_5.toArray dn_5)
    (dv_Amount_init_ : Vals [.int 1] its_5)
    (a_Amount_add_ : PySem.W.findIn K (.ref c_Amount) "__add__" = some (some (.ref f_Amount_add_)))
    (i_Amount_add_ : PySem.W.isFn K (.ref f_Amount_add_) = true)
    (l_Amount_add_ : K.lookup f_Amount_add_ = some ⟨oc_6, od_6, .func (PySem.W.fnOf "__add__" "Amount.__add__" (defArgs s_Amount_add_) (defBody s_Amount_add_) (defScope s_Amount_add_) .none kV_6 dc_6 pm_6 an_6 cd_6 ct_6), sl_6⟩)
    (k1_Amount_add_ : PySem.W.codeIn K cd_6 "Amount.__add__" = true)
    (k2_Amount_add_ : PySem.W.keepIn K (.ref f_Amount_add_) = true)
    (a_Amount_radd_ : PySem.W.findIn K (.ref c_Amount) "__radd__" = some (some (.ref f_Amount_radd_)))
    (i_Amount_radd_ : PySem.W.isFn K (.ref f_Amount_radd_) = true)
    (l_Amount_radd_ : K.lookup f_Amount_radd_ = some ⟨oc_7, od_7, .func (PySem.W.fnOf "__radd__" "Amount.__radd__" (defArgs s_Amount_radd_) (defBody s_Amount_radd_) (defScope s_Amount_radd_) .none kV_7 dc_7 pm_7 an_7 cd_7 ct_7), sl_7⟩)
    (k1_Amount_radd_ : PySem.W.codeIn K cd_7 "Amount.__radd__" = true)
    (k2_Amount_radd_ : PySem.W.keepIn K (.ref f_Amount_radd_) = true)
    (a_Amount_neg_ : PySem.W.findIn K (.ref c_Amount) "__neg__" = some (some (.ref f_Amount_neg_)))
    (i_Amount_neg_ : PySem.W.isFn K (.ref f_Amount_neg_) = true)
    (l_Amount_neg_ : K.lookup f_Amount_neg_ = some ⟨oc_8, od_8, .func (PySem.W.fnOf "__neg__" "Amount.__neg__" (defArgs s_Amount_neg_) (defBody s_Amount_neg_) (defScope s_Amount_neg_) .none kV_8 dc_8 pm_8 an_8 cd_8 ct_8), sl_8⟩)
    (k1_Amount_neg_ : PySem.W.codeIn K cd_8 "Amount.__neg__" = true)
    (k2_Amount_neg_ : PySem.W.keepIn K (.ref f_Amount_neg_) = true)
    (a_Amount_eq_ : PySem.W.findIn K (.ref c_Amount) "__eq__" = some (some (.ref f_Amount_eq_)))
    (i_Amount_eq_ : PySem.W.isFn K (.ref f_Amount_eq_) = true)
    (l_Amount_eq_ : K.lookup f_Amount_eq_ = some ⟨oc_9, od_9, .func (PySem.W.fnOf "__eq__" "Amount.__eq__" (defArgs s_Amount_eq_) (defBody s_Amount_eq_) (defScope s_Amount_eq_) .none kV_9 dc_9 pm_9 an_9 cd_9 ct_9), sl_9⟩)
    (k1_Amount_eq_ : PySem.W.codeIn K cd_9 "Amount.__eq__" = true)
    (k2_Amount_eq_ : PySem.W.keepIn K (.ref f_Amount_eq_) = true)
    (a_Amount_lt_ : PySem.W.findIn K (.ref c_Amount) "__lt__" = some (some (.ref f_Amount_lt_)))
    (i_Amount_lt_ : PySem.W.isFn K (.ref f_Amount_lt_) = true)
    (l_Amount_lt_ : K.lookup f_Amount_lt_ = some ⟨oc_10, od_10, .func (PySem.W.fnOf "__lt__" "Amount.__lt__" (defArgs s_Amount_lt_) (defBody s_Amount_lt_) (defScope s_Amount_lt_) .none kV_10 dc_10 pm_10 an_10 cd_10 ct_10), sl_10⟩)
    (k1_Amount_lt_ : PySem.W.codeIn K cd_10 "Amount.__lt__" = true)
    (k2_Amount_lt_ : PySem.W.keepIn K (.ref f_Amount_lt_) = true)
    (a_Amount_str_ : PySem.W.findIn K (.ref c_Amount) "__str__" = some (some (.ref f_Amount_str_)))
    (i_Amount_str_ : PySem.W.isFn K (.ref f_Amount_str_) = true)
    (l_Amount_str_ : K.lookup f_Amount_str_ = some ⟨oc_11, od_11, .func (PySem.W.fnOf "__str__" "Amount.__str__" (defArgs s_Amount_str_) (defBody s_Amount_str_) (defScope s_Amount_str_) .none kV_11 dc_11 pm_11 an_11 cd_11 ct_11), sl_11⟩)
    (k1_Amount_str_ : PySem.W.codeIn K cd_11 "Amount.__str__" = true)
    (k2_Amount_str_ : PySem.W.keepIn K (.ref f_Amount_str_) = true)
    (a_Amount_repr_ : PySem.W.findIn K (.ref c_Amount) "__repr__" = some (some (.ref f_Amount_repr_)))
    (i_Amount_repr_ : PySem.W.isFn K (.ref f_Amount_repr_) = true)
    (l_Amount_repr_ : K.lookup f_Amount_repr_ = some ⟨oc_12, od_12, .func (PySem.W.fnOf "__repr__" "Amount.__repr__" (defArgs s_Amount_repr_) (defBody s_Amount_repr_) (defScope s_Amount_repr_) .none kV_12 dc_12 pm_12 an_12 cd_12 ct_12), sl_12⟩)
    (k1_Amount_repr_ : PySem.W.codeIn K cd_12 "Amount.__repr__" = true)
    (k2_Amount_repr_ : PySem.W.keepIn K (.ref f_Amount_repr_) = true)
    (a_Stretch_init_ : PySem.W.findIn K (.ref c_Stretch) "__init__" = some (some (.ref f_Stretch_init_)))
    (i_Stretch_init_ : PySem.W.isFn K (.ref f_Stretch_init_) = true)
    (l_Stretch_init_ : K.lookup f_Stretch_init_ = some ⟨oc_13, od_13, .func (PySem.W.fnOf "__init__" "Stretch.__init__" (defArgs s_Stretch_init_) (defBody s_Stretch_init_) (defScope s_Stretch_init_) .none kV_13 dc_13 pm_13 an_13 cd_13 ct_13), sl_13⟩)
    (k1_Stretch_init_ : PySem.W.codeIn K cd_13 "Stretch.__init__" = true)
    (k2_Stretch_init_ : PySem.W.keepIn K (.ref f_Stretch_init_) = true)
    (pa_Stretchlow : PySem.W.findIn K (.ref c_Stretch) "low" = some (some (.ref p_low)))
    (pg_Stretchlow : PySem.W.specialIn K (.ref p_low) "__get__" = some (some (.builtin "property.__get__")))
    (pt_Stretchlow : PySem.W.takesIn K (.ref p_low) = some true)
    (pr_Stretchlow : PySem.W.recIn K p_low "property" = some (.ref f_Stretchlow :: rest_14))
    (l_Stretchlow : K.lookup f_Stretchlow = some ⟨oc_14, od_14, .func (PySem.W.fnOf "low" "Stretch.low" (defArgs s_Stretchlow) (defBody s_Stretchlow) (defScope s_Stretchlow) .none kV_14 dc_14 pm_14 an_14 cd_14 ct_14), sl_14⟩)
    (k1_Stretchlow : PySem.W.codeIn K cd_14 "Stretch.low" = true)
    (k2_Stretchlow : PySem.W.keepIn K (.ref f_Stretchlow) = true)
    (pa_Stretchhigh : PySem.W.findIn K (.ref c_Stretch) "high" = some (some (.ref p_high)))
    (pg_Stretchhigh : PySem.W.specialIn K (.ref p_high) "__get__" = some (some (.builtin "property.__get__")))
    (pt_Stretchhigh : PySem.W.takesIn K (.ref p_high) = some true)
    (pr_Stretchhigh : PySem.W.recIn K p_high "property" = some (.ref f_Stretchhigh :: rest_15))
    (l_Stretchhigh : K.lookup f_Stretchhigh = some ⟨oc_15, od_15, .func (PySem.W.fnOf "high" "Stretch.high" (defArgs s_Stretchhigh) (defBody s_Stretchhigh) (defScope s_Stretchhigh) .none kV_15 dc_15 pm_15 an_15 cd_15 ct_15), sl_15⟩)
    (k1_Stretchhigh : PySem.W.codeIn K cd_15 "Stretch.high" = true)
    (k2_Stretchhigh : PySem.W.keepIn K (.ref f_Stretchhigh) = true)
    (pa_Stretchis_single : PySem.W.findIn K (.ref c_Stretch) "is_single" = some (some (.ref p_is_single)))
    (pg_Stretchis_single : PySem.W.specialIn K (.ref p_is_single) "__get__" = some (some (.builtin "property.__get__")))
    (pt_Stretchis_single : PySem.W.takesIn K (.ref p_is_single) = some true)
    (pr_Stretchis_single : PySem.W.recIn K p_is_single "property" = some (.ref f_Stretchis_single :: rest_16))
    (l_Stretchis_single : K.lookup f_Stretchis_single = some ⟨oc_16, od_16, .func (PySem.W.fnOf "is_single" "Stretch.is_single" (defArgs s_Stretchis_single) (defBody s_Stretchis_single) (defScope s_Stretchis_single) .none kV_16 dc_16 pm_16 an_16 cd_16 ct_16), sl_16⟩)
    (k1_Stretchis_single : PySem.W.codeIn K cd_16 "Stretch.is_single" = true)
    (k2_Stretchis_single : PySem.W.keepIn K (.ref f_Stretchis_single) = true)
    (a_Stretch_contains_ : PySem.W.findIn K (.ref c_Stretch) "__contains__" = some (some (.ref f_Stretch_contains_)))
    (i_Stretch_contains_ : PySem.W.isFn K (.ref f_Stretch_contains_) = true)
    (l_Stretch_contains_ : K.lookup f_Stretch_contains_ = some ⟨oc_17, od_17, .func (PySem.W.fnOf "__contains__" "Stretch.__contains__" (defArgs s_Stretch_contains_) (defBody s_Stretch_contains_) (defScope s_Stretch_contains_) .none kV_17 dc_17 pm_17 an_17 cd_17 ct_17), sl_17⟩)
    (k1_Stretch_contains_ : PySem.W.codeIn K cd_17 "Stretch.__contains__" = true)
    (k2_Stretch_contains_ : PySem.W.keepIn K (.ref f_Stretch_contains_) = true)
    (a_Stretch_eq_ : PySem.W.findIn K (.ref c_Stretch) "__eq__" = some (some (.ref f_Stretch_eq_)))
    (i_Stretch_eq_ : PySem.W.isFn K (.ref f_Stretch_eq_) = true)
    (l_Stretch_eq_ : K.lookup f_Stretch_eq_ = some ⟨oc_18, od_18, .func (PySem.W.fnOf "__eq__" "Stretch.__eq__" (defArgs s_Stretch_eq_) (defBody s_Stretch_eq_) (defScope s_Stretch_eq_) .none kV_18 dc_18 pm_18 an_18 cd_18 ct_18), sl_18⟩)
    (k1_Stretch_eq_ : PySem.W.codeIn K cd_18 "Stretch.__eq__" = true)
    (k2_Stretch_eq_ : PySem.W.keepIn K (.ref f_Stretch_eq_) = true)
    (a_Stretch_str_ : PySem.W.findIn K (.ref c_Stretch) "__str__" = some (some (.ref f_Stretch_str_)))
    (i_Stretch_str_ : PySem.W.isFn K (.ref f_Stretch_str_) = true)
    (l_Stretch_str_ : K.lookup f_Stretch_str_ = some ⟨oc_19, od_19, .func (PySem.W.fnOf "__str__" "Stretch.__str__" (defArgs s_Stretch_str_) (defBody s_Stretch_str_) (defScope s_Stretch_str_) .none kV_19 dc_19 pm_19 an_19 cd_19 ct_19), sl_19⟩)
    (k1_Stretch_str_ : PySem.W.codeIn K cd_19 "Stretch.__str__" = true)
    (k2_Stretch_str_ : PySem.W.keepIn K (.ref f_Stretch_str_) = true)
    (a_Stretch_repr_ : PySem.W.findIn K (.ref c_Stretch) "__repr__" = some (some (.ref f_Stretch_repr_)))
    (i_Stretch_repr_ : PySem.W.isFn K (.ref f_Stretch_repr_) = true)
    (l_Stretch_repr_ : K.lookup f_Stretch_repr_ = some ⟨oc_20, od_20, .func (PySem.W.fnOf "__repr__" "Stretch.__repr__" (defArgs s_Stretch_repr_) (defBody s_Stretch_repr_) (defScope s_Stretch_repr_) .none kV_20 dc_20 pm_20 an_20 cd_20 ct_20), sl_20⟩)
    (k1_Stretch_repr_ : PySem.W.codeIn K cd_20 "Stretch.__repr__" = true)
    (k2_Stretch_repr_ : PySem.W.keepIn K (.ref f_Stretch_repr_) = true)
    (a_Stretchplus : PySem.W.findIn K (.ref c_Stretch) "plus" = some (some (.ref f_Stretchplus)))
    (i_Stretchplus : PySem.W.isFn K (.ref f_Stretchplus) = true)
    (l_Stretchplus : K.lookup f_Stretchplus = some ⟨oc_21, od_21, .func (PySem.W.fnOf "plus" "Stretch.plus" (defArgs s_Stretchplus) (defBody s_Stretchplus) (defScope s_Stretchplus) .none kV_21 dc_21 pm_21 an_21 cd_21 ct_21), sl_21⟩)
    (k1_Stretchplus : PySem.W.codeIn K cd_21 "Stretch.plus" = true)
    (k2_Stretchplus : PySem.W.keepIn K (.ref f_Stretchplus) = true)
    (a_Stretchturned : PySem.W.findIn K (.ref c_Stretch) "turned" = some (some (.ref f_Stretchturned)))
    (i_Stretchturned : PySem.W.isFn K (.ref f_Stretchturned) = true)
    (l_Stretchturned : K.lookup f_Stretchturned = some ⟨oc_22, od_22, .func (PySem.W.fnOf "turned" "Stretch.turned" (defArgs s_Stretchturned) (defBody s_Stretchturned) (defScope s_Stretchturned) .none kV_22 dc_22 pm_22 an_22 cd_22 ct_22), sl_22⟩)
    (k1_Stretchturned : PySem.W.codeIn K cd_22 "Stretch.turned" = true)
    (k2_Stretchturned : PySem.W.keepIn K (.ref f_Stretchturned) = true)
    (a_pot : PySem.W.nsIn K mainGlobals "_law_pot" = some (some (.ref f_pot)))
    (l_pot : K.lookup f_pot = some ⟨oc_23, od_23, .func (PySem.W.fnOf "_law_pot" "_law_pot" (defArgs s_pot) (defBody s_pot) (defScope s_pot) .none kV_23 dc_23 pm_23 an_23 cd_23 ct_23), sl_23⟩)
    (k1_pot : PySem.W.codeIn K cd_23 "_law_pot" = true)
    (k2_pot : PySem.W.keepIn K (.ref f_pot) = true)
    (a_draw : PySem.W.nsIn K mainGlobals "_law_draw" = some (some (.ref f_draw)))
    (l_draw : K.lookup f_draw = some ⟨oc_24, od_24, .func (PySem.W.fnOf "_law_draw" "_law_draw" (defArgs s_draw) (defBody s_draw) (defScope s_draw) .none kV_24 dc_24 pm_24 an_24 cd_24 ct_24), sl_24⟩)
    (k1_draw : PySem.W.codeIn K cd_24 "_law_draw" = true)
    (k2_draw : PySem.W.keepIn K (.ref f_draw) = true)
    (a_pick : PySem.W.nsIn K mainGlobals "_law_pick" = some (some (.ref f_pick)))
    (l_pick : K.lookup f_pick = some ⟨oc_25, od_25, .func (PySem.W.fnOf "_law_pick" "_law_pick" (defArgs s_pick) (defBody s_pick) (defScope s_pick) .none kV_25 dc_25 pm_25 an_25 cd_25 ct_25), sl_25⟩)
    (k1_pick : PySem.W.codeIn K cd_25 "_law_pick" = true)
    (k2_pick : PySem.W.keepIn K (.ref f_pick) = true)
    (a_less : PySem.W.nsIn K mainGlobals "_law_less" = some (some (.ref f_less)))
    (l_less : K.lookup f_less = some ⟨oc_26, od_26, .func (PySem.W.fnOf "_law_less" "_law_less" (defArgs s_less) (defBody s_less) (defScope s_less) .none kV_26 dc_26 pm_26 an_26 cd_26 ct_26), sl_26⟩)
    (k1_less : PySem.W.codeIn K cd_26 "_law_less" = true)
    (k2_less : PySem.W.keepIn K (.ref f_less) = true)
    (a_fraction : PySem.W.nsIn K mainGlobals "_law_fraction" = some (some (.ref f_fraction)))
    (l_fraction : K.lookup f_fraction = some ⟨oc_27, od_27, .func (PySem.W.fnOf "_law_fraction" "_law_fraction" (defArgs s_fraction) (defBody s_fraction) (defScope s_fraction) .none kV_27 dc_27 pm_27 an_27 cd_27 ct_27), sl_27⟩)
    (k1_fraction : PySem.W.codeIn K cd_27 "_law_fraction" = true)
    (k2_fraction : PySem.W.keepIn K (.ref f_fraction) = true)
    (a_lowest : PySem.W.nsIn K mainGlobals "_law_lowest" = some (some (.ref f_lowest)))
    (l_lowest : K.lookup f_lowest = some ⟨oc_28, od_28, .func (PySem.W.fnOf "_law_lowest" "_law_lowest" (defArgs s_lowest) (defBody s_lowest) (defScope s_lowest) .none kV_28 dc_28 pm_28 an_28 cd_28 ct_28), sl_28⟩)
    (k1_lowest : PySem.W.codeIn K cd_28 "_law_lowest" = true)
    (k2_lowest : PySem.W.keepIn K (.ref f_lowest) = true)
    (a_text : PySem.W.nsIn K mainGlobals "_law_text" = some (some (.ref f_text)))
    (l_text : K.lookup f_text = some ⟨oc_29, od_29, .func (PySem.W.fnOf "_law_text" "_law_text" (defArgs s_text) (defBody s_text) (defScope s_text) .none kV_29 dc_29 pm_29 an_29 cd_29 ct_29), sl_29⟩)
    (k1_text : PySem.W.codeIn K cd_29 "_law_text" = true)
    (k2_text : PySem.W.keepIn K (.ref f_text) = true)
    (a_name : PySem.W.nsIn K mainGlobals "_law_name" = some (some (.ref f_name)))
    (l_name : K.lookup f_name = some ⟨oc_30, od_30, .func (PySem.W.fnOf "_law_name" "_law_name" (defArgs s_name) (defBody s_name) (defScope s_name) .none kV_30 dc_30 pm_30 an_30 cd_30 ct_30), sl_30⟩)
    (k1_name : PySem.W.codeIn K cd_30 "_law_name" = true)
    (k2_name : PySem.W.keepIn K (.ref f_name) = true)
    (a_handed : PySem.W.nsIn K mainGlobals "_law_handed" = some (some (.ref f_handed)))
    (l_handed : K.lookup f_handed = some ⟨oc_31, od_31, .func (PySem.W.fnOf "_law_handed" "_law_handed" (defArgs s_handed) (defBody s_handed) (defScope s_handed) .none kV_31 dc_31 pm_31 an_31 cd_31 ct_31), sl_31⟩)
    (k1_handed : PySem.W.codeIn K cd_31 "_law_handed" = true)
    (k2_handed : PySem.W.keepIn K (.ref f_handed) = true)
    (a_ends : PySem.W.nsIn K mainGlobals "_law_ends" = some (some (.ref f_ends)))
    (l_ends : K.lookup f_ends = some ⟨oc_32, od_32, .func (PySem.W.fnOf "_law_ends" "_law_ends" (defArgs s_ends) (defBody s_ends) (defScope s_ends) .none kV_32 dc_32 pm_32 an_32 cd_32 ct_32), sl_32⟩)
    (k1_ends : PySem.W.codeIn K cd_32 "_law_ends" = true)
    (k2_ends : PySem.W.keepIn K (.ref f_ends) = true)
    (a_is_in : PySem.W.nsIn K mainGlobals "_law_is_in" = some (some (.ref f_is_in)))
    (l_is_in : K.lookup f_is_in = some ⟨oc_33, od_33, .func (PySem.W.fnOf "_law_is_in" "_law_is_in" (defArgs s_is_in) (defBody s_is_in) (defScope s_is_in) .none kV_33 dc_33 pm_33 an_33 cd_33 ct_33), sl_33⟩)
    (k1_is_in : PySem.W.codeIn K cd_33 "_law_is_in" = true)
    (k2_is_in : PySem.W.keepIn K (.ref f_is_in) = true)
    (a_in_right : PySem.W.nsIn K mainGlobals "_law_in_right" = some (some (.ref f_in_right)))
    (l_in_right : K.lookup f_in_right = some ⟨oc_34, od_34, .func (PySem.W.fnOf "_law_in_right" "_law_in_right" (defArgs s_in_right) (defBody s_in_right) (defScope s_in_right) .none kV_34 dc_34 pm_34 an_34 cd_34 ct_34), sl_34⟩)
    (k1_in_right : PySem.W.codeIn K cd_34 "_law_in_right" = true)
    (k2_in_right : PySem.W.keepIn K (.ref f_in_right) = true)
    (a_shown_right : PySem.W.nsIn K mainGlobals "_law_shown_right" = some (some (.ref f_shown_right)))
    (l_shown_right : K.lookup f_shown_right = some ⟨oc_35, od_35, .func (PySem.W.fnOf "_law_shown_right" "_law_shown_right" (defArgs s_shown_right) (defBody s_shown_right) (defScope s_shown_right) .none kV_35 dc_35 pm_35 an_35 cd_35 ct_35), sl_35⟩)
    (k1_shown_right : PySem.W.codeIn K cd_35 "_law_shown_right" = true)
    (k2_shown_right : PySem.W.keepIn K (.ref f_shown_right) = true)
    (a_sum : PySem.W.nsIn K mainGlobals "_law_sum" = some (some (.ref f_sum)))
    (l_sum : K.lookup f_sum = some ⟨oc_36, od_36, .func (PySem.W.fnOf "_law_sum" "_law_sum" (defArgs s_sum) (defBody s_sum) (defScope s_sum) .none kV_36 dc_36 pm_36 an_36 cd_36 ct_36), sl_36⟩)
    (k1_sum : PySem.W.codeIn K cd_36 "_law_sum" = true)
    (k2_sum : PySem.W.keepIn K (.ref f_sum) = true)
    (a_reckoned_right : PySem.W.nsIn K mainGlobals "_law_reckoned_right" = some (some (.ref f_reckoned_right)))
    (l_reckoned_right : K.lookup f_reckoned_right = some ⟨oc_37, od_37, .func (PySem.W.fnOf "_law_reckoned_right" "_law_reckoned_right" (defArgs s_reckoned_right) (defBody s_reckoned_right) (defScope s_reckoned_right) .none kV_37 dc_37 pm_37 an_37 cd_37 ct_37), sl_37⟩)
    (k1_reckoned_right : PySem.W.codeIn K cd_37 "_law_reckoned_right" = true)
    (k2_reckoned_right : PySem.W.keepIn K (.ref f_reckoned_right) = true)
    (a_refused : PySem.W.nsIn K mainGlobals "_law_refused" = some (some (.ref f_refused)))
    (l_refused : K.lookup f_refused = some ⟨oc_38, od_38, .func (PySem.W.fnOf "_law_refused" "_law_refused" (defArgs s_refused) (defBody s_refused) (defScope s_refused) .none kV_38 dc_38 pm_38 an_38 cd_38 ct_38), sl_38⟩)
    (k1_refused : PySem.W.codeIn K cd_38 "_law_refused" = true)
    (k2_refused : PySem.W.keepIn K (.ref f_refused) = true)
    (a_refusals_right : PySem.W.nsIn K mainGlobals "_law_refusals_right" = some (some (.ref f_refusals_right)))
    (l_refusals_right : K.lookup f_refusals_right = some ⟨oc_39, od_39, .func (PySem.W.fnOf "_law_refusals_right" "_law_refusals_right" (defArgs s_refusals_right) (defBody s_refusals_right) (defScope s_refusals_right) .none kV_39 dc_39 pm_39 an_39 (.ref cc_refusals_right) ct_39), sl_39⟩)
    (k1_refusals_right : PySem.W.codeIn K (.ref cc_refusals_right) "_law_refusals_right" = true)
    (k2_refusals_right : PySem.W.keepIn K (.ref f_refusals_right) = true)
    (a_right : PySem.W.nsIn K mainGlobals "_law_right" = some (some (.ref f_right)))
    (l_right : K.lookup f_right = some ⟨oc_40, od_40, .func (PySem.W.fnOf "_law_right" "_law_right" (defArgs s_right) (defBody s_right) (defScope s_right) .none kV_40 dc_40 pm_40 an_40 cd_40 ct_40), sl_40⟩)
    (k1_right : PySem.W.codeIn K cd_40 "_law_right" = true)
    (k2_right : PySem.W.keepIn K (.ref f_right) = true)
    (a_law : PySem.W.nsIn K mainGlobals "law" = some (some (.ref f_law)))
    (l_law : K.lookup f_law = some ⟨oc_41, od_41, .func (PySem.W.fnOf "law" "law" (defArgs s_law) (defBody s_law) (defScope s_law) .none kV_41 dc_41 pm_41 an_41 cd_41 ct_41), sl_41⟩)
    (k1_law : PySem.W.codeIn K cd_41 "law" = true)
    (k2_law : PySem.W.keepIn K (.ref f_law) = true)
    (pgA : PySem.W.plainGet K c_Amount Str.empty = true)
    (hdA : PySem.W.hasDictIn K c_Amount = true)
    (poA : PySem.W.plainOver K c_Amount = true)
    (saA : PySem.W.findIn K (.ref c_Amount) "__setattr__" = some (some (.builtin "object.__setattr__")))
    (pgS : PySem.W.plainGet K c_Stretch Str.empty = true)
    (hdS : PySem.W.hasDictIn K c_Stretch = true)
    (poS : PySem.W.plainOver K c_Stretch = true)
    (saS : PySem.W.findIn K (.ref c_Stretch) "__setattr__" = some (some (.builtin "object.__setattr__")))
    (nT_ : PySem.W.findIn K (.ref c_Amount) "_top" = some none)
    (nB_ : PySem.W.findIn K (.ref c_Amount) "_bottom" = some none)
    (nL_ : PySem.W.findIn K (.ref c_Stretch) "_low" = some none)
    (nH_ : PySem.W.findIn K (.ref c_Stretch) "_high" = some none)
    (mkA_ : PySem.W.makesIn K c_Amount = true)
    (kcA : PySem.W.keepIn K (.ref c_Amount) = true)
    (mkS_ : PySem.W.makesIn K c_Stretch = true)
    (kcS : PySem.W.keepIn K (.ref c_Stretch) = true)
    (gcd_ : PySem.W.nsIn K mainGlobals "gcd" = some (some (.builtin "math.gcd")))
    (cn_ : PySem.W.specialIn K (.builtin "object.__class__") "__get__" = some (some (.builtin "getset_descriptor.__get__")))
    (ct_ : PySem.W.takesIn K (.builtin "object.__class__") = some true)
    (caA_ : PySem.W.findIn K (.ref c_Amount) "__class__" = some (some (.builtin "object.__class__")))
    (cmA_ : PySem.W.mroIn K c_Amount (.type "object") = some true)
    (icA_ : PySem.W.isClsIn K c_Amount = true)
    (itA_ : PySem.W.typeIn K (.ref c_Amount) = some (.type "type"))
    (sbA__NoneType : PySem.W.subIn K (.type "NoneType") (.ref c_Amount) = some false)
    (sbA__bool : PySem.W.subIn K (.type "bool") (.ref c_Amount) = some false)
    (sbA__int : PySem.W.subIn K (.type "int") (.ref c_Amount) = some false)
    (sbA__str : PySem.W.subIn K (.type "str") (.ref c_Amount) = some false)
    (sbA__list : PySem.W.subIn K (.type "list") (.ref c_Amount) = some false)
    (sbA__tuple : PySem.W.subIn K (.type "tuple") (.ref c_Amount) = some false)
    (sbA__dict : PySem.W.subIn K (.type "dict") (.ref c_Amount) = some false)
    (caS_ : PySem.W.findIn K (.ref c_Stretch) "__class__" = some (some (.builtin "object.__class__")))
    (cmS_ : PySem.W.mroIn K c_Stretch (.type "object") = some true)
    (icS_ : PySem.W.isClsIn K c_Stretch = true)
    (itS_ : PySem.W.typeIn K (.ref c_Stretch) = some (.type "type"))
    (sbS__NoneType : PySem.W.subIn K (.type "NoneType") (.ref c_Stretch) = some false)
    (sbS__bool : PySem.W.subIn K (.type "bool") (.ref c_Stretch) = some false)
    (sbS__int : PySem.W.subIn K (.type "int") (.ref c_Stretch) = some false)
    (sbS__str : PySem.W.subIn K (.type "str") (.ref c_Stretch) = some false)
    (sbS__list : PySem.W.subIn K (.type "list") (.ref c_Stretch) = some false)
    (sbS__tuple : PySem.W.subIn K (.type "tuple") (.ref c_Stretch) = some false)
    (sbS__dict : PySem.W.subIn K (.type "dict") (.ref c_Stretch) = some false)
    (part_ : PySem.W.nsIn K mainGlobals "PART" = some (some (.int 1000000000000000000000000000000000000000000000000000000000000 tP)))
    (plen_ : PySem.W.nsIn K mainGlobals "PART_LENGTH" = some (some (.int 60 tL)))
    (sf_ : PySem.W.selfFirst K c_Amount = true)
    (s2_ : PySem.W.subIn K (.ref c_Amount) (.type "int") = some false)
    (o1_add : PySem.W.findIn K (.ref c_Amount) (PySem.dunder (PySem.Operator.info PySem.Operator.Add).2) = some (some (.ref f_Amount_add_)))
    (o2_add : PySem.W.findIn K (.ref c_Amount) (PySem.dunderR (PySem.Operator.info PySem.Operator.Add).2) = some (some (.ref f_Amount_radd_)))
    (o3_add : PySem.W.findIn K (.type "int") (PySem.dunder (PySem.Operator.info PySem.Operator.Add).2) = some fo_add)
    (o4_add : PySem.W.findIn K (.type "int") (PySem.dunderR (PySem.Operator.info PySem.Operator.Add).2) = some ro_add)
    (fmA_ : PySem.W.findIn K (.ref c_Amount) "__format__" = some (some (.builtin "object.__format__")))
    (sSI_ : PySem.W.subIn K (.ref c_Stretch) (.type "int") = some false)
    (sSA_ : PySem.W.subIn K (.ref c_Stretch) (.ref c_Amount) = some false)
    (sAA_ : PySem.W.subIn K (.ref c_Amount) (.ref c_Amount) = some true)
    (sAS_ : PySem.W.subIn K (.ref c_Amount) (.ref c_Stretch) = some false)
    (sSS_ : PySem.W.subIn K (.ref c_Stretch) (.ref c_Stretch) = some true)
    (neS_ : PySem.W.findIn K (.ref c_Stretch) "__ne__" = some (some (.builtin "object.__ne__")))
    (xL_InvalidAmount : K.lookup c_InvalidAmount = some (excClassObj nm_InvalidAmount qn_InvalidAmount c_InvalidAmount N_InvalidAmount bs_InvalidAmount [.ref c_PipeError, .type "ValueError", .type "Exception", .type "BaseException", .type "object"] true sn_InvalidAmount su_InvalidAmount ab_InvalidAmount co_InvalidAmount dd_InvalidAmount m0_InvalidAmount m1_InvalidAmount m2_InvalidAmount m3_InvalidAmount m5_InvalidAmount "ValueError.__new__"))
    (xsa_InvalidAmount : PySem.W.findIn K (.ref c_InvalidAmount) "__setattr__" = some (some (.builtin "object.__setattr__")))
    (xex_InvalidAmount : PySem.W.subIn K (.ref c_InvalidAmount) (.type "BaseException") = some true)
    (xty_InvalidAmount : PySem.W.typeIn K (.ref c_InvalidAmount) = some (.type "type"))
    (xkC_InvalidAmount : PySem.W.keepIn K (.ref c_InvalidAmount) = true)
    (xga_InvalidAmount : PySem.W.findIn K (.ref c_InvalidAmount) "__getattribute__" = some (some (.builtin "BaseException.__getattribute__")))
    (xgg_InvalidAmount : PySem.W.findIn K (.ref c_InvalidAmount) "__getattr__" = some none)
    (xhd_InvalidAmount : PySem.W.hasDictIn K c_InvalidAmount = true)
    (xtI_InvalidAmount : PySem.W.typeIn K (.ref f_InvalidAmount_init_) = some (.type "function"))
    (xic_InvalidAmount : PySem.W.isClsIn K c_InvalidAmount = true)
    (xss_InvalidAmount : PySem.W.subIn K (.ref c_InvalidAmount) (.ref c_InvalidAmount) = some true)
    (xno_InvalidAmount : PySem.W.findIn K (.ref c_InvalidAmount) "value" = some none)
    (xca_InvalidAmount : PySem.W.findIn K (.ref c_InvalidAmount) "__class__" = some (some (.builtin "object.__class__")))
    (xmo_InvalidAmount : PySem.W.mroIn K c_InvalidAmount (.type "object") = some true)
    (xic_PipeError : PySem.W.isClsIn K c_PipeError = true)
    (xty_PipeError : PySem.W.typeIn K (.ref c_PipeError) = some (.type "type"))
    (xsu_InvalidAmount : PySem.W.subIn K (.ref c_InvalidAmount) (.ref c_PipeError) = some true)
    (xve_InvalidAmount : PySem.W.subIn K (.ref c_InvalidAmount) (.type "ValueError") = some true)
    (tb_refusals_right : PySem.W.tabIn K "_law_refusals_right" = some (cc_refusals_right, PP_refusals_right))
    (nk_refusals_right : K.lookup PP_refusals_right = none)
    (rc_refusals_right : (PyProof.Rows.recsOf qq).find? (fun e => e.name == ("_law_refusals_right" : Str)) = some dd_refusals_right)
    (z_ValueError : PySem.W.nsIn K mainGlobals "ValueError" = some none)
    (z_len : PySem.W.nsIn K mainGlobals "len" = some none)
    (z_abs : PySem.W.nsIn K mainGlobals "abs" = some none)
    (z_max : PySem.W.nsIn K mainGlobals "max" = some none)
    (z_min : PySem.W.nsIn K mainGlobals "min" = some none)
    (z_int : PySem.W.nsIn K mainGlobals "int" = some none)
    (z_divmod : PySem.W.nsIn K mainGlobals "divmod" = some none)
    (z_all : PySem.W.nsIn K mainGlobals "all" = some none)
    (z_repr : PySem.W.nsIn K mainGlobals "repr" = some none)
    (z_isinstance : PySem.W.nsIn K mainGlobals "isinstance" = some none)
    (z_str : PySem.W.nsIn K mainGlobals "str" = some none)
    (z_range : PySem.W.nsIn K mainGlobals "range" = some none)
    (z_bool : PySem.W.nsIn K mainGlobals "bool" = some none) :
    ∃ (fd : FuncData) (cs : List (Addr × Addr)), (∀ p ∈ cs, ∃ (y : Str) (dd : PySem.DefRec), (PyProof.Rows.recsOf qq).find? (fun e => e.name == y) = some dd ∧ PySem.W.tabIn K y = some p) ∧ (∀ p ∈ cs, K.lookup p.2 = none) ∧
      (∀ (s : Shared) (u : Value), BindsTo s fd ⟨[u], []⟩ [("_law_script", u)]) ∧ ∀ base : Heap, K.In base → base.Ns mainGlobals mg → (∀ p ∈ cs, LamX.TabB base mg p.1 p.2) → FnG l.prog w K mg base CX0 13 fa fd ["_law_script"] (spL K cs) := by
  have e := (PySem.W.mg_of X G a_law).symm.trans hfa
  cases e
  have T : Txt K mg { f_InvalidAmount_init_ := f_InvalidAmount_init_, d_InvalidAmount_init_ := PySem.W.fnOf "__init__" "InvalidAmount.__init__" (defArgs s_InvalidAmount_init_) (defBody s_InvalidAmount_init_) (defScope s_InvalidAmount_init_) .none kV_0 dc_0 pm_0 an_0 cd_0 ct_0, f_is_integer := f_is_integer, d_is_integer := PySem.W.fnOf "is_integer" "is_integer" (defArgs s_is_integer) (defBody s_is_integer) (defScope s_is_integer) .none kV_1 dc_1 pm_1 an_1 cd_1 ct_1, f_is_amount := f_is_amount, d_is_amount := PySem.W.fnOf "is_amount" "is_amount" (defArgs s_is_amount) (defBody s_is_amount) (defScope s_is_amount) .none kV_2 dc_2 pm_2 an_2 cd_2 ct_2, f_amount_of := f_amount_of, d_amount_of := PySem.W.fnOf "amount_of" "amount_of" (defArgs s_amount_of) (defBody s_amount_of) (defScope s_amount_of) .none kV_3 dc_3 pm_3 an_3 cd_3 ct_3, f_decimal := f_decimal, d_decimal := PySem.W.fnOf "_decimal" "_decimal" (defArgs s_decimal) (defBody s_decimal) (defScope s_decimal) .none kV_4 dc_4 pm_4 an_4 cd_4 ct_4, f_Amount_init_ := f_Amount_init_, d_Amount_init_ := PySem.W.fnOf "__init__" "Amount.__init__" (defArgs s_Amount_init_) (defBody s_Amount_init_) (defScope s_Amount_init_) (.ref T_5) kV_5 dc_5 pm_5 an_5 cd_5 ct_5, f_Amount_add_ := f_Amount_add_, d_Amount_add_ := PySem.W.fnOf "__add__" "Amount.__add__" (defArgs s_Amount_add_) (defBody s_Amount_add_) (defScope s_Amount_add_) .none kV_6 dc_6 pm_6 an_6 cd_6 ct_6, f_Amount_radd_ := f_Amount_radd_, d_Amount_radd_ := PySem.W.fnOf "__radd__" "Amount.__radd__" (defArgs s_Amount_radd_) (defBody s_Amount_radd_) (defScope s_Amount_radd_) .none kV_7 dc_7 pm_7 an_7 cd_7 ct_7, f_Amount_neg_ := f_Amount_neg_, d_Amount_neg_ := PySem.W.fnOf "__neg__" "Amount.__neg__" (defArgs s_Amount_neg_) (defBody s_Amount_neg_) (defScope s_Amount_neg_) .none kV_8 dc_8 pm_8 an_8 cd_8 ct_8, f_Amount_eq_ := f_Amount_eq_, d_Amount_eq_ := PySem.W.fnOf "__eq__" "Amount.__eq__" (defArgs s_Amount_eq_) (defBody s_Amount_eq_) (defScope s_Amount_eq_) .none kV_9 dc_9 pm_9 an_9 cd_9 ct_9, f_Amount_lt_ := f_Amount_lt_, d_Amount_lt_ := PySem.W.fnOf "__lt__" "Amount.__lt__" (defArgs s_Amount_lt_) (defBody s_Amount_lt_) (defScope s_Amount_lt_) .none kV_10 dc_10 pm_10 an_10 cd_10 ct_10, f_Amount_str_ := f_Amount_str_, d_Amount_str_ := PySem.W.fnOf "__str__" "Amount.__str__" (defArgs s_Amount_str_) (defBody s_Amount_str_) (defScope s_Amount_str_) .none kV_11 dc_11 pm_11 an_11 cd_11 ct_11, f_Amount_repr_ := f_Amount_repr_, d_Amount_repr_ := PySem.W.fnOf "__repr__" "Amount.__repr__" (defArgs s_Amount_repr_) (defBody s_Amount_repr_) (defScope s_Amount_repr_) .none kV_12 dc_12 pm_12 an_12 cd_12 ct_12, f_Stretch_init_ := f_Stretch_init_, d_Stretch_init_ := PySem.W.fnOf "__init__" "Stretch.__init__" (defArgs s_Stretch_init_) (defBody s_Stretch_init_) (defScope s_Stretch_init_) .none kV_13 dc_13 pm_13 an_13 cd_13 ct_13, f_Stretchlow := f_Stretchlow, d_Stretchlow := PySem.W.fnOf "low" "Stretch.low" (defArgs s_Stretchlow) (defBody s_Stretchlow) (defScope s_Stretchlow) .none kV_14 dc_14 pm_14 an_14 cd_14 ct_14, f_Stretchhigh := f_Stretchhigh, d_Stretchhigh := PySem.W.fnOf "high" "Stretch.high" (defArgs s_Stretchhigh) (defBody s_Stretchhigh) (defScope s_Stretchhigh) .none kV_15 dc_15 pm_15 an_15 cd_15 ct_15, f_Stretchis_single := f_Stretchis_single, d_Stretchis_single := PySem.W.fnOf "is_single" "Stretch.is_single" (defArgs s_Stretchis_single) (defBody s_Stretchis_single) (defScope s_Stretchis_single) .none kV_16 dc_16 pm_16 an_16 cd_16 ct_16, f_Stretch_contains_ := f_Stretch_contains_, d_Stretch_contains_ := PySem.W.fnOf "__contains__" "Stretch.__contains__" (defArgs s_Stretch_contains_) (defBody s_Stretch_contains_) (defScope s_Stretch_contains_) .none kV_17 dc_17 pm_17 an_17 cd_17 ct_17, f_Stretch_eq_ := f_Stretch_eq_, d_Stretch_eq_ := PySem.W.fnOf "__eq__" "Stretch.__eq__" (defArgs s_Stretch_eq_) (defBody s_Stretch_eq_) (defScope s_Stretch_eq_) .none kV_18 dc_18 pm_18 an_18 cd_18 ct_18, f_Stretch_str_ := f_Stretch_str_, d_Stretch_str_ := PySem.W.fnOf "__str__" "Stretch.__str__" (defArgs s_Stretch_str_) (defBody s_Stretch_str_) (defScope s_Stretch_str_) .none kV_19 dc_19 pm_19 an_19 cd_19 ct_19, f_Stretch_repr_ := f_Stretch_repr_, d_Stretch_repr_ := PySem.W.fnOf "__repr__" "Stretch.__repr__" (defArgs s_Stretch_repr_) (defBody s_Stretch_repr_) (defScope s_Stretch_repr_) .none kV_20 dc_20 pm_20 an_20 cd_20 ct_20, f_Stretchplus := f_Stretchplus, d_Stretchplus := PySem.W.fnOf "plus" "Stretch.plus" (defArgs s_Stretchplus) (defBody s_Stretchplus) (defScope s_Stretchplus) .none kV_21 dc_21 pm_21 an_21 cd_21 ct_21, f_Stretchturned := f_Stretchturned, d_Stretchturned := PySem.W.fnOf "turned" "Stretch.turned" (defArgs s_Stretchturned) (defBody s_Stretchturned) (defScope s_Stretchturned) .none kV_22 dc_22 pm_22 an_22 cd_22 ct_22, f_pot := f_pot, d_pot := PySem.W.fnOf "_law_pot" "_law_pot" (defArgs s_pot) (defBody s_pot) (defScope s_pot) .none kV_23 dc_23 pm_23 an_23 cd_23 ct_23, f_draw := f_draw, d_draw := PySem.W.fnOf "_law_draw" "_law_draw" (defArgs s_draw) (defBody s_draw) (defScope s_draw) .none kV_24 dc_24 pm_24 an_24 cd_24 ct_24, f_pick := f_pick, d_pick := PySem.W.fnOf "_law_pick" "_law_pick" (defArgs s_pick) (defBody s_pick) (defScope s_pick) .none kV_25 dc_25 pm_25 an_25 cd_25 ct_25, f_less := f_less, d_less := PySem.W.fnOf "_law_less" "_law_less" (defArgs s_less) (defBody s_less) (defScope s_less) .none kV_26 dc_26 pm_26 an_26 cd_26 ct_26, f_fraction := f_fraction, d_fraction := PySem.W.fnOf "_law_fraction" "_law_fraction" (defArgs s_fraction) (defBody s_fraction) (defScope s_fraction) .none kV_27 dc_27 pm_27 an_27 cd_27 ct_27, f_lowest := f_lowest, d_lowest := PySem.W.fnOf "_law_lowest" "_law_lowest" (defArgs s_lowest) (defBody s_lowest) (defScope s_lowest) .none kV_28 dc_28 pm_28 an_28 cd_28 ct_28, f_text := f_text, d_text := PySem.W.fnOf "_law_text" "_law_text" (defArgs s_text) (defBody s_text) (defScope s_text) .none kV_29 dc_29 pm_29 an_29 cd_29 ct_29, f_name := f_name, d_name := PySem.W.fnOf "_law_name" "_law_name" (defArgs s_name) (defBody s_name) (defScope s_name) .none kV_30 dc_30 pm_30 an_30 cd_30 ct_30, f_handed := f_handed, d_handed := PySem.W.fnOf "_law_handed" "_law_handed" (defArgs s_handed) (defBody s_handed) (defScope s_handed) .none kV_31 dc_31 pm_31 an_31 cd_31 ct_31, f_ends := f_ends, d_ends := PySem.W.fnOf "_law_ends" "_law_ends" (defArgs s_ends) (defBody s_ends) (defScope s_ends) .none kV_32 dc_32 pm_32 an_32 cd_32 ct_32, f_is_in := f_is_in, d_is_in := PySem.W.fnOf "_law_is_in" "_law_is_in" (defArgs s_is_in) (defBody s_is_in) (defScope s_is_in) .none kV_33 dc_33 pm_33 an_33 cd_33 ct_33, f_in_right := f_in_right, d_in_right := PySem.W.fnOf "_law_in_right" "_law_in_right" (defArgs s_in_right) (defBody s_in_right) (defScope s_in_right) .none kV_34 dc_34 pm_34 an_34 cd_34 ct_34, f_shown_right := f_shown_right, d_shown_right := PySem.W.fnOf "_law_shown_right" "_law_shown_right" (defArgs s_shown_right) (defBody s_shown_right) (defScope s_shown_right) .none kV_35 dc_35 pm_35 an_35 cd_35 ct_35, f_sum := f_sum, d_sum := PySem.W.fnOf "_law_sum" "_law_sum" (defArgs s_sum) (defBody s_sum) (defScope s_sum) .none kV_36 dc_36 pm_36 an_36 cd_36 ct_36, f_reckoned_right := f_reckoned_right, d_reckoned_right := PySem.W.fnOf "_law_reckoned_right" "_law_reckoned_right" (defArgs s_reckoned_right) (defBody s_reckoned_right) (defScope s_reckoned_right) .none kV_37 dc_37 pm_37 an_37 cd_37 ct_37, f_refused := f_refused, d_refused := PySem.W.fnOf "_law_refused" "_law_refused" (defArgs s_refused) (defBody s_refused) (defScope s_refused) .none kV_38 dc_38 pm_38 an_38 cd_38 ct_38, f_refusals_right := f_refusals_right, d_refusals_right := PySem.W.fnOf "_law_refusals_right" "_law_refusals_right" (defArgs s_refusals_right) (defBody s_refusals_right) (defScope s_refusals_right) .none kV_39 dc_39 pm_39 an_39 (.ref cc_refusals_right) ct_39, f_right := f_right, d_right := PySem.W.fnOf "_law_right" "_law_right" (defArgs s_right) (defBody s_right) (defScope s_right) .none kV_40 dc_40 pm_40 an_40 cd_40 ct_40, f_law := fa, d_law := PySem.W.fnOf "law" "law" (defArgs s_law) (defBody s_law) (defScope s_law) .none kV_41 dc_41 pm_41 an_41 cd_41 ct_41, c_Amount := c_Amount, c_Stretch := c_Stretch, c_InvalidAmount := c_InvalidAmount, c_PipeError := c_PipeError, p_low := p_low, p_high := p_high, p_is_single := p_is_single, cc_refusals_right := cc_refusals_right, PP_refusals_right := PP_refusals_right } := {
    F_InvalidAmount_init_ := fun_mk (st := s_InvalidAmount_init_) l_InvalidAmount_init_ k1_InvalidAmount_init_ k2_InvalidAmount_init_,
    F_is_integer := fun_mk (st := s_is_integer) l_is_integer k1_is_integer k2_is_integer,
    m_is_integer := PySem.W.mg_of X G a_is_integer,
    F_is_amount := fun_mk (st := s_is_amount) l_is_amount k1_is_amount k2_is_amount,
    m_is_amount := PySem.W.mg_of X G a_is_amount,
    F_amount_of := fun_mk (st := s_amount_of) l_amount_of k1_amount_of k2_amount_of,
    m_amount_of := PySem.W.mg_of X G a_amount_of,
    F_decimal := fun_mk (st := s_decimal) l_decimal k1_decimal k2_decimal,
    m_decimal := PySem.W.mg_of X G a_decimal,
    F_Amount_init_ := ⟨⟨_, _, _, _, _, _, _, _, _, _, rfl, l_Amount_init_, k1_Amount_init_, .inr ⟨by simp, _, _, _, _, rfl, dl_Amount_init_, do_Amount_init_, dv_Amount_init_⟩, .inl rfl⟩, k2_Amount_init_⟩,
    F_Amount_add_ := fun_mk (st := s_Amount_add_) l_Amount_add_ k1_Amount_add_ k2_Amount_add_,
    F_Amount_radd_ := fun_mk (st := s_Amount_radd_) l_Amount_radd_ k1_Amount_radd_ k2_Amount_radd_,
    F_Amount_neg_ := fun_mk (st := s_Amount_neg_) l_Amount_neg_ k1_Amount_neg_ k2_Amount_neg_,
    F_Amount_eq_ := fun_mk (st := s_Amount_eq_) l_Amount_eq_ k1_Amount_eq_ k2_Amount_eq_,
    F_Amount_lt_ := fun_mk (st := s_Amount_lt_) l_Amount_lt_ k1_Amount_lt_ k2_Amount_lt_,
    F_Amount_str_ := fun_mk (st := s_Amount_str_) l_Amount_str_ k1_Amount_str_ k2_Amount_str_,
    F_Amount_repr_ := fun_mk (st := s_Amount_repr_) l_Amount_repr_ k1_Amount_repr_ k2_Amount_repr_,
    F_Stretch_init_ := fun_mk (st := s_Stretch_init_) l_Stretch_init_ k1_Stretch_init_ k2_Stretch_init_,
    F_Stretchlow := fun_mk (st := s_Stretchlow) l_Stretchlow k1_Stretchlow k2_Stretchlow,
    F_Stretchhigh := fun_mk (st := s_Stretchhigh) l_Stretchhigh k1_Stretchhigh k2_Stretchhigh,
    F_Stretchis_single := fun_mk (st := s_Stretchis_single) l_Stretchis_single k1_Stretchis_single k2_Stretchis_single,
    F_Stretch_contains_ := fun_mk (st := s_Stretch_contains_) l_Stretch_contains_ k1_Stretch_contains_ k2_Stretch_contains_,
    F_Stretch_eq_ := fun_mk (st := s_Stretch_eq_) l_Stretch_eq_ k1_Stretch_eq_ k2_Stretch_eq_,
    F_Stretch_str_ := fun_mk (st := s_Stretch_str_) l_Stretch_str_ k1_Stretch_str_ k2_Stretch_str_,
    F_Stretch_repr_ := fun_mk (st := s_Stretch_repr_) l_Stretch_repr_ k1_Stretch_repr_ k2_Stretch_repr_,
    F_Stretchplus := fun_mk (st := s_Stretchplus) l_Stretchplus k1_Stretchplus k2_Stretchplus,
    F_Stretchturned := fun_mk (st := s_Stretchturned) l_Stretchturned k1_Stretchturned k2_Stretchturned,
    F_pot := fun_mk (st := s_pot) l_pot k1_pot k2_pot,
    m_pot := PySem.W.mg_of X G a_pot,
    F_draw := fun_mk (st := s_draw) l_draw k1_draw k2_draw,
    m_draw := PySem.W.mg_of X G a_draw,
    F_pick := fun_mk (st := s_pick) l_pick k1_pick k2_pick,
    m_pick := PySem.W.mg_of X G a_pick,
    F_less := fun_mk (st := s_less) l_less k1_less k2_less,
    m_less := PySem.W.mg_of X G a_less,
    F_fraction := fun_mk (st := s_fraction) l_fraction k1_fraction k2_fraction,
    m_fraction := PySem.W.mg_of X G a_fraction,
    F_lowest := fun_mk (st := s_lowest) l_lowest k1_lowest k2_lowest,
    m_lowest := PySem.W.mg_of X G a_lowest,
    F_text := fun_mk (st := s_text) l_text k1_text k2_text,
    m_text := PySem.W.mg_of X G a_text,
    F_name := fun_mk (st := s_name) l_name k1_name k2_name,
    m_name := PySem.W.mg_of X G a_name,
    F_handed := fun_mk (st := s_handed) l_handed k1_handed k2_handed,
    m_handed := PySem.W.mg_of X G a_handed,
    F_ends := fun_mk (st := s_ends) l_ends k1_ends k2_ends,
    m_ends := PySem.W.mg_of X G a_ends,
    F_is_in := fun_mk (st := s_is_in) l_is_in k1_is_in k2_is_in,
    m_is_in := PySem.W.mg_of X G a_is_in,
    F_in_right := fun_mk (st := s_in_right) l_in_right k1_in_right k2_in_right,
    m_in_right := PySem.W.mg_of X G a_in_right,
    F_shown_right := fun_mk (st := s_shown_right) l_shown_right k1_shown_right k2_shown_right,
    m_shown_right := PySem.W.mg_of X G a_shown_right,
    F_sum := fun_mk (st := s_sum) l_sum k1_sum k2_sum,
    m_sum := PySem.W.mg_of X G a_sum,
    F_reckoned_right := fun_mk (st := s_reckoned_right) l_reckoned_right k1_reckoned_right k2_reckoned_right,
    m_reckoned_right := PySem.W.mg_of X G a_reckoned_right,
    F_refused := fun_mk (st := s_refused) l_refused k1_refused k2_refused,
    m_refused := PySem.W.mg_of X G a_refused,
    F_refusals_right := fun_mk (st := s_refusals_right) l_refusals_right k1_refusals_right k2_refusals_right,
    m_refusals_right := PySem.W.mg_of X G a_refusals_right,
    F_right := fun_mk (st := s_right) l_right k1_right k2_right,
    m_right := PySem.W.mg_of X G a_right,
    F_law := fun_mk (st := s_law) l_law k1_law k2_law,
    m_law := PySem.W.mg_of X G a_law,
    cl := ⟨pgA, hdA, poA, saA⟩,
    clS := ⟨pgS, hdS, poS, saS⟩,
    nT := nT_,
    nB := nB_,
    nL := nL_,
    nH := nH_,
    mA := PySem.W.mg_of X G aC_Amount,
    mS := PySem.W.mg_of X G aC_Stretch,
    mP := PySem.W.mg_of X G aC_PipeError,
    mkA := ⟨mkA_, a_Amount_init_, i_Amount_init_, kcA⟩,
    mkS := ⟨mkS_, a_Stretch_init_, i_Stretch_init_, kcS⟩,
    m_gcd := PySem.W.mg_of X G gcd_,
    I := ⟨caA_, cn_, ct_, cmA_, (kit_own icA_ itA_ sbA__NoneType).1, (kit_own icA_ itA_ sbA__bool).1, (kit_own icA_ itA_ sbA__int).1, (kit_own icA_ itA_ sbA__str).1, (kit_own icA_ itA_ sbA__list).1, (kit_own icA_ itA_ sbA__tuple).1, (kit_own icA_ itA_ sbA__dict).1, (kit_own icA_ itA_ sbA__NoneType).2, (kit_own icA_ itA_ sbA__bool).2, (kit_own icA_ itA_ sbA__int).2, (kit_own icA_ itA_ sbA__str).2, (kit_own icA_ itA_ sbA__list).2, (kit_own icA_ itA_ sbA__tuple).2, (kit_own icA_ itA_ sbA__dict).2⟩,
    IS := ⟨caS_, cn_, ct_, cmS_, (kit_own icS_ itS_ sbS__NoneType).1, (kit_own icS_ itS_ sbS__bool).1, (kit_own icS_ itS_ sbS__int).1, (kit_own icS_ itS_ sbS__str).1, (kit_own icS_ itS_ sbS__list).1, (kit_own icS_ itS_ sbS__tuple).1, (kit_own icS_ itS_ sbS__dict).1, (kit_own icS_ itS_ sbS__NoneType).2, (kit_own icS_ itS_ sbS__bool).2, (kit_own icS_ itS_ sbS__int).2, (kit_own icS_ itS_ sbS__str).2, (kit_own icS_ itS_ sbS__list).2, (kit_own icS_ itS_ sbS__tuple).2, (kit_own icS_ itS_ sbS__dict).2⟩,
    gPart := ⟨tP, (show (10 : Int) ^ 60 = 1000000000000000000000000000000000000000000000000000000000000 by decide) ▸ PySem.W.mg_of X G part_⟩,
    gLen := ⟨tL, PySem.W.mg_of X G plen_⟩,
    oAdd := { first := sf_, at_ := o1_add, fn := i_Amount_add_, rat := o2_add, rfn := i_Amount_radd_, i1 := ⟨_, o3_add⟩, i2 := ⟨_, o4_add⟩, ss1 := sbA__int, ss2 := s2_ },
    cSt := ⟨a_Amount_str_, i_Amount_str_⟩,
    cRe := ⟨a_Amount_repr_, i_Amount_repr_⟩,
    cEq := ⟨a_Amount_eq_, i_Amount_eq_⟩,
    cLt := ⟨a_Amount_lt_, i_Amount_lt_⟩,
    cNg := ⟨a_Amount_neg_, i_Amount_neg_⟩,
    sSt := ⟨a_Stretch_str_, i_Stretch_str_⟩,
    sRe := ⟨a_Stretch_repr_, i_Stretch_repr_⟩,
    sEq := ⟨a_Stretch_eq_, i_Stretch_eq_⟩,
    sIn := ⟨a_Stretch_contains_, i_Stretch_contains_⟩,
    fmA := fmA_,
    sSI := sSI_,
    kSA := (Lb.kit_two icA_ itA_ sSA_ sAA_).1,
    kAS := (Lb.kit_two icS_ itS_ sAS_ sSS_).1,
    fSA := (Lb.kit_two icS_ itS_ sAS_ sSS_).2,
    neS := neS_,
    p_low := ⟨pa_Stretchlow, pg_Stretchlow, pt_Stretchlow, ⟨_, pr_Stretchlow⟩⟩,
    p_high := ⟨pa_Stretchhigh, pg_Stretchhigh, pt_Stretchhigh, ⟨_, pr_Stretchhigh⟩⟩,
    p_is_single := ⟨pa_Stretchis_single, pg_Stretchis_single, pt_Stretchis_single, ⟨_, pr_Stretchis_single⟩⟩,
    mPlus := ⟨a_Stretchplus, i_Stretchplus, k2_Stretchplus⟩,
    mTurned := ⟨a_Stretchturned, i_Stretchturned, k2_Stretchturned⟩,
    xInvalidAmount := ⟨PySem.W.mg_of X G aC_InvalidAmount, ⟨⟨_, _, _, _, _, _, _, _, _, _, _, _, _, _, _, xL_InvalidAmount, rfl⟩, xsa_InvalidAmount, xex_InvalidAmount, xty_InvalidAmount, xkC_InvalidAmount⟩, ⟨xga_InvalidAmount, xgg_InvalidAmount, xex_InvalidAmount, xhd_InvalidAmount⟩, a_InvalidAmount_init_, xtI_InvalidAmount, Lb.exm_sub xex_InvalidAmount xex_InvalidAmount xic_InvalidAmount xty_InvalidAmount xss_InvalidAmount⟩,
    nInvalidAmount := xno_InvalidAmount,
    eInvalidAmount := ⟨xga_InvalidAmount, xgg_InvalidAmount, xex_InvalidAmount, xhd_InvalidAmount, xca_InvalidAmount, cn_, ct_, xmo_InvalidAmount⟩,
    kInvalidAmount := Lb.kit_sub xic_PipeError xty_PipeError xsu_InvalidAmount,
    vInvalidAmount := Lb.kit_ty_sub xve_InvalidAmount,
    C_refusals_right := rfl,
    b_ValueError := PySem.W.mg_none_of X G z_ValueError,
    b_len := PySem.W.mg_none_of X G z_len,
    b_abs := PySem.W.mg_none_of X G z_abs,
    b_max := PySem.W.mg_none_of X G z_max,
    b_min := PySem.W.mg_none_of X G z_min,
    b_int := PySem.W.mg_none_of X G z_int,
    b_divmod := PySem.W.mg_none_of X G z_divmod,
    b_all := PySem.W.mg_none_of X G z_all,
    b_repr := PySem.W.mg_none_of X G z_repr,
    b_isinstance := PySem.W.mg_none_of X G z_isinstance,
    b_str := PySem.W.mg_none_of X G z_str,
    b_range := PySem.W.mg_none_of X G z_range,
    b_bool := PySem.W.mg_none_of X G z_bool }
  refine ⟨_, [(cc_refusals_right, PP_refusals_right)], (fun p hp => by
    simp only [List.mem_cons, List.not_mem_nil, or_false] at hp
    rcases hp with rfl
    · exact ⟨_, _, rc_refusals_right, tb_refusals_right⟩), (fun p hp => by
    simp only [List.mem_cons, List.not_mem_nil, or_false] at hp
    rcases hp with rfl
    · exact nk_refusals_right), fun s v => (BindsTo.of_eq rfl : BindsTo s (PySem.W.fnOf "law" "law" (defArgs s_law) (defBody s_law) (defScope s_law) .none kV_41 dc_41 pm_41 an_41 cd_41 ct_41) ⟨[v], []⟩ [("_law_script", v)]), fun base _ _ TB => law_imp (ok_law T (TB _ List.mem_cons_self))⟩
theorem walk {l : PySem.W.OpenLaw} {q : Program} {loose : List Str} {XP : (Str → Option Value) → Heap → Prop} {YP : World → Heap → Prop} {d : PySem.DefRec} {K : Params → PySem.W.Frag} (hn : l.most = some 63) (hdf : d.params.defaults = [])
    (hY : ∀ (w : World) (h : Heap), YP w h → (K w.params).In h)
    (F : ∀ (w : World) (mg : Str → Option Value) (fa : Addr) (h : Heap), (K w.params).In h → h.Ns mainGlobals mg → mg d.name = some (.ref fa) →
      ∃ (fd : FuncData) (cs : List (Addr × Addr)), (∀ p ∈ cs, ∃ (y : Str) (dd : PySem.DefRec), (PyProof.Rows.recsOf q).find? (fun e => e.name == y) = some dd ∧ PySem.W.tabIn (K w.params) y = some p) ∧ (∀ p ∈ cs, (K w.params).lookup p.2 = none) ∧
        (∀ (s : Shared) (u : Value), BindsTo s fd ⟨[u], []⟩ [("_law_script", u)]) ∧
        ∀ base : Heap, (K w.params).In base → base.Ns mainGlobals mg → (∀ p ∈ cs, LamX.TabB base mg p.1 p.2) → FnG l.prog w (K w.params) mg base CX0 13 fa fd ["_law_script"] (spL (K w.params) cs)) :
    PySem.W.WalkO q loose XP YP l.row.toRowW d [] (fun f vs => PySem.call f vs) :=
  Lb.walkTG (n := 63) (k := 13) (x := "_law_script") (sp := fun K cs => spL K cs) hn (by decide) hdf ⟨rfl, by decide, by decide⟩ hY F (fun K cs H a ns hl hH hS => ⟨a, ns, rfl, hS, hl, hH, fun _ => rfl⟩)
end K48

open PySem PySem.W PyProof.Rows in
set_option maxRecDepth 100000 in
set_option maxHeartbeats 0 in
theorem PySem.Challenge.cw_surepipes_k48_stretches_holds : PySem.Challenge.rw_surepipes_k48_stretches.Holds := by
  w_on; o_law; k_head; (case hw => w_witness2)
  k_fill
  refine K48.walk (l := PySem.Challenge.rw_surepipes_k48_stretches) rfl rfl (fun w h Y => PySem.W.km_in_of Y) ?F
  case F =>
    intro w mg fa h KX G hmg
    refine' K48.all_mk KX G hmg ?aC_Amount ?aC_Stretch ?aC_InvalidAmount ?aC_PipeError ?a_InvalidAmount_init_ ?i_InvalidAmount_init_ ?l_InvalidAmount_init_ ?k1_InvalidAmount_init_ ?k2_InvalidAmount_init_ ?a_is_integer ?l_is_integer ?k1_is_integer ?k2_is_integer ?a_is_amount ?l_is_amount ?k1_is_amount ?k2_is_amount ?a_amount_of ?l_amount_of ?k1_amount_of ?k2_amount_of ?a_decimal ?l_decimal ?k1_decimal ?k2_decimal ?a_Amount_init_ ?i_Amount_init_ ?l_Amount_init_ ?k1_Amount_init_ ?k2_Amount_init_ ?dl_Amount_init_ ?do_Amount_init_ ?dv_Amount_init_ ?a_Amount_add_ ?i_Amount_add_ ?l_Amount_add_ ?k1_Amount_add_ ?k2_Amount_add_ ?a_Amount_radd_ ?i_Amount_radd_ ?l_Amount_radd_ ?k1_Amount_radd_ ?k2_Amount_radd_ ?a_Amount_neg_ ?i_Amount_neg_ ?l_Amount_neg_ ?k1_Amount_neg_ ?k2_Amount_neg_ ?a_Amount_eq_ ?i_Amount_eq_ ?l_Amount_eq_ ?k1_Amount_eq_ ?k2_Amount_eq_ ?a_Amount_lt_ ?i_Amount_lt_ ?l_Amount_lt_ ?k1_Amount_lt_ ?k2_Amount_lt_ ?a_Amount_str_ ?i_Amount_str_ ?l_Amount_str_ ?k1_Amount_str_ ?k2_Amount_str_ ?a_Amount_repr_ ?i_Amount_repr_ ?l_Amount_repr_ ?k1_Amount_repr_ ?k2_Amount_repr_ ?a_Stretch_init_ ?i_Stretch_init_ ?l_Stretch_init_ ?k1_Stretch_init_ ?k2_Stretch_init_ ?pa_Stretchlow ?pg_Stretchlow ?pt_Stretchlow ?pr_Stretchlow ?l_Stretchlow ?k1_Stretchlow ?k2_Stretchlow ?pa_Stretchhigh ?pg_Stretchhigh ?pt_Stretchhigh ?pr_Stretchhigh ?l_Stretchhigh ?k1_Stretchhigh ?k2_Stretchhigh ?pa_Stretchis_single ?pg_Stretchis_single ?pt_Stretchis_single ?pr_Stretchis_single ?l_Stretchis_single ?k1_Stretchis_single ?k2_Stretchis_single ?a_Stretch_contains_ ?i_Stretch_contains_ ?l_Stretch_contains_ ?k1_Stretch_contains_ ?k2_Stretch_contains_ ?a_Stretch_eq_ ?i_Stretch_eq_ ?l_Stretch_eq_ ?k1_Stretch_eq_ ?k2_Stretch_eq_ ?a_Stretch_str_ ?i_Stretch_str_ ?l_Stretch_str_ ?k1_Stretch_str_ ?k2_Stretch_str_ ?a_Stretch_repr_ ?i_Stretch_repr_ ?l_Stretch_repr_ ?k1_Stretch_repr_ ?k2_Stretch_repr_ ?a_Stretchplus ?i_Stretchplus ?l_Stretchplus ?k1_Stretchplus ?k2_Stretchplus ?a_Stretchturned ?i_Stretchturned ?l_Stretchturned ?k1_Stretchturned ?k2_Stretchturned ?a_pot ?l_pot ?k1_pot ?k2_pot ?a_draw ?l_draw ?k1_draw ?k2_draw ?a_pick ?l_pick ?k1_pick ?k2_pick ?a_less ?l_less ?k1_less ?k2_less ?a_fraction ?l_fraction ?k1_fraction ?k2_fraction ?a_lowest ?l_lowest ?k1_lowest ?k2_lowest ?a_text ?l_text ?k1_text ?k2_text ?a_name ?l_name ?k1_name ?k2_name ?a_handed ?l_handed ?k1_handed ?k2_handed ?a_ends ?l_ends ?k1_ends ?k2_ends ?a_is_in ?l_is_in ?k1_is_in ?k2_is_in ?a_in_right ?l_in_right ?k1_in_right ?k2_in_right ?a_shown_right ?l_shown_right ?k1_shown_right ?k2_shown_right ?a_sum ?l_sum ?k1_sum ?k2_sum ?a_reckoned_right ?l_reckoned_right ?k1_reckoned_right ?k2_reckoned_right ?a_refused ?l_refused ?k1_refused ?k2_refused ?a_refusals_right ?l_refusals_right ?k1_refusals_right ?k2_refusals_right ?a_right ?l_right ?k1_right ?k2_right ?a_law ?l_law ?k1_law ?k2_law ?pgA ?hdA ?poA ?saA ?pgS ?hdS ?poS ?saS ?nT_ ?nB_ ?nL_ ?nH_ ?mkA_ ?kcA ?mkS_ ?kcS ?gcd_ ?cn_ ?ct_ ?caA_ ?cmA_ ?icA_ ?itA_ ?sbA__NoneType ?sbA__bool ?sbA__int ?sbA__str ?sbA__list ?sbA__tuple ?sbA__dict ?caS_ ?cmS_ ?icS_ ?itS_ ?sbS__NoneType ?sbS__bool ?sbS__int ?sbS__str ?sbS__list ?sbS__tuple ?sbS__dict ?part_ ?plen_ ?sf_ ?s2_ ?o1_add ?o2_add ?o3_add ?o4_add ?fmA_ ?sSI_ ?sSA_ ?sAA_ ?sAS_ ?sSS_ ?neS_ ?xL_InvalidAmount ?xsa_InvalidAmount ?xex_InvalidAmount ?xty_InvalidAmount ?xkC_InvalidAmount ?xga_InvalidAmount ?xgg_InvalidAmount ?xhd_InvalidAmount ?xtI_InvalidAmount ?xic_InvalidAmount ?xss_InvalidAmount ?xno_InvalidAmount ?xca_InvalidAmount ?xmo_InvalidAmount ?xic_PipeError ?xty_PipeError ?xsu_InvalidAmount ?xve_InvalidAmount ?tb_refusals_right ?nk_refusals_right ?rc_refusals_right ?z_ValueError ?z_len ?z_abs ?z_max ?z_min ?z_int ?z_divmod ?z_all ?z_repr ?z_isinstance ?z_str ?z_range ?z_bool
    (case aC_Amount => k_is)
    (case aC_Stretch => k_is)
    (case aC_InvalidAmount => k_is)
    (case aC_PipeError => k_is)
    (case a_InvalidAmount_init_ => k_is)
    (case i_InvalidAmount_init_ => k_is)
    (case l_InvalidAmount_init_ => k_is)
    (case k1_InvalidAmount_init_ => k_is)
    (case k2_InvalidAmount_init_ => k_is)
    (case a_is_integer => k_is)
    (case l_is_integer => k_is)
    (case k1_is_integer => k_is)
    (case k2_is_integer => k_is)
    (case a_is_amount => k_is)
    (case l_is_amount => k_is)
    (case k1_is_amount => k_is)
    (case k2_is_amount => k_is)
    (case a_amount_of => k_is)
    (case l_amount_of => k_is)
    (case k1_amount_of => k_is)
    (case k2_amount_of => k_is)
    (case a_decimal => k_is)
    (case l_decimal => k_is)
    (case k1_decimal => k_is)
    (case k2_decimal => k_is)
    (case a_Amount_init_ => k_is)
    (case i_Amount_init_ => k_is)
    (case l_Amount_init_ => k_is)
    (case k1_Amount_init_ => k_is)
    (case k2_Amount_init_ => k_is)
    (case dl_Amount_init_ => k_is)
    (case do_Amount_init_ => rfl)
    (case dv_Amount_init_ => exact .cons ⟨_, rfl⟩ .nil)
    (case a_Amount_add_ => k_is)
    (case i_Amount_add_ => k_is)
    (case l_Amount_add_ => k_is)
    (case k1_Amount_add_ => k_is)
    (case k2_Amount_add_ => k_is)
    (case a_Amount_radd_ => k_is)
    (case i_Amount_radd_ => k_is)
    (case l_Amount_radd_ => k_is)
    (case k1_Amount_radd_ => k_is)
    (case k2_Amount_radd_ => k_is)
    (case a_Amount_neg_ => k_is)
    (case i_Amount_neg_ => k_is)
    (case l_Amount_neg_ => k_is)
    (case k1_Amount_neg_ => k_is)
    (case k2_Amount_neg_ => k_is)
    (case a_Amount_eq_ => k_is)
    (case i_Amount_eq_ => k_is)
    (case l_Amount_eq_ => k_is)
    (case k1_Amount_eq_ => k_is)
    (case k2_Amount_eq_ => k_is)
    (case a_Amount_lt_ => k_is)
    (case i_Amount_lt_ => k_is)
    (case l_Amount_lt_ => k_is)
    (case k1_Amount_lt_ => k_is)
    (case k2_Amount_lt_ => k_is)
    (case a_Amount_str_ => k_is)
    (case i_Amount_str_ => k_is)
    (case l_Amount_str_ => k_is)
    (case k1_Amount_str_ => k_is)
    (case k2_Amount_str_ => k_is)
    (case a_Amount_repr_ => k_is)
    (case i_Amount_repr_ => k_is)
    (case l_Amount_repr_ => k_is)
    (case k1_Amount_repr_ => k_is)
    (case k2_Amount_repr_ => k_is)
    (case a_Stretch_init_ => k_is)
    (case i_Stretch_init_ => k_is)
    (case l_Stretch_init_ => k_is)
    (case k1_Stretch_init_ => k_is)
    (case k2_Stretch_init_ => k_is)
    (case pa_Stretchlow => k_is)
    (case pg_Stretchlow => k_is)
    (case pt_Stretchlow => k_is)
    (case pr_Stretchlow => k_is)
    (case l_Stretchlow => k_is)
    (case k1_Stretchlow => k_is)
    (case k2_Stretchlow => k_is)
    (case pa_Stretchhigh => k_is)
    (case pg_Stretchhigh => k_is)
    (case pt_Stretchhigh => k_is)
    (case pr_Stretchhigh => k_is)
    (case l_Stretchhigh => k_is)
    (case k1_Stretchhigh => k_is)
    (case k2_Stretchhigh => k_is)
    (case pa_Stretchis_single => k_is)
    (case pg_Stretchis_single => k_is)
    (case pt_Stretchis_single => k_is)
    (case pr_Stretchis_single => k_is)
    (case l_Stretchis_single => k_is)
    (case k1_Stretchis_single => k_is)
    (case k2_Stretchis_single => k_is)
    (case a_Stretch_contains_ => k_is)
    (case i_Stretch_contains_ => k_is)
    (case l_Stretch_contains_ => k_is)
    (case k1_Stretch_contains_ => k_is)
    (case k2_Stretch_contains_ => k_is)
    (case a_Stretch_eq_ => k_is)
    (case i_Stretch_eq_ => k_is)
    (case l_Stretch_eq_ => k_is)
    (case k1_Stretch_eq_ => k_is)
    (case k2_Stretch_eq_ => k_is)
    (case a_Stretch_str_ => k_is)
    (case i_Stretch_str_ => k_is)
    (case l_Stretch_str_ => k_is)
    (case k1_Stretch_str_ => k_is)
    (case k2_Stretch_str_ => k_is)
    (case a_Stretch_repr_ => k_is)
    (case i_Stretch_repr_ => k_is)
    (case l_Stretch_repr_ => k_is)
    (case k1_Stretch_repr_ => k_is)
    (case k2_Stretch_repr_ => k_is)
    (case a_Stretchplus => k_is)
    (case i_Stretchplus => k_is)
    (case l_Stretchplus => k_is)
    (case k1_Stretchplus => k_is)
    (case k2_Stretchplus => k_is)
    (case a_Stretchturned => k_is)
    (case i_Stretchturned => k_is)
    (case l_Stretchturned => k_is)
    (case k1_Stretchturned => k_is)
    (case k2_Stretchturned => k_is)
    (case a_pot => k_is)
    (case l_pot => k_is)
    (case k1_pot => k_is)
    (case k2_pot => k_is)
    (case a_draw => k_is)
    (case l_draw => k_is)
    (case k1_draw => k_is)
    (case k2_draw => k_is)
    (case a_pick => k_is)
    (case l_pick => k_is)
    (case k1_pick => k_is)
    (case k2_pick => k_is)
    (case a_less => k_is)
    (case l_less => k_is)
    (case k1_less => k_is)
    (case k2_less => k_is)
    (case a_fraction => k_is)
    (case l_fraction => k_is)
    (case k1_fraction => k_is)
    (case k2_fraction => k_is)
    (case a_lowest => k_is)
    (case l_lowest => k_is)
    (case k1_lowest => k_is)
    (case k2_lowest => k_is)
    (case a_text => k_is)
    (case l_text => k_is)
    (case k1_text => k_is)
    (case k2_text => k_is)
    (case a_name => k_is)
    (case l_name => k_is)
    (case k1_name => k_is)
    (case k2_name => k_is)
    (case a_handed => k_is)
    (case l_handed => k_is)
    (case k1_handed => k_is)
    (case k2_handed => k_is)
    (case a_ends => k_is)
    (case l_ends => k_is)
    (case k1_ends => k_is)
    (case k2_ends => k_is)
    (case a_is_in => k_is)
    (case l_is_in => k_is)
    (case k1_is_in => k_is)
    (case k2_is_in => k_is)
    (case a_in_right => k_is)
    (case l_in_right => k_is)
    (case k1_in_right => k_is)
    (case k2_in_right => k_is)
    (case a_shown_right => k_is)
    (case l_shown_right => k_is)
    (case k1_shown_right => k_is)
    (case k2_shown_right => k_is)
    (case a_sum => k_is)
    (case l_sum => k_is)
    (case k1_sum => k_is)
    (case k2_sum => k_is)
    (case a_reckoned_right => k_is)
    (case l_reckoned_right => k_is)
    (case k1_reckoned_right => k_is)
    (case k2_reckoned_right => k_is)
    (case a_refused => k_is)
    (case l_refused => k_is)
    (case k1_refused => k_is)
    (case k2_refused => k_is)
    (case a_refusals_right => k_is)
    (case l_refusals_right => k_is)
    (case k1_refusals_right => k_is)
    (case k2_refusals_right => k_is)
    (case a_right => k_is)
    (case l_right => k_is)
    (case k1_right => k_is)
    (case k2_right => k_is)
    (case a_law => k_is)
    (case l_law => k_is)
    (case k1_law => k_is)
    (case k2_law => k_is)
    (case pgA => k_is)
    (case hdA => k_is)
    (case poA => k_is)
    (case saA => k_is)
    (case pgS => k_is)
    (case hdS => k_is)
    (case poS => k_is)
    (case saS => k_is)
    (case nT_ => k_is)
    (case nB_ => k_is)
    (case nL_ => k_is)
    (case nH_ => k_is)
    (case mkA_ => k_is)
    (case kcA => k_is)
    (case mkS_ => k_is)
    (case kcS => k_is)
    (case gcd_ => k_is)
    (case cn_ => k_is)
    (case ct_ => k_is)
    (case caA_ => k_is)
    (case cmA_ => k_is)
    (case icA_ => k_is)
    (case itA_ => k_is)
    (case sbA__NoneType => k_is)
    (case sbA__bool => k_is)
    (case sbA__int => k_is)
    (case sbA__str => k_is)
    (case sbA__list => k_is)
    (case sbA__tuple => k_is)
    (case sbA__dict => k_is)
    (case caS_ => k_is)
    (case cmS_ => k_is)
    (case icS_ => k_is)
    (case itS_ => k_is)
    (case sbS__NoneType => k_is)
    (case sbS__bool => k_is)
    (case sbS__int => k_is)
    (case sbS__str => k_is)
    (case sbS__list => k_is)
    (case sbS__tuple => k_is)
    (case sbS__dict => k_is)
    (case part_ => k_is)
    (case plen_ => k_is)
    (case sf_ => k_is)
    (case s2_ => k_is)
    (case o1_add => k_is)
    (case o2_add => k_is)
    (case o3_add => k_is)
    (case o4_add => k_is)
    (case fmA_ => k_is)
    (case sSI_ => k_is)
    (case sSA_ => k_is)
    (case sAA_ => k_is)
    (case sAS_ => k_is)
    (case sSS_ => k_is)
    (case neS_ => k_is)
    (case xL_InvalidAmount => k_is)
    (case xsa_InvalidAmount => k_is)
    (case xex_InvalidAmount => k_is)
    (case xty_InvalidAmount => k_is)
    (case xkC_InvalidAmount => k_is)
    (case xga_InvalidAmount => k_is)
    (case xgg_InvalidAmount => k_is)
    (case xhd_InvalidAmount => k_is)
    (case xtI_InvalidAmount => k_is)
    (case xic_InvalidAmount => k_is)
    (case xss_InvalidAmount => k_is)
    (case xno_InvalidAmount => k_is)
    (case xca_InvalidAmount => k_is)
    (case xmo_InvalidAmount => k_is)
    (case xic_PipeError => k_is)
    (case xty_PipeError => k_is)
    (case xsu_InvalidAmount => k_is)
    (case xve_InvalidAmount => k_is)
    (case tb_refusals_right => first | k_is | exact rfl)
    (case nk_refusals_right => first | k_is | exact rfl)
    (case rc_refusals_right => exact rfl)
    (case z_ValueError => k_is)
    (case z_len => k_is)
    (case z_abs => k_is)
    (case z_max => k_is)
    (case z_min => k_is)
    (case z_int => k_is)
    (case z_divmod => k_is)
    (case z_all => k_is)
    (case z_repr => k_is)
    (case z_isinstance => k_is)
    (case z_str => k_is)
    (case z_range => k_is)
    (case z_bool => k_is)
#print axioms PySem.Challenge.cw_surepipes_k48_stretches_holds

