import PyProof.Rows.All
import Wide.All
import OpenK.AllK
import Wide.FinOn
import HandS.ForMost
import HandS.OwnEq
import HandS.SlotsOwn
import HandS.Property
import HandS.Gcd
import HandS.WideBits
import HandS.Style
import HandS.FStr
import HandS.IsInst
import HandS.RaiseMore
import HandS.Codes
import HandS.Defaults
import KE.RegKCallOwn
import PyProof.ReprRoads
import HandS.ClsMeth
import HandS.Star
import HandS.MakeKwOnly
import HandS.MakeKw
import HandS.StrMore
import KE.GoesMore
import KE.GoesEnum
import HandS.Walk
import HandS.Zip
import KE.KDictZip
import HandS.TryOnly
import HandS.ExcInit
import HandS.ExcField
import HandS.WordsExc
import HandS.TryMany
import HandS.ExcIs
import KE.KExcIs
import PyProof.ExcBaseAll.ArithmeticError
import KE.KExcInit
import PyProof.ExcBaseAll.LookupError
import PyProof.ExcBaseAll.RuntimeError
import PyProof.ExcBaseAll.ValueError
import HandS.OwnIter
import HandS.IterVal
import HandS.Dict
import HandS.Lambda
import HandS.EndTab
import HandS.HotCalls
import KE.KNest
import PyProof.ReprNest
import KE.KFmtOwn
import HandS.SetFor
import HandS.Strs
import HandS.ListItems
import PyProof.AutoSeq1
import HandS.WordsDict
import HandS.Deep
import HandS.DictComp
import HandS.Finally
import PySem.Challenge.RW_surepipes_k20_nets_made_and_asked
import PyProof.Rows.StrFirst
import PyProof.Rows.StrItems
import PyProof.StrLawsChain
import PyProof.StrLawsTight
import PyProof.StrLawsAffix
import KE.IntTextLaws
import HandS.DictEq
import HandS.DeepEq
import HandS.DictTup
import KE.SortData
import HandS.Small
import HandS.TupMul
import PyProof.ListMulAny
import PyProof.Rows.ListMulArg
import KE.KParD
import PyProof.DictUpdate
import HandS.CallLocal
import PyProof.Rows.CallKw2
import KE.OsRunLaw
set_option Elab.async false
set_option linter.all false
set_option maxRecDepth 100000
set_option maxHeartbeats 4000000
namespace Lb
open PySem PySem.Spec PyProof.Rows L2
open SlX (cmpback)

/-! own operators of plain instances -/
section
variable {X : Cx} {CX : CXT} {pins : List (Addr × Obj)} {σ : L2.St} {H : Hp} {s : Shared} {a C dx p g : Addr} {f : Str} {n : Nat} {sp : Sp} {E : XK} {v : V} {u : Value}

/-- what a comparison sees as the type of a value -/
theorem looks_ty {x : V} {u t : Value} (I : Inv X pins σ H s) (rx : RelV x u) (ty : TyOf X.K H x t) : PySem.W.Looks (model X.prog X.w) s.heap (typeOf u) t := by
  obtain ⟨P, k, hp, _⟩ := kit_of I rx (.base ty)
  exact k.ty _ _ I.kIn hp

/-- the instance as the library takes it -/
theorem inst_at {fs : List (Str × V)} (I : Inv X pins σ H s) (e : H a = some (.ins C dx fs)) : ∃ od, PySem.W.InstAt s.heap a (PySem.W.instObj C dx) C (some od) := by
  obtain ⟨mA, O, _⟩ := ins_get I.hok e
  obtain ⟨od, J, _⟩ := O.look
  exact ⟨od, J⟩

/-- x OP y by the def of the class of x for OP -/
def rOwnOp (K : PySem.W.Frag) (C : Addr) (sp : Sp) (E : XK) : R2 := fun x y H Q =>
  ∃ a dx fs t, x = .ref a ∧ H a = some (.ins C dx fs) ∧ TyOf K H y t ∧ PySem.W.notFirst K C t = true ∧ sp [x, y] H Q E
theorem op_ownCmp {K : PySem.W.Frag} {op : CmpOp} (hK : X.K = K) (hop : ∀ a b, compareOp op a b = richCompare op a b)
    (hs : PySem.W.findIn K (.ref C) (cmpInfo op).2.1 = some (some (.ref g))) (hf : PySem.W.isFn K (.ref g) = true)
    (F : FnR X.prog X.w X.K X.mg X.base CX n g sp) (hr : Room n X.A) (hx : Passes CX X E) : OpR X (compareOp op) (rOwnOp K C sp E) := by
  subst hK
  intro pins s σ H x y v u Q I rx ry h
  obtain ⟨a, dx, fs, t, rfl, ha, ty, hn, q⟩ := h
  cases (show v = Value.ref a from rx)
  obtain ⟨od, J⟩ := inst_at I ha
  obtain ⟨m, hF⟩ := I.fr
  rw [hop]
  refine PySem.W.cmp_K (op := op) (tb := t) hr.units0 hF I.ok.mod.kin J (looks_ty I ry ty) hn hs hf ?_
  refine wpAny_mono (wpAny_call (SlX.run_at (us := [.ref a, u]) (ws := [.ref a, y]) F hr I.env0 hx I (.cons rfl (.cons ry .nil)) q)) (fun w s' z => ?_) fun _ _ x => x
  obtain ⟨z', H', I', rz, qz⟩ := z
  exact cmpback rz ⟨z', H', I', rz, qz⟩

/-- x != y where the class of x has __eq__ alone: its answer turned -/
theorem ne_try {K : PySem.W.Frag} {prog : Program} {w : World} {A : Around} {EE : Value → Shared → Prop} {s : Shared} {x C f : Addr} {ox : Obj} {od : Option Obj} {b : Value} {Q : Option Value → Shared → Prop}
    (hu : A.units + 1 < cLine) (KX : K.In s.heap) (J : PySem.W.InstAt s.heap x ox C od)
    (hne : PySem.W.findIn K (.ref C) "__ne__" = some (some (.builtin "object.__ne__"))) (hm : PySem.W.mroIn K C (.type "object") = some true)
    (he : PySem.W.findIn K (.ref C) "__eq__" = some (some (.ref f))) (hf : PySem.W.isFn K (.ref f) = true)
    (h : wpAny (model prog w) A.in1 (call (.ref f) [.ref x, b]) (fun v s' => ∃ k, v = .bool k ∧ Q (some (.bool (!k))) s') EE s) :
    wpAny (model prog w) A (tryCompare (.ref x) "__ne__" b) Q EE s := by
  have hb := PySem.F.cmp_object.ne.bind
  simp only [tryCompare, callSpecialIfBound?, bindSpecialIfBound?]
  refine wpAny_bind (wpAny_holding (wpAny_bind (wpAny_bind (wpAny_bind (J.type.here ((PySem.W.looks_findIn KX hne).here ?_))))))
  refine wpAny_bind (wpAny_askSetting (wpAny_ite ?_))
  have body : wpAny (model prog w) A (call (.builtin "object.__ne__") ([.ref x] ++ [b])) (fun v s' => ∃ k, v = .bool k ∧ Q (some (.bool k)) s') EE s := by
    refine wpAny_call (codeAny_call_builtin PySem.F.cmp_object.ne.plain PySem.F.cmpEntry_ne
      (PySem.W.check_slot PySem.F.cmpKind_ne PySem.F.cmpSplit_ne (J.type.andThen (PySem.W.looks_mroIn KX hm)) (PySem.F.cmpArgs_ne _ _) ?_))
    unfold Builtin.«object.__ne__»
    refine wpAny_bind (m := slotArgs "__ne__" 1 _) (wpAny_pure ?_)
    refine wpAny_bind (m := cRoomFor _ _) (wpAny_cRoomFor hu ?_)
    refine wpAny_bind (m := callSpecialIfBound? (.ref x) (Str.ofString "__eq__") [b]) (PySem.W.ifBound_K KX J he hf (wpAny_mono h (fun v s' z => ?_) fun _ _ e => e))
    obtain ⟨k, rfl, q⟩ := z
    refine wpAny_bind (wpAny_truthy_bool ?_)
    exact wpAny_pure ⟨!k, rfl, q⟩
  have fin : wpAny (model prog w) A (call (.builtin "object.__ne__") ([.ref x] ++ [b]) >>= fun v => pure (some v)) (fun r s' => ∃ k, r = some (.bool k) ∧ Q (some (.bool k)) s') EE s :=
    wpAny_bind (wpAny_mono body (fun v s' ⟨k, e, q⟩ => wpAny_pure ⟨k, by rw [e], q⟩) fun _ _ e => e)
  have fin2 : wpAny (model prog w) A (call (.builtin "object.__ne__") ([.ref x] ++ [b]) >>= fun v => pure (some v)) (fun r s' => wpAny (model prog w) A (match r with
      | some .notImplemented | none => pure none
      | some v => pure (some v)) Q EE s') EE s := wpAny_mono fin (fun r s' ⟨k, e, q⟩ => by subst e; exact wpAny_pure q) fun _ _ e => e
  split
  · exact wpAny_bind ((PySem.W.Looks.of_pure (hb _)).here (wpAny_pure (by exact fin2)))
  · exact wpAny_tryCatch (wpAny_bind ((PySem.W.Looks.of_pure (hb _)).here (wpAny_pure (by exact fin2))))

/-- how a promise at a bool is handed back -/
def rOwnNe (K : PySem.W.Frag) (C : Addr) (sp : Sp) (E : XK) : R2 := fun x y H Q =>
  ∃ a dx fs t, x = .ref a ∧ H a = some (.ins C dx fs) ∧ TyOf K H y t ∧ PySem.W.notFirst K C t = true ∧ sp [x, y] H (fun z H' => ∃ k, z = .bl k ∧ Q (.bl (!k)) H') E
theorem op_ownNe {K : PySem.W.Frag} (hK : X.K = K) (hne : PySem.W.findIn K (.ref C) "__ne__" = some (some (.builtin "object.__ne__"))) (hm : PySem.W.mroIn K C (.type "object") = some true)
    (hs : PySem.W.findIn K (.ref C) "__eq__" = some (some (.ref g))) (hf : PySem.W.isFn K (.ref g) = true)
    (F : FnR X.prog X.w X.K X.mg X.base CX n g sp) (hr : Room (n + 1) X.A) (hx : Passes CX X E) : OpR X (compareOp .NotEq) (rOwnNe K C sp E) := by
  subst hK
  intro pins s σ H x y v u Q I rx ry h
  obtain ⟨a, dx, fs, t, rfl, ha, ty, hn, q⟩ := h
  cases (show v = Value.ref a from rx)
  obtain ⟨od, J⟩ := inst_at I ha
  have KX := I.kIn
  have hb := looks_ty I ry ty
  have hu := hr.units
  have body : wpAny (model X.prog X.w) X.A.in1 (call (.ref g) [.ref a, u]) (fun v s' => ∃ k, v = .bool k ∧ EP X pins σ Q (.bool (!k)) s') X.xe s := by
    refine wpAny_mono (wpAny_call (SlX.run_at (us := [.ref a, u]) (ws := [.ref a, y]) F hr.in1 I.env0.in1 hx I (.cons rfl (.cons ry .nil)) q)) (fun w s' z => ?_) fun _ _ x => x
    obtain ⟨z', H', I', rz, k, ez, qz⟩ := z
    subst ez
    exact ⟨k, rz, .bl (!k), H', I', rfl, qz⟩
  have one : wpAny (model X.prog X.w) X.A (tryCompare (.ref a) "__ne__" u) (fun r s' => ∃ v, r = some v ∧ EP X pins σ Q v s') X.xe s :=
    ne_try (by omega) KX J hne hm hs hf (wpAny_mono body (fun v s' ⟨k, e, q⟩ => ⟨k, e, _, rfl, q⟩) fun _ _ e => e)
  show wpAny (model X.prog X.w) X.A (richCompare .NotEq (.ref a) u) (EP X pins σ Q) X.xe s
  unfold richCompare
  simp only [oneThing_ref]
  refine wpAny_holding (wpAny_bind (wpAny_cRoomFor hr.units0 ?_))
  refine wpAny_bind (J.type.here (wpAny_bind (hb.here ?_)))
  split
  · rename_i q'
    have e : PySem.W.subIn X.K t (.ref C) = some false := by
      rcases Bool.or_eq_true_iff.mp hn with e | e
      · rw [beq_iff_eq.mp e] at q'; simp at q'
      · exact beq_iff_eq.mp e
    refine wpAny_bind ((PySem.W.looks_subIn KX e).here ?_)
    simp only [Bool.false_eq_true, if_false]
    refine wpAny_bind (wpAny_mono one (fun r s' z => ?_) fun _ _ e => e)
    obtain ⟨v, rfl, hq⟩ := z
    exact wpAny_pure hq
  · refine wpAny_bind (wpAny_pure ?_)
    simp only [Bool.false_eq_true, if_false]
    refine wpAny_bind (wpAny_mono one (fun r s' z => ?_) fun _ _ e => e)
    obtain ⟨v, rfl, hq⟩ := z
    exact wpAny_pure hq

/-- str(x), x an instance whose class has __str__ -/
def rOwnTx (C : Addr) (sp : Sp) (E : XK) : List V → Hp → VK → Prop := fun xs H Q =>
  ∃ a dx fs, xs = [.ref a] ∧ H a = some (.ins C dx fs) ∧ sp xs H (fun z H' => ∃ y, z = .str y ∧ Q z H') E
theorem call_strOwn (hs : PySem.W.findIn X.K (.ref C) "__str__" = some (some (.ref g))) (hf : PySem.W.isFn X.K (.ref g) = true)
    (F : FnR X.prog X.w X.K X.mg X.base CX n g sp) (hr : Room (n + 2) X.A) (hx : Passes CX X E) : CallR X (.type "str") (rOwnTx C sp E) := by
  intro pins s σ H xs us Q I r h
  obtain ⟨a, dx, fs, rfl, ha, q⟩ := h
  obtain ⟨u, rfl, ru⟩ := vals1 r
  cases (show u = Value.ref a from ru)
  obtain ⟨od, J⟩ := inst_at I ha
  have hu := hr.units
  have hr2 : Room n X.A.in1.in1 := (show Room (n + 1) X.A.in1 from Room.in1 hr).in1
  refine PySem.W.kso_call (by show X.A.units + 1 + 1 < cLine; omega) I.kIn J hs hf ?_
  refine wpAny_mono (wpAny_call (SlX.run_at (us := [.ref a]) (ws := [.ref a]) F hr2 I.env0.in1.in1 hx I (.cons rfl .nil) q)) (fun w s' z => ?_) fun _ _ x => x
  obtain ⟨z', H', I', rz, y, ez, qz⟩ := z
  subst ez
  obtain ⟨t, rfl⟩ := (show ∃ t, w = Value.str y t from rz)
  exact ⟨.str y, H', I', ⟨t, rfl⟩, qz⟩
/-- repr(x), x an instance whose class has __repr__ -/
theorem call_reprOwn (hs : PySem.W.findIn X.K (.ref C) "__repr__" = some (some (.ref g))) (hf : PySem.W.isFn X.K (.ref g) = true)
    (F : FnR X.prog X.w X.K X.mg X.base CX n g sp) (hr : Room (n + 1) X.A) (hx : Passes CX X E) : CallR X (.builtin "repr") (rOwnTx C sp E) := by
  intro pins s σ H xs us Q I r h
  obtain ⟨a, dx, fs, rfl, ha, q⟩ := h
  obtain ⟨u, rfl, ru⟩ := vals1 r
  cases (show u = Value.ref a from ru)
  obtain ⟨od, J⟩ := inst_at I ha
  have hu := hr.units
  refine Calls.call_function_entry PySem.F.kind_repr PySem.F.plain_repr PySem.F.entry_repr (PySem.F.args_repr1 _) ?_
  unfold Builtin.«repr»
  refine wpAny_bind (m := oneArg "repr" _) (wpAny_pure ?_)
  refine wpAny_bind (m := cRoomFor _ _) (wpAny_cRoomFor (by show X.A.units + 1 < cLine; omega) ?_)
  refine wpAny_bind (wpAny_bind (J.type.here ((PySem.W.looks_findIn I.kIn hs).here ?_)))
  refine wpAny_bind (m := callSpecialIfBound? (.ref a) (Str.ofString "__repr__")) (PySem.W.ifBound_K I.kIn J hs hf ?_)
  refine wpAny_mono (wpAny_call (SlX.run_at (us := [.ref a]) (ws := [.ref a]) F hr.in1 I.env0.in1 hx I (.cons rfl .nil) q)) (fun w s' z => ?_) fun _ _ x => x
  obtain ⟨z', H', I', rz, y, ez, qz⟩ := z
  subst ez
  obtain ⟨t, rfl⟩ := (show ∃ t, w = Value.str y t from rz)
  refine wpAny_bind (wpAny_isInstance (T := "str") (b := true) rfl isSubtype_str_str ?_)
  exact wpAny_pure ⟨_, rfl, .str y, H', I', ⟨t, rfl⟩, qz⟩
end
end Lb

set_option Elab.async false
set_option linter.all false
set_option maxRecDepth 100000
set_option maxHeartbeats 4000000
namespace Lb
open PySem PySem.Spec PyProof.Rows L2
open SlX (cmpback)

/-! repr of data: wants that no repr is running -/
mutual
theorem dp_plain {K : PySem.W.Frag} {H : Hp} : ∀ (d : PyData) (v : V), Dp K H v d → d.hasDict = false
  | .none, _, _ => by simp only [PyData.hasDict]
  | .bool _, _, _ => by simp only [PyData.hasDict]
  | .int _, _, _ => by simp only [PyData.hasDict]
  | .str _, _, _ => by simp only [PyData.hasDict]
  | .list ds, _, h => by
    cases h with
    | lst _ q => simp only [PyData.hasDict]; exact dp_plains ds _ q
  | .tuple ds, _, h => by
    cases h with
    | tup _ q => simp only [PyData.hasDict]; exact dp_plains ds _ q
  | .dict _, _, h => by cases h
theorem dp_plains {K : PySem.W.Frag} {H : Hp} : ∀ (ds : List PyData) (vs : List V), DpAll K H vs ds → PyData.hasDictAll ds = false
  | [], _, _ => by simp only [PyData.hasDictAll]
  | d :: ds, _, h => by
    cases h with
    | cons h1 h2 => simp only [PyData.hasDictAll, dp_plain d _ h1, dp_plains ds _ h2, Bool.or_self]
end
section
variable {X : Cx}
def rRepr (K : PySem.W.Frag) : List V → Hp → VK → Prop := fun xs H Q =>
  ∃ x d, xs = [x] ∧ Dp K H x d ∧ d.showable = true ∧ d.shown.length ≤ sizeLine ∧ d.depth ≤ 60 ∧ Q (.str d.shown) H
theorem call_repr {K : PySem.W.Frag} (hK : X.K = K) (hg : X.A.guards = some []) (hu : X.A.units + 64 < cLine) : CallR X (.builtin "repr") (rRepr K) := by
  subst hK
  intro pins s σ H xs us Q I r h
  obtain ⟨x, d, rfl, hd, hs, hz, hdp, q⟩ := h
  obtain ⟨u, rfl, ru⟩ := vals1 r
  have hpl := dp_plain d x hd
  obtain ⟨as, rd⟩ := Dp.reads I d x u hd ru
  cases x with
  | non =>
    cases hd
    cases (show u = Value.none from ru)
    exact PySem.P.repr_of_none ⟨.str _, H, I.tok _, ⟨_, rfl⟩, q⟩
  | bl b =>
    cases hd
    cases (show u = Value.bool b from ru)
    exact PySem.P.repr_of_bool ⟨.str _, H, I.tok _, ⟨_, rfl⟩, q⟩
  | int i =>
    cases hd
    obtain ⟨t, rfl⟩ := (show ∃ t, u = Value.int i t from ru)
    have hi : i.natAbs.log2 < 1920 := of_decide_eq_true (by simpa only [PyData.showable] using hs)
    exact PySem.P.repr_of_int hi ⟨.str _, H, I.tok _, ⟨_, rfl⟩, q⟩
  | str y =>
    cases hd
    obtain ⟨t, rfl⟩ := (show ∃ t, u = Value.str y t from ru)
    exact PySem.P.repr_of_str ⟨.str _, H, I.tok _, ⟨_, rfl⟩, q⟩ hz
  | byt y => cases hd
  | flt y => cases hd
  | ty y => cases hd
  | ref a =>
    cases (show u = Value.ref a from ru)
    refine PySem.repr_of_reads' rd hs (PyData.noDict_hsm hpl) hg (by omega) (fun _ _ e => e) (fun h' w tk k => ?_) hz
    exact ⟨.str _, H, I.kept k, ⟨_, rfl⟩, q⟩

/-! the layer's rules with the written part told apart (within a comprehension the context is another) -/
variable {K : PySem.W.Frag}
theorem ix_listK (hK : X.K = K) : IxR X (rIxL K) := by subst hK; exact ix_list
theorem ix_tupK (hK : X.K = K) : IxR X (rIxT K) := by subst hK; exact ix_tup
theorem sl_listK (hK : X.K = K) : SlR X (rSlL K) := by subst hK; exact sl_list
theorem call_lenK (hK : X.K = K) : CallR X (.builtin "len") (fun xs H Q => ∃ p ys, xs = [.ref p] ∧ (SqL K H p ys ∨ SqT K H p ys) ∧ Q (.int ys.length) H) := by subst hK; exact call_len_seq
theorem call_isiK' (hK : X.K = K) : CallR X (.builtin "isinstance") (rIsi K) := by subst hK; exact call_isi
theorem cr_allK (hK : X.K = K) (hc : X.calm = true) : CallR X (.builtin "all") (rAll K) := by subst hK; exact cr_all hc
theorem cr_anyK (hK : X.K = K) (hc : X.calm = true) : CallR X (.builtin "any") (rAny K) := by subst hK; exact cr_any hc
theorem pe_fldK {e : Expr} {f : Str} {pos : Pos} {ta : TE} (hK : X.K = K) (he : PE X e ta) (hb : attributeBase e f X.env (eval e X.env) = eval e X.env) : PE X (.Attribute e f pos) (tFld K ta f) := by subst hK; exact pe_fld he hb
theorem ps_fldK {o value : Expr} {f : Str} {pos pos' : Pos} {ta tv : TE} (hK : X.K = K) (ha : PE X o ta) (hv : PE X value tv) (hs : swapsWith value (some (.Attribute o f pos')) pos.line X.env = pure false) :
    PS X (.Assign [.Attribute o f pos'] value pos) (sFld K ta tv f) := by subst hK; exact ps_fld ha hv hs
theorem pg_tupK {pos : Pos} {es : List Expr} {k : Nat} {t : TGs} {n : Nat} (hK : X.K = K) (hc : X.calm = true) (h : PGs X es t)
    (hn : (assignEach es X.env).length = n := by rfl) (hst : (assignEach es X.env).findIdx? (·.1) = none := by rfl) : PG X (.Tuple es k pos) (gTup K n t) := by subst hK; exact pg_tup hc h hn hst
theorem pi_listK {tg l : Expr} {tl : TE} (hK : X.K = K) (hl : PE X l tl) : PI X tg l (iList K tl) := by subst hK; exact pi_list hl
end
end Lb

set_option Elab.async false
set_option linter.all false
set_option maxRecDepth 100000
set_option maxHeartbeats 4000000
namespace Lb
open PySem PySem.Spec PyProof.Rows L2

/-! defs that may show data (repr): they are called where no repr runs -/
structure FnG (P : Program) (w : World) (K : PySem.W.Frag) (mg : Str → Option Value) (base : Heap) (CX : CXT)
    (k : Nat) (f : Addr) (fd : FuncData) (ps : List Str) (sp : Sp) : Prop where
  len : ∀ vs H Q E, sp vs H Q E → vs.length = ps.length
  run : ∀ (A : Around) (outer : List Env) (s : Shared) (H : Hp) (args : Args) (us : List Value) (vs : List V) (Q : VK) (E : XK),
    A.guards = some [] → Room k A → Env0 P w K mg base A outer s H → BindsTo s fd args (ps.zip us) → Vals vs us → sp vs H Q E →
    codeAny (model P w) A (.call (.ref f) args) (CR CX outer P w H s Q E) s

section
variable {P : Program} {w : World} {K : PySem.W.Frag} {mg : Str → Option Value} {base : Heap} {CX : CXT} {k j : Nat} {f : Addr} {fd : FuncData} {ps : List Str} {sp : Sp}
theorem FnG.of (F : FnOk P w K mg base CX k f fd ps sp) : FnG P w K mg base CX k f fd ps sp :=
  ⟨F.len, fun A outer s H args us vs Q E _ hr e0 hb r hs => F.run A outer s H args us vs Q E hr e0 hb r hs⟩
theorem FnG.mono (F : FnG P w K mg base CX j f fd ps sp) (h : j ≤ k) : FnG P w K mg base CX k f fd ps sp :=
  ⟨F.len, fun A outer s H args us vs Q E g hr => F.run A outer s H args us vs Q E g (hr.mono h)⟩
/-- the rule for the body of such a def -/
theorem okG {x qual : Str} {st : Stmt} {N : List Str} (F : Fun K x qual st f fd) (S : FnScope N ps (defScope st))
    (len : ∀ vs H Q E, sp vs H Q E → vs.length = ps.length)
    (hbody : ∀ (cdv : Value) (A : Around) (outer : List Env) (s : Shared) (H : Hp) (vs : List V) (Q : VK) (E : XK),
      (A.deeper (envOfC qual (defScope st) s.heap.objs.size f cdv)).guards = some [] →
      Room k (A.deeper (envOfC qual (defScope st) s.heap.objs.size f cdv)) → sp vs H Q E →
      ∃ t, PSs (cxOf CX P w K mg base N qual (defScope st) f cdv A outer s H E).nox (defBody st) t ∧
        t { nx := fun _ H' => Q .non H', rt := Q } (start N vs) H) :
    FnG P w K mg base CX (k + 1) f fd ps sp := by
  obtain ⟨oc, od, kV, doc, pm, an, cdv, ct, osl, rfl, lk, hcd⟩ := F.ex
  refine ⟨len, fun A outer s H args us vs Q E hgu hr e0 hb r hsp => ?_⟩
  have hl := len vs H Q E hsp
  have KX : K.In s.heap := e0.mod.kin.keeps fun b o e => (e0.bs b o e).1
  have lim : s.heap.NoLimit := e0.mod.nolimit.keeps fun b o e => (e0.bs b o e).1
  have hkind : ∀ y ∈ ps.zip us, (defScope st).names.lookup y.1 = some .local ∨
      ((defScope st).names.lookup y.1 = some .cell ∧ ((cellsFrom (s.heap.objs.size + 1) (defScope st).names []).lookup y.1).isSome = true) := by
    rintro ⟨n, v⟩ hy
    rcases S.par n (List.of_mem_zip hy).1 with q | q
    · exact .inl q
    · exact .inr ⟨q, PySem.W.cellsFrom_some _ _ _ (.inl q)⟩
  refine codeAny_call_function hr.depth (KX _ _ lk) rfl S.co S.gen rfl (PySem.W.codeRec_of KX hcd) (hb _ _ _ _ ?_)
  refine wpAny_newFunctionEnv_cells S.kind hkind fun env he s1 y => ?_
  subst he
  refine ⟨lim.keeps y.toInCall.keep, codeAny_func ?_⟩
  have hgd : (A.deeper (envOfC qual (defScope st) s.heap.objs.size f cdv)).guards = some [] := by
    first
      | exact hgu
      | simpa [Around.deeper] using hgu
  obtain ⟨t, ht, hq⟩ := hbody cdv A outer s H vs Q E hgd (hr.deeper _) hsp
  have I := inv_start (CX := CX) (E := E) S hr.hd e0 hl r y
  have fin : ∀ {σ' : L2.St} {H' : Hp} {s' : Shared} {v : V} {u : Value},
      Inv (cxOf CX P w K mg base N qual (defScope st) f cdv A outer s H E) [] σ' H' s' → RelV v u → Q v H' → CE outer P w H s Q u s' :=
    fun {σ' H' s' v u} J rv q => ⟨v, H', J.os, J.bare, J.base, J.hok, rv, q⟩
  refine wpAny_mono (ht.nox.run [] s1 (start N vs) H _ I hq) (fun fl s' hs => ?_) fun _ _ hs => hs
  cases fl with
  | ret u =>
    obtain ⟨v, σ', H', J, rv, q⟩ := hs
    exact fin J rv q
  | next =>
    obtain ⟨σ', H', J, q⟩ := hs
    exact fin (v := V.non) (u := Value.none) J rfl q
  | brk => exact hs.elim fun _ h => h.elim fun _ h => h.2.elim
  | cont => exact hs.elim fun _ h => h.elim fun _ h => h.2.elim
end

section
variable {X : Cx} {CX : CXT} {k : Nat} {f : Addr} {fd : FuncData} {ps : List Str} {sp : Sp} {dvs : List V} {ds : List Value} {E : XK} {x : Str} {p pos : Pos} {e : Expr} {es : List Expr} {t : TA}
theorem run_fnG {pins : List (Addr × Obj)} {σ : L2.St} {H : Hp} {s : Shared} {Q : VK} {us : List Value} {vs : List V} (F : FnG X.prog X.w X.K X.mg X.base CX k f fd ps sp) (gu : X.A.guards = some [])
    (hr : Room k X.A) (hb : Binds X.K fd ps ds) (hd : Vals dvs ds) (hx : Passes CX X E) (I : Inv X pins σ H s) (r : Vals vs us) (h : sp (vs ++ dvs) H Q E) :
    wpAny (model X.prog X.w) X.A (call (.ref f) us) (EP X pins σ Q) X.xe s := by
  have r2 := r.append hd
  have hl : (us ++ ds).length = ps.length := r2.length ▸ F.len _ H Q E h
  have code := F.run X.A X.stack s H ⟨us, []⟩ (us ++ ds) (vs ++ dvs) Q E gu hr I.env0 (hb s us I.kIn hl) r2 h
  refine wpAny_call (codeAny_mono code fun r s' hq => ?_)
  rcases r with er | fl
  · first | exact hx pins σ H s er s' I hq | (cases er <;> first | exact I.after hq | exact hq.elim)
  · first | (cases fl <;> first | exact I.after hq | exact hq.elim) | exact hx pins σ H s fl s' I hq
theorem pe_callG (F : FnG X.prog X.w X.K X.mg X.base CX k f fd ps sp) (gu : X.A.guards = some []) (hr : Room k X.A) (hg : Gl X x) (hm : X.mg x = some (.ref f))
    (hk : PySem.W.keepIn X.K (.ref f) = true) (hb : Binds X.K fd ps ds) (hd : Vals dvs ds) (hx : Passes CX X E) (ha : PA X (e :: es) t)
    (hdb : (x == ("__debug__" : Str)) = false := by decide) (he : starEach (e :: es) X.env = (false, eval e X.env) :: starEach es X.env := by rfl)
    (hpl : (backTo pos (starEach es X.env)).any (·.1) = false := by rfl) : PE X (.Call (.Name x p) (e :: es) [] pos) (tCall sp dvs E t) := by
  refine ⟨fun pins s σ H Q I h => wpAny_Call_Name_kw (ld_glob I hg hm ?_ hdb)⟩
  refine PySem.W.callWith_K (h₀ := X.base) I.ok.mod.kin hk (thn (ha.run pos pins s σ H _ I h) fun us s1 q => ?_) he hpl
  obtain ⟨vs, H1, I1, r, q⟩ := q
  exact ⟨I1.kIn, run_fnG F gu hr hb hd hx I1 r q⟩
theorem pe_call0G (F : FnG X.prog X.w X.K X.mg X.base CX k f fd ps sp) (gu : X.A.guards = some []) (hr : Room k X.A) (hg : Gl X x) (hm : X.mg x = some (.ref f))
    (hk : PySem.W.keepIn X.K (.ref f) = true) (hb : Binds X.K fd ps ds) (hd : Vals dvs ds) (hx : Passes CX X E)
    (hdb : (x == ("__debug__" : Str)) = false := by decide) : PE X (.Call (.Name x p) [] [] pos) (tCall sp dvs E tNil) :=
  ⟨fun pins s σ H Q I h => wpAny_Call_Name_kw (ld_glob I hg hm (PySem.W.callWith_K0 I.kIn hk (run_fnG (us := []) F gu hr hb hd hx I .nil h)) hdb)⟩
end

/-- the law's call: like the layer's own end, for such a def -/
theorem law_callG {P : Program} {w : World} {K : PySem.W.Frag} {mg mb : Str → Option Value} {CX : CXT} {k : Nat} {fa a : Addr} {fd : FuncData} {x : Str} {sp : Sp} {s1 : Shared} {vs : List Value} {ns : List Int}
    (KX : K.In s1.heap) (hns : s1.heap.Ns mainGlobals mg) (hb : s1.heap.Ns builtinsNs mb) (hbb : ∀ x : Str, x ≠ "__name__" → mb x = bootBuiltins x) (hlim : s1.heap.NoLimit) (hg : s1.gens = #[])
    (ha : s1.heap.get? a = some { cls := .type "list", data := .seq vs.toArray }) (hi : IntsAre vs ns) (hl : ns.length ≤ sizeLine) (hr : Room k callerA)
    (F : ∀ base : Heap, K.In base → base.Ns mainGlobals mg → FnG P w K mg base CX k fa fd [x] sp) (hbind : ∀ (s : Shared) (u : Value), BindsTo s fd ⟨[u], []⟩ [(x, u)])
    (hsp : ∀ H : Hp, Only H → SqL K H a (ns.map V.int) → sp [.ref a] H (fun v _ => v = .bl true) fun _ _ _ => False)
    (hCX : ∀ H e s', CX [] H s1 (fun _ _ _ => False) e s' → False) :
    codeAny (model P w) callerA (.call (.ref fa) ⟨[.ref a], []⟩) (fun r s' => r = .ok (.ret (.bool true)) ∧ OldK s1.heap s'.heap ∧ s'.os = s1.os ∧ AllBare s'.gens) s1 := by
  have rv := vals_ints hi
  have core : ∀ H : Hp, Only H → SqL K H a (ns.map V.int) → HOk P w H s1.heap → (∀ b u, H b = some u → b = a) → (∀ u, H a = some u → K.lookup a = none) →
      codeAny (model P w) callerA (.call (.ref fa) ⟨[.ref a], []⟩) (fun r s' => r = .ok (.ret (.bool true)) ∧ OldK s1.heap s'.heap ∧ s'.os = s1.os ∧ AllBare s'.gens) s1 := by
    intro H hO hS hok hA hK
    have free_of : ∀ {b : Addr} {o : Obj}, s1.heap.get? b = some o → (∀ z : Data, o.data = z → ∃ es ep, z = .dict es ep) → H b = none := by
      intro b o e d
      cases q : H b with
      | none => rfl
      | some u =>
        cases hA b u q
        rw [ha] at e
        cases e
        obtain ⟨es, ep, z⟩ := d _ rfl
        cases z
    have nsK : ∀ {b : Addr} {m : Str → Option Value}, s1.heap.Ns b m → (hidT s1.heap H).Ns b m := by
      rintro b m ⟨o, es, ep, e, d, r⟩
      exact ⟨o, es, ep, hidT_get e (free_of e fun z hz => ⟨es, ep, hz ▸ d⟩), d, r⟩
    have hKb : K.In (hidT s1.heap H) := by
      intro b o e
      refine hidT_get (KX b o e) ?_
      cases q : H b with
      | none => rfl
      | some u =>
        cases hA b u q
        rw [hK u q] at e
        cases e
    have hM : Mod K mg (hidT s1.heap H) := by
      obtain ⟨mc, c1, c2⟩ := hlim
      exact ⟨hKb, nsK hns, ⟨mb, nsK hb, hbb⟩, ⟨mc, nsK c1, c2⟩⟩
    have e0 : Env0 P w K mg (hidT s1.heap H) callerA [] s1 H :=
      ⟨rfl, hM, fun b o e => of_hidT e, Nat.le_of_eq (hidT_size _ _), trivial, fun b hb => (List.not_mem_nil hb).elim, hok, .of_eq hg⟩
    have code := (F _ hKb (nsK hns)).run callerA [] s1 H ⟨[.ref a], []⟩ [.ref a] [.ref a] _ _ rfl hr e0 (hbind s1 (.ref a)) (.cons rfl .nil) (hsp H hO hS)
    refine codeAny_mono code fun r s' h => ?_
    cases r with
    | error e => exact (hCX H e s' h).elim
    | ok fl =>
      cases fl with
      | ret u =>
        obtain ⟨v, H', os, bare, un, hok', r', q⟩ := h
        cases (show v = .bl true from q)
        cases (show u = Value.bool true from r')
        refine ⟨rfl, .of_keep fun b o e => ?_, os, bare⟩
        rcases hO b with z | ⟨ob, xs, z⟩
        · exact un.keep b o e z (fun z => List.not_mem_nil z) (fun z => List.not_mem_nil z)
        · obtain ⟨e1, _⟩ := hok b _ z
          obtain ⟨e2, _⟩ := hok' b _ (un.frzs b ob _ z)
          rw [e] at e1
          cases e1
          exact e2
      | next => exact h.elim
      | brk => exact h.elim
      | cont => exact h.elim
  cases hk : K.lookup a with
  | some o =>
    have e := KX a o hk
    rw [ha] at e
    cases e
    refine core (fun _ => none) (fun _ => .inl rfl) (.inr ⟨_, vs.toArray, _, hk, rfl, rfl, rfl, ?_, ?_⟩) (fun b u z => nomatch (show (none : Option HO) = some u from z)) (fun b u z => nomatch (show (none : Option HO) = some u from z)) (fun u z => nomatch (show (none : Option HO) = some u from z))
    · rw [List.size_toArray, hi.length]
      exact hl
    · simpa using rv
  | none =>
    have at_ : ∀ {b : Addr} {u : HO}, (if b = a then some (HO.frz { cls := .type "list", data := .seq vs.toArray } (.lst (ns.map V.int))) else none) = some u →
        b = a ∧ u = HO.frz { cls := .type "list", data := .seq vs.toArray } (.lst (ns.map V.int)) := by
      intro b u e
      by_cases hb : b = a
      · rw [if_pos hb] at e
        exact ⟨hb, (Option.some.inj e).symm⟩
      · rw [if_neg hb] at e
        cases e
    refine core (fun b => if b = a then some (.frz { cls := .type "list", data := .seq vs.toArray } (.lst (ns.map V.int))) else none) (fun b => ?_)
      (.inl (.inr ⟨{ cls := .type "list", data := .seq vs.toArray }, if_pos rfl⟩)) (fun b u e => ?_) (fun b u e => (at_ e).1) (fun _ _ => hk)
    · by_cases hb : b = a
      · exact .inr ⟨_, _, if_pos hb⟩
      · exact .inl (if_neg hb)
    · obtain ⟨rfl, rfl⟩ := at_ e
      exact ⟨ha, by rw [List.length_map]; exact hl, vs, _, rv, ha⟩

theorem walkG {l : PySem.W.OpenLaw} {n k : Nat} {q : Program} {loose : List Str} {XP : (Str → Option Value) → Heap → Prop} {YP : World → Heap → Prop} {d : DefRec} {K : Params → PySem.W.Frag} {sp : PySem.W.Frag → Sp} {x : Str}
    (hn : l.most = some n) (hn2 : n ≤ sizeLine) (hdf : d.params.defaults = []) (hr : Room k callerA)
    (hY : ∀ (w : World) (h : Heap), YP w h → (K w.params).In h)
    (F : ∀ (w : World) (mg : Str → Option Value) (fa : Addr) (h : Heap), (K w.params).In h → h.Ns mainGlobals mg → mg d.name = some (.ref fa) →
      ∃ fd : FuncData, (∀ (s : Shared) (u : Value), BindsTo s fd ⟨[u], []⟩ [(x, u)]) ∧
        ∀ base : Heap, (K w.params).In base → base.Ns mainGlobals mg → FnG l.prog w (K w.params) mg base CX0 k fa fd [x] (sp (K w.params)))
    (hsp : ∀ (K : PySem.W.Frag) (H : Hp) (a : Addr) (ns : List Int), ns.length ≤ n → Only H → SqL K H a (ns.map V.int) → sp K [.ref a] H (fun v _ => v = .bl true) fun _ _ _ => False) :
    PySem.W.WalkO q loose XP YP l.row.toRowW d [] (fun f vs => PySem.call f vs) := by
  refine Att.attach_call hn hdf fun w s0 s1 mg mb fa o pm cd doc a vs ns G Y ho hd hcd hmg hobj hints hlen hg => ?_
  obtain ⟨fd, hb, hF⟩ := F w mg fa _ (hY w _ Y) G.T.g hmg
  exact law_callG (hY w _ Y) G.T.g G.T.b G.T.builtins G.T.nolimit hg hobj hints (Nat.le_trans hlen hn2) hr hF hb (fun H hO hS => hsp _ H a ns hlen hO hS) fun _ _ _ z => z
end Lb

set_option Elab.async false
set_option linter.all false
set_option maxRecDepth 100000
set_option maxHeartbeats 4000000
namespace Lb
open PySem PySem.Spec PyProof.Rows L2

/-! sizes of ints -/
/-- fewer than n bits -/
def Bd (n : Nat) (x : Int) : Prop := x.natAbs < 2 ^ n
theorem Bd.mono {n m : Nat} {x : Int} (h : Bd n x) (k : n ≤ m) : Bd m x := Nat.lt_of_lt_of_le h (Nat.pow_le_pow_right (by decide) k)
theorem Bd.mul {n m : Nat} {x y : Int} (h : Bd n x) (k : Bd m y) : Bd (n + m) (x * y) := by
  unfold Bd at *
  rw [Int.natAbs_mul, Nat.pow_add]
  exact Nat.mul_lt_mul'' h k
theorem Bd.add {n : Nat} {x y : Int} (h : Bd n x) (k : Bd n y) : Bd (n + 1) (x + y) := by
  unfold Bd at *
  have := Int.natAbs_add_le x y
  rw [Nat.pow_succ]
  omega
theorem Bd.neg {n : Nat} {x : Int} (h : Bd n x) : Bd n (-x) := by
  unfold Bd at *
  rw [Int.natAbs_neg]
  exact h
theorem Bd.sub {n : Nat} {x y : Int} (h : Bd n x) (k : Bd n y) : Bd (n + 1) (x - y) := by
  rw [Int.sub_eq_add_neg]
  exact h.add k.neg
theorem Bd.le {n : Nat} {x y : Int} (h : Bd n x) (k : y.natAbs ≤ x.natAbs) : Bd n y := Nat.lt_of_le_of_lt k h
theorem Bd.of {n : Nat} {x : Int} (h : x.natAbs < 2 ^ n) : Bd n x := h
theorem Bd.cm {n m : Nat} {x y : Int} (h : Bd n x) (k : Bd m y) (l : n + m ≤ 134217728) : CMulX x y := mulx_ok h k l
theorem Bd.log {n : Nat} {x : Int} (h : Bd n x) (p : 0 < n) : x.natAbs.log2 < n := PySem.Flt.log2_lt_of p h
theorem Bd.cd {n : Nat} {x y : Int} (h : Bd n y) (p : 0 < y) (l : n ≤ 8999) : CDivW x y := wide_div p (h.mono (Nat.le_succ n)) (Nat.succ_pos n) (by omega)
/-- a divisor of few bits is divided by C itself -/
theorem divp_small {i j : Int} (p : 0 < j) (h : Bd 8000 j) : CDivP i j := by
  refine ⟨p, ?_⟩
  have hj : (j == 0) = false := by simpa using (show j ≠ 0 by omega)
  have hl := h.log (by decide)
  have h1 : (j.natAbs.log2) / 30 + 1 ≤ 300 := by omega
  show (decide ((if j == 0 then 0 else j.natAbs.log2 / 30 + 1) > 300) && _) = false
  rw [hj]
  simp only [Bool.false_eq_true, if_false]
  rw [decide_eq_false (by omega), Bool.false_and]

/-! the pot: two ints, turned by each draw -/
def PotAt (H : Hp) (p : Addr) : Prop := ∃ a b : Int, H p = some (.lst [.int a, .int b]) ∧ 0 ≤ a ∧ 0 ≤ b ∧ b ≤ 2147483629
/-- all but p is kept -/
structure Mov (p : Addr) (H H' : Hp) : Prop where
  keep : ∀ b o, b ≠ p → H b = some o → H' b = some o
  pot : PotAt H' p
theorem Mov.trans {p : Addr} {H H1 H2 : Hp} (a : Mov p H H1) (b : Mov p H1 H2) : Mov p H H2 := ⟨fun c o n e => b.keep c o n (a.keep c o n e), b.pot⟩
theorem Mov.same {p : Addr} {H H1 H2 : Hp} (a : Mov p H H1) (b : Same H1 H2) : Mov p H H2 :=
  ⟨fun c o n e => b _ _ (a.keep c o n e), let ⟨x, y, e, r⟩ := a.pot; ⟨x, y, b _ _ e, r⟩⟩
theorem Same.mov {p : Addr} {H H1 : Hp} (a : Same H H1) (q : PotAt H p) : Mov p H H1 :=
  ⟨fun c o _ e => a _ _ e, let ⟨x, y, e, r⟩ := q; ⟨x, y, a _ _ e, r⟩⟩
theorem Mov.refl {p : Addr} {H : Hp} (q : PotAt H p) : Mov p H H := ⟨fun _ _ _ e => e, q⟩
theorem Mov.tup {p b : Addr} {H H1 : Hp} {xs : List V} (a : Mov p H H1) (q : PotAt H p) (e : H b = some (.tup xs)) : H1 b = some (.tup xs) :=
  a.keep _ _ (let ⟨_, _, e', _⟩ := q; ne_of e e' (fun z => nomatch z)) e
theorem Mov.ins {p b C dx : Addr} {H H1 : Hp} {fs : List (Str × V)} (a : Mov p H H1) (q : PotAt H p) (e : H b = some (.ins C dx fs)) : H1 b = some (.ins C dx fs) :=
  a.keep _ _ (let ⟨_, _, e', _⟩ := q; ne_of e e' (fun z => nomatch z)) e
theorem Mov.free {p b : Addr} {H H1 : Hp} (a : Mov p H H1) (q : PotAt H p) (e : H1 b = none) : H b = none := by
  cases z : H b with
  | none => rfl
  | some o =>
    by_cases hb : b = p
    · subst hb
      obtain ⟨_, _, e', _⟩ := a.pot
      rw [e] at e'
      cases e'
    · rw [a.keep b o hb z] at e
      cases e
theorem Same.upd {H : Hp} {p : Addr} {o : HO} (h : H p = none) : Same H (upd H p o) := fun a u e => by
  rw [upd_ne (ne_of_none e h)]
  exact e
theorem SqL.mov {K : PySem.W.Frag} {p a : Addr} {H H1 : Hp} {xs : List V} (m : Mov p H H1) (n : a ≠ p) (h : SqL K H a xs) : SqL K H1 a xs := by
  rcases h with (h | ⟨o, h⟩) | h
  · exact .inl (.inl (m.keep _ _ n h))
  · exact .inl (.inr ⟨o, m.keep _ _ n h⟩)
  · exact .inr h
theorem SqT.same {K : PySem.W.Frag} {a : Addr} {H H1 : Hp} {xs : List V} (m : Same H H1) (h : SqT K H a xs) : SqT K H1 a xs := by
  rcases h with (h | ⟨o, h⟩) | h
  · exact .inl (.inl (m _ _ h))
  · exact .inl (.inr ⟨o, m _ _ h⟩)
  · exact .inr h
/-- a written list's size -/
theorem sz {n : Nat} (h : Nat.ble n 1000 = true := by rfl) : n ≤ sizeLine :=
  Nat.le_trans (Nat.le_of_ble_eq_true h) (by decide)
theorem szlt {n : Nat} (k : n ≤ 10000) : n < sizeLine := Nat.lt_of_le_of_lt k (by decide)
theorem szle {n : Nat} (k : n ≤ 10000) : n ≤ sizeLine := Nat.le_of_lt (szlt k)
end Lb

set_option Elab.async false
set_option linter.all false
set_option maxRecDepth 100000
set_option maxHeartbeats 4000000
namespace Lb
open PySem PySem.Spec PyProof.Rows L2

/-- // by any divisor but 0, of few bits -/
def CDivX (_ j : Int) : Prop := j ≠ 0 ∧ j.natAbs.log2 < 9000
theorem op_fdivX {X : Cx} : OpR X (binaryOp .FloorDiv) (rI CDivX fun i j => .int (i.fdiv j)) :=
  opI fun i j _ _ _ _ _ hc q => floordiv_int hc.1 q (.inl (PyProof.noPylong_of_log2 hc.2))
theorem Bd.cx {n : Nat} {x y : Int} (h : Bd n y) (p : y ≠ 0) (l : n ≤ 8999) : CDivX x y :=
  ⟨p, Nat.lt_of_lt_of_le ((h.mono (Nat.le_succ n)).log (Nat.succ_pos n)) (by omega)⟩

/-! two lists, item by item -/
theorem Paired.imp {α β : Type} {F G : α → β → Prop} : ∀ {xs : List α} {ys : List β}, Paired F xs ys → (∀ a b, F a b → G a b) → Paired G xs ys
  | _, _, .nil, _ => .nil
  | _, _, .cons r t, f => .cons (f _ _ r) (Paired.imp t f)
theorem Paired.snoc {α β : Type} {F : α → β → Prop} {a : α} {b : β} (h : F a b) : ∀ {xs : List α} {ys : List β}, Paired F xs ys → Paired F (xs ++ [a]) (ys ++ [b])
  | _, _, .nil => .cons h .nil
  | _, _, .cons r t => .cons r (Paired.snoc h t)
theorem Paired.at_ {α β : Type} {F : α → β → Prop} : ∀ {xs : List α} {ys : List β} {i : Nat} {a : α}, Paired F xs ys → xs[i]? = some a → ∃ b, ys[i]? = some b ∧ F a b
  | _, _, i, _, .nil, e => by simp at e
  | _, _, 0, a, .cons r t, e => by simp at e; subst e; exact ⟨_, rfl, r⟩
  | _, _, i + 1, a, .cons r t, e => by
    obtain ⟨b, h1, h2⟩ := Paired.at_ (i := i) (a := a) t (by simpa using e)
    exact ⟨b, by simpa using h1, h2⟩
theorem Paired.at_r {α β : Type} {F : α → β → Prop} : ∀ {xs : List α} {ys : List β} {i : Nat} {b : β}, Paired F xs ys → ys[i]? = some b → ∃ a, xs[i]? = some a ∧ F a b
  | _, _, i, _, .nil, e => by simp at e
  | _, _, 0, a, .cons r t, e => by simp at e; subst e; exact ⟨_, rfl, r⟩
  | _, _, i + 1, a, .cons r t, e => by
    obtain ⟨b, h1, h2⟩ := Paired.at_r (i := i) (b := a) t (by simpa using e)
    exact ⟨b, by simpa using h1, h2⟩
theorem Paired.len {α β : Type} {F : α → β → Prop} : ∀ {xs : List α} {ys : List β}, Paired F xs ys → xs.length = ys.length
  | _, _, .nil => rfl
  | _, _, .cons _ t => congrArg Nat.succ (Paired.len t)
/-- a tuple of two ints -/
def Fr (H : Hp) (q : Addr) (t b : Int) : Prop := H q = some (.tup [.int t, .int b])
abbrev Rows (H : Hp) (as : List Addr) (fr : List (Int × Int)) : Prop := Paired (fun a x => Fr H a x.1 x.2) as fr
theorem Rows.same {H H' : Hp} {as : List Addr} {fr : List (Int × Int)} (r : Rows H as fr) (s : Same H H') : Rows H' as fr := Paired.imp r fun _ _ h => s _ _ h
theorem Rows.mov {p : Addr} {H H' : Hp} {as : List Addr} {fr : List (Int × Int)} (r : Rows H as fr) (m : Mov p H H') (hp : PotAt H p) : Rows H' as fr := Paired.imp r fun _ _ h => m.tup hp h
/-- a test with a known answer -/
theorem iteP {c A B : Prop} [Decidable c] (hc : c) (h : A) : if c then A else B := by rw [if_pos hc]; exact h
theorem iteN {c A B : Prop} [Decidable c] (hc : ¬ c) (h : B) : if c then A else B := by rw [if_neg hc]; exact h
theorem al3 {H H2 : Hp} {p : Addr} {o : HO} (e : upd H p o = H2) (h : H p = none) : Same H H2 ∧ H2 p = some o := by
  subst e
  exact ⟨Lb.Same.upd h, upd_same⟩
theorem Rows.snoc {H : Hp} {as : List Addr} {fr : List (Int × Int)} {q : Addr} {t b : Int} (r : Rows H as fr) (f : H q = some (.tup [.int t, .int b])) : Rows H (as ++ [q]) (fr ++ [(t, b)]) := Paired.snoc (F := fun (a : Addr) (x : Int × Int) => Fr H a x.1 x.2) (b := (t, b)) f r
theorem Rows.nil {H : Hp} : Rows H [] [] := Paired.nil
theorem Mov.ne {p l : Addr} {H H1 : Hp} (m : Mov p H H1) (h : H1 l = none) : l ≠ p := by
  obtain ⟨_, _, e, _⟩ := m.pot
  exact (ne_of_none e h).symm
/-- a list of another length is not the pot -/
theorem PotAt.ne {p l : Addr} {H : Hp} {xs : List V} (m : PotAt H p) (h : H l = some (.lst xs)) (n : xs.length ≠ 2) : l ≠ p := by
  rintro rfl
  obtain ⟨_, _, e, _⟩ := m
  rw [h] at e
  injection e with e
  injection e with e
  rw [e] at n
  exact n rfl
/-- a new object is changed -/
theorem Same.updl {H H2 : Hp} {l : Addr} {o : HO} (s : L2.Same H H2) (hl : H l = none) : L2.Same H (L2.upd H2 l o) := fun b u e => by
  rw [upd_ne (ne_of_none e hl)]
  exact s _ _ e
/-- what isinstance and the comparisons ask of the class at C -/
structure Inst (K : PySem.W.Frag) (C : Addr) : Prop where
  ca : PySem.W.findIn K (.ref C) "__class__" = some (some (.builtin "object.__class__"))
  cn : PySem.W.specialIn K (.builtin "object.__class__") "__get__" = some (some (.builtin "getset_descriptor.__get__"))
  ct : PySem.W.takesIn K (.builtin "object.__class__") = some true
  cm : PySem.W.mroIn K C (.type "object") = some true
  kNone : PySem.W.kitOne K (.type "NoneType") (.ref C) = some false
  kBool : PySem.W.kitOne K (.type "bool") (.ref C) = some false
  kInt : PySem.W.kitOne K (.type "int") (.ref C) = some false
  kStr : PySem.W.kitOne K (.type "str") (.ref C) = some false
  kList : PySem.W.kitOne K (.type "list") (.ref C) = some false
  kTup : PySem.W.kitOne K (.type "tuple") (.ref C) = some false
  kDict : PySem.W.kitOne K (.type "dict") (.ref C) = some false
  nNone : PySem.W.notFirst K C (.type "NoneType") = true
  nBool : PySem.W.notFirst K C (.type "bool") = true
  nInt : PySem.W.notFirst K C (.type "int") = true
  nStr : PySem.W.notFirst K C (.type "str") = true
  nList : PySem.W.notFirst K C (.type "list") = true
  nTup : PySem.W.notFirst K C (.type "tuple") = true
  nDict : PySem.W.notFirst K C (.type "dict") = true
theorem Inst.kSelf {K : PySem.W.Frag} {C : Addr} : PySem.W.kitOne K (.ref C) (.ref C) = some true := by
  unfold PySem.W.kitOne
  rw [if_pos (beq_self_eq_true _)]
theorem Inst.nSelf {K : PySem.W.Frag} {C : Addr} : PySem.W.notFirst K C (.ref C) = true := by
  unfold PySem.W.notFirst
  rw [beq_self_eq_true, Bool.true_or]
theorem Inst.ty {K : PySem.W.Frag} {C x dx : Addr} {H : Hp} {fs : List (Str × V)} (I : Inst K C) (cl : Cls K C) (e : H x = some (.ins C dx fs)) : TyOf K H (.ref x) (.ref C) := .ins e cl I.ca I.cn I.ct I.cm
theorem kit_own {K : PySem.W.Frag} {C : Addr} {T : String} (h1 : PySem.W.isClsIn K C = true) (h2 : PySem.W.typeIn K (.ref C) = some (.type "type")) (h3 : PySem.W.subIn K (.type T) (.ref C) = some false) :
    PySem.W.kitOne K (.type T) (.ref C) = some false ∧ PySem.W.notFirst K C (.type T) = true := by
  have ne : (Value.type T == Value.ref C) = false := Bool.eq_false_iff.mpr fun q => nomatch beq_iff_eq.mp q
  constructor
  · unfold PySem.W.kitOne
    rw [ne, if_neg (by decide)]
    unfold PySem.W.kitCls
    have h1' : (PySem.W.clsIn K C).isSome = true := h1
    dsimp only
    rw [h1', h2]
    rw [if_pos (by simp)]
    exact h3
  · unfold PySem.W.notFirst
    rw [h3]
    simp
/-- a def of the class by its special name -/
structure OwnM (K : PySem.W.Frag) (C : Addr) (x : Str) (f : Addr) : Prop where
  at_ : PySem.W.findIn K (.ref C) x = some (some (.ref f))
  fn : PySem.W.isFn K (.ref f) = true
/-- a value that is plainly no instance of the class at C: how isinstance and the comparisons see it -/
def NotC (K : PySem.W.Frag) (C : Addr) (H : Hp) (y : V) : Prop := ∃ t, TyOf K H y t ∧ PySem.W.kitOne K t (.ref C) = some false ∧ PySem.W.notFirst K C t = true
end Lb

set_option Elab.async false
set_option linter.all false
set_option maxRecDepth 100000
set_option maxHeartbeats 4000000
namespace Lb
open PySem PySem.Spec PyProof.Rows L2

/-! lists of bools, shown -/
theorem dp_bools {K : PySem.W.Frag} {H : Hp} : ∀ bs : List Bool, DpAll K H (bs.map V.bl) (bs.map PyData.bool)
  | [] => .nil
  | b :: r => .cons (.bl b) (dp_bools r)
theorem show_bools : ∀ bs : List Bool, PyData.showableAll (bs.map PyData.bool) = true
  | [] => by simp only [List.map_nil, PyData.showableAll]
  | b :: r => by simp only [List.map_cons, PyData.showableAll, PyData.showable, show_bools r, Bool.and_self]
theorem depth_bools : ∀ bs : List Bool, PyData.depthAll (bs.map PyData.bool) ≤ 1
  | [] => by simp only [List.map_nil, PyData.depthAll]; omega
  | b :: r => by
    have := depth_bools r
    simp only [List.map_cons, PyData.depthAll, PyData.depth]
    omega
theorem len_bools : ∀ bs : List Bool, ((PyData.shownAll (bs.map PyData.bool)).map (·.length)).sum ≤ 5 * bs.length ∧ (PyData.shownAll (bs.map PyData.bool)).length = bs.length
  | [] => by simp only [List.map_nil, PyData.shownAll]; exact ⟨Nat.le_refl _, rfl⟩
  | b :: r => by
    obtain ⟨h1, h2⟩ := len_bools r
    simp only [List.map_cons, PyData.shownAll, List.sum_cons, List.length_cons, h2]
    refine ⟨?_, trivial⟩
    have : (PyData.shown (.bool b)).length ≤ 5 := by
      simp only [PyData.shown]
      cases b <;> decide +kernel
    omega
theorem bools_ok (bs : List Bool) (n : bs.length ≤ 1000) : (PyData.list (bs.map PyData.bool)).showable = true ∧ (PyData.list (bs.map PyData.bool)).shown.length ≤ sizeLine ∧ (PyData.list (bs.map PyData.bool)).depth ≤ 60 := by
  refine ⟨?_, ?_, ?_⟩
  · simp only [PyData.showable, show_bools]
  · have e := listText_len_le (PyData.shownAll (bs.map PyData.bool))
    obtain ⟨h1, h2⟩ := len_bools bs
    simp only [PyData.shown]
    have : sizeLine = 16777216 := by decide
    omega
  · have := depth_bools bs
    simp only [PyData.depth]
    omega
theorem TyOf.same {K : PySem.W.Frag} {H H' : Hp} {y : V} {t : Value} (s : L2.Same H H') (h : TyOf K H y t) : TyOf K H' y t := by
  cases h with
  | non => exact .non
  | bl x => exact .bl x
  | int i => exact .int i
  | str x => exact .str x
  | flt x => exact .flt x
  | lst e => exact .lst (s _ _ e)
  | frz e => exact .frz (s _ _ e)
  | tup e => exact .tup (s _ _ e)
  | dK e => exact .dK (s _ _ e)
  | dT e => exact .dT (s _ _ e)
  | ins e cl a b c d => exact .ins (s _ _ e) cl a b c d
theorem NotC.same {K : PySem.W.Frag} {C : Addr} {H H' : Hp} {y : V} (s : L2.Same H H') (h : NotC K C H y) : NotC K C H' y := by
  obtain ⟨t, a, b, c⟩ := h
  exact ⟨t, TyOf.same s a, b, c⟩
theorem map_replicate_bl (n : Nat) (b : Bool) : (List.replicate n b).map V.bl = List.replicate n (V.bl b) := by simp
theorem all_replicate_true (n : Nat) : (List.replicate n true).all id = true := by simp
end Lb

set_option Elab.async false
set_option linter.all false
set_option maxRecDepth 100000
set_option maxHeartbeats 4000000
namespace Lb
open PySem PySem.Spec PyProof.Rows L2

/-- for i, x in enumerate(xs) -/
theorem for_enum {K : PySem.W.Frag} {a : Addr} {xs : List V} {g : TG} {tb : TS} {D : Ends} {σ : L2.St} {H : Hp} (Pv : Nat → L2.St → Hp → Prop) (h0 : Pv 0 σ H) (hq : ∀ i σ H, Pv i σ H → SqL K H a xs)
    (hs : ∀ (i : Nat) (x : V) (T : Addr) (σ : L2.St) (H : Hp), xs[i]? = some x → Pv i σ H → H T = none → g (.ref T) σ (L2.upd H T (.tup [.int (i : Nat), x])) fun σ2 H2 => tb { D with nx := Pv (i + 1), ct := Pv (i + 1), bk := D.nx } σ2 H2)
    (hd : ∀ σ H, Pv xs.length σ H → D.nx σ H) :
    ∃ W : Nat → Nat → L2.St → Hp → Prop, (∃ m, W 0 m σ H) ∧ ∀ i m σ H, W i m σ H →
      ((Ite K a).stop i H ∧ D.nx σ H) ∨ ((Ite K a).go i H ∧ ∃ N : L2.St → Hp → Prop, (∀ σ' H', N σ' H' → ∃ m', m' < m ∧ W (i + 1) m' σ' H') ∧
        ∀ v H', (Ite K a).yld i H v H' → g v σ H' fun σ2 H2 => tb { D with nx := N, ct := N, bk := D.nx } σ2 H2) := by
  refine ⟨fun i m σ H => m = xs.length - i ∧ i ≤ xs.length ∧ Pv i σ H, ⟨xs.length, rfl, Nat.zero_le _, h0⟩, ?_⟩
  rintro i m σ H ⟨rfl, hi, p⟩
  have q := hq i σ H p
  rcases Nat.lt_or_ge i xs.length with h | h
  · have hx : xs[i]? = some xs[i] := List.getElem?_eq_getElem h
    refine .inr ⟨⟨xs, _, q, hx⟩, Pv (i + 1), fun σ' H' p' => ⟨xs.length - (i + 1), by omega, rfl, h, p'⟩, ?_⟩
    rintro v H' ⟨T, x, rfl, hT, rfl, f⟩
    exact hs i x T σ H (f xs q) p hT
  · have e : i = xs.length := by omega
    subst e
    exact .inl ⟨⟨xs, q, Nat.le_refl _⟩, hd σ H p⟩

/-! a list that is being made at D, above the heap H0 -/
structure Blt {α : Type} (R : Hp → Addr → α → Prop) (H0 : Hp) (D : Addr) (done : List α) (H : Hp) : Prop where
  same : L2.Same H0 H
  ex : ∃ bs : List Addr, H D = some (.lst (bs.map V.ref)) ∧ Paired (R H) bs done
theorem Blt.start {α : Type} {R : Hp → Addr → α → Prop} {H0 : Hp} {D : Addr} (h : H0 D = none) : Blt R H0 D [] (L2.upd H0 D (.lst [])) :=
  ⟨Lb.Same.upd h, [], upd_same, .nil⟩
/-- one more item, made on the way from H to H2 -/
theorem Blt.step {α : Type} {R : Hp → Addr → α → Prop} {H0 H H2 : Hp} {D r : Addr} {done : List α} {x : α} (b : Blt R H0 D done H) (hD : H0 D = none) (s : L2.Same H H2)
    (keep : ∀ H H' a x, R H a x → (∀ o, H a = some o → H' a = some o) → R H' a x) (nl : ∀ H a x l, R H a x → H a = some (.lst l) → False) (hr : R H2 r x) :
    ∃ acc, H2 D = some (.lst acc) ∧ acc.length = done.length ∧ Blt R H0 D (done ++ [x]) (L2.upd H2 D (.lst (acc ++ [V.ref r]))) := by
  obtain ⟨s0, bs, e, p⟩ := b
  have e2 := s _ _ e
  have ch : ∀ a y, R H2 a y → R (L2.upd H2 D (.lst (bs.map V.ref ++ [V.ref r]))) a y := by
    intro a y h
    refine keep _ _ a y h fun o ho => ?_
    have na : a ≠ D := by
      rintro rfl
      exact nl _ _ _ _ h e2
    rw [upd_ne na]
    exact ho
  refine ⟨_, e2, by rw [List.length_map, Paired.len p], Same.updl (s0.trans s) hD, bs ++ [r], by rw [upd_same, List.map_append]; rfl, ?_⟩
  exact Paired.snoc (ch _ _ hr) (Paired.imp p fun a y h => ch _ _ (keep _ _ a y h fun o ho => s _ _ ho))

/-! an element of a list of ints -/
theorem inV_ints (z : Int) : ∀ ns : List Int, inV (.int z) (ns.map V.int) = decide (z ∈ ns)
  | [] => by simp [inV]
  | n :: r => by
    have ih := inV_ints z r
    unfold inV at ih ⊢
    rw [List.map_cons, List.any_cons, ih]
    have : eqV (.int n) (.int z) = decide (z = n) := by
      by_cases h : z = n
      · subst h; simp [eqV]
      · have h' : ¬ n = z := fun e => h e.symm
        simp [eqV, h, h']
    rw [this]
    by_cases h : z = n <;> simp [h]
theorem flat_ints : ∀ ns : List Int, (ns.map V.int).all flatV = true
  | [] => rfl
  | n :: r => by rw [List.map_cons, List.all_cons, flat_ints r]; rfl
end Lb

set_option Elab.async false
set_option linter.all false
set_option maxRecDepth 100000
set_option maxHeartbeats 4000000
namespace Lb
open PySem PySem.Spec PyProof.Rows L2
open SlX (cmpback)

/-! own operators between an instance and an int, or two instances -/
/-- what the text holds of an operator of a class beside ints: its def at g, the turned one at r -/
structure OwnBin (K : PySem.W.Frag) (C : Addr) (op : Operator) (g r : Addr) : Prop where
  first : PySem.W.selfFirst K C = true
  at_ : PySem.W.findIn K (.ref C) (PySem.dunder op.info.2) = some (some (.ref g))
  fn : PySem.W.isFn K (.ref g) = true
  rat : PySem.W.findIn K (.ref C) (dunderR op.info.2) = some (some (.ref r))
  rfn : PySem.W.isFn K (.ref r) = true
  i1 : ∃ fo, PySem.W.findIn K (.type "int") (PySem.dunder op.info.2) = some fo
  i2 : ∃ ro, PySem.W.findIn K (.type "int") (dunderR op.info.2) = some ro
  ss1 : PySem.W.subIn K (.type "int") (.ref C) = some false
  ss2 : PySem.W.subIn K (.ref C) (.type "int") = some false
  tyC : ∀ T, Value.type T ≠ .ref C := by intro T z; cases z

section
variable {X : Cx} {pins : List (Addr × Obj)} {σ : L2.St} {H : Hp} {s : Shared} {a C dx p g r : Addr} {f : Str} {n : Nat} {sp : Sp} {E : XK} {v : V} {u : Value} {op : Operator}

/-- a def that raises nothing, run in an expression -/
theorem run_at0 {A : Around} {Q : VK} {us : List Value} {ws : List V} (F : FnR X.prog X.w X.K X.mg X.base CX0 n g sp) (hr : Room n A) (e0 : Env0 X.prog X.w X.K X.mg X.base A X.stack s H) (I : Inv X pins σ H s) (r : Vals ws us) (h : sp ws H Q E) :
    codeAny (model X.prog X.w) A (.call (.ref g) ⟨us, []⟩) (fun r s' => match r with | .ok (.ret v) => EP X pins σ Q v s' | _ => False) s := by
  refine codeAny_mono (F A X.stack s H us ws Q E hr e0 r h) fun r s' hq => ?_
  cases r with
  | error e => exact False.elim hq
  | ok fl =>
    cases fl with
    | ret u => exact I.after hq
    | next => exact False.elim hq
    | brk => exact False.elim hq
    | cont => exact False.elim hq
theorem call_at0 {A : Around} {Ex : Value → Shared → Prop} {Q : VK} {us : List Value} {ws : List V} (F : FnR X.prog X.w X.K X.mg X.base CX0 n g sp) (hr : Room n A) (e0 : Env0 X.prog X.w X.K X.mg X.base A X.stack s H) (I : Inv X pins σ H s) (r : Vals ws us) (h : sp ws H Q E) :
    wpAny (model X.prog X.w) A (call (.ref g) us) (EP X pins σ Q) Ex s := by
  refine wpAny_call (codeAny_mono (run_at0 F hr e0 I r h) fun r s' hq => ?_)
  cases r with
  | error e => exact False.elim hq
  | ok fl => cases fl <;> first | exact hq | exact False.elim hq
/-- an operator, wherever it is run -/
def OpRA (X : Cx) (A : Around) (f : Value → Value → Sem Value) (r : R2) : Prop :=
  ∀ (pins : List (Addr × Obj)) (s : Shared) (σ : L2.St) (H : Hp) (x y : V) (v u : Value) (Q : VK) (Ex : Value → Shared → Prop), Inv X pins σ H s → Env0 X.prog X.w X.K X.mg X.base A X.stack s H → RelV x v → RelV y u → r x y H Q →
    wpAny (model X.prog X.w) A (f v u) (EP X pins σ Q) Ex s
theorem OpRA.here {f : Value → Value → Sem Value} {r : R2} (h : OpRA X X.A f r) : OpR X f r := fun pins s σ H x y v u Q I rx ry q => h pins s σ H x y v u Q _ I I.env0 rx ry q
theorem OpRA.or {A : Around} {f : Value → Value → Sem Value} {r r' : R2} (h : OpRA X A f r) (h' : OpRA X A f r') : OpRA X A f (fun x y H Q => r x y H Q ∨ r' x y H Q) := fun pins s σ H x y v u Q Ex I e0 rx ry q =>
  q.elim (h pins s σ H x y v u Q Ex I e0 rx ry) (h' pins s σ H x y v u Q Ex I e0 rx ry)
/-- x OP y, x an instance, y an int or an instance of its class -/
def rBin (C : Addr) (sp : Sp) (E : XK) : R2 := fun x y H Q =>
  ∃ a dx fs, x = .ref a ∧ H a = some (.ins C dx fs) ∧ ((∃ m, y = .int m) ∨ ∃ b dy fy, y = .ref b ∧ H b = some (.ins C dy fy)) ∧ sp [x, y] H Q E
theorem ownBin_at {K : PySem.W.Frag} {A : Around} (hK : X.K = K) (B : OwnBin K C op g r) (F : FnR X.prog X.w X.K X.mg X.base CX0 n g sp) (hr : Room n A) : OpRA X A (binaryOp op) (rBin C sp E) := by
  subst hK
  intro pins s σ H x y v u Q Ex I e0 rx ry h
  obtain ⟨a, dx, fs, rfl, ha, hy, q⟩ := h
  cases (show v = Value.ref a from rx)
  obtain ⟨od, J⟩ := inst_at I ha
  obtain ⟨m, hF⟩ := I.fr
  have one : wpAny (model X.prog X.w) A (call (.ref g) [.ref a, u]) (PySem.W.CmpBack (EP X pins σ Q)) Ex s := by
    refine wpAny_mono (call_at0 (us := [.ref a, u]) (ws := [.ref a, y]) F hr e0 I (.cons rfl (.cons ry .nil)) q) (fun w s' z => ?_) fun _ _ x => x
    obtain ⟨z', H', I', rz, qz⟩ := z
    exact cmpback rz ⟨z', H', I', rz, qz⟩
  rcases hy with ⟨k, rfl⟩ | ⟨b, dy, fy, rfl, hb⟩
  · obtain ⟨t, rfl⟩ := ry
    obtain ⟨fo, h1⟩ := B.i1
    obtain ⟨ro, h2⟩ := B.i2
    exact PySem.W.ksp_binT (T := "int") hF I.ok.mod.kin J rfl B.first B.at_ B.fn B.rat (.inr ⟨_, rfl⟩) h1 h2 B.ss1 one
  · cases (show u = Value.ref b from ry)
    obtain ⟨od', J'⟩ := inst_at I hb
    exact PySem.W.binop_K hF I.ok.mod.kin J J'.type B.first B.at_ B.fn one
/-- n OP y, y an instance: its turned def, where the int's own says nothing -/
def rBinR (C : Addr) (sp : Sp) (E : XK) : R2 := fun x y H Q =>
  ∃ m b dy fy, x = .int m ∧ y = .ref b ∧ H b = some (.ins C dy fy) ∧ sp [y, x] H Q E
/-- what the library says of an int's own operator -/
structure IntBin (op : Operator) (id : String) (nm : String) (f : Int → Int → Sem Fin) : Prop where
  fills : fillsNumberSlot (.type "int") op.info.2 = pure true
  slot : Slot "int" (PySem.dunder op.info.2) id
  entry : entryFor table id = some (Builtin.Int.intBinary nm f)
  args : ∀ x y, argsOk id ⟨[x, y], []⟩
theorem int_no {M : Model} {A : Around} {Ex : Value → Shared → Prop} {Q : Fin → Shared → Prop} {k : Int} {t : Tok} {b : Addr} {nm : String} {fI : Int → Int → Sem Fin} (J : s.heap.get? b = some (PySem.W.instObj C dx))
    (h : Q (.done (.ret .notImplemented)) s) : wpAny M A (Builtin.Int.intBinary nm fI false ⟨[.int k t, .ref b], []⟩) Q Ex s := by
  unfold Builtin.Int.intBinary
  refine wpAny_bind (m := slotArgs _ _ _) (wpAny_pure ?_)
  refine wpAny_bind (m := Builtin.Int.intOfSelf _) (wpAny_pure ?_)
  refine wpAny_bind (m := asInt? _) (wpAny_bind (wpAny_load J (wpAny_pure ?_)))
  exact wpAny_bind (wpAny_rule (wpAny_pure h))
theorem int_add : IntBin .Add "int.__add__" "__add__" (fun x y => retInt (x + y)) := ⟨F.fills_int_add, F.slot_int_add, F.entry_int_add, F.args_int_add_2⟩
theorem int_sub : IntBin .Sub "int.__sub__" "__sub__" (fun x y => retInt (x - y)) := ⟨F.fills_int_sub, F.slot_int_sub, F.entry_int_sub, F.args_int_sub_2⟩
theorem int_mul : IntBin .Mult "int.__mul__" "__mul__" (fun x y => Builtin.intProduct "__mul__" x y) := ⟨F.fills_int_mul, F.slot_int_mul, F.entry_int_mul, F.args_int_mul_2⟩
theorem ownBinR_at {K : PySem.W.Frag} {A : Around} {id nm : String} {fI : Int → Int → Sem Fin} (hK : X.K = K) (L : IntBin op id nm fI) (B : OwnBin K C op g r) (F : FnR X.prog X.w X.K X.mg X.base CX0 n r sp) (hr : Room n A) : OpRA X A (binaryOp op) (rBinR C sp E) := by
  subst hK
  intro pins s σ H x y v u Q Ex I e0 rx ry h
  obtain ⟨k, b, dy, fy, rfl, rfl, hb, q⟩ := h
  obtain ⟨t, rfl⟩ := rx
  cases (show u = Value.ref b from ry)
  obtain ⟨od, J⟩ := inst_at I hb
  have KX := I.kIn
  obtain ⟨cd, rest, hcd, hm⟩ := PySem.W.ksp_first B.first
  have L4 : PySem.W.Looks (model X.prog X.w) s.heap (fillsNumberSlot (.ref C) op.info.2) true := PySem.W.fills_K KX hcd hm B.at_
  have L5 : PySem.W.Looks (model X.prog X.w) s.heap (isSubtype (.ref C) (.type "int")) false := PySem.W.looks_subIn KX B.ss2
  have two : wpAny (model X.prog X.w) A (call (.ref r) [.ref b, .int k t]) (PySem.W.CmpBack (EP X pins σ Q)) Ex s := by
    refine wpAny_mono (call_at0 (us := [.ref b, .int k t]) (ws := [.ref b, .int k]) F hr e0 I (.cons rfl (.cons ⟨t, rfl⟩ .nil)) q) (fun w s' z => ?_) fun _ _ x => x
    obtain ⟨z', H', I', rz, qz⟩ := z
    exact cmpback rz ⟨z', H', I', rz, qz⟩
  have rt := B.rat
  have fl := L.fills
  have sl := L.slot
  rcases hi : op.info with ⟨sym, nm'⟩
  rw [hi] at L4 rt fl sl
  dsimp only at L4 rt fl sl
  have hne : (Value.type "int" == Value.ref C) = false := Bool.eq_false_iff.mpr fun q => by cases beq_iff_eq.mp q
  simp only [binaryOp, hi]
  refine wpAny_holding (wpAny_bind ?_)
  unfold binaryOp1
  refine wpAny_bind (wpAny_of_eq (show typeOf (.int k t) = pure (.type "int") from rfl) (wpAny_bind (J.type.here (wpAny_bind (wpAny_of_eq fl ?_)))))
  simp only [hne, Bool.false_eq_true, if_false]
  refine wpAny_bind (L4.here ?_)
  simp only [Bool.and_self, if_true]
  refine wpAny_bind (L5.here ?_)
  have hpy : numberSlotInPython (.type "int") nm' = pure false := rfl
  simp only [Bool.false_eq_true, if_false, pure_bind, Bool.not_false, Bool.and_self, if_true, hpy]
  simp only [tryMethod]
  refine wpAny_bind (wpAny_bind (wpAny_callSpecial?_slot (typeIs_int _ _ _) sl (wpAny_call_entry sl (typeIs_int _ _ _) L.entry ?_ (L.args _ _))))
  refine int_no J.at_ ⟨_, rfl, ?_⟩
  refine wpAny_pure ?_
  refine wpAny_bind (wpAny_bind (PySem.W.special_fn KX J rt (beq_iff_eq.mp B.rfn) (wpAny_mono two (fun v s' hv => ?_) fun _ _ e => e)))
  cases v <;> first | exact hv.elim | exact wpAny_pure (wpAny_bind (wpAny_rule (wpAny_pure (wpAny_pure hv))))
theorem op_ownBin {K : PySem.W.Frag} (hK : X.K = K) (B : OwnBin K C op g r) (F : FnR X.prog X.w X.K X.mg X.base CX0 n g sp) (hr : Room n X.A) : OpR X (binaryOp op) (rBin C sp E) := (ownBin_at hK B F hr).here
theorem op_ownBinR {K : PySem.W.Frag} {id nm : String} {fI : Int → Int → Sem Fin} (hK : X.K = K) (L : IntBin op id nm fI) (B : OwnBin K C op g r) (F : FnR X.prog X.w X.K X.mg X.base CX0 n r sp) (hr : Room n X.A) : OpR X (binaryOp op) (rBinR C sp E) := (ownBinR_at hK L B F hr).here
/-! -x, abs(x), bool(x) of an instance -/
def rUnOwn (C : Addr) (sp : Sp) (E : XK) : V → Hp → VK → Prop := fun x H Q => ∃ a dx fs, x = .ref a ∧ H a = some (.ins C dx fs) ∧ sp [x] H Q E
theorem un_ownNeg {K : PySem.W.Frag} (hK : X.K = K) (hs : PySem.W.findIn K (.ref C) "__neg__" = some (some (.ref g))) (hf : PySem.W.isFn K (.ref g) = true) (F : FnR X.prog X.w X.K X.mg X.base CX0 n g sp) (hr : Room n X.A) :
    UnR X (unaryOp .USub) (rUnOwn C sp E) := by
  subst hK
  intro pins s σ H x v Q I rx h
  obtain ⟨a, dx, fs, rfl, ha, q⟩ := h
  cases (show v = Value.ref a from rx)
  obtain ⟨od, J⟩ := inst_at I ha
  obtain ⟨m, hF⟩ := I.fr
  exact PySem.W.ksp_neg hF I.ok.mod.kin J hs hf (call_at0 (us := [.ref a]) (ws := [.ref a]) F hr I.env0 I (.cons rfl .nil) q)
def rCallOwn (C : Addr) (sp : Sp) (E : XK) : List V → Hp → VK → Prop := fun xs H Q => ∃ a dx fs, xs = [.ref a] ∧ H a = some (.ins C dx fs) ∧ sp xs H Q E
theorem call_absOwn (hs : PySem.W.findIn X.K (.ref C) "__abs__" = some (some (.ref g))) (hf : PySem.W.isFn X.K (.ref g) = true) (F : FnR X.prog X.w X.K X.mg X.base CX0 n g sp) (hr : Room (n + 1) X.A) :
    CallR X (.builtin "abs") (rCallOwn C sp E) := by
  intro pins s σ H xs us Q I r h
  obtain ⟨a, dx, fs, rfl, ha, q⟩ := h
  obtain ⟨u, rfl, ru⟩ := vals1 r
  cases (show u = Value.ref a from ru)
  obtain ⟨od, J⟩ := inst_at I ha
  refine Calls.call_function_entry kind_abs plain_abs entry_abs (args_abs _) ?_
  unfold Builtin.«abs»
  refine wpAny_bind (m := oneArg "abs" _) (wpAny_pure ?_)
  refine wpAny_bind (PySem.W.special_fn I.kIn J hs (beq_iff_eq.mp hf) ?_)
  refine wpAny_mono (call_at0 (us := [.ref a]) (ws := [.ref a]) F hr.in1 I.env0.in1 I (.cons rfl .nil) q) (fun w s' z => ?_) fun _ _ x => x
  exact wpAny_pure ⟨_, rfl, z⟩
end
/-! sum of a list of instances -/
/-- how the sum goes: N i v H, the sum v of the first i -/
structure SumG (K : PySem.W.Frag) (add : R2) (l : Addr) (as : List Addr) (N : Nat → V → Hp → Prop) : Prop where
  zero : ∀ v H, N 0 v H → v = .int 0
  more : ∀ i v H, N (i + 1) v H → ∃ a, v = .ref a
  list : ∀ i v H, N i v H → SqL K H l (as.map V.ref)
  step : ∀ i v a H, as[i]? = some a → N i v H → add v (.ref a) H (N (i + 1))
theorem turn_fp {X : Cx} {pins : List (Addr × Obj)} {σ : L2.St} {H : Hp} {s : Shared} {it : Addr} {h' : Heap} {t' : Nat} (I : Inv X pins σ H s) (f : FpOk X pins H it) (k : ∀ b o, b ≠ it → s.heap.get? b = some o → h'.get? b = some o) : Inv X pins σ H { s with heap := h', toks := t' } := by
  obtain ⟨f0, f1, f2, f3, f4, f5⟩ := f
  exact I.turned k f0 f1 f3 f4 f5
section
variable {X : Cx} {pins : List (Addr × Obj)} {σ : L2.St} {add : R2} {l : Addr} {as : List Addr} {N : Nat → V → Hp → Prop} {Q : VK}
theorem sum_loop (hc : X.calm = true) (hadd : OpRA X X.A.in1 (binaryOp .Add) add) (G : SumG X.K add l as N) (hQ : ∀ v H, N as.length v H → Q v H) (it S : Addr) (hne : S ≠ it) :
    ∀ (k i : Nat) (s : Shared) (H : Hp) (v : V) (u : Value) (c : Nat) (st : Int), as.length - i = k → i ≤ as.length → Inv X pins σ H s → N i v H → RelV v u → ((st = 0 ∧ ∃ t, u = .int 0 t) ∨ (st = 2 ∧ ∃ a, u = .ref a)) →
      s.heap.IsListIter it l i → s.heap.get? S = some { cls := .type "list", dict := none, data := .seq #[u] c, slots := #[] } → FpOk X pins H it → FpOk X pins H S →
      codeAny (model X.prog X.w) X.A (.builtin "sum.loop" ⟨[.ref it, .ref S, rawInt st, rawInt 0], []⟩) (fun r s' => match r with | .ok (.ret v) => EP X pins σ Q v s' | _ => False) s := by
  intro k
  induction k with
  | zero =>
    intro i s H v u c st hk hi I n rv hu hit hS fi fS
    obtain ⟨its, rl, pl, hsz⟩ := I.list (G.list _ _ _ n)
    have hlen : its.length = as.length := by rw [← rl.length, List.length_map]
    have hin : i = as.length := by omega
    refine codeAny_builtin F.entry_sum_loop ?_
    rw [Around.under_plainId F.plain_sum_loop _]
    show wpAny _ X.A.in1 (seqItems? (.ref S) >>= _) _ _ s
    refine wpAny_bind (wpAny_seqItems hS rfl ?_)
    show wpAny _ X.A.in1 (tryCatch (pyNext (.ref it)) _ >>= _) _ _ s
    refine wpAny_bind (wpAny_tryCatch (wpAny_pyNext_list_end (I.ok.hd hc) hit pl.isList (by rw [List.getElem?_toArray, List.getElem?_eq_none (by omega)]) fun h' he => ?_))
    have I' := turn_fp (t' := s.toks) I fi he
    have q : Q v H := hQ _ _ (hin ▸ n)
    rcases hu with ⟨_, t, rfl⟩ | ⟨_, a, rfl⟩
    · exact wpAny_pure ⟨v, H, I', rv, q⟩
    · exact wpAny_pure ⟨v, H, I', rv, q⟩
  | succ k ih =>
    intro i s H v u c st hk hi I n rv hu hit hS fi fS
    obtain ⟨its, rl, pl, hsz⟩ := I.list (G.list _ _ _ n)
    have hlen : its.length = as.length := by rw [← rl.length, List.length_map]
    have hlt : i < as.length := by omega
    obtain ⟨u2, hu2, rx⟩ := rl.get (i := i) (x := .ref as[i]) (by rw [List.getElem?_map, List.getElem?_eq_getElem hlt]; rfl)
    cases (show u2 = Value.ref as[i] from rx)
    refine codeAny_builtin F.entry_sum_loop ?_
    rw [Around.under_plainId F.plain_sum_loop _]
    show wpAny _ X.A.in1 (seqItems? (.ref S) >>= _) _ _ s
    refine wpAny_bind (wpAny_seqItems hS rfl ?_)
    show wpAny _ X.A.in1 (tryCatch (pyNext (.ref it)) _ >>= _) _ _ s
    refine wpAny_bind (wpAny_tryCatch (wpAny_pyNext_list_item hit pl.isList (x := .ref as[i]) (by rw [List.getElem?_toArray]; exact hu2) fun h' hit' hs => ?_))
    have I' := turn_fp (t' := s.toks) I fi hs.extBut
    have hS' : h'.get? S = some { cls := .type "list", dict := none, data := .seq #[u] c, slots := #[] } := hs.extBut S _ hne hS
    -- both kept while the operator runs
    have fps : ∀ b ∈ [it, S], FpOk X pins H b := by
      intro b hb
      rcases List.mem_cons.mp hb with e | hb
      · exact e ▸ fi
      · exact (List.mem_singleton.mp hb) ▸ fS
    obtain ⟨oi, hoi, hci, hdi⟩ := id hit'
    have IP := I'.pinned (fp := [it, S]) fps (by
      intro b hb
      rcases List.mem_cons.mp hb with e | hb
      · exact ⟨oi, by rw [e]; exact hoi, fun v z => by rw [hdi] at z; cases z⟩
      · exact ⟨_, by rw [List.mem_singleton.mp hb]; exact hS', fun v z => by cases z⟩)
    have main : ∀ (Ex : Value → Shared → Prop), wpAny (model X.prog X.w) X.A.in1 (binaryOp .Add u (.ref as[i])) (fun r s' => ∃ a v' H', r = .ref a ∧ v' = .ref a ∧ Inv X pins σ H' s' ∧ N (i + 1) v' H' ∧ s'.heap.IsListIter it l (i + 1) ∧
        s'.heap.get? S = some { cls := .type "list", dict := none, data := .seq #[u] c, slots := #[] } ∧ FpOk X pins H' it ∧ FpOk X pins H' S) Ex { s with heap := h' } := fun Ex => by
      refine wpAny_mono (hadd _ _ σ H v (.ref as[i]) u (.ref as[i]) (N (i + 1)) Ex IP IP.env0.in1 rv rfl (G.step _ _ _ _ (List.getElem?_eq_getElem hlt) n)) (fun r s' z => ?_) fun _ _ e => e
      obtain ⟨v', H', I2, r2, n2⟩ := z
      obtain ⟨a, rfl⟩ := G.more _ _ _ n2
      have p1 := I2.pin (it, oi) (List.mem_append_right _ (List.mem_append_right _ (mem_pinsAt (by simp) hoi)))
      have p2 := I2.pin (S, _) (List.mem_append_right _ (List.mem_append_right _ (mem_pinsAt (by simp) hS')))
      exact ⟨a, _, H', r2, rfl, I2.unpinned, n2, ⟨oi, p1.1, hci, hdi⟩, p2.1, ⟨p1.2.1, fi.2⟩, ⟨p2.2.1, fS.2⟩⟩
    -- the sum is set
    have last : ∀ (s' : Shared) (H' : Hp) (a : Addr), Inv X pins σ H' s' → N (i + 1) (.ref a) H' → s'.heap.IsListIter it l (i + 1) → s'.heap.get? S = some { cls := .type "list", dict := none, data := .seq #[u] c, slots := #[] } → FpOk X pins H' it → FpOk X pins H' S →
        wpAny (model X.prog X.w) X.A.in1 (updateSeq S (fun _ => #[.ref a]) >>= fun _ => letGo [u, .ref as[i]] [] >>= fun _ => updateSeq S (fun _ => #[.ref a]) >>= fun _ => again (.builtin "sum.loop" ⟨[.ref it, .ref S, rawInt 2, rawInt 0], []⟩))
          (fun fin s' => match fin with | .done f => (match (Except.ok f : Result) with | .ok (.ret v) => EP X pins σ Q v s' | _ => False) | .again c' => c'.quiet = true ∧ codeAny (model X.prog X.w) X.A c' (fun r s' => match r with | .ok (.ret v) => EP X pins σ Q v s' | _ => False) s') (fun _ _ => False) s' := by
      intro s' H' a I2 n2 hit2 hS2 fi2 fS2
      refine wpAny_bind (wpAny_updateSeq hS2 rfl ?_)
      have hS3 := Heap.get?_update_self (Obj.mapSeq fun _ => #[Value.ref a]) hS2 rfl
      refine wpAny_bind (wpAny_letGo ?_)
      refine wpAny_bind (wpAny_updateSeq hS3 rfl ?_)
      have hS4 := Heap.get?_update_self (Obj.mapSeq fun _ => #[Value.ref a]) hS3 rfl
      have keep : ∀ b o, b ≠ S → s'.heap.get? b = some o → ((s'.heap.update S (Obj.mapSeq fun _ => #[Value.ref a])).update S (Obj.mapSeq fun _ => #[Value.ref a])).get? b = some o := fun b o nb e =>
        (Heap.get?_update_other _ _ (Ne.symm nb)).trans ((Heap.get?_update_other _ _ (Ne.symm nb)).trans e)
      have I3 := turn_fp (t' := s'.toks) I2 fS2 keep
      refine wpAny_pure ⟨plainId_quiet F.plain_sum_loop _, ih (i + 1) _ H' (.ref a) (.ref a) _ 2 (by omega) hlt I3 n2 rfl (.inr ⟨rfl, _, rfl⟩) ?_ hS4 fi2 fS2⟩
      obtain ⟨o, e, x, y⟩ := hit2
      exact ⟨o, keep _ _ (Ne.symm hne) e, x, y⟩
    rcases hu with ⟨rfl, t, rfl⟩ | ⟨rfl, a0, rfl⟩
    · refine wpAny_bind (wpAny_rule ?_)
      refine wpAny_bind (wpAny_attempt (wpAny_holding (wpAny_mono (main _) (fun r s' z => ?_) fun _ _ e => e)))
      obtain ⟨a, v', H', rfl, rfl, I2, n2, hit2, hS2, fi2, fS2⟩ := z
      exact last s' H' a I2 n2 hit2 hS2 fi2 fS2
    · refine wpAny_bind (wpAny_attempt (wpAny_holding (wpAny_mono (main _) (fun r s' z => ?_) fun _ _ e => e)))
      obtain ⟨a, v', H', rfl, rfl, I2, n2, hit2, hS2, fi2, fS2⟩ := z
      exact last s' H' a I2 n2 hit2 hS2 fi2 fS2
/-- sum(xs), xs a list of instances -/
def rSumOwn (K : PySem.W.Frag) (add : R2) : List V → Hp → VK → Prop := fun vs H Q => ∃ (l : Addr) (as : List Addr) (N : Nat → V → Hp → Prop), vs = [.ref l] ∧ SumG K add l as N ∧ N 0 (.int 0) H ∧ ∀ v H', N as.length v H' → Q v H'
theorem cr_sumOwn {K : PySem.W.Frag} (hK : X.K = K) (hc : X.calm = true) (hadd : OpRA X X.A.in1 (binaryOp .Add) add) : CallR X (.builtin "sum") (rSumOwn K add) := by
  subst hK
  intro pins s σ H xs us Q I r h
  obtain ⟨l, as, N, rfl, G, n0, q⟩ := h
  obtain ⟨u, rfl, ru⟩ := vals1 r
  cases (show u = Value.ref l from ru)
  obtain ⟨its, rl, pl, hsz⟩ := I.list (G.list _ _ _ n0)
  refine call_function_tree F.kind_sum F.plain_sum F.entry_sum (F.args_sum1 _) ?_
  unfold Builtin.«sum»
  simp only [List.length_cons, List.length_nil]
  rw [if_neg (by decide)]
  refine wpAny_bind (wpAny_of_eq (show Builtin.Builtins.bindParams "sum" ["start"] 0 { } = pure [none] from rfl) ?_)
  refine wpAny_bind (wpAny_pyIter_list pl.isList ?_)
  refine wpAny_bind (wpAny_mkInt ?_)
  refine wpAny_bind (wpAny_pure ?_)
  simp only [List.forIn_cons, List.forIn_nil]
  refine wpAny_bind (wpAny_bind (wpAny_bind (wpAny_isInstance (T := "int") (b := false) (typeIs_int _ _ _) PySem.sub_int_str ?_)))
  simp only [Bool.false_eq_true, if_false]
  refine wpAny_pure (wpAny_bind (wpAny_bind (wpAny_isInstance (T := "int") (b := false) (typeIs_int _ _ _) PySem.sub_int_bytes ?_)))
  simp only [Bool.false_eq_true, if_false]
  refine wpAny_pure (wpAny_bind (wpAny_bind (wpAny_isInstance (T := "int") (b := false) (typeIs_int _ _ _) PySem.sub_int_bytearray ?_)))
  simp only [Bool.false_eq_true, if_false]
  refine wpAny_pure (wpAny_pure ?_)
  refine wpAny_bind (wpAny_newObj_type ?_)
  have k1 : ∀ b o, s.heap.get? b = some o → ((s.heap.push ({ cls := .type "list_iterator", data := .fields #[.ref l, .int 0 0] } : Obj)).push ({ cls := .type "list", dict := none, data := .seq #[Value.int 0 s.toks] } : Obj)).get? b = some o := fun b o e => Heap.get?_push_of_some _ (Heap.get?_push_of_some _ e)
  have e1 : (s.heap.push ({ cls := .type "list_iterator", data := .fields #[.ref l, .int 0 0] } : Obj)).objs.size = s.heap.objs.size + 1 := Heap.size_push ..
  have I1 := I.kept (t' := s.toks + 1) k1
  have n1 : H (s.heap.push ({ cls := .type "list_iterator", data := .fields #[.ref l, .int 0 0] } : Obj)).objs.size = none := I.hok.fresh (by rw [e1]; exact Nat.le_succ _)
  have n2 : H s.heap.objs.size = none := I.hok.fresh (Nat.le_refl _)
  have f1 : FpOk X pins H s.heap.objs.size := I.fpOk (Nat.le_refl _) n2
  have f2 : FpOk X pins H (s.heap.push ({ cls := .type "list_iterator", data := .fields #[.ref l, .int 0 0] } : Obj)).objs.size := I.fpOk (by rw [e1]; exact Nat.le_succ _) n1
  refine wpAny_pure ⟨plainId_quiet F.plain_sum_loop _, codeAny_mono (sum_loop (N := N) (Q := Q) hc hadd G q s.heap.objs.size (s.heap.push ({ cls := .type "list_iterator", data := .fields #[.ref l, .int 0 0] } : Obj)).objs.size (by rw [e1]; exact Nat.succ_ne_self _) as.length 0 _ H (.int 0) (.int 0 s.toks) 0 0 (by omega) (Nat.zero_le _) I1 n0 ⟨_, rfl⟩ (.inl ⟨rfl, _, rfl⟩) ?_ ?_ f1 f2) ?_⟩
  · exact ⟨_, Heap.get?_push_of_some _ (Heap.get?_push_size _ rfl), rfl, rfl⟩
  · exact Heap.get?_push_size _ rfl
  · intro r s' z
    cases r with
    | error e => exact False.elim z
    | ok fl => cases fl <;> first | exact z | exact False.elim z
end
end Lb

set_option Elab.async false
set_option linter.all false
set_option maxRecDepth 100000
set_option maxHeartbeats 4000000
namespace Lb
open PySem PySem.Spec PyProof.Rows L2
section
variable {X : Cx} {CX : CXT} {k : Nat} {f C p g : Addr} {fd : FuncData} {ps ks : List Str} {sp : Sp} {E : XK} {x m : Str} {pos np apos : Pos} {o : Expr} {kws : List Keyword} {ta : TE} {tk : TA} {gf : List Value → List Value → List Value} {gV : List V → List V → List V}
theorem run_kbn {n : Nat} {pins : List (Addr × Obj)} {σ : L2.St} {H : Hp} {s : Shared} {Q : VK} {us ws : List Value} {vs zs : List V} (F : FnOk X.prog X.w X.K X.mg X.base CX k f fd ps sp) (hr : Room k X.A) (hb : KBn X.K fd ps n ks gf gV) (hx : Passes CX X E)
    (I : Inv X pins σ H s) (r : Vals vs us) (rz : Vals zs ws) (l1 : vs.length = n) (l2 : zs.length = ks.length) (h : sp (gV vs zs) H Q E) : wpAny (model X.prog X.w) X.A (call (.ref f) us (ks.zip ws)) (EP X pins σ Q) X.xe s := by
  refine wpAny_call (codeAny_mono (F.run X.A X.stack s H ⟨us, ks.zip ws⟩ (gf us ws) (gV vs zs) Q E hr I.env0 (hb.to s us ws I.kIn (r.length.symm.trans l1) (rz.length.symm.trans l2)) (hb.rel r rz) h) fun r s' hq => ?_)
  cases r with
  | error e => exact hx pins σ H s e s' I hq
  | ok fl =>
    cases fl with
    | ret u => exact I.after hq
    | next => exact False.elim hq
    | brk => exact False.elim hq
    | cont => exact False.elim hq
/-- f(k = v, ..) -/
def tCallK0 (m : Nat) (sp : Sp) (gV : List V → List V → List V) (E : XK) (tk : TA) : TE := fun σ H Q => tk σ H fun zs H2 => zs.length = m ∧ sp (gV [] zs) H2 Q E
theorem pe_callK0 (F : FnOk X.prog X.w X.K X.mg X.base CX k f fd ps sp) (hr : Room k X.A) (hg : Gl X x) (hm : X.mg x = some (.ref f)) (hk : PySem.W.keepIn X.K (.ref f) = true) (hb : KBn X.K fd ps 0 ks gf gV) (hx : Passes CX X E) (hkw : PK X kws tk)
    (hall : (backToKw pos (keywordEach kws X.env)).all (·.1.isSome) = true := by rfl) (hks : (backToKw pos (keywordEach kws X.env)).filterMap (·.1) = ks := by rfl) (hdb : (x == ("__debug__" : Str)) = false := by decide)
    (hpl : ((backTo pos (starEach [] X.env)).any (·.1) || (backToKw pos (keywordEach kws X.env)).any (·.1.isNone)) = false := by rfl) :
    PE X (.Call (.Name x np) [] kws pos) (tCallK0 ks.length sp gV E tk) := by
  refine ⟨fun pins s σ H Q I h => ?_⟩
  refine wpAny_Call_Name_kw (ld_glob I hg hm ?_ hdb)
  refine PySem.W.callWith_KW0 (h₀ := X.base) I.ok.mod.kin hk hall ?_ hpl
  refine thn (hkw.run pos pins s σ H _ I h) fun ws s2 ⟨zs, H2, I2, rz, l2, q2⟩ => ⟨I2.kIn, ?_⟩
  rw [hks]
  exact run_kbn (us := []) (vs := []) F hr hb hx I2 .nil rz rfl l2 q2
/-- o.m(k = v, ..) -/
def tMethK0 (C : Addr) (m : Str) (nk : Nat) (sp : Sp) (gV : List V → List V → List V) (E : XK) (ta : TE) (tk : TA) : TE := fun σ H Q => ta σ H fun x H1 => ∃ a dx fs, x = .ref a ∧ H1 a = some (.ins C dx fs) ∧ fs.lookup m = none ∧ tk σ H1 fun zs H2 => zs.length = nk ∧ sp (gV [.ref a] zs) H2 Q E
theorem pe_methK0 {pl : Sem Bool} (he : PE X o ta) (c : Cls X.K C) (hm : Meth X.K C m f) (F : FnOk X.prog X.w X.K X.mg X.base CX k f fd ps sp) (hr : Room k X.A) (hb : KBn X.K fd ps 1 ks gf gV) (hx : Passes CX X E) (hkw : PK X kws tk)
    (hall : (backToKw pos (keywordEach kws X.env)).all (·.1.isSome) = true := by rfl) (hks : (backToKw pos (keywordEach kws X.env)).filterMap (·.1) = ks := by rfl)
    (hpl : ((backTo pos (starEach [] X.env)).any (·.1) || (backToKw pos (keywordEach kws X.env)).any (·.1.isNone)) = false := by rfl)
    (ht : eval (.Call (.Attribute o m apos) [] kws pos) X.env = (do
      let ov ← eval o X.env
      standAt apos.atName
      let (f, first) ← holding [ov] (getMethod ov m pl)
      callWith pos f first (backTo pos (starEach [] X.env)) (backToKw pos (keywordEach kws X.env))) := by rfl) :
    PE X (.Call (.Attribute o m apos) [] kws pos) (tMethK0 C m ks.length sp gV E ta tk) := by
  refine ⟨fun pins s σ H Q I h => ?_⟩
  refine PySem.W.methodCall_KW (pl := pl) (thn (he.run pins s σ H _ I h) fun u s1 ⟨x, H1, I1, rx, a, dx, fs, ex, ea, l, q⟩ => ?_) ht
  subst ex
  obtain rfl : u = Value.ref a := rx
  refine getmeth_ok I1 ea c hm l ?_
  refine PySem.W.callWith_KW0 (first := [.ref a]) (h₀ := X.base) I.ok.mod.kin hm.kp hall ?_ hpl
  refine thn (hkw.run pos pins s1 σ H1 _ I1 q) fun ws s2 ⟨zs, H2, I2, rz, l2, q2⟩ => ⟨I2.kIn, ?_⟩
  rw [hks]
  exact run_kbn (us := [.ref a]) (vs := [.ref a]) F hr hb hx I2 (.cons rfl .nil) rz rfl l2 q2
/-- C.m(), m a classmethod -/
theorem pe_cmeth0 {mc : Value} {pl : Sem Bool} (he : PE X o ta) (r : ClX.CRead X.K C mc) (c : ClX.CMet X.K C mc m p g) (F : FnR X.prog X.w X.K X.mg X.base CX k g sp) (hr : Room k X.A) (hx : Passes CX X E)
    (ht : eval (.Call (.Attribute o m apos) [] [] pos) X.env = (do
      let ov ← eval o X.env
      standAt apos.atName
      let (f, first) ← holding [ov] (getMethod ov m pl)
      callWith pos f first (backTo pos (starEach [] X.env)) (backToKw pos (keywordEach [] X.env))) := by rfl) :
    PE X (.Call (.Attribute o m apos) [] [] pos) (ClX.tCMeth C sp E ta tNil) := by
  refine ⟨fun pins s σ H Q I h => ?_⟩
  refine PySem.W.methodCall_KW (pl := pl) (thn (he.run pins s σ H _ I h) fun u s1 ⟨x, H1, I1, rx, ex, q⟩ => ?_) ht
  subst ex
  obtain rfl : u = Value.ref C := rx
  refine ClX.getmethcm_ok I1 r c fun s2 I2 => ?_
  have hb := ClX.base_none I1 (Nat.le_refl _)
  refine PySem.W.callWith_M0 (K := X.K) (first := []) ⟨ClX.pin_at I2, I2.kIn⟩ c.fi ?_
  exact ClX.run_cm (us := []) (vs := []) F hr hx I2 .nil q
/-- x(e, ..), x a local that holds a class -/
def tMakeL (i : Nat) (C : Addr) (sp : Sp) (dvs : List V) (E : XK) (t : TA) : TE := fun σ H Q => σ[i]? = some (some (.ref C)) ∧ tMake C sp dvs E t σ H Q
theorem pe_makeL {i : Nat} {e : Expr} {es : List Expr} {t : TA} {ds : List Value} {dvs : List V} (M : Mk X.K C f) (F : FnOk X.prog X.w X.K X.mg X.base CX k f fd ps sp) (hr : Room (k + 1) X.A) (hN : X.N[i]? = some x) (hv : Vis X.env.scope x) (hb : Binds X.K fd ps ds) (hd : Vals dvs ds) (hx : Passes CX X E)
    (ha : PA X (e :: es) t) (hdb : (x == ("__debug__" : Str)) = false := by decide) (hcd : (x == ("__classdict__" : Str)) = false := by decide) (he : starEach (e :: es) X.env = (false, eval e X.env) :: starEach es X.env := by rfl) (hpl : (backTo pos (starEach es X.env)).any (·.1) = false := by rfl) :
    PE X (.Call (.Name x np) (e :: es) [] pos) (tMakeL i C sp dvs E t) := by
  refine ⟨fun pins s σ H Q I h => ?_⟩
  obtain ⟨hs, ht⟩ := h
  refine wpAny_Call_Name_kw (thn ((pe_var (pos := np) hN hv hdb hcd).run pins s σ H (fun v H1 => v = .ref C ∧ H1 = H) I ⟨.ref C, hs, rfl, rfl⟩) fun u s1 ⟨v, H1, I1, r1, q1⟩ => ?_)
  obtain ⟨rfl, rfl⟩ := q1
  cases r1
  refine PySem.W.callWith_K (h₀ := X.base) I.ok.mod.kin M.kp (thn (ha.run pos pins s1 σ _ _ I1 ht) fun us s2 ⟨vs, H2, I2, r, q⟩ => ⟨I2.kIn, ?_⟩) he hpl
  exact run_make M F hr hb hd hx I2 r q
/-! bool(x) -/
theorem call_boolOwn {n : Nat} (hs : PySem.W.findIn X.K (.ref C) "__bool__" = some (some (.ref g))) (hf : PySem.W.isFn X.K (.ref g) = true) (F : FnR X.prog X.w X.K X.mg X.base CX0 n g sp) (hr : Room (n + 2) X.A) :
    CallR X (.type "bool") (fun xs H Q => ∃ a dx fs, xs = [.ref a] ∧ H a = some (.ins C dx fs) ∧ sp xs H (fun z H' => ∃ b, z = .bl b ∧ Q z H') E) := by
  intro pins s σ H xs us Q I r h
  obtain ⟨a, dx, fs, rfl, ha, q⟩ := h
  obtain ⟨u, rfl, ru⟩ := vals1 r
  cases (show u = Value.ref a from ru)
  obtain ⟨od, J⟩ := inst_at I ha
  obtain ⟨m, hF⟩ := I.fr
  have hr2 : Room n X.A.in1.in1 := (show Room (n + 1) X.A.in1 from Room.in1 hr).in1
  have one : wpAny (model X.prog X.w) X.A.in1.in1 (truthy (.ref a)) (fun b s' => EP X pins σ Q (.bool b) s') X.xe s := by
    refine PySem.W.truthy_K hF I.ok.mod.kin J hs hf (wpAny_mono (call_at0 (us := [.ref a]) (ws := [.ref a]) F hr2 I.env0.in1.in1 I (.cons rfl .nil) q) (fun w s' z => ?_) fun _ _ x => x)
    obtain ⟨z', H', I', rz, b, ez, qz⟩ := z
    subst ez
    cases (show w = Value.bool b from rz)
    exact ⟨.bl b, H', I', rfl, qz⟩
  refine callType_codes (T := "bool") (Bi := Builtin.«object.__init__») (Q₁ := fun r s₁ => ∃ b, r = .bool b ∧ EP X pins σ Q r s₁) PySem.F.called_bool (PySem.F.typeCall_bool_1 _) PySem.F.entry_object_init ?_ ?_
  · refine codeAny_call_builtin (by decide +kernel) PySem.F.entry_bool_new (wpAny_of_eq (PySem.F.newCall_bool_1 _) ?_)
    unfold Builtin.«bool.__new__»
    refine wpAny_bind (wpAny_of_eq (show isType (.type "bool") = pure true from rfl) ?_)
    simp only [Bool.not_true, Bool.false_eq_true, if_false]
    refine wpAny_bind (wpAny_of_eq PySem.F.conv_sub_bool ?_)
    simp only [Bool.not_true, Bool.false_eq_true, if_false]
    refine wpAny_bind (m := someArgs _ _ _ _) (wpAny_pure ?_)
    refine wpAny_bind (wpAny_mono one (fun b s₁ z => ?_) fun _ _ e => e)
    exact wpAny_pure ⟨b, rfl, z⟩
  · rintro obj s₁ ⟨b, rfl, hq⟩
    exact ⟨PySem.typeIs_bool _ _, PySem.F.args_object_init_2 _ _, object_init_meets PySem.F.called_bool.init.lookup PySem.F.called_bool.made PySem.F.newNe_bool X.prog X.w X.A.in1 _ s₁ ⟨PySem.typeIs_bool _ _, rfl, hq⟩⟩
end
/-! how a def binds -/
theorem kbn_of {K : PySem.W.Frag} {x qual : Str} {st : Stmt} {f : Addr} {fd : FuncData} {ps ks : List Str} {n : Nat} (F : Fun K x qual st f fd)
    (h : ∀ (kV doc pm : Value) (an : Option Addr) (cdv ct : Value) (us ws : List Value), us.length = n → ws.length = ks.length → bindArgs (PySem.W.fnOf x qual (defArgs st) (defBody st) (defScope st) .none kV doc pm an cdv ct) ⟨us, ks.zip ws⟩ = pure (ps.zip (us ++ ws))) :
    KBn K fd ps n ks (fun us ws => us ++ ws) (fun vs zs => vs ++ zs) := by
  obtain ⟨oc, od, kV, doc, pm, an, cdv, ct, osl, rfl, lk, hcd⟩ := F.ex
  exact ⟨fun s us ws X l1 l2 => BindsTo.of_eq (h kV doc pm an cdv ct us ws l1 l2), fun r1 r2 => r1.append r2⟩
/-- def f(a, *v) that raises nothing -/
theorem star_ok {P : Program} {w : World} {K : PySem.W.Frag} {mg : Str → Option Value} {base : Heap} {x qual : Str} {st : Stmt} {f : Addr} {fd : FuncData} {N ps : List Str} {pv : Str} {k : Nat} {sp : Sp} (F : Fun K x qual st f fd) (S : FnScope N (ps ++ [pv]) (defScope st))
    (hb : ∀ (kV doc pm : Value) (an : Option Addr) (cdv ct : Value) (us rest : List Value), us.length = ps.length → bindArgs (PySem.W.fnOf x qual (defArgs st) (defBody st) (defScope st) .none kV doc pm an cdv ct) ⟨us ++ rest, []⟩ = (newTuple rest >>= fun t => pure (ps.zip us ++ [(pv, t)])))
    (hbody : ∀ (cdv : Value) (A : Around) (outer : List Env) (s : Shared) (H : Hp) (vs : List V) (Q : VK) (E : XK), Room k (A.deeper (envOfC qual (defScope st) s.heap.objs.size f cdv)) → sp vs H Q E →
      ∃ t, PSs (cxOf CX0 P w K mg base N qual (defScope st) f cdv A outer s H E).nox (defBody st) t ∧ t { nx := fun _ H' => Q .non H', rt := Q } (start N vs) H) :
    FnR P w K mg base CX0 (k + 1) f (fun vs H Q E => ∃ ws rest, vs = ws ++ rest ∧ ws.length = ps.length ∧ rest.length ≤ sizeLine ∧ ∀ p, H p = Option.none → sp (ws ++ [V.ref p]) (upd H p (.tup rest)) Q E) := by
  obtain ⟨oc, od, kV, doc, pm, an, cdv, ct, osl, rfl, lk, hcd⟩ := F.ex
  exact StX.fn_star lk hcd S StX.cxUp_none (fun us rest l => hb kV doc pm an cdv ct us rest l) (fun A outer s H vs Q E hr h => let ⟨t, h1, q⟩ := hbody cdv A outer s H vs Q E hr h; ⟨t, h1.nox, q⟩)
end Lb

set_option Elab.async false
set_option linter.all false
set_option maxRecDepth 100000
set_option maxHeartbeats 4000000
namespace Lb
open PySem

/-! the digits of a number, cut -/
def pad : Nat → Nat → List Char
  | 0, _ => []
  | k + 1, r => pad k (r / 10) ++ [Nat.digitChar (r % 10)]
theorem digits_cut {n : Nat} (hn : 0 < n) : ∀ (k r : Nat), r < 10 ^ k → Nat.toDigits 10 (n * 10 ^ k + r) = Nat.toDigits 10 n ++ pad k r
  | 0, r, h => by
    have : r = 0 := by simpa using h
    subst this
    simp [pad]
  | k + 1, r, h => by
    have h1 : r / 10 < 10 ^ k := by
      rw [Nat.pow_succ] at h
      omega
    have ih := digits_cut hn k (r / 10) h1
    have e : n * 10 ^ (k + 1) + r = 10 * (n * 10 ^ k + r / 10) + r % 10 := by
      rw [Nat.pow_succ]
      have := Nat.div_add_mod r 10
      rw [← Nat.mul_assoc]
      omega
    have p : 0 < n * 10 ^ k + r / 10 := Nat.add_pos_left (Nat.mul_pos hn (Nat.pow_pos (by decide))) _
    rw [e, ← Nat.toDigits_append_toDigits (by decide) p (Nat.mod_lt _ (by decide)), ih, Nat.toDigits_of_lt_base (Nat.mod_lt _ (by decide))]
    simp [pad]
theorem pad_zero : ∀ k, pad k 0 = List.replicate k '0'
  | 0 => rfl
  | k + 1 => by
    rw [pad, pad_zero k, List.replicate_succ']
    rfl
theorem pad_eq : ∀ (k r : Nat), 1 ≤ k → r < 10 ^ k → pad k r = List.replicate (k - (Nat.toDigits 10 r).length) '0' ++ Nat.toDigits 10 r
  | 1, r, _, h => by
    have h : r < 10 := by simpa using h
    rw [Nat.toDigits_of_lt_base h]
    simp [pad, Nat.mod_eq_of_lt h]
  | k + 2, r, _, h => by
    have h1 : r / 10 < 10 ^ (k + 1) := by
      rw [Nat.pow_succ] at h
      omega
    have ih := pad_eq (k + 1) (r / 10) (by omega) h1
    rw [pad]
    by_cases h0 : r < 10
    · have : r / 10 = 0 := by omega
      rw [this, pad_zero, Nat.toDigits_of_lt_base h0, Nat.mod_eq_of_lt h0]
      rfl
    · have e : Nat.toDigits 10 r = Nat.toDigits 10 (r / 10) ++ [Nat.digitChar (r % 10)] := by
        rw [← Nat.toDigits_of_lt_base (Nat.mod_lt r (by decide : 10 > 0)), Nat.toDigits_append_toDigits (by decide) (by omega) (Nat.mod_lt _ (by decide)), Nat.div_add_mod]
      rw [ih, e, List.length_append]
      rw [show k + 1 + 1 - ((Nat.toDigits 10 (r / 10)).length + [Nat.digitChar (r % 10)].length) = k + 1 - (Nat.toDigits 10 (r / 10)).length by simp only [List.length_cons, List.length_nil]; omega]
      simp
/-- the text of digits -/
def chS (l : List Char) : Str := ⟨(l.map Char.toNat).toArray⟩
theorem chS_append (a b : List Char) : chS (a ++ b) = chS a ++ chS b := by
  show Str.mk _ = Str.mk _
  congr 1
  simp [chS]
theorem toS (n : Nat) : ((toString (n : Int) : String) : Str) = chS (Nat.toDigits 10 n) := by
  rw [show ((toString (n : Int) : String) : Str) = Str.ofString (toString (n : Int)) from rfl, Str.ofString_eq_toList]
  unfold chS
  congr 3
  show (Int.repr (n : Int)).toList = _
  simp [Int.repr, Nat.repr]
theorem zf {k r : Nat} (hk : 1 ≤ k) (hr : r < 10 ^ k) : Txt.zfill (chS (Nat.toDigits 10 r)) (k : Nat) = chS (pad k r) := by
  have hlen : (chS (Nat.toDigits 10 r)).length = (Nat.toDigits 10 r).length := by
    show (chS (Nat.toDigits 10 r)).cps.size = _
    simp [chS]
  rw [pad_eq k r hk hr]
  unfold Txt.zfill
  rw [hlen]
  by_cases h : ((k : Nat) : Int) ≤ ((Nat.toDigits 10 r).length : Nat)
  · rw [if_pos h, show k - (Nat.toDigits 10 r).length = 0 by omega]
    simp
  · rw [if_neg h]
    have e0 : (chS (Nat.toDigits 10 r)).cps[0]? = ((Nat.toDigits 10 r)[0]?).map Char.toNat := by simp [chS]
    have key : (chS (Nat.toDigits 10 r)).cps[0]? ≠ some 43 ∧ (chS (Nat.toDigits 10 r)).cps[0]? ≠ some 45 := by
      rw [e0]
      cases hd : (Nat.toDigits 10 r)[0]? with
      | none => simp
      | some c =>
        have hc := Nat.isDigit_of_mem_toDigits (by decide) (by decide) (List.mem_of_getElem? hd)
        have : 48 ≤ c.toNat := by
          have := hc
          simp only [Char.isDigit, Bool.and_eq_true, decide_eq_true_eq] at this
          exact UInt32.le_iff_toNat_le.mp this.1
        simp only [Option.map_some, ne_eq, Option.some.injEq]
        omega
    have e : zfilled (chS (Nat.toDigits 10 r)) (Int.toNat k - (Nat.toDigits 10 r).length) = Builtin.Str.padded (chS (Nat.toDigits 10 r)) (Int.toNat k - (Nat.toDigits 10 r).length) 0 48 := by
      unfold zfilled
      split
      · rename_i q; exact absurd q key.1
      · rename_i q; exact absurd q key.2
      · rfl
    rw [e, chS_append]
    unfold Builtin.Str.padded
    show Str.mk _ = Str.mk _
    congr 1
    simp [chS]
def cat : List Str → Str
  | [] => Str.empty
  | x :: r => x ++ cat r
theorem empty_add (x : Str) : Str.empty ++ x = x := by
  show Str.mk _ = Str.mk _
  simp [Str.empty]
theorem add_empty (x : Str) : x ++ Str.empty = x := by
  show Str.mk _ = Str.mk _
  simp [Str.empty]
theorem cat_append (a b : List Str) : cat (a ++ b) = cat a ++ cat b := by
  induction a with
  | nil => exact (empty_add _).symm
  | cons x r ih => rw [List.cons_append, cat, cat, ih, Str.append_assoc]
theorem cat_foldl : ∀ (l : List Str) (x : Str), (⟨l.foldl (fun acc p => acc ++ Str.empty.cps ++ p.cps) x.cps⟩ : Str) = x ++ cat l
  | [], x => (add_empty x).symm
  | y :: r, x => by
    rw [List.foldl_cons]
    have e : x.cps ++ Str.empty.cps ++ y.cps = (x ++ y).cps := by
      show _ = x.cps ++ y.cps
      simp [Str.empty]
    rw [e, cat_foldl r (x ++ y), cat, Str.append_assoc]
theorem join_empty : ∀ l : List Str, Txt.join Str.empty l = cat l
  | [] => rfl
  | x :: r => cat_foldl r x
theorem cat_length : ∀ l : List Str, (cat l).length = (l.map (·.length)).sum
  | [] => rfl
  | x :: r => by rw [cat, Str.length_append, cat_length r, List.map_cons, List.sum_cons]
theorem chS_length (l : List Char) : (chS l).length = l.length := by
  show (chS l).cps.size = _
  simp [chS]
theorem pad_length : ∀ k r, (pad k r).length = k
  | 0, _ => rfl
  | k + 1, r => by rw [pad, List.length_append, pad_length k]; rfl
/-- one turn: the last sixty digits are cut off -/
theorem turn60 {n : Nat} (h : 10 ^ 60 ≤ n) : ((toString (n : Int) : String) : Str) = ((toString ((n / 10 ^ 60 : Nat) : Int) : String) : Str) ++ Txt.zfill ((toString ((n % 10 ^ 60 : Nat) : Int) : String) : Str) (60 : Nat) ∧
    (Txt.zfill ((toString ((n % 10 ^ 60 : Nat) : Int) : String) : Str) (60 : Nat)).length = 60 := by
  have q : 0 < n / 10 ^ 60 := Nat.div_pos h (Nat.pow_pos (by decide))
  have r : n % 10 ^ 60 < 10 ^ 60 := Nat.mod_lt _ (Nat.pow_pos (by decide))
  rw [toS, toS, toS, zf (by decide) r]
  refine ⟨?_, by rw [chS_length, pad_length]⟩
  conv => lhs; rw [← Nat.div_add_mod n (10 ^ 60), Nat.mul_comm]
  rw [digits_cut q 60 _ r, chS_append]
end Lb
namespace Lb
open PySem L2
theorem vals_rev : ∀ {vs : List V} {us : List Value}, Vals vs us → Vals vs.reverse us.reverse
  | [], _, .nil => .nil
  | _ :: _, _, .cons r t => by
    rw [List.reverse_cons, List.reverse_cons]
    exact (vals_rev t).append (.cons r .nil)
theorem kit_of_own {K : PySem.W.Frag} {C : Addr} {T : String} (hm : PySem.W.kitMeta T = true) (h : PySem.W.subIn K (.ref C) (.type T) = some false) : PySem.W.kitOne K (.ref C) (.type T) = some false := by
  have ne : (Value.ref C == Value.type T) = false := Bool.eq_false_iff.mpr fun q => nomatch beq_iff_eq.mp q
  unfold PySem.W.kitOne
  rw [ne, if_neg (by decide)]
  unfold PySem.W.kitCls
  dsimp only
  rw [if_pos hm]
  exact h
end Lb

set_option Elab.async false
set_option linter.all false
set_option maxRecDepth 100000
set_option maxHeartbeats 4000000
set_option exponentiation.threshold 10000
namespace Lb
open PySem L2

/-! fractions in lowest terms -/
abbrev Q2 := Int × Int
theorem bd_one {n : Nat} : Bd (n + 1) 1 := by
  show 1 < 2 ^ (n + 1)
  exact Nat.one_lt_two_pow (Nat.succ_ne_zero n)
def rdD (t b : Int) : Int := if b < 0 then -((Nat.gcd t.natAbs b.natAbs : Nat) : Int) else ((Nat.gcd t.natAbs b.natAbs : Nat) : Int)
def rdT (t b : Int) : Int := t.fdiv (rdD t b)
def rdB (t b : Int) : Int := b.fdiv (rdD t b)
theorem rdT_one (t : Int) : rdT t 1 = t := by
  unfold rdT rdD
  simp [Int.fdiv_one]
theorem rdB_one (t : Int) : rdB t 1 = 1 := by
  unfold rdB rdD
  simp [Int.fdiv_one]
/-- a fraction in lowest terms, its parts below a power of two -/
structure Low (n : Nat) (x : Q2) : Prop where
  t : Bd n x.1
  b : Bd n x.2
  pos : 0 < x.2
  g : x.1.gcd x.2 = 1
theorem Low.mono {n m : Nat} {x : Q2} (h : Low n x) (k : n ≤ m) : Low m x := ⟨h.t.mono k, h.b.mono k, h.pos, h.g⟩
def rd (t b : Int) : Q2 := (rdT t b, rdB t b)
theorem rd_spec {t b : Int} (hb : b ≠ 0) : 0 < rdB t b ∧ (rdT t b).gcd (rdB t b) = 1 ∧ t = (rdD t b) * rdT t b ∧ b = (rdD t b) * rdB t b := by
  have hg : 0 < t.gcd b := Int.gcd_pos_of_ne_zero_right t hb
  obtain ⟨t1, ht⟩ := Int.gcd_dvd_left t b
  obtain ⟨b1, hb1⟩ := Int.gcd_dvd_right t b
  have g1 : t1.gcd b1 = 1 := by
    have h := Int.gcd_mul_left (t.gcd b : Int) t1 b1
    rw [← ht, ← hb1] at h
    have h' : t.gcd b * 1 = t.gcd b * t1.gcd b1 := by simpa using h
    exact (Nat.eq_of_mul_eq_mul_left hg h').symm
  have key : ∀ D x y : Int, D ≠ 0 → t = D * x → b = D * y → t.fdiv D = x ∧ b.fdiv D = y := fun D x y hD h1 h2 => by
    rw [h1, h2]
    exact ⟨Int.mul_fdiv_cancel_left _ hD, Int.mul_fdiv_cancel_left _ hD⟩
  have eg : ((Nat.gcd t.natAbs b.natAbs : Nat) : Int) = (t.gcd b : Int) := rfl
  unfold rdT rdB
  by_cases h : b < 0
  · have eD : rdD t b = -(t.gcd b : Int) := by unfold rdD; rw [if_pos h, eg]
    obtain ⟨e1, e2⟩ := key (rdD t b) (-t1) (-b1) (by omega) (by rw [eD, Int.neg_mul_neg]; exact ht) (by rw [eD, Int.neg_mul_neg]; exact hb1)
    rw [e1, e2]
    have hb2 : b1 < 0 := by
      have : (t.gcd b : Int) * b1 < (t.gcd b : Int) * 0 := by omega
      exact Int.lt_of_mul_lt_mul_left this (by omega)
    refine ⟨by omega, ?_, by rw [eD, Int.neg_mul_neg]; exact ht, by rw [eD, Int.neg_mul_neg]; exact hb1⟩
    rw [Int.neg_gcd, Int.gcd_neg]
    exact g1
  · have eD : rdD t b = (t.gcd b : Int) := by unfold rdD; rw [if_neg h, eg]
    obtain ⟨e1, e2⟩ := key (rdD t b) t1 b1 (by omega) (by rw [eD]; exact ht) (by rw [eD]; exact hb1)
    rw [e1, e2]
    have hb2 : 0 < b1 := by
      have : (t.gcd b : Int) * 0 < (t.gcd b : Int) * b1 := by omega
      exact Int.lt_of_mul_lt_mul_left this (by omega)
    exact ⟨hb2, g1, by rw [eD]; exact ht, by rw [eD]; exact hb1⟩
theorem rd_low {n : Nat} {t b : Int} (hb : b ≠ 0) (h1 : Bd n t) (h2 : Bd n b) : Low n (rd t b) := by
  obtain ⟨p, g, e3, e4⟩ := rd_spec (t := t) (b := b) hb
  have hD : 1 ≤ (rdD t b).natAbs := by
    rcases Nat.eq_zero_or_pos (rdD t b).natAbs with e | e
    · have := Int.natAbs_eq_zero.mp e
      rw [this, Int.zero_mul] at e4
      exact absurd e4 hb
    · exact e
  have le : ∀ z : Int, z.natAbs ≤ (rdD t b * z).natAbs := fun z => by
    rw [Int.natAbs_mul]
    exact Nat.le_mul_of_pos_left _ hD
  exact ⟨h1.le (by conv => rhs; rw [e3]
                   exact le _), h2.le (by conv => rhs; rw [e4]
                                          exact le _), p, g⟩
theorem rd_self {t b : Int} (p : 0 < b) (g : t.gcd b = 1) : rdT t b = t ∧ rdB t b = b := by
  have e : rdD t b = 1 := by
    unfold rdD
    rw [if_neg (by omega)]
    show ((t.gcd b : Nat) : Int) = 1
    omega
  unfold rdT rdB
  rw [e, Int.fdiv_one, Int.fdiv_one]
  exact ⟨rfl, rfl⟩

theorem mul_pos_ne {x y : Int} (h : 0 < x) (k : 0 < y) : x * y ≠ 0 := by
  have := Int.mul_pos h k
  omega
/-- the number -/
def val (x : Q2) : Rat := (x.1 : Rat) / (x.2 : Rat)
theorem ne_cast {b : Int} (h : b ≠ 0) : (b : Rat) ≠ 0 := fun z => h (Rat.intCast_inj.mp (z.trans Rat.intCast_zero.symm))
theorem pos_cast {b : Int} (h : 0 < b) : (0 : Rat) < (b : Rat) := by
  have := Rat.intCast_lt_intCast.mpr h
  simpa using this
theorem val_rd {t b : Int} (hb : b ≠ 0) : val (rd t b) = (t : Rat) / (b : Rat) := by
  obtain ⟨p, g, e3, e4⟩ := rd_spec (t := t) (b := b) hb
  have hD : rdD t b ≠ 0 := fun z => by
    rw [z, Int.zero_mul] at e4
    exact hb e4
  have h1 : (t : Rat) = (rdD t b : Rat) * (rdT t b : Rat) := by
    rw [← Rat.intCast_mul, ← e3]
  have h2 : (b : Rat) = (rdD t b : Rat) * (rdB t b : Rat) := by
    rw [← Rat.intCast_mul, ← e4]
  have h3 := ne_cast hD
  have h4 := ne_cast (show rdB t b ≠ 0 by omega)
  show (rdT t b : Rat) / (rdB t b : Rat) = _
  rw [h1, h2]
  grind
theorem val_lt {x y : Q2} (hx : 0 < x.2) (hy : 0 < y.2) : (x.1 * y.2 < y.1 * x.2) ↔ val x < val y := by
  have px := pos_cast hx
  have py := pos_cast hy
  have e1 : val x * ((x.2 : Rat) * y.2) = (x.1 : Rat) * y.2 := by unfold val; grind
  have e2 : val y * ((x.2 : Rat) * y.2) = (y.1 : Rat) * x.2 := by unfold val; grind
  have pp : (0 : Rat) < (x.2 : Rat) * y.2 := Rat.mul_pos px py
  rw [← Rat.intCast_lt_intCast, Rat.intCast_mul, Rat.intCast_mul, ← e1, ← e2]
  constructor
  · intro h
    exact Rat.lt_of_mul_lt_mul_right h (Rat.le_of_lt pp)
  · intro h
    exact Rat.mul_lt_mul_of_pos_right h pp
theorem val_le {x y : Q2} (hx : 0 < x.2) (hy : 0 < y.2) : (x.1 * y.2 ≤ y.1 * x.2) ↔ val x ≤ val y := by
  rw [← Int.not_lt, val_lt hy hx, Rat.not_lt]
theorem low_eq {t b t' b' : Int} (hb : 0 < b) (hb' : 0 < b') (g : t.gcd b = 1) (g' : t'.gcd b' = 1) (h : t * b' = t' * b) : t = t' ∧ b = b' := by
  have d1 : b ∣ b' := by
    have : b ∣ (b.gcd t : Int) * b' := Int.dvd_gcd_mul_iff_dvd_mul.mpr ⟨t', by grind⟩
    rw [Int.gcd_comm, g] at this
    simpa using this
  have d2 : b' ∣ b := by
    have : b' ∣ (b'.gcd t' : Int) * b := Int.dvd_gcd_mul_iff_dvd_mul.mpr ⟨t, by grind⟩
    rw [Int.gcd_comm, g'] at this
    simpa using this
  have e : b = b' := by
    have h1 := Int.le_of_dvd hb' d1
    have h2 := Int.le_of_dvd hb d2
    omega
  subst e
  refine ⟨?_, rfl⟩
  have : (t - t') * b = 0 := by grind
  rcases Int.mul_eq_zero.mp this with e | e <;> omega
theorem val_inj {n m : Nat} {x y : Q2} (hx : Low n x) (hy : Low m y) (h : val x = val y) : x = y := by
  have px := ne_cast (show x.2 ≠ 0 from by have := hx.pos; omega)
  have py := ne_cast (show y.2 ≠ 0 from by have := hy.pos; omega)
  have e : (x.1 : Rat) * y.2 = (y.1 : Rat) * x.2 := by
    unfold val at h
    grind
  rw [← Rat.intCast_mul, ← Rat.intCast_mul, Rat.intCast_inj] at e
  obtain ⟨h1, h2⟩ := low_eq hx.pos hy.pos hx.g hy.g e
  exact Prod.ext h1 h2
theorem val_add {x y : Q2} (hx : 0 < x.2) (hy : 0 < y.2) : val (rd (x.1 * y.2 + y.1 * x.2) (x.2 * y.2)) = val x + val y := by
  have px := ne_cast (show x.2 ≠ 0 by omega)
  have py := ne_cast (show y.2 ≠ 0 by omega)
  rw [val_rd (mul_pos_ne hx hy), Rat.intCast_add, Rat.intCast_mul, Rat.intCast_mul, Rat.intCast_mul]
  unfold val
  grind
theorem val_sub {x y : Q2} (hx : 0 < x.2) (hy : 0 < y.2) : val (rd (x.1 * y.2 - y.1 * x.2) (x.2 * y.2)) = val x - val y := by
  have px := ne_cast (show x.2 ≠ 0 by omega)
  have py := ne_cast (show y.2 ≠ 0 by omega)
  rw [val_rd (mul_pos_ne hx hy), Rat.intCast_sub, Rat.intCast_mul, Rat.intCast_mul, Rat.intCast_mul]
  unfold val
  grind
theorem val_mul {x y : Q2} (hx : 0 < x.2) (hy : 0 < y.2) : val (rd (x.1 * y.1) (x.2 * y.2)) = val x * val y := by
  have px := ne_cast (show x.2 ≠ 0 by omega)
  have py := ne_cast (show y.2 ≠ 0 by omega)
  rw [val_rd (mul_pos_ne hx hy), Rat.intCast_mul, Rat.intCast_mul]
  unfold val
  grind
theorem val_div {x y : Q2} (hx : 0 < x.2) (hy : 0 < y.2) (h0 : y.1 ≠ 0) : val (rd (x.1 * y.2) (x.2 * y.1)) = val x / val y := by
  have px := ne_cast (show x.2 ≠ 0 by omega)
  have py := ne_cast (show y.2 ≠ 0 by omega)
  have p0 := ne_cast h0
  rw [val_rd (Int.mul_ne_zero (by omega) h0), Rat.intCast_mul, Rat.intCast_mul]
  unfold val
  grind
theorem val_neg (x : Q2) : val (-x.1, x.2) = - val x := by
  show ((-x.1 : Int) : Rat) / x.2 = - ((x.1 : Rat) / x.2)
  rw [Rat.intCast_neg]
  grind
theorem val_zero : val (0, 1) = 0 := by
  show ((0 : Int) : Rat) / ((1 : Int) : Rat) = 0
  rw [Rat.intCast_zero]
  grind
theorem val_eq0 {x : Q2} (hx : 0 < x.2) : x.1 = 0 ↔ val x = 0 := by
  have px := ne_cast (show x.2 ≠ 0 by omega)
  constructor
  · intro h
    unfold val
    rw [h, Rat.intCast_zero]
    grind
  · intro h
    refine Classical.byContradiction fun k => ?_
    have := ne_cast k
    unfold val at h
    grind
theorem val_pos {x : Q2} (hx : 0 < x.2) : 0 < x.1 ↔ 0 < val x := by
  have h := val_lt (x := (0, 1)) (y := x) (by decide) hx
  rw [val_zero] at h
  rw [← h]
  simp
theorem val_negl {x : Q2} (hx : 0 < x.2) : x.1 < 0 ↔ val x < 0 := by
  have h := val_lt (x := x) (y := (0, 1)) hx (by decide)
  rw [val_zero] at h
  rw [← h]
  simp
end Lb

set_option Elab.async false
set_option linter.all false
set_option maxRecDepth 100000
set_option maxHeartbeats 4000000
namespace Lb
open PySem PySem.Spec PyProof.Rows L2
section
variable {X : Cx} {CX : CXT} {k : Nat} {f C p g : Addr} {fd : FuncData} {ps ks : List Str} {sp : Sp} {E : XK} {x m : Str} {pos np apos : Pos} {o fe e : Expr} {es : List Expr} {kws : List Keyword} {ta tf : TE} {t tk : TA} {gf : List Value → List Value → List Value} {gV : List V → List V → List V}
/-! an instance is called -/
def tCallI (C : Addr) (sp : Sp) (E : XK) (tf : TE) (t : TA) : TE := fun σ H Q => tf σ H fun y H1 => ∃ a, y = V.ref a ∧ t σ H1 fun vs H2 => (∃ dx fs, H2 a = some (.ins C dx fs)) ∧ sp (V.ref a :: vs) H2 Q E
theorem pe_callI (hf : PE X fe tf) (c : StX.CallO X.K C g) (F : FnR X.prog X.w X.K X.mg X.base CX k g sp) (hr : Room k X.A) (hx : Passes CX X E) (ha : PA X (e :: es) t)
    (ht : eval (.Call fe (e :: es) [] pos) X.env = (do callWith pos (← eval fe X.env) [] (backTo pos (starEach (e :: es) X.env)) (backToKw pos (keywordEach [] X.env))) := by rfl)
    (he : starEach (e :: es) X.env = (false, eval e X.env) :: starEach es X.env := by rfl) (hpl : (backTo pos (starEach es X.env)).any (·.1) = false := by rfl) : PE X (.Call fe (e :: es) [] pos) (tCallI C sp E tf t) := by
  refine ⟨fun pins s σ H Q I h => ?_⟩
  refine Call_ (thn (hf.run pins s σ H _ I h) fun u s1 ⟨y, H1, I1, ry, a, ey, q⟩ => ?_) ht
  subst ey
  obtain rfl : u = Value.ref a := ry
  refine StX.callO_with (thn (ha.run pos pins s1 σ H1 _ I1 q) fun us s2 ⟨vs, H2, I2, r, ⟨dx, fs, hi⟩, q2⟩ => ?_) he hpl
  obtain ⟨ox, od, J, hd⟩ := StX.insC_at I2 (X := X) (.inr ⟨dx, fs, hi⟩)
  exact ⟨⟨C, ox, od, J, hd⟩, StX.run_callO c F hr hx I2 (.inr ⟨dx, fs, hi⟩) r q2⟩
/-! C.m(e, ..), m a staticmethod -/
structure SMet (K : PySem.W.Frag) (C : Addr) (m : Str) (p g : Addr) : Prop where
  ty : PySem.W.typeIn K (.ref C) = some (.type "type")
  rd : PySem.W.readsIn K C (.type "type") = true
  ga : PySem.W.specialIn K (.ref C) "__getattribute__" = some (some (.builtin "type.__getattribute__"))
  at_ : PySem.W.findCls K (.ref C) (.type "type") m = some (.get (.builtin "staticmethod.__get__") (.ref p) .none (.ref C))
  rc : ∃ rest, PySem.W.recIn K p "staticmethod" = some (.ref g :: rest)
  kp : PySem.W.keepIn K (.ref g) = true
def tSMeth (C : Addr) (sp : Sp) (E : XK) (ta : TE) (t : TA) : TE := fun σ H Q => ta σ H fun x H1 => x = .ref C ∧ t σ H1 fun vs H2 => sp vs H2 Q E
theorem getsm_ok {pins : List (Addr × Obj)} {σ : L2.St} {H : Hp} {s : Shared} {A : Around} {Ex : Value → Shared → Prop} {pl : Sem Bool} {Q : Value × List Value → Shared → Prop} (I : Inv X pins σ H s) (c : SMet X.K C m p g)
    (h : ∀ s', Inv X pins σ H s' → Q (.ref g, []) s') : wpAny (model X.prog X.w) A (getMethod (.ref C) m pl) Q Ex s := by
  obtain ⟨rest, hp⟩ := c.rc
  obtain ⟨mm, F⟩ := I.fr
  exact PySem.W.method_cls I.kIn c.ga (PySem.W.cls_sm F I.ok.mod.kin c.ty c.rd c.at_ hp rfl (h _ (I.tok _)))
theorem pe_smeth {pl : Sem Bool} {ds : List Value} {dvs : List V} (he : PE X o ta) (c : SMet X.K C m p g) (F : FnOk X.prog X.w X.K X.mg X.base CX k g fd ps sp) (hr : Room k X.A) (hb : Binds X.K fd ps ds) (hd : Vals dvs ds) (hx : Passes CX X E) (ha : PA X (e :: es) t)
    (hst : starEach (e :: es) X.env = (false, eval e X.env) :: starEach es X.env := by rfl) (hpl : (backTo pos (starEach es X.env)).any (·.1) = false := by rfl)
    (ht : eval (.Call (.Attribute o m apos) (e :: es) [] pos) X.env = (do
      let ov ← eval o X.env
      standAt apos.atName
      let (f, first) ← holding [ov] (getMethod ov m pl)
      callWith pos f first (backTo pos (starEach (e :: es) X.env)) (backToKw pos (keywordEach [] X.env))) := by rfl) :
    PE X (.Call (.Attribute o m apos) (e :: es) [] pos) (tSMeth C (fun vs H Q E => sp (vs ++ dvs) H Q E) E ta t) := by
  refine ⟨fun pins s σ H Q I h => ?_⟩
  refine PySem.W.methodCall_KW (pl := pl) (thn (he.run pins s σ H _ I h) fun u s1 ⟨x, H1, I1, rx, ex, q⟩ => ?_) ht
  subst ex
  obtain rfl : u = Value.ref C := rx
  refine getsm_ok I1 c fun s2 I2 => ?_
  refine PySem.W.callWith_K (first := []) (h₀ := X.base) I.ok.mod.kin c.kp (thn (ha.run pos pins s2 σ H1 _ I2 q) fun us s3 ⟨vs, H2, I3, rv, q2⟩ => ⟨I3.kIn, ?_⟩) hst hpl
  exact run_fn F hr hb hd hx I3 rv q2
/-! an instance is called with keywords alone -/
abbrev KeptBy (s : Shared) (o : Addr) : Prop := ∃ D y z, PySem.W.InstAt s.heap o y D z ∧ y.data = .plain
theorem inst_kw {M : Model} {A : Around} {Bad : Value → Shared → Prop} {Fin : Value → Shared → Prop} {t : Shared} {o : Addr} {pos : Pos} {us : List (Bool × Sem Value)} {ns : List (Option Str × Sem Value)} (no : (us.any (·.1) || ns.any (·.1.isNone)) = false)
    (run : wpAny M A (evalArgs (.ref o) true us ns) (fun got t' => KeptBy t' o ∧ wpAny M A (call (.ref o) got.pos got.kw) Fin Bad t') Bad t) :
    wpAny M A (callWith pos (.ref o) [] us ns) Fin Bad t := by
  have last : ∀ {go : Sem Value} {t' : Shared}, wpAny M A go Fin Bad t' → wpAny M A (go >>= fun v => holding [v] point >>= fun _ => pure v) Fin Bad t' := by
    intro go t' g
    apply wpAny_bind
    refine wpAny_mono g ?_ fun _ _ b => b
    intro v t2 fin
    exact wpAny_bind (wpAny_holding (wpAny_point (wpAny_pure fin)))
  unfold callWith
  apply wpAny_bind
  apply wpAny_holding
  refine wpAny_mono run ?_ fun _ _ b => b
  rintro got t' ⟨⟨D, y, z, inst, dat⟩, go⟩
  apply wpAny_bind
  apply wpAny_standAt
  have keeper := PySem.W.kco_keeper (M := M) inst dat
  simp only [no]
  apply wpAny_bind
  apply keeper.here
  exact last (wpAny_operateT go)
def tCallIK (nk : Nat) (C : Addr) (sp : Sp) (gV : List V → List V → List V) (E : XK) (tf : TE) (tk : TA) : TE := fun σ H Q => tf σ H fun y H1 => ∃ a, y = V.ref a ∧ tk σ H1 fun zs H2 => (∃ dx fs, H2 a = some (.ins C dx fs)) ∧ zs.length = nk ∧ sp (gV [.ref a] zs) H2 Q E
theorem pe_callIK (hf : PE X fe tf) (c : StX.CallO X.K C g) (F : FnOk X.prog X.w X.K X.mg X.base CX k g fd ps sp) (hr : Room k X.A) (hb : KBn X.K fd ps 1 ks gf gV) (hx : Passes CX X E) (hkw : PK X kws tk)
    (hall : (backToKw pos (keywordEach kws X.env)).all (·.1.isSome) = true := by rfl) (hks : (backToKw pos (keywordEach kws X.env)).filterMap (·.1) = ks := by rfl)
    (hpl : ((backTo pos (starEach [] X.env)).any (·.1) || (backToKw pos (keywordEach kws X.env)).any (·.1.isNone)) = false := by rfl)
    (ht : eval (.Call fe [] kws pos) X.env = (do callWith pos (← eval fe X.env) [] (backTo pos (starEach [] X.env)) (backToKw pos (keywordEach kws X.env))) := by rfl) : PE X (.Call fe [] kws pos) (tCallIK ks.length C sp gV E tf tk) := by
  refine ⟨fun pins s σ H Q I h => ?_⟩
  rw [ht]
  refine wpAny_bind (thn (hf.run pins s σ H _ I h) fun u s1 ⟨y, H1, I1, ry, a, ey, q⟩ => ?_)
  subst ey
  obtain rfl : u = Value.ref a := ry
  refine inst_kw hpl (evalArgs_kw2_nil hall ?_)
  refine thn (hkw.run pos pins s1 σ H1 _ I1 q) fun ws s2 ⟨zs, H2, I2, rz, ⟨dx, fs, hi⟩, l2, q2⟩ => ?_
  obtain ⟨ox, od, J, hd⟩ := StX.insC_at I2 (X := X) (.inr ⟨dx, fs, hi⟩)
  refine ⟨⟨C, ox, od, J, hd⟩, ?_⟩
  rw [hks]
  refine wpAny_call (PySem.W.kco_code I2.kIn J hd c.at_ c.fn c.fi ?_)
  refine codeAny_mono (F.run X.A X.stack s2 H2 ⟨[.ref a], ks.zip ws⟩ (gf [.ref a] ws) (gV [.ref a] zs) Q E hr I2.env0 (hb.to s2 [.ref a] ws I2.kIn rfl (rz.length.symm.trans l2)) (hb.rel (.cons rfl .nil) rz) q2) fun r s' hq => ?_
  cases r with
  | error e => exact hx pins σ H2 s2 e s' I2 hq
  | ok fl =>
    cases fl with
    | ret u => exact I2.after hq
    | next => exact False.elim hq
    | brk => exact False.elim hq
    | cont => exact False.elim hq
end
end Lb

set_option Elab.async false
set_option linter.all false
set_option maxRecDepth 100000
set_option maxHeartbeats 4000000
namespace Lb
open PySem PySem.Spec PyProof.Rows L2
/-! enumerate of whatever iter() turns into a new object, with one argument -/
abbrev EnO (k : Nat) : Obj := { cls := .type "enumerate", data := .fields #[.none, .bool false, .ref k, rawInt 0, .none, .none] }
theorem made_enum {v : Value} {o : Obj} {Z : Heap → Prop} (B : Begins v o Z) :
    Meets (Builtin.«enumerate.__new__» ⟨[.type "enumerate", v], []⟩) (fun _ R s => Z s.heap ∧ R (.ok (.ret (.ref (s.heap.push o).objs.size))) { s with heap := (s.heap.push o).push (EnO s.heap.objs.size) }) := by
  refine .of_wp fun P w A R s ⟨z, fin⟩ => ?_
  obtain ⟨hp, gl, od, tk, out⟩ := s
  have sb := sub_enumerate
  have it : ∀ {A' : Around} {Bad Q : Value → Shared → Prop}, Q (.ref hp.objs.size) ⟨hp.push o, gl, od, tk, out⟩ → wpAny (model P w) A' (pyIter v) Q Bad ⟨hp, gl, od, tk, out⟩ := fun q => B.iter P w _ _ ⟨hp, gl, od, tk, out⟩ _ z q
  wp_walk using it
  refine wpAny_stack_any fun _ => wpAny_pure ?_
  split
  · rename_i cc _ _ _ _ _
    cases (cc == Value.type "enumerate") <;> (wp_walk using it; exact ⟨_, rfl, fin⟩)
  · wp_walk using it
    exact ⟨_, rfl, fin⟩
theorem enum_called {P : Program} {w : World} {A : Around} {Bad : Value → Shared → Prop} {s : Shared} {v : Value} {o : Obj} {Z : Heap → Prop} {Q : Value → Shared → Prop} (B : Begins v o Z) (z : Z s.heap)
    (fin : ∀ h2, IsEnum h2 (s.heap.objs.size + 1) s.heap.objs.size 0 .none → h2.get? s.heap.objs.size = some o → (∀ b ob, s.heap.get? b = some ob → h2.get? b = some ob) → Q (.ref (s.heap.objs.size + 1)) { s with heap := h2 }) :
    wpAny (model P w) A (call (.type "enumerate") [v]) Q Bad s := by
  refine callType_new F.called_enumerate (by decide) (F.typeCall_enumerate_1 _) (F.newCall_enumerate_1 _) (fun ob => F.args_object_init_2 ob _) F.entry_enumerate_new (made_enum B) ⟨z, ?_⟩
  have n1 : (s.heap.push o).objs.size = s.heap.objs.size + 1 := Heap.size_push ..
  have top : ((s.heap.push o).push (EnO s.heap.objs.size)).get? (s.heap.push o).objs.size = some (EnO s.heap.objs.size) := Heap.get?_push_size _ rfl
  rw [n1] at top
  show _ ∧ _
  rw [n1]
  exact ⟨⟨_, top, rfl⟩, fin _ top (Heap.get?_push_of_some _ (Heap.get?_push_size _ B.free)) fun b ob q => Heap.get?_push_of_some _ (Heap.get?_push_of_some _ q)⟩
/-- the tuple at a, each item in a new pair with its place -/
def IteT (K : PySem.W.Frag) (a : Addr) : It where
  go i H := ∃ (xs : List V) (x : V), SqT K H a xs ∧ xs[i]? = some x
  yld i H v H' := ∃ T x, v = .ref T ∧ H T = none ∧ H' = L2.upd H T (.tup [.int (i : Nat), x]) ∧ ∀ xs, SqT K H a xs → xs[i]? = some x
  stop i H := ∃ xs : List V, SqT K H a xs ∧ xs.length ≤ i
theorem enum_turn {P : Program} {w : World} {K : PySem.W.Frag} {elts : List Expr} {kk : Nat} {tpos : Pos} (a e it : Addr) :
    Turn P w K (.Tuple elts kk tpos) (IteT K a) [e, it] e (fun i h => (∃ old, IsEnum h e it ((i : Nat) : Int) old) ∧ h.IsTupleIter it a i ∧ e ≠ it) where
  mem := List.mem_cons_self
  self := fun A i s Q E st h => by
    obtain ⟨⟨_, he⟩, _⟩ := st
    exact wpAny_pyIter_enum he h
  obj := by
    rintro i h ⟨⟨old, he⟩, ⟨o, ho, hc, hd⟩, _⟩ b hb
    rw [List.mem_cons, List.mem_singleton] at hb
    rcases hb with rfl | rfl
    · exact ⟨_, he, fun v q => nomatch q⟩
    · exact ⟨o, ho, fun v q => by rw [hd] at q; cases q⟩
  keep := by
    rintro i h h' ⟨⟨old, he⟩, hi, ne⟩ k
    exact ⟨⟨old, k e (by simp) _ he⟩, hi.at fun o q => k it (by simp) o q, ne⟩
  item := by
    rintro X rfl rfl rfl hc i pins s σ H E I hf ⟨⟨old, he⟩, hi, ne⟩ ⟨xs, x, hq, hx⟩
    obtain ⟨its, rv, ⟨ot, hot, cot, rt⟩, hz⟩ := I.tuple hq
    obtain ⟨u, hu, ru⟩ := rv.get hx
    have ai : a ≠ it := by
      rintro rfl
      obtain ⟨o, ho, hc', _⟩ := id hi
      have := hot.symm.trans ho
      injection this with this
      rw [← this, cot] at hc'
      exact absurd hc' (by decide)
    have ae : e ≠ a := by
      rintro rfl
      have := hot.symm.trans he
      injection this with this
      rw [this] at cot
      injection cot with cot
      exact absurd cot (by decide)
    have D := Draws.tuple (prog := X.prog) (w := X.w) (A := X.A.in1) (I.ok.hd hc) it a ai its.toArray
    have li := rv.length
    have lt : i < its.toArray.size := by
      have := (List.getElem?_eq_some_iff.mp hu).1
      simpa using this
    have be : e < s.heap.objs.size := Heap.lt_size he
    have bi : it < s.heap.objs.size := by obtain ⟨_, q, _⟩ := id hi; exact Heap.lt_size q
    refine wpAny_pyNext_enum_itemD D he ⟨hi, ⟨ot, hot, cot, rt⟩⟩ lt ne (by simp [ne, ae]) fun y h' tk py ho st' hT _ hk => ?_
    obtain rfl : y = u := by
      have : its.toArray[i]? = some u := by simpa using hu
      exact Option.some.inj (py.symm.trans this)
    refine ⟨_, rfl, wpAny_letOwnedTupleGo_enum (s := { s with heap := h', toks := tk + 1 }) ho fun h2 he2 sb => ?_⟩
    have new : ObjOk X.prog X.w (L2.upd H s.heap.objs.size (.tup [.int (i : Nat), x])) h2 s.heap.objs.size (.tup [.int (i : Nat), x]) :=
      ⟨by show 2 ≤ sizeLine; decide, [.int i tk, y], .cons ⟨_, rfl⟩ (.cons ru .nil), ⟨_, (sb.2 _ (Nat.ne_of_gt be)).trans hT, rfl, _, rfl⟩⟩
    have I1 : Inv X pins σ (L2.upd H s.heap.objs.size (.tup [.int (i : Nat), x])) { s with heap := h2, toks := tk + 1 } := by
      refine I.turnedNew (ch := [e, it]) (fun b ob hb q => ?_) hf (Nat.le_refl _) new
      simp only [List.mem_cons, List.not_mem_nil, or_false, not_or] at hb
      exact (sb.2 b hb.1).trans (hk b ob hb.1 hb.2 q)
    refine ⟨.ref s.heap.objs.size, _, I1, rfl, ⟨_, x, rfl, I.hok.fresh (Nat.le_refl _), rfl, fun ys hy => by rw [I.tuple_inj hy hq]; exact hx⟩, ⟨⟨y, ?_⟩, st'.1.at fun o q => (sb.2 it (Ne.symm ne)).trans q, ne⟩, fun b hb => ?_⟩
    · rw [show ((i + 1 : Nat) : Int) = (i : Int) + 1 by omega]
      exact he2
    · have : b < s.heap.objs.size := by
        rw [List.mem_cons, List.mem_singleton] at hb
        rcases hb with rfl | rfl
        · exact be
        · exact bi
      rw [upd_ne (Nat.ne_of_lt this)]
      exact (hf b hb).1
  done := by
    rintro X rfl rfl rfl hc i pins s σ H E I hf ⟨⟨old, he⟩, hi, ne⟩ ⟨xs, hq, hx⟩
    obtain ⟨its, rv, ⟨ot, hot, cot, rt⟩, hz⟩ := I.tuple hq
    have ll := rv.length
    have out : its.toArray[i]? = none := by
      rw [Array.getElem?_eq_none_iff]
      show its.length ≤ i
      omega
    have D : Draws X.prog X.w X.A.in1 it [it, a] 0 (fun _ _ => True) (fun _ h => h.IsTupleIter it a i ∧ h.IsTuple a its.toArray) :=
      { live := fun _ _ st => by
          obtain ⟨⟨o, ho, _⟩, _⟩ := st
          exact ⟨o, ho⟩
        frame := fun _ _ _ st k => ⟨st.1.at fun o q => k it (by simp) o q, st.2.at fun o q => k a (by simp) o q⟩
        item := fun j _ _ _ lt => absurd lt (Nat.not_lt_zero _)
        done := fun t Q E' st q => wpAny_nextOf_tuple_end (I.ok.hd hc) st.1 st.2 out q }
    obtain ⟨f0, f1, f2, f3, f4, f5⟩ := hf it (by simp)
    exact wpAny_pyNext_enum_endD D he ⟨hi, ⟨ot, hot, cot, rt⟩⟩ fun h2 eb => ⟨rfl, I.turned (t' := s.toks) (fun b o nb q => eb b o nb q) f0 f1 f3 f4 f5⟩
def iEnumT (K : PySem.W.Frag) (ta : TA) : TI := fun σ H R => ta σ H fun vs H1 => ∃ a xs, vs = [.ref a] ∧ SqT K H1 a xs ∧ R (IteT K a) H1
theorem pi_enumT {X : Cx} {e : Expr} {ta : TA} {p pos tpos : Pos} {elts : List Expr} {kk : Nat} (hg : Gl X "enumerate") (hm : X.mg "enumerate" = none) (ha : PA X [e] ta) (hs : starEach [e] X.env = [(false, eval e X.env)] := by rfl) :
    PI X (.Tuple elts kk tpos) (.Call (.Name "enumerate" p) [e] [] pos) (iEnumT X.K ta) := by
  constructor
  intro pins s σ H R I h
  refine Call_ (ld_blt I hg hm boot_enumerate (PyProof.Rows.callWith_type1 (thn (ha.run pos pins s σ H _ I h) ?_) hs rfl))
  rintro us s1 ⟨vs, H1, I1, r1, a, xs, rfl, hq, q⟩
  obtain ⟨u, rfl⟩ : ∃ u, us = [u] := by
    cases r1 with
    | cons r rr => cases rr; exact ⟨_, rfl⟩
  obtain rfl : u = Value.ref a := by
    cases r1 with
    | cons r rr => exact r
  obtain ⟨its, rv, tt, hz⟩ := I1.tuple hq
  refine enum_called (begins_tuple a its.toArray) tt fun h2 he hi hk => wpAny_pyIter_enum he ?_
  have I2 : Inv X pins σ H1 { s1 with heap := h2 } := I1.kept (t' := s1.toks) hk
  refine ⟨_, [s1.heap.objs.size + 1, s1.heap.objs.size], _, _, H1, rfl, I2, enum_turn a _ s1.heap.objs.size, ⟨⟨.none, he⟩, ⟨_, hi, rfl, rfl⟩, Nat.succ_ne_self _⟩, fun b hb => ?_, q⟩
  have nb : s1.heap.objs.size ≤ b := by
    rw [List.mem_cons, List.mem_singleton] at hb
    rcases hb with z | z
    · rw [z]
      exact Nat.le_succ _
    · rw [z]
      exact Nat.le_refl _
  exact I1.fpOk nb (I1.hok.fresh nb)
/-- for i, x in enumerate(a tuple) -/
theorem for_enumT {K : PySem.W.Frag} {a : Addr} {xs : List V} {g : TG} {tb : TS} {D : Ends} {σ : L2.St} {H : Hp} (Pv : Nat → L2.St → Hp → Prop) (h0 : Pv 0 σ H) (hq : ∀ i σ H, Pv i σ H → SqT K H a xs)
    (hs : ∀ (i : Nat) (x : V) (T : Addr) (σ : L2.St) (H : Hp), xs[i]? = some x → Pv i σ H → H T = none → g (.ref T) σ (L2.upd H T (.tup [.int (i : Nat), x])) fun σ2 H2 => tb { D with nx := Pv (i + 1), ct := Pv (i + 1), bk := D.nx } σ2 H2)
    (hd : ∀ σ H, Pv xs.length σ H → D.nx σ H) :
    ∃ W : Nat → Nat → L2.St → Hp → Prop, (∃ m, W 0 m σ H) ∧ ∀ i m σ H, W i m σ H →
      ((IteT K a).stop i H ∧ D.nx σ H) ∨ ((IteT K a).go i H ∧ ∃ N : L2.St → Hp → Prop, (∀ σ' H', N σ' H' → ∃ m', m' < m ∧ W (i + 1) m' σ' H') ∧
        ∀ v H', (IteT K a).yld i H v H' → g v σ H' fun σ2 H2 => tb { D with nx := N, ct := N, bk := D.nx } σ2 H2) := by
  refine ⟨fun i m σ H => m = xs.length - i ∧ i ≤ xs.length ∧ Pv i σ H, ⟨xs.length, rfl, Nat.zero_le _, h0⟩, ?_⟩
  rintro i m σ H ⟨rfl, hi, p⟩
  have q := hq i σ H p
  by_cases h : i < xs.length
  · refine .inr ⟨⟨xs, xs[i], q, List.getElem?_eq_getElem h⟩, Pv (i + 1), fun σ' H' p' => ⟨xs.length - (i + 1), by omega, rfl, h, p'⟩, ?_⟩
    rintro v H' ⟨T, x, rfl, hT, rfl, f⟩
    exact hs i x T σ H (f xs q) p hT
  · obtain rfl : i = xs.length := by omega
    exact .inl ⟨⟨xs, q, Nat.le_refl _⟩, hd σ H p⟩
theorem pi_tupK {X : Cx} {K : PySem.W.Frag} {tg l : Expr} {tl : TE} (hK : X.K = K) (hl : PE X l tl) : PI X tg l (iTup K tl) := by subst hK; exact pi_tup hl
end Lb

set_option Elab.async false
set_option linter.all false
set_option maxRecDepth 100000
set_option maxHeartbeats 4000000
namespace Lb
open PySem L2
/-- all but lists is kept -/
def NL (H H' : Hp) : Prop := ∀ b o, (∀ l, o ≠ HO.lst l) → H b = some o → H' b = some o
theorem NL.trans {H H1 H2 : Hp} (h : NL H H1) (k : NL H1 H2) : NL H H2 := fun b o n e => k b o n (h b o n e)
theorem NL.of {H H1 : Hp} (h : L2.Same H H1) : NL H H1 := fun b o _ e => h b o e
theorem NL.refl {H : Hp} : NL H H := fun _ _ _ e => e
theorem NL.mov {p : Addr} {H H1 : Hp} (m : Mov p H H1) (hp : PotAt H p) : NL H H1 := fun b o n e => m.keep b o (fun z => by
  obtain ⟨x, y, q, _⟩ := hp
  rw [z, q] at e
  exact n _ (Option.some.inj e).symm) e
theorem NL.upd {H : Hp} {l : Addr} {ys : List V} {o : HO} (h : H l = some (.lst ys)) : NL H (L2.upd H l o) := fun b u n e => by
  have : b ≠ l := fun z => by
    rw [z, h] at e
    exact n _ (Option.some.inj e).symm
  rw [upd_ne this]
  exact e
theorem Mov.updl {p l : Addr} {H H' : Hp} {o : HO} (m : Mov p H H') (h : H l = none) (n : l ≠ p) : Mov p H (L2.upd H' l o) := by
  refine ⟨fun b u nb e => ?_, ?_⟩
  · rw [upd_ne (ne_of_none e h)]
    exact m.keep b u nb e
  · obtain ⟨x, y, q, z⟩ := m.pot
    exact ⟨x, y, by rw [upd_ne (Ne.symm n)]; exact q, z⟩
theorem Same.free {H H' : Hp} {b : Addr} (s : L2.Same H H') (h : H' b = none) : H b = none := by
  cases z : H b with
  | none => rfl
  | some o =>
    rw [s b o z] at h
    cases h
theorem Fr.nl {p : Addr} {H H' : Hp} {t b : Int} (h : Fr H p t b) (s : NL H H') : Fr H' p t b := s _ _ (fun _ z => nomatch z) h
theorem eqv2 (x y : Int) : PyData.eqv (.list [.int x, .int y]) (.list [.int 0, .int 0]) = (decide (x = 0) && decide (y = 0)) := by
  simp only [PyData.eqv, PyData.eqvAll, Bool.and_true]
  rfl
end Lb

set_option Elab.async false
set_option linter.all false
set_option maxRecDepth 100000
set_option maxHeartbeats 4000000
/-! == of lists and tuples whose items have an own ==: either answer -/
namespace LbE
open PySem PySem.SeqAt
open AutoSeq1 (wpAny_loadPart')
open MeetsSeq MeetsSeq2 MeetsSeq3 SeqRoads2
open GQ (FinOf call_here)
section
variable {prog : Program} {w : World} {A : Around} {R : Result → Shared → Prop}
/-- at each moment the two lists are read anew: N items each; how the i-th two compare -/
def ListB (prog : Program) (w : World) (A : Around) (E : Value → Shared → Prop) (l b : Addr) (N : Nat) (e : Nat → Bool) (I : Shared → Prop) : Prop :=
  ∀ s, I s → ∃ (items items2 : Array Value) (n n2 : Nat), s.heap.get? l = some { cls := .type "list", data := .seq items n } ∧ s.heap.get? b = some { cls := .type "list", data := .seq items2 n2 } ∧ items.size = N ∧ items2.size = N ∧
    ∀ (i : Nat) (h1 : i < items.size) (h2 : i < items2.size), wpAny (model prog w) A.in1 (eqBool items[i] items2[i]) (fun r s' => r = e i ∧ I s') E s
theorem eq_loopB (l b : Addr) (N : Nat) (e : Nat → Bool) (I : Shared → Prop) (hl : ListB prog w A (fun e s' => R (.error e) s') l b N e I) (k : Nat) :
    ∀ i : Nat, N - i = k → i ≤ N → (∀ s, I s → R (.ok (.ret (.bool (((List.range N).drop i).all e)))) s) → ∀ s, I s →
      wpAny (model prog w) A.in1 (Builtin.«list.__eq__.loop» ⟨[.ref l, .ref b, rawInt i, rawInt 2], []⟩) (FinOf prog w A R) (fun e s' => R (.error e) s') s := by
  induction k with
  | zero =>
    intro i hk hi fin s h
    obtain ⟨items, items2, n, n2, hl1, hb1, hs1, hs2, _⟩ := hl _ h
    have hi' : i = N := by omega
    have hd : (List.range N).drop i = [] := by simp; omega
    have hR := fin s h
    rw [hd] at hR
    obtain ⟨hp, g, d, tk, os⟩ := s
    wp_walk using wpAny_loadPart' hl1, wpAny_loadPart' hb1
    have hi1 : items[((i : Nat) : Int).toNat]? = none := by simp; omega
    have hi2 : items2[((i : Nat) : Int).toNat]? = none := by simp; omega
    rw [hi1, hi2]
    wp_walk using wpAny_loadPart' hl1, wpAny_loadPart' hb1
    show R (.ok (.ret (.bool (items.size == items2.size)))) _
    rw [hs1, hs2]
    simpa using hR
  | succ k ih =>
    intro i hk hi fin s h
    obtain ⟨items, items2, n, n2, hl1, hb1, hs1, hs2, turn⟩ := hl _ h
    have hlt : i < items.size := by omega
    have hlt2 : i < items2.size := by omega
    have ht := turn i hlt hlt2
    have hd : (List.range N).drop i = i :: (List.range N).drop (i + 1) := by
      rw [List.drop_eq_getElem_cons (by rw [List.length_range]; omega)]
      simp
    rw [hd] at fin
    obtain ⟨hp, g, d, tk, os⟩ := s
    wp_walk using wpAny_loadPart' hl1, wpAny_loadPart' hb1
    have hi1 : items[((i : Nat) : Int).toNat]? = some items[i] := by simp [hlt]
    have hi2 : items2[((i : Nat) : Int).toNat]? = some items2[i] := by simp [hlt2]
    have hc : ((i : Int) + 1) = ((i + 1 : Nat) : Int) := by omega
    rw [hi1, hi2]
    refine wpAny_bind (wpAny_mono ht (fun r s2 h2 => ?_) fun _ _ x => x)
    obtain ⟨hr, h2⟩ := h2
    subst hr
    cases hb' : e i with
    | true =>
      have hrec := ih (i + 1) (by omega) (by omega) (fun s hs => by
        have := fin s hs
        rw [List.all_cons, hb'] at this
        simpa using this) s2 h2
      obtain ⟨hp2, g2, d2, tk2, os2⟩ := s2
      wp_walk
      rw [hc]
      exact ⟨plainId_quiet plain_eq_loop _, codeAny_builtin entry_eq_loop (by
        rw [Around.under_plainId plain_eq_loop _]
        exact hrec)⟩
    | false =>
      have hR := fin s2 h2
      rw [List.all_cons, hb'] at hR
      obtain ⟨items3, items4, n3, n4, hl3, hb3, hs3, hs4, _⟩ := hl _ h2
      obtain ⟨hp2, g2, d2, tk2, os2⟩ := s2
      wp_walk using wpAny_loadPart' hl3, wpAny_loadPart' hb3
      have hi3 : items3[((i : Nat) : Int).toNat]? = some (items3[i]'(by omega)) := by simp [show i < items3.size by omega]
      have hi4 : items4[((i : Nat) : Int).toNat]? = some (items4[i]'(by omega)) := by simp [show i < items4.size by omega]
      rw [hi3, hi4]
      wp_walk
      simpa using hR
theorem list_eqB (l b : Addr) (N : Nat) (e : Nat → Bool) (I : Shared → Prop) (hl : ListB prog w A (fun e s' => R (.error e) s') l b N e I)
    (fin : ∀ s, I s → R (.ok (.ret (.bool ((List.range N).all e)))) s) {s : Shared} (h : I s) :
    wpAny (model prog w) A.in1 (Builtin.«list.__eq__» ⟨[.ref l, .ref b], []⟩) (FinOf prog w A R) (fun e s' => R (.error e) s') s := by
  obtain ⟨items, items2, n, n2, hl1, hb1, hs1, hs2, _⟩ := hl _ h
  have hrec := eq_loopB (A := A) (R := R) l b N e I hl _ 0 rfl (Nat.zero_le _) (by simpa using fin) s h
  obtain ⟨hp, g, d, tk, os⟩ := s
  have f3 := AutoSeq1.sub_list_list
  have hne : ¬ (items.size != items2.size) = true := by simp [hs1, hs2]
  wp_walk using wpAny_loadPart' hl1, wpAny_loadPart' hb1
  exact ⟨plainId_quiet plain_eq_loop _, codeAny_builtin entry_eq_loop (by
    rw [Around.under_plainId plain_eq_loop _]
    exact hrec)⟩
theorem list_neB (l b : Addr) {items items2 : Array Value} {n n2 : Nat} {s : Shared} (hl1 : s.heap.get? l = some { cls := .type "list", data := .seq items n }) (hb1 : s.heap.get? b = some { cls := .type "list", data := .seq items2 n2 }) (hs : items.size ≠ items2.size)
    (fin : R (.ok (.ret (.bool false))) s) :
    wpAny (model prog w) A.in1 (Builtin.«list.__eq__» ⟨[.ref l, .ref b], []⟩) (FinOf prog w A R) (fun e s' => R (.error e) s') s := by
  obtain ⟨hp, g, d, tk, os⟩ := s
  have f3 := AutoSeq1.sub_list_list
  have hne : (items.size != items2.size) = true := by simp [hs]
  wp_walk using wpAny_loadPart' hl1, wpAny_loadPart' hb1
  exact fin
theorem tuple_eqB (l b : Addr) (items items2 : Array Value) (n n2 : Nat) (dd dd2 : Option Addr) (sl sl2 : Array (Option Value)) (hsz : items.size = items2.size) (e : Nat → Bool) (I : Shared → Prop)
    (turn : ∀ i (h1 : i < items.size) (h2 : i < items2.size) s, I s → wpAny (model prog w) A.in1 (eqBool items[i] items2[i]) (fun r s' => r = e i ∧ I s') (fun e s' => R (.error e) s') s)
    (fin : ∀ s, I s → R (.ok (.ret (.bool ((List.range items.size).all e)))) s) {s : Shared} (hl1 : s.heap.get? l = some { cls := .type "tuple", dict := dd, data := .seq items n, slots := sl }) (hb1 : s.heap.get? b = some { cls := .type "tuple", dict := dd2, data := .seq items2 n2, slots := sl2 }) (h : I s) :
    wpAny (model prog w) A.in1 (Builtin.«tuple.__eq__» ⟨[.ref l, .ref b], []⟩) (FinOf prog w A R) (fun e s' => R (.error e) s') s := by
  have f2 := AutoSeq1.sub_tuple_tuple
  have hZ : (items.toList.zip items2.toList).length = items.size := by simp [hsz]
  have h0 := h
  obtain ⟨hp, g, d, tk, os⟩ := s
  wp_walk using wpAny_loadPart' hl1, wpAny_loadPart' hb1, wpAny_forIn_list _ (fun rest b s' => I s' ∧ ∃ i, i ≤ items.size ∧ ((b.1 = none ∧ rest = (items.toList.zip items2.toList).drop i ∧ ((List.range items.size).take i).all e = true))) _
  case turn =>
    rintro ⟨y, x⟩ rest b s' ⟨hI, i, hi, hb', hz, hall⟩
    have hlt : i < (items.toList.zip items2.toList).length := by
      rcases Nat.lt_or_ge i (items.toList.zip items2.toList).length with h' | h'
      · exact h'
      · rw [List.drop_of_length_le h'] at hz; cases hz
    have h1 : i < items.size := hZ ▸ hlt
    have h2 : i < items2.size := hsz ▸ h1
    rw [List.drop_eq_getElem_cons hlt] at hz
    injection hz with hyx hrest
    have hy : y = items[i] := by have := congrArg Prod.fst hyx; simpa using this
    have hx : x = items2[i] := by have := congrArg Prod.snd hyx; simpa using this
    subst hy hx
    refine wpAny_bind (wpAny_mono (turn i h1 h2 s' hI) (fun r s2 q2 => ?_) fun _ _ x => x)
    obtain ⟨hr, q2⟩ := q2
    subst hr
    cases he : e i with
    | true =>
      wp_walk
      refine ⟨q2, i + 1, h1, rfl, hrest, ?_⟩
      rw [List.take_succ, List.all_append, hall, List.getElem?_range h1]
      simp [he]
    | false =>
      have hR : R (.ok (.ret (.bool false))) s2 := by
        have := fin s2 q2
        have e1 : (List.range items.size).all e = false := List.all_eq_false.mpr ⟨i, List.mem_range.mpr h1, by simp [he]⟩
        rw [e1] at this
        exact this
      wp_walk
      exact hR
  case fin =>
    rintro ⟨b1, b2⟩ s' ⟨hI, i, hi, hb', hz, hall⟩
    simp only at hb'
    subst hb'
    have hge : items.size ≤ i := by
      rcases Nat.lt_or_ge i (items.toList.zip items2.toList).length with h' | h'
      · rw [List.drop_eq_getElem_cons h'] at hz; cases hz
      · exact hZ ▸ h'
    have hi' : i = items.size := by omega
    have e1 : (List.range items.size).all e = true := by
      rw [hi', List.take_of_length_le (by simp)] at hall
      exact hall
    have hR : R (.ok (.ret (.bool true))) s' := by
      have := fin s' hI
      rw [e1] at this
      exact this
    wp_walk
    simpa [Builtin.Tuple.tupleCompareSizes, hsz] using hR
  case h =>
    exact ⟨h0, 0, Nat.zero_le _, rfl, rfl, rfl⟩
end
section
variable {prog : Program} {w : World} {A : Around} {E : Value → Shared → Prop} {s : Shared}
theorem rc_listB {l b : Addr} {N : Nat} {e : Nat → Bool} {Q : Value → Shared → Prop} (hu : A.units < cLine) (I : Shared → Prop) (hl : ListB prog w A E l b N e I)
    (fin : ∀ s, I s → Q (.bool ((List.range N).all e)) s) (h : I s) : wpAny (model prog w) A (richCompare .Eq (.ref l) (.ref b)) Q E s := by
  obtain ⟨items, items2, n, n2, hl1, hb1, _, _, _⟩ := hl _ h
  refine wpAny_richCompare_same_room (op := .Eq) ⟨_, hl1, rfl⟩ ⟨_, hb1, rfl⟩ F.slot_list_eq (call_here F.slot_list_eq ⟨_, hl1, rfl⟩ F.entry_list_eq (F.args_list_eq_2 _ _) ?_) hu
  exact list_eqB (R := wants (fun v s' => v ≠ .notImplemented ∧ Q v s') E) l b N e I hl (fun s' q => ⟨(fun x => nomatch x), fin s' q⟩) h
theorem rc_listN {l b : Addr} {items items2 : Array Value} {n n2 : Nat} {Q : Value → Shared → Prop} (hu : A.units < cLine) (hl1 : s.heap.get? l = some { cls := .type "list", data := .seq items n }) (hb1 : s.heap.get? b = some { cls := .type "list", data := .seq items2 n2 }) (hs : items.size ≠ items2.size)
    (fin : Q (.bool false) s) : wpAny (model prog w) A (richCompare .Eq (.ref l) (.ref b)) Q E s := by
  refine wpAny_richCompare_same_room (op := .Eq) ⟨_, hl1, rfl⟩ ⟨_, hb1, rfl⟩ F.slot_list_eq (call_here F.slot_list_eq ⟨_, hl1, rfl⟩ F.entry_list_eq (F.args_list_eq_2 _ _) ?_) hu
  exact list_neB (R := wants (fun v s' => v ≠ .notImplemented ∧ Q v s') E) l b hl1 hb1 hs ⟨(fun x => nomatch x), fin⟩
theorem rc_tupB {l b : Addr} {items items2 : Array Value} {Q : Value → Shared → Prop} {e : Nat → Bool} (hsz : items.size = items2.size) (hu : A.units < cLine) (I : Shared → Prop)
    (hl : s.heap.IsTuple l items) (hb : s.heap.IsTuple b items2)
    (turn : ∀ i (h1 : i < items.size) (h2 : i < items2.size) s, I s → wpAny (model prog w) A.in1 (eqBool items[i] items2[i]) (fun r s' => r = e i ∧ I s') E s)
    (fin : ∀ s, I s → Q (.bool ((List.range items.size).all e)) s) (h : I s) : wpAny (model prog w) A (richCompare .Eq (.ref l) (.ref b)) Q E s := by
  obtain ⟨⟨cls, dd, data, sl⟩, ho, hc, n, hd⟩ := id hl
  obtain ⟨⟨cls2, dd2, data2, sl2⟩, ho2, hc2, n2, hd2⟩ := id hb
  simp only at hc hd hc2 hd2
  subst hc hd hc2 hd2
  refine wpAny_richCompare_same_room (op := .Eq) ⟨_, ho, rfl⟩ ⟨_, ho2, rfl⟩ F.slot_tuple_eq (call_here F.slot_tuple_eq ⟨_, ho, rfl⟩ F.entry_tuple_eq (F.args_tuple_eq_2 _ _) ?_) hu
  exact tuple_eqB (R := wants (fun v s' => v ≠ .notImplemented ∧ Q v s') E) l b items items2 n n2 dd dd2 sl sl2 hsz e I turn (fun s' q => ⟨(fun x => nomatch x), fin s' q⟩) ho ho2 h
end
end LbE
namespace Lb
open PySem PySem.Spec PyProof.Rows L2
/-- how two values compare, by the abstract heap -/
abbrev EqvB := V → V → Hp → Bool → Prop
def MonB (D : EqvB) : Prop := ∀ x y H H' c, Ext H H' → D x y H c → D x y H' c
def EqGB (X : Cx) (n : Nat) (D : EqvB) : Prop :=
  ∀ (A : Around) (pins : List (Addr × Obj)) (s : Shared) (σ : L2.St) (H : Hp) (x y : V) (u v : Value) (c : Bool), L2.Sub X n A → Inv X pins σ H s → RelV x u → RelV y v → D x y H c →
    wpAny (model X.prog X.w) A (eqBool u v) (fun r s' => r = c ∧ ∃ H', Inv X pins σ H' s' ∧ Ext H H') X.xe s
def RcGB (X : Cx) (n : Nat) (D : EqvB) : Prop :=
  ∀ (A : Around) (pins : List (Addr × Obj)) (s : Shared) (σ : L2.St) (H : Hp) (x y : V) (u v : Value) (c : Bool), L2.Sub X n A → Inv X pins σ H s → RelV x u → RelV y v → D x y H c →
    wpAny (model X.prog X.w) A (richCompare .Eq u v) (fun r s' => r = .bool c ∧ ∃ H', Inv X pins σ H' s' ∧ Ext H H') X.xe s
section
variable {X : Cx} {n m : Nat} {D D' : EqvB}
theorem EqGB.mono (h : EqGB X n D) (hn : n ≤ m) : EqGB X m D := fun A pins s σ H x y u v c sb => h A pins s σ H x y u v c (sb.mono hn)
theorem EqGB.or (h : EqGB X n D) (h' : EqGB X n D') : EqGB X n (fun x y H c => D x y H c ∨ D' x y H c) := fun A pins s σ H x y u v c sb I rx ry d => by
  rcases d with d | d
  · exact h A pins s σ H x y u v c sb I rx ry d
  · exact h' A pins s σ H x y u v c sb I rx ry d
theorem MonB.or (h : MonB D) (h' : MonB D') : MonB (fun x y H c => D x y H c ∨ D' x y H c) := fun x y H H' c e d => d.elim (fun d => .inl (h x y H H' c e d)) fun d => .inr (h' x y H H' c e d)
/-- item by item -/
structure PrsB (D : EqvB) (xs ys : List V) (H : Hp) (e : Nat → Bool) : Prop where
  len : xs.length = ys.length
  at_ : ∀ (i : Nat) x y, xs[i]? = some x → ys[i]? = some y → D x y H (e i)
theorem PrsB.mon (hD : MonB D) {xs ys : List V} {H H' : Hp} {c : Nat → Bool} (e : Ext H H') (p : PrsB D xs ys H c) : PrsB D xs ys H' c := ⟨p.len, fun i x y h1 h2 => hD x y H H' _ e (p.at_ i x y h1 h2)⟩
theorem turnB (hD : MonB D) (h : EqGB X n D) {A : Around} (sb : L2.Sub X (n + 1) A) {pins : List (Addr × Obj)} {σ : L2.St} {H : Hp} {xs ys : List V} {its its2 : List Value} {e : Nat → Bool} (p : PrsB D xs ys H e) (r : Vals xs its) (r2 : Vals ys its2)
    (i : Nat) (h1 : i < its.toArray.size) (h2 : i < its2.toArray.size) (s' : Shared) (l : LoopI X pins σ H s') :
    wpAny (model X.prog X.w) A.in1 (eqBool its.toArray[i] its2.toArray[i]) (fun r s2 => r = e i ∧ LoopI X pins σ H s2) X.xe s' := by
  obtain ⟨H1, I1, e1⟩ := l
  have g1 : its[i]? = some its.toArray[i] := by
    have h1' : i < its.length := by simpa using h1
    rw [List.getElem?_eq_getElem h1'] <;> simp
  have g2 : its2[i]? = some its2.toArray[i] := by
    have h2' : i < its2.length := by simpa using h2
    rw [List.getElem?_eq_getElem h2'] <;> simp
  have k1 : i < xs.length := by rw [r.length]; simpa using h1
  have k2 : i < ys.length := by rw [r2.length]; simpa using h2
  obtain ⟨u, hu, ru⟩ := r.get (List.getElem?_eq_getElem k1)
  obtain ⟨v, hv, rv⟩ := r2.get (List.getElem?_eq_getElem k2)
  rw [g1] at hu
  rw [g2] at hv
  rw [Option.some.inj hu, Option.some.inj hv]
  refine wpAny_mono (h A.in1 pins s' σ H1 _ _ u v _ sb.in1 I1 ru rv (hD _ _ _ _ _ e1 (p.at_ i _ _ (List.getElem?_eq_getElem k1) (List.getElem?_eq_getElem k2)))) (fun r s2 q => ?_) fun _ _ x => x
  obtain ⟨hr, H2, I2, e2⟩ := q
  exact ⟨hr, H2, I2, e1.trans e2⟩
def DListB (D : EqvB) : EqvB := fun x y H c => ∃ a b xs ys, x = .ref a ∧ y = .ref b ∧ H a = some (.lst xs) ∧ H b = some (.lst ys) ∧ ((xs.length ≠ ys.length ∧ c = false) ∨ ∃ e, PrsB D xs ys H e ∧ c = (List.range xs.length).all e)
def DTupB (K : PySem.W.Frag) (D : EqvB) : EqvB := fun x y H c => ∃ a b xs ys e, x = .ref a ∧ y = .ref b ∧ SqT K H a xs ∧ SqT K H b ys ∧ PrsB D xs ys H e ∧ c = (List.range xs.length).all e
theorem mon_listB (hD : MonB D) : MonB (DListB D) := fun x y H H' c e d => by
  obtain ⟨a, b, xs, ys, hx, hy, h1, h2, p⟩ := d
  exact ⟨a, b, xs, ys, hx, hy, e _ _ h1, e _ _ h2, p.imp id fun ⟨f, p, q⟩ => ⟨f, p.mon hD e, q⟩⟩
theorem mon_tupB {K : PySem.W.Frag} (hD : MonB D) : MonB (DTupB K D) := fun x y H H' c e d => by
  obtain ⟨a, b, xs, ys, f, hx, hy, h1, h2, p, q⟩ := d
  exact ⟨a, b, xs, ys, f, hx, hy, L2.SqT.ext h1 e, L2.SqT.ext h2 e, p.mon hD e, q⟩
theorem rcGB_list (hD : MonB D) (h : EqGB X n D) : RcGB X (n + 1) (DListB D) := by
  intro A pins s σ H x y u v c sb I rx ry d
  obtain ⟨a, b, xs, ys, rfl, rfl, ha, hb, p⟩ := d
  cases rx
  cases ry
  rcases p with ⟨hne, rfl⟩ | ⟨f, p, rfl⟩
  · obtain ⟨z, its, k, r, e⟩ := I.hok a _ ha
    obtain ⟨z2, its2, k2, r2, e2⟩ := I.hok b _ hb
    refine LbE.rc_listN sb.room.units0 e e2 ?_ ⟨rfl, H, I, Ext.rfl'⟩
    rw [List.size_toArray, List.size_toArray, ← r.length, ← r2.length]
    exact hne
  · refine LbE.rc_listB (N := xs.length) (e := f) sb.room.units0 (fun s' => LoopI X pins σ H s') (fun s' q => ?_) (fun s' q => ⟨rfl, q⟩) ⟨H, I, Ext.rfl'⟩
    obtain ⟨H1, I1, e1⟩ := id q
    obtain ⟨z, its, k, r, e⟩ := I1.hok a _ (e1 _ _ ha)
    obtain ⟨z2, its2, k2, r2, e2⟩ := I1.hok b _ (e1 _ _ hb)
    refine ⟨its.toArray, its2.toArray, k, k2, e, e2, by rw [List.size_toArray, ← r.length], by rw [List.size_toArray, ← r2.length, ← p.len], fun i h1 h2 => ?_⟩
    exact turnB hD h sb p r r2 i h1 h2 s' q
theorem rcGB_tup (hD : MonB D) (h : EqGB X n D) : RcGB X (n + 1) (DTupB X.K D) := by
  intro A pins s σ H x y u v c sb I rx ry d
  obtain ⟨a, b, xs, ys, f, rfl, rfl, ha, hb, p, rfl⟩ := d
  cases rx
  cases ry
  obtain ⟨its, r, e, z⟩ := I.tuple ha
  obtain ⟨its2, r2, e2, z2⟩ := I.tuple hb
  have hsz : its.toArray.size = its2.toArray.size := by rw [List.size_toArray, List.size_toArray, ← r.length, ← r2.length]; exact p.len
  refine LbE.rc_tupB (e := f) hsz sb.room.units0 (fun s' => LoopI X pins σ H s') e e2 (fun i h1 h2 s' q => turnB hD h sb p r r2 i h1 h2 s' q) (fun s' q => ?_) ⟨H, I, Ext.rfl'⟩
  rw [List.size_toArray, ← r.length]
  exact ⟨rfl, q⟩
/-- from a rich comparison of references to == inside a list or tuple: the same object is equal to itself -/
theorem RcGB.eqG (h : RcGB X n D) (hr : ∀ x y H c, D x y H c → ∃ a b, x = .ref a ∧ y = .ref b ∧ (a = b → c = true)) : EqGB X n D := by
  intro A pins s σ H x y u v c sb I rx ry d
  obtain ⟨a, b, rfl, rfl, hs⟩ := hr _ _ _ _ d
  cases rx
  cases ry
  by_cases hab : a = b
  · obtain rfl := hs hab
    subst hab
    exact SeqAt.EqAt.same (A := A) (s := s) (.ref a) X.prog X.w X.xe _ ⟨rfl, H, I, Ext.rfl'⟩
  · refine GQ.eqBool_refG hab (wpAny_mono (h A pins s σ H (.ref a) (.ref b) _ _ c sb I rfl rfl d) (fun r s' q => ?_) fun _ _ x => x)
    obtain ⟨hr', q⟩ := q
    exact ⟨c, hr', rfl, q⟩
/-- instances of the class at C with the text's own == -/
def DInsB (C : Addr) (R : Addr → Addr → Hp → Bool → Prop) : EqvB := fun x y H c => ∃ a b dx dy fs gs, x = .ref a ∧ y = .ref b ∧ H a = some (.ins C dx fs) ∧ H b = some (.ins C dy gs) ∧ R a b H c
theorem mon_insB {C : Addr} {R : Addr → Addr → Hp → Bool → Prop} (hR : ∀ a b H H' c, Ext H H' → R a b H c → R a b H' c) : MonB (DInsB C R) := fun x y H H' c e d => by
  obtain ⟨a, b, dx, dy, fs, gs, hx, hy, h1, h2, r⟩ := d
  exact ⟨a, b, dx, dy, fs, gs, hx, hy, e _ _ h1, e _ _ h2, hR a b H H' c e r⟩
theorem rcGB_ins {CX : CXT} {C f : Addr} {fd : FuncData} {ps : List Str} {sp : Sp} {R : Addr → Addr → Hp → Bool → Prop} {E : XK} (F : FnOk X.prog X.w X.K X.mg X.base CX n f fd ps sp)
    (hR : ∀ a b H c, R a b H c → ∀ Q : VK, (∀ H', Ext H H' → Q (.bl c) H') → sp [.ref a, .ref b] H Q E)
    (hs : PySem.W.findIn X.K (.ref C) "__eq__" = some (some (.ref f))) (hf : PySem.W.isFn X.K (.ref f) = true) (hb : Binds X.K fd ps []) (hx : Passes CX X E) : RcGB X n (DInsB C R) := by
  intro A pins s σ H x y u v c sb I rx ry d
  obtain ⟨a, b, dx, dy, fs, gs, rfl, rfl, ha, hb', hr⟩ := d
  cases rx
  cases ry
  obtain ⟨mA, J, _⟩ := ins_get I.hok ha
  obtain ⟨mB, J', _⟩ := ins_get I.hok hb'
  obtain ⟨od, J, _⟩ := J.look
  obtain ⟨od', J', _⟩ := J'.look
  obtain ⟨m, hF⟩ := I.fr
  refine PySem.W.cmp_K (op := .Eq) (tb := .ref C) sb.room.units0 hF I.ok.mod.kin J J'.type (by simp [PySem.W.notFirst]) hs hf ?_
  have hsp := hR a b H c hr (fun v H' => v = .bl c ∧ Ext H H') fun H' e => ⟨rfl, e⟩
  have e0 : Env0 X.prog X.w X.K X.mg X.base A X.stack s H := by
    have e := I.env0
    exact ⟨by rw [sb.fr]; exact e.frames, e.mod, e.bs, e.bsz, e.funs, e.frf, e.hok, e.bare⟩
  have hl := F.len _ _ _ _ hsp
  have r2 : Vals [V.ref a, V.ref b] [Value.ref a, Value.ref b] := .cons rfl (.cons rfl .nil)
  refine wpAny_call (codeAny_mono (F.run A X.stack s H ⟨[.ref a, .ref b], []⟩ [.ref a, .ref b] [.ref a, .ref b] _ E sb.room e0 (by
    have := hb s [.ref a, .ref b] I.kIn (by simpa using hl)
    simpa using this) r2 hsp) fun r s' hq => ?_)
  cases r with
  | error e => exact hx pins σ H s e s' I hq
  | ok fl =>
    cases fl with
    | ret w =>
      obtain ⟨z, H', I', rz, ez, ex⟩ := I.after hq
      subst ez
      cases rz
      exact ⟨rfl, H', I', ex⟩
    | next => exact False.elim hq
    | brk => exact False.elim hq
    | cont => exact False.elim hq
/-- x == y as an expression -/
def rEqGB (D : EqvB) : R2 := fun x y H Q => ∃ c, D x y H c ∧ ∀ H', Ext H H' → Q (.bl c) H'
theorem op_eqGB (h : RcGB X n D) (hr : Room n X.A) : OpR X (compareOp .Eq) (rEqGB D) := by
  intro pins s σ H x y v u Q I rx ry hq
  obtain ⟨c, d, q⟩ := hq
  show wpAny (model X.prog X.w) X.A (richCompare .Eq v u) (EP X pins σ Q) X.xe s
  refine wpAny_mono (h X.A pins s σ H x y v u c ⟨hr, rfl⟩ I rx ry d) (fun r s' z => ?_) fun _ _ x => x
  obtain ⟨hr', H', I', e⟩ := z
  subst hr'
  exact ⟨.bl c, H', I', rfl, q H' e⟩
end
end Lb

set_option Elab.async false
set_option linter.all false
set_option maxRecDepth 100000
set_option maxHeartbeats 4000000
/-! list(zip(a, b)): a, b two tuples or two lists -/
namespace LbZ
open PySem PyProof.Rows

section
variable {prog : Program} {w : World} {A : Around} {E : Value → Shared → Prop} {s : Shared}
/-- one step of a zip of tuples whose last pair is still held -/
theorem heldT_item {z TI TO T i1 i2 l1 l2 : Addr} {f : Bool} {oT : Obj} {k : Nat} {xs ys : Array Value} {x y : Value} {Q : Option Value → Shared → Prop} (D : ZipApart z TI TO i1 i2 l1 l2)
    (hz : IsZipHeld s.heap z TI TO T f) (hT : s.heap.get? T = some oT) (hTI : IsPair s.heap TI (.ref i1) (.ref i2))
    (j1 : s.heap.IsTupleIter i1 l1 k) (j2 : s.heap.IsTupleIter i2 l2 k) (t1 : s.heap.IsTuple l1 xs) (t2 : s.heap.IsTuple l2 ys) (hx : xs[k]? = some x) (hy : ys[k]? = some y)
    (go : ∀ h', IsZipHeld h' z TI TO T true → h'.IsTupleIter i1 l1 (k + 1) → h'.IsTupleIter i2 l2 (k + 1) → IsPair h' s.heap.objs.size x y →
      (∀ c o, c ≠ z → c ≠ i1 → c ≠ i2 → s.heap.get? c = some o → h'.get? c = some o) → Q (some (.ref s.heap.objs.size)) { s with heap := h' }) :
    wpAny (model prog w) A (pyNext (.ref z)) Q E s := by
  have ty : s.TypeIs (.ref z) "zip" := ⟨_, hz, rfl⟩
  unfold pyNext
  refine wpAny_bind (wpAny_attempt (wpAny_callSpecial?_slot (name := Str.ofString "__next__") ty F.slot_zip_next (wpAny_call_entry F.slot_zip_next ty F.entry_zip_next ?_ (F.args_zip_next_1 _))))
  show wpAny _ _ (field (.ref z) 2 >>= _) _ _ _
  refine wpAny_bind (wpAny_field hz rfl (x := .bool false) rfl ?_)
  show wpAny _ _ (field (.ref z) 3 >>= _) _ _ _
  refine wpAny_bind (wpAny_field hz rfl (x := .ref TI) rfl (wpAny_bind (wpAny_seqItems hTI rfl ?_)))
  show wpAny _ _ (Builtin.SmallTypes.ownedTupleIsFree (.ref z) >>= _) _ _ _
  refine wpAny_bind (wpAny_tupleHeld_zip hz hT fun ha za sa => ?_)
  simp only [Bool.false_eq_true, if_false]
  refine wpAny_bind ?_
  rw [← Array.forIn_toList]
  simp only [List.forIn_cons, List.forIn_nil]
  refine wpAny_bind (wpAny_bind (wpAny_holding ?_))
  show wpAny _ _ (Builtin.SmallTypes.nextOf (.ref i1) >>= _) _ _ _
  refine wpAny_bind (RZ.nextOf_tuple_item (s := { s with heap := ha }) (j1.extBut sa.extBut D.i1z) (t1.extBut sa.extBut D.l1z) hx fun hb j1b sb => wpAny_pure (wpAny_pure ?_))
  refine wpAny_bind (wpAny_bind (wpAny_holding ?_))
  show wpAny _ _ (Builtin.SmallTypes.nextOf (.ref i2) >>= _) _ _ _
  refine wpAny_bind (RZ.nextOf_tuple_item (s := { s with heap := hb }) ((j2.extBut sa.extBut D.i2z).extBut sb.extBut D.i12.symm) ((t2.extBut sa.extBut D.l2z).extBut sb.extBut D.l2i1) hy fun hc j2c sc => wpAny_pure (wpAny_pure (wpAny_pure ?_)))
  show wpAny _ _ (newTuple [x, y] >>= _) _ _ _
  refine wpAny_bind (wpAny_newTuple (wpAny_pure ⟨_, rfl, wpAny_pure ?_⟩))
  have sz : hc.objs.size = s.heap.objs.size := by rw [sc.1, sb.1, sa.1]
  have zc : IsZipHeld hc z TI TO T true := sc.extBut _ _ D.i2z.symm (sb.extBut _ _ D.i1z.symm za)
  have j1c : hc.IsTupleIter i1 l1 (k + 1) := j1b.extBut sc.extBut D.i12
  have pr : IsPair (hc.push { cls := .type "tuple", data := .seq #[x, y] }) hc.objs.size x y := Heap.get?_push_size _ rfl
  show Q (some (.ref hc.objs.size)) _
  rw [sz] at pr ⊢
  exact go _ (Heap.get?_push_of_some _ zc) (j1c.at fun o e => Heap.get?_push_of_some _ e) (j2c.at fun o e => Heap.get?_push_of_some _ e) pr
    fun c o n1 n2 n3 e => Heap.get?_push_of_some _ (sc.extBut _ _ n3 (sb.extBut _ _ n2 (sa.extBut _ _ n1 e)))
theorem heldT_end {z TI TO T i1 i2 l1 l2 : Addr} {f : Bool} {oT : Obj} {k : Nat} {xs ys : Array Value} {Q : Option Value → Shared → Prop} (hh : A.handled = none) (D : ZipApart z TI TO i1 i2 l1 l2)
    (hz : IsZipHeld s.heap z TI TO T f) (hT : s.heap.get? T = some oT) (hTI : IsPair s.heap TI (.ref i1) (.ref i2))
    (j1 : s.heap.IsTupleIter i1 l1 k) (j2 : s.heap.IsTupleIter i2 l2 k) (t1 : s.heap.IsTuple l1 xs) (t2 : s.heap.IsTuple l2 ys) (over : xs[k]? = none ∨ ys[k]? = none)
    (go : ∀ h', (∀ c o, c ≠ z → c ≠ i1 → c ≠ i2 → s.heap.get? c = some o → h'.get? c = some o) → Q none { s with heap := h' }) : wpAny (model prog w) A (pyNext (.ref z)) Q E s := by
  have ty : s.TypeIs (.ref z) "zip" := ⟨_, hz, rfl⟩
  have out : ∀ h' e, (∀ c o, c ≠ z → c ≠ i1 → c ≠ i2 → s.heap.get? c = some o → h'.get? c = some o) → (∃ o, h'.get? e = some o ∧ o.cls = .type "StopIteration") →
      wpAny (model prog w) A (do if ← isInstance (.ref e) (.type "StopIteration") then pure (none : Option Value) else throw (.ref e)) Q E { s with heap := h' } := fun h' e hk ⟨o, ho, hc⟩ =>
    wpAny_bind (wpAny_isInstance (T := "StopIteration") (b := true) ⟨o, ho, hc⟩ isSubtype_stop (wpAny_pure (go _ hk)))
  unfold pyNext
  refine wpAny_bind (wpAny_attempt (wpAny_callSpecial?_slot (name := Str.ofString "__next__") ty F.slot_zip_next (wpAny_call_entry F.slot_zip_next ty F.entry_zip_next ?_ (F.args_zip_next_1 _))))
  show wpAny _ _ (field (.ref z) 2 >>= _) _ _ _
  refine wpAny_bind (wpAny_field hz rfl (x := .bool false) rfl ?_)
  show wpAny _ _ (field (.ref z) 3 >>= _) _ _ _
  refine wpAny_bind (wpAny_field hz rfl (x := .ref TI) rfl (wpAny_bind (wpAny_seqItems hTI rfl ?_)))
  show wpAny _ _ (Builtin.SmallTypes.ownedTupleIsFree (.ref z) >>= _) _ _ _
  refine wpAny_bind (wpAny_tupleHeld_zip hz hT fun ha za sa => ?_)
  simp only [Bool.false_eq_true, if_false]
  refine wpAny_bind ?_
  rw [← Array.forIn_toList]
  simp only [List.forIn_cons, List.forIn_nil]
  refine wpAny_bind (wpAny_bind (wpAny_holding ?_))
  show wpAny _ _ (Builtin.SmallTypes.nextOf (.ref i1) >>= _) _ _ _
  cases hx : xs[k]? with
  | none =>
    refine wpAny_bind (RZ.nextOf_tuple_end (s := { s with heap := ha }) hh (j1.extBut sa.extBut D.i1z) (t1.extBut sa.extBut D.l1z) hx fun hb e sb he => ?_)
    exact out hb e (fun c o n1 n2 _ q => sb _ _ n2 (sa.extBut _ _ n1 q)) he
  | some x =>
    have hy : ys[k]? = none := by
      rcases over with h | h
      · rw [hx] at h; cases h
      · exact h
    refine wpAny_bind (RZ.nextOf_tuple_item (s := { s with heap := ha }) (j1.extBut sa.extBut D.i1z) (t1.extBut sa.extBut D.l1z) hx fun hb j1b sb => wpAny_pure (wpAny_pure ?_))
    refine wpAny_bind (wpAny_bind (wpAny_holding ?_))
    show wpAny _ _ (Builtin.SmallTypes.nextOf (.ref i2) >>= _) _ _ _
    refine wpAny_bind (RZ.nextOf_tuple_end (s := { s with heap := hb }) hh ((j2.extBut sa.extBut D.i2z).extBut sb.extBut D.i12.symm) ((t2.extBut sa.extBut D.l2z).extBut sb.extBut D.l2i1) hy fun hc e sc he => ?_)
    exact out hc e (fun c o n1 n2 n3 q => sc _ _ n3 (sb.extBut _ _ n2 (sa.extBut _ _ n1 q))) he
end
end LbZ
namespace LbZ
open PySem
theorem zip_no_len : typeLookup (.type "zip") "__len__" = pure none := am_miss_of_fast (by decide +kernel)
theorem zip_no_hint : typeLookup (.type "zip") "__length_hint__" = pure none := am_miss_of_fast (by decide +kernel)
end LbZ
namespace Lb
open PySem PySem.Spec PyProof.Rows L2
/-- how a zip of the tuples at a and b stands before its turn i -/
structure ZSt (H : Hp) (h : Heap) (z TI TO i1 i2 a b : Addr) (i : Nat) : Prop where
  zip : IsZip h z TI TO .none ∨ ∃ T fl ys, IsZipHeld h z TI TO T fl ∧ H T = some (.tup ys)
  ti : IsPair h TI (.ref i1) (.ref i2)
  to : ∃ x y, IsPair h TO x y
  j1 : h.IsTupleIter i1 a i
  j2 : h.IsTupleIter i2 b i
theorem ZSt.live {H : Hp} {h : Heap} {z TI TO i1 i2 a b c : Addr} {i : Nat} (st : ZSt H h z TI TO i1 i2 a b i) (hc : c ∈ [z, TI, TO, i1, i2]) : ∃ o, h.get? c = some o := by
  simp only [List.mem_cons, List.not_mem_nil, or_false] at hc
  rcases hc with rfl | rfl | rfl | rfl | rfl
  · rcases st.zip with h | ⟨_, _, _, h, _⟩
    · exact ⟨_, h⟩
    · exact ⟨_, h⟩
  · exact ⟨_, st.ti⟩
  · obtain ⟨_, _, e⟩ := st.to
    exact ⟨_, e⟩
  · obtain ⟨o, e, _⟩ := st.j1
    exact ⟨o, e⟩
  · obtain ⟨o, e, _⟩ := st.j2
    exact ⟨o, e⟩
section
variable {X : Cx} {pins : List (Addr × Obj)} {σ : L2.St} {H : Hp} {s : Shared} {z TI TO i1 i2 a b q : Addr} {i : Nat} {xs ys : List V} {A : Around} {E : Value → Shared → Prop}
theorem FpOk.other {H' : Hp} {c : Addr} (f : FpOk X pins H c) (h : H' c = none) : FpOk X pins H' c := ⟨h, f.2⟩
abbrev Chain (X : Cx) (pins : List (Addr × Obj)) (H : Hp) (z TI TO i1 i2 : Addr) : Prop := ∀ c ∈ [z, TI, TO, i1, i2], FpOk X pins H c
theorem zip_turn {x y : V} (D : ZipApart z TI TO i1 i2 a b) (I : Inv X pins σ H s) (hf : Chain X pins H z TI TO i1 i2) (st : ZSt H s.heap z TI TO i1 i2 a b i)
    (qx : SqT X.K H a xs) (qy : SqT X.K H b ys) (hx : xs[i]? = some x) (hy : ys[i]? = some y) :
    wpAny (model X.prog X.w) A (pyNext (.ref z)) (fun r s' => ∃ T, r = some (.ref T) ∧ H T = none ∧ Inv X pins σ (L2.upd H T (.tup [x, y])) s' ∧ ZSt (L2.upd H T (.tup [x, y])) s'.heap z TI TO i1 i2 a b (i + 1) ∧ Chain X pins (L2.upd H T (.tup [x, y])) z TI TO i1 i2) E s := by
  obtain ⟨its, rv, p, _⟩ := I.tuple qx
  obtain ⟨its2, rv2, p2, _⟩ := I.tuple qy
  obtain ⟨u, hu, ru⟩ := rv.get hx
  obtain ⟨u2, hu2, ru2⟩ := rv2.get hy
  have fr : H s.heap.objs.size = none := I.hok.fresh (Nat.le_refl _)
  have chain : Chain X pins (L2.upd H s.heap.objs.size (.tup [x, y])) z TI TO i1 i2 := fun c hc =>
    let ⟨o, e⟩ := st.live hc
    FpOk.other (hf c hc) (by rw [upd_ne (Nat.ne_of_lt (Heap.lt_size e))]; exact (hf c hc).1)
  have new : ∀ {h' : Heap}, IsPair h' s.heap.objs.size u u2 → ObjOk X.prog X.w (L2.upd H s.heap.objs.size (.tup [x, y])) h' s.heap.objs.size (.tup [x, y]) := fun hT =>
    ⟨by show 2 ≤ sizeLine; decide, [u, u2], .cons ru (.cons ru2 .nil), ⟨_, hT, rfl, _, rfl⟩⟩
  obtain ⟨v, w, hTO⟩ := st.to
  rcases st.zip with hz | ⟨T, fl, zs, hz, hT⟩
  · refine RZ.pyNext_zipT_item D hz st.ti hTO st.j1 st.j2 p p2 (x := u) (y := u2) (by simpa using hu) (by simpa using hu2) fun h' z' TO' k1 k2 hN _ hk => ?_
    have I1 : Inv X pins σ (L2.upd H s.heap.objs.size (.tup [x, y])) { s with heap := h' } :=
      I.turnedNew (t' := s.toks) (ch := [z, TI, TO, i1, i2]) (fun c o hb e => hk c o (fun e' => hb (by simp [e'])) (fun e' => hb (by simp [e'])) (fun e' => hb (by simp [e'])) (fun e' => hb (by simp [e'])) e) hf (Nat.le_refl _) (new hN)
    exact ⟨_, rfl, fr, I1, ⟨.inr ⟨_, false, _, z', upd_same⟩, hk _ _ D.TIz D.TITO D.TIi1 D.TIi2 st.ti, ⟨_, _, TO'⟩, k1, k2⟩, chain⟩
  · obtain ⟨_, _, _, oT, hoT, _⟩ := I.hok T _ hT
    refine LbZ.heldT_item D hz hoT st.ti st.j1 st.j2 p p2 (x := u) (y := u2) (by simpa using hu) (by simpa using hu2) fun h' z' k1 k2 hN hk => ?_
    have I1 : Inv X pins σ (L2.upd H s.heap.objs.size (.tup [x, y])) { s with heap := h' } :=
      I.turnedNew (t' := s.toks) (ch := [z, TI, TO, i1, i2]) (fun c o hb e => hk c o (fun e' => hb (by simp [e'])) (fun e' => hb (by simp [e'])) (fun e' => hb (by simp [e'])) e) hf (Nat.le_refl _) (new hN)
    exact ⟨_, rfl, fr, I1, ⟨.inr ⟨T, true, zs, z', by rw [upd_ne (ne_of_none hT fr)]; exact hT⟩, hk _ _ D.TIz D.TIi1 D.TIi2 st.ti, ⟨_, _, hk _ _ D.TOz D.TOi1 D.TOi2 hTO⟩, k1, k2⟩, chain⟩
theorem zip_over (hh : A.handled = none) (D : ZipApart z TI TO i1 i2 a b) (I : Inv X pins σ H s) (hf : Chain X pins H z TI TO i1 i2) (st : ZSt H s.heap z TI TO i1 i2 a b i)
    (qx : SqT X.K H a xs) (qy : SqT X.K H b ys) (over : xs.length ≤ i ∨ ys.length ≤ i) :
    wpAny (model X.prog X.w) A (pyNext (.ref z)) (fun r s' => r = none ∧ Inv X pins σ H s') E s := by
  obtain ⟨its, rv, p, _⟩ := I.tuple qx
  obtain ⟨its2, rv2, p2, _⟩ := I.tuple qy
  have l1 := rv.length
  have l2 := rv2.length
  have he : its.toArray[i]? = none ∨ its2.toArray[i]? = none := by
    rcases over with q | q
    · exact .inl (by simp; omega)
    · exact .inr (by simp; omega)
  obtain ⟨v, w, hTO⟩ := st.to
  rcases st.zip with hz | ⟨T, fl, zs, hz, hT⟩
  · exact RZ.pyNext_zipT_end hh D hz st.ti hTO st.j1 st.j2 p p2 he fun h' hk => ⟨rfl, I.turnedL (t' := s.toks) (ch := [z, TI, TO, i1, i2]) (fun c o hb e =>
      hk c o (fun e' => hb (by simp [e'])) (fun e' => hb (by simp [e'])) (fun e' => hb (by simp [e'])) (fun e' => hb (by simp [e'])) e) hf⟩
  · obtain ⟨_, _, _, oT, hoT, _⟩ := I.hok T _ hT
    exact LbZ.heldT_end hh D hz hoT st.ti st.j1 st.j2 p p2 he fun h' hk => ⟨rfl, I.turnedL (t' := s.toks) (ch := [z, TI, TO, i1, i2]) (fun c o hb e =>
      hk c o (fun e' => hb (by simp [e'])) (fun e' => hb (by simp [e'])) (fun e' => hb (by simp [e'])) e) hf⟩
/-- a new pair -/
def PairAt (H : Hp) (T : Addr) (p : V × V) : Prop := H T = some (.tup [p.1, p.2])
theorem zip_loop {Rs : Result → Shared → Prop} {A1 : Around} {H0 : Hp} (hh : A1.in1.handled = none) (D : ZipApart z TI TO i1 i2 a b) (l1 : xs.length ≤ 10000) (qa : a ≠ q) (qb : b ≠ q)
    (hdone : ∀ H' s' ts, Inv X pins σ H' s' → H' q = some (.lst (ts.map V.ref)) → Paired (PairAt H') ts (xs.zip ys) → (∀ c o, c ≠ q → H0 c = some o → H' c = some o) → Rs (.ok (.ret .none)) s') (herr : ∀ e s, X.xe e s → Rs (.error e) s) (qx0 : SqT X.K H0 a xs) (qy0 : SqT X.K H0 b ys) :
    ∀ (m i : Nat) (H : Hp) (s : Shared) (ts : List Addr), min xs.length ys.length - i = m → i ≤ min xs.length ys.length → Inv X pins σ H s → Chain X pins H z TI TO i1 i2 → ZSt H s.heap z TI TO i1 i2 a b i →
      H q = some (.lst (ts.map V.ref)) → Paired (PairAt H) ts ((xs.zip ys).take i) → (∀ c o, c ≠ q → H0 c = some o → H c = some o) →
      codeAny (model X.prog X.w) A1 (.builtin "list.extend.loop" ⟨[.ref q, .ref z, .none], []⟩) Rs s := by
  have sqk : ∀ {H : Hp} {c : Addr} {zs : List V}, c ≠ q → (∀ c o, c ≠ q → H0 c = some o → H c = some o) → SqT X.K H0 c zs → SqT X.K H c zs := fun n k h =>
    h.elim (fun h => .inl (h.elim (fun h => .inl (k _ _ n h)) fun ⟨o, h⟩ => .inr ⟨o, k _ _ n h⟩)) fun h => .inr h
  intro m
  induction m with
  | zero =>
    intro i H s ts hm hi I hf st hq pt kp
    refine codeAny_builtin PySem.F.entry_extend_loop ?_
    rw [Around.under_plainId PySem.F.plain_extend_loop _]
    show wpAny _ A1.in1 (pyNext (.ref z) >>= _) _ _ s
    refine wpAny_bind (wpAny_mono (zip_over hh D I hf st (sqk qa kp qx0) (sqk qb kp qy0) (by omega)) (fun r s' hr => ?_) fun e s' he => herr e s' he)
    obtain ⟨rfl, I'⟩ := hr
    rw [List.take_of_length_le (by rw [List.length_zip]; omega)] at pt
    exact wpAny_pure (hdone H s' ts I' hq pt kp)
  | succ m ih =>
    intro i H s ts hm hi I hf st hq pt kp
    refine codeAny_builtin PySem.F.entry_extend_loop ?_
    rw [Around.under_plainId PySem.F.plain_extend_loop _]
    show wpAny _ A1.in1 (pyNext (.ref z) >>= _) _ _ s
    have h1 : i < xs.length := by omega
    have h2 : i < ys.length := by omega
    have hx := List.getElem?_eq_getElem h1
    have hy := List.getElem?_eq_getElem h2
    refine wpAny_bind (wpAny_mono (zip_turn D I hf st (sqk qa kp qx0) (sqk qb kp qy0) hx hy) (fun r s' hr => ?_) fun e s' he => herr e s' he)
    obtain ⟨T, rfl, hT, I', st', hf'⟩ := hr
    show wpAny _ A1.in1 (updateSeq q (·.push (.ref T)) >>= _) _ _ _
    have hq' : (L2.upd H T (.tup [xs[i], ys[i]])) q = some (.lst (ts.map V.ref)) := by rw [upd_ne (ne_of_none hq hT)]; exact hq
    have ht : ts.length = i := by
      have := Paired.len pt
      rw [List.length_take, List.length_zip] at this
      omega
    obtain ⟨zz, its, k, r2, hl, e⟩ := I'.lstM hq'
    have hl' : its.length = i := by rw [← hl, List.length_map, ht]
    have sl : sizeLine = 16777216 := by decide
    refine wpAny_bind (wpAny_updateSeq e rfl (wpAny_pure ⟨plainId_quiet PySem.F.plain_extend_loop _, ?_⟩) (by rw [List.size_toArray]; omega) (by show (its.toArray.push (.ref T)).size ≤ sizeLine + 1; rw [Array.size_push, List.size_toArray]; omega))
    have I2 := I'.lset (f := (·.push (.ref T))) (its' := its ++ [.ref T]) (ys := (ts ++ [T]).map V.ref) (t' := s'.toks) hq' e (by simp) (by rw [List.map_append]; exact r2.append (.cons rfl .nil)) (by rw [List.length_map, List.length_append]; show ts.length + 1 ≤ _; omega)
    have nc : ∀ c ∈ [z, TI, TO, i1, i2], c ≠ q := fun c hc e' => by
      have := (hf c hc).1
      rw [e', hq] at this
      cases this
    have keep : ∀ c o, c ≠ q → s'.heap.get? c = some o → (s'.heap.update q (Obj.mapSeq (·.push (.ref T)))).get? c = some o := fun c o n e' => (Heap.get?_update_other _ _ (Ne.symm n)).trans e'
    have st2 : ZSt (L2.upd (L2.upd H T (.tup [xs[i], ys[i]])) q (.lst ((ts ++ [T]).map V.ref))) (s'.heap.update q (Obj.mapSeq (·.push (.ref T)))) z TI TO i1 i2 a b (i + 1) := by
      refine ⟨?_, keep _ _ (nc TI (by simp)) st'.ti, let ⟨v, w, e'⟩ := st'.to; ⟨v, w, keep _ _ (nc TO (by simp)) e'⟩, st'.j1.at fun o e' => keep _ _ (nc i1 (by simp)) e', st'.j2.at fun o e' => keep _ _ (nc i2 (by simp)) e'⟩
      rcases st'.zip with hz | ⟨T1, fl, zs, hz, h1'⟩
      · exact .inl (keep _ _ (nc z (by simp)) hz)
      · refine .inr ⟨T1, fl, zs, keep _ _ (nc z (by simp)) hz, ?_⟩
        have : T1 ≠ q := fun e' => by
          rw [e', hq'] at h1'
          cases h1'
        rw [upd_ne this]
        exact h1'
    have up2 : ∀ c o, c ≠ q → H c = some o → (L2.upd (L2.upd H T (.tup [xs[i], ys[i]])) q (.lst ((ts ++ [T]).map V.ref))) c = some o := fun c o n e' => by
      rw [upd_ne n, upd_ne (ne_of_none e' hT)]
      exact e'
    have nT : T ≠ q := fun e' => by
      rw [e', hq] at hT
      cases hT
    refine ih (i + 1) _ _ (ts ++ [T]) (by omega) (by omega) I2 (fun c hc => FpOk.other (hf' c hc) (by rw [upd_ne (nc c hc)]; exact (hf' c hc).1)) st2 upd_same ?_ (fun c o n e' => up2 c o n (kp c o n e'))
    have hz : (xs.zip ys)[i]? = some (xs[i], ys[i]) := by
      rw [List.getElem?_zip_eq_some]
      exact ⟨hx, hy⟩
    rw [List.take_succ, hz]
    refine Paired.snoc (F := PairAt _) ?_ (Paired.imp pt fun t p h => up2 _ _ (fun e' => ?_) h)
    · show (L2.upd (L2.upd H T (.tup [xs[i], ys[i]])) q (.lst ((ts ++ [T]).map V.ref))) T = _
      rw [upd_ne nT, upd_same]
    · have h : H t = some (.tup [p.1, p.2]) := h
      rw [e', hq] at h
      cases h
/-- list(zip(a, b)) of two tuples -/
def tListZip (K : PySem.W.Frag) (ta : TA) : TE := fun σ H Q => ta σ H fun vs H1 => ∃ a b xs ys, vs = [.ref a, .ref b] ∧ SqT K H1 a xs ∧ SqT K H1 b ys ∧ xs.length ≤ 10000 ∧
  ∀ H' q ts, L2.Same H1 H' → H1 q = none → H' q = some (.lst (ts.map V.ref)) → Paired (PairAt H') ts (xs.zip ys) → Q (.ref q) H'
theorem call_zip_it {Q : VK} (hh : X.A.handled = none) (D : ZipApart z TI TO i1 i2 a b) (l1 : xs.length ≤ 10000) (I : Inv X pins σ H s) (hf : Chain X pins H z TI TO i1 i2) (hz0 : IsZip s.heap z TI TO .none) (st : ZSt H s.heap z TI TO i1 i2 a b 0)
    (qx : SqT X.K H a xs) (qy : SqT X.K H b ys) (go : ∀ H' q ts, L2.Same H H' → H q = none → H' q = some (.lst (ts.map V.ref)) → Paired (PairAt H') ts (xs.zip ys) → Q (.ref q) H') :
    wpAny (model X.prog X.w) X.A (call (.type "list") [.ref z]) (EP X pins σ Q) X.xe s := by
  refine callType_codes (Q₁ := fun obj s₁ => obj = .ref s.heap.objs.size ∧ s₁ = { s with heap := s.heap.push { cls := .type "list", data := .seq #[] } }) PySem.F.called_list (PySem.F.typeCall_list_1 _) PySem.F.entry_list_init
    (code_list_new _ ⟨rfl, rfl⟩) fun obj s₁ h₁ => ?_
  obtain ⟨rfl, rfl⟩ := h₁
  have hS : (s.heap.push { cls := .type "list", data := .seq #[] }).get? s.heap.objs.size = some { cls := .type "list", data := .seq #[] } := Heap.get?_push_size _ rfl
  refine ⟨⟨_, hS, rfl⟩, PySem.F.args_list_init_2 _ _, ?_⟩
  have fr : H s.heap.objs.size = none := I.hok.fresh (Nat.le_refl _)
  have ns : ∀ c ∈ [z, TI, TO, i1, i2], c ≠ s.heap.objs.size := fun c hc => let ⟨o, e⟩ := st.live hc; Nat.ne_of_lt (Heap.lt_size e)
  have la : a ≠ s.heap.objs.size ∧ b ≠ s.heap.objs.size := by
    obtain ⟨its, rv, ⟨o, e, _⟩, _⟩ := I.tuple qx
    obtain ⟨its2, rv2, ⟨o2, e2, _⟩, _⟩ := I.tuple qy
    exact ⟨Nat.ne_of_lt (Heap.lt_size e), Nat.ne_of_lt (Heap.lt_size e2)⟩
  have I1 : Inv X pins σ (L2.upd H s.heap.objs.size (.lst [])) { s with heap := s.heap.push { cls := .type "list", data := .seq #[] } } := I.lnew (its := []) (t' := s.toks) .nil (Nat.zero_le _)
  generalize hq : s.heap.objs.size = q at *
  show wpAny _ _ (do let old ← Builtin.List.listItems (.ref q); Builtin.List.listUpdate (.ref q) (fun _ => #[]); letGo old.toList.reverse; Builtin.List.listExtendWith (.ref q) (.ref z) .none) _ _ _
  refine wpAny_bind ?_
  unfold Builtin.List.listItems
  refine wpAny_bind (wpAny_seqItems hS rfl (wpAny_pure ?_))
  show wpAny _ _ (updateSeq q (fun _ => #[]) >>= fun _ => letGo (#[] : Array Value).toList.reverse >>= fun _ => Builtin.List.listExtendWith (.ref q) (.ref z) .none) _ _ _
  refine wpAny_bind (wpAny_updateSeq hS rfl ?_)
  have I2 := I1.lset (f := fun _ => #[]) (its := []) (its' := []) (ys := []) (t' := s.toks) upd_same hS rfl .nil (Nat.zero_le _)
  rw [upd_upd] at I2
  refine wpAny_bind (wpAny_letGo ?_)
  have nz : z ≠ q := ns z (by simp)
  unfold Builtin.List.listExtendWith
  have keep2 : ∀ c o, c ≠ q → s.heap.get? c = some o → ((s.heap.push { cls := .type "list", data := .seq #[] }).update q (Obj.mapSeq fun _ => #[])).get? c = some o := fun c o n e => (Heap.get?_update_other _ _ (Ne.symm n)).trans (Heap.get?_push_of_some _ e)
  have zty : Shared.TypeIs { s with heap := (s.heap.push { cls := .type "list", data := .seq #[] }).update q (Obj.mapSeq fun _ => #[]) } (.ref z) "zip" := ⟨_, keep2 _ _ nz hz0, rfl⟩
  refine wpAny_bind (wpAny_typeOf zty ?_)
  have g1 : Builtin.List.listSameRef (.ref q) (.ref z) = false := by simp [Builtin.List.listSameRef, nz.symm]
  have g2 : (Value.type "zip" == Value.type "list") = false := by decide
  have g3 : (Value.type "zip" == Value.type "tuple") = false := by decide
  simp only [g1, g2, g3, Bool.or_false, Bool.false_eq_true, if_false]
  refine wpAny_bind (wpAny_pyIter_zip (keep2 _ _ nz hz0) ?_)
  refine wpAny_bind (wpAny_holding ?_)
  unfold Builtin.List.listLengthHint
  refine wpAny_bind (wpAny_specialOf zty LbZ.zip_no_len ?_)
  show wpAny _ _ (specialOf (Value.ref z) (Str.ofString "__length_hint__") >>= _) _ _ _
  refine wpAny_bind (wpAny_specialOf zty LbZ.zip_no_hint (wpAny_pure ?_))
  obtain ⟨_, its3, k3, r3, _, e3⟩ := I2.lstM upd_same
  cases r3
  show wpAny _ _ (rule "list.extend.makes-room" >>= fun _ => Builtin.List.listTouch (.ref q) >>= fun _ => again (.builtin "list.extend.loop" ⟨[.ref q, .ref z, .none], []⟩)) _ _ _
  refine wpAny_bind (wpAny_rule (wpAny_bind ?_))
  show wpAny _ _ (updateSeq q (·.push .none) >>= fun _ => updateSeq q (·.pop)) _ _ _
  refine wpAny_bind (wpAny_updateSeq e3 rfl ?_)
  have I3 := I2.lset (f := (·.push Value.none)) (its' := [Value.none]) (ys := [.non]) (t' := s.toks) upd_same e3 (by simp) (.cons rfl .nil) (by decide)
  obtain ⟨_, its4, k4, r4, _, e4⟩ := I3.lstM upd_same
  obtain ⟨u4, rfl, _⟩ := r4.one
  refine wpAny_updateSeq e4 rfl ?_ (by show 1 ≤ sizeLine; decide) (by show 0 ≤ sizeLine + 1; exact Nat.zero_le _)
  have I4 := I3.lset (f := (·.pop)) (its := [u4]) (its' := []) (ys := []) (t' := s.toks) upd_same e4 (by rfl) .nil (Nat.zero_le _)
  rw [upd_upd, upd_upd] at I4
  have keep4 : ∀ c o, c ≠ q → s.heap.get? c = some o → ((((s.heap.push { cls := .type "list", data := .seq #[] }).update q (Obj.mapSeq fun _ => #[])).update q (Obj.mapSeq (·.push Value.none))).update q (Obj.mapSeq (·.pop))).get? c = some o := fun c o n e =>
    (Heap.get?_update_other _ _ (Ne.symm n)).trans ((Heap.get?_update_other _ _ (Ne.symm n)).trans (keep2 c o n e))
  have st4 : ZSt (L2.upd H q (.lst [])) ((((s.heap.push { cls := .type "list", data := .seq #[] }).update q (Obj.mapSeq fun _ => #[])).update q (Obj.mapSeq (·.push Value.none))).update q (Obj.mapSeq (·.pop))) z TI TO i1 i2 a b 0 :=
    ⟨.inl (keep4 _ _ nz hz0), keep4 _ _ (ns TI (by simp)) st.ti, let ⟨v, w, e⟩ := st.to; ⟨v, w, keep4 _ _ (ns TO (by simp)) e⟩, st.j1.at fun o e => keep4 _ _ (ns i1 (by simp)) e, st.j2.at fun o e => keep4 _ _ (ns i2 (by simp)) e⟩
  have S0 : L2.Same H (L2.upd H q (.lst [])) := Lb.Same.upd fr
  refine wpAny_pure ⟨plainId_quiet PySem.F.plain_extend_loop _, zip_loop (q := q) (H0 := L2.upd H q (.lst [])) (A1 := X.A.in1) (Rs := wants (fun r s₂ => r = .none ∧ EP X pins σ Q (.ref q) s₂) X.xe) hh D l1 la.1 la.2 ?_ (fun e s' he => he) (SqT.same S0 qx) (SqT.same S0 qy) _ 0 _ _ [] rfl (Nat.zero_le _) I4
    (fun c hc => FpOk.other (hf c hc) (by rw [upd_ne (ns c hc)]; exact (hf c hc).1)) st4 upd_same ?_ (fun c o n e => e)⟩
  · intro H' s' ts I' e pt kp
    exact ⟨rfl, .ref q, H', I', rfl, go H' q ts (fun c o e' => kp c o (ne_of_none e' fr) (by rw [upd_ne (ne_of_none e' fr)]; exact e')) fr e pt⟩
  · rw [List.take_zero]
    exact .nil
theorem pe_listZip {e e2 : Expr} {ta : TA} {p p2 pos pos2 : Pos} (hcalm : X.calm = true) (hg : Gl X "list") (hm : X.mg "list" = none) (hg2 : Gl X "zip") (hm2 : X.mg "zip" = none) (ha : PA X [e, e2] ta)
    (hs : starEach [e, e2] X.env = (false, eval e X.env) :: starEach [e2] X.env := by rfl) (hpl : (backTo pos2 (starEach [e2] X.env)).any (·.1) = false := by rfl)
    (hs2 : starEach [.Call (.Name "zip" p2) [e, e2] [] pos2] X.env = (false, eval (.Call (.Name "zip" p2) [e, e2] [] pos2) X.env) :: starEach [] X.env := by rfl) :
    PE X (.Call (.Name "list" p) [.Call (.Name "zip" p2) [e, e2] [] pos2] [] pos) (tListZip X.K ta) := by
  refine ⟨fun pins s σ H Q I h => ?_⟩
  refine wpAny_Call_Name_kw (ld_blt I hg hm (by decide +kernel : bootBuiltins "list" = some (.type "list")) ?_)
  refine PyProof.Rows.callWith_type1 ?_ hs2 rfl
  rw [hs2]
  refine Calls.spliced_cons ?_
  refine wpAny_Call_Name_kw (ld_blt I hg2 hm2 PyProof.Rows.boot_zip ?_)
  refine PyProof.Rows.callWith_type1 (thn (ha.run pos2 pins s σ H _ I h) fun us s1 ⟨vs, H1, I1, r1, q1⟩ => ?_) hs hpl
  obtain ⟨a, b, xs, ys, rfl, qx, qy, l1, go⟩ := q1
  cases r1 with
  | cons r rr =>
    cases rr with
    | cons r' rr =>
      cases rr
      cases r
      cases r'
      obtain ⟨its, rv, p1, _⟩ := I1.tuple qx
      obtain ⟨its2, rv2, p2, _⟩ := I1.tuple qy
      obtain ⟨o1, ho1, _⟩ := id p1
      obtain ⟨o2, ho2, _⟩ := id p2
      refine RZ.call_zipT (xs := its.toArray) (ys := its2.toArray) p1 p2 fun h' hz hTI hTO k1 k2 _ hk => ?_
      have I2 : Inv X pins σ H1 { s1 with heap := h' } := I1.kept (t' := s1.toks) hk
      have chain : Chain X pins H1 (s1.heap.objs.size + 4) (s1.heap.objs.size + 2) (s1.heap.objs.size + 3) s1.heap.objs.size (s1.heap.objs.size + 1) := fun c hc => by
        have hle : s1.heap.objs.size ≤ c := by
          simp only [List.mem_cons, List.not_mem_nil, or_false] at hc
          rcases hc with h | h | h | h | h <;> (rw [h]; first | exact Nat.le_add_right _ _ | exact Nat.le_refl _)
        exact I1.fpOk hle (I1.hok.fresh hle)
      show wpAny _ _ (pure []) _ _ _
      refine wpAny_pure ?_
      exact call_zip_it (I1.ok.hd hcalm) (PySem.W.ktu_apart s1.heap.objs.size a b (Heap.lt_size ho1) (Heap.lt_size ho2)) l1 I2 chain hz ⟨.inl hz, hTI, ⟨_, _, hTO⟩, k1, k2⟩ qx qy go
end
end Lb

set_option Elab.async false
set_option linter.all false
set_option maxRecDepth 100000
set_option maxHeartbeats 4000000
namespace Lb
open PySem PySem.Spec PyProof.Rows L2
/-- a thing is equal to itself -/
def ReflB (D : EqvB) : Prop := ∀ x H c, D x x H c → c = true
def DTupH (D : EqvB) : EqvB := fun x y H c => ∃ a b xs ys e, x = .ref a ∧ y = .ref b ∧ H a = some (.tup xs) ∧ H b = some (.tup ys) ∧ PrsB D xs ys H e ∧ c = (List.range xs.length).all e
section
variable {X : Cx} {n : Nat} {D : EqvB}
theorem RcGB.imp {D' : EqvB} (h : RcGB X n D) (k : ∀ x y H c, D' x y H c → D x y H c) : RcGB X n D' := fun A pins s σ H x y u v c sb I rx ry d => h A pins s σ H x y u v c sb I rx ry (k _ _ _ _ d)
theorem rcGB_tupH (hD : MonB D) (h : EqGB X n D) : RcGB X (n + 1) (DTupH D) :=
  (rcGB_tup hD h).imp fun _ _ _ _ ⟨a, b, xs, ys, e, h1, h2, h3, h4, h5, h6⟩ => ⟨a, b, xs, ys, e, h1, h2, SqT.of h3, SqT.of h4, h5, h6⟩
theorem mon_tupH (hD : MonB D) : MonB (DTupH D) := fun x y H H' c e d => by
  obtain ⟨a, b, xs, ys, f, hx, hy, h1, h2, p, q⟩ := d
  exact ⟨a, b, xs, ys, f, hx, hy, e _ _ h1, e _ _ h2, p.mon hD e, q⟩
theorem prs_refl (hD : ReflB D) {xs : List V} {H : Hp} {e : Nat → Bool} (p : PrsB D xs xs H e) : (List.range xs.length).all e = true := by
  rw [List.all_eq_true]
  intro i hi
  have hi := List.mem_range.mp hi
  have hx := List.getElem?_eq_getElem hi
  exact hD _ _ _ (p.at_ i _ _ hx hx)
theorem refl_tupH (hD : ReflB D) : ReflB (DTupH D) := by
  rintro x H c ⟨a, b, xs, ys, e, h1, h2, h3, h4, p, rfl⟩
  rw [h1] at h2
  cases h2
  rw [h3] at h4
  cases h4
  exact prs_refl hD p
theorem refl_list (hD : ReflB D) : ReflB (DListB D) := by
  rintro x H c ⟨a, b, xs, ys, h1, h2, h3, h4, p⟩
  rw [h1] at h2
  cases h2
  rw [h3] at h4
  cases h4
  rcases p with ⟨h, _⟩ | ⟨e, p, rfl⟩
  · exact absurd rfl h
  · exact prs_refl hD p
theorem eqGB_tupH (hD : MonB D) (hR : ReflB D) (h : EqGB X n D) : EqGB X (n + 1) (DTupH D) :=
  (rcGB_tupH hD h).eqG fun x y H c d => by
    obtain ⟨a, b, xs, ys, e, h1, h2, h3, h4, p, h5⟩ := id d
    refine ⟨a, b, h1, h2, fun q => ?_⟩
    subst q
    rw [← h2] at h1
    subst h1
    exact refl_tupH hR _ _ _ d
theorem eqGB_list (hD : MonB D) (hR : ReflB D) (h : EqGB X n D) : EqGB X (n + 1) (DListB D) :=
  (rcGB_list hD h).eqG fun x y H c d => by
    obtain ⟨a, b, xs, ys, h1, h2, h3, h4, p⟩ := id d
    refine ⟨a, b, h1, h2, fun q => ?_⟩
    subst q
    rw [← h2] at h1
    subst h1
    exact refl_list hR _ _ _ d
end
/-- item by item, by a decidable equality -/
theorem all_range_eq {α : Type} [DecidableEq α] (d : α) : ∀ {xs ys : List α}, xs.length = ys.length → (List.range xs.length).all (fun i => decide (xs.getD i d = ys.getD i d)) = decide (xs = ys) := by
  intro xs ys h
  rw [Bool.eq_iff_iff, List.all_eq_true, decide_eq_true_eq]
  constructor
  · intro k
    refine List.ext_getElem h fun i h1 h2 => ?_
    have := of_decide_eq_true (k i (List.mem_range.mpr h1))
    rw [List.getD_eq_getElem?_getD, List.getD_eq_getElem?_getD, List.getElem?_eq_getElem h1, List.getElem?_eq_getElem h2] at this
    exact this
  · rintro rfl i _
    exact decide_eq_true rfl
theorem atI_last2 {α : Type} {xs : List α} {j : Nat} (h : xs.length = j + 2) : atI xs (-2) = xs[j]? := by
  unfold atI ixN
  rw [if_neg (by decide), if_pos (by omega)]
  show xs[(_ : Int).toNat]? = _
  congr 1
  omega
end Lb

set_option Elab.async false
set_option linter.all false
set_option maxRecDepth 100000
set_option maxHeartbeats 4000000
namespace Lb
open PySem PySem.Spec PyProof.Rows L2
section
variable {X : Cx} {K : PySem.W.Frag}
theorem pg_lstK {pos : Pos} {es : List Expr} {k : Nat} {t : TGs} {n : Nat} (hK : X.K = K) (hc : X.calm = true) (h : PGs X es t)
    (hn : (assignEach es X.env).length = n := by rfl) (hst : (assignEach es X.env).findIdx? (·.1) = none := by rfl) : PG X (.Tuple es k pos) (gLst K n t) := by subst hK; exact pg_lst hc h hn hst
theorem pi_zipAK {e e2 : Expr} {ta : TA} {p pos tpos : Pos} {elts : List Expr} {kk : Nat} (hK : X.K = K) (hg : Gl X "zip") (hm : X.mg "zip" = none) (ha : PA X [e, e2] ta)
    (hs : starEach [e, e2] X.env = (false, eval e X.env) :: starEach [e2] X.env := by rfl) (hpl : (backTo pos (starEach [e2] X.env)).any (·.1) = false := by rfl) :
    PI X (.Tuple elts kk tpos) (.Call (.Name "zip" p) [e, e2] [] pos) (RZ.iZipA K ta) := by subst hK; exact RZ.pi_zipA hg hm ha hs hpl
end
theorem walk_zipT {K : PySem.W.Frag} {a b : Addr} {xs ys : List V} {n : Nat} (hn : n = min xs.length ys.length) : Walk (RZ.ItzT K a b) n (fun H => SqT K H a xs ∧ SqT K H b ys) (YPair (fun i => xs[i]?) (fun i => ys[i]?)) := by
  subst hn
  refine ⟨fun i _ hi q => ?_, fun _ q => ⟨xs, ys, q.1, q.2, by omega⟩, fun i H v H' _ q y => ?_⟩
  · have h1 : i < xs.length := by omega
    have h2 : i < ys.length := by omega
    exact ⟨xs, ys, xs[i], ys[i], q.1, q.2, by simp [h1], by simp [h2]⟩
  · obtain ⟨T, x, z, h1, h2, h3, h4, h5⟩ := y
    exact ⟨T, x, z, h1, h2, h3, h4 xs q.1, h5 ys q.2⟩
/-! data of whole numbers -/
def q2D (x : Q2) : PyData := .tuple [.int x.1, .int x.2]
def ptD (z : Q2 × Q2) : PyData := .tuple [q2D z.1, q2D z.2]
theorem eqv_q2 (x y : Q2) : PyData.eqv (q2D x) (q2D y) = decide (x = y) := by
  unfold q2D
  simp only [PyData.eqv, PyData.eqvAll, Bool.and_true]
  rw [Bool.eq_iff_iff]
  simp [Prod.ext_iff]
theorem eqv_pt (x y : Q2 × Q2) : PyData.eqv (ptD x) (ptD y) = decide (x = y) := by
  unfold ptD
  simp only [PyData.eqv, PyData.eqvAll, Bool.and_true, eqv_q2]
  rw [Bool.eq_iff_iff]
  simp [Prod.ext_iff]
theorem eqvAll_map {α : Type} [DecidableEq α] {f : α → PyData} (h : ∀ x y, PyData.eqv (f x) (f y) = decide (x = y)) : ∀ xs ys : List α, PyData.eqvAll (xs.map f) (ys.map f) = decide (xs = ys)
  | [], [] => by simp [PyData.eqvAll]
  | [], _ :: _ => by simp [PyData.eqvAll]
  | _ :: _, [] => by simp [PyData.eqvAll]
  | x :: xs, y :: ys => by
    simp only [List.map_cons, PyData.eqvAll, h, eqvAll_map h xs ys]
    rw [Bool.eq_iff_iff]
    simp
theorem eqv_list {α : Type} [DecidableEq α] {f : α → PyData} (h : ∀ x y, PyData.eqv (f x) (f y) = decide (x = y)) (xs ys : List α) : PyData.eqv (.list (xs.map f)) (.list (ys.map f)) = decide (xs = ys) := by
  simp only [PyData.eqv]
  exact eqvAll_map h xs ys
theorem lay_q2 (x : Q2) : PyData.canLay0 (q2D x) = true := by simp [q2D, PyData.canLay0, PyData.canLayAll0]
theorem lay_pt (z : Q2 × Q2) : PyData.canLay0 (ptD z) = true := by simp [ptD, PyData.canLay0, PyData.canLayAll0, lay_q2]
theorem dep_q2 (x : Q2) : PyData.depth (q2D x) = 1 := by simp [q2D, PyData.depth, PyData.depthAll]
theorem dep_pt (z : Q2 × Q2) : PyData.depth (ptD z) = 2 := by simp [ptD, PyData.depth, PyData.depthAll, dep_q2]
theorem lay_map {α : Type} {f : α → PyData} (h : ∀ x, PyData.canLay0 (f x) = true) : ∀ xs : List α, PyData.canLayAll0 (xs.map f) = true
  | [] => by simp [PyData.canLayAll0]
  | x :: xs => by simp [PyData.canLayAll0, h, lay_map h xs]
theorem dep_map {α : Type} {f : α → PyData} {k : Nat} (h : ∀ x, PyData.depth (f x) ≤ k) : ∀ xs : List α, PyData.depthAll (xs.map f) ≤ k
  | [] => by simp [PyData.depthAll]
  | x :: xs => by
    have h1 := h x
    have h2 := dep_map h xs
    simp only [List.map_cons, PyData.depthAll]
    omega
theorem shaped_of {d : PyData} (h : PyData.canLay0 d = true) (k : PyData.depth d ≤ 60) : SeqAt.shaped d = true := by
  unfold SeqAt.shaped
  rw [h, decide_eq_true (by omega)]
  rfl
theorem lay_list {α : Type} {f : α → PyData} (h : ∀ x, PyData.canLay0 (f x) = true) (xs : List α) : PyData.canLay0 (.list (xs.map f)) = true := by
  simp only [PyData.canLay0]
  exact lay_map h xs
theorem dep_list {α : Type} {f : α → PyData} {k : Nat} (h : ∀ x, PyData.depth (f x) ≤ k) (xs : List α) : PyData.depth (.list (xs.map f)) ≤ k + 1 := by
  simp only [PyData.depth]
  have := dep_map h xs
  omega
theorem rd_lt {t t' b : Int} (hb : 0 < b) (h : t < t') : val (rd t b) < val (rd t' b) := by
  rw [val_rd (by omega), val_rd (by omega), Rat.div_def, Rat.div_def]
  exact Rat.mul_lt_mul_of_pos_right (Rat.intCast_lt_intCast.mpr h) (Rat.inv_pos.mpr (pos_cast hb))
theorem rd_zero {b : Int} (hb : 0 < b) : rd 0 b = (0, 1) := by
  have h1 : Low (b.natAbs + 1) (rd 0 b) := rd_low (by omega) (show (0 : Nat) < _ from Nat.pow_pos (by decide)) (show b.natAbs < _ from Nat.lt_of_lt_of_le Nat.lt_two_pow_self (Nat.pow_le_pow_right (by decide) (Nat.le_succ _)))
  refine val_inj (m := 1) h1 ⟨by unfold Bd; decide, by unfold Bd; decide, by decide, by decide⟩ ?_
  rw [val_rd (by omega), val_zero, Rat.intCast_zero]
  grind
end Lb

set_option Elab.async false
set_option linter.all false
/-! a comprehension within one; tuple(list) within one -/
namespace Lb
open PySem L2
theorem blkOk_any {N : List Str} {sc scope : Scope} {own : List (Str × Nat)} (h : blkC N { kind := .function, names := [], isGenerator := false, isCoroutine := false } scope own = true) : BlkOk N sc scope own :=
  let b := blkOk_by h
  ⟨b.kind, b.uniq, b.ix, fun y hy e => (b.free y hy e).elim (fun q => nomatch q) (fun q => nomatch q), b.own⟩
section
variable {X : Cx} {K : PySem.W.Frag}
theorem call_tuple_ofK (hK : X.K = K) : CallR X (.type "tuple") (fun xs H Q => ∃ p ys, xs = [.ref p] ∧ ((SqL K H p ys ∧ ∀ l, H l = none → Q (.ref l) (upd H l (.tup ys))) ∨ (SqT K H p ys ∧ Q (.ref p) H))) := by subst hK; exact call_tuple_of
end
theorem kit_two {K : PySem.W.Frag} {A C : Addr} (h1 : PySem.W.isClsIn K C = true) (h2 : PySem.W.typeIn K (.ref C) = some (.type "type")) (h3 : PySem.W.subIn K (.ref A) (.ref C) = some false) (h4 : PySem.W.subIn K (.ref C) (.ref C) = some true) :
    PySem.W.kitOne K (.ref A) (.ref C) = some false ∧ PySem.W.notFirst K C (.ref A) = true := by
  have ne : (Value.ref A == Value.ref C) = false := Bool.eq_false_iff.mpr fun q => by
    have e := beq_iff_eq.mp q
    cases e
    rw [h3] at h4
    cases h4
  constructor
  · unfold PySem.W.kitOne
    rw [ne, if_neg (by decide)]
    unfold PySem.W.kitCls
    have h1' : (PySem.W.clsIn K C).isSome = true := h1
    dsimp only
    rw [h1', h2]
    rw [if_pos (by simp)]
    exact h3
  · unfold PySem.W.notFirst
    rw [h3]
    simp
end Lb

set_option Elab.async false
set_option linter.all false
set_option maxRecDepth 100000
set_option maxHeartbeats 2000000
/-! own exceptions with an own __init__ that keeps one value: made, raised -/
namespace Lb
open PySem L2
/-- the class and its __init__ -/
structure Exq (K : PySem.W.Frag) (mg : Str → Option Value) (x : Str) (C f : Addr) : Prop where
  mC : mg x = some (.ref C)
  ox : OexC K C
  xf : XfC K C
  iC : PySem.W.findIn K (.ref C) "__init__" = some (some (.ref f))
  tI : PySem.W.typeIn K (.ref f) = some (.type "function")
  te : PySem.W.exmOne K (.ref C) (.ref C) = some true
/-- __init__(self, value): self.f = value -/
def sp_exq (K : PySem.W.Frag) (C : Addr) (f : Str) : Sp := fun vs H Q _ => ∃ (q : Addr) (y : V), vs = [.ref q, y] ∧ H q = some (exo q C none) ∧
  ∀ dx, H dx = none → dx ≠ q → Q .non (upd (upd H dx (exd dx [(f, y)])) q (exo q C (some dx)))
/-- what is known behind such a raise -/
theorem exq_way {H : Hp} {q C : Addr} {f : Str} {y : V} {Q : XK} (hq : H q = none) (k : ∀ H' d, Same H H' → H d = none → H' d = some (.xd [(f, y)]) → Q (.ref C) (some d) H') :
    ∀ dx, (upd H q (exo q C none)) dx = none → dx ≠ q → ∃ (d : Addr) (fs : List (Str × V)), (upd (upd (upd H q (exo q C none)) dx (exd dx [(f, y)])) q (exo q C (some dx))) q = some (exo q C (some d)) ∧
      (upd (upd (upd H q (exo q C none)) dx (exd dx [(f, y)])) q (exo q C (some dx))) d = some (exd d fs) ∧ H d = none ∧ Q (.ref C) (some d) (upd (del (upd (upd (upd H q (exo q C none)) dx (exd dx [(f, y)])) q (exo q C (some dx))) q) d (.xd fs)) := by
  intro dx hdx ne
  have hd : H dx = none := by rw [upd_ne ne] at hdx; exact hdx
  refine ⟨dx, [(f, y)], upd_same, by rw [upd_ne ne, upd_same], hd, k _ dx (fun b o e => ?_) hd upd_same⟩
  have bq : b ≠ q := ne_of_none e hq
  have bd : b ≠ dx := ne_of_none e hd
  rw [upd_ne bd, del_ne bq, upd_ne bq, upd_ne bd, upd_ne bq]
  exact e
/-- a def that may raise, called where nothing is raised -/
theorem passF {X : Cx} : Passes (L2.CX X.prog X.w) X E0 := fun _ _ _ _ _ _ _ h => by
  obtain ⟨_, _, _, _, _, _, _, _, _, _, _, _, h⟩ := h
  exact h.elim
end Lb

set_option Elab.async false
set_option linter.all false
set_option maxRecDepth 100000
set_option maxHeartbeats 4000000
/-! try with several clauses that each give the exception a name -/
namespace Lb
open PySem PySem.Spec PyProof.Rows L2
/-- one clause: its class, the name's place, its suite -/
abbrev Clause := Value × Nat × (Addr → Value → Option Addr → TS)
/-- what is asked of an exception, clause by clause -/
def wNamed (K : PySem.W.Frag) (Wo : WX) (D : Ends) : List Clause → WX
  | [] => Wo
  | (c, i, ts) :: more => fun k dd τ G => ∃ yes, PySem.W.exmOne K k c = some yes ∧ (yes = false → wNamed K Wo D more k dd τ G) ∧
      (yes = true → ∀ e, G e = none → ts e k dd ⟨fun τ' G' => D.nx (τ'.set i none) G', D.rt, fun τ' G' => D.bk (τ'.set i none) G', fun τ' G' => D.ct (τ'.set i none) G'⟩ (τ.set i (some (.ref e))) G)
/-- the clauses and their readings -/
inductive HdsN (X : Cx) : List ExceptHandler → List Clause → Prop
  | nil : HdsN X [] []
  | cons {x n : Str} {i : Nat} {c : Value} {ts : Addr → Value → Option Addr → TS} {st : Stmt} {sts : List Stmt} {p q : Pos} {hds : List ExceptHandler} {l : List Clause} (nm : Names X x c) (at_ : X.N[i]? = some n) (lo : X.env.kindOf n = some .local)
      (su : ∀ (e : Addr) (oe : Obj) (k : Value) (dd : Option Addr) (pn : List (Addr × Obj)), Zc k dd oe → (∃ vs, oe.data = .fields vs) → PSs (X.suite e ((e, oe) :: pn)) (st :: sts) (ts e k dd)) (more : HdsN X hds l) :
      HdsN X (.ExceptHandler (some (.Name x p)) (some n) (st :: sts) q :: hds) ((c, i, ts) :: l)
section
variable {X : Cx} {body : List Stmt} {h0 : ExceptHandler} {hds : List ExceptHandler} {l : List Clause} {pos : Pos} {tb : WX → TS} {Wo : WX}
/-- an exception that has landed stands in no frame -/
theorem out_of_frames {bs h : Heap} {st : List Env} {e : Addr} {o : Obj} {vs : Array Value} (ff : h.FunFrames bs st) (at_ : h.get? e = some o) (fd : o.data = .fields vs) : e ∉ frs st := fun m => by
  obtain ⟨_, u, at2, no⟩ := ff.mem m
  cases at_.symm.trans at2
  exact no _ fd
variable {pins : List (Addr × Obj)} {τ : L2.St} {G : Hp} {D : Ends} {e : Addr} {bs h3 : Heap} {s0 s1 : Shared} {k : Value} {dd : Option Addr}
/-- the clauses are gone through, the exception being at e -/
theorem handle_named (st : X.stack = X.env :: X.outer) (fr : X.env.frame = some X.env.locals) (nd : X.N.Nodup) (tk : Takes X Wo) (ok : X.Ok) (jj : Inv X pins τ G s0) (nb : ∀ b o, s0.heap.get? b = some o → b ∉ frs X.stack → bs.get? b = some o)
    (up : s0.heap.UpToSlots s1.heap) (os : s1.os = s0.os) (ag : AllBare s1.gens) (na : G e = none) (u3 : s1.heap.UpToSlots h3) (fl : HandSPX.FlyingZ bs (X.env :: X.outer) e (Zc k dd) h3) :
    ∀ {hs : List ExceptHandler} {l : List Clause}, HdsN X hs l → wNamed X.K Wo D l k dd τ G → wpAny (model X.prog X.w) X.A (handleBy (.ref e) X.env hs) (SP X pins D) X.xe { s1 with heap := h3 } := by
  have here : Inv X pins τ G { s1 with heap := h3 } := jj.landed nb fl.1 (up.trans u3) os ag
  obtain ⟨o3, f3, at3, z3, d3⟩ := fl.there
  have out := out_of_frames fl.2.2.1 at3 d3
  have outL : e ≠ X.env.locals := fun q => out (List.mem_filterMap.mpr ⟨X.env, List.mem_cons_self, by rw [fr, q]⟩)
  have outF : e ∉ X.fs := fun m => by
    obtain ⟨env, m1, m2⟩ := List.mem_filterMap.mp m
    exact out (List.mem_filterMap.mpr ⟨env, List.mem_cons_of_mem _ m1, m2⟩)
  have inS := here.suite at3 d3 na outL outF
  intro hs l hk
  induction hk with
  | nil =>
    intro w
    have away : wpAny (model X.prog X.w) X.A (setFlight (.ref e) X.env.frame) (fun _ s4 => wpAny (model X.prog X.w) X.A (throw (.ref e) : Sem Flow) (SP X pins D) X.xe s4) X.xe { s1 with heap := h3 } := by
      rw [fr]
      exact HandSPX.setFlight_upZ fl fun h4 held u4 => wpAny_throw (tk _ _ ⟨e, bs, s0, pins, τ, G, k, dd, rfl, jj, nb, (up.trans u3).trans u4, .inr (.inr (by rw [st]; exact held)), na, os, ag, w⟩)
    obtain ⟨_, _, _, oe, vs, T, oT, _, ate, _, dte, first_, _⟩ := id fl
    refine wpAny_handleBy_nil ?_
    unfold PySem.passOn
    refine wpAny_bind (wpAny_field ate dte first_ ?_)
    rw [if_neg (by simp : ¬ ((Value.ref T == Value.none) = true))]
    first
      | exact wpAny_bind away
      | exact wpAny_bind (wpAny_pure (wpAny_bind away))
  | @cons x n i c ts st1 sts p q hds2 l2 nm pl lo su more ih =>
    rintro ⟨yes, ans, no, go⟩
    refine wpAny_handleBy_cons (codeAny_handlers_test ?_) (fun z => by cases z)
    have cl : PySem.W.Looks (model X.prog X.w) h3 (typeOf (.ref e)) k := fun A Q E s keep done => wpAny_typeOf_ref (keep _ _ at3) (by rw [z3.1]; exact done)
    have told := PySem.W.exm_one (M := model X.prog X.w) here.kIn cl ans
    have name : ∀ {Q E : Value → Shared → Prop}, Q c { s1 with heap := h3 } → wpAny (model X.prog X.w) (X.A.mark (some (.ref e))) (eval (.Name x p) X.env) Q E { s1 with heap := h3 } := fun {Q E} done => by
      obtain ⟨g1, g2, g3 | ⟨g3, g4, g5⟩⟩ := nm
      · exact ld_glob (X := X.suite e ((e, o3) :: (X.pn ++ pins))) inS g1 g3 done g2
      · exact ld_blt (X := X.suite e ((e, o3) :: (X.pn ++ pins))) inS g1 g3 g4 done g5 g2
    refine name (told.here ?_)
    cases yes with
    | false =>
      show wpAny _ X.A (handleBy (.ref e) X.env hds2) _ _ _
      exact ih (no rfl)
    | true =>
      refine codeAny_handlers_suite_as (HandSPX.lands_againZ fl fun h4 fl4 u4 => ?_)
      have here4 : Inv X pins τ G { s1 with heap := h4 } := jj.landed nb fl4.1 ((up.trans u3).trans u4) os ag
      obtain ⟨o4, f4, at4, z4, d4⟩ := fl4.there
      refine store_ok (X := X.suite e ((e, o4) :: (X.pn ++ pins))) (v := .ref e) (here4.suite at4 d4 na outL outF) nd pl (.inl lo) rfl (fun s5 in5 => ?_) (.inr lo)
      have clear : ∀ {σ6 : L2.St} {H6 : Hp} {s6 : Shared} {Q : Shared → Prop}, Inv (X.suite e ((e, o4) :: (X.pn ++ pins))) [] σ6 H6 s6 → (∀ s7, Inv X pins (σ6.set i none) H6 s7 → Q s7) →
          wpAny (model X.prog X.w) X.A (do bindName X.env n .none; unbindBehindTheSuite X.env n q) (fun _ s7 => Q s7) X.xe s6 := fun in6 then_ => gone_ok (in6.unsuite ok) nd pl lo then_
      refine wpAny_mono ((su e o4 k dd (X.pn ++ pins) z4 ⟨_, d4⟩).run [] s5 _ G _ in5 (go rfl e na)) (fun f s6 end_ => ?_) (fun _ _ z => z.elim)
      cases f with
      | ret u =>
        obtain ⟨v6, _, _, in6, rel, fin⟩ := end_
        exact clear in6 fun s7 in7 => ⟨_, _, _, in7, rel, fin⟩
      | next =>
        obtain ⟨_, _, in6, fin⟩ := end_
        exact clear in6 fun s7 in7 => ⟨_, _, in7, fin⟩
      | brk =>
        obtain ⟨_, _, in6, fin⟩ := end_
        exact clear in6 fun s7 in7 => ⟨_, _, in7, fin⟩
      | cont =>
        obtain ⟨_, _, in6, fin⟩ := end_
        exact clear in6 fun s7 in7 => ⟨_, _, in7, fin⟩
theorem ps_try_named (st : X.stack = X.env :: X.outer) (fr : X.env.frame = some X.env.locals) (nd : X.N.Nodup) (tk : Takes X Wo)
    (bd : ∀ (W : WX) (pn : List (Addr × Obj)) (xe : Value → Shared → Prop), Takes (X.tr pn xe) W → PassesOwn (model X.prog X.w) X.A X.env xe → PSs (X.tr pn xe) body (tb W)) (cs : HdsN X (h0 :: hds) l) :
    PS X (.Try body (h0 :: hds) [] [] pos) (fun D σ H => tb (wNamed X.K Wo D l) D σ H) := by
  refine ⟨fun pins s σ H D I way => ?_⟩
  have ok := I.ok
  have seen : X.A.frames = some (X.env :: X.outer) := by rw [ok.frames, st]
  refine wpAny_Try_except ?_
  refine wpAny_mono ((bd (wNamed X.K Wo D l) (X.pn ++ pins) (fun u s₁ => wpAny (model X.prog X.w) X.A (noteFrame u X.env) (fun _ s₂ => wpAny (model X.prog X.w) X.A (setFlight u none)
    (fun _ s₃ => wpAny (model X.prog X.w) X.A (handleBy u X.env (h0 :: hds)) (SP X pins D) X.xe s₃) X.xe s₂) X.xe s₁) (fun u s' flies => ?_) PassesOwn.looking).run [] s σ H D (I.toTry _) way) (fun f s1 fin => ?_) (fun u s1 away => away)
  · obtain ⟨e, bs, s0, pp, τ, G, k, dd, rfl, jj, nb, up, sky, na, os, ag, w⟩ := flies
    refine Sky.land Zc.steady seen fr (by rw [← st]; exact sky) fun h3 fl u3 => ?_
    exact handle_named st fr nd tk ok (jj.ofTry ok) nb up os ag na u3 fl cs w
  · cases f with
    | ret u =>
      obtain ⟨v, _, _, j, rel, way2⟩ := fin
      exact ⟨v, _, _, j.ofTry ok, rel, way2⟩
    | next =>
      obtain ⟨_, _, j, way2⟩ := fin
      exact wpAny_execs_nil ⟨_, _, j.ofTry ok, way2⟩
    | brk =>
      obtain ⟨_, _, j, way2⟩ := fin
      exact ⟨_, _, j.ofTry ok, way2⟩
    | cont =>
      obtain ⟨_, _, j, way2⟩ := fin
      exact ⟨_, _, j.ofTry ok, way2⟩
end
end Lb

set_option Elab.async false
set_option linter.all false
set_option maxRecDepth 100000
set_option maxHeartbeats 4000000
/-! isinstance of a caught exception that has an own dict -/
namespace Lb
open PySem PySem.Spec PyProof.Rows L2
/-- isinstance(e, c), e held by the suite at a, an instance of D with the dict dd -/
def rIsX (K : PySem.W.Frag) (D a : Addr) (k : Value) (d : Option Addr) : List V → Hp → VK → Prop := fun xs H Q =>
  ∃ (c : V) (u : Value) (b : Bool) (dd : Addr) (fs : List (Str × V)), xs = [.ref a, c] ∧ k = .ref D ∧ d = some dd ∧ H dd = some (.xd fs) ∧ (∀ v, RelV c v → v = u) ∧ PySem.W.kitOne K (.ref D) u = some b ∧ Q (.bl b) H
theorem call_isX {X : Cx} {a D : Addr} {oe : Obj} {k : Value} {d : Option Addr} {pn : List (Addr × Obj)} (C : ExcC X.K D) (z : Zc k d oe) (f : ∃ vs, oe.data = .fields vs) : CallR (X.suite a ((a, oe) :: pn)) (.builtin "isinstance") (rIsX X.K D a k d) := by
  intro pins s σ H xs us Q I r h
  obtain ⟨c, u, b, dd, fs, rfl, rfl, rfl, ed, only, ans, q⟩ := h
  obtain ⟨u1, u2, rfl, r1, r2⟩ := vals2 r
  cases r1
  cases only _ r2
  obtain ⟨at_, _⟩ := I.pin (a, oe) (List.mem_append_left _ List.mem_cons_self)
  obtain ⟨mA, hns, _⟩ : ObjOk X.prog X.w H s.heap dd (.xd fs) := I.hok dd _ ed
  obtain ⟨od, ho, _⟩ := lookIn_ns hns
  obtain ⟨vs, hd⟩ := f
  have J : PySem.W.InstAt s.heap a oe D (some od) := ⟨at_, z.1, by unfold PySem.W.notCls; rw [hd] <;> rfl, by rw [z.2]; exact ho⟩
  have cl : (PySem.W.clsIn X.K D).isSome = true := by
    obtain ⟨cd, hc, _⟩ := PySem.W.any_some C.hd
    rw [hc]
    rfl
  exact PySem.W.kia_one (PySem.W.kitx_exc cl C.hg C.hk C.hs C.ha C.hn C.ht C.hm) I.kIn J ans (fun z => nomatch z) fun tk => ⟨.bl b, H, I.kept (t' := tk) fun _ _ z => z, rfl, q⟩
end Lb

set_option Elab.async false
set_option linter.all false
set_option maxRecDepth 100000
set_option maxHeartbeats 4000000
/-! own exceptions below an own class over ArithmeticError, whose own __init__ keeps values: made, raised, their fields set -/
namespace Lb
open PySem L2
abbrev arTail : List Value := [.type "ArithmeticError", .type "Exception", .type "BaseException", .type "object"]
/-- what the written part says of such a class: one own class stands above it -/
structure OexA (K : PySem.W.Frag) (C : Addr) : Prop where
  cls : ∃ nm q N bs L sn sub ab col dd k0 k1 k2 k3 k5, K.lookup C = some (excClassObj nm q C N bs (.ref L :: arTail) true sn sub ab col dd k0 k1 k2 k3 k5 "ArithmeticError.__new__")
  sa : PySem.W.findIn K (.ref C) "__setattr__" = some (some (.builtin "object.__setattr__"))
  exC : PySem.W.subIn K (.ref C) (.type "BaseException") = some true
  tyC : PySem.W.typeIn K (.ref C) = some (.type "type")
  kC : PySem.W.keepIn K (.ref C) = true
/-- the class and its __init__ -/
structure ExqA (K : PySem.W.Frag) (mg : Str → Option Value) (x : Str) (C f : Addr) : Prop where
  mC : mg x = some (.ref C)
  ox : OexA K C
  xf : XfC K C
  iC : PySem.W.findIn K (.ref C) "__init__" = some (some (.ref f))
  tI : PySem.W.typeIn K (.ref f) = some (.type "function")
  te : PySem.W.exmOne K (.ref C) (.ref C) = some true
theorem ar_con (L : Addr) (Y : String) : (Value.ref L :: arTail).contains (.type Y) = arTail.contains (.type Y) := by
  rw [List.contains_cons]
  rfl
section
open Builtin Builtin.ObjectAttr
variable {prog : Program} {w : World} {A : Around} {E : Value → Shared → Prop} {R : Result → Shared → Prop} {hp : Heap} {g : Array GenState} {d : Drawn} {t : Nat} {os : OsState}
/-- as far as the store into the own dict -/
theorem ar_store {K : PySem.W.Frag} {name : Str} {tk : Tok} {v : Value} {x C L : Addr} {ox : Obj} {od : Option Obj} {cd : ClassData}
    (X : K.In hp) (I : PySem.W.InstAt hp x ox C od) (hcd : PySem.W.clsIn K C = some cd) (hm : cd.mro = .ref C :: .ref L :: arTail) (ha : PySem.W.findIn K (.ref C) name = some none)
    (hq : wpAny (model prog w) A.in1 (storeInOwnDict (.ref x) (.ref C) (.str name tk) name v false)
      (fun fin s' => match fin with | .done f => R (.ok f) s' | .again c' => c'.quiet = true ∧ codeAny (model prog w) A c' R s') (fun e s' => R (.error e) s') ⟨hp, g, d, t, os⟩) :
    codeAny (model prog w) A (.call (.builtin "object.__setattr__") ⟨[.ref x, .str name tk, v], []⟩) R ⟨hp, g, d, t, os⟩ := by
  have SF := F.store_object
  have hob : PySem.W.mroIn K C (.type "object") = some true := by
    unfold PySem.W.mroIn
    rw [hcd, Option.bind_some, hm, if_neg (show ¬ (List.isEmpty (Value.ref C :: .ref L :: arTail) = true) from Bool.false_ne_true), List.contains_cons, ar_con]
    exact congrArg some ((congrArg (_ || ·) (show arTail.contains (.type "object") = true by decide +kernel)).trans (Bool.or_true _))
  have sub : PySem.W.Looks (model prog w) hp (isInstance (.ref x) (.type "object")) true := I.type.andThen (PySem.W.looks_mroIn X hob)
  have hmr : PySem.W.Looks (model prog w) hp (mroOf (.ref C)) cd.mro := (PySem.W.looks_clsIn X hcd).andThen .now
  have L3 : PySem.W.Looks (model prog w) hp (storeTaker? none) none := .now
  have hpass : refuseLoop (.ref x) "__setattr__" cd.mro = pure () := by
    rw [hm, refuseLoop_ref, refuseLoop_ref]
    exact F.store_ArithmeticError.passes _
  refine codeAny_call_builtin SF.slot.plain SF.entry (@PySem.W.check_slot (model prog w) _ _ ⟨hp, g, d, t, os⟩ "object.__setattr__" "object" "__setattr__" (.ref x) [.str name tk, v] [] _ SF.kind SF.split sub (SF.args (.ref x) (.str name tk) v) ?_)
  rw [PySem.W.osa_eq, refuse_eq]
  refine wpAny_bind (wpAny_bind (I.type.at (wpAny_bind (hmr.at ?_))))
  rw [hpass]
  exact wpAny_pure (wpAny_bind (I.type.at (wpAny_bind ((PySem.W.looks_findIn X ha).at (wpAny_bind (L3.at hq))))))
end
section
variable {X : Cx} {pins : List (Addr × Obj)} {σ : L2.St} {H : Hp} {s : Shared} {a C dx : Addr} {f : Str} {y : V} {u : Value} {fs : List (Str × V)} {Q : Unit → Shared → Prop} {E : Value → Shared → Prop} {A : Around}
theorem ar_new (T : OexA X.K C) (I : Inv X pins σ H s) (e : H a = some (exo a C none)) (hno : PySem.W.findIn X.K (.ref C) f = some none) (ry : RelV y u)
    (h : ∀ dx s', H dx = none → dx ≠ a → Inv X pins σ (upd (upd H dx (exd dx [(f, y)])) a (exo a C (some dx))) s' → Q () s') : wpAny (model X.prog X.w) A (setAttr (.ref a) f u) Q E s := by
  obtain ⟨nm, q, N, bs, L, sn, sub, ab, col, dd, k0, k1, k2, k3, k5, hC⟩ := T.cls
  have hcl : PySem.W.clsIn X.K C = some { name := nm, bases := bs, mro := .ref C :: .ref L :: arTail, ns := N, qualname := q, hasDict := true, slotNames := sn, subclasses := sub, abstract := ab, collection := col, hasDel := false } := by unfold PySem.W.clsIn; rw [hC] <;> rfl
  obtain ⟨t1, ho⟩ := exo_at I.hok e
  obtain ⟨hp, g, d, t, os⟩ := s
  have hcls := PySem.W.looks_clsIn (M := model X.prog X.w) I.kIn hcl
  have hxs : a ≠ hp.objs.size := Nat.ne_of_lt (Heap.lt_size ho)
  refine PySem.W.set_plain I.kIn (ox := { cls := .ref C, dict := none, data := .fields #[.ref t1, .none, .none, .none, .bool false, .none] }) (od := none) ⟨ho, rfl, rfl, trivial⟩ T.sa ?_
  refine ar_store (od := none) I.kIn ⟨ho, rfl, rfl, trivial⟩ hcl rfl hno ?_
  unfold Builtin.ObjectAttr.storeInOwnDict Builtin.ObjectAttr.ownDictForStores
  repeat (first | with_reducible refine PySem.HandSPX.store_in_new ?_ ?_ | with_reducible refine wpAny_loadPart_at ho ?_ | with_reducible refine hcls.at ?_ | wp_step)
  · exact ⟨_, #[], _, (Heap.get?_update_ne _ _ _ _ hxs.symm).trans (Heap.get?_push_at rfl rfl), rfl, fun e he => absurd he (by simp), fun _ => rfl⟩
  intro h' tk' hn hs
  have k : ∀ b o, b ≠ a → hp.get? b = some o → h'.get? b = some o := fun b o hb q => (hs.2 b (Nat.ne_of_lt (Heap.lt_size q))).trans ((Heap.get?_update_ne _ _ _ _ hb).trans (Heap.get?_push_of_some _ q))
  have hx : h'.get? a = some { cls := .ref C, dict := some hp.objs.size, data := .fields #[.ref t1, .none, .none, .none, .bool false, .none] } :=
    (hs.2 a hxs).trans (Heap.get?_update_self _ (Heap.get?_push_of_some _ ho) rfl)
  have hnd : H hp.objs.size = none := I.hok.fresh (Nat.le_refl _)
  have na : ∀ {b : Addr}, H b = none → b ≠ a := fun {b} n z => by
    rw [z, e] at n
    cases n
  have nd : ∀ {b : Addr} {o : Obj}, hp.get? b = some o → b ≠ hp.objs.size := fun q => Nat.ne_of_lt (Heap.lt_size q)
  have U : Un X.fs [] H (upd (upd H hp.objs.size (exd hp.objs.size [(f, y)])) a (exo a C (some hp.objs.size))) hp h' := {
    keep := fun b o q n _ _ => k b o (na n) q
    slot := fun b o q n _ _ => ⟨o.slots, k b o (na n) q⟩
    free := fun b o q n _ => by rw [upd_ne (na n), upd_ne (nd q)]; exact n
    there := fun b o q _ => by
      by_cases hb : b = a
      · exact ⟨_, by rw [hb]; exact hx⟩
      · exact ⟨o, k b o hb q⟩
    tups := fun b xs q => by rw [upd_ne (at_ne e q exo_tup), upd_ne (ne_of_none q hnd)]; exact q
    frzs := fun b o v q => by rw [upd_ne (at_ne e q exo_frz), upd_ne (ne_of_none q hnd)]; exact q
    tbls := fun b ps q => ⟨#[], by rw [upd_ne (at_ne e q exo_tbl), upd_ne (ne_of_none q hnd), q]; simp⟩ }
  refine h _ _ hnd hxs.symm (I.un (t' := tk') U fun b o q => ?_)
  by_cases hb : b = a
  · subst hb
    rw [upd_same] at q
    cases q
    exact exo_ok hx
  rw [upd_ne hb] at q
  by_cases hd : b = hp.objs.size
  · subst hd
    rw [upd_same] at q
    cases q
    exact exd_ok hn (relO_put (fs := []) ry fun g => True.intro)
  rw [upd_ne hd] at q
  refine (I.hok b o q).stay (fun c v hc z => k c v ?_ z) (fun c hc => ?_) (fun c xs hc => ?_)
  · rcases hc with rfl | hc
    · exact hb
    · exact at_ne e hc exo_own
  · rw [upd_ne (at_ne e hc exo_own), upd_ne (ne_of_none hc hnd)]
    exact hc
  · rw [upd_ne (at_ne e hc exo_tup), upd_ne (ne_of_none hc hnd)]
    exact hc
theorem ar_old (T : OexA X.K C) (I : Inv X pins σ H s) (e : H a = some (exo a C (some dx))) (ed : H dx = some (exd dx fs)) (hl : fs.length ≤ 900) (hno : PySem.W.findIn X.K (.ref C) f = some none) (ry : RelV y u)
    (h : ∀ s', Inv X pins σ (upd H dx (exd dx ((f, y) :: fs))) s' → Q () s') : wpAny (model X.prog X.w) A (setAttr (.ref a) f u) Q E s := by
  obtain ⟨nm, q, N, bs, L, sn, sub, ab, col, dd, k0, k1, k2, k3, k5, hC⟩ := T.cls
  have hcl : PySem.W.clsIn X.K C = some { name := nm, bases := bs, mro := .ref C :: .ref L :: arTail, ns := N, qualname := q, hasDict := true, slotNames := sn, subclasses := sub, abstract := ab, collection := col, hasDel := false } := by unfold PySem.W.clsIn; rw [hC] <;> rfl
  obtain ⟨t1, ho⟩ := exo_at I.hok e
  obtain ⟨mA, hns, rel⟩ := exd_at I.hok ed
  have hw := within_of rel
  obtain ⟨hp, g, d, t, os⟩ := s
  obtain ⟨oD, _, _, hoD, _, _⟩ := hns.count hw
  have hcls := PySem.W.looks_clsIn (M := model X.prog X.w) I.kIn hcl
  have hz : (fs.map (·.1)).length ≤ 1000 := by rw [List.length_map]; omega
  refine PySem.W.set_plain I.kIn (ox := { cls := .ref C, dict := some dx, data := .fields #[.ref t1, .none, .none, .none, .bool false, .none] }) (od := some oD) ⟨ho, rfl, rfl, hoD⟩ T.sa ?_
  refine ar_store (od := some oD) I.kIn ⟨ho, rfl, rfl, hoD⟩ hcl rfl hno ?_
  unfold Builtin.ObjectAttr.storeInOwnDict Builtin.ObjectAttr.ownDictForStores
  repeat (first | with_reducible refine PySem.OEX.store_in_old hns hw hz ?_ | with_reducible refine wpAny_loadPart_at ho ?_ | with_reducible refine hcls.at ?_ | wp_step)
  intro h' tk' hn hs
  have hd : ∃ o, h'.get? dx = some o := by
    obtain ⟨o, _, _, e', _⟩ := hn
    exact ⟨o, e'⟩
  exact h _ (I.write (t' := tk') (x := dx) (e := dx) (o := exd dx ((f, y) :: fs)) (by rw [ed]; exact True.intro) (.inl rfl) (fun b o hb q => (hs.2 b hb).trans q) hd (exd_ok hn (relO_put ry rel)))
end
/-- self.f = e -/
def tOstA (K : PySem.W.Frag) (f : Str) (to te : TE) : TS := fun D σ H => te σ H fun y H1 => to σ H1 fun x H2 => ∃ a C : Addr, x = .ref a ∧ OexA K C ∧ PySem.W.findIn K (.ref C) f = some none ∧
  ((H2 a = some (exo a C none) ∧ ∀ dx, H2 dx = none → dx ≠ a → D.nx σ (upd (upd H2 dx (exd dx [(f, y)])) a (exo a C (some dx)))) ∨
    ∃ (dx : Addr) (fs : List (Str × V)), H2 a = some (exo a C (some dx)) ∧ H2 dx = some (exd dx fs) ∧ fs.length ≤ 900 ∧ D.nx σ (upd H2 dx (exd dx ((f, y) :: fs))))
section
variable {X : Cx} {o e : Expr} {es : List Expr} {to te : TE} {ta : TA} {f : Str} {p p' pos : Pos}
theorem ps_ostA (ho : PE X o to) (he : PE X e te) (hs : swapsWith e (some (.Attribute o f p')) pos.line X.env = pure false := by rfl) : PS X (.Assign [.Attribute o f p'] e pos) (tOstA X.K f to te) := by
  refine ⟨fun pins s σ H D I h => plainObj_wpAny_Assign_Attribute (thn (he.run pins s σ H _ I h) fun v s1 ⟨y, H1, I1, r1, q1⟩ => thn (ho.run pins s1 σ H1 _ I1 q1) fun u s2 ⟨x, H2, I2, r2, a, C, ex, T, hno, q⟩ => ?_) hs⟩
  subst ex
  obtain rfl : u = Value.ref a := r2
  rcases q with ⟨ea, q⟩ | ⟨dx, fs, ea, ed, hl, q⟩
  · exact ar_new T I2 ea hno r1 fun dx s' n ne J => ⟨σ, _, J, q dx n ne⟩
  · exact ar_old T I2 ea ed hl hno r1 fun s' J => ⟨σ, _, J, q⟩
theorem pmk_oexA {CX : CXT} {x : Str} {C fI : Addr} {k : Nat} {fd : FuncData} {ps : List Str} {sp : Sp} {ds : List Value} {dvs : List V} (T : OexA X.K C) (iC : PySem.W.findIn X.K (.ref C) "__init__" = some (some (.ref fI))) (tI : PySem.W.typeIn X.K (.ref fI) = some (.type "function"))
    (F1 : FnOk X.prog X.w X.K X.mg X.base CX k fI fd ps sp) (hr : Room (k + 1) X.A) (hb : Binds X.K fd ps ds) (hd : Vals dvs ds) (hx : Passes CX X (fun _ _ _ => False)) (hg : Gl X x) (hm : X.mg x = some (.ref C)) (ha : PA X (e :: es) ta)
    (hdb : (x == ("__debug__" : Str)) = false := by decide) (he : starEach (e :: es) X.env = (false, eval e X.env) :: starEach es X.env := by rfl) (hpl : (backTo pos (starEach es X.env)).any (·.1) = false := by rfl) :
    PMk X (.Call (.Name x p) (e :: es) [] pos) (tMkO C sp dvs ta) := by
  intro pins s σ H Q I h
  obtain ⟨nm, q, N, bs, L, sn, sub, ab, col, dd, k0, k1, k2, k3, k5, hC⟩ := T.cls
  refine wpAny_Call_Name_kw (ld_glob I hg hm ?_ hdb)
  refine PySem.W.callWith_K (h₀ := X.base) I.ok.mod.kin T.kC (thn (ha.run pos pins s σ H _ I h) fun us s1 ⟨vs, H1, I1, r1, hz, q1⟩ => ⟨I1.kIn, ?_⟩) he hpl
  show wpAny _ _ (call (.ref C) us) _ _ _
  obtain ⟨hp, g, dr, tk, os⟩ := s1
  have hsz : hp.objs.size ≤ hp.objs.size + 1 := Nat.le_succ _
  have hq := q1 _ (I1.hok.fresh hsz)
  have kk : ∀ b o, hp.get? b = some o → ((hp.push (PySem.W.kdv_tup us)).push (PySem.HandSPX.excO C hp.objs.size)).get? b = some o := fun b o e => Heap.get?_push_of_some _ (Heap.get?_push_of_some _ e)
  have I2 : Inv X pins σ (upd H1 (hp.objs.size + 1) (exo (hp.objs.size + 1) C none)) ⟨(hp.push (PySem.W.kdv_tup us)).push (PySem.HandSPX.excO C hp.objs.size), g, dr, tk, os⟩ :=
    I1.laid (t' := tk) (a := hp.objs.size + 1) (o := exo (hp.objs.size + 1) C none) (h' := (hp.push (PySem.W.kdv_tup us)).push (PySem.HandSPX.excO C hp.objs.size)) kk hsz (exo_ok (t1 := hp.objs.size) (by heap_get))
  have r2 : Vals (V.ref (hp.objs.size + 1) :: (vs ++ dvs)) (Value.ref (hp.objs.size + 1) :: (us ++ ds)) := .cons rfl (r1.append hd)
  have hl : (Value.ref (hp.objs.size + 1) :: us ++ ds).length = ps.length := r2.length.symm.trans (F1.len _ _ _ _ hq)
  have hus : us.length ≤ sizeLine := by
    rw [← Paired.length r1, sizeLine_eq]
    omega
  refine wpAny_call (PySem.HandSPX.call_own F.excBase_ArithmeticError (ar_con L) (I1.kIn _ _ hC) (PySem.W.looks_findIn I1.kIn iC) (fun self => PySem.W.bind_fn I1.kIn self tI) hus
    (codeAny_mono (F1.run _ X.stack _ _ ⟨Value.ref (hp.objs.size + 1) :: us, []⟩ (Value.ref (hp.objs.size + 1) :: (us ++ ds)) _ _ (fun _ _ _ => False) (hr.make C us []) (I2.env0.make C us []) (hb _ (Value.ref (hp.objs.size + 1) :: us) I2.kIn hl) r2 hq) fun r s' hq' => ?_))
  match r, hq' with
  | .error er, hq' => exact hx pins σ _ _ er s' I2 hq'
  | .ok (.ret u), hq' =>
    obtain ⟨v, H2, os2, bare2, un2, hok2, rv, ev, d, fs, ea, ed, hd1, q2⟩ := hq'
    subst ev
    obtain ⟨h2, g2, d2, t2, os'⟩ := s'
    exact ⟨rv, mk_end (raises_own T.exC T.tyC) I1 hsz kk un2 hok2 os2 bare2 ea ed hd1 q2⟩
  | .ok .next, hq' => exact hq'.elim
  | .ok .brk, hq' => exact hq'.elim
  | .ok .cont, hq' => exact hq'.elim
end
end Lb

set_option Elab.async false
set_option linter.all false
set_option maxRecDepth 100000
set_option maxHeartbeats 4000000
/-! own exceptions below an own class over any built-in one, as values: made (by position, by name), their fields set and read, isinstance of them -/
namespace Lb
open PySem L2
/-- the built-in class at the bottom -/
structure Fam (B newId initId : String) (tail : List Value) : Prop where
  base : ExcBaseFacts B newId initId tail
  pass : ∀ self, refuseLoop self "__setattr__" tail = pure ()
  obj : tail.contains (.type "object") = true
theorem famVE : Fam "ValueError" "ValueError.__new__" "ValueError.__init__" [.type "ValueError", .type "Exception", .type "BaseException", .type "object"] := ⟨F.excBase_ValueError, F.store_ValueError.passes, by decide +kernel⟩
theorem famAE : Fam "ArithmeticError" "ArithmeticError.__new__" "ArithmeticError.__init__" arTail := ⟨F.excBase_ArithmeticError, F.store_ArithmeticError.passes, by decide +kernel⟩
theorem famLE : Fam "LookupError" "LookupError.__new__" "LookupError.__init__" [.type "LookupError", .type "Exception", .type "BaseException", .type "object"] := ⟨F.excBase_LookupError, F.store_LookupError.passes, by decide +kernel⟩
theorem famRE : Fam "RuntimeError" "RuntimeError.__new__" "RuntimeError.__init__" [.type "RuntimeError", .type "Exception", .type "BaseException", .type "object"] := ⟨F.excBase_RuntimeError, F.store_RuntimeError.passes, by decide +kernel⟩
theorem fm_con (L : Addr) (tail : List Value) (Y : String) : (Value.ref L :: tail).contains (.type Y) = tail.contains (.type Y) := by
  rw [List.contains_cons]
  rfl
/-- what the written part says of such a class: one own class stands above it -/
structure OexF (K : PySem.W.Frag) (C : Addr) : Prop where
  cls : ∃ B newId initId tail nm q N bs L sn sub ab col dd k0 k1 k2 k3 k5, Fam B newId initId tail ∧ K.lookup C = some (excClassObj nm q C N bs (.ref L :: tail) true sn sub ab col dd k0 k1 k2 k3 k5 newId)
  sa : PySem.W.findIn K (.ref C) "__setattr__" = some (some (.builtin "object.__setattr__"))
  exC : PySem.W.subIn K (.ref C) (.type "BaseException") = some true
  tyC : PySem.W.typeIn K (.ref C) = some (.type "type")
  kC : PySem.W.keepIn K (.ref C) = true
/-- the class and its __init__ -/
structure ExqF (K : PySem.W.Frag) (mg : Str → Option Value) (x : Str) (C f : Addr) : Prop where
  mC : mg x = some (.ref C)
  ox : OexF K C
  eC : ExcC K C
  iC : PySem.W.findIn K (.ref C) "__init__" = some (some (.ref f))
  tI : PySem.W.typeIn K (.ref f) = some (.type "function")
section
open Builtin Builtin.ObjectAttr
variable {prog : Program} {w : World} {A : Around} {E : Value → Shared → Prop} {R : Result → Shared → Prop} {hp : Heap} {g : Array GenState} {d : Drawn} {t : Nat} {os : OsState}
/-- as far as the store into the own dict -/
theorem fm_store {K : PySem.W.Frag} {name : Str} {tk : Tok} {v : Value} {x C L : Addr} {tail : List Value} {B newId initId : String} (FM : Fam B newId initId tail) {ox : Obj} {od : Option Obj} {cd : ClassData}
    (X : K.In hp) (I : PySem.W.InstAt hp x ox C od) (hcd : PySem.W.clsIn K C = some cd) (hm : cd.mro = .ref C :: .ref L :: tail) (ha : PySem.W.findIn K (.ref C) name = some none)
    (hq : wpAny (model prog w) A.in1 (storeInOwnDict (.ref x) (.ref C) (.str name tk) name v false)
      (fun fin s' => match fin with | .done f => R (.ok f) s' | .again c' => c'.quiet = true ∧ codeAny (model prog w) A c' R s') (fun e s' => R (.error e) s') ⟨hp, g, d, t, os⟩) :
    codeAny (model prog w) A (.call (.builtin "object.__setattr__") ⟨[.ref x, .str name tk, v], []⟩) R ⟨hp, g, d, t, os⟩ := by
  have SF := F.store_object
  have hob : PySem.W.mroIn K C (.type "object") = some true := by
    unfold PySem.W.mroIn
    rw [hcd, Option.bind_some, hm, if_neg (show ¬ (List.isEmpty (Value.ref C :: .ref L :: tail) = true) from Bool.false_ne_true), List.contains_cons, fm_con]
    exact congrArg some ((congrArg (_ || ·) (show tail.contains (.type "object") = true from FM.obj)).trans (Bool.or_true _))
  have sub : PySem.W.Looks (model prog w) hp (isInstance (.ref x) (.type "object")) true := I.type.andThen (PySem.W.looks_mroIn X hob)
  have hmr : PySem.W.Looks (model prog w) hp (mroOf (.ref C)) cd.mro := (PySem.W.looks_clsIn X hcd).andThen .now
  have L3 : PySem.W.Looks (model prog w) hp (storeTaker? none) none := .now
  have hpass : refuseLoop (.ref x) "__setattr__" cd.mro = pure () := by
    rw [hm, refuseLoop_ref, refuseLoop_ref]
    exact FM.pass _
  refine codeAny_call_builtin SF.slot.plain SF.entry (@PySem.W.check_slot (model prog w) _ _ ⟨hp, g, d, t, os⟩ "object.__setattr__" "object" "__setattr__" (.ref x) [.str name tk, v] [] _ SF.kind SF.split sub (SF.args (.ref x) (.str name tk) v) ?_)
  rw [PySem.W.osa_eq, refuse_eq]
  refine wpAny_bind (wpAny_bind (I.type.at (wpAny_bind (hmr.at ?_))))
  rw [hpass]
  exact wpAny_pure (wpAny_bind (I.type.at (wpAny_bind ((PySem.W.looks_findIn X ha).at (wpAny_bind (L3.at hq))))))
end
section
variable {X : Cx} {pins : List (Addr × Obj)} {σ : L2.St} {H : Hp} {s : Shared} {a C dx : Addr} {f : Str} {y : V} {u : Value} {fs : List (Str × V)} {Q : Unit → Shared → Prop} {E : Value → Shared → Prop} {A : Around}
theorem fm_new (T : OexF X.K C) (I : Inv X pins σ H s) (e : H a = some (exo a C none)) (hno : PySem.W.findIn X.K (.ref C) f = some none) (ry : RelV y u)
    (h : ∀ dx s', H dx = none → dx ≠ a → Inv X pins σ (upd (upd H dx (exd dx [(f, y)])) a (exo a C (some dx))) s' → Q () s') : wpAny (model X.prog X.w) A (setAttr (.ref a) f u) Q E s := by
  obtain ⟨B, newId, initId, tail, nm, q, N, bs, L, sn, sub, ab, col, dd, k0, k1, k2, k3, k5, FM, hC⟩ := T.cls
  have hcl : PySem.W.clsIn X.K C = some { name := nm, bases := bs, mro := .ref C :: .ref L :: tail, ns := N, qualname := q, hasDict := true, slotNames := sn, subclasses := sub, abstract := ab, collection := col, hasDel := false } := by unfold PySem.W.clsIn; rw [hC] <;> rfl
  obtain ⟨t1, ho⟩ := exo_at I.hok e
  obtain ⟨hp, g, d, t, os⟩ := s
  have hcls := PySem.W.looks_clsIn (M := model X.prog X.w) I.kIn hcl
  have hxs : a ≠ hp.objs.size := Nat.ne_of_lt (Heap.lt_size ho)
  refine PySem.W.set_plain I.kIn (ox := { cls := .ref C, dict := none, data := .fields #[.ref t1, .none, .none, .none, .bool false, .none] }) (od := none) ⟨ho, rfl, rfl, trivial⟩ T.sa ?_
  refine fm_store FM (od := none) I.kIn ⟨ho, rfl, rfl, trivial⟩ hcl rfl hno ?_
  unfold Builtin.ObjectAttr.storeInOwnDict Builtin.ObjectAttr.ownDictForStores
  repeat (first | with_reducible refine PySem.HandSPX.store_in_new ?_ ?_ | with_reducible refine wpAny_loadPart_at ho ?_ | with_reducible refine hcls.at ?_ | wp_step)
  · exact ⟨_, #[], _, (Heap.get?_update_ne _ _ _ _ hxs.symm).trans (Heap.get?_push_at rfl rfl), rfl, fun e he => absurd he (by simp), fun _ => rfl⟩
  intro h' tk' hn hs
  have k : ∀ b o, b ≠ a → hp.get? b = some o → h'.get? b = some o := fun b o hb q => (hs.2 b (Nat.ne_of_lt (Heap.lt_size q))).trans ((Heap.get?_update_ne _ _ _ _ hb).trans (Heap.get?_push_of_some _ q))
  have hx : h'.get? a = some { cls := .ref C, dict := some hp.objs.size, data := .fields #[.ref t1, .none, .none, .none, .bool false, .none] } :=
    (hs.2 a hxs).trans (Heap.get?_update_self _ (Heap.get?_push_of_some _ ho) rfl)
  have hnd : H hp.objs.size = none := I.hok.fresh (Nat.le_refl _)
  have na : ∀ {b : Addr}, H b = none → b ≠ a := fun {b} n z => by
    rw [z, e] at n
    cases n
  have nd : ∀ {b : Addr} {o : Obj}, hp.get? b = some o → b ≠ hp.objs.size := fun q => Nat.ne_of_lt (Heap.lt_size q)
  have U : Un X.fs [] H (upd (upd H hp.objs.size (exd hp.objs.size [(f, y)])) a (exo a C (some hp.objs.size))) hp h' := {
    keep := fun b o q n _ _ => k b o (na n) q
    slot := fun b o q n _ _ => ⟨o.slots, k b o (na n) q⟩
    free := fun b o q n _ => by rw [upd_ne (na n), upd_ne (nd q)]; exact n
    there := fun b o q _ => by
      by_cases hb : b = a
      · exact ⟨_, by rw [hb]; exact hx⟩
      · exact ⟨o, k b o hb q⟩
    tups := fun b xs q => by rw [upd_ne (at_ne e q exo_tup), upd_ne (ne_of_none q hnd)]; exact q
    frzs := fun b o v q => by rw [upd_ne (at_ne e q exo_frz), upd_ne (ne_of_none q hnd)]; exact q
    tbls := fun b ps q => ⟨#[], by rw [upd_ne (at_ne e q exo_tbl), upd_ne (ne_of_none q hnd), q]; simp⟩ }
  refine h _ _ hnd hxs.symm (I.un (t' := tk') U fun b o q => ?_)
  by_cases hb : b = a
  · subst hb
    rw [upd_same] at q
    cases q
    exact exo_ok hx
  rw [upd_ne hb] at q
  by_cases hd : b = hp.objs.size
  · subst hd
    rw [upd_same] at q
    cases q
    exact exd_ok hn (relO_put (fs := []) ry fun g => True.intro)
  rw [upd_ne hd] at q
  refine (I.hok b o q).stay (fun c v hc z => k c v ?_ z) (fun c hc => ?_) (fun c xs hc => ?_)
  · rcases hc with rfl | hc
    · exact hb
    · exact at_ne e hc exo_own
  · rw [upd_ne (at_ne e hc exo_own), upd_ne (ne_of_none hc hnd)]
    exact hc
  · rw [upd_ne (at_ne e hc exo_tup), upd_ne (ne_of_none hc hnd)]
    exact hc
theorem fm_old (T : OexF X.K C) (I : Inv X pins σ H s) (e : H a = some (exo a C (some dx))) (ed : H dx = some (exd dx fs)) (hl : fs.length ≤ 900) (hno : PySem.W.findIn X.K (.ref C) f = some none) (ry : RelV y u)
    (h : ∀ s', Inv X pins σ (upd H dx (exd dx ((f, y) :: fs))) s' → Q () s') : wpAny (model X.prog X.w) A (setAttr (.ref a) f u) Q E s := by
  obtain ⟨B, newId, initId, tail, nm, q, N, bs, L, sn, sub, ab, col, dd, k0, k1, k2, k3, k5, FM, hC⟩ := T.cls
  have hcl : PySem.W.clsIn X.K C = some { name := nm, bases := bs, mro := .ref C :: .ref L :: tail, ns := N, qualname := q, hasDict := true, slotNames := sn, subclasses := sub, abstract := ab, collection := col, hasDel := false } := by unfold PySem.W.clsIn; rw [hC] <;> rfl
  obtain ⟨t1, ho⟩ := exo_at I.hok e
  obtain ⟨mA, hns, rel⟩ := exd_at I.hok ed
  have hw := within_of rel
  obtain ⟨hp, g, d, t, os⟩ := s
  obtain ⟨oD, _, _, hoD, _, _⟩ := hns.count hw
  have hcls := PySem.W.looks_clsIn (M := model X.prog X.w) I.kIn hcl
  have hz : (fs.map (·.1)).length ≤ 1000 := by rw [List.length_map]; omega
  refine PySem.W.set_plain I.kIn (ox := { cls := .ref C, dict := some dx, data := .fields #[.ref t1, .none, .none, .none, .bool false, .none] }) (od := some oD) ⟨ho, rfl, rfl, hoD⟩ T.sa ?_
  refine fm_store FM (od := some oD) I.kIn ⟨ho, rfl, rfl, hoD⟩ hcl rfl hno ?_
  unfold Builtin.ObjectAttr.storeInOwnDict Builtin.ObjectAttr.ownDictForStores
  repeat (first | with_reducible refine PySem.OEX.store_in_old hns hw hz ?_ | with_reducible refine wpAny_loadPart_at ho ?_ | with_reducible refine hcls.at ?_ | wp_step)
  intro h' tk' hn hs
  have hd : ∃ o, h'.get? dx = some o := by
    obtain ⟨o, _, _, e', _⟩ := hn
    exact ⟨o, e'⟩
  exact h _ (I.write (t' := tk') (x := dx) (e := dx) (o := exd dx ((f, y) :: fs)) (by rw [ed]; exact True.intro) (.inl rfl) (fun b o hb q => (hs.2 b hb).trans q) hd (exd_ok hn (relO_put ry rel)))
end
/-- self.f = e -/
def tOstF (K : PySem.W.Frag) (f : Str) (to te : TE) : TS := fun D σ H => te σ H fun y H1 => to σ H1 fun x H2 => ∃ a C : Addr, x = .ref a ∧ OexF K C ∧ PySem.W.findIn K (.ref C) f = some none ∧
  ((H2 a = some (exo a C none) ∧ ∀ dx, H2 dx = none → dx ≠ a → D.nx σ (upd (upd H2 dx (exd dx [(f, y)])) a (exo a C (some dx)))) ∨
    ∃ (dx : Addr) (fs : List (Str × V)), H2 a = some (exo a C (some dx)) ∧ H2 dx = some (exd dx fs) ∧ fs.length ≤ 900 ∧ D.nx σ (upd H2 dx (exd dx ((f, y) :: fs))))
section
variable {X : Cx} {o e : Expr} {es : List Expr} {to te : TE} {ta : TA} {f : Str} {p p' pos : Pos}
theorem ps_ostF (ho : PE X o to) (he : PE X e te) (hs : swapsWith e (some (.Attribute o f p')) pos.line X.env = pure false := by rfl) : PS X (.Assign [.Attribute o f p'] e pos) (tOstF X.K f to te) := by
  refine ⟨fun pins s σ H D I h => plainObj_wpAny_Assign_Attribute (thn (he.run pins s σ H _ I h) fun v s1 ⟨y, H1, I1, r1, q1⟩ => thn (ho.run pins s1 σ H1 _ I1 q1) fun u s2 ⟨x, H2, I2, r2, a, C, ex, T, hno, q⟩ => ?_) hs⟩
  subst ex
  obtain rfl : u = Value.ref a := r2
  rcases q with ⟨ea, q⟩ | ⟨dx, fs, ea, ed, hl, q⟩
  · exact fm_new T I2 ea hno r1 fun dx s' n ne J => ⟨σ, _, J, q dx n ne⟩
  · exact fm_old T I2 ea ed hl hno r1 fun s' J => ⟨σ, _, J, q⟩
theorem pmk_oexF {CX : CXT} {x : Str} {C fI : Addr} {k : Nat} {fd : FuncData} {ps : List Str} {sp : Sp} {ds : List Value} {dvs : List V} (T : OexF X.K C) (iC : PySem.W.findIn X.K (.ref C) "__init__" = some (some (.ref fI))) (tI : PySem.W.typeIn X.K (.ref fI) = some (.type "function"))
    (F1 : FnOk X.prog X.w X.K X.mg X.base CX k fI fd ps sp) (hr : Room (k + 1) X.A) (hb : Binds X.K fd ps ds) (hd : Vals dvs ds) (hx : Passes CX X (fun _ _ _ => False)) (hg : Gl X x) (hm : X.mg x = some (.ref C)) (ha : PA X (e :: es) ta)
    (hdb : (x == ("__debug__" : Str)) = false := by decide) (he : starEach (e :: es) X.env = (false, eval e X.env) :: starEach es X.env := by rfl) (hpl : (backTo pos (starEach es X.env)).any (·.1) = false := by rfl) :
    PMk X (.Call (.Name x p) (e :: es) [] pos) (tMkO C sp dvs ta) := by
  intro pins s σ H Q I h
  obtain ⟨B, newId, initId, tail, nm, q, N, bs, L, sn, sub, ab, col, dd, k0, k1, k2, k3, k5, FM, hC⟩ := T.cls
  refine wpAny_Call_Name_kw (ld_glob I hg hm ?_ hdb)
  refine PySem.W.callWith_K (h₀ := X.base) I.ok.mod.kin T.kC (thn (ha.run pos pins s σ H _ I h) fun us s1 ⟨vs, H1, I1, r1, hz, q1⟩ => ⟨I1.kIn, ?_⟩) he hpl
  show wpAny _ _ (call (.ref C) us) _ _ _
  obtain ⟨hp, g, dr, tk, os⟩ := s1
  have hsz : hp.objs.size ≤ hp.objs.size + 1 := Nat.le_succ _
  have hq := q1 _ (I1.hok.fresh hsz)
  have kk : ∀ b o, hp.get? b = some o → ((hp.push (PySem.W.kdv_tup us)).push (PySem.HandSPX.excO C hp.objs.size)).get? b = some o := fun b o e => Heap.get?_push_of_some _ (Heap.get?_push_of_some _ e)
  have I2 : Inv X pins σ (upd H1 (hp.objs.size + 1) (exo (hp.objs.size + 1) C none)) ⟨(hp.push (PySem.W.kdv_tup us)).push (PySem.HandSPX.excO C hp.objs.size), g, dr, tk, os⟩ :=
    I1.laid (t' := tk) (a := hp.objs.size + 1) (o := exo (hp.objs.size + 1) C none) (h' := (hp.push (PySem.W.kdv_tup us)).push (PySem.HandSPX.excO C hp.objs.size)) kk hsz (exo_ok (t1 := hp.objs.size) (by heap_get))
  have r2 : Vals (V.ref (hp.objs.size + 1) :: (vs ++ dvs)) (Value.ref (hp.objs.size + 1) :: (us ++ ds)) := .cons rfl (r1.append hd)
  have hl : (Value.ref (hp.objs.size + 1) :: us ++ ds).length = ps.length := r2.length.symm.trans (F1.len _ _ _ _ hq)
  have hus : us.length ≤ sizeLine := by
    rw [← Paired.length r1, sizeLine_eq]
    omega
  refine wpAny_call (PySem.HandSPX.call_own FM.base (fm_con L tail) (I1.kIn _ _ hC) (PySem.W.looks_findIn I1.kIn iC) (fun self => PySem.W.bind_fn I1.kIn self tI) hus
    (codeAny_mono (F1.run _ X.stack _ _ ⟨Value.ref (hp.objs.size + 1) :: us, []⟩ (Value.ref (hp.objs.size + 1) :: (us ++ ds)) _ _ (fun _ _ _ => False) (hr.make C us []) (I2.env0.make C us []) (hb _ (Value.ref (hp.objs.size + 1) :: us) I2.kIn hl) r2 hq) fun r s' hq' => ?_))
  match r, hq' with
  | .error er, hq' => exact hx pins σ _ _ er s' I2 hq'
  | .ok (.ret u), hq' =>
    obtain ⟨v, H2, os2, bare2, un2, hok2, rv, ev, d, fs, ea, ed, hd1, q2⟩ := hq'
    subst ev
    obtain ⟨h2, g2, d2, t2, os'⟩ := s'
    exact ⟨rv, mk_end (raises_own T.exC T.tyC) I1 hsz kk un2 hok2 os2 bare2 ea ed hd1 q2⟩
  | .ok .next, hq' => exact hq'.elim
  | .ok .brk, hq' => exact hq'.elim
  | .ok .cont, hq' => exact hq'.elim
end
end Lb

set_option Elab.async false
set_option linter.all false
set_option maxRecDepth 100000
set_option maxHeartbeats 4000000
namespace Lb
open PySem PySem.PX
section
variable {M : Model} {prog : Program} {w : World} {A : Around} {E : Value → Shared → Prop} {R : Result → Shared → Prop} {h : Heap} {g : Array GenState} {d : Drawn} {t : Nat} {os : OsState}
variable {nm q : Str} {C N : Addr} {bs bm bmB : List Value} {hdct : Bool} {sn : List Str} {sub : List Value} {ab : Bool} {col : Option Bool} {dd : Option Addr} {k0 k1 k2 k3 k5 : Option Value} {B newId initId : String}
theorem kw_check (F : ExcBaseFacts B newId initId bmB) (hT : ∀ X : String, bm.contains (.type X) = bmB.contains (.type X)) {rest : List Value} {kw : List (Str × Value)} {Q : Unit → Shared → Prop}
    (hC : h.get? C = some (excClassObj nm q C N bs bm hdct sn sub ab col dd k0 k1 k2 k3 k5 newId)) (hq : Q () ⟨h, g, d, t, os⟩) : wpAny M A (checkBuiltinCall newId ⟨.ref C :: rest, kw⟩) Q E ⟨h, g, d, t, os⟩ := by
  have hcont : (Value.ref C :: bm).contains (.type B) = true := by rw [List.contains_cons, hT, F.hasB, Bool.or_true]
  have hstar := F.noStar
  simp only [checkBuiltinCall, F.newKind, F.newSplit, F.newRow]
  repeat (first | refine wpAny_loadPart_at hC ?_ | (refine wpAny_isSubtype_exc hC ?_; rw [hcont]) | refine wpAny_staticBase_exc hC ?_ | refine wpAny_madeBy_exc hC ?_ | simp only [bne_self_eq_false, Bool.false_eq_true, if_false] | wp_step)
  exact hq
theorem kw_new (F : ExcBaseFacts B newId initId bmB) (hT : ∀ X : String, bm.contains (.type X) = bmB.contains (.type X)) {rest : List Value} {kw : List (Str × Value)}
    (hC : h.get? C = some (excClassObj nm q C N bs bm hdct sn sub ab col dd k0 k1 k2 k3 k5 newId))
    (hq : R (.ok (.ret (.ref (h.objs.size + 1)))) ⟨(h.push (W.kdv_tup rest)).push (HandSPX.excO C h.objs.size), g, d, t, os⟩) (hrest : rest.length ≤ sizeLine) :
    codeAny (model prog w) A (.builtin newId ⟨.ref C :: rest, kw⟩) R ⟨h, g, d, t, os⟩ := by
  have he := F.ends
  have hB : (Value.ref C :: bm).contains (.type B) = true := by rw [List.contains_cons, hT, F.hasB, Bool.or_true]
  have hA : (Value.ref C :: bm).contains (.type "AttributeError") = false := by rw [List.contains_cons, hT, F.noAttr]; rfl
  have hN : (Value.ref C :: bm).contains (.type "NameError") = false := by rw [List.contains_cons, hT, F.noName]; rfl
  refine codeAny_builtinAt F.entry ?_
  unfold Builtin.«BaseException.__new__»
  refine wpAt_bind ?_
  show wpAt _ _ _ (stack >>= _) _ _ _
  refine wpAt_bind (wpAt_stack fun p below => wpAt_of_wpAny ?_)
  wp_walk
  refine wpAt_of_wpAny ?_
  rw [F.owner]
  repeat (first | with_reducible refine wpAny_madeHere_exc F.canon hC ?_ | with_reducible refine wpAny_loadPart_at hC ?_ | (with_reducible refine wpAny_isSubtype_exc hC ?_; first | rw [hB] | rw [hA] | rw [hN]) | wp_step)
  show R _ _
  rw [Heap.size_push]
  exact hq
theorem kw_type (F : ExcBaseFacts B newId initId bmB) (hT : ∀ X : String, bm.contains (.type X) = bmB.contains (.type X)) {rest : List Value} {kw : List (Str × Value)} {fI : Addr} {Q : Fin → Shared → Prop}
    (hC : h.get? C = some (excClassObj nm q C N bs bm hdct sn sub ab col dd k0 k1 k2 k3 k5 newId))
    (hi : W.Looks (model prog w) h (typeLookup (.ref C) "__init__") (some (.ref fI))) (hb : ∀ self, W.Looks (model prog w) h (bindSpecial (.ref fI) self) (.ref fI, [self])) (hrest : rest.length ≤ sizeLine)
    (hq : codeAny (model prog w) A (.call (.ref fI) ⟨.ref (h.objs.size + 1) :: rest, kw⟩)
      (fun r s' => match r with | .ok (.ret v) => v = .none ∧ Q (.done (.ret (.ref (h.objs.size + 1)))) s' | .ok _ => False | .error e => E e s')
      ⟨(h.push (W.kdv_tup rest)).push (HandSPX.excO C h.objs.size), g, d, t, os⟩) :
    wpAny (model prog w) A (Builtin.«type.__call__» ⟨.ref C :: rest, kw⟩) Q E ⟨h, g, d, t, os⟩ := by
  repeat (first | with_reducible refine wpAny_loadPart_at hC ?_ | with_reducible refine wpAny_madeBy_exc hC ?_ | wp_step)
  refine codeAny_call_builtin_code (Code.quiet_builtin _ F.quiet) (kw_check F hT hC ?_)
  refine kw_new F hT hC ?_ hrest
  show wpAny _ _ _ _ _ _
  have k : ∀ b o, h.get? b = some o → ((h.push (W.kdv_tup rest)).push (HandSPX.excO C h.objs.size)).get? b = some o := fun b o e => Heap.get?_push_of_some _ (Heap.get?_push_of_some _ e)
  have hC1 := k _ _ hC
  have hG : ((h.push (W.kdv_tup rest)).push (HandSPX.excO C h.objs.size)).get? (h.objs.size + 1) = some (HandSPX.excO C h.objs.size) := by heap_get
  have hcC : (Value.ref C :: bm).contains (.ref C) = true := by simp
  unfold isInstance
  repeat (first | with_reducible refine wpAny_loadPart_at hG ?_ | (with_reducible refine wpAny_isSubtype_exc hC1 ?_; rw [hcC]) | wp_step)
  show wpAny _ _ (typeLookup (.ref C) _) _ _ _
  refine (hi.keeps k).at ?_
  refine wpAny_holding (wpAny_bind (((hb (.ref (h.objs.size + 1))).keeps k).at ?_))
  refine wpAny_bind (wpAny_call (codeAny_mono hq fun r s' z => ?_))
  rcases r with e | (v | _ | _ | _) <;> first | exact z | exact z.elim | skip
  obtain ⟨rfl, z⟩ := z
  first
    | exact wpAny_pure (wpAny_pure z)
    | (wp_walk; exact z)
theorem kw_call (F : ExcBaseFacts B newId initId bmB) (hT : ∀ X : String, bm.contains (.type X) = bmB.contains (.type X)) {rest : List Value} {kw : List (Str × Value)} {fI : Addr}
    (hC : h.get? C = some (excClassObj nm q C N bs bm hdct sn sub ab col dd k0 k1 k2 k3 k5 newId))
    (hi : W.Looks (model prog w) h (typeLookup (.ref C) "__init__") (some (.ref fI))) (hb : ∀ self, W.Looks (model prog w) h (bindSpecial (.ref fI) self) (.ref fI, [self])) (hrest : rest.length ≤ sizeLine)
    (hq : codeAny (model prog w) (A.under (.builtin "type.__call__" ⟨.ref C :: rest, kw⟩)) (.call (.ref fI) ⟨.ref (h.objs.size + 1) :: rest, kw⟩) (W.InitBack (h.objs.size + 1) R)
      ⟨(h.push (W.kdv_tup rest)).push (HandSPX.excO C h.objs.size), g, d, t, os⟩) :
    codeAny (model prog w) A (.call (.ref C) ⟨rest, kw⟩) R ⟨h, g, d, t, os⟩ := by
  have f1 := tc_lookup
  have f2 := tc_bind (.ref C)
  have hTy : (⟨h, g, d, t, os⟩ : Shared).TypeIs (.ref C) "type" := ⟨_, hC, rfl⟩
  refine codeAny_of_tree ?_
  show wpAny _ _ (callAny (.ref C) _) _ _ _
  repeat (any_goals (first | assumption | with_reducible refine wpAny_loadPart_at hC ?_ | wp_step))
  refine ⟨rfl, ?_⟩
  refine codeAny_call_builtin_at (Code.quiet_builtin _ (by decide +kernel)) entry_typeCall (wpAny_check_type_call_sub hC (kw_type F hT hC hi hb hrest ?_))
  refine codeAny_mono hq fun r s' z => ?_
  rcases r with e | (v | _ | _ | _) <;> exact z
end

open L2
/-- C(e, ..) as a value -/
def tErr (C : Addr) (sp : Sp) (ta : TA) : TE := fun σ H Q => ta σ H fun vs H1 => vs.length ≤ 1000 ∧ ∀ a, H1 a = none → sp (.ref a :: vs) (upd H1 a (exo a C none)) (fun v H2 => v = .non ∧ Q (.ref a) H2) fun _ _ _ => False
/-- C(k = v, ..) as a value -/
def tErrK (C : Addr) (m : Nat) (sp : Sp) (gV : List V → List V → List V) (tk : TA) : TE := fun σ H Q => tk σ H fun zs H1 => zs.length = m ∧ ∀ a, H1 a = none → sp (gV [.ref a] zs) (upd H1 a (exo a C none)) (fun v H2 => v = .non ∧ Q (.ref a) H2) fun _ _ _ => False
section
variable {X : Cx} {CX : CXT} {k n : Nat} {f C : Addr} {fd : FuncData} {ps ks : List Str} {sp : Sp} {x : Str} {p pos : Pos} {e : Expr} {es : List Expr} {kws : List Keyword} {ta tk : TA} {gg : List Value → List Value → List Value} {gV : List V → List V → List V}
/-- the run of the class -/
theorem run_err {pins : List (Addr × Obj)} {σ : L2.St} {H : Hp} {s : Shared} {Q : VK} {us itf : List Value} {vsf : List V} {kw : List (Str × Value)} (T : OexF X.K C) (iC : PySem.W.findIn X.K (.ref C) "__init__" = some (some (.ref f))) (tI : PySem.W.typeIn X.K (.ref f) = some (.type "function"))
    (F1 : FnOk X.prog X.w X.K X.mg X.base CX k f fd ps sp) (hr : Room (k + 1) X.A) (hx : Passes CX X (fun _ _ _ => False)) (I : Inv X pins σ H s) (hus : us.length ≤ sizeLine)
    (hb : ∀ s' : Shared, X.K.In s'.heap → BindsTo s' fd ⟨.ref (s.heap.objs.size + 1) :: us, kw⟩ (ps.zip itf)) (r : Vals vsf itf)
    (h : sp vsf (upd H (s.heap.objs.size + 1) (exo (s.heap.objs.size + 1) C none)) (fun v H2 => v = .non ∧ Q (.ref (s.heap.objs.size + 1)) H2) fun _ _ _ => False) :
    wpAny (model X.prog X.w) X.A (call (.ref C) us kw) (EP X pins σ Q) X.xe s := by
  obtain ⟨B, newId, initId, tail, nm, q, N, bs, L, sn, sub, ab, col, dd, k0, k1, k2, k3, k5, FM, hC⟩ := T.cls
  obtain ⟨hp, g, dr, tk, os⟩ := s
  have kk : ∀ b o, hp.get? b = some o → ((hp.push (PySem.W.kdv_tup us)).push (PySem.HandSPX.excO C hp.objs.size)).get? b = some o := fun b o e => Heap.get?_push_of_some _ (Heap.get?_push_of_some _ e)
  have I2 : Inv X pins σ (upd H (hp.objs.size + 1) (exo (hp.objs.size + 1) C none)) ⟨(hp.push (PySem.W.kdv_tup us)).push (PySem.HandSPX.excO C hp.objs.size), g, dr, tk, os⟩ :=
    I.laid (t' := tk) (a := hp.objs.size + 1) (o := exo (hp.objs.size + 1) C none) (h' := (hp.push (PySem.W.kdv_tup us)).push (PySem.HandSPX.excO C hp.objs.size)) kk (Nat.le_succ _) (exo_ok (t1 := hp.objs.size) (by heap_get))
  refine wpAny_call (kw_call FM.base (fm_con L tail) (I.kIn _ _ hC) (PySem.W.looks_findIn I.kIn iC) (fun self => PySem.W.bind_fn I.kIn self tI) hus
    (codeAny_mono (F1.run _ X.stack _ _ ⟨Value.ref (hp.objs.size + 1) :: us, kw⟩ itf _ _ (fun _ _ _ => False) (hr.make C us kw) (I2.env0.make C us kw) (hb _ I2.kIn) r h) fun r s' hq' => ?_))
  match r, hq' with
  | .error er, hq' => exact hx pins σ _ _ er s' I2 hq'
  | .ok (.ret u), hq' =>
    obtain ⟨v, H', I3, rv, ev, q3⟩ := I2.after hq'
    subst ev
    exact ⟨rv, ⟨V.ref (hp.objs.size + 1), H', I3, rfl, q3⟩⟩
  | .ok .next, hq' => exact hq'.elim
  | .ok .brk, hq' => exact hq'.elim
  | .ok .cont, hq' => exact hq'.elim
theorem pe_err (T : OexF X.K C) (iC : PySem.W.findIn X.K (.ref C) "__init__" = some (some (.ref f))) (tI : PySem.W.typeIn X.K (.ref f) = some (.type "function")) (F1 : FnOk X.prog X.w X.K X.mg X.base CX k f fd ps sp) (hr : Room (k + 1) X.A) (hb : Binds X.K fd ps [])
    (hx : Passes CX X (fun _ _ _ => False)) (hg : Gl X x) (hm : X.mg x = some (.ref C)) (ha : PA X (e :: es) ta)
    (hdb : (x == ("__debug__" : Str)) = false := by decide) (he : starEach (e :: es) X.env = (false, eval e X.env) :: starEach es X.env := by rfl) (hpl : (backTo pos (starEach es X.env)).any (·.1) = false := by rfl) :
    PE X (.Call (.Name x p) (e :: es) [] pos) (tErr C sp ta) := by
  refine ⟨fun pins s σ H Q I h => wpAny_Call_Name_kw (ld_glob I hg hm (PySem.W.callWith_K (h₀ := X.base) I.ok.mod.kin T.kC (thn (ha.run pos pins s σ H _ I h) fun us s1 ⟨vs, H1, I1, r1, hz, q1⟩ => ⟨I1.kIn, ?_⟩) he hpl) hdb)⟩
  have r2 : Vals (V.ref (s1.heap.objs.size + 1) :: vs) (Value.ref (s1.heap.objs.size + 1) :: us) := .cons rfl r1
  have hq := q1 (s1.heap.objs.size + 1) (I1.hok.fresh (Nat.le_succ _))
  refine run_err (us := us) T iC tI F1 hr hx I1 (by rw [← Paired.length r1, sizeLine_eq]; omega) (fun s' X' => ?_) r2 hq
  have b := hb s' (Value.ref (s1.heap.objs.size + 1) :: us) X' (by rw [List.append_nil]; exact r2.length.symm.trans (F1.len _ _ _ _ hq))
  rw [List.append_nil] at b
  exact b
theorem pe_err0 (T : OexF X.K C) (iC : PySem.W.findIn X.K (.ref C) "__init__" = some (some (.ref f))) (tI : PySem.W.typeIn X.K (.ref f) = some (.type "function")) (F1 : FnOk X.prog X.w X.K X.mg X.base CX k f fd ps sp) (hr : Room (k + 1) X.A) (hb : Binds X.K fd ps [])
    (hx : Passes CX X (fun _ _ _ => False)) (hg : Gl X x) (hm : X.mg x = some (.ref C)) (hdb : (x == ("__debug__" : Str)) = false := by decide) :
    PE X (.Call (.Name x p) [] [] pos) (tErr C sp tNil) := by
  refine ⟨fun pins s σ H Q I h => wpAny_Call_Name_kw (ld_glob I hg hm (PySem.W.callWith_K0 I.kIn T.kC ?_) hdb)⟩
  have r2 : Vals [V.ref (s.heap.objs.size + 1)] [Value.ref (s.heap.objs.size + 1)] := .cons rfl .nil
  have hq := h.2 (s.heap.objs.size + 1) (I.hok.fresh (Nat.le_succ _))
  refine run_err T iC tI F1 hr hx I (Nat.zero_le _) (fun s' X' => ?_) r2 hq
  have b := hb s' [Value.ref (s.heap.objs.size + 1)] X' (by rw [List.append_nil]; exact r2.length.symm.trans (F1.len _ _ _ _ hq))
  rw [List.append_nil] at b
  exact b
theorem pe_errK (T : OexF X.K C) (iC : PySem.W.findIn X.K (.ref C) "__init__" = some (some (.ref f))) (tI : PySem.W.typeIn X.K (.ref f) = some (.type "function")) (F1 : FnOk X.prog X.w X.K X.mg X.base CX k f fd ps sp) (hr : Room (k + 1) X.A) (hb : KBn X.K fd ps 1 ks gg gV)
    (hx : Passes CX X (fun _ _ _ => False)) (hg : Gl X x) (hm : X.mg x = some (.ref C)) (hkw : PK X kws tk)
    (hall : (backToKw pos (keywordEach kws X.env)).all (·.1.isSome) = true := by rfl) (hks : (backToKw pos (keywordEach kws X.env)).filterMap (·.1) = ks := by rfl) (hdb : (x == ("__debug__" : Str)) = false := by decide)
    (hpl : ((backTo pos (starEach [] X.env)).any (·.1) || (backToKw pos (keywordEach kws X.env)).any (·.1.isNone)) = false := by rfl) :
    PE X (.Call (.Name x p) [] kws pos) (tErrK C ks.length sp gV tk) := by
  refine ⟨fun pins s σ H Q I h => wpAny_Call_Name_kw (ld_glob I hg hm ?_ hdb)⟩
  refine PySem.W.callWith_KW0 (h₀ := X.base) I.ok.mod.kin T.kC hall ?_ hpl
  refine thn (hkw.run pos pins s σ H _ I h) fun ws s1 ⟨zs, H1, I1, rz, l1, q2⟩ => ⟨I1.kIn, ?_⟩
  rw [hks]
  exact run_err (us := []) T iC tI F1 hr hx I1 (Nat.zero_le _) (fun s' X' => hb.to s' [Value.ref (s1.heap.objs.size + 1)] ws X' rfl (rz.length.symm.trans l1)) (hb.rel (show Vals [V.ref (s1.heap.objs.size + 1)] [Value.ref (s1.heap.objs.size + 1)] from .cons rfl .nil) rz) (q2 _ (I1.hok.fresh (Nat.le_succ _)))
end
/-- an exception as a value: of the class at C, its dict -/
def ErrAt (H : Hp) (v : V) (C : Addr) (fs : List (Str × V)) : Prop := ∃ a d, v = .ref a ∧ H a = some (exo a C (some d)) ∧ H d = some (exd d fs)
/-- an exception as a value -/
def ErrIs (H : Hp) (v : V) (C : Addr) : Prop := ∃ a d, v = .ref a ∧ H a = some (exo a C d) ∧ ∀ dd, d = some dd → ∃ fs, H dd = some (exd dd fs)
theorem ErrAt.is {H : Hp} {v : V} {C : Addr} {fs : List (Str × V)} (h : ErrAt H v C fs) : ErrIs H v C := by
  obtain ⟨a, d, rfl, h1, h2⟩ := h
  exact ⟨a, some d, rfl, h1, fun dd e => ⟨fs, by cases e; exact h2⟩⟩
theorem ErrAt.same {H H' : Hp} {v : V} {C : Addr} {fs : List (Str × V)} (s : Same H H') (h : ErrAt H v C fs) : ErrAt H' v C fs := by
  obtain ⟨a, d, rfl, h1, h2⟩ := h
  exact ⟨a, d, rfl, s _ _ h1, s _ _ h2⟩
theorem ErrIs.same {H H' : Hp} {v : V} {C : Addr} (s : Same H H') (h : ErrIs H v C) : ErrIs H' v C := by
  obtain ⟨a, d, rfl, h1, h2⟩ := h
  exact ⟨a, d, rfl, s _ _ h1, fun dd e => (h2 dd e).imp fun fs q => s _ _ q⟩
/-- e.f -/
def tErrF (K : PySem.W.Frag) (f : Str) (te : TE) : TE := fun σ H Q => te σ H fun v H1 => ∃ C fs y, ErrAt H1 v C fs ∧ ExcC K C ∧ PySem.W.findIn K (.ref C) f = some none ∧ fs.lookup f = some y ∧ Q y H1
/-- isinstance(e, c) -/
def rErrI (K : PySem.W.Frag) : List V → Hp → VK → Prop := fun xs H Q => ∃ (v c : V) (u : Value) (C : Addr) (b : Bool), xs = [v, c] ∧ ErrIs H v C ∧ ExcC K C ∧ ClsV c u ∧ PySem.W.kitOne K (.ref C) u = some b ∧ Q (.bl b) H
section
variable {X : Cx} {e : Expr} {te : TE} {pos : Pos} {n : Str} {K : PySem.W.Frag}
theorem err_inst {pins : List (Addr × Obj)} {σ : L2.St} {H : Hp} {s : Shared} {a C : Addr} {d : Option Addr} (I : Inv X pins σ H s) (h1 : H a = some (exo a C d)) (h2 : ∀ dd, d = some dd → ∃ fs, H dd = some (exd dd fs)) :
    ∃ ox od, PySem.W.InstAt s.heap a ox C od := by
  obtain ⟨t1, ho⟩ := exo_at I.hok h1
  cases d with
  | none => exact ⟨_, none, ho, rfl, rfl, trivial⟩
  | some dd =>
    obtain ⟨fs, h3⟩ := h2 dd rfl
    obtain ⟨mA, hns, rel⟩ := exd_at I.hok h3
    obtain ⟨oD, hoD, _⟩ := lookIn_ns hns
    exact ⟨_, some oD, ho, rfl, rfl, hoD⟩
theorem pe_errF (hK : X.K = K) (he : PE X e te) (hb : attributeBase e n X.env (eval e X.env) = eval e X.env := by rfl) : PE X (.Attribute e n pos) (tErrF K n te) := by
  subst hK
  refine ⟨fun pins s σ H Q I h => ?_⟩
  refine attr_of hb (thn (he.run pins s σ H _ I h) fun u s1 ⟨x, H1, I1, rx, C, fs, y, ⟨a, d, ex, h1, h2⟩, T, hno, l, q⟩ => ?_)
  subst ex
  obtain rfl : u = Value.ref a := rx
  obtain ⟨t1, ho⟩ := exo_at I1.hok h1
  obtain ⟨mA, hns, rel⟩ := exd_at I1.hok h2
  obtain ⟨oD, hoD, hl⟩ := lookIn_ns hns
  obtain ⟨u, hu, ru⟩ := RelO.some_of (v := y) (o := mA n) (by rw [← l]; exact rel n)
  have J : PySem.W.InstAt s1.heap a _ C (some oD) := ⟨ho, rfl, rfl, hoD⟩
  exact HandSPX.exc_get I1.kIn J T.hg T.hk T.hs (PySem.W.findObj_own T.hd hno rfl (by rw [hl, hu])) (handed_of ru) ⟨y, H1, I1.tok _, ru, q⟩
theorem call_errI (hK : X.K = K) : CallR X (.builtin "isinstance") (rErrI K) := by
  subst hK
  intro pins s σ H xs us Q I r h
  obtain ⟨v, c, u, C, b, rfl, ⟨a, d, rfl, h1, h2⟩, T, kc, ans, q⟩ := h
  obtain ⟨u1, u2, rfl, r1, r2⟩ := vals2 r
  cases r1
  have e2 := kc.eq r2
  subst e2
  obtain ⟨ox, od, J⟩ := err_inst I h1 h2
  have cl : (PySem.W.clsIn X.K C).isSome = true := by
    obtain ⟨cd, hc, _⟩ := PySem.W.any_some T.hd
    rw [hc]
    rfl
  exact PySem.W.kia_one (PySem.W.kitx_exc cl T.hg T.hk T.hs T.ha T.hn T.ht T.hm) I.kIn J ans (fun z => nomatch z) fun tk => ⟨.bl b, H, I.kept (t' := tk) fun _ _ z => z, rfl, q⟩
end
/-- __init__(self, value): self.f = value -/
def sp_errI (K : PySem.W.Frag) (C : Addr) (f : Str) : Sp := fun vs H Q _ => ∃ (q : Addr) (y : V), vs = [.ref q, y] ∧ H q = some (exo q C none) ∧
  ∀ dx, H dx = none → dx ≠ q → Q .non (upd (upd H dx (exd dx [(f, y)])) q (exo q C (some dx)))
/-- what stands behind such a making -/
theorem err_made {H : Hp} {q C : Addr} {f : Str} {y : V} {Q : VK} (hq : H q = none) (k : ∀ H', Same H H' → ErrAt H' (.ref q) C [(f, y)] → Q (.ref q) H') :
    ∀ dx, (upd H q (exo q C none)) dx = none → dx ≠ q → Q (.ref q) (upd (upd (upd H q (exo q C none)) dx (exd dx [(f, y)])) q (exo q C (some dx))) := by
  intro dx hdx ne
  have hd : H dx = none := by rw [upd_ne ne] at hdx; exact hdx
  refine k _ (fun b o e => ?_) ⟨q, dx, rfl, upd_same, by rw [upd_ne ne, upd_same]⟩
  rw [upd_ne (ne_of_none e hq), upd_ne (ne_of_none e hd), upd_ne (ne_of_none e hq)]
  exact e
end Lb

set_option Elab.async false
set_option linter.all false
set_option maxRecDepth 100000
set_option maxHeartbeats 4000000
/-! C.m(e, ..), m a staticmethod that may raise, in the body of a try -/
namespace Lb
open PySem PySem.Spec PyProof.Rows L2
section
variable {X : Cx} {CX : CXT} {k : Nat} {C p g : Addr} {fd : FuncData} {ps : List Str} {sp : Sp} {E : L2.St → XK} {m : Str} {pos apos : Pos} {o e : Expr} {es : List Expr} {ta : TE} {t : TA}
def tSMethS (C : Addr) (sp : Sp) (E : L2.St → XK) (ta : TE) (t : TA) : TE := fun σ H Q => ta σ H fun x H1 => x = .ref C ∧ t σ H1 fun vs H2 => sp vs H2 Q (E σ)
theorem pe_smethS {pl : Sem Bool} (he : PE X o ta) (c : SMet X.K C m p g) (F : FnOk X.prog X.w X.K X.mg X.base CX k g fd ps sp) (hr : Room k X.A) (hb : Binds X.K fd ps []) (hx : ∀ σ, PassesAt CX X σ (E σ)) (ha : PA X (e :: es) t)
    (hst : starEach (e :: es) X.env = (false, eval e X.env) :: starEach es X.env := by rfl) (hpl : (backTo pos (starEach es X.env)).any (·.1) = false := by rfl)
    (ht : eval (.Call (.Attribute o m apos) (e :: es) [] pos) X.env = (do
      let ov ← eval o X.env
      standAt apos.atName
      let (f, first) ← holding [ov] (getMethod ov m pl)
      callWith pos f first (backTo pos (starEach (e :: es) X.env)) (backToKw pos (keywordEach [] X.env))) := by rfl) :
    PE X (.Call (.Attribute o m apos) (e :: es) [] pos) (tSMethS C sp E ta t) := by
  refine ⟨fun pins s σ H Q I h => ?_⟩
  refine PySem.W.methodCall_KW (pl := pl) (thn (he.run pins s σ H _ I h) fun u s1 ⟨x, H1, I1, rx, ex, q⟩ => ?_) ht
  subst ex
  obtain rfl : u = Value.ref C := rx
  refine getsm_ok I1 c fun s2 I2 => ?_
  refine PySem.W.callWith_K (first := []) (h₀ := X.base) I.ok.mod.kin c.kp (thn (ha.run pos pins s2 σ H1 _ I2 q) fun us s3 ⟨vs, H2, I3, rv, q2⟩ => ⟨I3.kIn, ?_⟩) hst hpl
  exact run_fnS F hr hb (hx σ) I3 rv q2
end
end Lb

set_option Elab.async false
set_option linter.all false
set_option maxRecDepth 100000
set_option maxHeartbeats 4000000
/-! C.m(k = v, ..), m a staticmethod that may raise, in the body of a try -/
namespace Lb
open PySem PySem.Spec PyProof.Rows L2
section
variable {X : Cx} {CX : CXT} {k : Nat} {f C p g : Addr} {fd : FuncData} {ps ks : List Str} {sp : Sp} {E : L2.St → XK} {m : Str} {pos apos : Pos} {o : Expr} {kws : List Keyword} {ta : TE} {tk : TA} {gf : List Value → List Value → List Value} {gV : List V → List V → List V}
theorem run_kbnS {n : Nat} {pins : List (Addr × Obj)} {σ : L2.St} {H : Hp} {s : Shared} {Q : VK} {us ws : List Value} {vs zs : List V} (F : FnOk X.prog X.w X.K X.mg X.base CX k f fd ps sp) (hr : Room k X.A) (hb : KBn X.K fd ps n ks gf gV) (hx : PassesAt CX X σ (E σ))
    (I : Inv X pins σ H s) (r : Vals vs us) (rz : Vals zs ws) (l1 : vs.length = n) (l2 : zs.length = ks.length) (h : sp (gV vs zs) H Q (E σ)) : wpAny (model X.prog X.w) X.A (call (.ref f) us (ks.zip ws)) (EP X pins σ Q) X.xe s := by
  refine wpAny_call (codeAny_mono (F.run X.A X.stack s H ⟨us, ks.zip ws⟩ (gf us ws) (gV vs zs) Q (E σ) hr I.env0 (hb.to s us ws I.kIn (r.length.symm.trans l1) (rz.length.symm.trans l2)) (hb.rel r rz) h) fun r s' hq => ?_)
  cases r with
  | error e => exact hx pins H s e s' I hq
  | ok fl =>
    cases fl with
    | ret u => exact I.after hq
    | next => exact False.elim hq
    | brk => exact False.elim hq
    | cont => exact False.elim hq
def tSMethKS (C : Addr) (nk : Nat) (sp : Sp) (gV : List V → List V → List V) (E : L2.St → XK) (ta : TE) (tk : TA) : TE := fun σ H Q => ta σ H fun x H1 => x = .ref C ∧ tk σ H1 fun zs H2 => zs.length = nk ∧ sp (gV [] zs) H2 Q (E σ)
theorem pe_smethKS {pl : Sem Bool} (he : PE X o ta) (c : SMet X.K C m p g) (F : FnOk X.prog X.w X.K X.mg X.base CX k g fd ps sp) (hr : Room k X.A) (hb : KBn X.K fd ps 0 ks gf gV) (hx : ∀ σ, PassesAt CX X σ (E σ)) (hkw : PK X kws tk)
    (hall : (backToKw pos (keywordEach kws X.env)).all (·.1.isSome) = true := by rfl) (hks : (backToKw pos (keywordEach kws X.env)).filterMap (·.1) = ks := by rfl)
    (hpl : ((backTo pos (starEach [] X.env)).any (·.1) || (backToKw pos (keywordEach kws X.env)).any (·.1.isNone)) = false := by rfl)
    (ht : eval (.Call (.Attribute o m apos) [] kws pos) X.env = (do
      let ov ← eval o X.env
      standAt apos.atName
      let (f, first) ← holding [ov] (getMethod ov m pl)
      callWith pos f first (backTo pos (starEach [] X.env)) (backToKw pos (keywordEach kws X.env))) := by rfl) :
    PE X (.Call (.Attribute o m apos) [] kws pos) (tSMethKS C ks.length sp gV E ta tk) := by
  refine ⟨fun pins s σ H Q I h => ?_⟩
  refine PySem.W.methodCall_KW (pl := pl) (thn (he.run pins s σ H _ I h) fun u s1 ⟨x, H1, I1, rx, ex, q⟩ => ?_) ht
  subst ex
  obtain rfl : u = Value.ref C := rx
  refine getsm_ok I1 c fun s2 I2 => ?_
  refine PySem.W.callWith_KW0 (first := []) (h₀ := X.base) I.ok.mod.kin c.kp hall ?_ hpl
  refine thn (hkw.run pos pins s2 σ H1 _ I2 q) fun ws s3 ⟨zs, H2, I3, rz, l2, q2⟩ => ⟨I3.kIn, ?_⟩
  rw [hks]
  exact run_kbnS (us := []) (vs := []) F hr hb (hx σ) I3 .nil rz rfl l2 q2
end
end Lb

set_option Elab.async false
set_option linter.all false
set_option maxRecDepth 100000
set_option maxHeartbeats 2000000
/-! own error classes: what except and isinstance say -/
namespace Lb
open PySem L2
theorem exm_sub {K : PySem.W.Frag} {S C : Addr} (h1 : PySem.W.subIn K (.ref S) (.type "BaseException") = some true) (e1 : PySem.W.subIn K (.ref C) (.type "BaseException") = some true) (h2 : PySem.W.isClsIn K C = true) (h3 : PySem.W.typeIn K (.ref C) = some (.type "type")) (h4 : PySem.W.subIn K (.ref S) (.ref C) = some b) :
    PySem.W.exmOne K (.ref S) (.ref C) = some b := by
  have e1 : (PySem.W.subIn K (.ref C) (.type "BaseException") == some true) = true := by rw [e1] <;> rfl
  have e2 : ((PySem.W.clsIn K C).isSome && PySem.W.typeIn K (.ref C) == some (.type "type")) = true := by
    have h2' : (PySem.W.clsIn K C).isSome = true := h2
    rw [h2', h3] <;> rfl
  show (if (PySem.W.subIn K (.ref C) (.type "BaseException") == some true) = true then (if ((PySem.W.clsIn K C).isSome && PySem.W.typeIn K (.ref C) == some (.type "type")) = true then PySem.W.subIn K (.ref S) (.ref C) else none) else none) = some b
  rw [if_pos e1, if_pos e2]
  exact h4
theorem kit_sub {K : PySem.W.Frag} {A C : Addr} (h1 : PySem.W.isClsIn K C = true) (h2 : PySem.W.typeIn K (.ref C) = some (.type "type")) (h3 : PySem.W.subIn K (.ref A) (.ref C) = some true) :
    PySem.W.kitOne K (.ref A) (.ref C) = some true := by
  unfold PySem.W.kitOne
  split
  · rfl
  · unfold PySem.W.kitCls
    have h1' : (PySem.W.clsIn K C).isSome = true := h1
    dsimp only
    rw [h1', h2]
    rw [if_pos (by simp)]
    exact h3
end Lb

set_option Elab.async false
set_option linter.all false
set_option maxRecDepth 100000
set_option maxHeartbeats 4000000
/-! what an own exception class below one own family is, from its place in the written part alone -/
namespace Lb
open PySem L2
abbrev veT : List Value := [.type "ValueError", .type "Exception", .type "BaseException", .type "object"]
abbrev leT : List Value := [.type "LookupError", .type "Exception", .type "BaseException", .type "object"]
abbrev reT : List Value := [.type "RuntimeError", .type "Exception", .type "BaseException", .type "object"]
/-- the class at C, below the family at L, whose built-in classes are tail -/
def Abv (K : PySem.W.Frag) (C L : Addr) (tail : List Value) : Prop := ∃ B newId initId nm q N bs sn sub ab col dd k0 k1 k2 k3 k5, Fam B newId initId tail ∧ K.lookup C = some (excClassObj nm q C N bs (.ref L :: tail) true sn sub ab col dd k0 k1 k2 k3 k5 newId)
/-- a family: a class of one's own over built-in ones -/
structure FamC (K : PySem.W.Frag) (L : Addr) : Prop where
  ic : PySem.W.isClsIn K L = true
  ty : PySem.W.typeIn K (.ref L) = some (.type "type")
  ex : PySem.W.subIn K (.ref L) (.type "BaseException") = some true
section
variable {K : PySem.W.Frag} {C L D : Addr} {tail : List Value}
theorem Abv.cl (h : Abv K C L tail) : ∃ cd, PySem.W.clsIn K C = some cd ∧ cd.mro = .ref C :: .ref L :: tail ∧ cd.hasDict = true := by
  obtain ⟨_, _, _, nm, q, N, bs, sn, sub, ab, col, dd, k0, k1, k2, k3, k5, _, hC⟩ := h
  exact ⟨{ name := nm, bases := bs, mro := .ref C :: .ref L :: tail, ns := N, qualname := q, hasDict := true, slotNames := sn, subclasses := sub, abstract := ab, collection := col, hasDel := false }, by unfold PySem.W.clsIn; rw [hC] <;> rfl, rfl, rfl⟩
theorem Abv.ic (h : Abv K C L tail) : PySem.W.isClsIn K C = true := by
  obtain ⟨cd, e, _⟩ := h.cl
  unfold PySem.W.isClsIn
  rw [e]
  rfl
theorem Abv.ty (h : Abv K C L tail) : PySem.W.typeIn K (.ref C) = some (.type "type") := by
  obtain ⟨_, _, _, nm, q, N, bs, sn, sub, ab, col, dd, k0, k1, k2, k3, k5, _, hC⟩ := h
  show (K.lookup C).map (·.cls) = _
  rw [hC]
  rfl
theorem Abv.sub (h : Abv K C L tail) (b : Value) : PySem.W.subIn K (.ref C) b = some ((Value.ref C :: .ref L :: tail).contains b) := by
  obtain ⟨cd, e, m, _⟩ := h.cl
  show PySem.W.mroIn K C b = _
  unfold PySem.W.mroIn
  rw [e, Option.bind_some, m, if_neg (show ¬ (List.isEmpty (Value.ref C :: .ref L :: tail) = true) from Bool.false_ne_true)]
theorem Abv.hd (h : Abv K C L tail) : PySem.W.hasDictIn K C = true := by
  obtain ⟨cd, e, _, d⟩ := h.cl
  unfold PySem.W.hasDictIn
  rw [e]
  exact d
theorem Abv.subT (h : Abv K C L tail) {n : String} {b : Bool} (e : tail.contains (.type n) = b) : PySem.W.subIn K (.ref C) (.type n) = some b := by
  rw [h.sub, List.contains_cons, fm_con, e]
  rfl
theorem Abv.mo (h : Abv K C L tail) : PySem.W.mroIn K C (.type "object") = some true := by
  have hs := h
  obtain ⟨_, _, _, nm, q, N, bs, sn, sub, ab, col, dd, k0, k1, k2, k3, k5, FM, hC⟩ := h
  exact hs.subT FM.obj
theorem Abv.ex (h : Abv K C L tail) : PySem.W.subIn K (.ref C) (.type "BaseException") = some true := by
  have hs := h
  obtain ⟨_, _, _, nm, q, N, bs, sn, sub, ab, col, dd, k0, k1, k2, k3, k5, FM, hC⟩ := h
  exact hs.subT FM.base.hasBase
theorem Abv.subR (h : Abv K C L tail) (ht : ∀ D, tail.contains (.ref D) = false) (D : Addr) : PySem.W.subIn K (.ref C) (.ref D) = some (decide (D = C ∨ D = L)) := by
  rw [h.sub, List.contains_cons, List.contains_cons, ht]
  congr 1
  simp only [Bool.or_false]
  by_cases h1 : D = C
  · subst h1; simp
  · by_cases h2 : D = L
    · subst h2; simp
    · have e1 : (Value.ref D == Value.ref C) = false := by simpa using h1
      have e2 : (Value.ref D == Value.ref L) = false := by simpa using h2
      rw [e1, e2]
      simp [h1, h2]
/-- isinstance(C(..), D) -/
theorem kit_any {t c : Value} {b : Bool} (h : PySem.W.kitCls K t c = some b) (hs : t = c → b = true) : PySem.W.kitOne K t c = some b := by
  unfold PySem.W.kitOne
  by_cases e : t = c
  · rw [if_pos (by rw [e]; simp), hs e]
  · rw [if_neg (by simpa using e)]
    exact h
theorem Abv.kit (h : Abv K C L tail) (ht : ∀ D, tail.contains (.ref D) = false) (ic : PySem.W.isClsIn K D = true) (ty : PySem.W.typeIn K (.ref D) = some (.type "type")) : PySem.W.kitOne K (.ref C) (.ref D) = some (decide (D = C ∨ D = L)) := by
  refine kit_any ?_ fun e => ?_
  · unfold PySem.W.kitCls
    have ic' : (PySem.W.clsIn K D).isSome = true := ic
    dsimp only
    rw [ic', ty, if_pos (by simp)]
    exact h.subR ht D
  · cases e
    simp
theorem Abv.kitT (h : Abv K C L tail) {n : String} {b : Bool} (hm : PySem.W.kitMeta n = true) (e : tail.contains (.type n) = b) : PySem.W.kitOne K (.ref C) (.type n) = some b := by
  refine kit_any ?_ fun e => nomatch e
  unfold PySem.W.kitCls
  dsimp only
  rw [if_pos hm]
  exact h.subT e
/-- except L, the exception of the class at C -/
theorem Abv.exm (h : Abv K C L tail) (ht : ∀ D, tail.contains (.ref D) = false) (F : FamC K D) : PySem.W.exmOne K (.ref C) (.ref D) = some (decide (D = C ∨ D = L)) := exm_sub h.ex F.ex F.ic F.ty (h.subR ht D)
theorem Abv.ox (h : Abv K C L tail) (sa : PySem.W.findIn K (.ref C) "__setattr__" = some (some (.builtin "object.__setattr__"))) (kC : PySem.W.keepIn K (.ref C) = true) : OexF K C := by
  have hs := h
  obtain ⟨B, newId, initId, nm, q, N, bs, sn, sub, ab, col, dd, k0, k1, k2, k3, k5, FM, hC⟩ := h
  exact ⟨⟨B, newId, initId, tail, nm, q, N, bs, L, sn, sub, ab, col, dd, k0, k1, k2, k3, k5, FM, hC⟩, sa, hs.ex, hs.ty, kC⟩
end
end Lb

set_option Elab.async false
set_option linter.all false
set_option maxRecDepth 100000
set_option maxHeartbeats 4000000
/-! raise C(), C's own __init__ storing nothing -/
namespace Lb
open PySem L2
section
variable {X : Cx} {x : Str} {C f : Addr} {p pos : Pos} {k : Nat} {fd : FuncData} {ps : List Str} {sp : Sp} {CX : CXT}
theorem bare_end {pins : List (Addr × Obj)} {σ : L2.St} {H1 H2 : Hp} {Q : XK} {hp hp2 h2 : Heap} {g1 g2 : Array GenState} {d1 d2 : Drawn} {t1 t2 : Nat} {os1 os2 : OsState} {a : Addr} (T : Raises X (.ref C)) (I1 : Inv X pins σ H1 ⟨hp, g1, d1, t1, os1⟩)
    (ha : hp.objs.size ≤ a) (k : ∀ b o, hp.get? b = some o → hp2.get? b = some o) (un : Un (frs X.stack) [] (upd H1 a (exo a C none)) H2 hp2 h2) (hok : HOk X.prog X.w H2 h2) (ho : os2 = os1) (hb : PyProof.Rows.AllBare g2)
    (ea : H2 a = some (exo a C none)) (q : Q (.ref C) none (del H2 a)) : MkP X pins σ Q (.ref a) ⟨h2, g2, d2, t2, os2⟩ := by
  obtain ⟨t0, hoe⟩ := exo_at hok ea
  have hn : H1 a = none := I1.hok.fresh ha
  obtain ⟨G, r1, r2⟩ := restrict h2 fun b => decide (b ≠ a)
  have gk : ∀ b, b ≠ a → G.get? b = h2.get? b := fun b hb => r1 b (decide_eq_true hb)
  have ge : G.get? a = none := r2 a (by simp)
  have nha : ∀ {b : Addr} {o : Obj}, hp.get? b = some o → b ≠ a := fun z => Nat.ne_of_lt (Nat.lt_of_lt_of_le (Heap.lt_size z) ha)
  have up : ∀ {b : Addr}, b ≠ a → H1 b = none → upd H1 a (exo a C none) b = none := fun hb n => by rw [upd_ne hb]; exact n
  have U : Un (frs X.stack) [] H1 (del H2 a) hp G := {
    keep := fun b o z n hf hx => (gk b (nha z)).trans (un.keep b o (k b o z) (up (nha z) n) hf hx)
    slot := fun b o z n hf hx => by
      rw [gk b (nha z)]
      exact un.slot b o (k b o z) (up (nha z) n) hf hx
    free := fun b o z n hx => (del_ne (nha z)).trans (un.free b o (k b o z) (up (nha z) n) hx)
    there := fun b o z hx => by
      rw [gk b (nha z)]
      exact un.there b o (k b o z) hx
    tups := fun b xs z => (del_ne (ne_of_none z hn)).trans (un.tups b xs (by rw [upd_ne (ne_of_none z hn)]; exact z))
    frzs := fun b o v z => (del_ne (ne_of_none z hn)).trans (un.frzs b o v (by rw [upd_ne (ne_of_none z hn)]; exact z))
    tbls := fun b ps z => by
      rw [del_ne (ne_of_none z hn)]
      exact un.tbls b ps (by rw [upd_ne (ne_of_none z hn)]; exact z) }
  have hok3 : HOk X.prog X.w (del H2 a) G := fun b o z => by
    have hba : b ≠ a := fun e => by
      rw [e, del_same] at z
      cases z
    rw [del_ne hba] at z
    have noa : ∀ {c : Addr}, H2 c = some (.own b) → c ≠ a := fun {c} hc => at_ne ea hc exo_own
    refine (hok b o z).stay (fun c v hc y => ?_) (fun c hc => (del_ne (noa hc)).trans hc) (fun c xs hc => (del_ne (at_ne ea hc exo_tup)).trans hc)
    have hca : c ≠ a := by
      rcases hc with hc | hc
      · rw [hc]
        exact hba
      · exact noa hc
    exact (gk c hca).trans y
  have J : Inv X pins σ (del H2 a) ⟨G, g2, d2, t2, os2⟩ := I1.call' (ch := []) ho U hok3 hb (fun b z => absurd z (by simp))
  refine ⟨a, _, _, ⟨G, g2, d2, t2, os2⟩, _, .ref C, none, rfl, J, fun b o z => ?_, ge, hoe, ⟨rfl, rfl⟩, rfl, rfl, del_same, rfl, hb, T, q⟩
  by_cases hba : b = a
  · rw [hba, ge] at z
    cases z
  · exact (gk b hba).symm.trans z
/-- C(), to be raised -/
def tMkB (C : Addr) (sp : Sp) : L2.St → Hp → XK → Prop := fun σ H Q => ∀ a, H a = none → sp [.ref a] (upd H a (exo a C none)) (fun v H2 => v = .non ∧ H2 a = some (exo a C none) ∧ Q (.ref C) none (del H2 a)) (fun _ _ _ => False)
theorem pmk_bare (T : OexF X.K C) (iC : PySem.W.findIn X.K (.ref C) "__init__" = some (some (.ref f))) (tI : PySem.W.typeIn X.K (.ref f) = some (.type "function"))
    (F1 : FnOk X.prog X.w X.K X.mg X.base CX k f fd ps sp) (hr : Room (k + 1) X.A) (hb : Binds X.K fd ps []) (hx : Passes CX X (fun _ _ _ => False)) (hg : Gl X x) (hm : X.mg x = some (.ref C)) (hdb : (x == ("__debug__" : Str)) = false := by decide) :
    PMk X (.Call (.Name x p) [] [] pos) (tMkB C sp) := by
  intro pins s σ H Q I h
  obtain ⟨B, newId, initId, tail, nm, q, N, bs, L, sn, sub, ab, col, dd, k0, k1, k2, k3, k5, FM, hC⟩ := T.cls
  refine wpAny_Call_Name_kw (ld_glob I hg hm (PySem.W.callWith_K0 I.kIn T.kC ?_) hdb)
  show wpAny _ _ (call (.ref C) []) _ _ _
  obtain ⟨hp, g, dr, tk, os⟩ := s
  have hsz : hp.objs.size ≤ hp.objs.size + 1 := Nat.le_succ _
  have hq := h _ (I.hok.fresh hsz)
  have kk : ∀ b o, hp.get? b = some o → ((hp.push (PySem.W.kdv_tup [])).push (PySem.HandSPX.excO C hp.objs.size)).get? b = some o := fun b o e => Heap.get?_push_of_some _ (Heap.get?_push_of_some _ e)
  have I2 : Inv X pins σ (upd H (hp.objs.size + 1) (exo (hp.objs.size + 1) C none)) ⟨(hp.push (PySem.W.kdv_tup [])).push (PySem.HandSPX.excO C hp.objs.size), g, dr, tk, os⟩ :=
    I.laid (t' := tk) (a := hp.objs.size + 1) (o := exo (hp.objs.size + 1) C none) (h' := (hp.push (PySem.W.kdv_tup [])).push (PySem.HandSPX.excO C hp.objs.size)) kk hsz (exo_ok (t1 := hp.objs.size) (by heap_get))
  have r2 : Vals [V.ref (hp.objs.size + 1)] [Value.ref (hp.objs.size + 1)] := .cons rfl .nil
  have b := hb ⟨(hp.push (PySem.W.kdv_tup [])).push (PySem.HandSPX.excO C hp.objs.size), g, dr, tk, os⟩ [Value.ref (hp.objs.size + 1)] I2.kIn (by rw [List.append_nil]; exact r2.length.symm.trans (F1.len _ _ _ _ hq))
  rw [List.append_nil] at b
  refine wpAny_call (PySem.HandSPX.call_own FM.base (fm_con L tail) (I.kIn _ _ hC) (PySem.W.looks_findIn I.kIn iC) (fun self => PySem.W.bind_fn I.kIn self tI) (rest := []) (Nat.zero_le _)
    (codeAny_mono (F1.run _ X.stack _ _ ⟨[Value.ref (hp.objs.size + 1)], []⟩ [Value.ref (hp.objs.size + 1)] _ _ (fun _ _ _ => False) (hr.make C [] []) (I2.env0.make C [] []) b r2 hq) fun r s' hq' => ?_))
  match r, hq' with
  | .error er, hq' => exact hx pins σ _ _ er s' I2 hq'
  | .ok (.ret u), hq' =>
    obtain ⟨v, H2, os2, bare2, un2, hok2, rv, ev, ea, q2⟩ := hq'
    subst ev
    obtain ⟨h2, g2, d2, t2, os'⟩ := s'
    exact ⟨rv, bare_end (raises_own T.exC T.tyC) I hsz kk un2 hok2 os2 bare2 ea q2⟩
  | .ok .next, hq' => exact hq'.elim
  | .ok .brk, hq' => exact hq'.elim
  | .ok .cont, hq' => exact hq'.elim
end
end Lb

set_option Elab.async false
set_option linter.all false
set_option maxRecDepth 100000
set_option maxHeartbeats 4000000
/-! own `__iter__`, `__len__`, `__getitem__` -/
namespace Lb
open PySem PySem.Spec PyProof.Rows L2
/-- a def whose promise knows how much is laid -/
structure FnS (P : Program) (w : World) (K : PySem.W.Frag) (mg : Str → Option Value) (base : Heap) (k : Nat) (f : Addr) (fd : FuncData) (ps : List Str) (sp : Nat → Sp) : Prop where
  len : ∀ n vs H Q E, sp n vs H Q E → vs.length = ps.length
  run : ∀ (A : Around) (outer : List Env) (s : Shared) (H : Hp) (args : Args) (us : List Value) (vs : List V) (Q : VK) (E : XK),
    Room k A → Env0 P w K mg base A outer s H → BindsTo s fd args (ps.zip us) → Vals vs us → sp s.heap.objs.size vs H Q E →
    codeAny (model P w) A (.call (.ref f) args) (CR CX0 outer P w H s Q E) s
section
variable {P : Program} {w : World} {K : PySem.W.Frag} {mg : Str → Option Value} {base : Heap} {k j : Nat} {f : Addr} {fd : FuncData} {ps : List Str} {sp : Nat → Sp}
theorem FnS.mono (F : FnS P w K mg base j f fd ps sp) (h : j ≤ k) : FnS P w K mg base k f fd ps sp :=
  ⟨F.len, fun A outer s H args us vs Q E hr => F.run A outer s H args us vs Q E (hr.mono h)⟩
theorem okS {x qual : Str} {st : Stmt} {N : List Str} (F : Fun K x qual st f fd) (S : FnScope N ps (defScope st))
    (len : ∀ n vs H Q E, sp n vs H Q E → vs.length = ps.length)
    (hbody : ∀ (cdv : Value) (A : Around) (outer : List Env) (s : Shared) (H : Hp) (vs : List V) (Q : VK) (E : XK),
      Room k (A.deeper (envOfC qual (defScope st) s.heap.objs.size f cdv)) → sp s.heap.objs.size vs H Q E →
      ∃ t, PSs (cxOf CX0 P w K mg base N qual (defScope st) f cdv A outer s H E).nox (defBody st) t ∧
        t { nx := fun _ H' => Q .non H', rt := Q } (start N vs) H) :
    FnS P w K mg base (k + 1) f fd ps sp := by
  obtain ⟨oc, od, kV, doc, pm, an, cdv, ct, osl, rfl, lk, hcd⟩ := F.ex
  refine ⟨len, fun A outer s H args us vs Q E hr e0 hb r hsp => ?_⟩
  have hl := len _ vs H Q E hsp
  have KX : K.In s.heap := e0.mod.kin.keeps fun b o e => (e0.bs b o e).1
  have lim : s.heap.NoLimit := e0.mod.nolimit.keeps fun b o e => (e0.bs b o e).1
  have hkind : ∀ y ∈ ps.zip us, (defScope st).names.lookup y.1 = some .local ∨
      ((defScope st).names.lookup y.1 = some .cell ∧ ((cellsFrom (s.heap.objs.size + 1) (defScope st).names []).lookup y.1).isSome = true) := by
    rintro ⟨n, v⟩ hy
    rcases S.par n (List.of_mem_zip hy).1 with q | q
    · exact .inl q
    · exact .inr ⟨q, PySem.W.cellsFrom_some _ _ _ (.inl q)⟩
  refine codeAny_call_function hr.depth (KX _ _ lk) rfl S.co S.gen rfl (PySem.W.codeRec_of KX hcd) (hb _ _ _ _ ?_)
  refine wpAny_newFunctionEnv_cells S.kind hkind fun env he s1 y => ?_
  subst he
  refine ⟨lim.keeps y.toInCall.keep, codeAny_func ?_⟩
  obtain ⟨t, ht, hq⟩ := hbody cdv A outer s H vs Q E (hr.deeper _) hsp
  have I := inv_start (CX := CX0) (E := E) S hr.hd e0 hl r y
  have fin : ∀ {σ' : L2.St} {H' : Hp} {s' : Shared} {v : V} {u : Value},
      Inv (cxOf CX0 P w K mg base N qual (defScope st) f cdv A outer s H E) [] σ' H' s' → RelV v u → Q v H' → CE outer P w H s Q u s' :=
    fun {σ' H' s' v u} J rv q => ⟨v, H', J.os, J.bare, J.base, J.hok, rv, q⟩
  refine wpAny_mono (ht.nox.run [] s1 (start N vs) H _ I hq) (fun fl s' hs => ?_) fun _ _ hs => hs
  cases fl with
  | ret u =>
    obtain ⟨v, σ', H', J, rv, q⟩ := hs
    exact fin J rv q
  | next =>
    obtain ⟨σ', H', J, q⟩ := hs
    exact fin (v := V.non) (u := Value.none) J rfl q
  | brk => exact hs.elim fun _ h => h.elim fun _ h => h.2.elim
  | cont => exact hs.elim fun _ h => h.elim fun _ h => h.2.elim
end
/-- what `__iter__` promises that gives the iterator of a list of its own -/
def sp_it (K : PySem.W.Frag) (C : Addr) (fld : Str) : Nat → Sp := fun n vs H Q _ => ∃ (a dx : Addr) (fs : List (Str × V)) (l : Addr) (xs : List V), vs = [.ref a] ∧ H a = some (.ins C dx fs) ∧ fs.lookup fld = some (.ref l) ∧ SqL K H l xs ∧
  ∀ it, H it = none → n ≤ it → Q (.ref it) (upd H it (ItO l it 0))
section
variable {X : Cx} {pins : List (Addr × Obj)} {σ : L2.St} {H : Hp} {s : Shared} {a C dx g l : Addr} {fs : List (Str × V)} {fld : Str} {k : Nat} {fd : FuncData} {xs : List V}
theorem it_run {A : Around} {Ex : Value → Shared → Prop} {Q : Value → Shared → Prop} (hs : PySem.W.findIn X.K (.ref C) "__iter__" = some (some (.ref g))) (hf : PySem.W.isFn X.K (.ref g) = true) (F : FnS X.prog X.w X.K X.mg X.base k g fd ["self"] (sp_it X.K C fld))
    (hb : Binds X.K fd ["self"] []) (sb : Sub X k A) (I : Inv X pins σ H s) (ha : H a = some (.ins C dx fs)) (hl : fs.lookup fld = some (.ref l)) (hS : SqL X.K H l xs)
    (h : ∀ it s', s.heap.objs.size ≤ it → H it = none → s'.heap.IsListIter it l 0 → Inv X pins σ H s' → FpOk X pins H it → Q (.ref it) s') :
    wpAny (model X.prog X.w) A (pyIter (.ref a)) Q Ex s := by
  obtain ⟨od, J⟩ := inst_at I ha
  obtain ⟨m, hF⟩ := I.fr
  refine PySem.W.owit_iter hF I.ok.mod.kin J hs hf ?_
  have e0 : Env0 X.prog X.w X.K X.mg X.base A X.stack s H := by
    have e := I.env0
    exact ⟨by rw [sb.fr]; exact e.frames, e.mod, e.bs, e.bsz, e.funs, e.frf, e.hok, e.bare⟩
  refine wpAny_call (codeAny_mono (F.run A X.stack s H ⟨[.ref a], []⟩ [.ref a] [.ref a] (fun v H' => ∃ it, v = .ref it ∧ s.heap.objs.size ≤ it ∧ H it = none ∧ H' = upd H it (ItO l it 0)) (fun _ _ _ => False) sb.room e0 (hb s [.ref a] I.kIn rfl) (.cons rfl .nil)
    ⟨a, dx, fs, l, xs, rfl, ha, hl, hS, fun it h0 hn => ⟨it, rfl, hn, h0, rfl⟩⟩) fun r s' hq => ?_)
  cases r with
  | error e => exact False.elim hq
  | ok fl =>
    cases fl with
    | next => exact False.elim hq
    | brk => exact False.elim hq
    | cont => exact False.elim hq
    | ret u =>
      obtain ⟨v, H', I', rv, it, ev, hn, h0, eH⟩ := I.after hq
      subst ev
      subst eH
      obtain rfl : u = Value.ref it := rv
      have eo := itO_get I' upd_same
      unfold PySem.W.OwitIt
      refine wpAny_specialOf (name := "__next__") (T := "list_iterator") ⟨_, eo, rfl⟩ slot_listiter_next.lookup ?_
      have I2 := ItX.inv_drop I' upd_same
      have fp := ItX.inv_fp I' upd_same (Nat.le_trans I.sz hn)
      rw [ItX.dropH_upd h0] at I2 fp
      exact h it s' hn h0 ⟨_, eo, rfl, rfl⟩ I2 fp
/-- for over an instance -/
def iOwn (K : PySem.W.Frag) (C : Addr) (fld : Str) (te : TE) : TI := fun σ H R => te σ H fun x H1 => ∃ (a dx : Addr) (fs : List (Str × V)) (l : Addr) (xs : List V), x = .ref a ∧ H1 a = some (.ins C dx fs) ∧ fs.lookup fld = some (.ref l) ∧ SqL K H1 l xs ∧ R (Itl K l) H1
theorem pi_own {K : PySem.W.Frag} {tg e : Expr} {te : TE} (hK : X.K = K) (hs : PySem.W.findIn K (.ref C) "__iter__" = some (some (.ref g))) (hf : PySem.W.isFn K (.ref g) = true) (F : FnS X.prog X.w K X.mg X.base k g fd ["self"] (sp_it K C fld)) (hb : Binds K fd ["self"] [])
    (hr : Room k X.A) (he : PE X e te) : PI X tg e (iOwn K C fld te) := by
  subst hK
  refine ⟨fun pins s σ H R I h => ?_⟩
  refine thn (he.run pins s σ H _ I h) fun u s1 ⟨x, H1, I1, r1, a, dx, fs, l, xs, ex, ha, hl, hS, q⟩ => ?_
  subst ex
  obtain rfl : u = Value.ref a := r1
  refine it_run hs hf F hb ⟨hr, rfl⟩ I1 ha hl hS fun it s' hn h0 st I2 fp => ?_
  refine ⟨it, [it], _, _, H1, rfl, I2, turn_list l it, st, fun b hb => ?_, q⟩
  have e : b = it := by simpa using hb
  rw [e]
  exact fp
/-- len(x), x an instance with `__len__` -/
def rLenOwn (C : Addr) (sp : Sp) : List V → Hp → VK → Prop := fun xs H Q => ∃ (a dx : Addr) (fs : List (Str × V)), xs = [.ref a] ∧ H a = some (.ins C dx fs) ∧ sp [.ref a] H (fun v H' => ∃ n : Nat, v = .int n ∧ n < 2 ^ 62 ∧ Q (.int n) H') (fun _ _ _ => False)
theorem len_run {A : Around} {Ex : Value → Shared → Prop} {Q : VK} {R : Value → Shared → Prop} {sp : Sp} {n : Nat} (hs : PySem.W.findIn X.K (.ref C) "__len__" = some (some (.ref g))) (hf : PySem.W.isFn X.K (.ref g) = true) (F : FnR X.prog X.w X.K X.mg X.base CX0 n g sp)
    (sb : Sub X n A.in1) (I : Inv X pins σ H s) (ha : H a = some (.ins C dx fs)) (hsp : sp [.ref a] H (fun v H' => ∃ n : Nat, v = .int n ∧ n < 2 ^ 62 ∧ Q (.int n) H') (fun _ _ _ => False))
    (h : ∀ (m : Nat) t s' H', m < 2 ^ 62 → Inv X pins σ H' s' → Q (.int m) H' → R (.int m t) s') :
    wpAny (model X.prog X.w) A (call (.builtin "len") [.ref a]) R Ex s := by
  obtain ⟨od, J⟩ := inst_at I ha
  obtain ⟨m, hF⟩ := I.fr
  refine PySem.W.len_K hF I.ok.mod.kin J hs hf ?_
  have e0 : Env0 X.prog X.w X.K X.mg X.base A.in1 X.stack s H := by
    have e := I.env0
    exact ⟨by rw [sb.fr]; exact e.frames, e.mod, e.bs, e.bsz, e.funs, e.frf, e.hok, e.bare⟩
  refine wpAny_mono (call_at0 (us := [.ref a]) (ws := [.ref a]) F sb.room e0 I (.cons rfl .nil) hsp) (fun v s' z => ?_) fun _ _ x => x
  obtain ⟨z', H', I', rz, k, ez, hk, q⟩ := z
  subst ez
  obtain ⟨t, rfl⟩ := (show ∃ t, v = Value.int k t from rz)
  exact ⟨⟨by omega, by omega⟩, h k _ _ _ hk (I'.tok _) q⟩
theorem call_lenOwn {K : PySem.W.Frag} {sp : Sp} {n : Nat} (hK : X.K = K) (hs : PySem.W.findIn K (.ref C) "__len__" = some (some (.ref g))) (hf : PySem.W.isFn K (.ref g) = true) (F : FnR X.prog X.w K X.mg X.base CX0 n g sp) (hr : Room (n + 1) X.A) :
    CallR X (.builtin "len") (rLenOwn C sp) := by
  subst hK
  intro pins s σ H xs us Q I r h
  obtain ⟨a, dx, fs, rfl, ha, q⟩ := h
  obtain rfl := Vals.ref1 r
  exact len_run hs hf F ⟨hr.in1, rfl⟩ I ha q fun m t s' H' hm I' q => ⟨.int m, _, I', ⟨t, rfl⟩, q⟩
/-- x[v], x an instance with `__getitem__`, which may raise -/
def tGetOwn (C : Addr) (sp : Sp) (E : XK) (ta tb : TE) : TE := fun σ H Q => ta σ H fun x H1 => tb σ H1 fun y H2 => ∃ (a dx : Addr) (fs : List (Str × V)), x = .ref a ∧ H2 a = some (.ins C dx fs) ∧ sp [x, y] H2 Q E
theorem pe_getOwn {K : PySem.W.Frag} {CX : CXT} {sp : Sp} {E : XK} {n : Nat} {x b : Expr} {ta tb : TE} {pos : Pos} (hK : X.K = K) (hq : PySem.W.noSeq K C = true) (hs : PySem.W.findIn K (.ref C) "__getitem__" = some (some (.ref g))) (hfn : PySem.W.fnIn K g = true) (hf : PySem.W.isFn K (.ref g) = true)
    (F : FnR X.prog X.w K X.mg X.base CX n g sp) (hr : Room (n + 1) X.A) (hx : Passes CX X E) (ha : PE X x ta) (hb : PE X b tb) (hp : PlainIx b)
    (hsl : ∀ o i, subscripted b true o i = runValue (.builtin "lifetime.subscript" ⟨[o, i], []⟩) := by exact fun _ _ => rfl) : PE X (.Subscript x b pos) (tGetOwn C sp E ta tb) := by
  subst hK
  refine ⟨fun pins s σ H Q I h => Subscript_ (binT ha hb I h fun v u s2 x y H2 I2 rx ry q => ?_)⟩
  obtain ⟨a, dx, fs, rfl, ea, q⟩ := q
  obtain rfl : v = Value.ref a := rx
  obtain ⟨od, J⟩ := inst_at I2 ea
  obtain ⟨m, hF⟩ := I2.fr
  refine PySem.W.sub_K hF I2.ok.mod.kin J hs hfn hf ?_ (hsl _ _)
  refine wpAny_call (SlX.run_at (us := [.ref a, u]) (ws := [.ref a, y]) F hr.in1 I2.env0.in1 hx I2 (.cons rfl (.cons ry .nil)) q)
end
end Lb

set_option Elab.async false
set_option linter.all false
set_option maxRecDepth 100000
set_option maxHeartbeats 4000000
/-! a list or a tuple, walked alike -/
namespace Lb
open PySem PySem.Spec PyProof.Rows L2
/-- a list or a tuple that is tracked -/
def SqB (H : Hp) (a : Addr) (xs : List V) : Prop := H a = some (.lst xs) ∨ H a = some (.tup xs)
theorem SqB.same {H H' : Hp} {a : Addr} {xs : List V} (h : SqB H a xs) (s : Same H H') : SqB H' a xs := h.imp (s _ _) (s _ _)
theorem SqB.eq {H H1 H2 : Hp} {a : Addr} {xs : List V} (h : SqB H a xs) (s : Same H H1) (u : Same H H2) : H1 a = H2 a := by
  rcases h with h | h <;> rw [s _ _ h, u _ _ h]
theorem SqB.len {K : PySem.W.Frag} {H : Hp} {a : Addr} {xs : List V} (h : SqB H a xs) : SqL K H a xs ∨ SqT K H a xs := h.imp SqL.of SqT.of
def iSeq (K : PySem.W.Frag) (te : TE) : TI := fun σ H R => iList K te σ H R ∨ iTup K te σ H R
theorem pi_seqK {X : Cx} {K : PySem.W.Frag} {tg l : Expr} {tl : TE} (hK : X.K = K) (hl : PE X l tl) : PI X tg l (iSeq K tl) :=
  ⟨fun pins s σ H R I h => h.elim ((pi_listK hK hl).run pins s σ H R I) ((pi_tupK hK hl).run pins s σ H R I)⟩
theorem seq_in {K : PySem.W.Frag} {i : Nat} {σ : L2.St} {H : Hp} {R : It → Hp → Prop} {a : Addr} {xs : List V} (h : SqB H a xs) (hs : σ[i]? = some (some (.ref a)))
    (k : ∀ (J : It) (G : Hp → Prop), Walk J xs.length G (YAt xs) → (∀ H', H' a = H a → G H') → R J H) : iSeq K (tVar i) σ H R := by
  rcases h with h | h
  · exact .inl ⟨_, hs, a, rfl, ⟨xs, SqL.of h⟩, k _ _ walk_list fun H' s => SqL.of (s.trans h)⟩
  · exact .inr ⟨_, hs, a, rfl, ⟨xs, SqT.of h⟩, k _ _ walk_tup fun H' s => SqT.of (s.trans h)⟩
def iEnumB (K : PySem.W.Frag) (ta : TA) : TI := fun σ H R => iEnum K ta σ H R ∨ iEnumT K ta σ H R
theorem pi_enumB {X : Cx} {e : Expr} {ta : TA} {p pos tpos : Pos} {elts : List Expr} {kk : Nat} (hg : Gl X "enumerate") (hm : X.mg "enumerate" = none) (ha : PA X [e] ta) (hs : starEach [e] X.env = [(false, eval e X.env)] := by rfl) :
    PI X (.Tuple elts kk tpos) (.Call (.Name "enumerate" p) [e] [] pos) (iEnumB X.K ta) :=
  ⟨fun pins s σ H R I h => h.elim ((pi_enum hg hm ha hs).run pins s σ H R I) ((pi_enumT hg hm ha hs).run pins s σ H R I)⟩
theorem walk_enumT {K : PySem.W.Frag} {a : Addr} {xs : List V} : Walk (IteT K a) xs.length (fun H => SqT K H a xs) (YPair (fun i => some (.int (i : Nat))) (fun i => xs[i]?)) := by
  refine ⟨fun i _ hi q => ⟨xs, xs[i], q, by simp [hi]⟩, fun _ q => ⟨xs, q, Nat.le_refl _⟩, fun i H v H' _ q y => ?_⟩
  obtain ⟨T, x, h1, h2, h3, h4⟩ := y
  exact ⟨T, .int (i : Nat), x, h1, h2, h3, rfl, h4 xs q⟩
theorem enum_in {K : PySem.W.Frag} {i : Nat} {σ : L2.St} {H : Hp} {R : It → Hp → Prop} {a : Addr} {xs : List V} (h : SqB H a xs) (hs : σ[i]? = some (some (.ref a)))
    (k : ∀ (J : It) (G : Hp → Prop), Walk J xs.length G (YPair (fun i => some (.int (i : Nat))) (fun i => xs[i]?)) → (∀ H', H' a = H a → G H') → R J H) : iEnumB K (tCons (tVar i) tNil) σ H R := by
  rcases h with h | h
  · exact .inl ⟨_, hs, a, xs, rfl, SqL.of h, k _ _ walk_enum fun H' s => SqL.of (s.trans h)⟩
  · exact .inr ⟨_, hs, a, xs, rfl, SqT.of h, k _ _ walk_enumT fun H' s => SqT.of (s.trans h)⟩
end Lb

set_option Elab.async false
set_option linter.all false
set_option maxRecDepth 100000
set_option maxHeartbeats 4000000
/-! a def that may raise where it does not; sorted told with K; C.m(..) of a staticmethod with *args -/
namespace Lb
open PySem PySem.Spec PyProof.Rows L2
theorem passX0 {X : Cx} : Passes (L2.CX X.prog X.w) X (fun _ _ _ => False) := fun _ _ _ _ _ _ _ h => by
  obtain ⟨_, _, _, _, _, _, _, _, _, _, _, _, h⟩ := h
  exact h.elim
theorem cr_sortedSK {X : Cx} {K : PySem.W.Frag} (hK : X.K = K) : CallR X (.builtin "sorted") (rSortedS K) := by subst hK; exact cr_sortedS
section
variable {X : Cx} {CX : CXT} {k : Nat} {C p g : Addr} {sp : Sp} {E : XK} {m : Str} {pos apos : Pos} {o e : Expr} {es : List Expr} {ta : TE} {t : TA}
def tSMethR (C : Addr) (sp : Sp) (E : XK) (ta : TE) (t : TA) : TE := fun σ H Q => ta σ H fun x H1 => x = .ref C ∧ t σ H1 fun vs H2 => sp vs H2 Q E
theorem pe_smethR {pl : Sem Bool} (he : PE X o ta) (c : SMet X.K C m p g) (F : FnR X.prog X.w X.K X.mg X.base CX k g sp) (hr : Room k X.A) (hx : Passes CX X E) (ha : PA X (e :: es) t)
    (hst : starEach (e :: es) X.env = (false, eval e X.env) :: starEach es X.env := by rfl) (hpl : (backTo pos (starEach es X.env)).any (·.1) = false := by rfl)
    (ht : eval (.Call (.Attribute o m apos) (e :: es) [] pos) X.env = (do
      let ov ← eval o X.env
      standAt apos.atName
      let (f, first) ← holding [ov] (getMethod ov m pl)
      callWith pos f first (backTo pos (starEach (e :: es) X.env)) (backToKw pos (keywordEach [] X.env))) := by rfl) :
    PE X (.Call (.Attribute o m apos) (e :: es) [] pos) (tSMethR C sp E ta t) := by
  refine ⟨fun pins s σ H Q I h => ?_⟩
  refine PySem.W.methodCall_KW (pl := pl) (thn (he.run pins s σ H _ I h) fun u s1 ⟨x, H1, I1, rx, ex, q⟩ => ?_) ht
  subst ex
  obtain rfl : u = Value.ref C := rx
  refine getsm_ok I1 c fun s2 I2 => ?_
  refine PySem.W.callWith_K (first := []) (h₀ := X.base) I.ok.mod.kin c.kp (thn (ha.run pos pins s2 σ H1 _ I2 q) fun us s3 ⟨vs, H2, I3, rv, q2⟩ => ⟨I3.kIn, ?_⟩) hst hpl
  exact wpAny_call (run_fnR F hr hx I3 rv q2)
theorem pe_smethR0 {pl : Sem Bool} (he : PE X o ta) (c : SMet X.K C m p g) (F : FnR X.prog X.w X.K X.mg X.base CX k g sp) (hr : Room k X.A) (hx : Passes CX X E)
    (ht : eval (.Call (.Attribute o m apos) [] [] pos) X.env = (do
      let ov ← eval o X.env
      standAt apos.atName
      let (f, first) ← holding [ov] (getMethod ov m pl)
      callWith pos f first (backTo pos (starEach [] X.env)) (backToKw pos (keywordEach [] X.env))) := by rfl) :
    PE X (.Call (.Attribute o m apos) [] [] pos) (tSMethR C sp E ta tNil) := by
  refine ⟨fun pins s σ H Q I h => ?_⟩
  refine PySem.W.methodCall_KW (pl := pl) (thn (he.run pins s σ H _ I h) fun u s1 ⟨x, H1, I1, rx, ex, q⟩ => ?_) ht
  subst ex
  obtain rfl : u = Value.ref C := rx
  refine getsm_ok I1 c fun s2 I2 => ?_
  exact PySem.W.callWith_K0 (first := []) I2.kIn c.kp (wpAny_call (run_fnR (us := []) F hr hx I2 .nil q))
end
end Lb

set_option Elab.async false
set_option linter.all false
set_option maxRecDepth 100000
set_option maxHeartbeats 4000000
/-! repr of what is told in one of several ways; repr of a dict of plain data -/
namespace Lb
open PySem PySem.Spec PyProof.Rows L2
theorem callR_or {X : Cx} {f : Value} {r1 r2 : List V → Hp → VK → Prop} (h1 : CallR X f r1) (h2 : CallR X f r2) : CallR X f (fun xs H Q => r1 xs H Q ∨ r2 xs H Q) := by
  intro pins s σ H xs us Q I r h
  rcases h with h | h
  · exact h1 pins s σ H xs us Q I r h
  · exact h2 pins s σ H xs us Q I r h
/-- a call that is never reached -/
theorem callR_never {X : Cx} {f : Value} : CallR X f (fun _ _ _ => False) := fun _ _ _ _ _ _ _ _ _ h => h.elim
def keyD : Key → PyData
  | .inl i => .int i
  | .inr x => .str x
mutual
def flatD : PyData → Bool
  | .list _ => false
  | .dict _ => false
  | .tuple ds => flatDs ds
  | _ => true
def flatDs : List PyData → Bool
  | [] => true
  | d :: ds => flatD d && flatDs ds
end
mutual
theorem reads_flat {h : Heap} : ∀ {v : Value} {d : PyData} {as : List Addr}, Reads h v d as → flatD d = true → as = []
  | _, _, _, .none, _ => rfl
  | _, _, _, .bool _, _ => rfl
  | _, _, _, .int _ _, _ => rfl
  | _, _, _, .str _ _, _ => rfl
  | _, _, _, .list _ _ _ _, f => by simp [flatD] at f
  | _, _, _, .tuple _ _ _ r, f => reads_flats r (by simpa [flatD] using f)
  | _, _, _, .dict _ _ _ _ _, f => by simp [flatD] at f
theorem reads_flats {h : Heap} : ∀ {vs : List Value} {ds : List PyData} {as : List Addr}, ReadsAll h vs ds as → flatDs ds = true → as = []
  | _, _, _, .nil, _ => rfl
  | _, _, _, .cons r1 r2, f => by
    simp only [flatDs, Bool.and_eq_true] at f
    rw [reads_flat r1 f.1, reads_flats r2 f.2]
    rfl
end
theorem dpAll_len {K : PySem.W.Frag} {H : Hp} : ∀ {vs : List V} {ds : List PyData}, DpAll K H vs ds → vs.length = ds.length
  | _, _, .nil => rfl
  | _, _, .cons _ h => by rw [List.length_cons, List.length_cons, dpAll_len h]
theorem keys_flat : ∀ kvs : List (Key × V), flatDs (kvs.map fun q => keyD q.1) = true
  | [] => rfl
  | (k, _) :: r => by
    simp only [List.map_cons, flatDs, keys_flat r, Bool.and_true]
    cases k <;> rfl
section
variable {X : Cx} {pins : List (Addr × Obj)} {σ : L2.St} {H : Hp} {s : Shared}
theorem keys_read {P : Program} {w : World} {h : Heap} : ∀ {kvs : List (Key × V)} {vs : List (Key × Value)} {es : List DictEntry}, KV kvs vs → Pairs (mixKind P w) es vs → ∃ as, ReadsAll h (es.map (·.key)) (kvs.map fun q => keyD q.1) as := by
  intro kvs vs es r
  induction r generalizing es with
  | nil =>
    intro h3
    cases h3
    exact ⟨_, .nil⟩
  | @cons p q ps qs h1 _ ih =>
    intro h3
    cases h3 with
    | @cons e _ es2 _ hk hval hv =>
      obtain ⟨as, r2⟩ := ih hv
      have r1 : Reads h e.key (keyD p.1) [] := by
        rw [h1.1]
        rcases keyIs_shape (show keyIs _ _ = true from hk) with ⟨i, t, e1, e2⟩ | ⟨x, t, e1, e2⟩
        · rw [e1, e2]; exact .int i t
        · rw [e1, e2]; exact .str x t
      exact ⟨_, .cons r1 r2⟩
theorem vals_kv : ∀ {kvs : List (Key × V)} {vs : List (Key × Value)}, KV kvs vs → Vals (kvs.map (·.2)) (vs.map (·.2)) := by
  intro kvs vs r
  induction r with
  | nil => exact .nil
  | cons h1 _ ih => exact .cons h1.2 ih
theorem vals_es {P : Program} {w : World} : ∀ {vs : List (Key × Value)} {es : List DictEntry}, Pairs (mixKind P w) es vs → es.map (·.val) = vs.map (·.2) := by
  intro vs es h
  induction h with
  | nil => rfl
  | cons _ hv _ ih => rw [List.map_cons, List.map_cons, ih, hv]
/-- a tracked dict of plain data reads as such -/
theorem dict_reads (I : Inv X pins σ H s) {a : Addr} {kvs : List (Key × V)} {ds : List PyData} (e : H a = some (.dK kvs)) (hd : DpAll X.K H (kvs.map (·.2)) ds) (f : flatDs ds = true) :
    Reads s.heap (.ref a) (.dict ((kvs.map fun q => keyD q.1).zip ds)) [a] ∧ sysModules ≠ a := by
  obtain ⟨_, hsm, vs, r, o, es, ep, h1, h2, h3, _, h5, _⟩ := dk_of I.hok e
  obtain ⟨as, r1⟩ := keys_read (h := s.heap) r h5
  have ve : es.toList.map (·.val) = vs.map (·.2) := vals_es h5
  obtain ⟨bs, r2⟩ := Dp.readsAll I ds _ _ hd (vals_kv r)
  have e1 := reads_flats r1 (keys_flat kvs)
  have e2 := reads_flats r2 f
  subst e1
  subst e2
  have ln : (kvs.map fun q => keyD q.1).length = ds.length := by
    have := dpAll_len hd
    rw [List.length_map] at this ⊢
    exact this
  refine ⟨?_, fun z => ?_⟩
  · have q := Reads.dict (as := []) (bs := []) (kvs := (kvs.map fun q => keyD q.1).zip ds) h1 h2.1 h3 (by rw [List.map_fst_zip (Nat.le_of_eq ln)]; exact r1) (by rw [List.map_snd_zip (Nat.le_of_eq ln.symm), ve]; exact r2)
    exact q
  · rw [z] at hsm
    simp at hsm
end
section
variable {X : Cx}
/-- repr(d), d a tracked dict of plain data -/
def rReprDc (K : PySem.W.Frag) : List V → Hp → VK → Prop := fun xs H Q =>
  ∃ a kvs ds, xs = [.ref a] ∧ H a = some (.dK kvs) ∧ DpAll K H (kvs.map (·.2)) ds ∧ flatDs ds = true ∧ (PyData.dict ((kvs.map fun q => keyD q.1).zip ds)).showable = true ∧ (PyData.dict ((kvs.map fun q => keyD q.1).zip ds)).shown.length ≤ sizeLine ∧
    (PyData.dict ((kvs.map fun q => keyD q.1).zip ds)).depth ≤ 60 ∧ Q (.str (PyData.dict ((kvs.map fun q => keyD q.1).zip ds)).shown) H
theorem call_reprDc {K : PySem.W.Frag} (hK : X.K = K) (hg : X.A.guards = some []) (hu : X.A.units + 64 < cLine) : CallR X (.builtin "repr") (rReprDc K) := by
  subst hK
  intro pins s σ H xs us Q I r h
  obtain ⟨a, kvs, ds, rfl, e, hd, f, sh, hz, dp, q⟩ := h
  obtain ⟨u, rfl, ru⟩ := vals1 r
  cases (show u = Value.ref a from ru)
  obtain ⟨rd, ne⟩ := dict_reads I e hd f
  refine PySem.repr_of_reads' rd sh (fun _ z => ne (List.mem_singleton.mp z)) hg (by omega) (fun _ _ e => e) (fun h' w tk k => ?_) hz
  exact ⟨.str _, H, I.kept k, ⟨_, rfl⟩, q⟩
end
end Lb

set_option Elab.async false
set_option linter.all false
set_option maxRecDepth 100000
set_option maxHeartbeats 4000000
/-! defs that raise nothing, called while an exception is handled -/
namespace Lb
open PySem PySem.Spec PyProof.Rows L2
open L2H (RoomH PinOk cxH inv_startH)
structure FnQ (P : Program) (w : World) (K : PySem.W.Frag) (mg : Str → Option Value) (base : Heap) (k : Nat) (f : Addr) (fd : FuncData) (ps : List Str) (sp : Sp) : Prop where
  len : ∀ vs H Q E, sp vs H Q E → vs.length = ps.length
  run : ∀ (A : Around) (outer : List Env) (s : Shared) (H : Hp) (args : Args) (us : List Value) (vs : List V) (Q : VK) (p : Addr × Obj), RoomH k A → PinOk outer H s p → Env0 P w K mg base A outer s H →
    BindsTo s fd args (ps.zip us) → Vals vs us → sp vs H Q E0 → codeAny (model P w) A (.call (.ref f) args) (CR CX0 outer P w H s Q E0) s
section
variable {P : Program} {w : World} {K : PySem.W.Frag} {mg : Str → Option Value} {base : Heap} {k j : Nat} {f : Addr} {fd : FuncData} {ps : List Str} {sp : Sp}
theorem FnQ.mono (F : FnQ P w K mg base j f fd ps sp) (h : j ≤ k) : FnQ P w K mg base k f fd ps sp :=
  ⟨F.len, fun A outer s H args us vs Q p hr => F.run A outer s H args us vs Q p (hr.mono h)⟩
theorem okQ {x qual : Str} {st : Stmt} {N : List Str} (F : Fun K x qual st f fd) (S : FnScope N ps (defScope st)) (len : ∀ vs H Q E, sp vs H Q E → vs.length = ps.length)
    (hbody : ∀ (cdv : Value) (A : Around) (outer : List Env) (s : Shared) (H : Hp) (vs : List V) (Q : VK) (p : Addr × Obj), RoomH k (A.deeper (envOfC qual (defScope st) s.heap.objs.size f cdv)) → sp vs H Q E0 →
      ∃ t, PSs (cxH CX0 P w K mg base N qual (defScope st) f cdv A outer s H E0 p) (defBody st) t ∧ t { nx := fun _ H' => Q .non H', rt := Q } (start N vs) H) :
    FnQ P w K mg base (k + 1) f fd ps sp := by
  obtain ⟨oc, od, kV, doc, pm, an, cdv, ct, osl, rfl, lk, hcd⟩ := F.ex
  refine ⟨len, fun A outer s H args us vs Q p room pin e0 bnd r way => ?_⟩
  have same_len := len vs H Q E0 way
  have inK : K.In s.heap := e0.mod.kin.keeps fun b o e => (e0.bs b o e).1
  have noLim : s.heap.NoLimit := e0.mod.nolimit.keeps fun b o e => (e0.bs b o e).1
  refine codeAny_call_function room.depth (inK _ _ lk) rfl S.co S.gen rfl (PySem.W.codeRec_of inK hcd) (bnd _ _ _ _ ?_)
  refine wpAny_newFunctionEnv_cells S.kind ?_ fun env he s1 y => ?_
  · rintro ⟨n, v⟩ hy
    rcases S.par n (List.of_mem_zip hy).1 with q | q
    · exact .inl q
    · exact .inr ⟨q, PySem.W.cellsFrom_some _ _ _ (.inl q)⟩
  · subst he
    refine ⟨noLim.keeps y.toInCall.keep, codeAny_func ?_⟩
    obtain ⟨t, ht, hq⟩ := hbody cdv A outer s H vs Q p (room.deeper _) way
    have I := inv_startH (CX := CX0) (E := E0) S pin e0 same_len r y
    refine wpAny_mono (ht.run [] s1 (start N vs) H _ I hq) (fun fl s' hs => ?_) fun _ _ hs => hs
    cases fl with
    | ret u => exact let ⟨v, _, H', J, rv, q⟩ := hs; ⟨v, H', J.os, J.bare, J.base, J.hok, rv, q⟩
    | next => exact let ⟨_, H', J, q⟩ := hs; ⟨V.non, H', J.os, J.bare, J.base, J.hok, rfl, q⟩
    | brk => exact hs.elim fun _ h => h.elim fun _ h => h.2.elim
    | cont => exact hs.elim fun _ h => h.elim fun _ h => h.2.elim
end
section
variable {X : Cx} {k : Nat} {f C g : Addr} {fd : FuncData} {ps : List Str} {sp : Sp} {x m : Str} {q pos apos : Pos} {e o : Expr} {es : List Expr} {ta : TE} {t : TA}
theorem run_atQ {pins : List (Addr × Obj)} {σ : L2.St} {H : Hp} {s : Shared} {A : Around} {Q : VK} {us : List Value} {vs : List V} (F : FnQ X.prog X.w X.K X.mg X.base k f fd ps sp) (hr : RoomH k A) (hc : ∃ p, p ∈ X.pn) (e0 : Env0 X.prog X.w X.K X.mg X.base A X.stack s H)
    (hb : Binds X.K fd ps []) (I : Inv X pins σ H s) (r : Vals vs us) (h : sp vs H Q E0) :
    codeAny (model X.prog X.w) A (.call (.ref f) ⟨us, []⟩) (fun r s' => match r with | .ok (.ret v) => EP X pins σ Q v s' | .ok _ => False | .error e => X.xe e s') s := by
  obtain ⟨p, hp⟩ := hc
  have ln : us.length = ps.length := by rw [← r.length]; exact F.len _ _ _ _ h
  have b := hb s us I.kIn (by rw [List.append_nil]; exact ln)
  rw [List.append_nil] at b
  have here := I.pin p (List.mem_append_left _ hp)
  have pin : PinOk X.stack H s p := ⟨here.1, here.2.1, fun z => (List.mem_cons.mp (I.stkSub p.1 z)).elim here.2.2.1 here.2.2.2.1, here.2.2.2.2⟩
  refine codeAny_mono (F.run A X.stack s H ⟨us, []⟩ us vs Q p hr pin e0 b r h) fun r s' z => ?_
  rcases r with er | fl
  · first | exact z.elim | (cases er <;> first | exact I.after z | exact z.elim)
  · first | (cases fl <;> first | exact I.after z | exact z.elim) | exact z.elim
theorem pe_callQ (F : FnQ X.prog X.w X.K X.mg X.base k f fd ps sp) (hr : RoomH k X.A) (hc : ∃ p, p ∈ X.pn) (hg : Gl X x) (hm : X.mg x = some (.ref f)) (hk : PySem.W.keepIn X.K (.ref f) = true) (hb : Binds X.K fd ps []) (ha : PA X (e :: es) t)
    (hdb : (x == ("__debug__" : Str)) = false := by decide) (he : starEach (e :: es) X.env = (false, eval e X.env) :: starEach es X.env := by rfl) (hpl : (backTo pos (starEach es X.env)).any (·.1) = false := by rfl) :
    PE X (.Call (.Name x q) (e :: es) [] pos) (tCall sp [] E0 t) := by
  refine ⟨fun pins s σ H Q I h => wpAny_Call_Name_kw (ld_glob I hg hm ?_ hdb)⟩
  refine PySem.W.callWith_K (h₀ := X.base) I.ok.mod.kin hk (thn (ha.run pos pins s σ H _ I h) fun us s1 z => ?_) he hpl
  obtain ⟨vs, H1, I1, r, z⟩ := z
  rw [List.append_nil] at z
  refine ⟨I1.kIn, wpAny_call (codeAny_mono (run_atQ F hr hc I1.env0 hb I1 r z) fun r s' y => ?_)⟩
  rcases r with er | fl
  · exact y
  · cases fl <;> first | exact y | exact y.elim
/-- repr(x) there, x an instance whose class has __repr__ -/
theorem call_reprQ (hs : PySem.W.findIn X.K (.ref C) "__repr__" = some (some (.ref g))) (hf : PySem.W.isFn X.K (.ref g) = true)
    (F : FnQ X.prog X.w X.K X.mg X.base k g fd ["self"] sp) (hr : RoomH (k + 1) X.A) (hc : ∃ p, p ∈ X.pn) (hb : Binds X.K fd ["self"] []) : CallR X (.builtin "repr") (rOwnTx C sp E0) := by
  intro pins s σ H xs us Q I r h
  obtain ⟨a, dx, fs, rfl, ha, z⟩ := h
  obtain ⟨u, rfl, ru⟩ := vals1 r
  cases (show u = Value.ref a from ru)
  obtain ⟨od, J⟩ := inst_at I ha
  have hu := hr.un
  have hr1 : RoomH k X.A.in1 := ⟨by have := hr.dp; show X.A.depth + 3 * k + 5 < _; omega, by show X.A.units + 1 + 16 * k + 200 < _; omega⟩
  refine Calls.call_function_entry PySem.F.kind_repr PySem.F.plain_repr PySem.F.entry_repr (PySem.F.args_repr1 _) ?_
  unfold Builtin.«repr»
  refine wpAny_bind (m := oneArg "repr" _) (wpAny_pure ?_)
  refine wpAny_bind (m := cRoomFor _ _) (wpAny_cRoomFor (by show X.A.units + 1 < cLine; omega) ?_)
  refine wpAny_bind (wpAny_bind (J.type.here ((PySem.W.looks_findIn I.kIn hs).here ?_)))
  refine wpAny_bind (m := callSpecialIfBound? (.ref a) (Str.ofString "__repr__")) (PySem.W.ifBound_K I.kIn J hs hf ?_)
  refine wpAny_mono (wpAny_call (codeAny_mono (run_atQ (us := [.ref a]) (vs := [.ref a]) F hr1 hc I.env0.in1 hb I (.cons rfl .nil) z) fun r s' y => y)) (fun w s' z => ?_) fun _ _ x => x
  obtain ⟨z', H', I', rz, y, ez, qz⟩ := z
  subst ez
  obtain ⟨t, rfl⟩ := (show ∃ t, w = Value.str y t from rz)
  refine wpAny_bind (wpAny_isInstance (T := "str") (b := true) rfl isSubtype_str_str ?_)
  exact wpAny_pure ⟨_, rfl, .str y, H', I', ⟨t, rfl⟩, qz⟩
end
end Lb

set_option Elab.async false
set_option linter.all false
set_option maxRecDepth 100000
set_option maxHeartbeats 4000000
/-! lambdas: the maker's rule, the law's call with tables of code objects -/
namespace Lb
open PySem PySem.Spec PyProof.Rows L2
open LamX (TabB Tabs TabS CodeO ExtN)
/-- σ has its length wherever an exception is taken -/
theorem takes_len {X : Cx} {W : WX} (t : Takes X W) : Takes X (fun c d σ H => σ.length = X.N.length → W c d σ H) := fun u s' ⟨a, B, sI, pins, σ, H, cls, d, e, I, nb, up, sky, na, os, ag, w⟩ =>
  t u s' ⟨a, B, sI, pins, σ, H, cls, d, e, I, nb, up, sky, na, os, ag, w I.len⟩
/-- a def that makes lambdas: its code object is known -/
theorem okGL {P : Program} {w : World} {K : PySem.W.Frag} {mg : Str → Option Value} {base : Heap} {CX : CXT} {k : Nat} {f c : Addr} {fd : FuncData} {ps : List Str} {sp : Sp} {x qual : Str} {st : Stmt} {N : List Str} (F : Fun K x qual st f fd) (hcode : fd.code = .ref c) (S : FnScope N ps (defScope st))
    (len : ∀ vs H Q E, sp vs H Q E → vs.length = ps.length)
    (hbody : ∀ (A : Around) (outer : List Env) (s : Shared) (H : Hp) (vs : List V) (Q : VK) (E : XK),
      (A.deeper (envOfC qual (defScope st) s.heap.objs.size f (.ref c))).guards = some [] → Room k (A.deeper (envOfC qual (defScope st) s.heap.objs.size f (.ref c))) → sp vs H Q E →
      ∃ t, PSs (cxOf CX P w K mg base N qual (defScope st) f (.ref c) A outer s H E).nox (defBody st) t ∧ t { nx := fun _ H' => Q .non H', rt := Q } (start N vs) H) :
    FnG P w K mg base CX (k + 1) f fd ps sp := by
  obtain ⟨oc, od, kV, doc, pm, an, cdv, ct, osl, rfl, lk, hcd⟩ := F.ex
  obtain rfl : cdv = .ref c := hcode
  refine ⟨len, fun A outer s H args us vs Q E hgu room e0 bnd r way => ?_⟩
  have same_len := len vs H Q E way
  have inK : K.In s.heap := e0.mod.kin.keeps fun b o e => (e0.bs b o e).1
  have noLim : s.heap.NoLimit := e0.mod.nolimit.keeps fun b o e => (e0.bs b o e).1
  refine codeAny_call_function room.depth (inK _ _ lk) rfl S.co S.gen rfl (PySem.W.codeRec_of inK hcd) (bnd _ _ _ _ ?_)
  refine wpAny_newFunctionEnv_cells S.kind ?_ fun env he s1 y => ?_
  · rintro ⟨n, v⟩ hy
    rcases S.par n (List.of_mem_zip hy).1 with q | q
    · exact .inl q
    · exact .inr ⟨q, PySem.W.cellsFrom_some _ _ _ (.inl q)⟩
  · subst he
    refine ⟨noLim.keeps y.toInCall.keep, codeAny_func ?_⟩
    have gd : (A.deeper (envOfC qual (defScope st) s.heap.objs.size f (.ref c))).guards = some [] := by
      first
        | exact hgu
        | simpa [Around.deeper] using hgu
    obtain ⟨t, ht, hq⟩ := hbody A outer s H vs Q E gd (room.deeper _) way
    have I := inv_start (CX := CX) (E := E) S room.hd e0 same_len r y
    refine wpAny_mono (ht.nox.run [] s1 (start N vs) H _ I hq) (fun fl s' hs => ?_) fun _ _ hs => hs
    cases fl with
    | ret u => exact let ⟨v, _, H', J, rv, q⟩ := hs; ⟨v, H', J.os, J.bare, J.base, J.hok, rv, q⟩
    | next => exact let ⟨_, H', J, q⟩ := hs; ⟨V.non, H', J.os, J.bare, J.base, J.hok, rfl, q⟩
    | brk => exact hs.elim fun _ h => h.elim fun _ h => h.2.elim
    | cont => exact hs.elim fun _ h => h.elim fun _ h => h.2.elim
/-- what is tracked when the law is called: the script, the empty tables -/
def StartH (a : Addr) (cs : List (Addr × Addr)) (H : Hp) : Prop := ∀ b u, H b = some u → (b = a ∧ ∃ o xs, u = .frz o (.lst xs)) ∨ (b ∈ cs.map (·.2) ∧ u = .tbl #[])
theorem law_callTG {P : Program} {w : World} {K : PySem.W.Frag} {mg mb : Str → Option Value} {k : Nat} {fa a : Addr} {cs : List (Addr × Addr)} {fd : FuncData} {x : Str} {sp : Sp} {s1 : Shared} {vs : List Value} {ns : List Int}
    (KX : K.In s1.heap) (hns : s1.heap.Ns mainGlobals mg) (hb : s1.heap.Ns builtinsNs mb) (hbb : ∀ x : Str, x ≠ "__name__" → mb x = bootBuiltins x) (hlim : s1.heap.NoLimit) (hg : s1.gens = #[])
    (tabs : ∀ p ∈ cs, PySem.W.CodeHd s1.heap p.1 p.2 ∧ s1.heap.get? p.2 = some (PySem.W.tabObj #[])) (nK : ∀ p ∈ cs, K.lookup p.2 = none)
    (bmain : ∃ (bm : Addr) (ob : Obj), mg "__builtins__" = some (.ref bm) ∧ bm ≠ builtinsNs ∧ s1.heap.get? bm = some ob ∧ ob.cls = .type "module" ∧ ob.dict = some builtinsNs ∧ ob.data = .plain)
    (ha : s1.heap.get? a = some { cls := .type "list", data := .seq vs.toArray }) (hi : IntsAre vs ns) (hl : ns.length ≤ sizeLine) (hr : Room k callerA)
    (F : ∀ base : Heap, K.In base → base.Ns mainGlobals mg → (∀ p ∈ cs, TabB base mg p.1 p.2) → FnG P w K mg base CX0 k fa fd [x] sp) (hbind : ∀ (s : Shared) (u : Value), BindsTo s fd ⟨[u], []⟩ [(x, u)])
    (hsp : ∀ H : Hp, (∀ p ∈ cs, H p.2 = some (.tbl #[])) → SqL K H a (ns.map V.int) → sp [.ref a] H (fun v _ => v = .bl true) fun _ _ _ => False) :
    codeAny (model P w) callerA (.call (.ref fa) ⟨[.ref a], []⟩) (fun r s' => r = .ok (.ret (.bool true)) ∧ OldK s1.heap s'.heap ∧ s'.os = s1.os ∧ AllBare s'.gens) s1 := by
  have rv := vals_ints hi
  have isTab : ∀ b, b ∈ cs.map (·.2) → ∃ p ∈ cs, p.2 = b := fun b hb => List.mem_map.mp hb
  have apart : a ∉ cs.map (·.2) := fun z => by
    obtain ⟨p, hp, e⟩ := isTab a z
    have q := (tabs p hp).2
    rw [e, ha] at q
    exact nomatch (congrArg Obj.cls (Option.some.inj q))
  have core : ∀ H : Hp, StartH a cs H → (∀ p ∈ cs, H p.2 = some (.tbl #[])) → SqL K H a (ns.map V.int) → HOk P w H s1.heap → (∀ u, H a = some u → K.lookup a = none) →
      codeAny (model P w) callerA (.call (.ref fa) ⟨[.ref a], []⟩) (fun r s' => r = .ok (.ret (.bool true)) ∧ OldK s1.heap s'.heap ∧ s'.os = s1.os ∧ AllBare s'.gens) s1 := by
    intro H hO hH hS hok hK
    -- what is neither a list nor an empty table is not tracked
    have free_of : ∀ {b : Addr} {o : Obj}, s1.heap.get? b = some o → o.cls ≠ .type "list" → o.data ≠ .fields #[] → H b = none := by
      intro b o e n1 n2
      cases q : H b with
      | none => rfl
      | some u =>
        exfalso
        rcases hO b u q with ⟨rfl, _⟩ | ⟨hm, _⟩
        · rw [ha] at e
          cases e
          exact n1 rfl
        · obtain ⟨p, hp, rfl⟩ := isTab b hm
          rw [(tabs p hp).2] at e
          cases e
          exact n2 rfl
    have nsK : ∀ {b : Addr} {m : Str → Option Value}, s1.heap.Ns b m → (hidT s1.heap H).Ns b m := by
      rintro b m ⟨o, es, ep, e, d, r⟩
      refine ⟨o, es, ep, hidT_get e ?_, d, r⟩
      cases q : H b with
      | none => rfl
      | some u =>
        exfalso
        rcases hO b u q with ⟨rfl, _⟩ | ⟨hm, _⟩
        · rw [ha] at e
          cases e
          cases d
        · obtain ⟨p, hp, rfl⟩ := isTab b hm
          rw [(tabs p hp).2] at e
          cases e
          cases d
    have hKb : K.In (hidT s1.heap H) := by
      intro b o e
      refine hidT_get (KX b o e) ?_
      cases q : H b with
      | none => rfl
      | some u =>
        exfalso
        rcases hO b u q with ⟨rfl, _⟩ | ⟨hm, _⟩
        · rw [hK u q] at e
          cases e
        · obtain ⟨p, hp, rfl⟩ := isTab b hm
          rw [nK p hp] at e
          cases e
    have hM : Mod K mg (hidT s1.heap H) := by
      obtain ⟨mc, c1, c2⟩ := hlim
      exact ⟨hKb, nsK hns, ⟨mb, nsK hb, hbb⟩, ⟨mc, nsK c1, c2⟩⟩
    have TB : ∀ p ∈ cs, TabB (hidT s1.heap H) mg p.1 p.2 := by
      intro p hp
      obtain ⟨cd, tb⟩ := tabs p hp
      refine ⟨?_, ?_, fun z => ?_⟩
      · obtain ⟨o, us, fl, tf, fg, tg, inF, tx, tt, e1, e2, e3, e4, more⟩ := cd
        refine ⟨o, us, fl, tf, fg, tg, inF, tx, tt, hidT_get e1 (free_of e1 (fun z => ?_) fun z => ?_), e2, e3, e4, more⟩
        · rw [e2] at z
          injection z with z
          exact absurd z (by decide)
        · rw [e3] at z
          cases z
          cases e4
      · obtain ⟨bm, ob, b1, b2, b3, b4, b5, b6⟩ := bmain
        refine ⟨bm, ob, b1, b2, fun q => ?_, fun q => ?_, hidT_get b3 (free_of b3 (fun z => ?_) fun z => ?_), b4, b5, b6⟩
        · obtain ⟨o, es, ep, e, hd, _⟩ := hns
          rw [q, e] at b3
          cases b3
          rw [hd] at b6
          cases b6
        · rw [q, tb] at b3
          cases b3
          cases b6
        · rw [b4] at z
          injection z with z
          exact absurd z (by decide)
        · rw [b6] at z
          cases z
      · obtain ⟨o, es, ep, e, hd, _⟩ := hns
        rw [z, tb] at e
        cases e
        cases hd
    have e0 : Env0 P w K mg (hidT s1.heap H) callerA [] s1 H :=
      ⟨rfl, hM, fun b o e => of_hidT e, Nat.le_of_eq (hidT_size _ _), trivial, fun b hb => (List.not_mem_nil hb).elim, hok, .of_eq hg⟩
    have code := (F _ hKb (nsK hns) TB).run callerA [] s1 H ⟨[.ref a], []⟩ [.ref a] [.ref a] _ _ rfl hr e0 (hbind s1 (.ref a)) (.cons rfl .nil) (hsp H hH hS)
    refine codeAny_mono code fun r s' h => ?_
    cases r with
    | error e => exact h.elim
    | ok fl =>
      cases fl with
      | ret u =>
        obtain ⟨v, H', os, bare, un, hok', r', q⟩ := h
        cases (show v = .bl true from q)
        cases (show u = Value.bool true from r')
        -- what was there is as it was, but for the tables, which grow
        have stays : ∀ b o, b ∉ cs.map (·.2) → s1.heap.get? b = some o → s'.heap.get? b = some o := by
          intro b o nb e
          cases z : H b with
          | none => exact un.keep b o e z (fun z => List.not_mem_nil z) (fun z => List.not_mem_nil z)
          | some v =>
            rcases hO b v z with ⟨_, ob, xs, rfl⟩ | ⟨hm, _⟩
            · obtain ⟨e1, _⟩ := hok b _ z
              obtain ⟨e2, _⟩ := hok' b _ (un.frzs b ob _ z)
              rw [e] at e1
              cases e1
              exact e2
            · exact absurd hm nb
        have grows : ∀ p ∈ cs, ∃ more, s'.heap.get? p.2 = some (PySem.W.tabObj more) := by
          intro p hp
          obtain ⟨more, z⟩ := un.tbls p.2 _ (hH p hp)
          exact ⟨_, hok' p.2 _ z⟩
        refine ⟨rfl, ⟨fun b o e => ?_, fun b o e => ?_⟩, os, bare⟩
        · by_cases hm : b ∈ cs.map (·.2)
          · obtain ⟨p, hp, rfl⟩ := isTab b hm
            obtain ⟨more, z⟩ := grows p hp
            obtain ⟨cd, tb⟩ := tabs p hp
            rw [tb] at e
            cases e
            exact .inr (.inl ⟨(cd.tab tb).isCodeTable, rfl, #[], more, rfl, by rw [Array.empty_append]; exact z⟩)
          · exact .inl (stays b o hm e)
        · by_cases hm : b ∈ cs.map (·.2)
          · obtain ⟨p, hp, rfl⟩ := isTab b hm
            obtain ⟨more, z⟩ := grows p hp
            exact ⟨_, z⟩
          · exact ⟨o, stays b o hm e⟩
      | next => exact h.elim
      | brk => exact h.elim
      | cont => exact h.elim
  -- the heap to begin with
  have begin_ : ∀ (own : Bool), (own = true → K.lookup a = none) → (own = false → SqL K (fun b => if b ∈ cs.map (·.2) then some (.tbl #[]) else none) a (ns.map V.int)) →
      codeAny (model P w) callerA (.call (.ref fa) ⟨[.ref a], []⟩) (fun r s' => r = .ok (.ret (.bool true)) ∧ OldK s1.heap s'.heap ∧ s'.os = s1.os ∧ AllBare s'.gens) s1 := by
    intro own h1 h2
    have atA : ∀ {b : Addr} {u : HO}, (if b = a ∧ own = true then some (HO.frz { cls := .type "list", data := .seq vs.toArray } (.lst (ns.map V.int))) else if b ∈ cs.map (·.2) then some (.tbl #[]) else none) = some u →
        (b = a ∧ own = true ∧ u = HO.frz { cls := .type "list", data := .seq vs.toArray } (.lst (ns.map V.int))) ∨ (b ∈ cs.map (·.2) ∧ u = .tbl #[]) := by
      intro b u e
      by_cases c1 : b = a ∧ own = true
      · rw [if_pos c1] at e
        exact .inl ⟨c1.1, c1.2, (Option.some.inj e).symm⟩
      · rw [if_neg c1] at e
        by_cases c2 : b ∈ cs.map (·.2)
        · rw [if_pos c2] at e
          exact .inr ⟨c2, (Option.some.inj e).symm⟩
        · rw [if_neg c2] at e
          cases e
    refine core (fun b => if b = a ∧ own = true then some (.frz { cls := .type "list", data := .seq vs.toArray } (.lst (ns.map V.int))) else if b ∈ cs.map (·.2) then some (.tbl #[]) else none) (fun b u e => ?_) (fun p hp => ?_) ?_ (fun b u e => ?_) (fun u e => ?_)
    · rcases atA e with ⟨c1, _, rfl⟩ | c2
      · exact .inl ⟨c1, _, _, rfl⟩
      · exact .inr c2
    · have hm : p.2 ∈ cs.map (·.2) := List.mem_map.mpr ⟨p, hp, rfl⟩
      have ne : ¬ (p.2 = a ∧ own = true) := fun z => apart (z.1 ▸ hm)
      show (if p.2 = a ∧ own = true then _ else if p.2 ∈ cs.map (·.2) then _ else _) = _
      rw [if_neg ne, if_pos hm]
    · cases own with
      | true => exact .inl (.inr ⟨{ cls := .type "list", data := .seq vs.toArray }, if_pos ⟨rfl, rfl⟩⟩)
      | false =>
        have q := h2 rfl
        have e : (fun b => if b = a ∧ false = true then some (HO.frz { cls := .type "list", data := .seq vs.toArray } (.lst (ns.map V.int))) else if b ∈ cs.map (·.2) then some (HO.tbl #[]) else none) = (fun b => if b ∈ cs.map (·.2) then some (HO.tbl #[]) else none) := by
          funext b
          rw [if_neg (fun z => Bool.noConfusion z.2)]
        rw [e]
        exact q
    · rcases atA e with ⟨rfl, _, rfl⟩ | ⟨hm, rfl⟩
      · exact ⟨ha, by rw [List.length_map]; exact hl, vs, _, rv, ha⟩
      · obtain ⟨p, hp, rfl⟩ := isTab b hm
        exact (tabs p hp).2
    · rcases atA e with ⟨_, o1, _⟩ | ⟨hm, _⟩
      · exact h1 o1
      · exact absurd hm apart
  cases hk : K.lookup a with
  | none => exact begin_ true (fun _ => hk) (fun z => Bool.noConfusion z)
  | some o =>
    have e := KX a o hk
    rw [ha] at e
    cases e
    refine begin_ false (fun z => Bool.noConfusion z) (fun _ => .inr ⟨_, vs.toArray, _, hk, rfl, rfl, rfl, ?_, ?_⟩)
    · rw [List.size_toArray, hi.length]
      exact hl
    · simpa using rv
/-- the end: the promise is told of the makers' code objects and tables -/
theorem walkTG {l : PySem.W.OpenLaw} {n k : Nat} {q : Program} {loose : List Str} {XP : (Str → Option Value) → Heap → Prop} {YP : World → Heap → Prop} {d : DefRec} {K : Params → PySem.W.Frag} {sp : PySem.W.Frag → List (Addr × Addr) → Sp} {x : Str}
    (hn : l.most = some n) (hn2 : n ≤ sizeLine) (hdf : d.params.defaults = []) (hr : Room k callerA) (hY : ∀ (w : World) (h : Heap), YP w h → (K w.params).In h)
    (F : ∀ (w : World) (mg : Str → Option Value) (fa : Addr) (h : Heap), (K w.params).In h → h.Ns mainGlobals mg → mg d.name = some (.ref fa) →
      ∃ (fd : FuncData) (cs : List (Addr × Addr)), (∀ p ∈ cs, ∃ (y : Str) (dd : DefRec), (recsOf q).find? (fun e => e.name == y) = some dd ∧ PySem.W.tabIn (K w.params) y = some p) ∧ (∀ p ∈ cs, (K w.params).lookup p.2 = none) ∧
        (∀ (s : Shared) (u : Value), BindsTo s fd ⟨[u], []⟩ [(x, u)]) ∧
        ∀ base : Heap, (K w.params).In base → base.Ns mainGlobals mg → (∀ p ∈ cs, TabB base mg p.1 p.2) → FnG l.prog w (K w.params) mg base CX0 k fa fd [x] (sp (K w.params) cs))
    (hsp : ∀ (K : PySem.W.Frag) (cs : List (Addr × Addr)) (H : Hp) (a : Addr) (ns : List Int), ns.length ≤ n → (∀ p ∈ cs, H p.2 = some (.tbl #[])) → SqL K H a (ns.map V.int) → sp K cs [.ref a] H (fun v _ => v = .bl true) fun _ _ _ => False) :
    PySem.W.WalkO q loose XP YP l.row.toRowW d [] (fun f vs => PySem.call f vs) := by
  refine Att.attach_call hn hdf fun w s0 s1 mg mb fa o pm cd doc a vs ns G Y ho hd hcd hmg hobj hints hlen hg => ?_
  obtain ⟨fd, cs, hT, nK, hb, hF⟩ := F w mg fa _ (hY w _ Y) G.T.g hmg
  refine law_callTG (cs := cs) (hY w _ Y) G.T.g G.T.b G.T.builtins G.T.nolimit hg (fun p hp => ?_) nK G.T.bmain hobj hints (Nat.le_trans hlen hn2) hr hF hb (fun H hH hS => hsp _ cs H a ns hlen hH hS)
  obtain ⟨y, dd, e1, e2⟩ := hT p hp
  exact PySem.W.tab_of G.T (hY w _ Y) e1 e2
end Lb

set_option Elab.async false
set_option linter.all false
set_option maxRecDepth 100000
set_option maxHeartbeats 4000000
/-! def f(a, *v) that may raise; one contract of two -/
namespace Lb
open PySem PySem.Spec PyProof.Rows L2
theorem FnOk.up {P : Program} {w : World} {K : PySem.W.Frag} {mg : Str → Option Value} {base : Heap} {CX : CXT} {k : Nat} {f : Addr} {fd : FuncData} {ps : List Str} {sp : Sp} (F : L2.FnOk P w K mg base CX0 k f fd ps sp) : L2.FnOk P w K mg base CX k f fd ps sp :=
  ⟨F.len, fun A outer s H args us vs Q E hr e0 hb r h => codeAny_mono (F.run A outer s H args us vs Q E hr e0 hb r h) fun r s' z => by
    rcases r with er | fl
    · exact False.elim z
    · cases fl <;> exact z⟩
theorem FnOk.either {P : Program} {w : World} {K : PySem.W.Frag} {mg : Str → Option Value} {base : Heap} {CX : CXT} {k : Nat} {f : Addr} {fd : FuncData} {ps : List Str} {sp sq : Sp} (F : L2.FnOk P w K mg base CX k f fd ps sp) (G : L2.FnOk P w K mg base CX k f fd ps sq) :
    L2.FnOk P w K mg base CX k f fd ps (fun vs H Q E => sp vs H Q E ∨ sq vs H Q E) :=
  ⟨fun vs H Q E h => h.elim (F.len vs H Q E) (G.len vs H Q E), fun A outer s H args us vs Q E hr e0 hb r h => h.elim (F.run A outer s H args us vs Q E hr e0 hb r) (G.run A outer s H args us vs Q E hr e0 hb r)⟩
theorem star_okX {P : Program} {w : World} {K : PySem.W.Frag} {mg : Str → Option Value} {base : Heap} {x qual : Str} {st : Stmt} {f : Addr} {fd : FuncData} {N ps : List Str} {pv : Str} {k : Nat} {sp : Sp} (F : Fun K x qual st f fd) (S : FnScope N (ps ++ [pv]) (defScope st))
    (hb : ∀ (kV doc pm : Value) (an : Option Addr) (cdv ct : Value) (us rest : List Value), us.length = ps.length → bindArgs (PySem.W.fnOf x qual (defArgs st) (defBody st) (defScope st) .none kV doc pm an cdv ct) ⟨us ++ rest, []⟩ = (newTuple rest >>= fun t => pure (ps.zip us ++ [(pv, t)])))
    (hbody : ∀ (cdv : Value) (A : Around) (outer : List Env) (s : Shared) (H : Hp) (vs : List V) (Q : VK) (E : XK), Room k (A.deeper (envOfC qual (defScope st) s.heap.objs.size f cdv)) → sp vs H Q E →
      ∃ t, PSs (cxOf (L2.CX P w) P w K mg base N qual (defScope st) f cdv A outer s H E) (defBody st) t ∧ t { nx := fun _ H' => Q .non H', rt := Q } (start N vs) H) :
    FnR P w K mg base (L2.CX P w) (k + 1) f (fun vs H Q E => ∃ ws rest, vs = ws ++ rest ∧ ws.length = ps.length ∧ rest.length ≤ sizeLine ∧ ∀ p, H p = Option.none → sp (ws ++ [V.ref p]) (upd H p (.tup rest)) Q E) := by
  obtain ⟨oc, od, kV, doc, pm, an, cdv, ct, osl, rfl, lk, hcd⟩ := F.ex
  exact StX.fn_star lk hcd S StX.cxUp (fun us rest l => hb kV doc pm an cdv ct us rest l) fun A outer s H vs Q E hr h => hbody cdv A outer s H vs Q E hr h
end Lb

set_option Elab.async false
set_option linter.all false
set_option maxRecDepth 100000
set_option maxHeartbeats 4000000
/-! repr of lists and tuples, one within another, that hold instances of own classes -/
namespace Lb
open PySem PySem.Spec PyProof.Rows L2
/-- what is shown: a plain value, an instance, a list, a tuple -/
inductive Tr where
  | lf (t : Str) | ow (t : Str) | ls (l : List Tr) | tp (l : List Tr)
mutual
def Tr.text : Tr → Str
  | .lf t => t
  | .ow t => t
  | .ls l => listText (Tr.texts l)
  | .tp l => tupleText (Tr.texts l)
def Tr.texts : List Tr → List Str
  | [] => []
  | t :: r => t.text :: Tr.texts r
end
mutual
def Tr.sz : Tr → Nat
  | .lf _ => 0
  | .ow _ => 0
  | .ls l => Tr.szs l + 1
  | .tp l => Tr.szs l + 1
def Tr.szs : List Tr → Nat
  | [] => 0
  | t :: r => t.sz + Tr.szs r
end
mutual
def Tr.dep : Tr → Nat
  | .lf _ => 0
  | .ow _ => 0
  | .ls l => Tr.deps l + 1
  | .tp l => Tr.deps l + 1
def Tr.deps : List Tr → Nat
  | [] => 0
  | t :: r => max t.dep (Tr.deps r)
end
/-- a value that is no object, and its text -/
def Lf : V → Str → Prop
  | .non, t => t = "None"
  | .bl true, t => t = "True"
  | .bl false, t => t = "False"
  | .int i, t => i.natAbs.log2 < 1920 ∧ t = (toString i : String)
  | .str x, t => t = reprText x
  | _, _ => False
mutual
def Sh (K : PySem.W.Frag) (O : Addr → Hp → Str → Prop) (H : Hp) : Tr → V → Prop
  | .lf t, v => Lf v t
  | .ow t, v => ∃ a, v = .ref a ∧ O a H t
  | .ls l, v => ∃ a xs, v = .ref a ∧ SqL K H a xs ∧ Shs K O H l xs
  | .tp l, v => ∃ a xs, v = .ref a ∧ SqT K H a xs ∧ Shs K O H l xs
def Shs (K : PySem.W.Frag) (O : Addr → Hp → Str → Prop) (H : Hp) : List Tr → List V → Prop
  | [], xs => xs = []
  | t :: ts, xs => ∃ x r, xs = x :: r ∧ Sh K O H t x ∧ Shs K O H ts r
end
section
variable {K : PySem.W.Frag} {O : Addr → Hp → Str → Prop} {H H' : Hp}
theorem texts_map : ∀ l : List Tr, Tr.texts l = l.map Tr.text
  | [] => rfl
  | t :: r => by simp only [Tr.texts, List.map_cons, texts_map r]
theorem texts_len (l : List Tr) : (Tr.texts l).length = l.length := by rw [texts_map, List.length_map]
theorem texts_get {l : List Tr} {i : Nat} {T : Tr} (h : l[i]? = some T) : (Tr.texts l)[i]? = some T.text := by rw [texts_map, List.getElem?_map, h]; rfl
theorem sz_le : ∀ {l : List Tr} {T : Tr}, T ∈ l → T.sz ≤ Tr.szs l
  | t :: r, T, h => by
    simp only [Tr.szs]
    rcases List.mem_cons.mp h with e | h
    · rw [e]; omega
    · have := sz_le h; omega
theorem dep_le : ∀ {l : List Tr} {T : Tr}, T ∈ l → T.dep ≤ Tr.deps l
  | t :: r, T, h => by
    simp only [Tr.deps]
    rcases List.mem_cons.mp h with e | h
    · rw [e]; omega
    · have := dep_le h; omega
theorem Shs.get : ∀ {l : List Tr} {xs : List V} {i : Nat} {T : Tr}, Shs K O H l xs → l[i]? = some T → ∃ x, xs[i]? = some x ∧ Sh K O H T x
  | [], _, _, _, _, e => by simp at e
  | t :: r, xs, i, T, h, e => by
    simp only [Shs] at h
    obtain ⟨x, q, rfl, h1, h2⟩ := h
    cases i with
    | zero => simp at e; subst e; exact ⟨x, rfl, h1⟩
    | succ i =>
      obtain ⟨y, e1, e2⟩ := Shs.get h2 (i := i) (by simpa using e)
      exact ⟨y, by simpa using e1, e2⟩
theorem Shs.len : ∀ {l : List Tr} {xs : List V}, Shs K O H l xs → xs.length = l.length
  | [], _, h => by simp only [Shs] at h; rw [h]; rfl
  | t :: r, xs, h => by
    simp only [Shs] at h
    obtain ⟨x, q, rfl, h1, h2⟩ := h
    simp only [List.length_cons, Shs.len h2]
mutual
theorem Sh.same (hO : ∀ a t, O a H t → O a H' t) (e : Same H H') : ∀ (T : Tr) (v : V), Sh K O H T v → Sh K O H' T v
  | .lf _, _, h => by simp only [Sh] at h ⊢; exact h
  | .ow _, _, h => by simp only [Sh] at h ⊢; obtain ⟨a, q, o⟩ := h; exact ⟨a, q, hO _ _ o⟩
  | .ls l, _, h => by simp only [Sh] at h ⊢; obtain ⟨a, xs, q, o, z⟩ := h; exact ⟨a, xs, q, e.seq o, Shs.same hO e l xs z⟩
  | .tp l, _, h => by simp only [Sh] at h ⊢; obtain ⟨a, xs, q, o, z⟩ := h; exact ⟨a, xs, q, SqT.ext o e, Shs.same hO e l xs z⟩
theorem Shs.same (hO : ∀ a t, O a H t → O a H' t) (e : Same H H') : ∀ (l : List Tr) (xs : List V), Shs K O H l xs → Shs K O H' l xs
  | [], _, h => by simp only [Shs] at h ⊢; exact h
  | t :: r, _, h => by simp only [Shs] at h ⊢; obtain ⟨x, q, w, h1, h2⟩ := h; exact ⟨x, q, w, Sh.same hO e t x h1, Shs.same hO e r q h2⟩
end
end
/-- what is asked of the texts of other objects: they stay while what is known stays, and are those of instances or dicts -/
structure OwnT (O : Addr → Hp → Str → Prop) : Prop where
  mono : ∀ a H H' t, Same H H' → O a H t → O a H' t
  ins : ∀ a H t, O a H t → (∃ C dx fs, H a = some (.ins C dx fs)) ∨ ∃ kvs, H a = some (.dK kvs)
section
variable {X : Cx} {O : Addr → Hp → Str → Prop} {pins : List (Addr × Obj)} {σ : L2.St} {H : Hp} {s : Shared}
theorem at_list (I : Inv X pins σ H s) {a : Addr} {xs : List V} (h : SqL X.K H a xs) : ∃ (its : List Value) (o : Obj) (n : Nat), Vals xs its ∧ s.heap.get? a = some o ∧ o.cls = .type "list" ∧ o.data = .seq its.toArray n := by
  obtain ⟨its, r, ⟨o, n, e, c, _, d⟩, _⟩ := I.list h
  exact ⟨its, o, n, r, e, c, d⟩
theorem at_tup (I : Inv X pins σ H s) {a : Addr} {xs : List V} (h : SqT X.K H a xs) : ∃ (its : List Value) (o : Obj) (n : Nat), Vals xs its ∧ s.heap.get? a = some o ∧ o.cls = .type "tuple" ∧ o.data = .seq its.toArray n := by
  rcases h with h | ⟨o, its, n, hk, hc, hd, hs, r⟩
  · obtain ⟨_, its, r, o, e, c, n, d⟩ := h.ok I.hok
    exact ⟨its, o, n, r, e, c, d⟩
  · exact ⟨its.toList, o, n, r, I.kIn a o hk, hc, by simpa using hd⟩
theorem cls_list (I : Inv X pins σ H s) {a : Addr} {xs : List V} (h : SqL X.K H a xs) : ∃ o, s.heap.get? a = some o ∧ o.cls = .type "list" :=
  let ⟨_, o, _, _, e, c, _⟩ := at_list I h
  ⟨o, e, c⟩
theorem cls_tup (I : Inv X pins σ H s) {a : Addr} {xs : List V} (h : SqT X.K H a xs) : ∃ o, s.heap.get? a = some o ∧ o.cls = .type "tuple" :=
  let ⟨_, o, _, _, e, c, _⟩ := at_tup I h
  ⟨o, e, c⟩
theorem cls_own (I : Inv X pins σ H s) (hO : OwnT O) {a : Addr} {t : Str} (h : O a H t) : ∃ o, s.heap.get? a = some o ∧ o.cls ≠ .type "list" ∧ o.cls ≠ .type "tuple" := by
  rcases hO.ins _ _ _ h with ⟨C, dx, fs, e⟩ | ⟨kvs, e⟩
  · obtain ⟨_, _, _, g, _⟩ := I.hok a _ e
    exact ⟨_, g, by simp [PySem.W.instObj], by simp [PySem.W.instObj]⟩
  · obtain ⟨_, _, _, _, o, _, _, g, h2, _⟩ := dk_of I.hok e
    exact ⟨o, g, by rw [h2.1]; decide, by rw [h2.1]; decide⟩
theorem list_one (I : Inv X pins σ H s) {a : Addr} {xs ys : List V} (h : SqL X.K H a xs) (h' : SqL X.K H a ys) : xs = ys := by
  obtain ⟨its, o, n, r, e, _, d⟩ := at_list I h
  obtain ⟨its', o', n', r', e', _, d'⟩ := at_list I h'
  rw [e] at e'
  cases e'
  rw [d] at d'
  cases d'
  exact r.inj r'
theorem tup_one (I : Inv X pins σ H s) {a : Addr} {xs ys : List V} (h : SqT X.K H a xs) (h' : SqT X.K H a ys) : xs = ys := by
  obtain ⟨its, o, n, r, e, _, d⟩ := at_tup I h
  obtain ⟨its', o', n', r', e', _, d'⟩ := at_tup I h'
  rw [e] at e'
  cases e'
  rw [d] at d'
  cases d'
  exact r.inj r'
theorem apartC {h : Heap} {a : Addr} {c d : Value} (h1 : ∃ o, h.get? a = some o ∧ o.cls = c) (h2 : ∃ o, h.get? a = some o ∧ o.cls = d) : c = d := by
  obtain ⟨o, e, z⟩ := h1
  obtain ⟨o', e', z'⟩ := h2
  rw [e] at e'
  cases e'
  rw [← z, ← z']
mutual
theorem sz_one (I : Inv X pins σ H s) (hO : OwnT O) : ∀ (T T' : Tr) (v : V), Sh X.K O H T v → Sh X.K O H T' v → T.sz = T'.sz
  | .lf _, .lf _, _, _, _ => by simp only [Tr.sz]
  | .lf _, .ow _, _, _, _ => by simp only [Tr.sz]
  | .ow _, .lf _, _, _, _ => by simp only [Tr.sz]
  | .ow _, .ow _, _, _, _ => by simp only [Tr.sz]
  | .lf _, .ls _, _, h, h' => by simp only [Sh] at h h'; obtain ⟨a, xs, rfl, _⟩ := h'; exact h.elim
  | .lf _, .tp _, _, h, h' => by simp only [Sh] at h h'; obtain ⟨a, xs, rfl, _⟩ := h'; exact h.elim
  | .ls _, .lf _, _, h', h => by simp only [Sh] at h h'; obtain ⟨a, xs, rfl, _⟩ := h'; exact h.elim
  | .tp _, .lf _, _, h', h => by simp only [Sh] at h h'; obtain ⟨a, xs, rfl, _⟩ := h'; exact h.elim
  | .ow _, .ls _, _, h, h' => by
    simp only [Sh] at h h'
    obtain ⟨a, rfl, o⟩ := h
    obtain ⟨b, xs, e, q, _⟩ := h'
    cases e
    obtain ⟨o1, e1, c1, c2⟩ := cls_own I hO o
    exact absurd (apartC ⟨o1, e1, rfl⟩ (cls_list I q)) c1
  | .ow _, .tp _, _, h, h' => by
    simp only [Sh] at h h'
    obtain ⟨a, rfl, o⟩ := h
    obtain ⟨b, xs, e, q, _⟩ := h'
    cases e
    obtain ⟨o1, e1, c1, c2⟩ := cls_own I hO o
    exact absurd (apartC ⟨o1, e1, rfl⟩ (cls_tup I q)) c2
  | .ls _, .ow _, _, h', h => by
    simp only [Sh] at h h'
    obtain ⟨a, rfl, o⟩ := h
    obtain ⟨b, xs, e, q, _⟩ := h'
    cases e
    obtain ⟨o1, e1, c1, c2⟩ := cls_own I hO o
    exact absurd (apartC ⟨o1, e1, rfl⟩ (cls_list I q)) c1
  | .tp _, .ow _, _, h', h => by
    simp only [Sh] at h h'
    obtain ⟨a, rfl, o⟩ := h
    obtain ⟨b, xs, e, q, _⟩ := h'
    cases e
    obtain ⟨o1, e1, c1, c2⟩ := cls_own I hO o
    exact absurd (apartC ⟨o1, e1, rfl⟩ (cls_tup I q)) c2
  | .ls _, .tp _, _, h, h' => by
    simp only [Sh] at h h'
    obtain ⟨a, xs, rfl, o, _⟩ := h
    obtain ⟨b, ys, e, q, _⟩ := h'
    cases e
    exact absurd (apartC (cls_list I o) (cls_tup I q)) (by simp)
  | .tp _, .ls _, _, h', h => by
    simp only [Sh] at h h'
    obtain ⟨a, xs, rfl, o, _⟩ := h
    obtain ⟨b, ys, e, q, _⟩ := h'
    cases e
    exact absurd (apartC (cls_list I o) (cls_tup I q)) (by simp)
  | .ls l, .ls l', _, h, h' => by
    simp only [Sh] at h h'
    obtain ⟨a, xs, rfl, o, z⟩ := h
    obtain ⟨b, ys, e, q, z'⟩ := h'
    cases e
    have := list_one I o q
    subst this
    simp only [Tr.sz, szs_one I hO l l' xs z z']
  | .tp l, .tp l', _, h, h' => by
    simp only [Sh] at h h'
    obtain ⟨a, xs, rfl, o, z⟩ := h
    obtain ⟨b, ys, e, q, z'⟩ := h'
    cases e
    have := tup_one I o q
    subst this
    simp only [Tr.sz, szs_one I hO l l' xs z z']
theorem szs_one (I : Inv X pins σ H s) (hO : OwnT O) : ∀ (l l' : List Tr) (xs : List V), Shs X.K O H l xs → Shs X.K O H l' xs → Tr.szs l = Tr.szs l'
  | [], [], _, _, _ => rfl
  | [], _ :: _, _, h, h' => by
    simp only [Shs] at h h'
    obtain ⟨x, r, e, _⟩ := h'
    rw [h] at e
    cases e
  | _ :: _, [], _, h', h => by
    simp only [Shs] at h h'
    obtain ⟨x, r, e, _⟩ := h'
    rw [h] at e
    cases e
  | t :: l, t' :: l', _, h, h' => by
    simp only [Shs] at h h'
    obtain ⟨x, r, rfl, h1, h2⟩ := h
    obtain ⟨y, q, e, h3, h4⟩ := h'
    cases e
    simp only [Tr.szs, sz_one I hO t t' x h1 h3, szs_one I hO l l' r h2 h4]
end
end
end Lb

set_option Elab.async false
set_option linter.all false
set_option maxRecDepth 100000
set_option maxHeartbeats 4000000
/-! .. how it runs -/
namespace Lb
open PySem PySem.Spec PyProof.Rows L2
open PySem.Builtin
/-- where a repr runs: within m others -/
structure AtR (X : Cx) (A : Around) (g : List Code) (m : Nat) : Prop where
  gd : A.guards = some g
  fr : A.frames = X.A.frames
  hd : A.handled = X.A.handled
  dp : A.depth ≤ X.A.depth + m
  un : A.units ≤ X.A.units + m
theorem AtR.loop {X : Cx} {A : Around} {g : List Code} {m : Nat} (h : AtR X A g m) (args : Args) : AtR X (A.under (.builtin "list.__repr__.loop" args)) (.builtin "list.__repr__.loop" args :: g) (m + 1) := by
  have w1 : (Code.builtin "list.__repr__.loop" args).weight ≤ 1 := by
    simp [Code.weight, Code.isCreation, Code.isGuard, Code.isCaller, Code.frames, Code.isFrame, guardIds]
  have h1 := h.dp
  have h2 := h.un
  refine ⟨guards_under_guard (isGuard_list_loop _) h.gd, ?_, h.hd, ?_, ?_⟩
  · have : (A.under (.builtin "list.__repr__.loop" args)).frames = A.frames := by simp [Around.under, Code.envs, Code.isFrame, pushEnvs]
    rw [this]
    exact h.fr
  · show A.depth + _ ≤ _
    omega
  · rw [units_under_list_loop]
    omega
theorem AtR.tup {X : Cx} {A : Around} {g : List Code} {m : Nat} (h : AtR X A g m) {id : String} {args : Args} (hi : id = "tuple.__repr__" ∨ id = "tuple.__repr__.under") : AtR X (A.under (.builtin id args)) (.builtin id args :: g) (m + 1) := by
  have w1 : (Code.builtin id args).weight ≤ 1 := by
    rcases hi with rfl | rfl <;> simp [Code.weight, Code.isCreation, Code.isGuard, Code.isCaller, Code.frames, Code.isFrame, guardIds]
  have hcg : (Code.builtin id args).isGuard = true := by
    rcases hi with rfl | rfl
    · exact isGuard_tuple_repr _
    · exact isGuard_tuple_repr_under _
  have hcu : (A.under (.builtin id args)).units = A.units + 1 := by
    rcases hi with rfl | rfl
    · exact units_under_tuple_repr _ _
    · exact units_under_tuple_repr_under _ _
  have h1 := h.dp
  have h2 := h.un
  refine ⟨guards_under_guard hcg h.gd, ?_, h.hd, ?_, ?_⟩
  · have : (A.under (.builtin id args)).frames = A.frames := by
      rcases hi with rfl | rfl <;> simp [Around.under, Code.envs, Code.isFrame, pushEnvs]
    rw [this]
    exact h.fr
  · show A.depth + _ ≤ _
    omega
  · rw [hcu]
    omega
/-- what is being shown is greater than n -/
def Above (K : PySem.W.Frag) (O : Addr → Hp → Str → Prop) (H : Hp) (g : List Code) (n : Nat) : Prop :=
  ∀ id v rest kw, Code.builtin id ⟨v :: rest, kw⟩ ∈ g → ∃ c T, v = .ref c ∧ Sh K O H T (.ref c) ∧ n < T.sz
section
variable {X : Cx} {O : Addr → Hp → Str → Prop} {pins : List (Addr × Obj)} {σ : L2.St} {H : Hp} {s : Shared} {D : Nat}
theorem Above.same {K : PySem.W.Frag} {H H' : Hp} {g : List Code} {n : Nat} (hO : OwnT O) (e : Same H H') (h : Above K O H g n) : Above K O H' g n := fun id v rest kw m =>
  let ⟨c, T, q, z, l⟩ := h id v rest kw m
  ⟨c, T, q, Sh.same (fun a t o => hO.mono _ _ _ _ e o) e T _ z, l⟩
theorem Above.le {K : PySem.W.Frag} {H : Hp} {g : List Code} {n k : Nat} (h : Above K O H g n) (l : k ≤ n) : Above K O H g k := fun id v rest kw m =>
  let ⟨c, T, q, z, x⟩ := h id v rest kw m
  ⟨c, T, q, z, by omega⟩
theorem Above.clear {g : List Code} {T : Tr} {b : Addr} (I : Inv X pins σ H s) (hO : OwnT O) (h : Above X.K O H g T.sz) (hT : Sh X.K O H T (.ref b)) : Clear g b := fun id v rest kw m e => by
  obtain ⟨c, T', q, z, l⟩ := h id v rest kw m
  rw [q] at e
  cases e
  have := sz_one I hO T T' _ hT z
  omega
theorem Above.cons {K : PySem.W.Frag} {g : List Code} {n : Nat} {id : String} {a : Addr} {rest : List Value} {kw : List (Str × Value)} {T : Tr} (h : Above K O H g n) (hT : Sh K O H T (.ref a)) (l : n < T.sz) :
    Above K O H (.builtin id ⟨.ref a :: rest, kw⟩ :: g) n := fun id' v rest' kw' m => by
  rcases List.mem_cons.mp m with e | m
  · cases e
    exact ⟨a, T, rfl, hT, l⟩
  · exact h _ _ _ _ m
/-- a tree is shown -/
def RpT (X : Cx) (O : Addr → Hp → Str → Prop) (D : Nat) (T : Tr) : Prop :=
  ∀ (base : Nat) (A : Around) (g : List Code) (m : Nat) (pins : List (Addr × Obj)) (σ : L2.St) (H : Hp) (s : Shared) (x : V) (u : Value) (Q : Str → Shared → Prop), Sh X.K O H T x → base + T.text.length ≤ sizeLine → AtR X A g m → m + T.dep ≤ D →
    Above X.K O H g T.sz → Inv X pins σ H s → RelV x u → (∀ s' H2, Same H H2 → Inv X pins σ H2 s' → Q T.text s') → wpAny (model X.prog X.w) A (pyReprUnder base u) Q X.xe s
theorem strs_of : ∀ {ts : List Str} {its : List Value}, Vals (ts.map V.str) its → ∃ l : List (Str × Tok), its = strValues l ∧ l.map (·.1) = ts
  | [], _, h => by
    cases h
    exact ⟨[], rfl, rfl⟩
  | t :: r, _, h => by
    cases h with
    | cons h1 h2 =>
      obtain ⟨k, rfl⟩ := (show ∃ k, _ = Value.str t k from h1)
      obtain ⟨l, e1, e2⟩ := strs_of h2
      exact ⟨(t, k) :: l, by rw [e1]; rfl, by rw [← e2]; rfl⟩
theorem upd_same_hp {G H : Hp} {P : Addr} {o : HO} (h : Same G H) (hP : G P = none) : Same G (upd H P o) := fun b u e => by
  have : b ≠ P := fun z => by rw [z, hP] at e; cases e
  rw [upd_ne this]
  exact h b u e
theorem loopT {m base : Nat} {a P : Addr} {l : List Tr} {xs : List V} {A : Around} {g : List Code} {G : Hp} {R : Result → Shared → Prop} (hO : OwnT O)
    (hT : ∀ T ∈ l, RpT X O D T) (hA : AtR X A g m) (hd : ∀ T ∈ l, m + 1 + T.dep ≤ D) (hL : SqL X.K G a xs) (hS : Shs X.K O G l xs) (hab : Above X.K O G g (Tr.szs l + 1)) (hP : G P = none)
    (hsz : base + (listText (Tr.texts l)).length ≤ sizeLine) (hE : ∀ e s', X.xe e s' → R (.error e) s') (hR : ∀ H' s' u, Same G H' → Inv X pins σ H' s' → R (.ok (.ret (.str (listText (Tr.texts l)) u))) s') :
    ∀ (k i : Nat) (s : Shared) (H : Hp), l.length - i = k → i ≤ l.length → Same G H → H P = some (.lst (((Tr.texts l).take i).map V.str)) → Inv X pins σ H s →
    codeAny (model X.prog X.w) A (.builtin "list.__repr__.loop" ⟨[.ref a, rawInt i, .ref P, rawInt ((base + piled ((Tr.texts l).take i) : Nat) : Int)], []⟩) R s := by
  have hX : (listText (Tr.texts l)).length = (textFrom 0 "[" (Tr.texts l)).length + 1 := by
    show (textFrom 0 "[" (Tr.texts l) ++ "]").length = _
    rw [strLen_append]; rfl
  have hLn := textFrom_len (Tr.texts l) 0 "["
  have hln := texts_len l
  have hsz1 : l.length ≤ sizeLine := by
    have h1 := hLn.1
    rw [if_neg (Nat.lt_irrefl 0), hln] at h1
    omega
  have hsz2 : ∀ t ∈ Tr.texts l, t.length ≤ sizeLine := fun t ht => by
    have h2 := hLn.2.1 t ht
    omega
  have hsz3 : (listText (Tr.texts l)).length ≤ sizeLine := by omega
  have hp3 := piled_le_listText (Tr.texts l)
  have hSl := hS.len
  have hShT : Sh X.K O G (.ls l) (.ref a) := by
    simp only [Sh]
    exact ⟨a, xs, rfl, hL, hS⟩
  intro k
  induction k with
  | zero =>
    intro i s H hk hi e hPl I
    have hin : i = l.length := by omega
    obtain ⟨its, o, n, r, ea, _, da⟩ := at_list I (e.seq hL)
    obtain ⟨_, pts, pn, pr, _, ep⟩ := I.lstM hPl
    refine codeAny_builtin F.entry_list_repr_loop ?_
    show wpAny _ _ («list.__repr__.loop» ⟨[.ref a, .int i 0, .ref P, .int ((base + piled ((Tr.texts l).take i) : Nat) : Int) 0], []⟩) _ _ s
    rw [repr_loop_tree]
    refine wpAny_bind (wpAny_listItems ea da ?_)
    have hnone : its.toArray[(i : Int).toNat]? = none := by
      have := r.length
      simp only [Int.toNat_natCast, List.getElem?_toArray]
      exact List.getElem?_eq_none_iff.mpr (by omega)
    simp only [hnone]
    unfold reprEnd
    refine wpAny_bind (wpAny_listItems ep rfl ?_)
    obtain ⟨done, rfl, hdone⟩ := strs_of pr
    rw [List.toList_toArray, repr_fold]
    refine wpAny_bind (wpAny_pure ?_)
    have hall : done.map (·.1) = Tr.texts l := by rw [hdone, hin, ← hln, List.take_length]
    rw [hall]
    exact wpAny_bind (wpAny_mkStr (wpAny_pure (hR H _ _ e (I.tok _))) hsz3)
  | succ k ih =>
    intro i s H hk hi e hPl I
    have hlt : i < l.length := by omega
    have hget : l[i]? = some l[i] := by simp [hlt]
    obtain ⟨x, hx, hshx⟩ := hS.get hget
    have ht := texts_get hget
    have hp1 := piled_take_succ ht
    have hp2 := piled_take_le (Tr.texts l) (i + 1)
    have hmem : l[i] ∈ l := List.getElem_mem hlt
    obtain ⟨its, o, n, r, ea, _, da⟩ := at_list I (e.seq hL)
    obtain ⟨u, hu, ru⟩ := r.get hx
    refine codeAny_builtin F.entry_list_repr_loop ?_
    show wpAny _ _ («list.__repr__.loop» ⟨[.ref a, .int i 0, .ref P, .int ((base + piled ((Tr.texts l).take i) : Nat) : Int) 0], []⟩) _ _ s
    rw [repr_loop_tree]
    refine wpAny_bind (wpAny_listItems ea da ?_)
    have hsome : its.toArray[(i : Int).toNat]? = some u := by
      simp only [Int.toNat_natCast, List.getElem?_toArray]
      exact hu
    simp only [hsome]
    rw [Int.toNat_natCast]
    have hszT := sz_le hmem
    have mono : ∀ b t, O b G t → O b H t := fun b t z => hO.mono _ _ _ _ e z
    refine wpAny_bind (wpAny_holding (wpAny_mono (hT _ hmem (base + piled ((Tr.texts l).take i) + 1) _ _ (m + 1) pins σ H s x u _ (Sh.same mono e _ _ hshx) (by omega) (hA.loop _) (by have := hd _ hmem; omega)
      (((hab.le (by omega)).same hO e).cons (Sh.same mono e _ _ hShT) (by simp only [Tr.sz]; omega)) I ru fun s' H2 e2 I2 => ?_) (fun _ _ z => z) fun _ _ z => hE _ _ z))
    refine wpAny_bind (wpAny_mkStr ?_ (hsz2 _ (List.mem_of_getElem? ht)))
    refine wpAny_bind ?_
    show wpAny _ _ (updateSeq P _) _ _ _
    have hP2 := e2 _ _ hPl
    obtain ⟨zz, pts, pn, pr, pl, ep⟩ := I2.lstM hP2
    rw [List.length_map] at zz pl
    refine wpAny_updateSeq ep rfl (wpAny_pure ⟨F.quiet_list_repr_loop _, ?_⟩) (by simp only [List.size_toArray]; omega)
    have e1 : ((i : Int) + 1) = ((i + 1 : Nat) : Int) := by omega
    have e3 : base + piled ((Tr.texts l).take i) + ((l[i]).text.length + 2) = base + piled ((Tr.texts l).take (i + 1)) := by omega
    rw [e1, e3]
    have htk : (Tr.texts l).take (i + 1) = (Tr.texts l).take i ++ [(l[i]).text] := by simp [List.take_add_one, ht]
    refine ih (i + 1) _ (upd H2 P (.lst (((Tr.texts l).take (i + 1)).map V.str))) (by omega) hlt (upd_same_hp (e.trans e2) hP) upd_same ?_
    refine I2.lset hP2 ep (its' := pts ++ [.str (l[i]).text s'.toks]) (by simp) ?_ ?_
    · rw [htk, List.map_append]
      exact pr.append (.cons ⟨_, rfl⟩ .nil)
    · rw [List.length_map, List.length_take]
      omega
end
end Lb

set_option Elab.async false
set_option linter.all false
set_option maxRecDepth 100000
set_option maxHeartbeats 4000000
/-! .. the whole, and repr(x) of it -/
namespace Lb
open PySem PySem.Spec PyProof.Rows L2
open PySem.Builtin
section
variable {X : Cx} {O : Addr → Hp → Str → Prop} {pins : List (Addr × Obj)} {σ : L2.St} {H : Hp} {s : Shared} {D : Nat}
/-- the body of list.__repr__, the list not empty -/
theorem bodyL {m base : Nat} {a : Addr} {t0 : Tr} {l0 : List Tr} {xs : List V} {A : Around} {g : List Code} {R : Result → Shared → Prop} (hO : OwnT O)
    (hT : ∀ T ∈ t0 :: l0, RpT X O D T) (hA : AtR X A g m) (hd : ∀ T ∈ t0 :: l0, m + 1 + T.dep ≤ D) (hL : SqL X.K H a xs) (hS : Shs X.K O H (t0 :: l0) xs) (hab : Above X.K O H g (Tr.ls (t0 :: l0)).sz)
    (hsz : base + (listText (Tr.texts (t0 :: l0))).length ≤ sizeLine) (I : Inv X pins σ H s) (hE : ∀ e s', X.xe e s' → R (.error e) s')
    (hR : ∀ H' s' u, Same H H' → Inv X pins σ H' s' → R (.ok (.ret (.str (listText (Tr.texts (t0 :: l0))) u))) s') :
    wpAny (model X.prog X.w) A.in1 (Builtin.listReprAt base ⟨[.ref a], []⟩) (fun fin s' => match fin with | .done f => R (.ok f) s' | .again c' => c'.quiet = true ∧ codeAny (model X.prog X.w) A c' R s') (fun e s' => R (.error e) s') s := by
  have hSh : Sh X.K O H (.ls (t0 :: l0)) (.ref a) := by
    simp only [Sh]
    exact ⟨a, xs, rfl, hL, hS⟩
  have hcl := hab.clear I hO hSh
  obtain ⟨its, o, n, r, ea, _, da⟩ := at_list I hL
  have ln := hS.len
  have ln2 := r.length
  cases its with
  | nil =>
    rw [ln] at ln2
    simp at ln2
  | cons u us =>
    refine wpAny_list_repr_head (A := A.in1) hA.gd (fun v rest kw hm => listSameRef_of_ne (hcl _ _ _ _ hm)) ea da ?_
    refine wpAny_bind (m := newList []) (wpAny_newObj_type ?_)
    refine wpAny_pure ⟨F.quiet_list_repr_loop _, ?_⟩
    have I2 := I.lnew (its := []) (ys := []) (t' := s.toks) .nil (by simp)
    exact loopT hO hT hA hd hL hS (hab.le (by simp only [Tr.sz]; omega)) I.fresh hsz hE hR _ 0 _ _ rfl (Nat.zero_le _) (upd_same_hp (Same.refl H) I.fresh) upd_same I2
theorem tupT {m : Nat} {A : Around} {g : List Code} {Y : Hp} (hO : OwnT O) (hA : AtR X A g m) (hab0 : ∀ T', Tr.sz T' ≤ Tr.sz T' ) : ∀ (l : List Tr) (us : List Value) (xs : List V) (acc : Array Str) (n : Nat) (s : Shared) (H : Hp) (Q : (Array Str × Nat) → Shared → Prop),
    (∀ T ∈ l, RpT X O D T) → (∀ T ∈ l, m + T.dep ≤ D) → (∀ T ∈ l, Above X.K O H g T.sz) → Shs X.K O H l xs → Vals xs us → n + piled (Tr.texts l) ≤ sizeLine → Inv X pins σ H s →
    (∀ s' H2, Same H H2 → Inv X pins σ H2 s' → Q ⟨acc ++ (Tr.texts l).toArray, n + piled (Tr.texts l)⟩ s') → wpAny (model X.prog X.w) A (forIn us (⟨acc, n⟩ : (Array Str × Nat)) tupBody) Q X.xe s := by
  intro l
  induction l with
  | nil =>
    intro us xs acc n s H Q hT hd hab hS r hn I h
    simp only [Shs] at hS
    subst hS
    cases r
    have h0 := h s H (Same.refl H) I
    simp only [List.forIn_nil]
    exact wpAny_pure (by simpa [piled, Tr.texts] using h0)
  | cons T l ih =>
    intro us xs acc n s H Q hT hd hab hS r hn I h
    simp only [Shs] at hS
    obtain ⟨x, xs', rfl, hx, hxs⟩ := hS
    cases r with
    | @cons _ u _ us' ru rus =>
      simp only [Tr.texts] at hn h
      rw [piled_cons] at hn
      rw [List.forIn_cons]
      refine wpAny_bind (wpAny_bind (hT T List.mem_cons_self (n + 1) A g m pins σ H s x u _ hx (by omega) hA (hd T List.mem_cons_self) (hab T List.mem_cons_self) I ru fun s1 H1 e1 I1 => wpAny_pure ?_))
      refine ih us' xs' (acc.push T.text) (n + (T.text.length + 2)) s1 H1 Q (fun T' m' => hT T' (List.mem_cons_of_mem _ m')) (fun T' m' => hd T' (List.mem_cons_of_mem _ m')) (fun T' m' => (hab T' (List.mem_cons_of_mem _ m')).same hO e1) (Shs.same (fun a t z => hO.mono _ _ _ _ e1 z) e1 _ _ hxs) rus (by omega) I1 fun s2 H2 e2 I2 => ?_
      have h1 := h s2 H2 (e1.trans e2) I2
      have e : n + piled (T.text :: Tr.texts l) = n + (T.text.length + 2) + piled (Tr.texts l) := by rw [piled_cons]; omega
      rw [e] at h1
      simpa using h1
/-- the body of tuple.__repr__ -/
theorem bodyT {m base : Nat} {a : Addr} {l : List Tr} {xs : List V} {A : Around} {g : List Code} {R : Result → Shared → Prop} {id : String} {rest : List Value} (hi : id = "tuple.__repr__" ∨ id = "tuple.__repr__.under") (hO : OwnT O)
    (hT : ∀ T ∈ l, RpT X O D T) (hA : AtR X A g m) (hd : ∀ T ∈ l, m + 1 + T.dep ≤ D) (hL : SqT X.K H a xs) (hS : Shs X.K O H l xs) (hab : Above X.K O H g (Tr.tp l).sz)
    (hsz : base + (tupleText (Tr.texts l)).length ≤ sizeLine) (I : Inv X pins σ H s) (hE : ∀ e s', X.xe e s' → R (.error e) s')
    (hR : ∀ H' s' u, Same H H' → Inv X pins σ H' s' → R (.ok (.ret (.str (tupleText (Tr.texts l)) u))) s') :
    wpOwn (model X.prog X.w) A (.builtin id ⟨.ref a :: rest, []⟩) (Builtin.tupleReprAt base ⟨[.ref a], []⟩) (fun fin s' => match fin with | .done f => R (.ok f) s' | .again c' => c'.quiet = true ∧ codeAny (model X.prog X.w) A c' R s') (fun e s' => R (.error e) s') s := by
  have hSh : Sh X.K O H (.tp l) (.ref a) := by
    simp only [Sh]
    exact ⟨a, xs, rfl, hL, hS⟩
  have hcl := hab.clear I hO hSh
  obtain ⟨its, o, n, r, ea, _, da⟩ := at_tup I hL
  have ln := hS.len
  have ln2 := r.length
  have ln3 := texts_len l
  have hlen : (Tr.texts l).length = its.length := by omega
  have hp := piled_le_tupleText (Tr.texts l)
  have hsz0 : (tupleText (Tr.texts l)).length ≤ sizeLine := by omega
  rw [tuple_repr_tree, tupleReprUnderWay_eq]
  refine wpOwn_bind (wpOwn_stackTailAny hA.gd (tupGuardF_off _) (tupGuardF_pos _) ?_)
  have hn : (g.any fun c => tupGuardF (.ref a) (c, default)) = false := by
    rw [List.any_eq_false]
    intro c hcm
    rw [tupGuardF_of_clear hcl c hcm]
    exact Bool.false_ne_true
  rw [hn]
  refine wpOwn_of_wpAny ?_
  show wpAny _ _ (tupleReprRest base (.ref a)) _ _ s
  unfold tupleReprRest Builtin.Tuple.tupleItemsOf
  refine wpAny_bind (wpAny_bind (wpAny_seqItems ea da (wpAny_pure ?_)))
  rw [← Array.forIn_toList, List.toList_toArray]
  refine wpAny_bind (wpAny_mono (tupT (m := m + 1) (Y := H) hO (hA.tup hi) (fun _ => Nat.le_refl _) l its xs _ _ s H _ hT hd (fun T hm => (hab.le (by have := sz_le hm; simp only [Tr.sz]; omega)).cons hSh (by have := sz_le hm; simp only [Tr.sz]; omega)) hS r (by omega) I fun s' H2 e2 I2 => ?_) (fun _ _ z => z) fun _ _ z => hE _ _ z)
  refine wpAny_bind (wpAny_mkStr (wpAny_pure ?_) (by simpa [tupleText, hlen] using hsz0))
  have h1 := hR H2 _ s'.toks e2 (I2.tok (s'.toks + 1))
  simpa [tupleText, hlen] using h1
theorem rp_leaf {t : Str} : RpT X O D (.lf t) := by
  intro base A g m pins σ H s x u Q hS hz hA hd hab I r hQ
  simp only [Sh] at hS
  simp only [Tr.text] at hz hQ
  cases x with
  | non =>
    cases (show u = Value.none from r)
    rw [show t = ("None" : Str) from hS] at hz hQ
    exact ReprIs.none base hz A _ s Q fun tk => hQ _ H (Same.refl H) (I.tok tk)
  | bl b =>
    cases (show u = Value.bool b from r)
    cases b with
    | true =>
      rw [show t = ("True" : Str) from hS] at hz hQ
      exact ReprIs.bool (prog := X.prog) (w := X.w) true base hz A _ s Q fun tk => hQ _ H (Same.refl H) (I.tok tk)
    | false =>
      rw [show t = ("False" : Str) from hS] at hz hQ
      exact ReprIs.bool (prog := X.prog) (w := X.w) false base hz A _ s Q fun tk => hQ _ H (Same.refl H) (I.tok tk)
  | int i =>
    obtain ⟨k, rfl⟩ := (show ∃ k, u = Value.int i k from r)
    obtain ⟨hi, e⟩ := (show i.natAbs.log2 < 1920 ∧ t = (toString i : String) from hS)
    rw [e] at hz hQ
    exact ReprIs.int k hi base hz A _ s Q fun tk => hQ _ H (Same.refl H) (I.tok tk)
  | str y =>
    obtain ⟨k, rfl⟩ := (show ∃ k, u = Value.str y k from r)
    rw [show t = reprText y from hS] at hz hQ
    exact ReprIs.str y k (by omega) base hz A _ s Q fun tk => hQ _ H (Same.refl H) (I.tok tk)
  | byt y => exact hS.elim
  | flt y => exact hS.elim
  | ty y => exact hS.elim
  | ref a => exact hS.elim
theorem rp_list {l : List Tr} (hu : X.A.units + D + 64 < cLine) (hO : OwnT O) (hT : ∀ T ∈ l, RpT X O D T) : RpT X O D (.ls l) := by
  intro base A g m pins σ H s x u Q hS hz hA hd hab I r hQ
  have hS' := hS
  simp only [Sh] at hS
  simp only [Tr.text] at hz hQ
  simp only [Tr.dep] at hd
  obtain ⟨a, xs, rfl, hL, hSs⟩ := hS
  cases (show u = Value.ref a from r)
  obtain ⟨its, o, n, rv, ea, ca, da⟩ := at_list I hL
  have hun := hA.un
  have hTy : s.TypeIs (.ref a) "list" := ⟨o, ea, ca⟩
  refine wpAny_pyReprUnder_ref (by omega) ?_
  cases l with
  | nil =>
    simp only [Shs] at hSs
    subst hSs
    cases rv
    exact wpAny_pyReprObjUnder_list_empty hTy (by omega) ea da ⟨_, _, rfl, hQ _ H (Same.refl H) (I.tok _)⟩
  | cons t0 l0 =>
    refine wpAny_pyReprObjUnder_twin (twin := "list.__repr__.under") hTy F.slot_list_repr.toG rfl (by omega) ?_
    refine call_twin_plain F.plain_list_repr_under F.entry_list_repr_under F.check_list_repr_under hTy F.slot_list_repr.toG (F.args_list_repr_1 _) ?_
    exact bodyL (R := callEnd _ _) hO hT hA (fun T hm => by have := dep_le hm; omega) hL hSs hab hz I (fun e s' z => z) fun H' s' k e I' => ⟨⟨_, _, rfl⟩, _, _, rfl, hQ _ H' e I'⟩
theorem rp_tup {l : List Tr} (hu : X.A.units + D + 64 < cLine) (hO : OwnT O) (hT : ∀ T ∈ l, RpT X O D T) : RpT X O D (.tp l) := by
  intro base A g m pins σ H s x u Q hS hz hA hd hab I r hQ
  simp only [Sh] at hS
  simp only [Tr.text] at hz hQ
  simp only [Tr.dep] at hd
  obtain ⟨a, xs, rfl, hL, hSs⟩ := hS
  cases (show u = Value.ref a from r)
  obtain ⟨its, o, n, rv, ea, ca, da⟩ := at_tup I hL
  have hun := hA.un
  have hTy : s.TypeIs (.ref a) "tuple" := ⟨o, ea, ca⟩
  refine wpAny_pyReprUnder_ref (by omega) ?_
  refine wpAny_pyReprObjUnder_twin (twin := "tuple.__repr__.under") hTy F.slot_tuple_repr rfl (by omega) ?_
  refine call_twin_own (F.quiet_tuple_repr_under _) F.entry_tuple_repr_under F.check_tuple_repr_under hTy F.slot_tuple_repr (F.args_tuple_repr_1 _) ?_
  exact bodyT (R := callEnd _ _) (.inr rfl) hO hT hA (fun T hm => by have := dep_le hm; omega) hL hSs hab hz I (fun e s' z => z) fun H' s' k e I' => ⟨⟨_, _, rfl⟩, _, _, rfl, hQ _ H' e I'⟩
/-- another object is shown -/
def OwR (X : Cx) (D : Nat) (O : Addr → Hp → Str → Prop) : Prop :=
  ∀ (t : Str) (base : Nat) (A : Around) (g : List Code) (m : Nat) (pins : List (Addr × Obj)) (σ : L2.St) (H : Hp) (s : Shared) (a : Addr) (Q : Str → Shared → Prop), O a H t → base + t.length ≤ sizeLine → AtR X A g m → m ≤ D →
    Clear g a → Inv X pins σ H s → (∀ s' H2, Same H H2 → Inv X pins σ H2 s' → Q t s') → wpAny (model X.prog X.w) A (pyReprUnder base (.ref a)) Q X.xe s
theorem OwR.or {O' : Addr → Hp → Str → Prop} (h : OwR X D O) (h' : OwR X D O') : OwR X D (fun a H t => O a H t ∨ O' a H t) :=
  fun t base A g m pins σ H s a Q ho => ho.elim (fun z => h t base A g m pins σ H s a Q z) fun z => h' t base A g m pins σ H s a Q z
theorem OwnT.or {O O' : Addr → Hp → Str → Prop} (h : OwnT O) (h' : OwnT O') : OwnT (fun a H t => O a H t ∨ O' a H t) :=
  ⟨fun a H H' t e z => z.elim (fun z => .inl (h.mono _ _ _ _ e z)) fun z => .inr (h'.mono _ _ _ _ e z), fun a H t z => z.elim (h.ins a H t) (h'.ins a H t)⟩
theorem rp_ow (hO : OwnT O) (h : OwR X D O) (t : Str) : RpT X O D (.ow t) := by
  intro base A g m pins σ H s x u Q hS hz hA hd hab I r hQ
  have hS' := hS
  simp only [Sh] at hS
  simp only [Tr.text] at hz hQ
  obtain ⟨a, rfl, o⟩ := hS
  cases (show u = Value.ref a from r)
  exact h t base A g m pins σ H s a Q o hz hA (by omega) (hab.clear I hO hS') I hQ
mutual
theorem rp (hu : X.A.units + D + 64 < cLine) (hO : OwnT O) (hI : OwR X D O) : ∀ T : Tr, RpT X O D T
  | .lf t => rp_leaf
  | .ow t => rp_ow hO hI t
  | .ls l => rp_list hu hO (rps hu hO hI l)
  | .tp l => rp_tup hu hO (rps hu hO hI l)
theorem rps (hu : X.A.units + D + 64 < cLine) (hO : OwnT O) (hI : OwR X D O) : ∀ l : List Tr, ∀ T ∈ l, RpT X O D T
  | [], _, h => nomatch h
  | t :: r, T, h => by
    rcases List.mem_cons.mp h with e | h
    · rw [e]
      exact rp hu hO hI t
    · exact rps hu hO hI r T h
end
theorem top_list {A : Around} {l : List Tr} {a : Addr} {xs : List V} {Q : Option Value → Shared → Prop} (hu : X.A.units + D + 64 < cLine) (hO : OwnT O) (hT : ∀ T ∈ l, RpT X O D T) (hA : AtR X A [] 1) (hd : Tr.deps l + 2 ≤ D)
    (hL : SqL X.K H a xs) (hS : Shs X.K O H l xs) (hz : (listText (Tr.texts l)).length ≤ sizeLine) (I : Inv X pins σ H s) (hQ : ∀ k s' H2, Same H H2 → Inv X pins σ H2 s' → Q (some (.str (listText (Tr.texts l)) k)) s') :
    wpAny (model X.prog X.w) A (callSpecialIfBound? (.ref a) (Str.ofString "__repr__")) Q X.xe s := by
  obtain ⟨its, o, n, rv, ea, ca, da⟩ := at_list I hL
  have hTy : s.TypeIs (.ref a) "list" := ⟨o, ea, ca⟩
  refine wpAny_callSpecialIfBound?_slot (name := Str.ofString "__repr__") hTy F.slot_list_repr ?_
  cases l with
  | nil =>
    simp only [Shs] at hS
    subst hS
    cases rv
    exact call_list_repr_empty hTy ea da (hQ _ _ H (Same.refl H) (I.tok _))
  | cons t0 l0 =>
    refine wpAny_call (codeAny_call_builtin F.slot_list_repr.plain F.entry_list_repr (F.slot_list_repr.check _ _ _ _ _ _ _ _ hTy (F.args_list_repr_1 _) ?_))
    exact bodyL (base := 0) (R := callEnd _ _) hO hT hA (fun T hm => by have := dep_le hm; omega) hL hS (fun _ _ _ _ z => nomatch z) (by omega) I (fun e s' z => z) fun H' s' k e I' => hQ _ _ H' e I'
theorem top_tup {A : Around} {l : List Tr} {a : Addr} {xs : List V} {Q : Option Value → Shared → Prop} (hu : X.A.units + D + 64 < cLine) (hO : OwnT O) (hT : ∀ T ∈ l, RpT X O D T) (hA : AtR X A [] 1) (hd : Tr.deps l + 2 ≤ D)
    (hL : SqT X.K H a xs) (hS : Shs X.K O H l xs) (hz : (tupleText (Tr.texts l)).length ≤ sizeLine) (I : Inv X pins σ H s) (hQ : ∀ k s' H2, Same H H2 → Inv X pins σ H2 s' → Q (some (.str (tupleText (Tr.texts l)) k)) s') :
    wpAny (model X.prog X.w) A (callSpecialIfBound? (.ref a) (Str.ofString "__repr__")) Q X.xe s := by
  obtain ⟨its, o, n, rv, ea, ca, da⟩ := at_tup I hL
  have hTy : s.TypeIs (.ref a) "tuple" := ⟨o, ea, ca⟩
  refine wpAny_callSpecialIfBound?_slotG (name := Str.ofString "__repr__") hTy F.slot_tuple_repr ?_
  refine wpAny_call (codeAny_call_builtin_own (Code.quiet_builtin _ (by decide +kernel)) F.entry_tuple_repr (F.slot_tuple_repr.check _ _ _ _ _ _ _ _ hTy (F.args_tuple_repr_1 _) ?_))
  exact bodyT (base := 0) (R := callEnd _ _) (.inl rfl) hO hT hA (fun T hm => by have := dep_le hm; omega) hL hS (fun _ _ _ _ z => nomatch z) (by omega) I (fun e s' z => z) fun H' s' k e I' => hQ _ _ H' e I'
/-- repr(x), x a list or a tuple of such -/
def rShow (K : PySem.W.Frag) (O : Addr → Hp → Str → Prop) (D : Nat) : List V → Hp → VK → Prop := fun xs H Q =>
  ∃ x T, xs = [x] ∧ Sh K O H T x ∧ (∃ l, T = .ls l ∨ T = .tp l) ∧ T.text.length ≤ sizeLine ∧ T.dep + 1 ≤ D ∧ ∀ H', Same H H' → Q (.str T.text) H'
theorem call_show {K : PySem.W.Frag} (hK : X.K = K) (hg : X.A.guards = some []) (hu : X.A.units + D + 64 < cLine) (hO : OwnT O) (hI : OwR X D O) : CallR X (.builtin "repr") (rShow K O D) := by
  subst hK
  intro pins s σ H xs us Q I r h
  obtain ⟨x, T, rfl, hS, ⟨l, hk⟩, hz, hd, q⟩ := h
  obtain ⟨u, rfl, ru⟩ := vals1 r
  have hA : AtR X X.A.in1 [] 1 := ⟨hg, rfl, rfl, Nat.le_succ _, Nat.le_refl _⟩
  refine Calls.call_function_entry PySem.F.kind_repr PySem.F.plain_repr PySem.F.entry_repr (PySem.F.args_repr1 _) ?_
  unfold Builtin.«repr»
  refine wpAny_bind (m := oneArg "repr" _) (wpAny_pure ?_)
  refine wpAny_bind (m := cRoomFor _ _) (wpAny_cRoomFor (by show X.A.units + 1 < cLine; omega) ?_)
  rcases hk with rfl | rfl
  · simp only [Sh] at hS
    simp only [Tr.text] at hz q
    simp only [Tr.dep] at hd
    obtain ⟨a, xs, rfl, hL, hSs⟩ := hS
    cases (show u = Value.ref a from ru)
    obtain ⟨its, o, n, rv, ea, ca, da⟩ := at_list I hL
    have hTy : s.TypeIs (.ref a) "list" := ⟨o, ea, ca⟩
    refine wpAny_bind (wpAny_specialOf (name := Str.ofString "__repr__") hTy F.slot_list_repr.lookup ?_)
    refine wpAny_bind (m := callSpecialIfBound? (.ref a) (Str.ofString "__repr__")) (top_list hu hO (rps hu hO hI l) hA (by omega) hL hSs hz I fun k s' H2 e I2 => ?_)
    exact wpAny_bind (wpAny_isInstance (T := "str") (b := true) rfl isSubtype_str_str (wpAny_pure ⟨_, rfl, .str _, H2, I2, ⟨_, rfl⟩, q H2 e⟩))
  · simp only [Sh] at hS
    simp only [Tr.text] at hz q
    simp only [Tr.dep] at hd
    obtain ⟨a, xs, rfl, hL, hSs⟩ := hS
    cases (show u = Value.ref a from ru)
    obtain ⟨its, o, n, rv, ea, ca, da⟩ := at_tup I hL
    have hTy : s.TypeIs (.ref a) "tuple" := ⟨o, ea, ca⟩
    refine wpAny_bind (wpAny_specialOf (name := Str.ofString "__repr__") hTy F.slot_tuple_repr.lookup ?_)
    refine wpAny_bind (m := callSpecialIfBound? (.ref a) (Str.ofString "__repr__")) (top_tup hu hO (rps hu hO hI l) hA (by omega) hL hSs hz I fun k s' H2 e I2 => ?_)
    exact wpAny_bind (wpAny_isInstance (T := "str") (b := true) rfl isSubtype_str_str (wpAny_pure ⟨_, rfl, .str _, H2, I2, ⟨_, rfl⟩, q H2 e⟩))
end
end Lb

set_option Elab.async false
set_option linter.all false
set_option maxRecDepth 100000
set_option maxHeartbeats 4000000
/-! instances of own classes: shown within lists, in f-strings, asked with `in` -/
namespace Lb
open PySem PySem.Spec PyProof.Rows L2
section
variable {X : Cx} {D : Nat} {C g : Addr} {sp : Sp} {E : XK} {CX : CXT} {n : Nat}
theorem ifBoundBy_own {M : Model} {A : Around} {E : Value → Shared → Prop} {s : Shared} {K : PySem.W.Frag} {x C f : Addr} {ox : Obj} {od : Option Obj} {base : Nat} {Q : Option Value → Shared → Prop} (X : K.In s.heap) (I : PySem.W.InstAt s.heap x ox C od)
    (hs : PySem.W.findIn K (.ref C) "__repr__" = some (some (.ref f))) (hf : PySem.W.isFn K (.ref f) = true) (h : wpAny M A (call (.ref f) [.ref x]) (fun v => Q (some v)) E s) :
    wpAny M A (callSpecialIfBoundBy? (fun g first => match reprUnder? g, first with
      | some twin, [self] => call twin [self, rawInt base]
      | _, _ => call g (first ++ [])) (.ref x) (Str.ofString "__repr__")) Q E s := by
  simp only [callSpecialIfBoundBy?, bindSpecialIfBound?]
  refine wpAny_holding (wpAny_bind (wpAny_bind (wpAny_bind (I.type.here ((PySem.W.looks_findIn X hs).here ?_)))))
  refine wpAny_bind (wpAny_askSetting (wpAny_ite ?_))
  have fin : wpAny M A (call (.ref f) ([.ref x] ++ []) >>= fun v => pure (some v)) Q E s := wpAny_bind (wpAny_mono h (fun v s' h' => wpAny_pure h') fun _ _ h' => h')
  split
  · exact wpAny_bind ((PySem.W.bind_fn X _ (beq_iff_eq.mp hf)).here (wpAny_pure (by exact fin)))
  · exact wpAny_tryCatch (wpAny_bind ((PySem.W.bind_fn X _ (beq_iff_eq.mp hf)).here (wpAny_pure (by exact fin))))
/-- an instance whose class has __repr__ -/
theorem ow_repr {O : Addr → Hp → Str → Prop} (hs : PySem.W.findIn X.K (.ref C) "__repr__" = some (some (.ref g))) (hf : PySem.W.isFn X.K (.ref g) = true) (F : FnR X.prog X.w X.K X.mg X.base CX n g sp) (hr : Room (n + D) X.A) (hx : Passes CX X E)
    (hO : ∀ a H t, O a H t → (∃ dx fs, H a = some (.ins C dx fs)) ∧ ∀ Q : VK, (∀ H', Same H H' → Q (.str t) H') → sp [.ref a] H Q E) : OwR X D O := by
  intro t base A gs m pins σ H s a Q o hz hA hm hcl I hQ
  obtain ⟨⟨dx, fs, ha⟩, hsp⟩ := hO _ _ _ o
  obtain ⟨od, J⟩ := inst_at I ha
  have h1 := hA.dp
  have h2 := hA.un
  have hr1 := hr.dp
  have hr2 := hr.un
  refine wpAny_pyReprUnder_ref (by omega) ?_
  unfold pyReprObjUnder pyReprObjBy
  refine wpAny_bind (wpAny_cRoomFor (by omega) ?_)
  refine wpAny_bind (wpAny_bind (J.type.here ((PySem.W.looks_findIn I.kIn hs).here ?_)))
  have hrA : Room n A := ⟨by rw [hA.hd]; exact hr.hd, by omega, by omega⟩
  have e0 : Env0 X.prog X.w X.K X.mg X.base A X.stack s H := ⟨by rw [hA.fr]; exact I.env0.frames, I.env0.mod, I.env0.bs, I.env0.bsz, I.env0.funs, I.env0.frf, I.env0.hok, I.env0.bare⟩
  refine wpAny_bind (ifBoundBy_own I.kIn J hs hf ?_)
  refine wpAny_mono (wpAny_call (SlX.run_at (us := [.ref a]) (ws := [.ref a]) (Q := fun v H' => v = .str t ∧ Same H H') F hrA e0 hx I (.cons rfl .nil) (hsp _ fun H' e => ⟨rfl, e⟩))) (fun w s' z => ?_) fun _ _ x => x
  obtain ⟨z', H', I', rz, ez, e⟩ := z
  subst ez
  obtain ⟨k, rfl⟩ := (show ∃ k, w = Value.str t k from rz)
  exact wpAny_bind (wpAny_isInstance (T := "str") (b := true) rfl isSubtype_str_str (wpAny_pure ⟨_, _, rfl, hQ _ H' e I'⟩))
/-- an empty dict -/
def OEmpty : Addr → Hp → Str → Prop := fun a H t => H a = some (.dK []) ∧ t = "{}"
theorem own_empty : OwnT OEmpty := ⟨fun a H H' t e h => ⟨e _ _ h.1, h.2⟩, fun a H t h => .inr ⟨_, h.1⟩⟩
theorem ow_empty (hu : X.A.units + D + 64 < cLine) : OwR X D OEmpty := by
  intro t base A gs m pins σ H s a Q o hz hA hm hcl I hQ
  obtain ⟨e, rfl⟩ := o
  obtain ⟨_, hsm, vs, r, o, es, ep, h1, h2, h3, _, h5, _⟩ := dk_of I.hok e
  cases r
  have he : es = #[] := by
    cases es with
    | mk l =>
      cases (show Pairs _ l [] from h5)
      rfl
  subst he
  have h2' := hA.un
  have hk : ReprK X.prog X.w [a] s.heap 1 (.ref a) (dictText []) := ReprK.dict (d := 0) (as := []) h1 h2.1 h3 hsm (by simp) .nil
  exact hk base hz A gs X.xe s Q hA.gd (fun b hb => by rw [List.mem_singleton.mp hb]; exact hcl) (by omega) (fun _ _ z => z) fun h' tk k => hQ _ H (Same.refl H) (I.kept k)
/-- {x} of an instance whose class has __str__ -/
def tFmtOwn (C : Addr) (sp : Sp) (E : XK) (te : TE) : TE := fun σ H Q => te σ H fun x H1 => ∃ a dx fs, x = .ref a ∧ H1 a = some (.ins C dx fs) ∧ sp [x] H1 (fun z H' => ∃ y, z = .str y ∧ Q (.str y) H') E
theorem pe_fmtOwn {e : Expr} {te : TE} {pos : Pos} (hfm : PySem.W.findIn X.K (.ref C) "__format__" = some (some (.builtin "object.__format__"))) (hm : PySem.W.mroIn X.K C (.type "object") = some true)
    (hs : PySem.W.findIn X.K (.ref C) "__str__" = some (some (.ref g))) (hf : PySem.W.isFn X.K (.ref g) = true) (F : FnR X.prog X.w X.K X.mg X.base CX n g sp) (hr : Room (n + 1) X.A) (hx : Passes CX X E) (he : PE X e te) :
    PE X (.FormattedValue e (-1) none pos) (tFmtOwn C sp E te) := by
  refine ⟨fun pins s σ H Q I h => ?_⟩
  refine wpAny_FormattedValue_plain (thn (he.run pins s σ H _ I h) fun v s1 hv => ?_)
  obtain ⟨x, H1, I1, r1, a, dx, fs, rfl, ha, q⟩ := hv
  cases (show v = Value.ref a from r1)
  obtain ⟨od, J⟩ := inst_at I1 ha
  have hu := hr.un
  refine PySem.W.kfo_fieldS (by show X.A.units + 1 < cLine; omega) I1.kIn J hfm hm hs hf ?_
  refine wpAny_mono (wpAny_call (SlX.run_at (us := [.ref a]) (ws := [.ref a]) F hr.in1 (I1.tok (s1.toks + 1)).env0.in1 hx (I1.tok (s1.toks + 1)) (.cons rfl .nil) q)) (fun w s' z => ?_) fun _ _ x => x
  obtain ⟨z', H', I', rz, y, ez, qz⟩ := z
  subst ez
  obtain ⟨t, rfl⟩ := (show ∃ t, w = Value.str y t from rz)
  exact ⟨.str y, H', I', ⟨t, rfl⟩, qz⟩
/-- {x!r} of an instance whose class has __repr__ -/
def tFmtOwnR (C : Addr) (sp : Sp) (E : XK) (te : TE) : TE := fun σ H Q => te σ H fun x H1 => ∃ a dx fs, x = .ref a ∧ H1 a = some (.ins C dx fs) ∧ sp [x] H1 (fun z H' => ∃ y, z = .str y ∧ y.length ≤ sizeLine ∧ Q (.str y) H') E
theorem pe_fmtOwnR {e : Expr} {te : TE} {pos : Pos} (hs : PySem.W.findIn X.K (.ref C) "__repr__" = some (some (.ref g))) (hf : PySem.W.isFn X.K (.ref g) = true) (F : FnR X.prog X.w X.K X.mg X.base CX n g sp) (hr : Room (n + 1) X.A) (hx : Passes CX X E) (he : PE X e te) :
    PE X (.FormattedValue e 114 none pos) (tFmtOwnR C sp E te) := by
  refine ⟨fun pins s σ H Q I h => ?_⟩
  refine wpAny_FormattedValue_repr (thn (he.run pins s σ H _ I h) fun v s1 hv => ?_)
  obtain ⟨x, H1, I1, r1, a, dx, fs, rfl, ha, q⟩ := hv
  cases (show v = Value.ref a from r1)
  obtain ⟨od, J⟩ := inst_at I1 ha
  have hu := hr.un
  unfold pyReprObj
  refine wpAny_bind (wpAny_cRoomFor (by omega) ?_)
  refine wpAny_bind (wpAny_bind (J.type.here ((PySem.W.looks_findIn I1.kIn hs).here ?_)))
  refine wpAny_bind (m := callSpecialIfBound? (.ref a) (Str.ofString "__repr__")) (PySem.W.ifBound_K I1.kIn J hs hf ?_)
  refine wpAny_mono (wpAny_call (SlX.run_at (us := [.ref a]) (ws := [.ref a]) F (hr.mono (Nat.le_succ _)) I1.env0 hx I1 (.cons rfl .nil) q)) (fun w s' z => ?_) fun _ _ x => x
  obtain ⟨z', H', I', rz, y, ez, hz, qz⟩ := z
  subst ez
  obtain ⟨t, rfl⟩ := (show ∃ t, w = Value.str y t from rz)
  refine wpAny_bind (wpAny_isInstance (T := "str") (b := true) rfl isSubtype_str_str (wpAny_pure ?_))
  exact wpAny_formatField_str ⟨.str y, H', I', ⟨t, rfl⟩, qz⟩ ⟨.str y, H', I'.tok _, ⟨_, rfl⟩, qz⟩ hz
/-- v in x, x an instance whose class has __contains__, which answers True or False -/
def rInOwn (C : Addr) (sp : Sp) (E : XK) : R2 := fun v x H Q => ∃ a dx fs, x = .ref a ∧ H a = some (.ins C dx fs) ∧ sp [x, v] H (fun z H' => ∃ b, z = .bl b ∧ Q (.bl b) H') E
theorem op_inOwn {K : PySem.W.Frag} (hK : X.K = K) (hs : PySem.W.findIn K (.ref C) "__contains__" = some (some (.ref g))) (hf : PySem.W.isFn K (.ref g) = true) (F : FnR X.prog X.w X.K X.mg X.base CX n g sp) (hr : Room n X.A) (hx : Passes CX X E) :
    OpR X (compareOp .In) (rInOwn C sp E) := by
  subst hK
  intro pins s σ H x y v u Q I rx ry h
  obtain ⟨a, dx, fs, rfl, ha, q⟩ := h
  cases (show u = Value.ref a from ry)
  obtain ⟨od, J⟩ := inst_at I ha
  obtain ⟨m, hF⟩ := I.fr
  refine PySem.W.in_K hF I.ok.mod.kin J hs hf ?_
  refine wpAny_mono (wpAny_call (SlX.run_at (us := [.ref a, v]) (ws := [.ref a, x]) F hr I.env0 hx I (.cons rfl (.cons rx .nil)) q)) (fun w s' z => ?_) fun _ _ x => x
  obtain ⟨z', H', I', rz, b, ez, qz⟩ := z
  subst ez
  cases (show w = Value.bool b from rz)
  exact wpAny_truthy_bool ⟨.bl b, H', I', rfl, qz⟩
end
end Lb

set_option Elab.async false
set_option linter.all false
set_option maxRecDepth 100000
set_option maxHeartbeats 4000000
/-! {x!r} of a list, join told with K, repr of an instance whose __repr__ shows data -/
namespace Lb
open PySem PySem.Spec PyProof.Rows L2
section
variable {X : Cx} {O : Addr → Hp → Str → Prop} {D : Nat}
def tFmtShow (K : PySem.W.Frag) (O : Addr → Hp → Str → Prop) (D : Nat) (te : TE) : TE := fun σ H Q => te σ H fun x H1 => ∃ l, Sh K O H1 (.ls l) x ∧ (Tr.text (.ls l)).length ≤ sizeLine ∧ (Tr.ls l).dep + 1 ≤ D ∧ ∀ H', Same H1 H' → Q (.str (Tr.text (.ls l))) H'
theorem pe_fmtShow {K : PySem.W.Frag} {e : Expr} {te : TE} {pos : Pos} (hK : X.K = K) (hg : X.A.guards = some []) (hu : X.A.units + D + 64 < cLine) (hO : OwnT O) (hI : OwR X D O) (he : PE X e te) : PE X (.FormattedValue e 114 none pos) (tFmtShow K O D te) := by
  subst hK
  refine ⟨fun pins s σ H Q I h => ?_⟩
  refine wpAny_FormattedValue_repr (thn (he.run pins s σ H _ I h) fun v s1 hv => ?_)
  obtain ⟨x, H1, I1, r1, l, hS, hz, hd, q⟩ := hv
  simp only [Sh] at hS
  simp only [Tr.text] at hz q
  simp only [Tr.dep] at hd
  obtain ⟨a, xs, rfl, hL, hSs⟩ := hS
  cases (show v = Value.ref a from r1)
  have hA : AtR X X.A [] 1 := ⟨hg, rfl, rfl, Nat.le_succ _, Nat.le_succ _⟩
  obtain ⟨its, o, n, rv, ea, ca, da⟩ := at_list I1 hL
  have hTy : s1.TypeIs (.ref a) "list" := ⟨o, ea, ca⟩
  unfold pyReprObj
  refine wpAny_bind (wpAny_cRoomFor (by omega) ?_)
  refine wpAny_bind (wpAny_specialOf (name := Str.ofString "__repr__") hTy F.slot_list_repr.lookup ?_)
  refine wpAny_bind (m := callSpecialIfBound? (.ref a) (Str.ofString "__repr__")) (top_list hu hO (rps hu hO hI l) hA (by omega) hL hSs hz I1 fun k s' H2 e I2 => ?_)
  refine wpAny_bind (wpAny_isInstance (T := "str") (b := true) rfl isSubtype_str_str (wpAny_pure ?_))
  exact wpAny_formatField_str ⟨.str _, H2, I2, ⟨_, rfl⟩, q H2 e⟩ ⟨.str _, H2, I2.tok _, ⟨_, rfl⟩, q H2 e⟩ hz
theorem pe_joinK {K : PySem.W.Frag} {o e : Expr} {to te : TE} {apos pos : Pos} (hK : X.K = K) (ho : PE X o to) (he : PE X e te) (hs : starEach [e] X.env = [(false, eval e X.env)] := by rfl) (hbase : attributeBase o "join" X.env (eval o X.env) = eval o X.env := by rfl) (hline : (apos.endLine == pos.line) = true := by rfl) :
    PE X (.Call (.Attribute o "join" apos) [e] [] pos) (tM1 (fun x xs H Q => ∃ a p, ∃ ys : List Str, x = .str a ∧ xs = [.ref p] ∧ (SqL K H p (ys.map V.str) ∨ SqT K H p (ys.map V.str)) ∧
      (ys.map (·.length)).sum + ys.length * a.length ≤ 16777216 ∧ Q (.str (Txt.join a ys)) H) to te) := by
  subst hK
  exact pe_join ho he hs hbase hline
theorem call_reprOwnG {C g : Addr} {n : Nat} {fd : FuncData} {sp : Sp} (hs : PySem.W.findIn X.K (.ref C) "__repr__" = some (some (.ref g))) (hf : PySem.W.isFn X.K (.ref g) = true)
    (F : FnG X.prog X.w X.K X.mg X.base CX0 n g fd ["self"] sp) (hb : Binds X.K fd ["self"] []) (gu : X.A.guards = some []) (hr : Room (n + 1) X.A) : CallR X (.builtin "repr") (rOwnTx C sp E0) := by
  intro pins s σ H xs us Q I r h
  obtain ⟨a, dx, fs, rfl, ha, q⟩ := h
  obtain ⟨u, rfl, ru⟩ := vals1 r
  cases (show u = Value.ref a from ru)
  obtain ⟨od, J⟩ := inst_at I ha
  have hu := hr.units
  refine Calls.call_function_entry PySem.F.kind_repr PySem.F.plain_repr PySem.F.entry_repr (PySem.F.args_repr1 _) ?_
  unfold Builtin.«repr»
  refine wpAny_bind (m := oneArg "repr" _) (wpAny_pure ?_)
  refine wpAny_bind (m := cRoomFor _ _) (wpAny_cRoomFor (by show X.A.units + 1 < cLine; omega) ?_)
  refine wpAny_bind (wpAny_bind (J.type.here ((PySem.W.looks_findIn I.kIn hs).here ?_)))
  refine wpAny_bind (m := callSpecialIfBound? (.ref a) (Str.ofString "__repr__")) (PySem.W.ifBound_K I.kIn J hs hf ?_)
  refine wpAny_mono (wpAny_call (codeAny_mono (F.run X.A.in1 X.stack s H ⟨[.ref a], []⟩ [.ref a] [.ref a] _ _ gu hr.in1 I.env0.in1 (hb s [.ref a] I.kIn rfl) (.cons rfl .nil) q) fun r s' hq => ?_)) (fun w s' (z : EP X pins σ (fun z H' => ∃ y, z = V.str y ∧ Q z H') w s') => ?_) fun _ _ x => x
  · cases r with
    | error e => exact False.elim hq
    | ok fl =>
      cases fl with
      | ret u => exact I.after hq
      | next => exact False.elim hq
      | brk => exact False.elim hq
      | cont => exact False.elim hq
  obtain ⟨z', H', I', rz, y, ez, qz⟩ := z
  subst ez
  obtain ⟨t, rfl⟩ := (show ∃ t, w = Value.str y t from rz)
  refine wpAny_bind (wpAny_isInstance (T := "str") (b := true) rfl isSubtype_str_str ?_)
  exact wpAny_pure ⟨_, rfl, .str y, H', I', ⟨t, rfl⟩, qz⟩
end
end Lb

set_option Elab.async false
set_option linter.all false
set_option maxRecDepth 100000
set_option maxHeartbeats 4000000
/-! set(xs) of a list of ints, list(d.values()) -/
namespace Lb
open PySem PySem.Spec PyProof.Rows L2
/-- a set just made -/
def newSetO (w : World) : Obj := ⟨.type "set", none, .set #[] 0 (.fresh 0 0 (!w.params.followText "set-order")), #[]⟩
section
variable {P : Program} {w : World} {A : Around} {E : Value → Shared → Prop} {s : Shared} {Q : Value → Shared → Prop}
/-- a built-in class called: its __new__, then its __init__, each as a code -/
theorem typeCall_by {T nId iId : String} {bi : Builtin} {as : List Value} {R1 : Value → Shared → Prop} (ft : TypeCalled T nId iId) (ok : checkTypeCall T ⟨as, []⟩ = pure ()) (en : entryFor table iId = some bi)
    (mk : codeAny (model P w) A.in1 (.call (.builtin nId) ⟨.type T :: as, []⟩) (wants R1 E) s)
    (nx : ∀ ob t, R1 ob t → t.TypeIs ob T ∧ codeAny (model P w) A.in1 (.call (.builtin iId) ⟨ob :: as, []⟩) (wants (fun r u => r = .none ∧ Q ob u) E) t) : wpAny (model P w) A (call (.type T) as) Q E s := by
  obtain ⟨c0, tl0, isMro⟩ := ft.mro
  have isMade := ft.made
  have isSub := ft.sub
  refine wpAny_call (codeAny_of_tree (show wpAny _ _ (callAny (.type T) _) _ _ _ from ?_))
  refine wpAny_pure ⟨Code.quiet_builtin _ (by decide +kernel), codeAny_builtin PySem.F.entry_type_call ?_⟩
  rw [Around.under_plain (weight_type_call_type T as []) rfl]
  have isNot := ft.notType
  have isCan := ft.canCreate
  repeat (any_goals first | wp_step | assumption)
  refine codeAny_mono mk fun r t hr => ?_
  match r, hr with
  | .error e, hr => exact hr
  | .ok .next, hr => exact hr.elim
  | .ok .brk, hr => exact hr.elim
  | .ok .cont, hr => exact hr.elim
  | .ok (.ret ob), hr =>
    obtain ⟨hT, hi⟩ := nx _ _ hr
    have look := ft.init.lookup
    have bnd := ft.init.bind ob
    repeat (any_goals first | wp_step | assumption)
    refine codeAny_mono hi fun r2 t2 hr2 => ?_
    match r2, hr2 with
    | .error e, hr2 => exact hr2
    | .ok .next, hr2 => exact hr2.elim
    | .ok .brk, hr2 => exact hr2.elim
    | .ok .cont, hr2 => exact hr2.elim
    | .ok (.ret v), hr2 =>
      obtain ⟨rfl, hq⟩ := hr2
      repeat (any_goals first | wp_step | assumption)
variable {l : Addr} {its : Array Value} {ns : List Int}
theorem set_of_list (hA : A.handled = none) (il : s.heap.IsList l its) (ia : IntsAre its.toList ns) (bd : ns.length + 1 < scanBound)
    (fin : ∀ (h2 : Heap) (tk c : Nat), SetR w h2 s.heap.objs.size (fun j => decide (j ∈ ns)) c → c ≤ ns.length → (∀ b o, s.heap.get? b = some o → h2.get? b = some o) → Q (.ref s.heap.objs.size) { s with heap := h2, toks := tk }) :
    wpAny (model P w) A (call (.type "set") [.ref l]) Q E s := by
  have cnt : its.size = ns.length := by
    have q := ia.length
    rw [Array.length_toList] at q
    exact q
  refine typeCall_by (R1 := fun obj s1 => obj = .ref s.heap.objs.size ∧ s1 = { s with heap := s.heap.push (newSetO w) }) F.called_set (F.typeCall_set_1 (.ref l)) F.entry_set_init (code_set_led1 _ ⟨rfl, rfl⟩) fun obj s1 h1 => ?_
  obtain ⟨rfl, rfl⟩ := h1
  have gS : (s.heap.push (newSetO w)).get? s.heap.objs.size = some (newSetO w) := Heap.get?_push_size _ rfl
  have tS : Shared.TypeIs { s with heap := s.heap.push (newSetO w) } (.ref s.heap.objs.size) "set" := ⟨_, gS, rfl⟩
  refine ⟨tS, codeAny_call_builtin F.called_set.init.plain F.entry_set_init (check_set_init_1 tS ?_)⟩
  have il0 := il
  obtain ⟨⟨lc, ld, lda, lsl⟩, gl, hc, nl, hd⟩ := il
  simp only at hc hd
  subst hc
  subst hd
  have gl1 := Heap.get?_push_of_some (newSetO w) gl
  have il1 : (s.heap.push (newSetO w)).IsList l its := ⟨_, gl1, rfl, nl, rfl⟩
  have sub1 := F.sub_list_set
  have sub2 := F.sub_list_frozenset
  have notD : (Value.type "list" == Value.type "dict") = false := by decide
  unfold Builtin.«set.__init__» noKeywords Builtin.Frozenset.updateFrom
  generalize eP : pyIter = PI
  wp_walk
  subst eP
  refine wpAny_pyIter_list il1 (wpAny_bind (wpAny_runValue ?_))
  have lS : l < s.heap.objs.size := Heap.lt_size gl
  have szI : (s.heap.push (newSetO w)).objs.size = s.heap.objs.size + 1 := Heap.size_push ..
  have nI : l ≠ (s.heap.push (newSetO w)).objs.size := by rw [szI]; exact Nat.ne_of_lt (Nat.lt_succ_of_lt lS)
  have nS : s.heap.objs.size ∉ [(s.heap.push (newSetO w)).objs.size, l] := fun m => by
    rw [szI] at m
    rcases List.mem_cons.mp m with e | m
    · exact absurd e (Nat.ne_of_lt (Nat.lt_succ_self _))
    · exact absurd (List.mem_singleton.mp m) (Nat.ne_of_gt lS)
  have val : ∀ (i : Nat) (v : Value), its[i]? = some v → ∃ k t, ns[i]? = some k ∧ v = .int k t := fun i v hv => by
    have hi : i < ns.length := by rw [← cnt]; exact (Array.getElem?_eq_some_iff.mp hv).1
    obtain ⟨t, e⟩ := PyProof.Rows.IntsAre.int_at ia i v (by rw [Array.getElem?_toList]; exact hv)
    have eg : ns[i]? = some ns[i] := List.getElem?_eq_getElem hi
    refine ⟨ns[i], t, eg, ?_⟩
    rw [List.getD_eq_getElem?_getD, eg] at e
    exact e
  refine set_update_ints ((Walks.list (A := A.in1.in1.in1) (by simp [hA]) _ l nI its).toS) s.heap.objs.size nS ns cnt bd val (its.size - 0) 0 _ (by omega) (Nat.zero_le _)
    ⟨⟨_, Heap.get?_push_size _ rfl, rfl, rfl⟩, il1.push _⟩ ⟨0, Nat.le_refl 0, setR_new_at (Heap.get?_push_of_some _ gS)⟩ fun t c mv hc R => ?_
  obtain ⟨h2, g2, d2, tk2, os2⟩ := t
  obtain rfl : g2 = s.gens := mv.gens
  obtain rfl : d2 = s.drawn := mv.drawn
  obtain rfl : os2 = s.os := mv.os
  rw [cnt] at hc
  refine wpAny_pure (wpAny_pure ⟨rfl, fin h2 tk2 c R hc fun b o e => ?_⟩)
  have hb : b < s.heap.objs.size := Heap.lt_size e
  refine mv.heap b o (fun m => ?_) (Heap.get?_push_of_some _ (Heap.get?_push_of_some _ e))
  rw [szI] at m
  rcases List.mem_cons.mp m with z | m
  · exact absurd z (Nat.ne_of_lt hb)
  · exact absurd (List.mem_singleton.mp m) (Nat.ne_of_lt (Nat.lt_succ_of_lt hb))
end
theorem kv_vals {κ : Type} : ∀ {kvs : List (κ × V)} {vs : List (κ × Value)}, KV kvs vs → Vals (kvs.map (·.2)) (vs.map (·.2))
  | _, _, .nil => .nil
  | _, _, .cons h r => .cons h.2 (kv_vals r)
section
variable {X : Cx}
def rSetI (K : PySem.W.Frag) (w : World) : List V → Hp → VK → Prop := fun xs H Q => ∃ (l : Addr) (ns : List Int), xs = [.ref l] ∧ SqL K H l (ns.map V.int) ∧ ns.length ≤ 100 ∧ ∀ p c, H p = none → c ≤ ns.length → Q (.ref p) (upd H p (SetO w p (fun j => decide (j ∈ ns)) c))
theorem call_setI (hc : X.calm = true) : CallR X (.type "set") (rSetI X.K X.w) := by
  intro pins s σ H xs us Q I r h
  obtain ⟨l, ns, rfl, hS, hl, q⟩ := h
  obtain rfl := Vals.ref1 r
  obtain ⟨its, rv, pl, hz⟩ := I.list hS
  have hi := rv.ints
  refine set_of_list (I.ok.hd hc) pl.isList (ns := ns) (by simpa using hi) (by unfold scanBound; omega) fun h2 tk c R hcl kp => ?_
  exact ⟨.ref s.heap.objs.size, _, I.laid (t' := tk) kp (Nat.le_refl _) (setO_new R), rfl, q _ c (I.hok.fresh (Nat.le_refl _)) hcl⟩
def tListVals (te : TE) : TE := fun σ H Q => te σ H fun x H1 => ∃ (d : Addr) (kvs : List (Key × V)), x = .ref d ∧ H1 d = some (.dK kvs) ∧ ∀ p, H1 p = none → Q (.ref p) (upd H1 p (.lst (kvs.map (·.2))))
theorem pe_listVals {e : Expr} {te : TE} {p apos cpos pos : Pos} (hc : X.calm = true) (he : PE X e te) (hg : Gl X "list") (hm : X.mg "list" = none) (hv : bootBuiltins "list" = some (.type "list") := by decide +kernel) (hbase : attributeBase e "values" X.env (eval e X.env) = eval e X.env := by rfl) (hline : (apos.endLine == cpos.line) = true := by rfl)
    (hs : starEach [.Call (.Attribute e "values" apos) [] [] cpos] X.env = (false, eval (.Call (.Attribute e "values" apos) [] [] cpos) X.env) :: starEach [] X.env := by rfl) :
    PE X (.Call (.Name "list" p) [.Call (.Attribute e "values" apos) [] [] cpos] [] pos) (tListVals te) := by
  refine ⟨fun pins s σ H Q I hq => ?_⟩
  refine wpAny_Call_Name_kw (ld_blt I hg hm hv (PyProof.Rows.callWith_type1 ?_ hs rfl))
  rw [hs]
  refine (show wpAny _ _ (spliced ((false, eval (.Call (.Attribute e "values" apos) [] [] cpos) X.env) :: backTo pos (starEach [] X.env))) _ _ s from Calls.spliced_cons ?_)
  refine wpAny_Call_method (T := "dict") (id := "dict.values") hbase rfl hline F.plainAttrs_dict F.slot_dict_values F.type_dict_values (thn (he.run pins s σ H _ I hq) fun u s1 ⟨x, H1, I1, rx, d, kvs, ex, hd, q⟩ => ?_)
  subst ex
  obtain rfl : u = Value.ref d := rx
  obtain ⟨hz, lo, vs, kv, hdo⟩ := I1.hok d _ hd
  obtain ⟨ep, hat⟩ := hdo.dictAt
  have lk : kvs.length = vs.length := Paired.length kv
  refine ⟨hdo.typeIs, hdo.mapOf.noDict, ?_⟩
  show wpAny _ _ (callWith cpos (.builtin "dict.values") [.ref d] [] []) _ X.xe s1
  refine method_meetsIn F.slot_dict_values F.entry_dict_values rfl (PySem.evalArgs_none ⟨rfl, hdo.typeIs, F.args_dict_values_1 _, _, meets_dict_values (mixKind X.prog X.w) d lo, ⟨vs, hdo⟩, ?_⟩)
  refine Calls.spliced_nil ?_
  have I2 : Inv X pins σ H1 { s1 with heap := s1.heap.push ⟨.type "dict_values", none, .fields #[.ref d], #[]⟩ } := I1.kept (t' := s1.toks) fun b o q => Heap.get?_push_of_some _ q
  refine PySem.W.kdl_call (PySem.W.kdl_values (knd := mixKind X.prog X.w) (kvs := vs) (ep := ep)) (I1.ok.hd hc) ⟨⟨_, Heap.get?_push_size _ rfl, rfl, rfl⟩, hat.push _⟩ (by rw [← lk]; exact hz) fun h2 tk acc c keep gS items => ?_
  have nS := I2.hok.fresh (Nat.le_refl _)
  refine ⟨.ref _, upd H1 _ (.lst (kvs.map (·.2))), I2.laid keep (Nat.le_refl _) (show ObjOk X.prog X.w _ _ _ (.lst (kvs.map (·.2))) from ⟨by rw [List.length_map]; exact hz, acc.toList, c, ?_, ?_⟩), rfl, q _ nS⟩
  · have el : acc.toList.length = acc.size := by simp
    rw [PySem.W.kdl_vals_eq (kvs := vs) acc.toList (by rw [el, items.1]) fun j v h2 => items.2 j v (by rw [← Array.getElem?_toList]; exact h2)]
    exact kv_vals kv
  · rw [Array.toArray_toList]; exact gS
end
end Lb

set_option Elab.async false
set_option linter.all false
set_option maxRecDepth 100000
set_option maxHeartbeats 4000000
/-! list(x) of an instance whose `__iter__` gives the iterator of a list of its own, with `__len__` -/
namespace Lb
open PySem PySem.Spec PyProof.Rows L2
theorem sqL_same {K : PySem.W.Frag} {a : Addr} {H H1 : Hp} {xs : List V} (m : Same H H1) (h : SqL K H a xs) : SqL K H1 a xs :=
  h.elim (fun h => .inl (h.elim (fun h => .inl (m _ _ h)) fun ⟨o, h⟩ => .inr ⟨o, m _ _ h⟩)) fun h => .inr h
section
variable {X : Cx} {pins : List (Addr × Obj)} {σ : L2.St} {a C dx g gl l it q : Addr} {fs : List (Str × V)} {fld : Str} {k n : Nat} {fd : FuncData} {xs : List V}
theorem ext_list {A1 : Around} {Rs : Result → Shared → Prop} {H0 : Hp} (hh : A1.in1.handled = none) (hz : xs.length ≤ 10000) (nlq : l ≠ q) (nit : it ≠ q)
    (hdone : ∀ s', Inv X pins σ (upd H0 q (.lst xs)) s' → Rs (.ok (.ret .none)) s') (hS : SqL X.K H0 l xs) (h0 : H0 it = none) :
    ∀ (m i : Nat) (s : Shared), xs.length - i = m → i ≤ xs.length → Inv X pins σ (upd H0 q (.lst (xs.take i))) s → FpOk X pins (upd H0 q (.lst (xs.take i))) it → s.heap.IsListIter it l i →
      codeAny (model X.prog X.w) A1 (.builtin "list.extend.loop" ⟨[.ref q, .ref it, .none], []⟩) Rs s := by
  have sqk : ∀ ys, SqL X.K (upd H0 q (.lst ys)) l xs := fun ys =>
    hS.elim (fun h => .inl (by rcases h with h | ⟨o, h⟩; exact .inl (by rw [upd_ne nlq]; exact h); exact .inr ⟨o, by rw [upd_ne nlq]; exact h⟩)) fun h => .inr h
  intro m
  induction m with
  | zero =>
    intro i s hm hi I fi hit
    obtain ⟨its, rl, pl, hsz⟩ := I.list (sqk _)
    have hlen := rl.length
    refine codeAny_builtin PySem.F.entry_extend_loop ?_
    rw [Around.under_plainId PySem.F.plain_extend_loop _]
    show wpAny _ A1.in1 (pyNext (.ref it) >>= _) _ _ s
    refine wpAny_bind (wpAny_pyNext_list_end hh hit pl.isList (by rw [List.getElem?_toArray, List.getElem?_eq_none (by omega)]) fun h' he => ?_)
    have I' := turn_fp (t' := s.toks) I fi he
    rw [List.take_of_length_le (by omega)] at I'
    exact wpAny_pure (hdone _ I')
  | succ m ih =>
    intro i s hm hi I fi hit
    obtain ⟨its, rl, pl, hsz⟩ := I.list (sqk _)
    have hlt : i < xs.length := by omega
    obtain ⟨u2, hu2, rx⟩ := rl.get (i := i) (List.getElem?_eq_getElem hlt)
    refine codeAny_builtin PySem.F.entry_extend_loop ?_
    rw [Around.under_plainId PySem.F.plain_extend_loop _]
    show wpAny _ A1.in1 (pyNext (.ref it) >>= _) _ _ s
    refine wpAny_bind (wpAny_pyNext_list_item hit pl.isList (x := u2) (by rw [List.getElem?_toArray]; exact hu2) fun h' hit' hs => ?_)
    have I' := turn_fp (t' := s.toks) I fi hs.extBut
    show wpAny _ A1.in1 (updateSeq q (·.push u2) >>= _) _ _ _
    obtain ⟨zz, its2, kk, r2, hl2, e⟩ := I'.lstM upd_same
    have hl' : its2.length = i := by rw [← hl2, List.length_take]; omega
    have sl : sizeLine = 16777216 := by decide
    have I2 := I'.lset (f := (·.push u2)) (its' := its2 ++ [u2]) (ys := xs.take i ++ [xs[i]]) (t' := s.toks) upd_same e (by simp) (r2.append (.cons rx .nil)) (by rw [List.length_append, List.length_take]; show _ + 1 ≤ _; omega)
    rw [upd_upd, ← List.take_succ_eq_append_getElem hlt] at I2
    refine wpAny_bind (wpAny_updateSeq e rfl (wpAny_pure ⟨plainId_quiet PySem.F.plain_extend_loop _, ?_⟩) (by rw [List.size_toArray]; omega) (by show (its2.toArray.push u2).size ≤ sizeLine + 1; rw [Array.size_push, List.size_toArray]; omega))
    refine ih (i + 1) _ (by omega) (by omega) I2 (FpOk.other fi (by rw [upd_ne nit]; exact h0)) ?_
    exact hit'.at fun o e' => (Heap.get?_update_other _ _ (Ne.symm nit)).trans e'
def LQ (K : PySem.W.Frag) (q l : Addr) (ys : List V) (Q : VK) : VK := fun v H' => ∃ m : Nat, v = .int m ∧ m ≤ 10000 ∧ H' q = some (.lst []) ∧ l ≠ q ∧ SqL K H' l ys ∧ Q (.ref q) (upd H' q (.lst ys))
def rListOwn (K : PySem.W.Frag) (C : Addr) (fld : Str) (sp : Sp) : List V → Hp → VK → Prop := fun xs H Q => ∃ (a dx : Addr) (fs : List (Str × V)) (l : Addr) (ys : List V), xs = [.ref a] ∧ H a = some (.ins C dx fs) ∧ fs.lookup fld = some (.ref l) ∧ SqL K H l ys ∧ ys.length ≤ 10000 ∧
  ∀ q, H q = none → sp [.ref a] (upd H q (.lst [])) (fun v H' => ∃ n : Nat, v = .int n ∧ n < 2 ^ 62 ∧ LQ K q l ys Q (.int n) H') (fun _ _ _ => False)
theorem call_listOwn {K : PySem.W.Frag} {sp : Sp} (hK : X.K = K) (hcalm : X.calm = true) (hs : PySem.W.findIn K (.ref C) "__iter__" = some (some (.ref g))) (hf : PySem.W.isFn K (.ref g) = true) (F : FnS X.prog X.w K X.mg X.base k g fd ["self"] (sp_it K C fld)) (hb : Binds K fd ["self"] [])
    (hsl : PySem.W.findIn K (.ref C) "__len__" = some (some (.ref gl))) (hfl : PySem.W.isFn K (.ref gl) = true) (FL : FnR X.prog X.w K X.mg X.base CX0 k gl sp) (hr : Room (k + 4) X.A) : CallR X (.type "list") (rListOwn K C fld sp) := by
  subst hK
  intro pins s σ H vs us Q I rv h
  obtain ⟨a, dx, fs, l, ys, rfl, ha, hl, hS, hz, hq⟩ := h
  obtain ⟨u, rfl, ru⟩ := rv.one
  cases ru
  refine callType_codes (Q₁ := fun obj s₁ => obj = .ref s.heap.objs.size ∧ s₁ = { s with heap := s.heap.push { cls := .type "list", data := .seq #[] } }) PySem.F.called_list (PySem.F.typeCall_list_1 _) PySem.F.entry_list_init
    (code_list_new _ ⟨rfl, rfl⟩) fun obj s₁ h₁ => ?_
  obtain ⟨rfl, rfl⟩ := h₁
  have hS0 : (s.heap.push { cls := .type "list", data := .seq #[] }).get? s.heap.objs.size = some { cls := .type "list", data := .seq #[] } := Heap.get?_push_size _ rfl
  refine ⟨⟨_, hS0, rfl⟩, PySem.F.args_list_init_2 _ _, ?_⟩
  have fr : H s.heap.objs.size = none := I.hok.fresh (Nat.le_refl _)
  have hsp := hq _ fr
  have I1 : Inv X pins σ (upd H s.heap.objs.size (.lst [])) { s with heap := s.heap.push { cls := .type "list", data := .seq #[] } } := I.lnew (its := []) (t' := s.toks) .nil (Nat.zero_le _)
  generalize hqq : s.heap.objs.size = q at *
  show wpAny _ _ (do let old ← Builtin.List.listItems (.ref q); Builtin.List.listUpdate (.ref q) (fun _ => #[]); letGo old.toList.reverse; Builtin.List.listExtendWith (.ref q) (.ref a) .none) _ _ _
  refine wpAny_bind ?_
  unfold Builtin.List.listItems
  refine wpAny_bind (wpAny_seqItems hS0 rfl (wpAny_pure ?_))
  show wpAny _ _ (updateSeq q (fun _ => #[]) >>= fun _ => letGo (#[] : Array Value).toList.reverse >>= fun _ => Builtin.List.listExtendWith (.ref q) (.ref a) .none) _ _ _
  refine wpAny_bind (wpAny_updateSeq hS0 rfl ?_)
  have I2 := I1.lset (f := fun _ => #[]) (its := []) (its' := []) (ys := []) (t' := s.toks) upd_same hS0 rfl .nil (Nat.zero_le _)
  rw [upd_upd] at I2
  refine wpAny_bind (wpAny_letGo ?_)
  have S0 : L2.Same H (upd H q (.lst [])) := Lb.Same.upd fr
  have ha2 := S0 _ _ ha
  have hS2 : SqL X.K (upd H q (.lst [])) l ys := sqL_same S0 hS
  have hne : q ≠ a := (ne_of_none ha fr).symm
  generalize hH0 : upd H q (.lst []) = H0 at *
  have hq0 : H0 q = some (.lst []) := by rw [← hH0]; exact upd_same
  obtain ⟨od, J⟩ := inst_at I2 ha2
  unfold Builtin.List.listExtendWith
  refine wpAny_bind (J.type.here ?_)
  have h1 : Builtin.List.listSameRef (.ref q) (.ref a) = false := by simp [Builtin.List.listSameRef, hne]
  have h2 : (Value.ref C == Value.type "list") = false := rfl
  have h3 : (Value.ref C == Value.type "tuple") = false := rfl
  simp only [h1, h2, h3, Bool.or_false, Bool.false_eq_true, if_false]
  have sb : Sub X (k + 1) X.A.in1.in1 := (⟨hr.in1.in1.mono (by omega), rfl⟩)
  refine wpAny_bind (it_run hs hf F hb (⟨sb.room.mono (by omega), sb.fr⟩) I2 ha2 hl hS2 fun it s' hn it0 hit I3 fi => ?_)
  have nit : it ≠ q := fun z => by rw [z, hq0] at it0; cases it0
  obtain ⟨od', J'⟩ := inst_at I3 ha2
  obtain ⟨oi, hoi, hci, hdi⟩ := id hit
  have IP := I3.pinned (fp := [it]) (by
    intro b hb
    exact (List.mem_singleton.mp hb) ▸ fi) (by
    intro b hb
    exact ⟨oi, by rw [List.mem_singleton.mp hb]; exact hoi, fun v z => by rw [hdi] at z; cases z⟩)
  -- behind the hint
  have rest : ∀ (s4 : Shared) (H4 : Hp), Inv X (pins ++ pinsAt [it] s'.heap) σ H4 s4 → H4 q = some (.lst []) → l ≠ q → SqL X.K H4 l ys → Q (.ref q) (upd H4 q (.lst ys)) →
      codeAny (model X.prog X.w) X.A.in1 (.builtin "list.extend.loop" ⟨[.ref q, .ref it, .none], []⟩) (wants (fun r s₂ => r = .none ∧ EP X pins σ Q (.ref q) s₂) X.xe) s4 := by
    intro s4 H4 I4 e4 nl hS4 q4
    have p1 := I4.pin (it, oi) (List.mem_append_right _ (List.mem_append_right _ (mem_pinsAt (by simp) hoi)))
    have J4 := I4.unpinned
    have e : upd H4 q (.lst (ys.take 0)) = H4 := by
      funext b
      by_cases hb : b = q
      · rw [hb, upd_same, e4]; rfl
      · rw [upd_ne hb]
    exact ext_list (A1 := X.A.in1) (H0 := H4) (Rs := wants (fun r s₂ => r = .none ∧ EP X pins σ Q (.ref q) s₂) X.xe) (I.ok.hd hcalm) hz nl nit (fun s5 I5 => ⟨rfl, .ref q, _, I5, rfl, q4⟩) hS4 p1.2.1 _ 0 s4 rfl (Nat.zero_le _) (by rw [e]; exact J4) (by rw [e]; exact ⟨p1.2.1, fi.2⟩) ⟨oi, p1.1, hci, hdi⟩
  refine wpAny_bind (wpAny_holding ?_)
  unfold Builtin.List.listLengthHint
  refine wpAny_bind (wpAny_bind (J'.type.here ((PySem.W.looks_findIn I3.kIn hsl).here ?_)))
  refine PySem.W.KFB.if_not rfl ?_
  refine wpAny_ite_split (fun _ => ?_) (fun hab => absurd rfl hab)
  refine wpAny_bind (wpAny_rule ?_)
  refine wpAny_bind (wpAny_attempt (wpAny_mono (len_run (R := fun v s4 => ∃ (m : Nat) (t : Nat) (H4 : Hp), v = .int m t ∧ m ≤ 10000 ∧ Inv X (pins ++ pinsAt [it] s'.heap) σ H4 s4 ∧ H4 q = some (.lst []) ∧ l ≠ q ∧ SqL X.K H4 l ys ∧ Q (.ref q) (upd H4 q (.lst ys)))
    (Q := LQ X.K q l ys Q) (Ex := fun _ _ => False) hsl hfl FL (A := X.A.in1.in1) ⟨hr.in1.in1.in1.mono (by omega), rfl⟩ IP ha2 ?_ ?_) (fun v s4 hv => ?_) (fun _ _ z => z.elim)))
  · exact hsp
  · rintro m t s4 H4 hm J4 ⟨m', e', h5, q4⟩
    obtain rfl : m = m' := by
      have : (m : Int) = (m' : Int) := by injection e'
      omega
    exact ⟨m, t, H4, rfl, h5, J4, q4⟩
  · obtain ⟨m, t, H4, rfl, h5, J4, e4, nl, hS4, q4⟩ := hv
    refine wpAny_bind (wpAny_pure ?_)
    have sl : sizeLine = 16777216 := by decide
    have hlong : Builtin.List.listTooLong (Int.toNat m) = false := notLongL (by rw [Int.toNat_natCast]; omega)
    show wpAny _ _ (if Builtin.List.listTooLong (Int.toNat m) then _ else _) _ _ _
    rw [hlong]
    refine wpAny_pure ?_
    have fin : ∀ (s5 : Shared), Inv X (pins ++ pinsAt [it] s'.heap) σ H4 s5 → wpAny (model X.prog X.w) X.A.in1.in1 (again (.builtin "list.extend.loop" ⟨[.ref q, .ref it, .none], []⟩)) (fun fin s' => match fin with | .done f => wants (fun r s₂ => r = .none ∧ EP X pins σ Q (.ref q) s₂) X.xe (.ok f) s' | .again c' => c'.quiet = true ∧ codeAny (model X.prog X.w) X.A.in1 c' (wants (fun r s₂ => r = .none ∧ EP X pins σ Q (.ref q) s₂) X.xe) s') (fun e s' => wants (fun r s₂ => r = .none ∧ EP X pins σ Q (.ref q) s₂) X.xe (.error e) s') s5 :=
      fun s5 J5 => wpAny_pure ⟨plainId_quiet PySem.F.plain_extend_loop _, rest s5 H4 J5 e4 nl hS4 q4⟩
    refine wpAny_ite_split (fun _ => ?_) (fun _ => fin _ J4)
    obtain ⟨z, its, kk, r3, hl3, e3⟩ := J4.lstM e4
    cases r3
    refine wpAny_bind (wpAny_rule ?_)
    refine wpAny_bind ?_
    show wpAny _ _ (updateSeq q (·.push .none) >>= fun _ => updateSeq q (·.pop)) _ _ _
    refine wpAny_bind (wpAny_updateSeq e3 rfl ?_)
    have K2 := J4.lset (f := (·.push Value.none)) (its' := [Value.none]) (ys := [.non]) (t' := s4.toks) e4 e3 (by simp) (.cons rfl .nil) (by decide)
    obtain ⟨z4, its4, k4, r4, hl4, e44⟩ := K2.lstM upd_same
    obtain ⟨u4, rfl, ru4⟩ := r4.one
    refine wpAny_updateSeq e44 rfl ?_ (by show 1 ≤ sizeLine; decide) (by show 0 ≤ sizeLine + 1; exact Nat.zero_le _)
    have K3 := K2.lset (f := (·.pop)) (its := [u4]) (its' := []) (ys := []) (t' := s4.toks) upd_same e44 (by rfl) .nil (Nat.zero_le _)
    rw [upd_upd] at K3
    have hH : upd H4 q (.lst []) = H4 := by
      funext b
      by_cases hb : b = q
      · rw [hb, upd_same, e4]
      · rw [upd_ne hb]
    rw [hH] at K3
    exact fin _ K3
end
end Lb

set_option Elab.async false
set_option linter.all false
set_option maxRecDepth 100000
set_option maxHeartbeats 4000000
/-! extend with a tuple -/
namespace Lb
open PySem PySem.Spec PyProof.Rows L2
theorem list_extend_tup (l : Addr) (items : Array Value) (n : Nat) (b : Addr) (items2 : Array Value) (hs0 : ¬(!items.isEmpty && Builtin.List.listTooLong (items.size + items2.size)) = true) (hs1 : items.size ≤ sizeLine) (hs2 : items.size + items2.size ≤ sizeLine + 1) :
    Meets (Builtin.«list.extend» ⟨[.ref l, .ref b], []⟩) (fun _ R s => s.heap.get? l = some { cls := .type "list", dict := none, data := .seq items n, slots := #[] } ∧ IsTup s.heap b items2 ∧ R (.ok (.ret Value.none)) { s with heap := s.heap.update l (Obj.mapSeq fun x => x ++ items2), toks := s.toks }) :=
  .of_wp fun prog w A R s h => by
    obtain ⟨hp, g, d, tk, os⟩ := s; obtain ⟨hl, ⟨o, hb, hc, kk, hd⟩, h⟩ := h
    obtain ⟨oc, od, odd, os'⟩ := o
    dsimp only at hc hd
    subst hc
    subst hd
    have g1 := AutoSeq1.idx_int; have g2 := AutoSeq1.sub_tuple_tuple; have g3 := AutoSeq1.sub_list_list; have g4 := AutoSeq1.sub_tuple_list; have g5 := AutoSeq1.sub_list_tuple
    have fits : (items ++ items2).size ≤ sizeLine + 1 := Array.size_append ▸ hs2
    wp_walk using (wpAny_updateSeq hl rfl (hz := hs1) (_hz' := fits)), AutoSeq1.wpAny_loadPart' hl, AutoSeq1.wpAny_loadPart' hb; exact ⟨_, rfl, h⟩
section
variable {X : Cx}
def rExtendB : V → List V → Hp → VK → Prop := fun x vs H Q => ∃ l b xs zs, x = .ref l ∧ vs = [.ref b] ∧ H l = some (.lst xs) ∧ (H b = some (.lst zs) ∨ H b = some (.tup zs)) ∧ xs.length + zs.length ≤ sizeLine ∧ Q .non (upd H l (.lst (xs ++ zs)))
theorem mt_extendB : MtM X "list.extend" rExtendB := by
  intro pins s σ H x vs v us Q I rx rv h
  obtain ⟨l, b, xs, zs, rfl, rfl, hH, hB, hz, q⟩ := h
  rcases hB with hB | hB
  · exact mt_extend pins s σ H _ _ v us Q I rx rv ⟨l, b, xs, zs, rfl, rfl, hH, hB, hz, q⟩
  cases rx
  obtain ⟨u, rfl, ru⟩ := rv.one
  cases ru
  obtain ⟨z, its, n, r, hl, e⟩ := I.lstM hH
  obtain ⟨its2, r2, e2, hl2⟩ := I.tuple (SqT.of hB)
  have hl3 := r2.length
  have hsz : its.toArray.size + its2.toArray.size ≤ sizeLine := by rw [List.size_toArray, List.size_toArray]; omega
  have hlong : ¬ (!its.toArray.isEmpty && Builtin.List.listTooLong (its.toArray.size + its2.toArray.size)) = true := by
    rw [notLongL hsz, Bool.and_false]
    exact Bool.false_ne_true
  refine call_meets F.slot_list_extend ⟨_, e, rfl⟩ F.entry_list_extend (F.args_list_extend_2 _ _)
    (list_extend_tup l its.toArray n b its2.toArray hlong (by rw [List.size_toArray]; omega) (by omega)) ⟨e, e2, ?_⟩
  refine ⟨.non, _, I.lset (its' := its ++ its2) hH e (by simp) (r.append r2) ?_, rfl, q⟩
  rw [List.length_append]
  omega
end
end Lb

set_option Elab.async false
set_option linter.all false
set_option maxRecDepth 100000
set_option maxHeartbeats 4000000
/-! v not in x, x an instance whose class has `__contains__` -/
namespace Lb
open PySem PySem.Spec PyProof.Rows L2
section
variable {X : Cx} {CX : CXT} {C g : Addr} {n : Nat} {sp : Sp} {E : XK}
def rNotInOwn (C : Addr) (sp : Sp) (E : XK) : R2 := fun v x H Q => ∃ a dx fs, x = .ref a ∧ H a = some (.ins C dx fs) ∧ sp [x, v] H (fun z H' => ∃ b, z = .bl b ∧ Q (.bl (!b)) H') E
theorem op_notInOwn {K : PySem.W.Frag} (hK : X.K = K) (hs : PySem.W.findIn K (.ref C) "__contains__" = some (some (.ref g))) (hf : PySem.W.isFn K (.ref g) = true) (F : FnR X.prog X.w X.K X.mg X.base CX n g sp) (hr : Room n X.A) (hx : Passes CX X E) :
    OpR X (compareOp .NotIn) (rNotInOwn C sp E) := by
  subst hK
  intro pins s σ H x y v u Q I rx ry h
  obtain ⟨a, dx, fs, rfl, ha, q⟩ := h
  cases (show u = Value.ref a from ry)
  obtain ⟨od, J⟩ := inst_at I ha
  obtain ⟨m, hF⟩ := I.fr
  refine PySem.W.notIn_K hF I.ok.mod.kin J hs hf ?_
  refine wpAny_mono (wpAny_call (SlX.run_at (us := [.ref a, v]) (ws := [.ref a, x]) F hr I.env0 hx I (.cons rfl (.cons rx .nil)) q)) (fun w s' z => ?_) fun _ _ x => x
  obtain ⟨z', H', I', rz, b, ez, qz⟩ := z
  subst ez
  cases (show w = Value.bool b from rz)
  exact wpAny_truthy_bool ⟨.bl (!b), H', I', rfl, qz⟩
theorem call_list_ofK {K : PySem.W.Frag} (hK : X.K = K) : CallR X (.type "list") (fun xs H Q => ∃ p ys, xs = [.ref p] ∧ (SqL K H p ys ∨ SqT K H p ys) ∧ ∀ l, H l = none → Q (.ref l) (upd H l (.lst ys))) := by subst hK; exact call_list_of
end
end Lb

set_option Elab.async false
set_option linter.all false
set_option maxRecDepth 100000
set_option maxHeartbeats 4000000
/-! set(xs) of a list of texts, sorted of it -/
namespace Lb
open PySem PySem.Spec PyProof.Rows L2
/-- the text of an entry -/
def txE (e : Int × Value) : Str := match e.2 with
  | .str z _ => z
  | _ => Str.empty
/-- at q a set stands whose members are the texts zs -/
def StrSet (P : Program) (w : World) (hp : Heap) (q : Addr) (zs : List Str) : Prop :=
  ∃ (ob : Obj) (en : Array (Int × Value)) (age : Nat) (tab : SetTable), hp.get? q = some ob ∧ ob.ExactSet ∧ ob.data = .set en age tab ∧
    (∀ c ∈ en.toList, ∃ z tk, c = ((strKind P w).hash z, Value.str z tk)) ∧ (en.toList.map txE).Perm zs ∧ zs.Nodup ∧ zs.length < scanBound ∧
    tab.fits en.size = true ∧ Ris tab.place.toList ∧ (w.params.followText "set-order" = true ∨ tab.led = true)
section
variable {P : Program} {w : World} {hp hp' : Heap} {q : Addr} {zs : List Str}
theorem StrSet.at (G : StrSet P w hp q zs) (k : ∀ o, hp.get? q = some o → hp'.get? q = some o) : StrSet P w hp' q zs := by
  obtain ⟨ob, en, age, tab, e, rest⟩ := G
  exact ⟨ob, en, age, tab, k ob e, rest⟩
theorem StrSet.perm (G : StrSet P w hp q zs) {ys : List Str} (p : zs.Perm ys) : StrSet P w hp q ys := by
  obtain ⟨ob, en, age, tab, e, x, d, g, pm, nd, bd, rest⟩ := G
  exact ⟨ob, en, age, tab, e, x, d, g, pm.trans p, p.nodup_iff.mp nd, by rw [← p.length_eq]; exact bd, rest⟩
theorem ent_is {l : List (Int × Value)} (g : ∀ c ∈ l, ∃ z tk, c = ((strKind P w).hash z, Value.str z tk)) : ElemsOf (strKind P w) l := by
  intro c hc
  obtain ⟨z, tk, rfl⟩ := g c hc
  exact ⟨⟨z, strKind_is P w z tk, rfl⟩, rfl⟩
theorem ent_has {l : List (Int × Value)} (g : ∀ c ∈ l, ∃ z tk, c = ((strKind P w).hash z, Value.str z tk)) {y : Str} : (∃ c ∈ l, (strKind P w).is y c.2 = true) ↔ y ∈ l.map txE := by
  rw [List.mem_map]
  refine exists_congr fun c => and_congr_right fun hc => ?_
  obtain ⟨z, tk, rfl⟩ := g c hc
  exact ⟨fun h => (strKind P w).inj (.str z tk) z y (strKind_is P w z tk) h, fun h => by rw [← h]; exact strKind_is P w z tk⟩
end
section
variable {P : Program} {w : World} {A : Around} {E : Value → Shared → Prop} {s : Shared} {q : Addr} {zs : List Str}
/-- the new table is stored, and laid anew if it is too full -/
theorem str_store {rl : Bool → Sem Unit} (hrl : ∀ (b : Bool) (t : Shared) (G : Unit → Shared → Prop), G () t → wpAny (model P w) A (rl b) G E t)
    {ob : Obj} {en en1 : Array (Int × Value)} {age : Nat} {tab tab1 : SetTable} {ys : List Str} (at0 : s.heap.get? q = some ob) (ex : ob.ExactSet) (dt : ob.data = .set en age tab)
    (g1 : ∀ c ∈ en1.toList, ∃ z tk, c = ((strKind P w).hash z, Value.str z tk)) (p1 : (en1.toList.map txE).Perm ys) (nd1 : ys.Nodup) (b1 : ys.length < scanBound) (f1 : tab1.fits en1.size = true) (r1 : Ris tab1.place.toList)
    (l1 : w.params.followText "set-order" = true ∨ tab1.led = true) {dm : Bool} {G : Option Bool → Shared → Prop} (fin : ∀ h2, Heap.SameBut q s.heap h2 → StrSet P w h2 q ys → G (some true) { s with heap := h2 }) :
    wpAny (model P w) A (storeSet q en1 tab1 >>= fun _ => if (!dm && tab1.tooFull) = true then
        rl (relayAll tab1 en1 (SetTable.grown en1.size)).2.2 >>= fun _ => storeSet q (relayAll tab1 en1 (SetTable.grown en1.size)).1 (relayAll tab1 en1 (SetTable.grown en1.size)).2.1 >>= fun _ => pure (some true)
      else pure (some true)) G E s := by
  have z1 : en1.size = ys.length := by rw [← p1.length_eq, List.length_map, Array.length_toList]
  refine wpAny_bind (wpAny_storeSet_of at0 dt ?_ (fits_of_scanBound (by omega)))
  have at1 := store_at (es' := en1) (t' := tab1) at0 dt
  have keep1 := Heap.SameBut.update s.heap q (Obj.putSet en1 tab1)
  split
  case isFalse => exact wpAny_pure (fin _ keep1 ⟨_, en1, _, tab1, at1, ex, rfl, g1, p1, nd1, b1, f1, r1, l1⟩)
  case isTrue =>
    obtain ⟨p2, f2, r2, l2⟩ : _ ∧ _ ∧ _ ∧ _ := ⟨relayAll_perm tab1 en1 (SetTable.grown en1.size), relayAll_fits tab1 en1 (SetTable.grown en1.size), relayAll_ris tab1 en1 (SetTable.grown en1.size), relayAll_led tab1 en1 (SetTable.grown en1.size)⟩
    generalize relayAll tab1 en1 (SetTable.grown en1.size) = rr at p2 f2 r2 l2 ⊢
    rcases rr with ⟨en2, tab2, gv⟩
    dsimp only at p2 f2 r2 l2 ⊢
    have z2 : en2.size = en1.size := by simpa only [Array.length_toList] using p2.length_eq
    refine wpAny_bind (hrl _ _ _ (wpAny_bind (wpAny_storeSet_of at1 rfl (wpAny_pure (fin _ (keep1.trans (Heap.SameBut.update _ q _)) ?_)) (fits_of_scanBound (by omega)))))
    exact ⟨_, en2, _, tab2, store_at (es' := en2) (t' := tab2) at1 rfl, ex, rfl, fun c hc => g1 c (p2.mem_iff.mp hc), (p2.map txE).trans p1, nd1, b1, f2, r2, l1.imp id fun y => l2.trans y⟩
/-- a text is added -/
theorem str_add {z : Str} {tk : Tok} {G : Bool → Shared → Prop} (R : StrSet P w s.heap q zs) (room : zs.length + 1 < scanBound)
    (fin : ∀ h2 b, Heap.SameBut q s.heap h2 → StrSet P w h2 q (if z ∈ zs then zs else z :: zs) → G b { s with heap := h2 }) : wpAny (model P w) A (setAddHashed q (.str z tk) ((strKind P w).hash z)) G E s := by
  obtain ⟨ob, en, age, tab, at0, ex, dt, g, pm, nd, bd, ft, rs, ld⟩ := R
  have el : ElemsOf (strKind P w) en.toList := ent_is g
  have ez : en.size = zs.length := by rw [← pm.length_eq, List.length_map, Array.length_toList]
  have scn : (Value.str z tk).scannable = true := rfl
  unfold setAddHashed setAddHashedIn
  refine wpAny_holding (wpAny_bind (wpAny_setState_of at0 dt ft ?_))
  dsimp only
  rw [byScan_of scn (by omega) el]
  simp only [↓reduceIte]
  unfold setAddByScan
  refine wpAny_bind (wpAny_bind (wpAny_rule (wpAny_bind (wpAny_setScan_of (strKind_is P w z tk) at0 dt ft el ?_))))
  by_cases hin : z ∈ zs
  · cases fi : en.toList.findIdx? (fun c => (strKind P w).is z c.2) with
    | none =>
      obtain ⟨c, hc, e⟩ := (ent_has g).mpr (pm.mem_iff.mpr hin)
      have no := List.findIdx?_eq_none_iff.mp fi c hc
      rw [e] at no
      cases no
    | some j =>
      dsimp only
      refine wpAny_pure (wpAny_pure (fin s.heap _ (Heap.SameBut.refl q s.heap) ?_))
      rw [if_pos hin]
      exact ⟨ob, en, age, tab, at0, ex, dt, g, pm, nd, bd, ft, rs, ld⟩
  · cases fi : en.toList.findIdx? (fun c => (strKind P w).is z c.2) with
    | some j =>
      obtain ⟨hj, pj, _⟩ := List.findIdx?_eq_some_iff_getElem.mp fi
      exact absurd (pm.mem_iff.mp ((ent_has g).mp ⟨_, List.getElem_mem hj, pj⟩)) hin
    | none =>
      dsimp only
      rw [if_neg hin] at fin
      have rl : ∀ (b : Bool) (t : Shared) (G' : Unit → Shared → Prop), G' () t → wpAny (model P w) A (match b with | true => rule "set.scan.the-table-gave-way" | false => pure ()) G' E t := by
        intro b t G' y
        cases b
        · exact wpAny_pure y
        · exact wpAny_rule y
      obtain ⟨p1, f1, r1, l1⟩ : _ ∧ _ ∧ _ ∧ _ := ⟨layNew_perm tab en ((strKind P w).hash z) (.str z tk), layNew_fits tab en ((strKind P w).hash z) (.str z tk), layNew_ris tab en ((strKind P w).hash z) (.str z tk) rs, layNew_led tab en ((strKind P w).hash z) (.str z tk)⟩
      generalize layNew tab en ((strKind P w).hash z) (.str z tk) = nw at p1 f1 r1 l1 ⊢
      rcases nw with ⟨en1, tab1, dm, gv⟩
      dsimp only at p1 f1 r1 l1 ⊢
      rw [Array.toList_push] at p1
      have p2 := p1.trans (List.perm_append_singleton ((strKind P w).hash z, Value.str z tk) en.toList)
      have g1 : ∀ c ∈ en1.toList, ∃ z tk, c = ((strKind P w).hash z, Value.str z tk) := by
        intro c hc
        rcases List.mem_cons.mp (p2.mem_iff.mp hc) with rfl | hc
        · exact ⟨z, tk, rfl⟩
        · exact g c hc
      have pz : (en1.toList.map txE).Perm (z :: zs) := (p2.map txE).trans (pm.cons z)
      have ndz : (z :: zs).Nodup := List.nodup_cons.mpr ⟨hin, nd⟩
      have ldz : w.params.followText "set-order" = true ∨ tab1.led = true := ld.imp id fun y => l1.trans y
      refine wpAny_bind (rl _ _ _ ?_)
      split
      · refine wpAny_bind ?_
        rw [hashByValue_scannable 8 scn]
        refine wpAny_pure ?_
        refine str_store rl at0 ex dt g1 pz ndz room ?_ ?_ ?_ fun h2 sb y => ?_
        · first | exact f1 | (split <;> first | exact f1 | exact SetTable.fits_plain_off f1)
        · first | exact r1 | (split <;> exact r1)
        · first | exact ldz | (split <;> exact ldz)
        · dsimp only
          exact wpAny_pure (fin h2 true sb y)
      · refine wpAny_bind (wpAny_pure ?_)
        simp only [↓reduceIte]
        exact str_store rl at0 ex dt g1 pz ndz room f1 r1 ldz fun h2 sb y => wpAny_pure (fin h2 true sb y)
end
end Lb

set_option Elab.async false
set_option linter.all false
set_option maxRecDepth 100000
set_option maxHeartbeats 4000000
/-! set(xs) of a list of texts, sorted of it: the rules -/
namespace Lb
open PySem PySem.Spec PyProof.Rows L2
def addS (acc : List Str) (z : Str) : List Str := if z ∈ acc then acc else z :: acc
/-- what a set made of zs holds -/
def ded (zs : List Str) : List Str := zs.foldl addS []
theorem mem_addS {acc : List Str} {z y : Str} : y ∈ addS acc z ↔ y ∈ acc ∨ y = z := by
  unfold addS
  split
  · next h => exact ⟨.inl, fun k => k.elim id fun e => e ▸ h⟩
  · rw [List.mem_cons]
    exact Or.comm
theorem mem_fold : ∀ {zs acc : List Str} {y : Str}, y ∈ zs.foldl addS acc ↔ y ∈ acc ∨ y ∈ zs
  | [], acc, y => by simp
  | z :: r, acc, y => by rw [List.foldl_cons, mem_fold, mem_addS, List.mem_cons, or_assoc]
theorem mem_ded {zs : List Str} {y : Str} : y ∈ ded zs ↔ y ∈ zs := by unfold ded; rw [mem_fold]; simp
theorem nodup_fold : ∀ {zs acc : List Str}, acc.Nodup → (zs.foldl addS acc).Nodup
  | [], _, h => h
  | z :: r, acc, h => by
    rw [List.foldl_cons]
    refine nodup_fold ?_
    unfold addS
    split
    · exact h
    · next n => exact List.nodup_cons.mpr ⟨n, h⟩
theorem nodup_ded (zs : List Str) : (ded zs).Nodup := nodup_fold .nil
theorem len_fold : ∀ {zs acc : List Str}, (zs.foldl addS acc).length ≤ acc.length + zs.length
  | [], acc => by simp
  | z :: r, acc => by
    rw [List.foldl_cons]
    refine Nat.le_trans (len_fold (zs := r) (acc := addS acc z)) ?_
    have : (addS acc z).length ≤ acc.length + 1 := by unfold addS; split <;> simp
    rw [List.length_cons]
    omega
theorem ded_len (zs : List Str) : (ded zs).length ≤ zs.length := by simpa [ded] using len_fold (zs := zs) (acc := [])
theorem strSet_new {P : Program} {w : World} {hp : Heap} {q : Addr} (e : hp.get? q = some (newSetO w)) : StrSet P w hp q [] := by
  refine ⟨_, _, _, _, e, ⟨rfl, rfl, rfl⟩, rfl, fun c hc => (by simp at hc), .nil, .nil, by decide, by rfl, List.Pairwise.nil, ?_⟩
  show _ ∨ (!w.params.followText "set-order") = true
  cases w.params.followText "set-order"
  · exact .inr rfl
  · exact .inl rfl
section
variable {P : Program} {w : World} {A : Around} {E : Value → Shared → Prop} {s : Shared}
theorem fill_strs {it : Addr} {fp wr : List Addr} {gr : Array GenState → Array GenState → Prop} {n : Nat} {Pv : Nat → Value → Prop} {St : Nat → Shared → Prop} {R : Result → Shared → Prop}
    (Wk : WalksS P w A.in1 it fp wr gr n Pv St) (q : Addr) (nq : q ∉ fp) (zs : List Str) (en : n = zs.length) (room : zs.length + 1 < scanBound) (val : ∀ i v, Pv i v → ∃ z t, zs[i]? = some z ∧ v = .str z t) :
    ∀ (m i : Nat) (t : Shared), n - i = m → i ≤ n → St i t → StrSet P w t.heap q (ded (zs.take i)) →
      (∀ t', Moved (q :: wr) gr t t' → StrSet P w t'.heap q (ded zs) → R (.ok (.ret .none)) t') → codeAny (model P w) A (.builtin "set.update.loop" ⟨[.ref q, .ref it], []⟩) R t := by
  have nw : q ∉ wr := fun y => nq (Wk.sub _ y)
  have more : ∀ b ∈ wr, b ∈ q :: wr := fun b y => .tail _ y
  intro m
  induction m with
  | zero =>
    intro i t em hi st G fin
    obtain rfl : i = n := by omega
    rw [List.take_of_length_le (by omega)] at G
    refine codeAny_builtin F.entry_set_update_loop ?_
    rw [Around.under_plainId F.plain_set_update_loop _]
    refine (show wpAny _ A.in1 (pyNext (.ref it) >>= _) _ _ t from wpAny_bind (Wk.done t _ _ st fun t' mv => ?_))
    refine (show wpAny _ A.in1 (ret Value.none) _ _ t' from wpAny_pure (fin t' (mv.mono more) (G.at fun o e => mv.heap q o nw e)))
  | succ m ih =>
    intro i t em hi st G fin
    have lt : i < n := by omega
    refine codeAny_builtin F.entry_set_update_loop ?_
    rw [Around.under_plainId F.plain_set_update_loop _]
    refine (show wpAny _ A.in1 (pyNext (.ref it) >>= _) _ _ t from wpAny_bind (Wk.item i t _ _ lt st fun v t' pv st' mv => ?_))
    obtain ⟨z, tk, ez, rfl⟩ := val i v pv
    have G' : StrSet P w t'.heap q (ded (zs.take i)) := G.at fun o e => mv.heap q o nw e
    have ln : (ded (zs.take i)).length + 1 < scanBound := by
      have := ded_len (zs.take i)
      rw [List.length_take] at this
      omega
    refine (show wpAny _ A.in1 (holding [Value.str z tk] (setAdd q (.str z tk)) >>= _) _ _ t' from wpAny_bind (wpAny_holding ?_))
    unfold setAdd
    refine wpAny_holding (wpAny_bind ((strKind P w).pyHash (k := z) (strKind_is _ _ _ _) ?_))
    refine str_add (s := { t' with toks := t'.toks + 1 }) G' ln fun h2 b sb G2 => ?_
    have e3 : (if z ∈ ded (zs.take i) then ded (zs.take i) else z :: ded (zs.take i)) = ded (zs.take (i + 1)) := by
      unfold ded
      rw [List.take_add_one, ez, List.foldl_append]
      rfl
    rw [e3] at G2
    refine wpAny_pure ⟨plainId_quiet F.plain_set_update_loop _, ih (i + 1) _ (by omega) lt (Wk.frame _ t' _ _ st' (Nat.le_succ _) fun b hb o e => ?_) G2 fun t2 mv2 G3 => ?_⟩
    · rw [sb.2 b (fun y => nq (y ▸ hb))]
      exact e
    · refine fin t2 (Moved.trans Wk.gtrans ((mv.mono more).then_heap (Nat.le_succ _) fun b o nb e => ?_) mv2) G3
      rw [sb.2 b (fun y => nb (y ▸ List.mem_cons_self))]
      exact e
variable {Q : Value → Shared → Prop} {l : Addr} {its : Array Value} {zs : List Str}
theorem set_of_strs (hA : A.handled = none) (il : s.heap.IsList l its) (ia : StrsAre its.toList zs) (bd : zs.length + 1 < scanBound)
    (fin : ∀ (h2 : Heap) (tk : Nat), StrSet P w h2 s.heap.objs.size (ded zs) → (∀ b o, s.heap.get? b = some o → h2.get? b = some o) → Q (.ref s.heap.objs.size) { s with heap := h2, toks := tk }) :
    wpAny (model P w) A (call (.type "set") [.ref l]) Q E s := by
  have cnt : its.size = zs.length := by
    have y := PyProof.Rows.StrsAre.length ia
    rw [Array.length_toList] at y
    exact y
  refine typeCall_by (R1 := fun ob t => ob = .ref s.heap.objs.size ∧ t = { s with heap := s.heap.push (newSetO w) }) F.called_set (F.typeCall_set_1 (.ref l)) F.entry_set_init (code_set_led1 _ ⟨rfl, rfl⟩) fun ob t ht => ?_
  obtain ⟨rfl, rfl⟩ := ht
  have g0 : (s.heap.push (newSetO w)).get? s.heap.objs.size = some (newSetO w) := Heap.get?_push_size _ rfl
  have ty : Shared.TypeIs { s with heap := s.heap.push (newSetO w) } (.ref s.heap.objs.size) "set" := ⟨_, g0, rfl⟩
  refine ⟨ty, codeAny_call_builtin F.called_set.init.plain F.entry_set_init (check_set_init_1 ty ?_)⟩
  obtain ⟨⟨lc, ld, lda, lsl⟩, gl, hc, nl, hd⟩ := il
  simp only at hc hd
  subst hc
  subst hd
  have gl1 := Heap.get?_push_of_some (newSetO w) gl
  have il1 : (s.heap.push (newSetO w)).IsList l its := ⟨_, gl1, rfl, nl, rfl⟩
  have sub1 := F.sub_list_set
  have sub2 := F.sub_list_frozenset
  have notD : (Value.type "list" == Value.type "dict") = false := by decide
  unfold Builtin.«set.__init__» noKeywords Builtin.Frozenset.updateFrom
  generalize eP : pyIter = PI
  wp_walk
  subst eP
  refine wpAny_pyIter_list il1 (wpAny_bind (wpAny_runValue ?_))
  have lS : l < s.heap.objs.size := Heap.lt_size gl
  have szI : (s.heap.push (newSetO w)).objs.size = s.heap.objs.size + 1 := Heap.size_push ..
  have nI : l ≠ (s.heap.push (newSetO w)).objs.size := by rw [szI]; exact Nat.ne_of_lt (Nat.lt_succ_of_lt lS)
  have nS : s.heap.objs.size ∉ [(s.heap.push (newSetO w)).objs.size, l] := fun m => by
    rw [szI] at m
    rcases List.mem_cons.mp m with e | m
    · exact absurd e (Nat.ne_of_lt (Nat.lt_succ_self _))
    · exact absurd (List.mem_singleton.mp m) (Nat.ne_of_gt lS)
  have val : ∀ (i : Nat) (v : Value), its[i]? = some v → ∃ z t, zs[i]? = some z ∧ v = .str z t := fun i v hv => by
    obtain ⟨y, t, e1, e2⟩ := PyProof.Rows.StrsAre.item ia i v (by rw [Array.getElem?_toList]; exact hv)
    exact ⟨y, t, e2, e1⟩
  refine fill_strs ((Walks.list (A := A.in1.in1.in1) (by simp [hA]) _ l nI its).toS) s.heap.objs.size nS zs cnt bd val (its.size - 0) 0 _ (by omega) (Nat.zero_le _)
    ⟨⟨_, Heap.get?_push_size _ rfl, rfl, rfl⟩, il1.push _⟩ (strSet_new (Heap.get?_push_of_some _ g0)) fun t mv R => ?_
  obtain ⟨h2, g2, d2, tk2, os2⟩ := t
  obtain rfl : g2 = s.gens := mv.gens
  obtain rfl : d2 = s.drawn := mv.drawn
  obtain rfl : os2 = s.os := mv.os
  refine wpAny_pure (wpAny_pure ⟨rfl, fin h2 tk2 R fun b o e => ?_⟩)
  have hb : b < s.heap.objs.size := Heap.lt_size e
  refine mv.heap b o (fun m => ?_) (Heap.get?_push_of_some _ (Heap.get?_push_of_some _ e))
  rw [szI] at m
  rcases List.mem_cons.mp m with z | m
  · exact absurd z (Nat.ne_of_lt hb)
  · exact absurd (List.mem_singleton.mp m) (Nat.ne_of_lt (Nat.lt_succ_of_lt hb))
theorem strs_by (v2 : List Value) (h : ∀ v ∈ v2, ∃ z tk, v = Value.str z tk) : StrsAre v2 (v2.map fun v => txE (0, v)) := by
  induction v2 with
  | nil => exact .nil
  | cons v r ih =>
    obtain ⟨z, tk, rfl⟩ := h v List.mem_cons_self
    exact .cons z tk (ih fun u hu => h u (List.mem_cons_of_mem _ hu))
/-- sorted of such a set -/
theorem sorted_strSet {q : Addr} (G : StrSet P w s.heap q zs) (hA : A.handled = none) (few : zs.length < 64)
    (fin : ∀ (t : Shared) (p : Addr) (out : Array Value) (c : Nat) (ys : List Str), (∀ b o, s.heap.get? b = some o → t.heap.get? b = some o) → t.gens = s.gens → t.os = s.os → s.heap.objs.size ≤ p →
      t.heap.get? p = some (seqObj "list" out c) → StrsAre out.toList ys → ys.Perm zs → sortedS ys = true → Q (.ref p) t) : wpAny (model P w) A (call (.builtin "sorted") [.ref q]) Q E s := by
  obtain ⟨ob, en, age, tab, at0, ex, dt, g, pm, nd, bd, ft, rs, ld⟩ := G
  have ez : en.size = zs.length := by rw [← pm.length_eq, List.length_map, Array.length_toList]
  refine Calls.call_function_entry kind_sorted plain_sorted entry_sorted (args_sorted1 _) ?_
  unfold Builtin.«sorted»
  refine wpAny_bind (m := checkCount "sorted" 1 1 _) (wpAny_pure (wpAny_bind (collect_set (A := A.in1) hA ⟨ob, at0, ex.1, dt⟩ ft (by omega) rs ld fun t vs kp sz ge os pv => ?_)))
  have lv : vs.length = zs.length := by rw [pv.length_eq, List.length_map, Array.length_toList, ez]
  have are : StrsAre vs (vs.map fun v => txE (0, v)) := strs_by vs fun v hv => by
    obtain ⟨c, hc, rfl⟩ := List.mem_map.mp (pv.mem_iff.mp hv)
    obtain ⟨z, tk, rfl⟩ := g c hc
    exact ⟨z, tk, rfl⟩
  have pz : (vs.map fun v => txE (0, v)).Perm zs := by
    refine ((pv.map fun v => txE (0, v)).trans ?_).trans pm
    rw [List.map_map]
    exact List.Perm.of_eq (List.map_congr_left fun c _ => rfl)
  refine wpAny_bind (wpAny_newList ?_ (by rw [lv, sizeLine_eq]; omega))
  have at1 : (t.heap.push (seqObj "list" vs.toArray 0)).get? t.heap.objs.size = some (seqObj "list" vs.toArray 0) := Heap.get?_push_size _ rfl
  refine wpAny_bind (wpAny_holding (wpAny_call_entry slot_list_sort ⟨_, at1, rfl⟩ entry_list_sort
    (list_sort_treeK strKind_oneLt (s := { t with heap := t.heap.push (seqObj "list" vs.toArray 0) }) at1 are.keysOf (fun v₁ v₂ rest e => keyKind_strs (by rw [← e]; exact are)) (by omega) fun st hp hs => ⟨_, rfl, ?_⟩) (args_list_sort _)))
  obtain ⟨ys, y1, y2, y3⟩ := sorted_out_str are hp hs
  obtain ⟨c, hc⟩ := sortedHeap_at (vs := vs) (out := (arrOf st).map (·.2)) at1
  refine wpAny_pure ⟨_, rfl, fin _ t.heap.objs.size _ c ys (fun b u e => ?_) ge os sz hc y1 (y2.trans pz) y3⟩
  have e1 := kp b u e
  have lb := Heap.lt_size e1
  refine (sortedHeap_old (Nat.ne_of_lt lb) (by rw [size_push']; exact Nat.lt_succ_of_lt lb)).trans ?_
  exact Heap.get?_push_of_some _ e1
end
def SetS (P : Program) (w : World) (q : Addr) (zs : List Str) : HO := .ext fun h => StrSet P w h q zs
theorem setS_new {P : Program} {w : World} {H : Hp} {h : Heap} {q : Addr} {zs : List Str} (G : StrSet P w h q zs) : ObjOk P w H h q (SetS P w q zs) := by
  have ⟨o, _, _, _, e, _⟩ := G
  exact ⟨G, ⟨o, e⟩, fun _ _ y z => StrSet.at y z⟩
section
variable {X : Cx}
def rSetS (K : PySem.W.Frag) (P : Program) (w : World) : List V → Hp → VK → Prop := fun xs H Q => ∃ (l : Addr) (zs : List Str), xs = [.ref l] ∧ SqL K H l (zs.map V.str) ∧ zs.length ≤ 100 ∧ ∀ p, H p = none → Q (.ref p) (upd H p (SetS P w p (ded zs)))
theorem call_setS (hc : X.calm = true) : CallR X (.type "set") (rSetS X.K X.prog X.w) := by
  intro pins s σ H xs us Q I r h
  obtain ⟨l, zs, rfl, hS, hl, k⟩ := h
  obtain rfl := Vals.ref1 r
  obtain ⟨its, rv, pl, hz⟩ := I.list hS
  have hi := rv.strs
  refine set_of_strs (I.ok.hd hc) pl.isList (zs := zs) (by simpa using hi) (by unfold scanBound; omega) fun h2 tk R kp => ?_
  exact ⟨.ref s.heap.objs.size, _, I.laid (t' := tk) kp (Nat.le_refl _) (setS_new R), rfl, k _ (I.hok.fresh (Nat.le_refl _))⟩
def rSortedSetS (P : Program) (w : World) : List V → Hp → VK → Prop := fun vs H Q => ∃ (a : Addr) (zs : List Str), vs = [V.ref a] ∧ H a = some (SetS P w a zs) ∧ zs.length < 64 ∧
  ∀ (ys : List Str) (p : Addr), ys.Perm zs → sortedS ys = true → H p = none → Q (.ref p) (upd H p (.lst (ys.map V.str)))
theorem cr_sortedSetS (hc : X.calm = true) : CallR X (.builtin "sorted") (rSortedSetS X.prog X.w) := by
  intro pins s σ H vs us Q I r h
  obtain ⟨a, zs, rfl, ha, few, k⟩ := h
  obtain rfl := Vals.ref1 r
  have G : StrSet X.prog X.w s.heap a zs := (show ObjOk X.prog X.w H s.heap a (SetS X.prog X.w a zs) from I.hok a _ ha).1
  refine sorted_strSet G (I.ok.hd hc) few fun t p out c ys kp ge os sz gp are pm so => ?_
  have ln : (ys.map V.str).length ≤ sizeLine := by rw [List.length_map, pm.length_eq, sizeLine_eq]; omega
  have np : H p = none := I.hok.fresh sz
  have J : Inv X pins σ (upd H p (.lst (ys.map V.str))) { s with heap := t.heap, gens := t.gens, drawn := t.drawn, toks := t.toks } :=
    I.call (ch := []) (Un.laid kp sz np) (I.hok.laid kp sz ⟨ln, out.toList, c, vals_of_strs are, gp⟩) (by rw [ge]; exact I.bare) (fun _ y => nomatch y)
  have et : t = { s with heap := t.heap, gens := t.gens, drawn := t.drawn, toks := t.toks } := by
    rcases t with ⟨_, _, _, _, _⟩
    rcases s with ⟨_, _, _, _, _⟩
    cases os
    rfl
  rw [et]
  exact ⟨.ref p, _, J, rfl, k ys p pm so np⟩
end
end Lb

set_option Elab.async false
set_option linter.all false
set_option maxRecDepth 100000
set_option maxHeartbeats 4000000
/-! turns of any walk; the rules of sets with the text told; dicts read, locked or not -/
namespace Lb
open PySem PySem.Spec PyProof.Rows L2
theorem turns {J : It} {n : Nat} {G : Hp → Prop} {Y : Nat → Hp → V → Hp → Prop} (w : Walk J n G Y) {H0 : Hp} {Qd : Hp → Prop} {S : V → Hp → (Hp → Prop) → Prop} (Pv : Nat → Hp → Prop) (h0 : Pv 0 H0) (hG : ∀ i H, i ≤ n → Pv i H → G H)
    (hs : ∀ i x H H', i < n → Pv i H → Y i H x H' → S x H' (Pv (i + 1))) (hd : ∀ H, Pv n H → Qd H) :
    ∃ W : Nat → Nat → Hp → Prop, (∃ m, W 0 m H0) ∧ ∀ i m H, W i m H → (J.stop i H ∧ Qd H) ∨ (J.go i H ∧ ∃ Nx : Hp → Prop, (∀ H', Nx H' → ∃ m', m' < m ∧ W (i + 1) m' H') ∧ ∀ x H', J.yld i H x H' → S x H' Nx) := by
  refine ⟨fun i m H => i ≤ n ∧ m = n - i ∧ Pv i H, ⟨n, Nat.zero_le _, rfl, h0⟩, fun i m H ⟨le, em, p⟩ => ?_⟩
  by_cases lt : i < n
  · exact .inr ⟨w.goes i H lt (hG i H le p), Pv (i + 1), fun H' p' => ⟨n - (i + 1), by omega, lt, rfl, p'⟩, fun x H' y => hs i x H H' lt p (w.yields i H x H' lt (hG i H le p) y)⟩
  · obtain rfl : i = n := by omega
    exact .inl ⟨w.stops H (hG i H le p), hd H p⟩
section
variable {X : Cx} {P : Program} {w : World} {K : PySem.W.Frag}
theorem call_setSK (hK : X.K = K) (hP : X.prog = P) (hw : X.w = w) (hc : X.calm = true) : CallR X (.type "set") (rSetS K P w) := by
  subst hK hP hw
  exact call_setS hc
theorem cr_sortedSetSK (hP : X.prog = P) (hw : X.w = w) (hc : X.calm = true) : CallR X (.builtin "sorted") (rSortedSetS P w) := by
  subst hP hw
  exact cr_sortedSetS hc
theorem op_inDK (hK : X.K = K) (hu : X.A.units + 65 < cLine) : OpR X (compareOp .In) (rInD K) := by subst hK; exact op_inD hu
theorem op_neDK2 (hK : X.K = K) (hu : X.A.units + 64 < cLine) : OpR X (compareOp .NotEq) (rNeD K) := by subst hK; exact op_neD hu
end
end Lb
namespace Lb
open PySem PySem.Spec PyProof.Rows L2
theorem pe_conK {X : Cx} {K : PySem.W.Frag} {e : Expr} {f : Str} {pos : Pos} {ta : TE} (hK : X.K = K) (he : PE X e ta) (hb : attributeBase e f X.env (eval e X.env) = eval e X.env) : PE X (.Attribute e f pos) (tCon K ta f) := by subst hK; exact pe_con he hb
end Lb

set_option Elab.async false
set_option linter.all false
set_option maxRecDepth 100000
set_option maxHeartbeats 4000000
namespace K20
open PySem L2 Lb
def top (i : Nat) : Stmt := PySem.Challenge.pw_surepipes_k20_nets_made_and_asked.main.body.getD i (.Pass ⟨0, 0, 0, 0⟩)
abbrev s_is_name : Stmt := (top 13)
theorem sc_is_name : FnScope ["value", "letter"] ["value"] (defScope s_is_name) := ⟨rfl, rfl, rfl, by decide +kernel, rfl, by decide +kernel, by decide +kernel⟩
abbrev s_are_ends : Stmt := (top 15)
theorem sc_are_ends : FnScope ["value"] ["value"] (defScope s_are_ends) := ⟨rfl, rfl, rfl, by decide +kernel, rfl, by decide +kernel, by decide +kernel⟩
abbrev s_sorted_pipes : Stmt := (top 16)
theorem sc_sorted_pipes : FnScope ["pipes", "name", "ends", "key"] ["pipes"] (defScope s_sorted_pipes) := ⟨rfl, rfl, rfl, by decide +kernel, rfl, by decide +kernel, by decide +kernel⟩
abbrev s_sorted_nodes : Stmt := (top 17)
theorem sc_sorted_nodes : FnScope ["pipes", "ends", "node"] ["pipes"] (defScope s_sorted_nodes) := ⟨rfl, rfl, rfl, by decide +kernel, rfl, by decide +kernel, by decide +kernel⟩
abbrev s_joined_nodes : Stmt := (top 18)
theorem sc_joined_nodes : FnScope ["pipes", "node", "heads", "tail", "head", "tails"] ["pipes", "node"] (defScope s_joined_nodes) := ⟨rfl, rfl, rfl, by decide +kernel, rfl, by decide +kernel, by decide +kernel⟩
abbrev s_reached : Stmt := (top 19)
theorem sc_reached : FnScope ["pipes", "start", "found", "waiting", "last", "node"] ["pipes", "start"] (defScope s_reached) := ⟨rfl, rfl, rfl, by decide +kernel, rfl, by decide +kernel, by decide +kernel⟩
abbrev s_Net_init_ : Stmt := (inClass (top 20) 2)
theorem sc_Net_init_ : FnScope ["self", "pipes", "reached", "node"] ["self", "pipes"] (defScope s_Net_init_) := ⟨rfl, rfl, rfl, by decide +kernel, rfl, by decide +kernel, by decide +kernel⟩
abbrev s_Netof : Stmt := (inClass (top 20) 3)
theorem sc_Netof : FnScope ["cls", "pipes"] ["cls", "pipes"] (defScope s_Netof) := ⟨rfl, rfl, rfl, by decide +kernel, rfl, by decide +kernel, by decide +kernel⟩
abbrev s_Netnodes : Stmt := (inClass (top 20) 4)
theorem sc_Netnodes : FnScope ["self"] ["self"] (defScope s_Netnodes) := ⟨rfl, rfl, rfl, by decide +kernel, rfl, by decide +kernel, by decide +kernel⟩
abbrev s_Netnames : Stmt := (inClass (top 20) 5)
theorem sc_Netnames : FnScope ["self"] ["self"] (defScope s_Netnames) := ⟨rfl, rfl, rfl, by decide +kernel, rfl, by decide +kernel, by decide +kernel⟩
abbrev s_Net_iter_ : Stmt := (inClass (top 20) 6)
theorem sc_Net_iter_ : FnScope ["self"] ["self"] (defScope s_Net_iter_) := ⟨rfl, rfl, rfl, by decide +kernel, rfl, by decide +kernel, by decide +kernel⟩
abbrev s_Net_len_ : Stmt := (inClass (top 20) 7)
theorem sc_Net_len_ : FnScope ["self"] ["self"] (defScope s_Net_len_) := ⟨rfl, rfl, rfl, by decide +kernel, rfl, by decide +kernel, by decide +kernel⟩
abbrev s_Net_contains_ : Stmt := (inClass (top 20) 8)
theorem sc_Net_contains_ : FnScope ["self", "value"] ["self", "value"] (defScope s_Net_contains_) := ⟨rfl, rfl, rfl, by decide +kernel, rfl, by decide +kernel, by decide +kernel⟩
abbrev s_Net_getitem_ : Stmt := (inClass (top 20) 9)
theorem sc_Net_getitem_ : FnScope ["self", "name"] ["self", "name"] (defScope s_Net_getitem_) := ⟨rfl, rfl, rfl, by decide +kernel, rfl, by decide +kernel, by decide +kernel⟩
abbrev s_Net_eq_ : Stmt := (inClass (top 20) 10)
theorem sc_Net_eq_ : FnScope ["self", "other"] ["self", "other"] (defScope s_Net_eq_) := ⟨rfl, rfl, rfl, by decide +kernel, rfl, by decide +kernel, by decide +kernel⟩
abbrev s_Net_repr_ : Stmt := (inClass (top 20) 11)
theorem sc_Net_repr_ : FnScope ["self"] ["self"] (defScope s_Net_repr_) := ⟨rfl, rfl, rfl, by decide +kernel, rfl, by decide +kernel, by decide +kernel⟩
abbrev s_Net_check_node : Stmt := (inClass (top 20) 12)
theorem sc_Net_check_node : FnScope ["self", "value"] ["self", "value"] (defScope s_Net_check_node) := ⟨rfl, rfl, rfl, by decide +kernel, rfl, by decide +kernel, by decide +kernel⟩
abbrev s_Netneighbours : Stmt := (inClass (top 20) 14)
theorem sc_Netneighbours : FnScope ["self", "node"] ["self", "node"] (defScope s_Netneighbours) := ⟨rfl, rfl, rfl, by decide +kernel, rfl, by decide +kernel, by decide +kernel⟩
abbrev s_Netbetween : Stmt := (inClass (top 20) 15)
theorem sc_Netbetween : FnScope ["self", "u", "v", "name"] ["self", "u", "v"] (defScope s_Netbetween) := ⟨rfl, rfl, rfl, by decide +kernel, rfl, by decide +kernel, by decide +kernel⟩
abbrev s_Netjoined : Stmt := (inClass (top 20) 17)
theorem sc_Netjoined : FnScope ["self", "name", "tail", "head"] ["self", "name", "tail", "head"] (defScope s_Netjoined) := ⟨rfl, rfl, rfl, by decide +kernel, rfl, by decide +kernel, by decide +kernel⟩
abbrev s_pot : Stmt := (top 22)
theorem sc_pot : FnScope ["_law_script", "_law_k", "_law_cell"] ["_law_script", "_law_k"] (defScope s_pot) := ⟨rfl, rfl, rfl, by decide +kernel, rfl, by decide +kernel, by decide +kernel⟩
abbrev s_draw : Stmt := (top 23)
theorem sc_draw : FnScope ["_law_pot_here", "_law_many", "_law_digit"] ["_law_pot_here", "_law_many"] (defScope s_draw) := ⟨rfl, rfl, rfl, by decide +kernel, rfl, by decide +kernel, by decide +kernel⟩
abbrev s_pick : Stmt := (top 24)
theorem sc_pick : FnScope ["_law_pot_here", "_law_some"] ["_law_pot_here", "_law_some"] (defScope s_pick) := ⟨rfl, rfl, rfl, by decide +kernel, rfl, by decide +kernel, by decide +kernel⟩
abbrev s_mixed : Stmt := (top 25)
theorem sc_mixed : FnScope ["_law_pot_here", "_law_some", "_law_rest", "_law_found"] ["_law_pot_here", "_law_some"] (defScope s_mixed) := ⟨rfl, rfl, rfl, by decide +kernel, rfl, by decide +kernel, by decide +kernel⟩
abbrev s_names : Stmt := (top 26)
theorem sc_names : FnScope ["_law_pot_here", "_law_many", "_law_letters", "_law_found", "_law_turn", "_law_word", "_law_step", "_law_spare", "_law_letter", "_law_one"] ["_law_pot_here", "_law_many"] (defScope s_names) := ⟨rfl, rfl, rfl, by decide +kernel, rfl, by decide +kernel, by decide +kernel⟩
abbrev s_net : Stmt := (top 27)
theorem sc_net : FnScope ["_law_pot_here", "_law_most", "_law_further", "_law_points_here", "_law_joins", "_law_at", "_law_turn", "_law_ends", "_law_a", "_law_b"] ["_law_pot_here", "_law_most", "_law_further"] (defScope s_net) := ⟨rfl, rfl, rfl, by decide +kernel, rfl, by decide +kernel, by decide +kernel⟩
abbrev s_points : Stmt := (top 28)
theorem sc_points : FnScope ["_law_entries", "_law_found", "_law_a", "_law_b"] ["_law_entries"] (defScope s_points) := ⟨rfl, rfl, rfl, by decide +kernel, rfl, by decide +kernel, by decide +kernel⟩
abbrev s_walked_right : Stmt := (top 29)
theorem sc_walked_right : FnScope ["_law_made", "_law_names_here", "_law_due", "_law_walked", "_law_word", "_law_other"] ["_law_made", "_law_names_here"] (defScope s_walked_right) := ⟨rfl, rfl, rfl, by decide +kernel, rfl, by decide +kernel, by decide +kernel⟩
abbrev s_shown_right : Stmt := (top 30)
theorem sc_shown_right : FnScope ["_law_made", "_law_entries", "_law_names_here", "_law_points_here", "_law_told", "_law_word", "_law_pairs"] ["_law_made", "_law_entries"] (defScope s_shown_right) := ⟨rfl, rfl, rfl, by decide +kernel, rfl, by decide +kernel, by decide +kernel⟩
abbrev s_near : Stmt := (top 31)
theorem sc_near : FnScope ["_law_entries", "_law_point", "_law_found", "_law_a", "_law_b"] ["_law_entries", "_law_point"] (defScope s_near) := ⟨rfl, rfl, rfl, by decide +kernel, rfl, by decide +kernel, by decide +kernel⟩
abbrev s_beside : Stmt := (top 32)
theorem sc_beside : FnScope ["_law_entries", "_law_one", "_law_other", "_law_word"] ["_law_entries", "_law_one", "_law_other"] (defScope s_beside) := ⟨rfl, rfl, rfl, by decide +kernel, rfl, by decide +kernel, by decide +kernel⟩
abbrev s_asked_right : Stmt := (top 33)
theorem sc_asked_right : FnScope ["_law_made", "_law_entries", "_law_one", "_law_due", "_law_told", "_law_other"] ["_law_made", "_law_entries"] (defScope s_asked_right) := ⟨rfl, rfl, rfl, by decide +kernel, rfl, by decide +kernel, by decide +kernel⟩
abbrev s_in_right : Stmt := (top 34)
theorem sc_in_right : FnScope ["_law_pot_here", "_law_made", "_law_entries", "_law_some", "_law_told", "_law_thing", "_law_due", "_law_word"] ["_law_pot_here", "_law_made", "_law_entries"] (defScope s_in_right) := ⟨rfl, rfl, rfl, by decide +kernel, rfl, by decide +kernel, by decide +kernel⟩
abbrev s_bent : Stmt := (top 35)
theorem sc_bent : FnScope ["_law_pot_here", "_law_entries", "_law_found", "_law_way", "_law_word", "_law_a", "_law_b", "_law_fresh", "_law_one", "_law_called", "_law_c", "_law_d", "_law_twin"] ["_law_pot_here", "_law_entries"] (defScope s_bent) := ⟨rfl, rfl, rfl, by decide +kernel, rfl, by decide +kernel, by decide +kernel⟩
abbrev s_equal_right : Stmt := (top 36)
theorem sc_equal_right : FnScope ["_law_pot_here", "_law_made", "_law_entries", "_law_other", "_law_due", "_law_mate", "_law_some", "_law_thing"] ["_law_pot_here", "_law_made", "_law_entries"] (defScope s_equal_right) := ⟨rfl, rfl, rfl, by decide +kernel, rfl, by decide +kernel, by decide +kernel⟩
abbrev s_right : Stmt := (top 37)
theorem sc_right : FnScope ["_law_pot_here", "_law_entries", "_law_handed", "_law_made"] ["_law_pot_here"] (defScope s_right) := ⟨rfl, rfl, rfl, by decide +kernel, rfl, by decide +kernel, by decide +kernel⟩
abbrev s_fixed_right : Stmt := (top 38)
theorem sc_fixed_right : FnScope ["_law_four", "_law_wide", "_law_more"] [] (defScope s_fixed_right) := ⟨rfl, rfl, rfl, by decide +kernel, rfl, by decide +kernel, by decide +kernel⟩
abbrev s_law : Stmt := (top 39)
theorem sc_law : FnScope ["_law_script", "_law_three", "_law_k"] ["_law_script"] (defScope s_law) := ⟨rfl, rfl, rfl, by decide +kernel, rfl, by decide +kernel, by decide +kernel⟩
structure Ad where
  f_is_name : Addr
  d_is_name : FuncData
  f_are_ends : Addr
  d_are_ends : FuncData
  f_sorted_pipes : Addr
  d_sorted_pipes : FuncData
  f_sorted_nodes : Addr
  d_sorted_nodes : FuncData
  f_joined_nodes : Addr
  d_joined_nodes : FuncData
  f_reached : Addr
  d_reached : FuncData
  f_Net_init_ : Addr
  d_Net_init_ : FuncData
  f_Netof : Addr
  d_Netof : FuncData
  f_Netnodes : Addr
  d_Netnodes : FuncData
  f_Netnames : Addr
  d_Netnames : FuncData
  f_Net_iter_ : Addr
  d_Net_iter_ : FuncData
  f_Net_len_ : Addr
  d_Net_len_ : FuncData
  f_Net_contains_ : Addr
  d_Net_contains_ : FuncData
  f_Net_getitem_ : Addr
  d_Net_getitem_ : FuncData
  f_Net_eq_ : Addr
  d_Net_eq_ : FuncData
  f_Net_repr_ : Addr
  d_Net_repr_ : FuncData
  f_Net_check_node : Addr
  d_Net_check_node : FuncData
  f_Netneighbours : Addr
  d_Netneighbours : FuncData
  f_Netbetween : Addr
  d_Netbetween : FuncData
  f_Netjoined : Addr
  d_Netjoined : FuncData
  f_pot : Addr
  d_pot : FuncData
  f_draw : Addr
  d_draw : FuncData
  f_pick : Addr
  d_pick : FuncData
  f_mixed : Addr
  d_mixed : FuncData
  f_names : Addr
  d_names : FuncData
  f_net : Addr
  d_net : FuncData
  f_points : Addr
  d_points : FuncData
  f_walked_right : Addr
  d_walked_right : FuncData
  f_shown_right : Addr
  d_shown_right : FuncData
  f_near : Addr
  d_near : FuncData
  f_beside : Addr
  d_beside : FuncData
  f_asked_right : Addr
  d_asked_right : FuncData
  f_in_right : Addr
  d_in_right : FuncData
  f_bent : Addr
  d_bent : FuncData
  f_equal_right : Addr
  d_equal_right : FuncData
  f_right : Addr
  d_right : FuncData
  f_fixed_right : Addr
  d_fixed_right : FuncData
  f_law : Addr
  d_law : FuncData
  c_Net : Addr
  p_nodes : Addr
  p_of : Addr
structure Txt (K : PySem.W.Frag) (mg : Str → Option Value) (a : Ad) : Prop where
  F_is_name : Fun K "is_name" "is_name" s_is_name a.f_is_name a.d_is_name
  m_is_name : mg "is_name" = some (.ref a.f_is_name)
  F_are_ends : Fun K "_are_ends" "_are_ends" s_are_ends a.f_are_ends a.d_are_ends
  m_are_ends : mg "_are_ends" = some (.ref a.f_are_ends)
  F_sorted_pipes : Fun K "_sorted_pipes" "_sorted_pipes" s_sorted_pipes a.f_sorted_pipes a.d_sorted_pipes
  m_sorted_pipes : mg "_sorted_pipes" = some (.ref a.f_sorted_pipes)
  F_sorted_nodes : Fun K "_sorted_nodes" "_sorted_nodes" s_sorted_nodes a.f_sorted_nodes a.d_sorted_nodes
  m_sorted_nodes : mg "_sorted_nodes" = some (.ref a.f_sorted_nodes)
  F_joined_nodes : Fun K "_joined_nodes" "_joined_nodes" s_joined_nodes a.f_joined_nodes a.d_joined_nodes
  m_joined_nodes : mg "_joined_nodes" = some (.ref a.f_joined_nodes)
  F_reached : Fun K "_reached" "_reached" s_reached a.f_reached a.d_reached
  m_reached : mg "_reached" = some (.ref a.f_reached)
  F_Net_init_ : Fun K "__init__" "Net.__init__" s_Net_init_ a.f_Net_init_ a.d_Net_init_
  F_Netof : Fun K "of" "Net.of" s_Netof a.f_Netof a.d_Netof
  F_Netnodes : Fun K "nodes" "Net.nodes" s_Netnodes a.f_Netnodes a.d_Netnodes
  F_Netnames : Fun K "names" "Net.names" s_Netnames a.f_Netnames a.d_Netnames
  F_Net_iter_ : Fun K "__iter__" "Net.__iter__" s_Net_iter_ a.f_Net_iter_ a.d_Net_iter_
  F_Net_len_ : Fun K "__len__" "Net.__len__" s_Net_len_ a.f_Net_len_ a.d_Net_len_
  F_Net_contains_ : Fun K "__contains__" "Net.__contains__" s_Net_contains_ a.f_Net_contains_ a.d_Net_contains_
  F_Net_getitem_ : Fun K "__getitem__" "Net.__getitem__" s_Net_getitem_ a.f_Net_getitem_ a.d_Net_getitem_
  F_Net_eq_ : Fun K "__eq__" "Net.__eq__" s_Net_eq_ a.f_Net_eq_ a.d_Net_eq_
  F_Net_repr_ : Fun K "__repr__" "Net.__repr__" s_Net_repr_ a.f_Net_repr_ a.d_Net_repr_
  F_Net_check_node : Fun K "_check_node" "Net._check_node" s_Net_check_node a.f_Net_check_node a.d_Net_check_node
  F_Netneighbours : Fun K "neighbours" "Net.neighbours" s_Netneighbours a.f_Netneighbours a.d_Netneighbours
  F_Netbetween : Fun K "between" "Net.between" s_Netbetween a.f_Netbetween a.d_Netbetween
  F_Netjoined : Fun K "joined" "Net.joined" s_Netjoined a.f_Netjoined a.d_Netjoined
  F_pot : Fun K "_law_pot" "_law_pot" s_pot a.f_pot a.d_pot
  m_pot : mg "_law_pot" = some (.ref a.f_pot)
  F_draw : Fun K "_law_draw" "_law_draw" s_draw a.f_draw a.d_draw
  m_draw : mg "_law_draw" = some (.ref a.f_draw)
  F_pick : Fun K "_law_pick" "_law_pick" s_pick a.f_pick a.d_pick
  m_pick : mg "_law_pick" = some (.ref a.f_pick)
  F_mixed : Fun K "_law_mixed" "_law_mixed" s_mixed a.f_mixed a.d_mixed
  m_mixed : mg "_law_mixed" = some (.ref a.f_mixed)
  F_names : Fun K "_law_names" "_law_names" s_names a.f_names a.d_names
  m_names : mg "_law_names" = some (.ref a.f_names)
  F_net : Fun K "_law_net" "_law_net" s_net a.f_net a.d_net
  m_net : mg "_law_net" = some (.ref a.f_net)
  F_points : Fun K "_law_points" "_law_points" s_points a.f_points a.d_points
  m_points : mg "_law_points" = some (.ref a.f_points)
  F_walked_right : Fun K "_law_walked_right" "_law_walked_right" s_walked_right a.f_walked_right a.d_walked_right
  m_walked_right : mg "_law_walked_right" = some (.ref a.f_walked_right)
  F_shown_right : Fun K "_law_shown_right" "_law_shown_right" s_shown_right a.f_shown_right a.d_shown_right
  m_shown_right : mg "_law_shown_right" = some (.ref a.f_shown_right)
  F_near : Fun K "_law_near" "_law_near" s_near a.f_near a.d_near
  m_near : mg "_law_near" = some (.ref a.f_near)
  F_beside : Fun K "_law_beside" "_law_beside" s_beside a.f_beside a.d_beside
  m_beside : mg "_law_beside" = some (.ref a.f_beside)
  F_asked_right : Fun K "_law_asked_right" "_law_asked_right" s_asked_right a.f_asked_right a.d_asked_right
  m_asked_right : mg "_law_asked_right" = some (.ref a.f_asked_right)
  F_in_right : Fun K "_law_in_right" "_law_in_right" s_in_right a.f_in_right a.d_in_right
  m_in_right : mg "_law_in_right" = some (.ref a.f_in_right)
  F_bent : Fun K "_law_bent" "_law_bent" s_bent a.f_bent a.d_bent
  m_bent : mg "_law_bent" = some (.ref a.f_bent)
  F_equal_right : Fun K "_law_equal_right" "_law_equal_right" s_equal_right a.f_equal_right a.d_equal_right
  m_equal_right : mg "_law_equal_right" = some (.ref a.f_equal_right)
  F_right : Fun K "_law_right" "_law_right" s_right a.f_right a.d_right
  m_right : mg "_law_right" = some (.ref a.f_right)
  F_fixed_right : Fun K "_law_fixed_right" "_law_fixed_right" s_fixed_right a.f_fixed_right a.d_fixed_right
  m_fixed_right : mg "_law_fixed_right" = some (.ref a.f_fixed_right)
  F_law : Fun K "law" "law" s_law a.f_law a.d_law
  m_law : mg "law" = some (.ref a.f_law)
  cl : Cls K a.c_Net
  mNet : mg "Net" = some (.ref a.c_Net)
  mkN : Mk K a.c_Net a.f_Net_init_
  I : Inst K a.c_Net
  gLet : ∃ t, mg "LETTERS" = some (.str "abcdefghijklmnopqrstuvwxyz" t)
  gLong : ∃ t, mg "LONGEST_NAME" = some (.int 8 t)
  pN : PropOf K a.c_Net "nodes" a.p_nodes a.f_Netnodes
  noSeq : PySem.W.noSeq K a.c_Net = true
  nPi : NoAttr K a.c_Net "_pipes"
  nNm : NoAttr K a.c_Net "_names"
  nNo : NoAttr K a.c_Net "_nodes"
  nNe : NoAttr K a.c_Net "_near"
  cIt : OwnM K a.c_Net "__iter__" a.f_Net_iter_
  cLen : OwnM K a.c_Net "__len__" a.f_Net_len_
  cCon : OwnM K a.c_Net "__contains__" a.f_Net_contains_
  cGet : OwnM K a.c_Net "__getitem__" a.f_Net_getitem_
  cEq : OwnM K a.c_Net "__eq__" a.f_Net_eq_
  cRe : OwnM K a.c_Net "__repr__" a.f_Net_repr_
  fGet : PySem.W.fnIn K a.f_Net_getitem_ = true
  mNames : Meth K a.c_Net "names" a.f_Netnames
  mChk : Meth K a.c_Net "_check_node" a.f_Net_check_node
  mNeighbours : Meth K a.c_Net "neighbours" a.f_Netneighbours
  mBetween : Meth K a.c_Net "between" a.f_Netbetween
  mJoined : Meth K a.c_Net "joined" a.f_Netjoined
  cR : ClX.CRead K a.c_Net (.type "type")
  cOf : ClX.CMet K a.c_Net (.type "type") "of" a.p_of a.f_Netof
  cNe : PySem.W.findIn K (.ref a.c_Net) "__ne__" = some (some (.builtin "object.__ne__"))
  kNODES : ∃ t, Con K a.c_Net "MAX_NODES" (.int 8) (.int 8 t)
  kPIPES : ∃ t, Con K a.c_Net "MAX_PIPES" (.int 16) (.int 16 t)
  vNODES : ∃ t, ClX.CVal K a.c_Net (.type "type") "MAX_NODES" (.int 8) (.int 8 t)
  vPIPES : ∃ t, ClX.CVal K a.c_Net (.type "type") "MAX_PIPES" (.int 16) (.int 16 t)
  b_len : mg "len" = none
  b_abs : mg "abs" = none
  b_max : mg "max" = none
  b_min : mg "min" = none
  b_int : mg "int" = none
  b_divmod : mg "divmod" = none
  b_all : mg "all" = none
  b_any : mg "any" = none
  b_repr : mg "repr" = none
  b_isinstance : mg "isinstance" = none
  b_range : mg "range" = none
  b_enumerate : mg "enumerate" = none
  b_str : mg "str" = none
  b_list : mg "list" = none
  b_tuple : mg "tuple" = none
  b_dict : mg "dict" = none
  b_set : mg "set" = none
  b_sorted : mg "sorted" = none
  b_iter : mg "iter" = none
  b_zip : mg "zip" = none
theorem b_is_name {K : PySem.W.Frag} {mg : Str → Option Value} {a : Ad} (T : Txt K mg a) : Binds K a.d_is_name ["value"] [] := T.F_is_name.binds (ps := ["value"]) fun _ _ _ _ _ _ us hl => match us, hl with | [_], _ => rfl
theorem b_are_ends {K : PySem.W.Frag} {mg : Str → Option Value} {a : Ad} (T : Txt K mg a) : Binds K a.d_are_ends ["value"] [] := T.F_are_ends.binds (ps := ["value"]) fun _ _ _ _ _ _ us hl => match us, hl with | [_], _ => rfl
theorem b_sorted_pipes {K : PySem.W.Frag} {mg : Str → Option Value} {a : Ad} (T : Txt K mg a) : Binds K a.d_sorted_pipes ["pipes"] [] := T.F_sorted_pipes.binds (ps := ["pipes"]) fun _ _ _ _ _ _ us hl => match us, hl with | [_], _ => rfl
theorem b_sorted_nodes {K : PySem.W.Frag} {mg : Str → Option Value} {a : Ad} (T : Txt K mg a) : Binds K a.d_sorted_nodes ["pipes"] [] := T.F_sorted_nodes.binds (ps := ["pipes"]) fun _ _ _ _ _ _ us hl => match us, hl with | [_], _ => rfl
theorem b_joined_nodes {K : PySem.W.Frag} {mg : Str → Option Value} {a : Ad} (T : Txt K mg a) : Binds K a.d_joined_nodes ["pipes", "node"] [] := T.F_joined_nodes.binds (ps := ["pipes", "node"]) fun _ _ _ _ _ _ us hl => match us, hl with | [_, _], _ => rfl
theorem b_reached {K : PySem.W.Frag} {mg : Str → Option Value} {a : Ad} (T : Txt K mg a) : Binds K a.d_reached ["pipes", "start"] [] := T.F_reached.binds (ps := ["pipes", "start"]) fun _ _ _ _ _ _ us hl => match us, hl with | [_, _], _ => rfl
theorem b_Net_init_ {K : PySem.W.Frag} {mg : Str → Option Value} {a : Ad} (T : Txt K mg a) : Binds K a.d_Net_init_ ["self", "pipes"] [] := T.F_Net_init_.binds (ps := ["self", "pipes"]) fun _ _ _ _ _ _ us hl => match us, hl with | [_, _], _ => rfl
theorem b_Netnodes {K : PySem.W.Frag} {mg : Str → Option Value} {a : Ad} (T : Txt K mg a) : Binds K a.d_Netnodes ["self"] [] := T.F_Netnodes.binds (ps := ["self"]) fun _ _ _ _ _ _ us hl => match us, hl with | [_], _ => rfl
theorem b_Netnames {K : PySem.W.Frag} {mg : Str → Option Value} {a : Ad} (T : Txt K mg a) : Binds K a.d_Netnames ["self"] [] := T.F_Netnames.binds (ps := ["self"]) fun _ _ _ _ _ _ us hl => match us, hl with | [_], _ => rfl
theorem b_Net_iter_ {K : PySem.W.Frag} {mg : Str → Option Value} {a : Ad} (T : Txt K mg a) : Binds K a.d_Net_iter_ ["self"] [] := T.F_Net_iter_.binds (ps := ["self"]) fun _ _ _ _ _ _ us hl => match us, hl with | [_], _ => rfl
theorem b_Net_len_ {K : PySem.W.Frag} {mg : Str → Option Value} {a : Ad} (T : Txt K mg a) : Binds K a.d_Net_len_ ["self"] [] := T.F_Net_len_.binds (ps := ["self"]) fun _ _ _ _ _ _ us hl => match us, hl with | [_], _ => rfl
theorem b_Net_contains_ {K : PySem.W.Frag} {mg : Str → Option Value} {a : Ad} (T : Txt K mg a) : Binds K a.d_Net_contains_ ["self", "value"] [] := T.F_Net_contains_.binds (ps := ["self", "value"]) fun _ _ _ _ _ _ us hl => match us, hl with | [_, _], _ => rfl
theorem b_Net_getitem_ {K : PySem.W.Frag} {mg : Str → Option Value} {a : Ad} (T : Txt K mg a) : Binds K a.d_Net_getitem_ ["self", "name"] [] := T.F_Net_getitem_.binds (ps := ["self", "name"]) fun _ _ _ _ _ _ us hl => match us, hl with | [_, _], _ => rfl
theorem b_Net_eq_ {K : PySem.W.Frag} {mg : Str → Option Value} {a : Ad} (T : Txt K mg a) : Binds K a.d_Net_eq_ ["self", "other"] [] := T.F_Net_eq_.binds (ps := ["self", "other"]) fun _ _ _ _ _ _ us hl => match us, hl with | [_, _], _ => rfl
theorem b_Net_repr_ {K : PySem.W.Frag} {mg : Str → Option Value} {a : Ad} (T : Txt K mg a) : Binds K a.d_Net_repr_ ["self"] [] := T.F_Net_repr_.binds (ps := ["self"]) fun _ _ _ _ _ _ us hl => match us, hl with | [_], _ => rfl
theorem b_Net_check_node {K : PySem.W.Frag} {mg : Str → Option Value} {a : Ad} (T : Txt K mg a) : Binds K a.d_Net_check_node ["self", "value"] [] := T.F_Net_check_node.binds (ps := ["self", "value"]) fun _ _ _ _ _ _ us hl => match us, hl with | [_, _], _ => rfl
theorem b_Netneighbours {K : PySem.W.Frag} {mg : Str → Option Value} {a : Ad} (T : Txt K mg a) : Binds K a.d_Netneighbours ["self", "node"] [] := T.F_Netneighbours.binds (ps := ["self", "node"]) fun _ _ _ _ _ _ us hl => match us, hl with | [_, _], _ => rfl
theorem b_Netbetween {K : PySem.W.Frag} {mg : Str → Option Value} {a : Ad} (T : Txt K mg a) : Binds K a.d_Netbetween ["self", "u", "v"] [] := T.F_Netbetween.binds (ps := ["self", "u", "v"]) fun _ _ _ _ _ _ us hl => match us, hl with | [_, _, _], _ => rfl
theorem b_Netjoined {K : PySem.W.Frag} {mg : Str → Option Value} {a : Ad} (T : Txt K mg a) : Binds K a.d_Netjoined ["self", "name", "tail", "head"] [] := T.F_Netjoined.binds (ps := ["self", "name", "tail", "head"]) fun _ _ _ _ _ _ us hl => match us, hl with | [_, _, _, _], _ => rfl
theorem b_pot {K : PySem.W.Frag} {mg : Str → Option Value} {a : Ad} (T : Txt K mg a) : Binds K a.d_pot ["_law_script", "_law_k"] [] := T.F_pot.binds (ps := ["_law_script", "_law_k"]) fun _ _ _ _ _ _ us hl => match us, hl with | [_, _], _ => rfl
theorem b_draw {K : PySem.W.Frag} {mg : Str → Option Value} {a : Ad} (T : Txt K mg a) : Binds K a.d_draw ["_law_pot_here", "_law_many"] [] := T.F_draw.binds (ps := ["_law_pot_here", "_law_many"]) fun _ _ _ _ _ _ us hl => match us, hl with | [_, _], _ => rfl
theorem b_pick {K : PySem.W.Frag} {mg : Str → Option Value} {a : Ad} (T : Txt K mg a) : Binds K a.d_pick ["_law_pot_here", "_law_some"] [] := T.F_pick.binds (ps := ["_law_pot_here", "_law_some"]) fun _ _ _ _ _ _ us hl => match us, hl with | [_, _], _ => rfl
theorem b_mixed {K : PySem.W.Frag} {mg : Str → Option Value} {a : Ad} (T : Txt K mg a) : Binds K a.d_mixed ["_law_pot_here", "_law_some"] [] := T.F_mixed.binds (ps := ["_law_pot_here", "_law_some"]) fun _ _ _ _ _ _ us hl => match us, hl with | [_, _], _ => rfl
theorem b_names {K : PySem.W.Frag} {mg : Str → Option Value} {a : Ad} (T : Txt K mg a) : Binds K a.d_names ["_law_pot_here", "_law_many"] [] := T.F_names.binds (ps := ["_law_pot_here", "_law_many"]) fun _ _ _ _ _ _ us hl => match us, hl with | [_, _], _ => rfl
theorem b_net {K : PySem.W.Frag} {mg : Str → Option Value} {a : Ad} (T : Txt K mg a) : Binds K a.d_net ["_law_pot_here", "_law_most", "_law_further"] [] := T.F_net.binds (ps := ["_law_pot_here", "_law_most", "_law_further"]) fun _ _ _ _ _ _ us hl => match us, hl with | [_, _, _], _ => rfl
theorem b_points {K : PySem.W.Frag} {mg : Str → Option Value} {a : Ad} (T : Txt K mg a) : Binds K a.d_points ["_law_entries"] [] := T.F_points.binds (ps := ["_law_entries"]) fun _ _ _ _ _ _ us hl => match us, hl with | [_], _ => rfl
theorem b_walked_right {K : PySem.W.Frag} {mg : Str → Option Value} {a : Ad} (T : Txt K mg a) : Binds K a.d_walked_right ["_law_made", "_law_names_here"] [] := T.F_walked_right.binds (ps := ["_law_made", "_law_names_here"]) fun _ _ _ _ _ _ us hl => match us, hl with | [_, _], _ => rfl
theorem b_shown_right {K : PySem.W.Frag} {mg : Str → Option Value} {a : Ad} (T : Txt K mg a) : Binds K a.d_shown_right ["_law_made", "_law_entries"] [] := T.F_shown_right.binds (ps := ["_law_made", "_law_entries"]) fun _ _ _ _ _ _ us hl => match us, hl with | [_, _], _ => rfl
theorem b_near {K : PySem.W.Frag} {mg : Str → Option Value} {a : Ad} (T : Txt K mg a) : Binds K a.d_near ["_law_entries", "_law_point"] [] := T.F_near.binds (ps := ["_law_entries", "_law_point"]) fun _ _ _ _ _ _ us hl => match us, hl with | [_, _], _ => rfl
theorem b_beside {K : PySem.W.Frag} {mg : Str → Option Value} {a : Ad} (T : Txt K mg a) : Binds K a.d_beside ["_law_entries", "_law_one", "_law_other"] [] := T.F_beside.binds (ps := ["_law_entries", "_law_one", "_law_other"]) fun _ _ _ _ _ _ us hl => match us, hl with | [_, _, _], _ => rfl
theorem b_asked_right {K : PySem.W.Frag} {mg : Str → Option Value} {a : Ad} (T : Txt K mg a) : Binds K a.d_asked_right ["_law_made", "_law_entries"] [] := T.F_asked_right.binds (ps := ["_law_made", "_law_entries"]) fun _ _ _ _ _ _ us hl => match us, hl with | [_, _], _ => rfl
theorem b_in_right {K : PySem.W.Frag} {mg : Str → Option Value} {a : Ad} (T : Txt K mg a) : Binds K a.d_in_right ["_law_pot_here", "_law_made", "_law_entries"] [] := T.F_in_right.binds (ps := ["_law_pot_here", "_law_made", "_law_entries"]) fun _ _ _ _ _ _ us hl => match us, hl with | [_, _, _], _ => rfl
theorem b_bent {K : PySem.W.Frag} {mg : Str → Option Value} {a : Ad} (T : Txt K mg a) : Binds K a.d_bent ["_law_pot_here", "_law_entries"] [] := T.F_bent.binds (ps := ["_law_pot_here", "_law_entries"]) fun _ _ _ _ _ _ us hl => match us, hl with | [_, _], _ => rfl
theorem b_equal_right {K : PySem.W.Frag} {mg : Str → Option Value} {a : Ad} (T : Txt K mg a) : Binds K a.d_equal_right ["_law_pot_here", "_law_made", "_law_entries"] [] := T.F_equal_right.binds (ps := ["_law_pot_here", "_law_made", "_law_entries"]) fun _ _ _ _ _ _ us hl => match us, hl with | [_, _, _], _ => rfl
theorem b_right {K : PySem.W.Frag} {mg : Str → Option Value} {a : Ad} (T : Txt K mg a) : Binds K a.d_right ["_law_pot_here"] [] := T.F_right.binds (ps := ["_law_pot_here"]) fun _ _ _ _ _ _ us hl => match us, hl with | [_], _ => rfl
theorem b_fixed_right {K : PySem.W.Frag} {mg : Str → Option Value} {a : Ad} (T : Txt K mg a) : Binds K a.d_fixed_right [] [] := T.F_fixed_right.binds (ps := []) fun _ _ _ _ _ _ us hl => match us, hl with | [], _ => rfl
theorem b_law {K : PySem.W.Frag} {mg : Str → Option Value} {a : Ad} (T : Txt K mg a) : Binds K a.d_law ["_law_script"] [] := T.F_law.binds (ps := ["_law_script"]) fun _ _ _ _ _ _ us hl => match us, hl with | [_], _ => rfl
end K20

set_option Elab.async false
set_option linter.all false
set_option maxRecDepth 100000
set_option maxHeartbeats 4000000
namespace K20
open PySem L2 Lb
/-! the pot: two ints, turned by each draw -/
def PotAt (H : Hp) (p : Addr) : Prop := ∃ a b : Int, H p = some (.lst [.int a, .int b]) ∧ 0 ≤ a ∧ 0 ≤ b ∧ b ≤ 2147483647
/-- all but p is kept -/
structure Mov (p : Addr) (H H' : Hp) : Prop where
  keep : ∀ b o, b ≠ p → H b = some o → H' b = some o
  pot : PotAt H' p
theorem Mov.trans {p : Addr} {H H1 H2 : Hp} (a : Mov p H H1) (b : Mov p H1 H2) : Mov p H H2 := ⟨fun c o n e => b.keep c o n (a.keep c o n e), b.pot⟩
theorem Mov.same {p : Addr} {H H1 H2 : Hp} (a : Mov p H H1) (b : Same H1 H2) : Mov p H H2 :=
  ⟨fun c o n e => b _ _ (a.keep c o n e), let ⟨x, y, e, r⟩ := a.pot; ⟨x, y, b _ _ e, r⟩⟩
theorem _root_.L2.Same.mov {p : Addr} {H H1 : Hp} (a : Same H H1) (q : PotAt H p) : Mov p H H1 :=
  ⟨fun c o _ e => a _ _ e, let ⟨x, y, e, r⟩ := q; ⟨x, y, a _ _ e, r⟩⟩
theorem _root_.L2.Same.pot {p : Addr} {H H1 : Hp} (a : Same H H1) (q : PotAt H p) : PotAt H1 p := let ⟨x, y, e, r⟩ := q; ⟨x, y, a _ _ e, r⟩
theorem Mov.refl {p : Addr} {H : Hp} (q : PotAt H p) : Mov p H H := ⟨fun _ _ _ e => e, q⟩
theorem Mov.tup {p b : Addr} {H H1 : Hp} {xs : List V} (a : Mov p H H1) (q : PotAt H p) (e : H b = some (.tup xs)) : H1 b = some (.tup xs) :=
  a.keep _ _ (let ⟨_, _, e', _⟩ := q; ne_of e e' (fun z => nomatch z)) e
theorem Mov.ins {p b C dx : Addr} {H H1 : Hp} {fs : List (Str × V)} (a : Mov p H H1) (q : PotAt H p) (e : H b = some (.ins C dx fs)) : H1 b = some (.ins C dx fs) :=
  a.keep _ _ (let ⟨_, _, e', _⟩ := q; ne_of e e' (fun z => nomatch z)) e
theorem Mov.free {p b : Addr} {H H1 : Hp} (a : Mov p H H1) (q : PotAt H p) (e : H1 b = none) : H b = none := by
  cases z : H b with
  | none => rfl
  | some o =>
    by_cases hb : b = p
    · subst hb
      obtain ⟨_, _, e', _⟩ := a.pot
      rw [e] at e'
      cases e'
    · rw [a.keep b o hb z] at e
      cases e
theorem SqL.mov {K : PySem.W.Frag} {p a : Addr} {H H1 : Hp} {xs : List V} (m : Mov p H H1) (n : a ≠ p) (h : SqL K H a xs) : SqL K H1 a xs := by
  rcases h with (h | ⟨o, h⟩) | h
  · exact .inl (.inl (m.keep _ _ n h))
  · exact .inl (.inr ⟨o, m.keep _ _ n h⟩)
  · exact .inr h
theorem Mov.ne {p l : Addr} {H H1 : Hp} (m : Mov p H H1) (h : H1 l = none) : l ≠ p := by
  obtain ⟨_, _, e, _⟩ := m.pot
  exact (ne_of_none e h).symm
def sp_pot (K : PySem.W.Frag) : Sp := fun vs H Q _ => ∃ (sc : Addr) (ns : List Int) (k : Nat), vs = [.ref sc, .int k] ∧ SqL K H sc (ns.map V.int) ∧ ns.length ≤ 63 ∧ k ≤ 1000 ∧
  ∀ H' p, Same H H' → H p = none → PotAt H' p → Q (.ref p) H'
def sp_draw : Sp := fun vs H Q _ => ∃ (p : Addr) (n : Int), vs = [.ref p, .int n] ∧ PotAt H p ∧ 0 < n ∧ Bd 200 n ∧
  ∀ H' d, Mov p H H' → 0 ≤ d → d < n → Q (.int d) H'
section
variable {P : Program} {w : World} {K : PySem.W.Frag} {mg : Str → Option Value} {base : Heap} {a : Ad}
theorem ok_pot (T : Txt K mg a) : FnOk P w K mg base CX0 1 a.f_pot a.d_pot ["_law_script", "_law_k"] (sp_pot K) := by
  refine T.F_pot.ok sc_pot (fun vs H Q E h => ?_) (fun cdv A outer s H vs Q E hr h => ?_)
  · obtain ⟨sc, ns, k, rfl, _⟩ := h
    rfl
  · obtain ⟨sc, ns, k, rfl, hS, hlen, hk, q⟩ := h
    have fin : ∀ c : Int, 0 ≤ c → ∀ p, H p = none → Q (.ref p) (upd H p (.lst [.int (if c - 10 ^ (18 : Int).toNat > 0 then c - 10 ^ (18 : Int).toNat else 0), .int ((c % 2147483587 * 48271 + 60013 * (k : Int) + 201) % 2147483647)])) := by
      intro c hc p hp
      refine q _ p (Lb.Same.upd hp) hp ⟨_, _, upd_same, ?_, ?_, ?_⟩
      · split <;> omega
      · omega
      · omega
    refine ⟨_, (pss_cons (ps_set (i := 2) sc_pot.nd rfl (by first | exact Or.inl rfl | exact Or.inr rfl) (pe_ifExp (pt_cmpR op_lt (pv 1) (pe_callB (call_lenK (K := K) rfl) (by rfl) T.b_len (by decide +kernel) (pa_cons (pv 0) pa_nil)) (nomark _)) (pe_callB call_abs (by rfl) T.b_abs (by decide +kernel) (pa_cons (pe_ix (ix_listK (K := K) rfl) (pv 0) (pv 1) (fun _ _ => rfl)) pa_nil)) (pe_op op_add (pe_op op_mulX pe_int (pv 1)) pe_int)))
 (pss_one (ps_ret (pe_lst (pa_cons (pe_callB (call_max2 rfl) (by rfl) T.b_max (by decide +kernel) (pa_cons pe_int (pa_cons (pe_op op_sub (pv 2) (pe_op op_pow pe_int pe_int)) pa_nil))) (pa_cons (pe_op op_mod (pe_callTy call_int1 (by rfl) T.b_int (by decide +kernel) (pa_cons (pe_op op_add (pe_op op_add (pe_op op_mulX (pe_op op_mod (pe_callTy call_int1 (by rfl) T.b_int (by decide +kernel) (pa_cons (pv 2) pa_nil)) pe_int) pe_int) (pe_op op_mulX pe_int (pv 1))) pe_int) pa_nil)) pe_int) pa_nil)))))), ?_⟩
    refine ⟨_, rfl, _, rfl, _, _, rfl, .inl hS, _, _, rfl, rfl, _, rfl, ?_⟩
    rw [List.length_map]
    refine ite2 (fun hlt => ?_) (fun _ => ?_)
    · have hlt' : k < ns.length := by simpa using hlt
      have hget : (ns.map V.int)[k]? = some (V.int ns[k]) := by simp [hlt']
      refine ⟨_, rfl, _, rfl, _, _, _, _, rfl, rfl, hS, atI_nat hget, _, rfl, ?_⟩
      refine ⟨_, rfl, _, _, rfl, rfl, ⟨by decide, by decide, by decide⟩, _, _, rfl, rfl, _, _, rfl, ?_⟩
      refine ⟨_, rfl, .inl ⟨_, rfl, _, _, rfl, rfl, (by show (0 : Int) < _; decide), _, _, rfl, rfl, mulx_ok (a := 100) (b := 100) (by omega) (by decide) (by decide), ?_⟩⟩
      refine ⟨_, rfl, _, _, rfl, rfl, mulx_ok (a := 100) (b := 100) (by decide) (by omega) (by decide), _, _, rfl, rfl, _, _, rfl, rfl, ?_⟩
      refine .inl ⟨_, rfl, _, _, rfl, rfl, (by show (0 : Int) < _; decide), sz, fun p hp => ?_⟩
      exact fin _ (by split <;> omega) p hp
    · refine ⟨_, rfl, _, _, rfl, rfl, mulx_ok (a := 100) (b := 100) (by decide) (by omega) (by decide), _, _, rfl, rfl, ?_⟩
      refine ⟨_, rfl, _, _, rfl, rfl, ⟨by decide, by decide, by decide⟩, _, _, rfl, rfl, _, _, rfl, ?_⟩
      refine ⟨_, rfl, .inl ⟨_, rfl, _, _, rfl, rfl, (by show (0 : Int) < _; decide), _, _, rfl, rfl, mulx_ok (a := 100) (b := 100) (by omega) (by decide) (by decide), ?_⟩⟩
      refine ⟨_, rfl, _, _, rfl, rfl, mulx_ok (a := 100) (b := 100) (by decide) (by omega) (by decide), _, _, rfl, rfl, _, _, rfl, rfl, ?_⟩
      refine .inl ⟨_, rfl, _, _, rfl, rfl, (by show (0 : Int) < _; decide), sz, fun p hp => ?_⟩
      exact fin _ (by omega) p hp
theorem ok_draw (T : Txt K mg a) : FnOk P w K mg base CX0 1 a.f_draw a.d_draw ["_law_pot_here", "_law_many"] sp_draw := by
  refine T.F_draw.ok sc_draw (fun vs H Q E h => ?_) (fun cdv A outer s H vs Q E hr h => ?_)
  · obtain ⟨p, n, rfl, _⟩ := h
    rfl
  · obtain ⟨p, n, rfl, ⟨x, y, hp, hx, hy0, hy1⟩, hn, hb, q⟩ := h
    have S := SqL.of (K := K) hp
    have e0 : atI ([.int x, .int y] : List V) ((0 : Nat) : Int) = some (.int x) := atI_nat rfl
    have e1 : atI ([.int x, .int y] : List V) ((1 : Nat) : Int) = some (.int y) := atI_nat rfl
    refine ⟨_, (pss_cons (ps_if (pt_cmpR op_gt (pe_ix (ix_listK (K := K) rfl) (pv 0) pe_int (fun _ _ => rfl)) pe_int (nomark _)) (pss_cons (ps_asg (pe_callB call_divmodW (by rfl) T.b_divmod (by decide +kernel) (pa_cons (pe_ix (ix_listK (K := K) rfl) (pv 0) pe_int (fun _ _ => rfl)) (pa_cons (pv 1) pa_nil))) (pg_tupK (K := K) (n := 2) rfl rfl (pgs_cons (pg_sub (pv 0) pe_int set_list) (pgs_cons (pg_name (i := 2) sc_draw.nd rfl (by first | exact Or.inl rfl | exact Or.inr rfl)) pgs_nil))))
 (pss_one (ps_ret (pv 2)))) pss_nil)
 (pss_cons (ps_asg (pe_op op_mod (pe_callTy call_int1 (by rfl) T.b_int (by decide +kernel) (pa_cons (pe_op op_add (pe_op op_mulX (pe_ix (ix_listK (K := K) rfl) (pv 0) pe_int (fun _ _ => rfl)) pe_int) pe_int) pa_nil)) pe_int) (pg_sub (pv 0) pe_int set_list))
 (pss_one (ps_ret (pe_op op_mod (pe_callTy call_int1 (by rfl) T.b_int (by decide +kernel) (pa_cons (pe_op op_fdivW (pe_op op_mod (pe_callTy call_int1 (by rfl) T.b_int (by decide +kernel) (pa_cons (pe_op op_mulX (pe_ix (ix_listK (K := K) rfl) (pv 0) pe_int (fun _ _ => rfl)) (pe_ix (ix_listK (K := K) rfl) (pv 0) pe_int (fun _ _ => rfl))) pa_nil)) pe_int) pe_int) pa_nil)) (pv 1)))))), ?_⟩
    refine ⟨_, rfl, _, _, _, _, rfl, rfl, S, e0, _, _, rfl, rfl, _, rfl, ?_⟩
    refine ite2 (fun hlt => ?_) (fun _ => ?_)
    · have hlt : 0 < x := by simpa using hlt
      refine ⟨_, rfl, _, _, _, _, rfl, rfl, S, e0, _, rfl, _, _, rfl, divp_small hn (hb.mono (by decide)), fun t ht => ?_⟩
      have npt : p ≠ t := ne_of_none hp ht
      refine ⟨_, _, rfl, SqT.of upd_same, rfl, ?_⟩
      have hp2 : upd H t (.tup [.int (x / n), .int (x % n)]) p = some (.lst [.int x, .int y]) := by rw [upd_ne npt]; exact hp
      refine ⟨_, _, rfl, ⟨_, rfl, _, _, _, 0, rfl, rfl, hp2, rfl, _, _, rfl, ⟨rfl, ?_⟩⟩⟩
      refine ⟨_, rfl, ?_⟩
      refine q _ _ ⟨fun b o nb e => ?_, _, _, upd_same, Int.ediv_nonneg hx (by omega), hy0, hy1⟩ (Int.emod_nonneg _ (by omega)) (Int.emod_lt_of_pos _ hn)
      rw [upd_ne nb, upd_ne (ne_of_none e ht)]
      exact e
    · refine ⟨_, rfl, _, _, _, _, rfl, rfl, S, e1, _, _, rfl, rfl, mulx_ok (a := 100) (b := 100) (by omega) (by decide) (by decide), _, _, rfl, rfl, .inl ⟨_, rfl, _, _, rfl, rfl, (by show (0 : Int) < _; decide), ?_⟩⟩
      refine ⟨_, rfl, _, _, _, 1, rfl, rfl, hp, rfl, ?_⟩
      have e2 : ∀ z : Int, atI ([.int x, .int z] : List V) ((1 : Nat) : Int) = some (.int z) := fun z => atI_nat rfl
      have S2 : ∀ z : Int, SqL K (upd H p (.lst ([V.int x, V.int y].set 1 (.int z)))) p [.int x, .int z] := fun z => SqL.of upd_same
      refine ⟨_, rfl, _, _, _, _, rfl, rfl, S2 _, e2 _, _, rfl, _, _, _, _, rfl, rfl, S2 _, e2 _, _, _, rfl, rfl, mulx_ok (a := 100) (b := 100) (by omega) (by omega) (by decide), ?_⟩
      refine .inl ⟨_, rfl, _, _, rfl, rfl, (by show (0 : Int) < _; decide), _, _, rfl, rfl, ⟨(by show (0 : Int) < _; decide), (by decide)⟩, .inl ⟨_, rfl, _, rfl, _, _, rfl, rfl, hn, ?_⟩⟩
      refine q _ _ ⟨fun b o nb e => ?_, _, _, upd_same, hx, by omega, by omega⟩ (Int.emod_nonneg _ (by omega)) (Int.emod_lt_of_pos _ hn)
      rw [upd_ne nb]
      exact e
end
def sp_pick (K : PySem.W.Frag) : Sp := fun vs H Q _ => ∃ (p l : Addr) (xs : List V), vs = [.ref p, .ref l] ∧ PotAt H p ∧ SqL K H l xs ∧ l ≠ p ∧ 0 < xs.length ∧ xs.length ≤ 1000 ∧
  ∀ H' (i : Nat) v, Mov p H H' → xs[i]? = some v → Q v H'
section
variable {P : Program} {w : World} {K : PySem.W.Frag} {mg : Str → Option Value} {base : Heap} {a : Ad}
theorem ok_pick (T : Txt K mg a) : FnOk P w K mg base CX0 2 a.f_pick a.d_pick ["_law_pot_here", "_law_some"] (sp_pick K) := by
  refine T.F_pick.ok sc_pick (fun vs H Q E h => ?_) (fun cdv A outer s H vs Q E hr h => ?_)
  · obtain ⟨p, l, xs, rfl, _⟩ := h
    rfl
  · obtain ⟨p, l, xs, rfl, hp, hS, hne, h0, h1, q⟩ := h
    refine ⟨_, (pss_one (ps_ret (pe_ix (ix_listK (K := K) rfl) (pv 1) (pe_call (ok_draw T) (hr.mono (by decide)) (by rfl) T.m_draw T.F_draw.kp (b_draw T) .nil pass0 (pa_cons (pv 0) (pa_cons (pe_callB (call_lenK (K := K) rfl) (by rfl) T.b_len (by decide +kernel) (pa_cons (pv 1) pa_nil)) pa_nil))) (fun _ _ => rfl)))), ?_⟩
    refine ⟨_, rfl, _, rfl, _, rfl, _, _, rfl, .inl hS, ?_⟩
    refine ⟨p, _, rfl, hp, by omega, by unfold Bd; omega, fun H' d m d0 d1 => ?_⟩
    have hi : d.toNat < xs.length := by omega
    have e : atI xs d = some xs[d.toNat] := by
      have := atI_nat (xs := xs) (j := d.toNat) (List.getElem?_eq_getElem hi)
      rwa [Int.toNat_of_nonneg d0] at this
    exact ⟨_, _, _, _, rfl, rfl, SqL.mov m hne hS, e, q _ _ _ m (List.getElem?_eq_getElem hi)⟩
end
end K20

set_option Elab.async false
set_option linter.all false
set_option maxRecDepth 100000
set_option maxHeartbeats 4000000
namespace K20
open PySem L2 Lb PySem.Spec
open PyProof.Rows (sortedS risingS)
/-! the order of texts, sorted lists of them -/
def leS (a b : Str) : Bool := !ltCps b.cps.toList a.cps.toList
theorem lt_total : ∀ {x y : List Nat}, ltCps x y = false → ltCps y x = false → x = y
  | [], [], _, _ => rfl
  | [], _ :: _, h, _ => by simp [ltCps] at h
  | _ :: _, [], _, h => by simp [ltCps] at h
  | a :: r, b :: t, h, k => by
    simp only [ltCps, Bool.or_eq_false_iff, decide_eq_false_iff_not, Bool.and_eq_false_iff, beq_eq_false_iff_ne] at h k
    have e : a = b := by omega
    subst e
    rw [lt_total (x := r) (y := t) (by rcases h.2 with z | z; exact absurd rfl z; exact z) (by rcases k.2 with z | z; exact absurd rfl z; exact z)]
theorem lt_trans : ∀ {x y z : List Nat}, ltCps x y = true → ltCps y z = true → ltCps x z = true
  | [], y, z, h, k => by
    cases z with
    | nil => cases y <;> simp [ltCps] at k
    | cons c s => rfl
  | _ :: _, [], _, h, _ => by simp [ltCps] at h
  | a :: r, b :: t, [], _, k => by simp [ltCps] at k
  | a :: r, b :: t, c :: s, h, k => by
    simp only [ltCps, Bool.or_eq_true, decide_eq_true_eq, Bool.and_eq_true, beq_iff_eq] at h k ⊢
    rcases h with h | ⟨rfl, h⟩
    · rcases k with k | ⟨rfl, k⟩
      · left; omega
      · left; omega
    · rcases k with k | ⟨rfl, k⟩
      · left; omega
      · right; exact ⟨rfl, lt_trans h k⟩
theorem lt_irrefl : ∀ {x : List Nat}, ltCps x x = false
  | [] => rfl
  | a :: r => by simp [ltCps, lt_irrefl (x := r)]
theorem str_ext {a b : Str} (h : a.cps.toList = b.cps.toList) : a = b := by
  cases a with
  | mk x =>
    cases b with
    | mk y =>
      have : x = y := by cases x; cases y; simpa using h
      rw [this]
theorem leS_anti {a b : Str} (h : leS a b = true) (k : leS b a = true) : a = b := by
  unfold leS at h k
  simp only [Bool.not_eq_true'] at h k
  exact str_ext (lt_total k h)
theorem leS_total (a b : Str) : (leS a b || leS b a) = true := by
  unfold leS
  cases h : ltCps b.cps.toList a.cps.toList with
  | false => rfl
  | true =>
    cases k : ltCps a.cps.toList b.cps.toList with
    | false => rfl
    | true =>
      have := lt_trans h k
      rw [lt_irrefl] at this
      cases this
theorem leS_trans {a b c : Str} (h : leS a b = true) (k : leS b c = true) : leS a c = true := by
  unfold leS at h k ⊢
  simp only [Bool.not_eq_true'] at h k ⊢
  cases e : ltCps c.cps.toList a.cps.toList with
  | false => rfl
  | true =>
    exfalso
    -- c < a, not b < a (h: ltCps b a = false), not c < b
    cases e2 : ltCps a.cps.toList b.cps.toList with
    | true =>
      have := lt_trans e e2
      rw [k] at this
      cases this
    | false =>
      have := lt_total e2 h
      rw [this] at e
      rw [e] at k
      cases k
def srt (l : List Str) : List Str := l.mergeSort leS
theorem rising_pw : ∀ (l : List Str) (p : Str), risingS p l = true → (p :: l).Pairwise (fun a b => leS a b = true)
  | [], p, _ => by simp
  | x :: r, p, h => by
    have h : (!ltCps x.cps.toList p.cps.toList && risingS x r) = true := h
    rw [Bool.and_eq_true] at h
    have ih := rising_pw r x h.2
    refine List.pairwise_cons.mpr ⟨fun y hy => ?_, ih⟩
    rcases List.mem_cons.mp hy with rfl | hy
    · exact h.1
    · exact leS_trans (b := x) h.1 ((List.pairwise_cons.mp ih).1 y hy)
theorem sorted_pw {l : List Str} (h : sortedS l = true) : l.Pairwise (fun a b => leS a b = true) := by
  cases l with
  | nil => exact .nil
  | cons x r => exact rising_pw r x h
theorem srt_perm (l : List Str) : (srt l).Perm l := List.mergeSort_perm l leS
theorem srt_pw (l : List Str) : (srt l).Pairwise (fun a b => leS a b = true) := List.pairwise_mergeSort (le := leS) (fun _ _ _ => leS_trans) leS_total l
theorem srt_of {xs ys : List Str} (p : ys.Perm xs) (h : sortedS ys = true) : ys = srt xs :=
  List.Perm.eq_of_pairwise (fun _ _ _ _ => leS_anti) (sorted_pw h) (srt_pw xs) (p.trans (srt_perm xs).symm)
theorem srt_congr {xs ys : List Str} (p : xs.Perm ys) : srt xs = srt ys :=
  List.Perm.eq_of_pairwise (fun _ _ _ _ => leS_anti) (srt_pw xs) (srt_pw ys) ((srt_perm xs).trans (p.trans (srt_perm ys).symm))
theorem srt_srt (l : List Str) : srt (srt l) = srt l := srt_congr (srt_perm l)
theorem srt_len (l : List Str) : (srt l).length = l.length := (srt_perm l).length_eq
theorem srt_mem {l : List Str} {x : Str} : x ∈ srt l ↔ x ∈ l := (srt_perm l).mem_iff
/-! names -/
def lett (c : Nat) : Bool := decide (97 ≤ c) && decide (c ≤ 122)
def nmS (z : Str) : Bool := decide (1 ≤ z.cps.toList.length) && (decide (z.cps.toList.length ≤ 8) && z.cps.toList.all lett)
/-! data -/
inductive Dt where
  | non | bl (b : Bool) | int (i : Int) | str (z : Str) | ls (l : List Dt) | tp (l : List Dt) | dc | dk (k : Str)
def dkO (k : Str) : List (Key × V) := [(.inr k, .int 1)]
mutual
def At (H : Hp) : Dt → V → Prop
  | .non, v => v = .non
  | .bl b, v => v = .bl b
  | .int i, v => v = .int i
  | .str z, v => v = .str z
  | .ls l, v => ∃ a xs, v = .ref a ∧ H a = some (.lst xs) ∧ Ats H l xs
  | .tp l, v => ∃ a xs, v = .ref a ∧ H a = some (.tup xs) ∧ Ats H l xs
  | .dc, v => ∃ a, v = .ref a ∧ H a = some (.dK [])
  | .dk k, v => ∃ a, v = .ref a ∧ H a = some (.dK (dkO k))
def Ats (H : Hp) : List Dt → List V → Prop
  | [], xs => xs = []
  | t :: ts, xs => ∃ x r, xs = x :: r ∧ At H t x ∧ Ats H ts r
end
theorem ats_nil {H : Hp} : Ats H [] [] := by simp only [Ats]
theorem ats_cons {H : Hp} {d : Dt} {l : List Dt} {x : V} {xs : List V} (h : At H d x) (k : Ats H l xs) : Ats H (d :: l) (x :: xs) := by
  simp only [Ats]
  exact ⟨x, xs, rfl, h, k⟩
theorem ats_inv {H : Hp} {d : Dt} {l : List Dt} {xs : List V} (h : Ats H (d :: l) xs) : ∃ x r, xs = x :: r ∧ At H d x ∧ Ats H l r := by
  simpa only [Ats] using h
theorem ats_inv0 {H : Hp} {xs : List V} (h : Ats H [] xs) : xs = [] := by simpa only [Ats] using h
mutual
theorem At.same {H H' : Hp} (s : Same H H') : ∀ (d : Dt) (v : V), At H d v → At H' d v
  | .non, _, h => by simp only [At] at h ⊢; exact h
  | .bl _, _, h => by simp only [At] at h ⊢; exact h
  | .int _, _, h => by simp only [At] at h ⊢; exact h
  | .str _, _, h => by simp only [At] at h ⊢; exact h
  | .ls l, _, h => by simp only [At] at h ⊢; obtain ⟨a, xs, e, h1, h2⟩ := h; exact ⟨a, xs, e, s _ _ h1, Ats.same s l xs h2⟩
  | .tp l, _, h => by simp only [At] at h ⊢; obtain ⟨a, xs, e, h1, h2⟩ := h; exact ⟨a, xs, e, s _ _ h1, Ats.same s l xs h2⟩
  | .dc, _, h => by simp only [At] at h ⊢; obtain ⟨a, e, h1⟩ := h; exact ⟨a, e, s _ _ h1⟩
  | .dk _, _, h => by simp only [At] at h ⊢; obtain ⟨a, e, h1⟩ := h; exact ⟨a, e, s _ _ h1⟩
theorem Ats.same {H H' : Hp} (s : Same H H') : ∀ (l : List Dt) (xs : List V), Ats H l xs → Ats H' l xs
  | [], _, h => by simp only [Ats] at h ⊢; exact h
  | t :: r, _, h => by simp only [Ats] at h ⊢; obtain ⟨x, q, e, h1, h2⟩ := h; exact ⟨x, q, e, At.same s t x h1, Ats.same s r q h2⟩
end
theorem Ats.len {H : Hp} : ∀ {l : List Dt} {xs : List V}, Ats H l xs → xs.length = l.length
  | [], _, h => by rw [ats_inv0 h]; rfl
  | t :: r, _, h => by
    obtain ⟨x, q, rfl, _, h2⟩ := ats_inv h
    simp only [List.length_cons, h2.len]
theorem Ats.at_ {H : Hp} : ∀ {l : List Dt} {xs : List V} {i : Nat} {x : V}, Ats H l xs → xs[i]? = some x → ∃ d, l[i]? = some d ∧ At H d x
  | [], _, i, x, h, e => by rw [ats_inv0 h] at e; simp at e
  | t :: r, _, i, x, h, e => by
    obtain ⟨y, q, rfl, h1, h2⟩ := ats_inv h
    cases i with
    | zero => simp at e; subst e; exact ⟨t, rfl, h1⟩
    | succ i =>
      obtain ⟨d, e1, e2⟩ := h2.at_ (i := i) (by simpa using e)
      exact ⟨d, by simpa using e1, e2⟩
theorem Ats.get {H : Hp} {l : List Dt} {xs : List V} {i : Nat} {d : Dt} (h : Ats H l xs) (e : l[i]? = some d) : ∃ x, xs[i]? = some x ∧ At H d x := by
  have hi := (List.getElem?_eq_some_iff.mp e).1
  obtain ⟨d', e1, e2⟩ := h.at_ (i := i) (List.getElem?_eq_getElem (by rw [h.len]; exact hi))
  rw [e] at e1
  cases e1
  exact ⟨_, List.getElem?_eq_getElem (by rw [h.len]; exact hi), e2⟩
theorem Ats.append {H : Hp} : ∀ {l m : List Dt} {xs ys : List V}, Ats H l xs → Ats H m ys → Ats H (l ++ m) (xs ++ ys)
  | [], _, _, _, h, k => by rw [ats_inv0 h]; exact k
  | t :: r, _, _, _, h, k => by
    obtain ⟨x, q, rfl, h1, h2⟩ := ats_inv h
    exact ats_cons h1 (h2.append k)
theorem Ats.drop {H : Hp} : ∀ {l : List Dt} {xs : List V} (n : Nat), Ats H l xs → Ats H (l.drop n) (xs.drop n)
  | _, _, 0, h => h
  | [], _, n + 1, h => by rw [ats_inv0 h]; exact ats_nil
  | t :: r, _, n + 1, h => by
    obtain ⟨x, q, rfl, h1, h2⟩ := ats_inv h
    exact h2.drop n
theorem Ats.take {H : Hp} : ∀ {l : List Dt} {xs : List V} (n : Nat), Ats H l xs → Ats H (l.take n) (xs.take n)
  | _, _, 0, h => ats_nil
  | [], _, n + 1, h => by rw [ats_inv0 h]; exact ats_nil
  | t :: r, _, n + 1, h => by
    obtain ⟨x, q, rfl, h1, h2⟩ := ats_inv h
    exact ats_cons h1 (h2.take n)
theorem ats_strs {H : Hp} : ∀ {x : List Str} {xs : List V}, Ats H (x.map Dt.str) xs ↔ xs = x.map V.str
  | [], xs => by simp only [List.map_nil, Ats]
  | z :: r, xs => by
    simp only [List.map_cons, Ats, At]
    constructor
    · rintro ⟨_, q, rfl, rfl, h⟩
      rw [ats_strs.mp h]
    · rintro rfl
      exact ⟨_, _, rfl, rfl, ats_strs.mpr rfl⟩
/-! what the program makes of it -/
def nmD : Dt → Option Str
  | .str z => if nmS z = true then some z else none
  | _ => none
def seqD : Dt → Option (List Dt)
  | .ls l => some l
  | .tp l => some l
  | _ => none
def lvD (d : Dt) : Option (List Str) := match seqD d with
  | some (t :: r) => (t :: r).mapM nmD
  | _ => none
abbrev Pl := List (Str × Nat)
def addN (i : Nat) : List Str → Pl → Option Pl
  | [], acc => some acc
  | z :: r, acc => if z ∈ acc.map (·.1) then none else addN i r (acc ++ [(z, i)])
def plc : Nat → List Dt → Pl → Except Nat Pl
  | _, [], acc => .ok acc
  | i, d :: r, acc => match lvD d with
    | none => .error i
    | some x => match addN i x acc with
      | none => .error i
      | some acc' => plc (i + 1) r acc'
def places (d : Dt) : Except (Option Nat) Pl := match seqD d with
  | some (t :: r) => (match plc 0 (t :: r) [] with
    | .ok k => .ok k
    | .error i => .error (some i))
  | _ => .error none
end K20

set_option Elab.async false
set_option linter.all false
set_option maxRecDepth 100000
set_option maxHeartbeats 4000000
namespace K20
open PySem L2 Lb
def sp_pickS : Sp := fun vs H Q _ => ∃ (p : Addr) (z : Str), vs = [.ref p, .str z] ∧ PotAt H p ∧ 0 < z.length ∧ z.length ≤ 1000 ∧
  ∀ H' (i : Nat) c, Mov p H H' → z.cps.toList[i]? = some c → Q (.str ⟨#[c]⟩) H'
section
variable {P : Program} {w : World} {K : PySem.W.Frag} {mg : Str → Option Value} {base : Heap} {a : Ad}
/-- pick, of a text -/
theorem ok_pickS (T : Txt K mg a) : FnOk P w K mg base CX0 2 a.f_pick a.d_pick ["_law_pot_here", "_law_some"] sp_pickS := by
  refine T.F_pick.ok sc_pick (fun vs H Q E h => ?_) (fun cdv A outer s H vs Q E hr h => ?_)
  · obtain ⟨p, z, rfl, _⟩ := h
    rfl
  · obtain ⟨p, z, rfl, hp, h0, h1, q⟩ := h
    refine ⟨_, (pss_one (ps_ret (pe_ix ix_str (pv 1) (pe_call (ok_draw T) (hr.mono (by decide)) (by rfl) T.m_draw T.F_draw.kp (b_draw T) .nil pass0 (pa_cons (pv 0) (pa_cons (pe_callB call_len_str (by rfl) T.b_len (by decide +kernel) (pa_cons (pv 1) pa_nil)) pa_nil))) (fun _ _ => rfl)))), ?_⟩
    refine ⟨_, rfl, _, rfl, _, rfl, z, rfl, szle (by omega), ?_⟩
    refine ⟨p, _, rfl, hp, by omega, by unfold Bd; omega, fun H' d m d0 d1 => ?_⟩
    have hl : z.length = z.cps.toList.length := by simp [Str.length]
    have hi : d.toNat < z.cps.toList.length := by omega
    have e : atI z.cps.toList d = some z.cps.toList[d.toNat] := by
      have := atI_nat (xs := z.cps.toList) (j := d.toNat) (List.getElem?_eq_getElem hi)
      rwa [Int.toNat_of_nonneg d0] at this
    exact ⟨_, _, _, rfl, rfl, szle (by omega), e, q _ _ _ m (List.getElem?_eq_getElem hi)⟩
end
end K20

set_option Elab.async false
set_option linter.all false
set_option maxRecDepth 100000
set_option maxHeartbeats 4000000
/-! texts cut at a sign: partition, split, removeprefix -/
namespace Lb
open PySem PyProof.Rows
/-- the text of these signs -/
def tx (l : List Nat) : Str := ⟨l.toArray⟩
theorem tx_list (l : List Nat) : (tx l).cps.toList = l := rfl
theorem tx_of (x : Str) : tx x.cps.toList = x := by
  cases x
  rfl
theorem tx_inj {a b : List Nat} (h : tx a = tx b) : a = b := by
  have := congrArg (fun x : Str => x.cps.toList) h
  exact this
theorem tx_app (a b : List Nat) : tx (a ++ b) = tx a ++ tx b := by
  show (⟨(a ++ b).toArray⟩ : Str) = ⟨a.toArray ++ b.toArray⟩
  simp
theorem tx_len (l : List Nat) : (tx l).length = l.length := List.size_toArray
/-- pieces put together -/
def glue (c : Nat) : List (List Nat) → List Nat
  | [] => []
  | [p] => p
  | p :: q :: r => p ++ c :: glue c (q :: r)
theorem glue_join (c : Nat) : ∀ ps : List Str, Str.join (tx [c]) ps = tx (glue c (ps.map fun p => p.cps.toList))
  | [] => rfl
  | [p] => (tx_of p).symm
  | p :: q :: r => by
    show p ++ tx [c] ++ Str.join (tx [c]) (q :: r) = tx (p.cps.toList ++ c :: glue c ((q :: r).map fun p => p.cps.toList))
    rw [glue_join c (q :: r), show p.cps.toList ++ c :: glue c ((q :: r).map fun p => p.cps.toList) = (p.cps.toList ++ [c]) ++ glue c ((q :: r).map fun p => p.cps.toList) by simp, tx_app, tx_app, tx_of]
theorem head_cut {c : Nat} : ∀ {a b x y : List Nat}, c ∉ a → c ∉ b → a ++ c :: x = b ++ c :: y → a = b ∧ x = y
  | [], [], _, _, _, _, h => ⟨rfl, (List.cons.inj h).2⟩
  | [], d :: b, _, _, _, hb, h => absurd (by rw [(List.cons.inj h).1]; simp) hb
  | d :: a, [], _, _, ha, _, h => absurd (by rw [← (List.cons.inj h).1]; simp) ha
  | d :: a, e :: b, x, y, ha, hb, h => by
    obtain ⟨h1, h2⟩ := List.cons.inj h
    obtain ⟨h3, h4⟩ := head_cut (fun m => ha (List.mem_cons_of_mem _ m)) (fun m => hb (List.mem_cons_of_mem _ m)) h2
    exact ⟨by rw [h1, h3], h4⟩
theorem glue_inj {c : Nat} : ∀ {ps qs : List (List Nat)}, ps ≠ [] → qs ≠ [] → (∀ p ∈ ps, c ∉ p) → (∀ p ∈ qs, c ∉ p) → glue c ps = glue c qs → ps = qs
  | [], _, h, _, _, _, _ => absurd rfl h
  | _, [], _, h, _, _, _ => absurd rfl h
  | [p], [q], _, _, _, _, h => by rw [show p = q from h]
  | [p], q :: r :: s, _, _, hp, _, h => absurd (by rw [show p = q ++ c :: glue c (r :: s) from h]; simp) (hp p (by simp))
  | p :: r :: s, [q], _, _, _, hq, h => absurd (by rw [show q = p ++ c :: glue c (r :: s) from h.symm]; simp) (hq q (by simp))
  | p :: p2 :: ps, q :: q2 :: qs, _, _, hp, hq, h => by
    obtain ⟨h1, h2⟩ := head_cut (hp p (by simp)) (hq q (by simp)) (show p ++ c :: glue c (p2 :: ps) = q ++ c :: glue c (q2 :: qs) from h)
    rw [h1, glue_inj (by simp) (by simp) (fun p h => hp p (List.mem_cons_of_mem _ h)) (fun p h => hq p (List.mem_cons_of_mem _ h)) h2]
/-- split tells the pieces -/
theorem split_pieces {c : Nat} {ps : List (List Nat)} (hn : ps ≠ []) (hf : ∀ p ∈ ps, c ∉ p) : Txt.split (tx (glue c ps)) (tx [c]) = ps.map tx := by
  have e := StrLaws.join_split (tx (glue c ps)) (tx [c])
  rw [glue_join] at e
  have e2 := tx_inj e
  have ne : Txt.split (tx (glue c ps)) (tx [c]) ≠ [] := fun z => by
    have := split_pos (tx (glue c ps)) (tx [c])
    rw [z] at this
    exact absurd this (by decide)
  have e3 := glue_inj (c := c) (by simpa using ne) hn (fun p hp => by
    obtain ⟨q, hq, rfl⟩ := List.mem_map.mp hp
    exact StrLaws.split_free (tx (glue c ps)) c q hq) hf e2
  have e4 := congrArg (List.map tx) e3
  rw [List.map_map] at e4
  have id_ : (tx ∘ fun p : Str => p.cps.toList) = id := funext tx_of
  rw [id_, List.map_id] at e4
  exact e4
/-- each text has its pieces -/
theorem pieces_of (c : Nat) : ∀ x : List Nat, ∃ ps : List (List Nat), ps ≠ [] ∧ (∀ p ∈ ps, c ∉ p) ∧ x = glue c ps
  | [] => ⟨[[]], by simp, by simp, rfl⟩
  | d :: x => by
    obtain ⟨ps, hn, hf, e⟩ := pieces_of c x
    by_cases h : d = c
    · subst h
      refine ⟨[] :: ps, by simp, fun p hp => ?_, ?_⟩
      · rcases List.mem_cons.mp hp with h | h
        · rw [h]; simp
        · exact hf p h
      · cases ps with
        | nil => exact absurd rfl hn
        | cons p r => rw [e]; rfl
    · cases ps with
      | nil => exact absurd rfl hn
      | cons p r =>
        refine ⟨(d :: p) :: r, by simp, fun q hq => ?_, ?_⟩
        · rcases List.mem_cons.mp hq with hq | hq
          · rw [hq]
            intro m
            rcases List.mem_cons.mp m with m | m
            · exact h m.symm
            · exact hf p (by simp) m
          · exact hf q (List.mem_cons_of_mem _ hq)
        · rw [e]
          cases r <;> rfl
theorem at_of {x : List Nat} {c i : Nat} : StrLaws.At (tx x) (tx [c]) (tx x).length i ↔ x[i]? = some c := by
  unfold StrLaws.At
  rw [StrLaws.subAt_eq]
  show (i + 1 ≤ (tx x).length ∧ ((x.drop i).take 1 == [c]) = true) ↔ _
  rw [tx_len]
  constructor
  · rintro ⟨h1, h2⟩
    have h2 := beq_iff_eq.mp h2
    have h3 : (x.drop i)[0]? = some c := by
      have := congrArg (fun l : List Nat => l[0]?) h2
      simpa using this
    simpa using h3
  · intro h
    have hi := (List.getElem?_eq_some_iff.mp h).1
    refine ⟨by omega, beq_iff_eq.mpr ?_⟩
    obtain ⟨_, e⟩ := List.getElem?_eq_some_iff.mp h
    rw [List.drop_eq_getElem_cons hi, e]
    rfl
/-- partition where the sign stands nowhere, and where it stands -/
theorem partition_none {x : List Nat} {c : Nat} (h : c ∉ x) : Txt.partition (tx x) (tx [c]) = (tx x, Str.empty, Str.empty) := by
  unfold Txt.partition
  rcases StrLaws.occ_head (tx x) (tx [c]) 1 (Nat.le_refl 1) with ⟨h0, _⟩ | ⟨i, r, _, hi, _⟩
  · rw [h0]
  · exact absurd (List.mem_of_getElem? (at_of.mp hi)) h
theorem partition_some {a b : List Nat} {c : Nat} (h : c ∉ a) : Txt.partition (tx (a ++ c :: b)) (tx [c]) = (tx a, tx [c], tx b) := by
  have ha : (a ++ c :: b)[a.length]? = some c := by simp
  unfold Txt.partition
  rcases StrLaws.occ_head (tx (a ++ c :: b)) (tx [c]) 1 (Nat.le_refl 1) with ⟨_, hn⟩ | ⟨i, r, h0, hi, hf⟩
  · exact absurd (at_of.mpr ha) (hn a.length)
  · have e : i = a.length := by
      rcases Nat.lt_trichotomy i a.length with q | q | q
      · have := at_of.mp hi
        rw [List.getElem?_append_left q] at this
        exact absurd (List.mem_of_getElem? this) h
      · exact q
      · exact absurd (at_of.mpr ha) (hf _ q)
    subst e
    rw [h0]
    show (Builtin.Str.strSub _ 0 a.length, tx [c], Builtin.Str.strSub _ (a.length + 1) _) = _
    rw [strSub_mk, strSub_mk, tx_list]
    have e1 : ((a ++ c :: b).drop 0).take (a.length - 0) = a := by simp
    have e2 : ((a ++ c :: b).drop (a.length + 1)).take ((tx (a ++ c :: b)).length - (a.length + 1)) = b := by
      rw [tx_len]
      simp
      rw [show a.length + (b.length + 1) - (a.length + 1) = b.length by omega, List.take_length]
    rw [e1, e2]
    rfl
/-- removeprefix of one sign -/
theorem removeprefix_one {x : List Nat} {c : Nat} : Txt.removeprefix (tx x) (tx [c]) = match x with
    | [] => tx []
    | d :: r => if d = c then tx r else tx (d :: r) := by
  rw [StrLaws.removeprefix_eq, StrLaws.subAt_eq, tx_len, tx_len]
  cases x with
  | nil => rfl
  | cons d r =>
    by_cases h : d = c
    · subst h
      simp [tx]
    · show (if (decide (0 + 1 ≤ (d :: r).length) && (List.take 1 (d :: r) == [c])) = true then _ else tx (d :: r)) = if d = c then tx r else tx (d :: r)
      rw [if_neg (by simp [h]), if_neg h]
end Lb

set_option Elab.async false
set_option linter.all false
set_option maxRecDepth 100000
set_option maxHeartbeats 4000000
namespace K20
open PySem L2 Lb
theorem op_notInK {X : Cx} {K : PySem.W.Frag} (hK : X.K = K) : OpR X (compareOp .NotIn) (rIn K true) := by subst hK; exact op_notIn_seq
theorem alphabet {d : Int} (h0 : 0 ≤ d) (h : d < 26) : ∃ c, atI (Str.ofString "abcdefghijklmnopqrstuvwxyz").cps.toList d = some c ∧ lett c = true := by
  obtain ⟨n, rfl⟩ := Int.eq_ofNat_of_zero_le h0
  have hn : n < 26 := by omega
  have e : (Str.ofString "abcdefghijklmnopqrstuvwxyz").cps.toList = (List.range 26).map (· + 97) := by decide +kernel
  rw [e]
  refine ⟨n + 97, atI_nat (by rw [List.getElem?_map, List.getElem?_range hn]; rfl), ?_⟩
  unfold lett
  rw [decide_eq_true (show 97 ≤ n + 97 by omega), decide_eq_true (show n + 97 ≤ 122 by omega)]
  rfl
def s1 (c : Nat) : Str := ⟨#[c]⟩
theorem cat_s1 : ∀ cs : List Nat, cat (cs.map s1) = tx cs
  | [] => rfl
  | c :: r => by
    rw [List.map_cons, cat, cat_s1 r]
    exact str_ext (by show ((#[c] : Array Nat) ++ r.toArray).toList = _; simp [tx])
def Ls : List Nat := (Str.ofString "abcdefghijklmnopqrstuvwxyz").cps.toList
theorem Ls_eq : Ls = (List.range 26).map (· + 97) := by decide +kernel
theorem Ls_len : Ls.length = 26 := by decide +kernel
theorem app_s1 (cs : List Nat) (c : Nat) : (tx cs ++ s1 c).cps.toList = cs ++ [c] := by
  show ((cs.toArray : Array Nat) ++ #[c]).toList = _
  simp
def others (cs : List Nat) : List Str := Ls.map fun c => tx (cs.take 2) ++ s1 c
def cands (cs : List Nat) : List Str := tx cs :: others cs
theorem others_len (cs : List Nat) : (others cs).length = 26 := by unfold others; rw [List.length_map, Ls_len]
theorem cands_len (cs : List Nat) : (cands cs).length = 27 := by unfold cands; rw [List.length_cons, others_len]
theorem others_nd (cs : List Nat) : (others cs).Nodup := by
  unfold others
  rw [List.Nodup, List.pairwise_map]
  have h : Ls.Nodup := by decide +kernel
  refine List.Pairwise.imp ?_ h
  intro a b hab e
  have e := congrArg (fun z : Str => z.cps.toList) e
  have e : (tx (cs.take 2) ++ s1 a).cps.toList = (tx (cs.take 2) ++ s1 b).cps.toList := e
  rw [app_s1, app_s1] at e
  simp at e
  exact hab e
theorem cands_left (cs : List Nat) {zs : List Str} (h : zs.length < 26) : ∃ y r, (cands cs).filter (fun z => decide (z ∉ zs)) = y :: r := by
  cases e : (cands cs).filter (fun z => decide (z ∉ zs)) with
  | cons y r => exact ⟨y, r, rfl⟩
  | nil =>
    have sub : others cs ⊆ zs := fun z hz => by
      rw [List.filter_eq_nil_iff] at e
      have := e z (List.mem_cons_of_mem _ hz)
      simpa using this
    have := (others_nd cs).length_le_of_subset sub
    rw [others_len] at this
    omega
theorem nmS_of {z : Str} {cs : List Nat} (e : z.cps.toList = cs) (h : ∀ c ∈ cs, lett c = true) (h1 : 1 ≤ cs.length) (h2 : cs.length ≤ 8) : nmS z = true := by
  unfold nmS
  rw [e, decide_eq_true h1, decide_eq_true h2, Bool.true_and, Bool.true_and, List.all_eq_true]
  exact h
theorem cands_nm {cs : List Nat} (h : ∀ c ∈ cs, lett c = true) (h1 : 1 ≤ cs.length) (h2 : cs.length ≤ 3) {y : Str} (hy : y ∈ cands cs) : nmS y = true ∧ y.length ≤ 3 := by
  have hl : ∀ z : Str, z.length = z.cps.toList.length := fun z => by simp [Str.length]
  unfold cands at hy
  rcases List.mem_cons.mp hy with rfl | hy
  · have e : (tx cs).cps.toList = cs := by simp [tx]
    exact ⟨nmS_of e h h1 (by omega), by rw [hl, e]; omega⟩
  · obtain ⟨c, hc, rfl⟩ := List.mem_map.mp hy
    have e := app_s1 (cs.take 2) c
    have lc : lett c = true := by
      rw [Ls_eq] at hc
      obtain ⟨n, hn, rfl⟩ := List.mem_map.mp hc
      rw [List.mem_range] at hn
      unfold lett
      rw [decide_eq_true (show 97 ≤ n + 97 by omega), decide_eq_true (show n + 97 ≤ 122 by omega)]
      rfl
    have ht : (cs.take 2).length ≤ 2 := List.length_take_le _ _
    refine ⟨nmS_of e (fun z hz => ?_) (by rw [List.length_append]; simp) (by rw [List.length_append]; show _ + 1 ≤ 8; omega), by rw [hl, e, List.length_append]; show _ + 1 ≤ 3; omega⟩
    rcases List.mem_append.mp hz with hz | hz
    · exact h z (List.mem_of_mem_take hz)
    · rw [List.mem_singleton.mp hz]; exact lc
theorem flat_strs : ∀ zs : List Str, (zs.map V.str).all flatV = true
  | [] => rfl
  | z :: r => by rw [List.map_cons, List.all_cons, flat_strs r]; rfl
theorem inV_strs (y : Str) : ∀ zs : List Str, inV (.str y) (zs.map V.str) = decide (y ∈ zs)
  | [] => by simp [inV]
  | z :: r => by
    have ih := inV_strs y r
    unfold inV at ih ⊢
    rw [List.map_cons, List.any_cons, ih]
    have : eqV (.str z) (.str y) = (z == y) := rfl
    rw [this, Bool.eq_iff_iff]
    simp only [Bool.or_eq_true, beq_iff_eq, decide_eq_true_eq, List.mem_cons]
    exact ⟨fun h => h.imp Eq.symm id, fun h => h.imp Eq.symm id⟩
def sp_names : Sp := fun vs H Q _ => ∃ (p : Addr) (n : Nat), vs = [.ref p, .int n] ∧ PotAt H p ∧ n ≤ 20 ∧
  ∀ H' l (zs : List Str), Mov p H H' → H l = none → H' l = some (.lst (zs.map V.str)) → zs.length = n → zs.Nodup → (∀ z ∈ zs, nmS z = true ∧ z.length ≤ 3) → Q (.ref l) H'
end K20

set_option Elab.async false
set_option linter.all false
set_option maxRecDepth 100000
set_option maxHeartbeats 4000000
namespace K20
open PySem L2 Lb
open C8 (pss_cut)
theorem take_snoc {α : Type} {l : List α} {i : Nat} {x : α} (h : l[i]? = some x) : l.take i ++ [x] = l.take (i + 1) := by
  rw [List.take_succ, h]
  rfl
theorem sum_le : ∀ {ts : List Str} {n : Nat}, (∀ t ∈ ts, t.length ≤ n) → (ts.map (·.length)).sum ≤ ts.length * n
  | [], n, _ => by simp
  | t :: r, n, h => by
    have h1 := h t List.mem_cons_self
    have h2 := sum_le (ts := r) (n := n) fun z hz => h z (List.mem_cons_of_mem _ hz)
    rw [List.map_cons, List.sum_cons, List.length_cons, Nat.add_mul, Nat.one_mul]
    omega
theorem mov_upd {p D : Addr} {H H' : Hp} {o : HO} (m : Mov p H H') (hp : PotAt H p) (hD : H D = none) : Mov p H (upd H' D o) := by
  have hn : D ≠ p := by
    rintro rfl
    obtain ⟨_, _, e, _⟩ := hp
    rw [hD] at e
    cases e
  refine ⟨fun b u n e => ?_, ?_⟩
  · rw [upd_ne (ne_of_none e hD)]
    exact m.keep b u n e
  · obtain ⟨x, y, e, r⟩ := m.pot
    exact ⟨x, y, by rw [upd_ne hn.symm]; exact e, r⟩
theorem cut2 (cs : List Nat) : cutS (tx cs) none (some 2) = tx (cs.take 2) := by
  unfold cutS
  rw [show (2 : Int) = ((2 : Nat) : Int) from rfl, HT.sIx_nat, HT.sIx_none, tx_len]
  show (⟨((cs.drop 0).take (min 2 cs.length - 0)).toArray⟩ : Str) = _
  rw [List.drop_zero, Nat.sub_zero]
  unfold tx
  rw [show cs.take (min 2 cs.length) = cs.take 2 by rw [List.take_eq_take_iff]; omega]
section
variable {P : Program} {w : World} {K : PySem.W.Frag} {mg : Str → Option Value} {base : Heap} {a : Ad}
theorem ok_names (T : Txt K mg a) : FnOk P w K mg base CX0 3 a.f_names a.d_names ["_law_pot_here", "_law_many"] sp_names := by
  refine T.F_names.ok sc_names (fun vs H Q E h => ?_) (fun cdv A outer s H vs Q E hr h => ?_)
  · obtain ⟨p, n, rfl, _⟩ := h
    rfl
  · obtain ⟨p, n, rfl, hp, hn, k⟩ := h
    refine ⟨_, (pss_cons (ps_asg (pe_tup (pa_cons pe_str (pa_cons (pe_lst pa_nil) pa_nil))) (pg_tupK (K := K) (n := 2) rfl rfl (pgs_cons (pg_name (i := 2) sc_names.nd rfl (by first | exact Or.inl rfl | exact Or.inr rfl)) (pgs_cons (pg_name (i := 3) sc_names.nd rfl (by first | exact Or.inl rfl | exact Or.inr rfl)) pgs_nil))))
 (pss_cons (ps_for PassesOwn.never rfl (pi_range1 rfl T.b_range (pa_cons (pv 1) pa_nil)) (pg_name (i := 4) sc_names.nd rfl (by first | exact Or.inl rfl | exact Or.inr rfl)) (pss_cons (ps_set (i := 5) sc_names.nd rfl (by first | exact Or.inl rfl | exact Or.inr rfl) (pe_join pe_str (pe_lc (own := [("_law_step", 6)]) (by rfl) sc_names.nd (pi_range1 rfl T.b_range (pa_cons (pe_op op_add pe_int (pe_call (ok_draw T) (hr.mono (by decide)) (by rfl) T.m_draw T.F_draw.kp (b_draw T) .nil pass0 (pa_cons (pv 0) (pa_cons pe_int pa_nil)))) pa_nil)) (blkOk_by (own := [("_law_step", 6)]) (N := ["_law_pot_here", "_law_many", "_law_letters", "_law_found", "_law_turn", "_law_word", "_law_step", "_law_spare", "_law_letter", "_law_one"]) (sc := defScope s_names) (by decide +kernel)) (fun _ _ _ _ _ => (pg_name (i := 6) sc_names.nd rfl (by first | exact Or.inl rfl | exact Or.inr rfl))) (fun _ _ _ _ _ => pts_nil) (fun _ _ _ _ _ => (pe_call (ok_pickS T) (hr.mono (by decide)) (by rfl) T.m_pick T.F_pick.kp (b_pick T) .nil pass0 (pa_cons (pv 0) (pa_cons (pv 2) pa_nil)))))))
 (pss_cons (ps_set (i := 7) sc_names.nd rfl (by first | exact Or.inl rfl | exact Or.inr rfl) (pe_op op_cat (pe_lst (pa_cons (pv 5) pa_nil)) (pe_lc (own := [("_law_letter", 8)]) (by rfl) sc_names.nd (pi_str (pv 2)) (blkOk_by (own := [("_law_letter", 8)]) (N := ["_law_pot_here", "_law_many", "_law_letters", "_law_found", "_law_turn", "_law_word", "_law_step", "_law_spare", "_law_letter", "_law_one"]) (sc := defScope s_names) (by decide +kernel)) (fun _ _ _ _ _ => (pg_name (i := 8) sc_names.nd rfl (by first | exact Or.inl rfl | exact Or.inr rfl))) (fun _ _ _ _ _ => pts_nil) (fun _ _ _ _ _ => (pe_op op_add_str (pe_slice sl_str (pv 5) po_none (po_some pe_int)) (pv 8))))))
 (pss_one (ps_expr (pe_bm PySem.F.plainAttrs_list PySem.F.slot_list_append PySem.F.type_list_append mt_append (pv 3) (pa_cons (pe_ix (ix_listK (K := K) rfl) (pe_lc (own := [("_law_one", 9)]) (by rfl) sc_names.nd (pi_listK (K := K) rfl (pv 7)) (blkOk_by (own := [("_law_one", 9)]) (N := ["_law_pot_here", "_law_many", "_law_letters", "_law_found", "_law_turn", "_law_word", "_law_step", "_law_spare", "_law_letter", "_law_one"]) (sc := defScope s_names) (by decide +kernel)) (fun _ _ _ _ _ => (pg_name (i := 9) sc_names.nd rfl (by first | exact Or.inl rfl | exact Or.inr rfl))) (fun _ _ _ _ _ => pts_one (pt_cmpR (op_notInK (K := K) rfl) (pv 9) (pv 3) rfl)) (fun _ _ _ _ _ => (pv 9))) pe_int (fun _ _ => rfl)) pa_nil)))))))
 (pss_one (ps_ret (pv 3))))), ?_⟩
    refine ⟨sz, fun fl hfl => ⟨sz, fun tp htp => ⟨tp, _, rfl, SqT.of upd_same, rfl, _, _, rfl, _, _, rfl, rfl, ?_⟩⟩⟩
    have htp0 : H tp = none := by rw [← htp, upd_ne (fun z => by rw [z, upd_same] at htp; cases htp)]
    have nft : fl ≠ tp := fun z => by rw [z, upd_same] at htp; cases htp
    have hpf : fl ≠ p := fun z => by obtain ⟨_, _, e, _⟩ := hp; rw [z, e] at hfl; cases hfl
    have m0 := mov_upd (o := .tup [.str "abcdefghijklmnopqrstuvwxyz", .ref fl]) (mov_upd (o := .lst []) (Mov.refl hp) hp hfl) hp htp0
    refine ⟨_, rfl, n, rfl, by omega, by omega, ?_⟩
    rw [Int.toNat_natCast]
    refine for_range (fun i σ H' => ∃ u4 u5 u7, ∃ zs : List Str, σ = [some (.ref p), some (.int (n : Nat)), some (.str "abcdefghijklmnopqrstuvwxyz"), some (.ref fl), u4, u5, none, u7, none, none] ∧ Mov p H H' ∧ H' fl = some (.lst (zs.map V.str)) ∧ zs.length = i ∧ zs.Nodup ∧ ∀ z ∈ zs, nmS z = true ∧ z.length ≤ 3)
      ⟨_, _, _, [], rfl, m0, by rw [upd_ne nft, upd_same]; rfl, rfl, .nil, fun _ h => nomatch h⟩ ?_ ?_
    · rintro i σ H1 hi ⟨u4, u5, u7, zs, rfl, M1, el, hzl, hnd, hzs⟩
      refine ⟨⟨_, rfl⟩, ?_⟩
      refine ⟨_, rfl, p, _, rfl, M1.pot, by decide, by unfold Bd; decide, fun H2 d m2 d0 d1 => ⟨_, _, rfl, rfl, _, rfl, by omega, by omega, fun D hD => ?_⟩⟩
      have M2 := M1.trans m2
      have hpD : D ≠ p := m2.ne hD
      refine lc_it walk_range (fun j H' => Mov p H2 H' ∧ ∃ cs : List Nat, H' D = some (.lst ((cs.map s1).map V.str)) ∧ cs.length = j ∧ ∀ c ∈ cs, lett c = true) ⟨mov_upd (Mov.refl M2.pot) M2.pot hD, [], upd_same, rfl, fun _ h => nomatch h⟩ (fun _ _ _ _ => trivial) ?_ ?_
      · rintro j v H3 H4 hj ⟨M3, cs, eD, lc, hc⟩ ⟨rfl, rfl⟩
        refine ⟨rfl, _, rfl, _, rfl, p, _, rfl, M3.pot, by decide +kernel, by decide +kernel, fun H5 i5 c m5 hcc => ?_⟩
        have hl : lett c = true := by
          have hm : c ∈ Ls := List.mem_of_getElem? hcc
          rw [Ls_eq] at hm
          obtain ⟨n, hn, rfl⟩ := List.mem_map.mp hm
          rw [List.mem_range] at hn
          unfold lett
          rw [decide_eq_true (show 97 ≤ n + 97 by omega), decide_eq_true (show n + 97 ≤ 122 by omega)]
          rfl
        have eD5 := m5.keep _ _ hpD eD
        refine ⟨_, eD5, szlt (by rw [List.length_map, List.length_map]; omega), mov_upd (M3.trans m5) M2.pot hD, cs ++ [c], by rw [upd_same, List.map_append, List.map_append]; rfl, by rw [List.length_append, lc]; rfl, fun z hz => ?_⟩
        rcases List.mem_append.mp hz with hz | hz
        · exact hc z hz
        · rw [List.mem_singleton.mp hz]; exact hl
      rintro H3 ⟨M3, cs, eD, lc, hc⟩
      have M03 := M2.trans M3
      have hcl : cs.length ≤ 3 ∧ 1 ≤ cs.length := by omega
      refine ⟨_, D, cs.map s1, rfl, rfl, .inl (SqL.of eD), ?_, ?_⟩
      · have h1 := sum_le (ts := cs.map s1) (n := 1) fun t ht => by
          obtain ⟨c, _, rfl⟩ := List.mem_map.mp ht
          exact Nat.le_refl _
        have h0 : (("" : String) : Str).length = 0 := by decide +kernel
        rw [h0]
        rw [List.length_map] at h1 ⊢
        omega
      rw [show Str.ofString "" = Str.empty by decide +kernel, join_empty, cat_s1]
      have el3 := (m2.trans M3).keep _ _ hpf el
      have hnm1 : ∀ c ∈ cs, lett c = true := hc
      refine ⟨_, rfl, sz, fun l1 hl1 => ⟨_, rfl, _, rfl, fun D2 hD2 => ?_⟩⟩
      have hD20 : H3 D2 = none := by rw [← hD2, upd_ne (fun z => by rw [z, upd_same] at hD2; cases hD2)]
      have n12 : l1 ≠ D2 := fun z => by rw [z, upd_same] at hD2; cases hD2
      have S1 : Same H3 (upd H3 l1 (.lst [.str (tx cs)])) := Lb.Same.upd hl1
      refine lc_it (walk_str (z := "abcdefghijklmnopqrstuvwxyz")) (fun j H' => Same (upd H3 l1 (.lst [.str (tx cs)])) H' ∧ H' D2 = some (.lst (((Ls.take j).map fun c => tx (cs.take 2) ++ s1 c).map V.str))) ⟨Lb.Same.upd hD2, upd_same⟩ (fun _ _ _ _ => trivial) ?_ ?_
      · rintro j v H4 H5 hj ⟨s4, e4⟩ ⟨rfl, c, hcj, rfl⟩
        have hcj' : Ls[j]? = some c := by
          rw [← Array.getElem?_toList] at hcj
          exact hcj
        have hjl : j < 26 := by
          have := (List.getElem?_eq_some_iff.mp hcj').1
          rw [Ls_len] at this
          exact this
        refine ⟨rfl, _, rfl, _, rfl, _, rfl, szle (by rw [tx_len]; omega), _, rfl, _, _, rfl, rfl, szle (by rw [cut2, tx_len, List.length_take]; show _ + 1 ≤ _; omega), _, e4, szlt (by rw [List.length_map, List.length_map, List.length_take]; omega), Lb.Same.updl s4 hD2, ?_⟩
        rw [cut2]
        rw [upd_same, ← take_snoc hcj', List.map_append, List.map_append]
        rfl
      rintro H4 ⟨s4, e4⟩
      rw [show (Str.ofString "abcdefghijklmnopqrstuvwxyz").cps.size = Ls.length by decide +kernel, List.take_length] at e4
      have e1 := s4 _ _ (show upd H3 l1 (.lst [.str (tx cs)]) l1 = _ from upd_same)
      have S4 := S1.trans s4
      refine ⟨l1, D2, _, _, rfl, rfl, e1, e4, szle (by rw [List.length_map, List.length_map, Ls_len]; show 1 + 26 ≤ 10000; decide), fun c0 hc0 => ?_⟩
      generalize e_H5 : upd _ c0 _ = H5
      obtain ⟨s5, e5⟩ := al3 e_H5 hc0
      clear e_H5
      (try dsimp only at e5)
      have e5 : H5 c0 = some (.lst ((cands cs).map V.str)) := e5
      have S5 := S4.trans s5
      have el5 := S5 _ _ el3
      refine ⟨_, rfl, .inl ⟨rfl, _, SqL.of el5⟩, _, rfl, c0, rfl, ⟨_, SqL.of e5⟩, fun D3 hD3 => ?_⟩
      refine lc_list (K := K) (a := c0) (xs := (cands cs).map V.str) (fun j H' => Same H5 H' ∧ H' D3 = some (.lst ((((cands cs).take j).filter fun z => decide (z ∉ zs)).map V.str))) ⟨Lb.Same.upd hD3, upd_same⟩ (fun j H' _ b => SqL.of (b.1 _ _ e5)) ?_ ?_
      · rintro j v H6 hv ⟨s6, e6⟩
        rw [List.getElem?_map] at hv
        obtain ⟨y, hy, rfl⟩ : ∃ y, (cands cs)[j]? = some y ∧ V.str y = v := by
          cases h : (cands cs)[j]? with
          | none => rw [h] at hv; cases hv
          | some y => rw [h] at hv; exact ⟨y, rfl, by simpa using hv⟩
        have hjl := (List.getElem?_eq_some_iff.mp hy).1
        rw [cands_len] at hjl
        refine ⟨rfl, _, rfl, _, rfl, fl, _, rfl, .inl (SqL.of (s6 _ _ el5)), rfl, flat_strs zs, _, rfl, ?_⟩
        rw [inV_strs]
        have hfl : ((cands cs).take j).filter (fun z => decide (z ∉ zs)) = ((cands cs).take j).filter (fun z => decide (z ∉ zs)) := rfl
        by_cases hin : y ∈ zs
        · rw [decide_eq_true hin]
          refine iteF ⟨s6, ?_⟩
          rw [← take_snoc hy, List.filter_append, List.filter_cons, if_neg (by simp [hin]), List.filter_nil, List.append_nil]
          exact e6
        · rw [decide_eq_false hin]
          refine iteT ⟨_, rfl, _, e6, szlt (by rw [List.length_map]; exact Nat.le_trans (List.length_filter_le _ _) (by rw [List.length_take]; omega)), Lb.Same.updl s6 hD3, ?_⟩
          rw [upd_same, ← take_snoc hy, List.filter_append, List.filter_cons, if_pos (by simp [hin]), List.filter_nil, List.map_append]
          rfl
      rintro H6 ⟨s6, e6⟩
      rw [List.length_map, List.take_length] at e6
      obtain ⟨y, r, hF⟩ := cands_left cs (zs := zs) (by omega)
      rw [hF] at e6
      have hy : y ∈ cands cs ∧ y ∉ zs := by
        have : y ∈ (cands cs).filter fun z => decide (z ∉ zs) := by rw [hF]; exact List.mem_cons_self
        rw [List.mem_filter, decide_eq_true_eq] at this
        exact this
      refine ⟨D3, _, 0, .str y, rfl, rfl, SqL.of e6, atI_nat (j := 0) rfl, fl, _, _, rfl, rfl, s6 _ _ el5, szlt (by rw [List.length_map]; omega), _, _, _, zs ++ [y], rfl, ?_, ?_, by rw [List.length_append, hzl]; rfl, ?_, ?_⟩
      · exact mov_upd (M03.same (S5.trans s6)) hp hfl
      · rw [upd_same, List.map_append]
        rfl
      · rw [List.nodup_append]
        exact ⟨hnd, by simp, fun a ha b hb => by rw [List.mem_singleton.mp hb]; rintro rfl; exact hy.2 ha⟩
      · intro z hz
        rcases List.mem_append.mp hz with hz | hz
        · exact hzs z hz
        · rw [List.mem_singleton.mp hz]
          exact cands_nm hnm1 hcl.2 hcl.1 hy.1
    · rintro σ H1 ⟨u4, u5, u7, zs, rfl, M1, el, hzl, hnd, hzs⟩
      exact ⟨_, rfl, k _ fl zs M1 hfl el hzl hnd hzs⟩
end
end K20

set_option Elab.async false
set_option linter.all false
set_option maxRecDepth 100000
set_option maxHeartbeats 4000000
namespace K20
open PySem L2 Lb
/-! entries: names, each with its tail and its head -/
abbrev En := Str × (Str × Str)
abbrev PP := List En
def vEn (H : Hp) (v : V) (e : Str × Str) : Prop := ∃ t, v = .ref t ∧ H t = some (.tup [.str e.1, .str e.2])
def Ent (H : Hp) (kv : List (Key × V)) (l : PP) : Prop := Paired (fun (q : Key × V) (e : En) => q.1 = Sum.inr e.1 ∧ vEn H q.2 e.2) kv l
def DA (H : Hp) (d : Addr) (l : PP) : Prop := ∃ kv, H d = some (.dK kv) ∧ Ent H kv l
/-- tuples stay -/
def TK (H H' : Hp) : Prop := ∀ t xs, H t = some (.tup xs) → H' t = some (.tup xs)
theorem TK.refl {H : Hp} : TK H H := fun _ _ e => e
theorem TK.trans {H H1 H2 : Hp} (a : TK H H1) (b : TK H1 H2) : TK H H2 := fun t xs e => b t xs (a t xs e)
theorem _root_.L2.Same.tk {H H' : Hp} (s : Same H H') : TK H H' := fun _ _ e => s _ _ e
theorem Mov.tk {p : Addr} {H H' : Hp} (m : Mov p H H') (q : PotAt H p) : TK H H' := fun _ _ e => m.tup q e
theorem tk_upd {H : Hp} {a : Addr} {o : HO} (h : ∀ xs, H a ≠ some (.tup xs)) : TK H (upd H a o) := fun t xs e => by
  rw [upd_ne (fun z => h xs (by rw [← z]; exact e))]
  exact e
theorem vEn.tk {H H' : Hp} {v : V} {e : Str × Str} (h : vEn H v e) (k : TK H H') : vEn H' v e := let ⟨t, a, b⟩ := h; ⟨t, a, k _ _ b⟩
theorem Ent.tk {H H' : Hp} {kv : List (Key × V)} {l : PP} (h : Ent H kv l) (k : TK H H') : Ent H' kv l := Paired.imp h fun _ _ x => ⟨x.1, x.2.tk k⟩
theorem DA.same {H H' : Hp} {d : Addr} {l : PP} (h : DA H d l) (s : Same H H') : DA H' d l := let ⟨kv, a, b⟩ := h; ⟨kv, s _ _ a, b.tk fun _ _ e => s _ _ e⟩
theorem Ent.len {H : Hp} {kv : List (Key × V)} {l : PP} (h : Ent H kv l) : kv.length = l.length := Paired.length h
theorem Ent.keys {H : Hp} {kv : List (Key × V)} {l : PP} (h : Ent H kv l) : kv.map (·.1) = (l.map (·.1)).map Sum.inr := by
  unfold Ent at h
  induction h with
  | nil => rfl
  | cons x _ ih => rw [List.map_cons, List.map_cons, List.map_cons, ih, x.1]
theorem Ent.get {H : Hp} {kv : List (Key × V)} {l : PP} (h : Ent H kv l) {i : Nat} {q : Key × V} (e : kv[i]? = some q) : ∃ x, l[i]? = some x ∧ q.1 = Sum.inr x.1 ∧ vEn H q.2 x.2 := by
  unfold Ent at h
  induction h generalizing i with
  | nil => simp at e
  | cons x _ ih =>
    cases i with
    | zero => simp at e; subst e; exact ⟨_, rfl, x⟩
    | succ i =>
      obtain ⟨y, a, b⟩ := ih (i := i) (by simpa using e)
      exact ⟨y, by simpa using a, b⟩
theorem Ent.val {H : Hp} {kv : List (Key × V)} {l : PP} (h : Ent H kv l) (z : Str) : match l.lookup z with
    | some e => ∃ v, valV kv (Sum.inr z : Key) = some v ∧ vEn H v e
    | none => valV kv (Sum.inr z : Key) = none := by
  unfold Ent at h
  induction h with
  | nil => rfl
  | @cons q x kv l hx _ ih =>
    obtain ⟨k, v⟩ := q
    obtain ⟨n, e⟩ := x
    obtain ⟨rfl, hv⟩ := hx
    by_cases hz : z = n
    · subst hz
      rw [List.lookup_cons, beq_self_eq_true]
      exact ⟨v, by simp [valV], hv⟩
    · have e1 : ((n, e) :: l).lookup z = l.lookup z := by rw [List.lookup_cons, show (z == n) = false by simpa using hz]
      have e2 : valV ((Sum.inr n, v) :: kv) (Sum.inr z : Key) = valV kv (Sum.inr z) := by
        unfold valV
        rw [List.find?_cons, show decide ((Sum.inr n : Key) = Sum.inr z) = false by simp [Ne.symm hz]]
      rw [e1, e2]
      exact ih
theorem Ent.val_some {H : Hp} {kv : List (Key × V)} {l : PP} (h : Ent H kv l) {z : Str} {e : Str × Str} (hz : l.lookup z = some e) : ∃ v, valV kv (Sum.inr z : Key) = some v ∧ vEn H v e := by
  have := h.val z
  rw [hz] at this
  exact this
theorem Ent.val_none {H : Hp} {kv : List (Key × V)} {l : PP} (h : Ent H kv l) {z : Str} (hz : l.lookup z = none) : valV kv (Sum.inr z : Key) = none := by
  have := h.val z
  rw [hz] at this
  exact this
theorem lookup_mem : ∀ {l : PP} {z : Str} {e : Str × Str}, (l.map (·.1)).Nodup → (z, e) ∈ l → l.lookup z = some e
  | x :: r, z, e, nd, h => by
    obtain ⟨n, y⟩ := x
    rw [List.map_cons, List.nodup_cons] at nd
    rcases List.mem_cons.mp h with h | h
    · cases h
      rw [List.lookup_cons, beq_self_eq_true]
    · have : z ≠ n := fun k => nd.1 (List.mem_map.mpr ⟨(z, e), h, k⟩)
      rw [List.lookup_cons, show (z == n) = false by simpa using this]
      exact lookup_mem nd.2 h
theorem mem_lookup : ∀ {l : PP} {z : Str} {e : Str × Str}, l.lookup z = some e → (z, e) ∈ l
  | [], _, _, h => by simp at h
  | x :: r, z, e, h => by
    obtain ⟨n, y⟩ := x
    by_cases hz : z = n
    · subst hz
      rw [List.lookup_cons, beq_self_eq_true] at h
      cases h
      exact List.mem_cons_self
    · rw [List.lookup_cons, show (z == n) = false by simpa using hz] at h
      exact List.mem_cons_of_mem _ (mem_lookup h)
theorem lookup_none : ∀ {l : PP} {z : Str}, l.lookup z = none ↔ z ∉ l.map (·.1)
  | [], _ => by simp
  | x :: r, z => by
    obtain ⟨n, y⟩ := x
    by_cases hz : z = n
    · subst hz
      rw [List.lookup_cons, beq_self_eq_true]
      simp
    · rw [List.lookup_cons, show (z == n) = false by simpa using hz, lookup_none, List.map_cons, List.mem_cons]
      simp [hz]
theorem lookup_some {l : PP} {z : Str} (h : z ∈ l.map (·.1)) : ∃ e, l.lookup z = some e := by
  cases k : l.lookup z with
  | some e => exact ⟨e, rfl⟩
  | none => exact absurd h (lookup_none.mp k)
/-- the entry of z is e -/
def putP (l : PP) (z : Str) (e : Str × Str) : PP := if z ∈ l.map (·.1) then l.map (fun q => if q.1 = z then (q.1, e) else q) else l ++ [(z, e)]
theorem Ent.any {H : Hp} {kv : List (Key × V)} {l : PP} (h : Ent H kv l) (z : Str) : (kv.any fun q => decide (q.1 = (Sum.inr z : Key))) = decide (z ∈ l.map (·.1)) := by
  unfold Ent at h
  induction h with
  | nil => rfl
  | @cons q x kv l hx _ ih =>
    rw [List.any_cons, ih, hx.1, List.map_cons]
    by_cases hz : x.1 = z
    · subst hz; simp
    · have : ¬ z = x.1 := fun k => hz k.symm
      simp [hz, this]
theorem Ent.put {H : Hp} {kv : List (Key × V)} {l : PP} (h : Ent H kv l) {z : Str} {v : V} {e : Str × Str} (hv : vEn H v e) : Ent H (putK kv (Sum.inr z : Key) v) (putP l z e) := by
  unfold putK putP
  rw [h.any z]
  by_cases hz : z ∈ l.map (·.1)
  · rw [if_pos hz, if_pos (decide_eq_true hz)]
    clear hz
    unfold Ent at h ⊢
    induction h with
    | nil => exact .nil
    | @cons q x kv l hx hr ih =>
      obtain ⟨k, u⟩ := q
      obtain ⟨n, y⟩ := x
      obtain ⟨rfl, hu⟩ := hx
      rw [List.map_cons, List.map_cons]
      refine .cons ?_ ih
      by_cases hn : n = z
      · subst hn
        rw [if_pos rfl, if_pos (by simp)]
        exact ⟨rfl, hv⟩
      · rw [if_neg hn, if_neg (by simp [hn])]
        exact ⟨rfl, hu⟩
  · rw [if_neg hz, if_neg (by simpa using hz)]
    exact Paired.snoc ⟨rfl, hv⟩ h
/-! sorted texts without twins -/
def srtS (zs : List Str) : List Str := srt (ded zs)
theorem perm_of_mem {xs ys : List Str} (nx : xs.Nodup) (ny : ys.Nodup) (h : ∀ z, z ∈ xs ↔ z ∈ ys) : xs.Perm ys := by
  rw [List.perm_iff_count]
  intro z
  rw [nx.count, ny.count]
  by_cases k : z ∈ xs
  · rw [if_pos k, if_pos ((h z).mp k)]
  · rw [if_neg k, if_neg fun q => k ((h z).mpr q)]
theorem srtS_mem {zs : List Str} {x : Str} : x ∈ srtS zs ↔ x ∈ zs := by unfold srtS; rw [srt_mem, mem_ded]
theorem srtS_nd (zs : List Str) : (srtS zs).Nodup := (srt_perm (ded zs)).nodup_iff.mpr (nodup_ded zs)
theorem srtS_congr {xs ys : List Str} (h : ∀ z, z ∈ xs ↔ z ∈ ys) : srtS xs = srtS ys :=
  srt_congr (perm_of_mem (nodup_ded xs) (nodup_ded ys) fun z => by rw [mem_ded, mem_ded, h])
theorem srtS_len (zs : List Str) : (srtS zs).length ≤ zs.length := by unfold srtS; rw [srt_len]; exact ded_len zs
theorem srtS_of {zs ys : List Str} (p : ys.Perm (ded zs)) (h : PyProof.Rows.sortedS ys = true) : ys = srtS zs := srt_of p h
/-! nets -/
def nmsOf (l : PP) : List Str := l.map (·.1)
def nodOf (l : PP) : List Str := l.flatMap fun e => [e.2.1, e.2.2]
def pts (l : PP) : List Str := srtS (nodOf l)
def nbr (l : PP) (x : Str) : List Str := (l.filter fun e => decide (e.2.1 = x)).map (·.2.2) ++ (l.filter fun e => decide (e.2.2 = x)).map (·.2.1)
def nbrs (l : PP) (x : Str) : List Str := srtS (nbr l x)
def getP (l : PP) (n : Str) : Str × Str := (l.lookup n).getD (Str.empty, Str.empty)
/-- the same, sorted by name -/
def srtP (l : PP) : PP := (srt (nmsOf l)).map fun n => (n, getP l n)
def besP (l : PP) (x y : Str) : List Str := (srt (nmsOf l)).filter fun n => decide (getP l n = (x, y) ∨ getP l n = (y, x))
inductive Rch (l : PP) (x : Str) : Str → Prop
  | refl : Rch l x x
  | step {y z : Str} : Rch l x y → z ∈ nbr l y → Rch l x z
theorem mem_nbr {l : PP} {x y : Str} : y ∈ nbr l x ↔ ∃ e ∈ l, (e.2.1 = x ∧ e.2.2 = y) ∨ (e.2.2 = x ∧ e.2.1 = y) := by
  unfold nbr
  simp only [List.mem_append, List.mem_map, List.mem_filter, decide_eq_true_eq]
  constructor
  · rintro (⟨e, ⟨h1, h2⟩, h3⟩ | ⟨e, ⟨h1, h2⟩, h3⟩)
    · exact ⟨e, h1, .inl ⟨h2, h3⟩⟩
    · exact ⟨e, h1, .inr ⟨h2, h3⟩⟩
  · rintro ⟨e, h1, ⟨h2, h3⟩ | ⟨h2, h3⟩⟩
    · exact .inl ⟨e, ⟨h1, h2⟩, h3⟩
    · exact .inr ⟨e, ⟨h1, h2⟩, h3⟩
theorem mem_nod {l : PP} {x : Str} : x ∈ nodOf l ↔ ∃ e ∈ l, x = e.2.1 ∨ x = e.2.2 := by
  unfold nodOf
  simp only [List.mem_flatMap, List.mem_cons, List.not_mem_nil, or_false]
theorem nbr_sym {l : PP} {x y : Str} (h : y ∈ nbr l x) : x ∈ nbr l y := by
  rw [mem_nbr] at h ⊢
  obtain ⟨e, he, h | h⟩ := h
  · exact ⟨e, he, .inr ⟨h.2, h.1⟩⟩
  · exact ⟨e, he, .inl ⟨h.2, h.1⟩⟩
theorem Rch.trans {l : PP} {x y z : Str} (a : Rch l x y) (b : Rch l y z) : Rch l x z := by
  induction b with
  | refl => exact a
  | step _ h ih => exact .step ih h
theorem Rch.symm {l : PP} {x y : Str} (a : Rch l x y) : Rch l y x := by
  induction a with
  | refl => exact .refl
  | step _ h ih => exact (Rch.step .refl (nbr_sym h)).trans ih
theorem Rch.mono {l m : PP} (h : ∀ e ∈ l, (∃ e' ∈ m, e'.2 = e.2 ∨ (e'.2.1 = e.2.2 ∧ e'.2.2 = e.2.1))) {x y : Str} (a : Rch l x y) : Rch m x y := by
  induction a with
  | refl => exact .refl
  | step _ k ih =>
    refine .step ih ?_
    rw [mem_nbr] at k ⊢
    obtain ⟨e, he, k⟩ := k
    obtain ⟨e', he', q | q⟩ := h e he
    · refine ⟨e', he', ?_⟩
      rw [q]
      exact k
    · refine ⟨e', he', ?_⟩
      rw [q.1, q.2]
      exact k.symm
/-- a net: what is asked of its pipes -/
structure Good (l : PP) : Prop where
  nd : (nmsOf l).Nodup
  nm : ∀ e ∈ l, nmS e.1 = true ∧ nmS e.2.1 = true ∧ nmS e.2.2 = true ∧ e.2.1 ≠ e.2.2
  ne : l ≠ []
  le : l.length ≤ 16
  le8 : (pts l).length ≤ 8
  con : ∀ x ∈ nodOf l, ∀ y ∈ nodOf l, Rch l x y
theorem getP_mem {l : PP} (nd : (nmsOf l).Nodup) {e : En} (h : e ∈ l) : getP l e.1 = e.2 := by
  unfold getP
  rw [lookup_mem nd (z := e.1) (e := e.2) h]
  rfl
theorem mem_srtP {l : PP} (nd : (nmsOf l).Nodup) {e : En} : e ∈ srtP l ↔ e ∈ l := by
  unfold srtP
  rw [List.mem_map]
  constructor
  · rintro ⟨n, hn, rfl⟩
    rw [srt_mem] at hn
    obtain ⟨e, he, rfl⟩ := List.mem_map.mp hn
    rw [getP_mem nd he]
    exact he
  · intro h
    exact ⟨e.1, srt_mem.mpr (List.mem_map.mpr ⟨e, h, rfl⟩), by rw [getP_mem nd h]⟩
theorem nms_srtP (l : PP) : nmsOf (srtP l) = srt (nmsOf l) := by
  unfold nmsOf srtP
  rw [List.map_map]
  exact (List.map_congr_left fun _ _ => rfl).trans (List.map_id _)
theorem srtP_nd {l : PP} (nd : (nmsOf l).Nodup) : (nmsOf (srtP l)).Nodup := by rw [nms_srtP]; exact (srt_perm _).nodup_iff.mpr nd
theorem srtP_len (l : PP) : (srtP l).length = l.length := by unfold srtP nmsOf; rw [List.length_map, srt_len, List.length_map]
theorem getP_srtP {l : PP} (nd : (nmsOf l).Nodup) (n : Str) : getP (srtP l) n = getP l n := by
  unfold getP
  cases h : l.lookup n with
  | some e => rw [lookup_mem (srtP_nd nd) ((mem_srtP nd).mpr (mem_lookup h))]
  | none =>
    have : (srtP l).lookup n = none := by
      rw [lookup_none] at h ⊢
      intro k
      apply h
      rw [show (srtP l).map (·.1) = srt (nmsOf l) from nms_srtP l, srt_mem] at k
      exact k
    rw [this]
theorem lookup_srtP {l : PP} (nd : (nmsOf l).Nodup) (n : Str) : (srtP l).lookup n = l.lookup n := by
  cases h : l.lookup n with
  | some e => exact lookup_mem (srtP_nd nd) ((mem_srtP nd).mpr (mem_lookup h))
  | none =>
    rw [lookup_none] at h ⊢
    intro k
    apply h
    rw [show (srtP l).map (·.1) = srt (nmsOf l) from nms_srtP l, srt_mem] at k
    exact k
theorem nod_srtP {l : PP} (nd : (nmsOf l).Nodup) {x : Str} : x ∈ nodOf (srtP l) ↔ x ∈ nodOf l := by
  rw [mem_nod, mem_nod]
  exact exists_congr fun e => and_congr_left fun _ => mem_srtP nd
theorem pts_srtP {l : PP} (nd : (nmsOf l).Nodup) : pts (srtP l) = pts l := srtS_congr fun _ => nod_srtP nd
theorem nbr_srtP {l : PP} (nd : (nmsOf l).Nodup) {x y : Str} : y ∈ nbr (srtP l) x ↔ y ∈ nbr l x := by
  rw [mem_nbr, mem_nbr]
  exact exists_congr fun e => and_congr_left fun _ => mem_srtP nd
theorem nbrs_srtP {l : PP} (nd : (nmsOf l).Nodup) (x : Str) : nbrs (srtP l) x = nbrs l x := srtS_congr fun _ => nbr_srtP nd
theorem Good.srtP {l : PP} (h : Good l) : Good (srtP l) := by
  refine ⟨srtP_nd h.nd, fun e he => h.nm e ((mem_srtP h.nd).mp he), fun z => h.ne ?_, by rw [srtP_len]; exact h.le, by rw [pts_srtP h.nd]; exact h.le8, fun x hx y hy => ?_⟩
  · have := congrArg List.length z
    rw [srtP_len] at this
    exact List.eq_nil_of_length_eq_zero this
  · exact Rch.mono (fun e he => ⟨e, (mem_srtP h.nd).mpr he, .inl rfl⟩) (h.con x ((nod_srtP h.nd).mp hx) y ((nod_srtP h.nd).mp hy))
theorem nod_len (l : PP) : (nodOf l).length = 2 * l.length := by
  induction l with
  | nil => rfl
  | cons e r ih => unfold nodOf at ih ⊢; rw [List.flatMap_cons, List.length_append, ih]; simp only [List.length_cons, List.length_nil]; omega
theorem nbr_len (l : PP) (x : Str) : (nbr l x).length ≤ 2 * l.length := by
  unfold nbr
  rw [List.length_append, List.length_map, List.length_map]
  have h1 := List.length_filter_le (fun e : En => decide (e.2.1 = x)) l
  have h2 := List.length_filter_le (fun e : En => decide (e.2.2 = x)) l
  omega
theorem nbr_nod {l : PP} {x y : Str} (h : y ∈ nbr l x) : y ∈ nodOf l := by
  rw [mem_nbr] at h
  obtain ⟨e, he, h | h⟩ := h
  · exact mem_nod.mpr ⟨e, he, .inr h.2.symm⟩
  · exact mem_nod.mpr ⟨e, he, .inl h.2.symm⟩
end K20

set_option Elab.async false
set_option linter.all false
set_option maxRecDepth 100000
set_option maxHeartbeats 4000000
namespace K20
open PySem L2 Lb
open C8 (pss_cut)
theorem lett_in (c : Nat) : decide (c ∈ (Str.ofString "abcdefghijklmnopqrstuvwxyz").cps.toList) = lett c := by
  have e : (Str.ofString "abcdefghijklmnopqrstuvwxyz").cps.toList = [97, 98, 99, 100, 101, 102, 103, 104, 105, 106, 107, 108, 109, 110, 111, 112, 113, 114, 115, 116, 117, 118, 119, 120, 121, 122] := by decide +kernel
  rw [e, Bool.eq_iff_iff]
  unfold lett
  simp only [decide_eq_true_eq, Bool.and_eq_true, List.mem_cons, List.not_mem_nil, or_false]
  omega
/-- a name is a name -/
def sp_is_name : Sp := fun vs H Q _ => ∃ z : Str, vs = [.str z] ∧ nmS z = true ∧ ∀ H', Same H H' → Q (.bl true) H'
def sp_are_ends : Sp := fun vs H Q _ => ∃ v x y, vs = [v] ∧ vEn H v (x, y) ∧ nmS x = true ∧ nmS y = true ∧ x ≠ y ∧ ∀ H', Same H H' → Q (.bl true) H'
section
variable {P : Program} {w : World} {K : PySem.W.Frag} {mg : Str → Option Value} {base : Heap} {a : Ad}
theorem ok_is_name (T : Txt K mg a) : FnOk P w K mg base CX0 1 a.f_is_name a.d_is_name ["value"] sp_is_name := by
  refine T.F_is_name.ok sc_is_name (fun vs H Q E h => ?_) (fun cdv A outer s H vs Q E hr h => ?_)
  · obtain ⟨z, rfl, _⟩ := h
    rfl
  · obtain ⟨z, rfl, hn, k⟩ := h
    refine ⟨_, (pss_one (ps_ret (pe_and (pe_callB (call_isiK' (K := K) rfl) (by rfl) T.b_isinstance (by decide +kernel) (pa_cons (pv 0) (pa_cons (pe_bltn (v := .ty "str") (by rfl) T.b_str (by decide +kernel) rfl) pa_nil))) (pe_and (pe_chain op_le op_le pe_int (pe_callB call_len_str (by rfl) T.b_len (by decide +kernel) (pa_cons (pv 0) pa_nil)) (pe_glob (v := .int 8) rfl T.gLong.choose_spec ⟨_, rfl⟩)) (pe_one (pe_callB (cr_allK (K := K) rfl rfl) (by rfl) T.b_all (by decide +kernel) (pa_cons (pe_lc (own := [("letter", 1)]) (by rfl) sc_is_name.nd (pi_str (pv 0)) (blkOk_by (own := [("letter", 1)]) (N := ["value", "letter"]) (sc := defScope s_is_name) (by decide +kernel)) (fun _ _ _ _ _ => (pg_name (i := 1) sc_is_name.nd rfl (by first | exact Or.inl rfl | exact Or.inr rfl))) (fun _ _ _ _ _ => pts_nil) (fun _ _ _ _ _ => (pe_cmpR op_in_sign (pv 1) (pe_glob (v := .str "abcdefghijklmnopqrstuvwxyz") rfl T.gLet.choose_spec ⟨_, rfl⟩) rfl))) pa_nil))))))), ?_⟩
    refine ⟨_, rfl, _, _, _, _, _, rfl, .ty _, .base (.str _), kit_ty (r := true) (by decide +kernel), true, rfl, ?_⟩
    have hzl : z.cps.toList.length = z.length := by simp [Str.length]
    have hn' := hn
    unfold nmS at hn
    rw [Bool.and_eq_true, Bool.and_eq_true, decide_eq_true_eq, decide_eq_true_eq, hzl] at hn
    refine iteT ?_
    refine ⟨_, rfl, z, rfl, szle (by omega), _, _, rfl, rfl, _, rfl, ?_⟩
    rw [decide_eq_true (show (1 : Int) ≤ ((z.length : Nat) : Int) by omega)]
    refine iteT ?_
    refine ⟨_, _, rfl, rfl, _, rfl, ?_⟩
    rw [decide_eq_true (show ((z.length : Nat) : Int) ≤ 8 by omega)]
    refine iteT ?_
    refine ⟨_, rfl, z, rfl, fun D hD => ?_⟩
    refine lc_it (walk_str (z := z)) (fun i H' => Same H H' ∧ H' D = some (.lst (((z.cps.toList.take i).map lett).map V.bl))) ⟨Lb.Same.upd hD, upd_same⟩ (fun _ _ _ _ => trivial) ?_ ?_
    · rintro i v H' H'' hi ⟨s', eD⟩ ⟨rfl, c, hc, rfl⟩
      have hc' : z.cps.toList[i]? = some c := by
        rw [← Array.getElem?_toList] at hc
        exact hc
      refine ⟨rfl, _, rfl, c, _, rfl, rfl, _, eD, szlt (by rw [List.length_map, List.length_map, List.length_take]; omega), Lb.Same.updl s' hD, ?_⟩
      rw [upd_same, lett_in, ← take_snoc hc', List.map_append, List.map_append]
      rfl
    · rintro H' ⟨s', eD⟩
      rw [show z.cps.size = z.cps.toList.length by simp, List.take_length] at eD
      refine ⟨D, _, rfl, SqL.of eD, ?_⟩
      rw [show (z.cps.toList.map lett).all id = z.cps.toList.all lett by rw [List.all_map]; rfl, hn.2.2]
      exact k _ s'
theorem ok_are_ends (T : Txt K mg a) : FnOk P w K mg base CX0 2 a.f_are_ends a.d_are_ends ["value"] sp_are_ends := by
  refine T.F_are_ends.ok sc_are_ends (fun vs H Q E h => ?_) (fun cdv A outer s H vs Q E hr h => ?_)
  · obtain ⟨v, x, y, rfl, _⟩ := h
    rfl
  · obtain ⟨v, x, y, rfl, ⟨t, rfl, ht⟩, nx, ny, ne, k⟩ := h
    refine ⟨_, (pss_cons (ps_if (PW.pt (pw_or (pt_not (pt_val (pe_callB (call_isiK' (K := K) rfl) (by rfl) T.b_isinstance (by decide +kernel) (pa_cons (pv 0) (pa_cons (pe_bltn (v := .ty "tuple") (by rfl) T.b_tuple (by decide +kernel) rfl) pa_nil))))) (pw_or1 (pt_cmpR op_ne (pe_callB (call_lenK (K := K) rfl) (by rfl) T.b_len (by decide +kernel) (pa_cons (pv 0) pa_nil)) pe_int (nomark _))))) (pss_one (ps_ret pe_bl)) pss_nil)
 (pss_one (ps_ret (pe_and (pe_call (ok_is_name T) (hr.mono (by decide)) (by rfl) T.m_is_name T.F_is_name.kp (b_is_name T) .nil pass0 (pa_cons (pe_ix (ix_tupK (K := K) rfl) (pv 0) pe_int (fun _ _ => rfl)) pa_nil)) (pe_and (pe_call (ok_is_name T) (hr.mono (by decide)) (by rfl) T.m_is_name T.F_is_name.kp (b_is_name T) .nil pass0 (pa_cons (pe_ix (ix_tupK (K := K) rfl) (pv 0) pe_int (fun _ _ => rfl)) pa_nil)) (pe_one (pe_cmpR op_ne (pe_ix (ix_tupK (K := K) rfl) (pv 0) pe_int (fun _ _ => rfl)) (pe_ix (ix_tupK (K := K) rfl) (pv 0) pe_int (fun _ _ => rfl)) (nomark _)))))))), ?_⟩
    have e0 : atI ([.str x, .str y] : List V) ((0 : Nat) : Int) = some (.str x) := atI_nat rfl
    have e1 : atI ([.str x, .str y] : List V) ((1 : Nat) : Int) = some (.str y) := atI_nat rfl
    refine ⟨_, rfl, _, _, _, _, _, rfl, .ty _, .base (.tup ht), kit_ty (r := true) (by decide +kernel), true, rfl, ?_⟩
    refine iteF ⟨_, rfl, t, _, rfl, .inr (SqT.of ht), rfl, ?_⟩
    refine ⟨_, rfl, ?_⟩
    refine iteF ?_
    refine ⟨_, rfl, _, _, _, _, rfl, rfl, SqT.of ht, e0, x, rfl, nx, fun H1 s1 => ⟨_, rfl, iteT ?_⟩⟩
    have ht1 := s1 _ _ ht
    refine ⟨_, rfl, _, _, _, _, rfl, rfl, SqT.of ht1, e1, y, rfl, ny, fun H2 s2 => ⟨_, rfl, iteT ?_⟩⟩
    have ht2 := s2 _ _ ht1
    refine ⟨_, rfl, _, _, _, _, rfl, rfl, SqT.of ht2, e0, _, rfl, _, _, _, _, rfl, rfl, SqT.of ht2, e1, rfl, ?_⟩
    rw [show (!decide ((V.str x : V) = V.str y)) = true by simp [ne]]
    exact k _ (s1.trans s2)
/-! iterating over a dict that stands -/
/-- back from a locked dict -/
theorem unlock {H H' : Hp} {d : Addr} {u : HO} {od : Obj} (e : H d = some u) (s : Same (upd H d (.frz od u)) H') : Same H (upd H' d u) := fun b o h => by
  by_cases hb : b = d
  · subst hb
    rw [e] at h
    cases h
    exact upd_same
  · rw [upd_ne hb]
    exact s _ _ (by rw [upd_ne hb]; exact h)
theorem lock_tk {H : Hp} {d : Addr} {kv : List (Key × V)} {od : Obj} (e : H d = some (.dK kv)) : TK H (upd H d (.frz od (.dK kv))) := tk_upd fun xs z => by rw [e] at z; cases z
def sp_sorted_nodes : Sp := fun vs H Q _ => ∃ d l, vs = [.ref d] ∧ DA H d l ∧ l.length ≤ 30 ∧ ∀ H' t, Same H H' → H' t = some (.tup ((pts l).map V.str)) → Q (.ref t) H'
theorem ok_sorted_nodes (T : Txt K mg a) : FnOk P w K mg base CX0 1 a.f_sorted_nodes a.d_sorted_nodes ["pipes"] sp_sorted_nodes := by
  refine T.F_sorted_nodes.ok sc_sorted_nodes (fun vs H Q E h => ?_) (fun cdv A outer s H vs Q E hr h => ?_)
  · obtain ⟨d, l, rfl, _⟩ := h
    rfl
  · obtain ⟨d, l, rfl, ⟨kv, hd, he⟩, hl, k⟩ := h
    refine ⟨_, (pss_one (ps_ret (pe_callTy (call_tuple_ofK (K := K) rfl) (by rfl) T.b_tuple (by decide +kernel) (pa_cons (pe_callB (cr_sortedSetSK (P := P) (w := w) rfl rfl rfl) (by rfl) T.b_sorted (by decide +kernel) (pa_cons (pe_callTy (call_setSK (K := K) (P := P) (w := w) rfl rfl rfl rfl) (by rfl) T.b_set (by decide +kernel) (pa_cons (pe_lock (pe_lc2 (own := [("ends", 1), ("node", 2)]) (vs1 := [2]) (by rfl) sc_sorted_nodes.nd (pi_values (pv 0)) (blkOk_by (own := [("ends", 1), ("node", 2)]) (N := ["pipes", "ends", "node"]) (sc := defScope s_sorted_nodes) (by decide +kernel)) (by decide) (fun _ _ _ _ _ => (pg_name (i := 1) sc_sorted_nodes.nd rfl (by first | exact Or.inl rfl | exact Or.inr rfl))) (fun _ _ _ _ _ => pts_nil) (fun _ _ _ _ _ => (pi_tupK (K := K) rfl (pv 1))) (fun _ _ _ _ _ => (pg_name (i := 2) sc_sorted_nodes.nd rfl (by first | exact Or.inl rfl | exact Or.inr rfl))) (fun _ _ _ _ _ => pts_nil) (fun _ _ _ _ _ => (pe_callTy SkE.call_str_str (by rfl) T.b_str (by decide +kernel) (pa_cons (pv 2) pa_nil))))) pa_nil)) pa_nil)) pa_nil)))), ?_⟩
    refine ⟨d, _, hd, trivial, fun od => ?_⟩
    have un : ∀ {H'}, Same (upd H d (.frz od (.dK kv))) H' → Same H (upd H' d (.dK kv)) := unlock hd
    have hd1 : (upd H d (.frz od (.dK kv))) d = some (.frz od (.dK kv)) := upd_same
    have he1 := he.tk (lock_tk (od := od) hd)
    generalize upd H d (.frz od (.dK kv)) = H1 at *
    refine ⟨_, rfl, d, od, kv, rfl, hd1, fun D hD => ?_⟩
    have ln := he.len
    refine turns walk_values (fun i H' => Same H1 H' ∧ H' D = some (.lst ((nodOf (l.take i)).map V.str))) ⟨Lb.Same.upd hD, upd_same⟩ (fun i H' _ b => b.1 _ _ hd1) ?_ ?_
    · rintro i v H2 H3 hi ⟨s2, eD⟩ ⟨rfl, k0, ek⟩
      obtain ⟨e, hel, ek2, t, rfl, ht⟩ := he1.get ek
      have ht2 := s2 _ _ ht
      refine ⟨rfl, _, rfl, t, rfl, ⟨_, SqT.of ht2⟩, ?_⟩
      refine turns (walk_tup (xs := [.str e.2.1, .str e.2.2])) (fun j H' => Same H1 H' ∧ H' D = some (.lst ((nodOf (l.take i) ++ [e.2.1, e.2.2].take j).map V.str))) ⟨s2, by rw [List.take_zero, List.append_nil]; exact eD⟩ (fun j H' _ b => SqT.of (b.1 _ _ ht)) ?_ ?_
      · rintro j v H4 H5 hj ⟨s4, eD4⟩ ⟨rfl, ev⟩
        obtain ⟨z, hz, rfl⟩ : ∃ z, [e.2.1, e.2.2][j]? = some z ∧ v = V.str z := by
          have ev : ([e.2.1, e.2.2].map V.str)[j]? = some v := ev
          rw [List.getElem?_map] at ev
          cases h : [e.2.1, e.2.2][j]? with
          | none => rw [h] at ev; cases ev
          | some z => rw [h] at ev; cases ev; exact ⟨z, rfl, rfl⟩
        refine ⟨rfl, _, rfl, _, rfl, _, eD4, ?_, Lb.Same.updl s4 hD, ?_⟩
        · rw [List.length_map, List.length_append, nod_len, List.length_take, List.length_take]
          simp only [List.length_cons, List.length_nil]
          exact szlt (by omega)
        · rw [upd_same, ← take_snoc hz, ← List.append_assoc, List.map_append (l₂ := [z])]
          rfl
      · rintro H4 ⟨s4, eD4⟩
        refine ⟨s4, ?_⟩
        rw [← take_snoc hel]
        rw [show nodOf (l.take i ++ [e]) = nodOf (l.take i) ++ [e.2.1, e.2.2] by unfold nodOf; rw [List.flatMap_append]; rfl]
        exact eD4
    · rintro H2 ⟨s2, eD⟩
      rw [ln, List.take_length] at eD
      refine ⟨s2 _ _ hd1, ?_⟩
      have ndD : D ≠ d := fun z => by rw [z, hd1] at hD; cases hD
      have u2 := un s2
      have eD2 : (upd H2 d (.dK kv)) D = some (.lst ((nodOf l).map V.str)) := by rw [upd_ne ndD]; exact eD
      have lz := nod_len l
      have l8 := ded_len (nodOf l)
      refine ⟨D, nodOf l, rfl, SqL.of eD2, by omega, fun p1 hp1 => ⟨p1, _, rfl, upd_same, by omega, fun ys p2 perm so hp2 => ⟨p2, _, rfl, .inl ⟨SqL.of upd_same, fun t ht => ?_⟩⟩⟩⟩
      obtain rfl := srtS_of perm so
      exact k _ t (((u2.trans (Lb.Same.upd hp1)).trans (Lb.Same.upd hp2)).trans (Lb.Same.upd ht)) upd_same
end
end K20

set_option Elab.async false
set_option linter.all false
set_option maxRecDepth 100000
set_option maxHeartbeats 4000000
namespace K20
open PySem L2 Lb
open C8 (pss_cut)
def sp_joined_nodes : Sp := fun vs H Q _ => ∃ d l x, vs = [.ref d, .str x] ∧ DA H d l ∧ l.length ≤ 20 ∧ ∀ H' p, Same H H' → H p = none → H' p = some (.lst ((nbrs l x).map V.str)) → Q (.ref p) H'
section
variable {P : Program} {w : World} {K : PySem.W.Frag} {mg : Str → Option Value} {base : Heap} {a : Ad}
theorem ok_joined_nodes (T : Txt K mg a) : FnOk P w K mg base CX0 1 a.f_joined_nodes a.d_joined_nodes ["pipes", "node"] sp_joined_nodes := by
  refine T.F_joined_nodes.ok sc_joined_nodes (fun vs H Q E h => ?_) (fun cdv A outer s H vs Q E hr h => ?_)
  · obtain ⟨d, l, x, rfl, _⟩ := h
    rfl
  · obtain ⟨d, l, x, rfl, ⟨kv, hd, he⟩, hl, k⟩ := h
    refine ⟨_, (pss_cons (ps_lock (ps_setLc (i := 2) (own := [("tail", 3), ("head", 4)]) rfl sc_joined_nodes.nd rfl rfl (sw_true rfl rfl rfl (by decide +kernel)) (pi_values (pv 0)) (blkOk_by (own := [("tail", 3), ("head", 4)]) (N := ["pipes", "node", "heads", "tail", "head", "tails"]) (sc := defScope s_joined_nodes) (by decide +kernel)) (fun _ _ _ _ _ => (pg_tupK (K := K) (n := 2) rfl rfl (pgs_cons (pg_name (i := 3) sc_joined_nodes.nd rfl (by first | exact Or.inl rfl | exact Or.inr rfl)) (pgs_cons (pg_name (i := 4) sc_joined_nodes.nd rfl (by first | exact Or.inl rfl | exact Or.inr rfl)) pgs_nil)))) (fun _ _ _ _ _ => pts_one (pt_cmpR op_eq (pv 3) (pv 1) (nomark _))) (fun _ _ _ _ _ => (pv 4))))
 (pss_cons (ps_lock (ps_setLc (i := 5) (own := [("tail", 3), ("head", 4)]) rfl sc_joined_nodes.nd rfl rfl (sw_true rfl rfl rfl (by decide +kernel)) (pi_values (pv 0)) (blkOk_by (own := [("tail", 3), ("head", 4)]) (N := ["pipes", "node", "heads", "tail", "head", "tails"]) (sc := defScope s_joined_nodes) (by decide +kernel)) (fun _ _ _ _ _ => (pg_tupK (K := K) (n := 2) rfl rfl (pgs_cons (pg_name (i := 3) sc_joined_nodes.nd rfl (by first | exact Or.inl rfl | exact Or.inr rfl)) (pgs_cons (pg_name (i := 4) sc_joined_nodes.nd rfl (by first | exact Or.inl rfl | exact Or.inr rfl)) pgs_nil)))) (fun _ _ _ _ _ => pts_one (pt_cmpR op_eq (pv 4) (pv 1) (nomark _))) (fun _ _ _ _ _ => (pv 3))))
 (pss_one (ps_ret (pe_callB (cr_sortedSetSK (P := P) (w := w) rfl rfl rfl) (by rfl) T.b_sorted (by decide +kernel) (pa_cons (pe_callTy (call_setSK (K := K) (P := P) (w := w) rfl rfl rfl rfl) (by rfl) T.b_set (by decide +kernel) (pa_cons (pe_op op_cat (pv 2) (pv 5)) pa_nil)) pa_nil)))))), ?_⟩
    have ln := he.len
    refine ⟨d, _, hd, trivial, fun od => ?_⟩
    have un : ∀ {H'}, Same (upd H d (.frz od (.dK kv))) H' → Same H (upd H' d (.dK kv)) := unlock hd
    have hd1 : (upd H d (.frz od (.dK kv))) d = some (.frz od (.dK kv)) := upd_same
    have he1 := he.tk (lock_tk (od := od) hd)
    generalize upd H d (.frz od (.dK kv)) = H1 at *
    refine ⟨_, rfl, d, od, kv, rfl, hd1, fun D hD => ?_⟩
    refine turns walk_values (fun i H' => Same H1 H' ∧ H' D = some (.lst ((((l.take i).filter fun e => decide (e.2.1 = x)).map (·.2.2)).map V.str))) ⟨Lb.Same.upd hD, upd_same⟩ (fun i H' _ b => b.1 _ _ hd1) ?_ ?_
    · rintro i v H2 H3 hi ⟨s2, eD⟩ ⟨rfl, k0, ek⟩
      obtain ⟨e, hel, ek2, t, rfl, ht⟩ := he1.get ek
      have ht2 := s2 _ _ ht
      refine ⟨t, _, rfl, SqT.of ht2, rfl, _, _, rfl, _, _, rfl, rfl, rfl, _, rfl, _, rfl, rfl, _, rfl, ?_⟩
      rw [show decide ((V.str e.2.1 : V) = V.str x) = decide (e.2.1 = x) by simp, ← take_snoc hel]
      by_cases hx : e.2.1 = x
      · rw [decide_eq_true hx, List.filter_append, List.filter_cons, if_pos (decide_eq_true hx), List.map_append, List.map_append]
        refine iteT ⟨_, rfl, _, eD, ?_, Lb.Same.updl s2 hD, upd_same⟩
        rw [List.length_map, List.length_map]
        exact szlt (Nat.le_trans (List.length_filter_le _ _) (by rw [List.length_take]; omega))
      · rw [decide_eq_false hx, List.filter_append, List.filter_cons, if_neg (by simp [hx]), List.filter_nil, List.append_nil]
        exact iteF ⟨s2, eD⟩
    · rintro H2 ⟨s2, eD⟩
      rw [ln, List.take_length] at eD
      refine ⟨s2 _ _ hd1, ?_⟩
      have ndD : D ≠ d := fun z => by rw [z, hd1] at hD; cases hD
      have u2 := un s2
      have eD2 : (upd H2 d (.dK kv)) D = some (.lst (((l.filter fun e => decide (e.2.1 = x)).map (·.2.2)).map V.str)) := by rw [upd_ne ndD]; exact eD
      have hd2 : (upd H2 d (.dK kv)) d = some (.dK kv) := upd_same
      have he2 := he.tk u2.tk
      clear un he1 s2 eD hd1
      generalize upd H2 d (.dK kv) = H3 at *
      refine ⟨d, _, hd2, trivial, fun od2 => ?_⟩
      have un : ∀ {H'}, Same (upd H3 d (.frz od2 (.dK kv))) H' → Same H3 (upd H' d (.dK kv)) := unlock hd2
      have hd1 : (upd H3 d (.frz od2 (.dK kv))) d = some (.frz od2 (.dK kv)) := upd_same
      have he1 := he2.tk (lock_tk (od := od2) hd2)
      generalize upd H3 d (.frz od2 (.dK kv)) = H4 at *
      refine ⟨_, rfl, d, od2, kv, rfl, hd1, fun D2 hD2 => ?_⟩
      refine turns walk_values (fun i H' => Same H4 H' ∧ H' D2 = some (.lst ((((l.take i).filter fun e => decide (e.2.2 = x)).map (·.2.1)).map V.str))) ⟨Lb.Same.upd hD2, upd_same⟩ (fun i H' _ b => b.1 _ _ hd1) ?_ ?_
      · rintro i v H5 H6 hi ⟨s2, eD⟩ ⟨rfl, k0, ek⟩
        obtain ⟨e, hel, ek2, t, rfl, ht⟩ := he1.get ek
        have ht2 := s2 _ _ ht
        refine ⟨t, _, rfl, SqT.of ht2, rfl, _, _, rfl, _, _, rfl, rfl, rfl, _, rfl, _, rfl, rfl, _, rfl, ?_⟩
        rw [show decide ((V.str e.2.2 : V) = V.str x) = decide (e.2.2 = x) by simp, ← take_snoc hel]
        by_cases hx : e.2.2 = x
        · rw [decide_eq_true hx, List.filter_append, List.filter_cons, if_pos (decide_eq_true hx), List.map_append, List.map_append]
          refine iteT ⟨_, rfl, _, eD, ?_, Lb.Same.updl s2 hD2, upd_same⟩
          rw [List.length_map, List.length_map]
          exact szlt (Nat.le_trans (List.length_filter_le _ _) (by rw [List.length_take]; omega))
        · rw [decide_eq_false hx, List.filter_append, List.filter_cons, if_neg (by simp [hx]), List.filter_nil, List.append_nil]
          exact iteF ⟨s2, eD⟩
      · rintro H5 ⟨s5, eD5⟩
        rw [ln, List.take_length] at eD5
        refine ⟨s5 _ _ hd1, ?_⟩
        have nd2 : D2 ≠ d := fun z => by rw [z, hd1] at hD2; cases hD2
        have u5 := un s5
        have eDa := u5 _ _ eD2
        have eDb : (upd H5 d (.dK kv)) D2 = some (.lst (((l.filter fun e => decide (e.2.2 = x)).map (·.2.1)).map V.str)) := by rw [upd_ne nd2]; exact eD5
        generalize upd H5 d (.dK kv) = H7 at *
        have ly := nbr_len l x
        have l8 := ded_len (nbr l x)
        have h1 := List.length_filter_le (fun e : En => decide (e.2.1 = x)) l
        have h2 := List.length_filter_le (fun e : En => decide (e.2.2 = x)) l
        refine ⟨_, rfl, _, rfl, D, D2, _, _, rfl, rfl, eDa, eDb, szle (by rw [List.length_map, List.length_map, List.length_map, List.length_map]; omega), fun c0 hc0 => ?_⟩
        have ec : (upd H7 c0 (.lst (((l.filter fun e => decide (e.2.1 = x)).map (·.2.2)).map V.str ++ ((l.filter fun e => decide (e.2.2 = x)).map (·.2.1)).map V.str))) c0 = some (.lst ((nbr l x).map V.str)) := by
          rw [upd_same]
          unfold nbr
          rw [List.map_append]
        refine ⟨c0, nbr l x, rfl, SqL.of ec, by omega, fun p1 hp1 => ⟨p1, _, rfl, upd_same, by omega, fun ys p2 perm so hp2 => ?_⟩⟩
        obtain rfl := srtS_of perm so
        have sA := ((u2.trans u5).trans (Lb.Same.upd hc0)).trans (Lb.Same.upd (o := SetS P w p1 (ded (nbr l x))) hp1)
        exact k _ p2 (sA.trans (Lb.Same.upd hp2)) (Lb.Same.free sA hp2) upd_same
end
end K20

set_option Elab.async false
set_option linter.all false
set_option maxRecDepth 100000
set_option maxHeartbeats 4000000
namespace K20
open PySem L2 Lb
open C8 (pss_cut)
theorem items_at {kv : List (Key × V)} {i : Nat} {x y : V} (ex : kv[i]?.map (fun q => kV q.1) = some x) (ey : kv[i]?.map Prod.snd = some y) : ∃ q, kv[i]? = some q ∧ kV q.1 = x ∧ q.2 = y := by
  cases h : kv[i]? with
  | none => rw [h] at ey; cases ey
  | some q =>
    rw [h] at ex ey
    cases ex
    cases ey
    exact ⟨q, rfl, rfl, rfl⟩
def sp_sorted_pipes : Sp := fun vs H Q _ => ∃ d l, vs = [.ref d] ∧ DA H d l ∧ (nmsOf l).Nodup ∧ (∀ e ∈ l, nmS e.1 = true ∧ nmS e.2.1 = true ∧ nmS e.2.2 = true ∧ e.2.1 ≠ e.2.2) ∧ l ≠ [] ∧ l.length ≤ 20 ∧
  ∀ H' D, Same H H' → H D = none → DA H' D (srtP l) → Q (.ref D) H'
section
variable {P : Program} {w : World} {K : PySem.W.Frag} {mg : Str → Option Value} {base : Heap} {a : Ad}
theorem ok_sorted_pipes (T : Txt K mg a) : FnOk P w K mg base CX0 3 a.f_sorted_pipes a.d_sorted_pipes ["pipes"] sp_sorted_pipes := by
  refine T.F_sorted_pipes.ok sc_sorted_pipes (fun vs H Q E h => ?_) (fun cdv A outer s H vs Q E hr h => ?_)
  · obtain ⟨d, l, rfl, _⟩ := h
    rfl
  · obtain ⟨d, l, rfl, ⟨kv, hd, he⟩, hnd, hnm, hne, hl, k⟩ := h
    refine ⟨_, (pss_cons (ps_if (PW.pt (pw_or (pt_not (pt_val (pe_callB (call_isiK' (K := K) rfl) (by rfl) T.b_isinstance (by decide +kernel) (pa_cons (pv 0) (pa_cons (pe_bltn (v := .ty "dict") (by rfl) T.b_dict (by decide +kernel) rfl) pa_nil))))) (pw_or (pt_cmpR op_eq (pe_callB call_lenD (by rfl) T.b_len (by decide +kernel) (pa_cons (pv 0) pa_nil)) pe_int (nomark _)) (pw_or1 (pt_not (pt_val (pe_callB (cr_allK (K := K) rfl rfl) (by rfl) T.b_all (by decide +kernel) (pa_cons (pe_lock (pe_lc (own := [("name", 1)]) (by rfl) sc_sorted_pipes.nd (pi_keys (pv 0)) (blkOk_by (own := [("name", 1)]) (N := ["pipes", "name", "ends", "key"]) (sc := defScope s_sorted_pipes) (by decide +kernel)) (fun _ _ _ _ _ => (pg_name (i := 1) sc_sorted_pipes.nd rfl (by first | exact Or.inl rfl | exact Or.inr rfl))) (fun _ _ _ _ _ => pts_nil) (fun _ _ _ _ _ => (pe_call (ok_is_name T) (hr.mono (by decide)) (by rfl) T.m_is_name T.F_is_name.kp (b_is_name T) .nil pass0 (pa_cons (pv 1) pa_nil))))) pa_nil)))))))) (pss_one ps_never) pss_nil)
 (pss_cons (ps_lock (ps_for PassesOwn.never rfl (pi_items (pv 0)) (pg_tupK (K := K) (n := 2) rfl rfl (pgs_cons (pg_name (i := 1) sc_sorted_pipes.nd rfl (by first | exact Or.inl rfl | exact Or.inr rfl)) (pgs_cons (pg_name (i := 2) sc_sorted_pipes.nd rfl (by first | exact Or.inl rfl | exact Or.inr rfl)) pgs_nil))) (pss_one (ps_if (pt_not (pt_val (pe_call (ok_are_ends T) (hr.mono (by decide)) (by rfl) T.m_are_ends T.F_are_ends.kp (b_are_ends T) .nil pass0 (pa_cons (pv 2) pa_nil)))) (pss_one ps_never) pss_nil))))
 (pss_one (ps_ret (pe_dc (own := [("name", 1)]) (by rfl) sc_sorted_pipes.nd (pi_listK (K := K) rfl (pe_callB (cr_sortedSK (K := K) rfl) (by rfl) T.b_sorted (by decide +kernel) (pa_cons (pe_lock (pe_lc (own := [("key", 3)]) (by rfl) sc_sorted_pipes.nd (pi_keys (pv 0)) (blkOk_by (own := [("key", 3)]) (N := ["pipes", "name", "ends", "key"]) (sc := defScope s_sorted_pipes) (by decide +kernel)) (fun _ _ _ _ _ => (pg_name (i := 3) sc_sorted_pipes.nd rfl (by first | exact Or.inl rfl | exact Or.inr rfl))) (fun _ _ _ _ _ => pts_nil) (fun _ _ _ _ _ => (pe_callTy SkE.call_str_str (by rfl) T.b_str (by decide +kernel) (pa_cons (pv 3) pa_nil))))) pa_nil))) (blkOk_by (own := [("name", 1)]) (N := ["pipes", "name", "ends", "key"]) (sc := defScope s_sorted_pipes) (by decide +kernel)) (fun _ _ _ _ _ => (pg_name (i := 1) sc_sorted_pipes.nd rfl (by first | exact Or.inl rfl | exact Or.inr rfl))) (fun _ _ _ _ _ => pts_nil) (fun _ _ _ _ _ => (pv 1)) (fun _ _ _ _ _ => (pe_dget (hu_of hr) (pv 0) (pv 1) (fun _ _ => rfl)))))))), ?_⟩
    have ln := he.len
    have l0 : 0 < l.length := List.length_pos_iff.mpr hne
    refine ⟨_, rfl, _, _, _, _, _, rfl, .ty _, .base (.dK hd), kit_ty (r := true) (by decide +kernel), true, rfl, ?_⟩
    refine iteF ⟨_, rfl, d, _, rfl, hd, rfl, _, rfl, ?_⟩
    rw [decide_eq_false (show ¬ V.int (kv.length : Nat) = V.int 0 from fun z => by injection z with z; omega)]
    refine iteF ?_
    refine ⟨d, _, hd, trivial, fun od => ?_⟩
    have un : ∀ {H'}, Same (upd H d (.frz od (.dK kv))) H' → Same H (upd H' d (.dK kv)) := unlock hd
    have hd1 : (upd H d (.frz od (.dK kv))) d = some (.frz od (.dK kv)) := upd_same
    have he1 := he.tk (lock_tk (od := od) hd)
    generalize upd H d (.frz od (.dK kv)) = H1 at *
    refine ⟨_, rfl, d, od, rfl, .inl ⟨kv, hd1, fun D hD => ?_⟩⟩
    refine turns walk_keys (fun i H' => Same H1 H' ∧ H' D = some (.lst (((l.take i).map fun _ => true).map V.bl))) ⟨Lb.Same.upd hD, upd_same⟩ (fun i H' _ b => b.1 _ _ hd1) ?_ ?_
    · rintro i v H2 H3 hi ⟨s2, eD⟩ ⟨rfl, k0, v0, ek, rfl⟩
      obtain ⟨e, hel, ek2, _⟩ := he1.get ek
      obtain rfl : k0 = Sum.inr e.1 := ek2
      refine ⟨rfl, _, rfl, _, rfl, (hnm e (List.mem_of_getElem? hel)).1, fun H4 s4 => ⟨_, s4 _ _ eD, ?_, Lb.Same.updl (s2.trans s4) hD, ?_⟩⟩
      · rw [List.length_map, List.length_map, List.length_take]
        exact szlt (by omega)
      · rw [upd_same, ← take_snoc hel, List.map_append, List.map_append]
        rfl
    rintro H2 ⟨s2, eD⟩
    rw [ln, List.take_length] at eD
    refine ⟨s2 _ _ hd1, ?_⟩
    have ndD : D ≠ d := fun z => by rw [z, hd1] at hD; cases hD
    have u2 := un s2
    have eD2 : (upd H2 d (.dK kv)) D = some (.lst ((l.map fun _ => true).map V.bl)) := by rw [upd_ne ndD]; exact eD
    have hd2 : (upd H2 d (.dK kv)) d = some (.dK kv) := upd_same
    have he2 := he.tk u2.tk
    clear un he1 s2 eD hd1
    generalize upd H2 d (.dK kv) = H3 at *
    refine ⟨D, _, rfl, SqL.of eD2, ?_⟩
    rw [show (l.map fun _ => true).all id = true by rw [List.all_map]; simp]
    refine ⟨_, rfl, iteF ?_⟩
    refine ⟨d, _, hd2, trivial, fun od2 => ?_⟩
    have un : ∀ {H'}, Same (upd H3 d (.frz od2 (.dK kv))) H' → Same H3 (upd H' d (.dK kv)) := unlock hd2
    have hd1 : (upd H3 d (.frz od2 (.dK kv))) d = some (.frz od2 (.dK kv)) := upd_same
    have he1 := he2.tk (lock_tk (od := od2) hd2)
    generalize upd H3 d (.frz od2 (.dK kv)) = H4 at *
    refine ⟨_, rfl, d, od2, kv, rfl, hd1, ?_⟩
    refine for_it walk_items (fun i σ H' => ∃ u1 u2, σ = [some (.ref d), u1, u2, none] ∧ Same H4 H') ⟨_, _, rfl, Same.refl _⟩ (fun i σ H' _ ⟨_, _, _, b⟩ => b _ _ hd1) ?_ ?_
    · rintro i v σ H5 H6 hi ⟨w1, w2, rfl, s5⟩ ⟨t0, x, y, rfl, ht0, rfl, ex, ey⟩
      obtain ⟨q, eq, rfl, rfl⟩ := items_at ex ey
      obtain ⟨e, hel, ek2, hv⟩ := he1.get eq
      generalize e_H7 : upd _ t0 _ = H7
      obtain ⟨s7, f7⟩ := al3 e_H7 ht0
      clear e_H7
      (try dsimp only at f7)
      have hv7 := hv.tk (s5.tk.trans s7.tk)
      have hn := hnm e (List.mem_of_getElem? hel)
      refine ⟨t0, _, rfl, SqT.of f7, rfl, _, _, rfl, _, _, rfl, rfl, ?_⟩
      exact ⟨_, rfl, _, e.2.1, e.2.2, rfl, hv7, hn.2.1, hn.2.2.1, hn.2.2.2, fun H8 s8 => ⟨_, rfl, iteF ⟨_, _, rfl, (s5.trans s7).trans s8⟩⟩⟩
    · rintro σ H5 ⟨w1, w2, rfl, s5⟩
      refine ⟨s5 _ _ hd1, ?_⟩
      have u5 := un s5
      have hd5 : (upd H5 d (.dK kv)) d = some (.dK kv) := upd_same
      have he5 := he2.tk u5.tk
      have uu := u2.trans u5
      clear un he1 s5 hd1 u5
      generalize upd H5 d (.dK kv) = H6 at *
      refine ⟨d, _, hd5, trivial, fun od3 => ?_⟩
      have un : ∀ {H'}, Same (upd H6 d (.frz od3 (.dK kv))) H' → Same H6 (upd H' d (.dK kv)) := unlock hd5
      have hd1 : (upd H6 d (.frz od3 (.dK kv))) d = some (.frz od3 (.dK kv)) := upd_same
      have he1 := he5.tk (lock_tk (od := od3) hd5)
      generalize upd H6 d (.frz od3 (.dK kv)) = H7 at *
      refine ⟨_, rfl, d, od3, rfl, .inl ⟨kv, hd1, fun D7 hD7 => ?_⟩⟩
      refine turns walk_keys (fun i H' => Same H7 H' ∧ H' D7 = some (.lst ((nmsOf (l.take i)).map V.str))) ⟨Lb.Same.upd hD7, upd_same⟩ (fun i H' _ b => b.1 _ _ hd1) ?_ ?_
      · rintro i v H8 H9 hi ⟨s8, eD8⟩ ⟨rfl, k0, v0, ek, rfl⟩
        obtain ⟨e, hel, ek2, _⟩ := he1.get ek
        obtain rfl : k0 = Sum.inr e.1 := ek2
        refine ⟨rfl, _, rfl, _, rfl, _, eD8, ?_, Lb.Same.updl s8 hD7, ?_⟩
        · unfold nmsOf
          rw [List.length_map, List.length_map, List.length_take]
          exact szlt (by omega)
        · unfold nmsOf
          rw [upd_same, ← take_snoc hel, List.map_append, List.map_append]
          rfl
      rintro H8 ⟨s8, eD8⟩
      rw [ln, List.take_length] at eD8
      refine ⟨s8 _ _ hd1, ?_⟩
      have ndD7 : D7 ≠ d := fun z => by rw [z, hd1] at hD7; cases hD7
      have u8 := un s8
      have eD9 : (upd H8 d (.dK kv)) D7 = some (.lst ((nmsOf l).map V.str)) := by rw [upd_ne ndD7]; exact eD8
      have hd9 : (upd H8 d (.dK kv)) d = some (.dK kv) := upd_same
      have he9 := he5.tk u8.tk
      have uu9 := uu.trans u8
      clear un he1 s8 hd1 u8
      generalize upd H8 d (.dK kv) = H9 at *
      have lnn : (nmsOf l).length = l.length := by unfold nmsOf; rw [List.length_map]
      refine ⟨D7, _, rfl, SqL.of eD9, by omega, fun ys p6 perm so hp6 => ?_⟩
      obtain rfl := srt_of perm so
      have s10 : Same H9 (upd H9 p6 (.lst ((srt (nmsOf l)).map V.str))) := Lb.Same.upd hp6
      have e10 : (upd H9 p6 (.lst ((srt (nmsOf l)).map V.str))) p6 = some (.lst ((srt (nmsOf l)).map V.str)) := upd_same
      generalize upd H9 p6 (.lst ((srt (nmsOf l)).map V.str)) = H10 at *
      have hd10 := s10 _ _ hd9
      have he10 := he9.tk s10.tk
      have n7 : H D7 = none ∨ True := .inr trivial
      refine ⟨p6, rfl, ⟨_, SqL.of e10⟩, fun D0 hD0 => ?_⟩
      refine turns walk_list (fun i H' => Same H10 H' ∧ ∃ kv', H' D0 = some (.dK kv') ∧ Ent H' kv' ((srtP l).take i)) ⟨Lb.Same.upd hD0, [], upd_same, .nil⟩ (fun i H' _ b => SqL.of (b.1 _ _ e10)) ?_ ?_
      · rintro i v H11 H12 hi ⟨s11, kv', eD, he11⟩ ⟨rfl, ev⟩
        rw [List.getElem?_map] at ev
        obtain ⟨n, hn, rfl⟩ : ∃ n, (srt (nmsOf l))[i]? = some n ∧ V.str n = v := by
          cases h : (srt (nmsOf l))[i]? with
          | none => rw [h] at ev; cases ev
          | some n => rw [h] at ev; exact ⟨n, rfl, by simpa using ev⟩
        have hin : n ∈ nmsOf l := srt_mem.mp (List.mem_of_getElem? hn)
        obtain ⟨e, hle⟩ := lookup_some hin
        obtain ⟨u, hu, hve⟩ := he10.val_some hle
        have hsn : (srtP l)[i]? = some (n, e) := by
          unfold srtP
          rw [List.getElem?_map, hn]
          show some (n, (l.lookup n).getD (Str.empty, Str.empty)) = _
          rw [hle]
          rfl
        have nin : n ∉ ((srtP l).take i).map (·.1) := by
          have nd := srtP_nd hnd
          unfold nmsOf at nd
          intro z
          obtain ⟨j, hj⟩ := List.mem_iff_getElem?.mp z
          rw [List.getElem?_map] at hj
          cases h : ((srtP l).take i)[j]? with
          | none => rw [h] at hj; cases hj
          | some q =>
            rw [h] at hj
            have hq : q.1 = n := by simpa using hj
            rw [List.getElem?_take] at h
            split at h
            · next hji =>
              have a1 : ((srtP l).map (·.1))[j]? = some n := by rw [List.getElem?_map, h]; exact congrArg some hq
              have a2 : ((srtP l).map (·.1))[i]? = some n := by rw [List.getElem?_map, hsn]; rfl
              have hjl := (List.getElem?_eq_some_iff.mp a1).1
              have := (List.getElem?_inj hjl nd).mp (a1.trans a2.symm)
              omega
            · cases h
        refine ⟨rfl, _, rfl, _, rfl, _, rfl, d, u, rfl, ?_, kv', Sum.inr n, rfl, eD, ?_, Lb.Same.updl s11 hD0, _, upd_same, ?_⟩
        · rw [← hu]
          exact DGet.k (k := Sum.inr n) (s11 _ _ hd10)
        · rw [he11.len, List.length_take, srtP_len]
          exact szlt (by omega)
        · rw [← take_snoc hsn]
          have := Ent.put he11 (z := n) (hve.tk s11.tk)
          unfold putP at this
          rw [if_neg nin] at this
          exact this.tk (tk_upd fun xs z => by rw [eD] at z; cases z)
      · rintro H11 ⟨s11, kv', eD, he11⟩
        rw [List.length_map, srt_len, lnn, ← srtP_len l, List.take_length] at he11
        have sA := (uu9.trans s10)
        exact k _ D0 (sA.trans s11) (Lb.Same.free sA hD0) ⟨kv', eD, he11⟩
end
end K20

set_option Elab.async false
set_option linter.all false
set_option maxRecDepth 100000
set_option maxHeartbeats 4000000
namespace K20
open PySem L2 Lb
open C8 (pss_cut)
def kvB (F : List Str) : List (Key × V) := F.map fun z => (Sum.inr z, V.bl true)
theorem kvB_get : ∀ (F : List Str) (z : Str), (valV (kvB F) (Sum.inr z : Key)).isSome = decide (z ∈ F)
  | [], z => by simp [kvB, valV]
  | q :: r, z => by
    have ih := kvB_get r z
    unfold kvB valV at ih ⊢
    rw [List.map_cons, List.find?_cons]
    by_cases h : q = z
    · simp [h]
    · rw [show decide ((Sum.inr q : Key) = Sum.inr z) = false by simp [h]]
      simp only [List.mem_cons, ih, Ne.symm h, false_or]
theorem kvB_put {F : List Str} {z : Str} (h : z ∉ F) : putK (kvB F) (Sum.inr z : Key) (V.bl true) = kvB (F ++ [z]) := by
  have e : ((kvB F).any fun kv => decide (kv.1 = (Sum.inr z : Key))) = false := by
    rw [Bool.eq_false_iff]
    intro w
    rw [List.any_eq_true] at w
    obtain ⟨x, hx, ex⟩ := w
    unfold kvB at hx
    obtain ⟨q, hq, rfl⟩ := List.mem_map.mp hx
    have ex := of_decide_eq_true ex
    have : q = z := by simpa using ex
    exact h (this ▸ hq)
  unfold putK
  rw [e]
  simp [kvB]
/-- found and waiting: what is found is reached, and what isn't waiting any more has all its neighbours found -/
structure Rea (l : PP) (x : Str) (F N : List Str) : Prop where
  nd : F.Nodup
  ndN : N.Nodup
  x0 : x ∈ F
  nod : ∀ z ∈ F, z ∈ nodOf l
  rch : ∀ z ∈ F, Rch l x z
  sub : ∀ z ∈ N, z ∈ F
theorem Rea.len {l : PP} {x : Str} {F N : List Str} (h : Rea l x F N) : F.length ≤ 2 * l.length := by
  have := h.nd.length_le_of_subset (fun z hz => h.nod z hz)
  rw [nod_len] at this
  exact this
theorem Rea.lenN {l : PP} {x : Str} {F N : List Str} (h : Rea l x F N) : N.length ≤ 2 * l.length :=
  Nat.le_trans (h.ndN.length_le_of_subset (fun z hz => h.sub z hz)) h.len
theorem Rea.add {l : PP} {x y z : Str} {F N : List Str} (h : Rea l x F N) (hy : y ∈ F) (hz : z ∈ nbr l y) (no : z ∉ F) : Rea l x (F ++ [z]) (N ++ [z]) := by
  have nN : z ∉ N := fun k => no (h.sub z k)
  refine ⟨?_, ?_, List.mem_append_left _ h.x0, fun u hu => ?_, fun u hu => ?_, fun u hu => ?_⟩
  · exact List.nodup_append.mpr ⟨h.nd, by simp, fun a ha b hb => by rw [List.mem_singleton.mp hb]; rintro rfl; exact no ha⟩
  · exact List.nodup_append.mpr ⟨h.ndN, by simp, fun a ha b hb => by rw [List.mem_singleton.mp hb]; rintro rfl; exact nN ha⟩
  · rcases List.mem_append.mp hu with hu | hu
    · exact h.nod u hu
    · rw [List.mem_singleton.mp hu]; exact nbr_nod hz
  · rcases List.mem_append.mp hu with hu | hu
    · exact h.rch u hu
    · rw [List.mem_singleton.mp hu]; exact .step (h.rch y hy) hz
  · rcases List.mem_append.mp hu with hu | hu
    · exact List.mem_append_left _ (h.sub u hu)
    · exact List.mem_append_right _ hu
def sp_reached : Sp := fun vs H Q _ => ∃ d l x, vs = [.ref d, .str x] ∧ DA H d l ∧ l.length ≤ 20 ∧ x ∈ nodOf l ∧
  ∀ H' D F, Same H H' → H D = none → H' D = some (.dK (kvB F)) → (∀ z, z ∈ F ↔ Rch l x z) → Q (.ref D) H'
section
variable {P : Program} {w : World} {K : PySem.W.Frag} {mg : Str → Option Value} {base : Heap} {a : Ad}
theorem ok_reached (T : Txt K mg a) : FnOk P w K mg base CX0 2 a.f_reached a.d_reached ["pipes", "start"] sp_reached := by
  refine T.F_reached.ok sc_reached (fun vs H Q E h => ?_) (fun cdv A outer s H vs Q E hr h => ?_)
  · obtain ⟨d, l, x, rfl, _⟩ := h
    rfl
  · obtain ⟨d, l, x, rfl, hd, hl, hx, k⟩ := h
    refine ⟨_, (pss_cons (ps_set (i := 2) sc_reached.nd rfl (by first | exact Or.inl rfl | exact Or.inr rfl) (pe_disp (pps_cons (pv 1) pe_bl pps_nil) rfl rfl (by simp) (by decide)))
 (pss_cons (ps_set (i := 3) sc_reached.nd rfl (by first | exact Or.inl rfl | exact Or.inr rfl) (pe_lst (pa_cons (pv 1) pa_nil)))
 (pss_cons (ps_while PassesOwn.never (pt_truth (pv 3) (by intro _; rfl)) (pss_cons (ps_set (i := 4) sc_reached.nd rfl (by first | exact Or.inl rfl | exact Or.inr rfl) (pe_bm0 PySem.F.plainAttrs_list PySem.F.slot_list_pop PySem.F.type_list_pop mt_pop (pv 3)))
 (pss_one (ps_for PassesOwn.never rfl (pi_listK (K := K) rfl (pe_call (ok_joined_nodes T) (hr.mono (by decide)) (by rfl) T.m_joined_nodes T.F_joined_nodes.kp (b_joined_nodes T) .nil pass0 (pa_cons (pv 0) (pa_cons (pv 4) pa_nil)))) (pg_name (i := 5) sc_reached.nd rfl (by first | exact Or.inl rfl | exact Or.inr rfl)) (pss_one (ps_if (pt_cmp (pc_dnotin (hu_of hr) (pv 5) (pv 2))) (pss_cons (ps_dput (hu_of hr) (pv 2) (pv 5) pe_bl rfl)
 (pss_one (ps_expr (pe_bm PySem.F.plainAttrs_list PySem.F.slot_list_append PySem.F.type_list_append mt_append (pv 3) (pa_cons (pv 5) pa_nil))))) pss_nil))))))
 (pss_one (ps_ret (pv 2)))))), ?_⟩
    refine fun D hD => ⟨_, rfl, upd_same, [(Sum.inr x, .bl true)], rfl, (by show 1 ≤ 15; decide), ?_⟩
    have e1 : (upd (upd H D (.dK [])) D (.dK (mergeK [] [(Sum.inr x, V.bl true)]))) D = some (.dK (kvB [x])) := upd_same
    have s1 : Same H (upd (upd H D (.dK [])) D (.dK (mergeK [] [(Sum.inr x, V.bl true)]))) := Lb.Same.updl (Lb.Same.upd hD) hD
    generalize upd (upd H D (.dK [])) D (.dK (mergeK [] [(Sum.inr x, V.bl true)])) = H1 at *
    refine ⟨_, rfl, sz, fun W hW => ?_⟩
    have nDW : D ≠ W := ne_of_none e1 hW
    have nW0 : H W = none := Lb.Same.free s1 hW
    refine ⟨fun m σ H' => ∃ u4 u5 F N, σ = [some (.ref d), some (.str x), some (.ref D), some (.ref W), u4, u5] ∧ Same H H' ∧ H' D = some (.dK (kvB F)) ∧ H' W = some (.lst (N.map V.str)) ∧ Rea l x F N ∧ (∀ z ∈ F, z ∉ N → ∀ y ∈ nbr l z, y ∈ F) ∧ m = 2 * (41 - F.length) + N.length,
      ⟨_, none, none, [x], [x], rfl, Lb.Same.updl s1 nW0, by rw [upd_ne nDW]; exact e1, upd_same, ⟨by simp, by simp, by simp, fun z hz => by rw [List.mem_singleton.mp hz]; exact hx, fun z hz => by rw [List.mem_singleton.mp hz]; exact .refl, fun z hz => hz⟩, fun z hz hn => absurd hz hn, rfl⟩, ?_⟩
    rintro m σ H2 ⟨u4, u5, F, N, rfl, s2, eD, eW, hR, hC, rfl⟩
    refine ⟨_, rfl, !(N.map V.str).isEmpty, .inl ⟨_, SqL.of eW, rfl⟩, ?_⟩
    by_cases hN : N = []
    · subst hN
      refine iteF ⟨_, rfl, k _ D F s2 hD eD fun z => ⟨hR.rch z, fun hz => ?_⟩⟩
      induction hz with
      | refl => exact hR.x0
      | step _ hy ih => exact hC _ ih (fun z => nomatch z) _ hy
    · obtain ⟨N', y, rfl⟩ : ∃ N' y, N = N' ++ [y] := ⟨N.dropLast, N.getLast hN, (List.dropLast_concat_getLast hN).symm⟩
      rw [show (!((N' ++ [y]).map V.str).isEmpty) = true by simp]
      refine iteT ⟨fun σ' H' => ∃ m', m' < 2 * (41 - F.length) + (N' ++ [y]).length ∧ ∃ u4 u5 F N, σ' = [some (.ref d), some (.str x), some (.ref D), some (.ref W), u4, u5] ∧ Same H H' ∧ H' D = some (.dK (kvB F)) ∧ H' W = some (.lst (N.map V.str)) ∧ Rea l x F N ∧ (∀ z ∈ F, z ∉ N → ∀ y ∈ nbr l z, y ∈ F) ∧ m' = 2 * (41 - F.length) + N.length, fun _ _ z => z, ?_⟩
      refine ⟨_, rfl, .inl ⟨rfl, _, SqL.of eW⟩, W, _, .str y, rfl, rfl, eW, by simp, ?_⟩
      have hyF : y ∈ F := hR.sub y (by simp)
      have nyN : y ∉ N' := fun z => by
        have := hR.ndN
        rw [List.nodup_append] at this
        exact this.2.2 y z y (by simp) rfl
      have hR' : Rea l x F N' := ⟨hR.nd, (List.nodup_append.mp hR.ndN).1, hR.x0, hR.nod, hR.rch, fun z hz => hR.sub z (by simp [hz])⟩
      have hC' : ∀ z ∈ F, z ∉ N' → z ≠ y → ∀ u ∈ nbr l z, u ∈ F := fun z h1 h2 h3 => hC z h1 (by simp [h2, h3])
      have s3 : Same H (upd H2 W (.lst ((N' ++ [y]).map V.str).dropLast)) := Lb.Same.updl s2 nW0
      have eW3 : (upd H2 W (.lst ((N' ++ [y]).map V.str).dropLast)) W = some (.lst (N'.map V.str)) := by rw [upd_same]; simp
      have eD3 : (upd H2 W (.lst ((N' ++ [y]).map V.str).dropLast)) D = some (.dK (kvB F)) := by rw [upd_ne nDW]; exact eD
      generalize upd H2 W (.lst ((N' ++ [y]).map V.str).dropLast) = H3 at *
      refine ⟨_, rfl, _, rfl, d, l, y, rfl, hd.same s3, hl, fun H4 p4 s4 hp4 e4 => ?_⟩
      refine ⟨p4, rfl, ⟨_, SqL.of e4⟩, ?_⟩
      have lF := hR.len
      have hFN : 2 * (41 - F.length) + N'.length < 2 * (41 - F.length) + (N' ++ [y]).length := by rw [List.length_append]; show _ < _ + (_ + 1); omega
      generalize 2 * (41 - F.length) + (N' ++ [y]).length = M at *
      refine for_it walk_list (fun i σ H' => ∃ u5 F N, σ = [some (.ref d), some (.str x), some (.ref D), some (.ref W), some (.str y), u5] ∧ Same H H' ∧ H' p4 = some (.lst ((nbrs l y).map V.str)) ∧ H' D = some (.dK (kvB F)) ∧ H' W = some (.lst (N.map V.str)) ∧ Rea l x F N ∧ y ∈ F ∧
          (∀ z ∈ F, z ∉ N → z ≠ y → ∀ u ∈ nbr l z, u ∈ F) ∧ (∀ u ∈ (nbrs l y).take i, u ∈ F) ∧ 2 * (41 - F.length) + N.length < M)
        ⟨u5, F, N', rfl, s3.trans s4, e4, s4 _ _ eD3, s4 _ _ eW3, hR', hyF, hC', (fun u hu => by simp at hu), hFN⟩ (fun i σ H' _ ⟨_, _, _, _, _, b, _⟩ => SqL.of b) ?_ ?_
      · rintro i v σ H5 H6 hi ⟨u5, F, N, rfl, s5, e5, eD5, eW5, hR, hyF, hC, hT, hM⟩ ⟨rfl, ev⟩
        rw [List.getElem?_map] at ev
        obtain ⟨z, hz, rfl⟩ : ∃ z, (nbrs l y)[i]? = some z ∧ V.str z = v := by
          cases h : (nbrs l y)[i]? with
          | none => rw [h] at ev; cases ev
          | some n => rw [h] at ev; exact ⟨n, rfl, by simpa using ev⟩
        have hzn : z ∈ nbr l y := srtS_mem.mp (List.mem_of_getElem? hz)
        refine ⟨_, rfl, _, rfl, D, _, rfl, DGet.k (k := Sum.inr z) eD5, _, rfl, ?_⟩
        rw [kvB_get]
        by_cases hin : z ∈ F
        · rw [decide_eq_true hin]
          refine iteF ⟨_, F, N, rfl, s5, e5, eD5, eW5, hR, hyF, hC, fun u hu => ?_, hM⟩
          rw [← take_snoc hz] at hu
          rcases List.mem_append.mp hu with hu | hu
          · exact hT u hu
          · rw [List.mem_singleton.mp hu]; exact hin
        · rw [decide_eq_false hin]
          have hR2 := hR.add hyF hzn hin
          have l1 := hR.len
          have l2 := hR.lenN
          have l3 := hR2.len
          rw [List.length_append, List.length_singleton] at l3
          refine iteT ⟨_, rfl, _, rfl, D, _, rfl, .inl ⟨_, Sum.inr z, eD5, rfl, ?_, rfl⟩, ?_⟩
          · unfold kvB
            rw [List.length_map]
            exact szlt (by omega)
          · rw [kvB_put hin]
            have nDp : D ≠ p4 := fun w => by rw [w, e5] at eD5; cases eD5
            have nWp : W ≠ p4 := fun w => by
              have q := s4 _ _ eW3
              rw [w, ← w] at q
              have h0 : H3 W = none := by rw [w]; exact hp4
              rw [h0] at eW3
              cases eW3
            have sA : Same H (upd H6 D (.dK (kvB (F ++ [z])))) := Lb.Same.updl s5 hD
            have eWA : (upd H6 D (.dK (kvB (F ++ [z])))) W = some (.lst (N.map V.str)) := by rw [upd_ne (Ne.symm nDW)]; exact eW5
            have eDA : (upd H6 D (.dK (kvB (F ++ [z])))) D = some (.dK (kvB (F ++ [z]))) := upd_same
            have epA : (upd H6 D (.dK (kvB (F ++ [z])))) p4 = some (.lst ((nbrs l y).map V.str)) := by rw [upd_ne (Ne.symm nDp)]; exact e5
            generalize upd H6 D (.dK (kvB (F ++ [z]))) = H7 at *
            refine ⟨_, rfl, .inl ⟨rfl, _, SqL.of eWA⟩, _, rfl, W, _, _, rfl, rfl, eWA, szlt (by rw [List.length_map]; omega), _, F ++ [z], N ++ [z], rfl, Lb.Same.updl sA nW0, ?_, ?_, ?_, hR2, List.mem_append_left _ hyF, fun u h1 h2 h3 t ht => ?_, fun u hu => ?_, ?_⟩
            · rw [upd_ne (Ne.symm nWp)]; exact epA
            · rw [upd_ne nDW]; exact eDA
            · rw [upd_same, List.map_append]; rfl
            · rcases List.mem_append.mp h1 with h1 | h1
              · exact List.mem_append_left _ (hC u h1 (fun w => h2 (List.mem_append_left _ w)) h3 t ht)
              · exact absurd (List.mem_append_right _ h1) h2
            · rw [← take_snoc hz] at hu
              rcases List.mem_append.mp hu with hu | hu
              · exact List.mem_append_left _ (hT u hu)
              · exact List.mem_append_right _ hu
            · rw [List.length_append, List.length_append, List.length_singleton]
              omega
      · rintro σ H5 ⟨u5, F, N, rfl, s5, e5, eD5, eW5, hR, hyF, hC, hT, hM⟩
        rw [List.length_map, List.take_length] at hT
        refine ⟨_, hM, _, _, F, N, rfl, s5, eD5, eW5, hR, fun z h1 h2 u hu => ?_, rfl⟩
        by_cases hzy : z = y
        · subst hzy
          exact hT u (srtS_mem.mpr hu)
        · exact hC z h1 h2 hzy u hu
end
end K20

set_option Elab.async false
set_option linter.all false
set_option maxRecDepth 100000
set_option maxHeartbeats 4000000
namespace K20
open PySem L2 Lb
open C8 (pss_cut)
/-! a net -/
def netF (D N T R : Addr) : List (Str × V) := putF "_near" (.ref R) (putF "_nodes" (.ref T) (putF "_names" (.ref N) (putF "_pipes" (.ref D) [])))
theorem nf_pi (D N T R : Addr) : (netF D N T R).lookup ("_pipes" : Str) = some (.ref D) := by
  unfold netF
  rw [lookup_putF, if_neg (by decide +kernel), lookup_putF, if_neg (by decide +kernel), lookup_putF, if_neg (by decide +kernel), lookup_putF, if_pos rfl]
theorem nf_nm (D N T R : Addr) : (netF D N T R).lookup ("_names" : Str) = some (.ref N) := by
  unfold netF
  rw [lookup_putF, if_neg (by decide +kernel), lookup_putF, if_neg (by decide +kernel), lookup_putF, if_pos rfl]
theorem nf_no (D N T R : Addr) : (netF D N T R).lookup ("_nodes" : Str) = some (.ref T) := by
  unfold netF
  rw [lookup_putF, if_neg (by decide +kernel), lookup_putF, if_pos rfl]
theorem nf_ne (D N T R : Addr) : (netF D N T R).lookup ("_near" : Str) = some (.ref R) := by
  unfold netF
  rw [lookup_putF, if_pos rfl]
theorem nf_not (D N T R : Addr) {m : Str} (h1 : ¬ m = "_near") (h2 : ¬ m = "_nodes") (h3 : ¬ m = "_names") (h4 : ¬ m = "_pipes") : (netF D N T R).lookup m = none := by
  unfold netF
  rw [lookup_putF, if_neg h1, lookup_putF, if_neg h2, lookup_putF, if_neg h3, lookup_putF, if_neg h4]
  all_goals rfl
/-- the neighbours of the nodes ps -/
def NearE (l : PP) (H : Hp) (kv : List (Key × V)) (ps : List Str) : Prop := Paired (fun (q : Key × V) (x : Str) => q.1 = Sum.inr x ∧ ∃ p, q.2 = .ref p ∧ H p = some (.lst ((nbrs l x).map V.str))) kv ps
structure NetA (C : Addr) (H : Hp) (q dx D N T R : Addr) (l : PP) : Prop where
  ins : H q = some (.ins C dx (netF D N T R))
  pi : DA H D (srtP l)
  nm : H N = some (.lst ((srt (nmsOf l)).map V.str))
  no : H T = some (.tup ((pts l).map V.str))
  ne : ∃ kv, H R = some (.dK kv) ∧ NearE l H kv (pts l)
  good : Good l
def NetAt (C : Addr) (H : Hp) (q : Addr) (l : PP) : Prop := ∃ dx D N T R, NetA C H q dx D N T R l
theorem NetA.same {C q dx D N T R : Addr} {H H' : Hp} {l : PP} (h : NetA C H q dx D N T R l) (s : Same H H') : NetA C H' q dx D N T R l :=
  ⟨s _ _ h.ins, h.pi.same s, s _ _ h.nm, s _ _ h.no, let ⟨kv, a, b⟩ := h.ne; ⟨kv, s _ _ a, Paired.imp b fun _ _ ⟨x, p, y, z⟩ => ⟨x, p, y, s _ _ z⟩⟩, h.good⟩
theorem NetAt.same {C q : Addr} {H H' : Hp} {l : PP} (h : NetAt C H q l) (s : Same H H') : NetAt C H' q l := let ⟨dx, D, N, T, R, h⟩ := h; ⟨dx, D, N, T, R, h.same s⟩
/-- all but q stays -/
def SQ (q : Addr) (H H' : Hp) : Prop := ∀ x o, x ≠ q → H x = some o → H' x = some o
theorem SQ.of {q : Addr} {H H' : Hp} (s : Same H H') : SQ q H H' := fun x o _ e => s x o e
theorem SQ.trans {q : Addr} {H H1 H2 : Hp} (a : SQ q H H1) (b : SQ q H1 H2) : SQ q H H2 := fun x o n e => b x o n (a x o n e)
theorem SQ.upd {q : Addr} {H : Hp} {o : HO} : SQ q H (upd H q o) := fun x u n e => by rw [upd_ne n]; exact e
theorem SQ.tk {q : Addr} {H H' : Hp} (s : SQ q H H') (h : ∀ xs, H q ≠ some (.tup xs)) : TK H H' := fun t xs e => s t _ (fun z => h xs (by rw [← z]; exact e)) e
theorem DA.sq {q d : Addr} {H H' : Hp} {l : PP} (h : DA H d l) (s : SQ q H H') {C dx : Addr} {fs : List (Str × V)} (hq : H q = some (.ins C dx fs)) : DA H' d l :=
  let ⟨kv, a, b⟩ := h
  ⟨kv, s _ _ (ne_of a hq (fun z => nomatch z)) a, b.tk (s.tk fun xs z => by rw [hq] at z; cases z)⟩
def sp_Net_init_ (C : Addr) : Sp := fun vs H Q _ => ∃ q dx d l, vs = [.ref q, .ref d] ∧ DA H d l ∧ Good l ∧ H q = some (.ins C dx []) ∧
  ∀ H' D N T R, SQ q H H' → H D = none → H R = none → NetA C H' q dx D N T R l → Q .non H'
section
variable {P : Program} {w : World} {K : PySem.W.Frag} {mg : Str → Option Value} {base : Heap} {a : Ad}
theorem ok_Net_init_ (T : Txt K mg a) : FnOk P w K mg base CX0 4 a.f_Net_init_ a.d_Net_init_ ["self", "pipes"] (sp_Net_init_ a.c_Net) := by
  refine T.F_Net_init_.ok sc_Net_init_ (fun vs H Q E h => ?_) (fun cdv A outer s H vs Q E hr h => ?_)
  · obtain ⟨q, dx, d, l, rfl, _⟩ := h
    rfl
  · obtain ⟨q, dx, d, l, rfl, hd, G, hq, k⟩ := h
    refine ⟨_, (pss_cons (ps_fldK (K := K) rfl (pv 0) (pe_call (ok_sorted_pipes T) (hr.mono (by decide)) (by rfl) T.m_sorted_pipes T.F_sorted_pipes.kp (b_sorted_pipes T) .nil pass0 (pa_cons (pv 1) pa_nil)) rfl)
 (pss_cons (ps_fldK (K := K) rfl (pv 0) (pe_callTy (call_listD rfl) (by rfl) T.b_list (by decide +kernel) (pa_cons (pe_fldK (K := K) rfl (pv 0) rfl) pa_nil)) rfl)
 (pss_cons (ps_fldK (K := K) rfl (pv 0) (pe_call (ok_sorted_nodes T) (hr.mono (by decide)) (by rfl) T.m_sorted_nodes T.F_sorted_nodes.kp (b_sorted_nodes T) .nil pass0 (pa_cons (pe_fldK (K := K) rfl (pv 0) rfl) pa_nil)) rfl)
 (pss_cons (ps_set (i := 2) sc_Net_init_.nd rfl (by first | exact Or.inl rfl | exact Or.inr rfl) (pe_call (ok_reached T) (hr.mono (by decide)) (by rfl) T.m_reached T.F_reached.kp (b_reached T) .nil pass0 (pa_cons (pe_fldK (K := K) rfl (pv 0) rfl) (pa_cons (pe_ix (ix_tupK (K := K) rfl) (pe_fldK (K := K) rfl (pv 0) rfl) pe_int (fun _ _ => rfl)) pa_nil))))
 (pss_cons (ps_for PassesOwn.never rfl (pi_tupK (K := K) rfl (pe_fldK (K := K) rfl (pv 0) rfl)) (pg_name (i := 3) sc_Net_init_.nd rfl (by first | exact Or.inl rfl | exact Or.inr rfl)) (pss_one (ps_if (pt_cmp (pc_dnotin (hu_of hr) (pv 3) (pv 2))) (pss_one ps_never) pss_nil)))
 (pss_cons (ps_if (pt_cmpR op_gt (pe_callB (call_lenK (K := K) rfl) (by rfl) T.b_len (by decide +kernel) (pa_cons (pe_fldK (K := K) rfl (pv 0) rfl) pa_nil)) (pe_conK (K := K) rfl (pv 0) rfl) (nomark _)) (pss_one ps_never) pss_nil)
 (pss_cons (ps_if (pt_cmpR op_gt (pe_callB (call_lenK (K := K) rfl) (by rfl) T.b_len (by decide +kernel) (pa_cons (pe_fldK (K := K) rfl (pv 0) rfl) pa_nil)) (pe_conK (K := K) rfl (pv 0) rfl) (nomark _)) (pss_one ps_never) pss_nil)
 (pss_one (ps_fldK (K := K) rfl (pv 0) (pe_dc (own := [("node", 3)]) (by rfl) sc_Net_init_.nd (pi_tupK (K := K) rfl (pe_fldK (K := K) rfl (pv 0) rfl)) (blkOk_by (own := [("node", 3)]) (N := ["self", "pipes", "reached", "node"]) (sc := defScope s_Net_init_) (by decide +kernel)) (fun _ _ _ _ _ => (pg_name (i := 3) sc_Net_init_.nd rfl (by first | exact Or.inl rfl | exact Or.inr rfl))) (fun _ _ _ _ _ => pts_nil) (fun _ _ _ _ _ => (pv 3)) (fun _ _ _ _ _ => (pe_call (ok_joined_nodes T) (hr.mono (by decide)) (by rfl) T.m_joined_nodes T.F_joined_nodes.kp (b_joined_nodes T) .nil pass0 (pa_cons (pe_fldK (K := K) rfl (pv 0) rfl) (pa_cons (pv 3) pa_nil))))) rfl))))))))), ?_⟩
    have lle := G.le
    refine ⟨_, rfl, d, l, rfl, hd, G.nd, G.nm, G.ne, by omega, fun H1 D s1 hD eD => ?_⟩
    have nqD : D ≠ q := fun z => by rw [z, hq] at hD; cases hD
    have Gs := G.srtP
    have nd := G.nd
    have lsl := srtP_len l
    refine ⟨_, rfl, q, _, dx, _, rfl, s1 _ _ hq, T.cl, T.nPi, (by show 0 < 1000; decide), ?_⟩
    have q2 : SQ q H (upd H1 q (.ins a.c_Net dx (putF "_pipes" (.ref D) []))) := (SQ.of s1).trans .upd
    have i2 : (upd H1 q (.ins a.c_Net dx (putF "_pipes" (.ref D) []))) q = _ := upd_same
    have d2 : DA (upd H1 q (.ins a.c_Net dx (putF "_pipes" (.ref D) []))) D (srtP l) := eD.sq .upd (s1 _ _ hq)
    generalize upd H1 q (.ins a.c_Net dx (putF "_pipes" (.ref D) [])) = H2 at *
    obtain ⟨kv, hkv, ekv⟩ := id d2
    refine ⟨_, rfl, q, _, dx, _, _, rfl, i2, T.cl, T.nPi, by rw [lookup_putF, if_pos rfl], ?_⟩
    refine ⟨D, kv, rfl, .inl hkv, fun N hN => ?_⟩
    have eNv : (kv.map fun kv => kV kv.1) = (srt (nmsOf l)).map V.str := by
      rw [← nms_srtP, show (kv.map fun kv => kV kv.1) = (kv.map (·.1)).map kV by rw [List.map_map]; rfl, ekv.keys, List.map_map]
      rfl
    rw [eNv]
    have s3 : Same H2 (upd H2 N (.lst ((srt (nmsOf l)).map V.str))) := Lb.Same.upd hN
    have eN : (upd H2 N (.lst ((srt (nmsOf l)).map V.str))) N = some (.lst ((srt (nmsOf l)).map V.str)) := upd_same
    generalize upd H2 N (.lst ((srt (nmsOf l)).map V.str)) = H3 at *
    have i3 := s3 _ _ i2
    refine ⟨_, rfl, q, _, dx, _, rfl, i3, T.cl, T.nNm, (by show 1 < 1000; decide), ?_⟩
    have q4 : SQ q H (upd H3 q (.ins a.c_Net dx (putF "_names" (.ref N) (putF "_pipes" (.ref D) [])))) := (q2.trans (.of s3)).trans .upd
    have i4 : (upd H3 q (.ins a.c_Net dx (putF "_names" (.ref N) (putF "_pipes" (.ref D) [])))) q = _ := upd_same
    have d4 : DA (upd H3 q (.ins a.c_Net dx (putF "_names" (.ref N) (putF "_pipes" (.ref D) [])))) D (srtP l) := (d2.same s3).sq .upd i3
    have eN4 : (upd H3 q (.ins a.c_Net dx (putF "_names" (.ref N) (putF "_pipes" (.ref D) [])))) N = some (.lst ((srt (nmsOf l)).map V.str)) := by rw [upd_ne (ne_of eN i3 (fun z => nomatch z))]; exact eN
    generalize upd H3 q (.ins a.c_Net dx (putF "_names" (.ref N) (putF "_pipes" (.ref D) []))) = H4 at *
    refine ⟨_, rfl, q, _, dx, _, _, rfl, i4, T.cl, T.nPi, by rw [lookup_putF, if_neg (by decide +kernel), lookup_putF, if_pos rfl], ?_⟩
    refine ⟨D, _, rfl, d4, by omega, fun H5 T5 s5 eT => ?_⟩
    rw [pts_srtP nd] at eT
    have i5 := s5 _ _ i4
    refine ⟨_, rfl, q, _, dx, _, rfl, i5, T.cl, T.nNo, (by show 2 < 1000; decide), ?_⟩
    have q6 : SQ q H (upd H5 q (.ins a.c_Net dx (putF "_nodes" (.ref T5) (putF "_names" (.ref N) (putF "_pipes" (.ref D) []))))) := (q4.trans (.of s5)).trans .upd
    have i6 : (upd H5 q (.ins a.c_Net dx (putF "_nodes" (.ref T5) (putF "_names" (.ref N) (putF "_pipes" (.ref D) []))))) q = _ := upd_same
    have d6 : DA (upd H5 q (.ins a.c_Net dx (putF "_nodes" (.ref T5) (putF "_names" (.ref N) (putF "_pipes" (.ref D) []))))) D (srtP l) := (d4.same s5).sq .upd i5
    have eN6 : (upd H5 q (.ins a.c_Net dx (putF "_nodes" (.ref T5) (putF "_names" (.ref N) (putF "_pipes" (.ref D) []))))) N = some (.lst ((srt (nmsOf l)).map V.str)) := by rw [upd_ne (ne_of (s5 _ _ eN4) i5 (fun z => nomatch z))]; exact s5 _ _ eN4
    have eT6 : (upd H5 q (.ins a.c_Net dx (putF "_nodes" (.ref T5) (putF "_names" (.ref N) (putF "_pipes" (.ref D) []))))) T5 = some (.tup ((pts l).map V.str)) := by rw [upd_ne (ne_of eT i5 (fun z => nomatch z))]; exact eT
    generalize upd H5 q (.ins a.c_Net dx (putF "_nodes" (.ref T5) (putF "_names" (.ref N) (putF "_pipes" (.ref D) [])))) = H6 at *
    have lPi : (putF "_nodes" (.ref T5) (putF "_names" (.ref N) (putF "_pipes" (.ref D) []))).lookup ("_pipes" : Str) = some (V.ref D) := by
      rw [lookup_putF, if_neg (by decide +kernel), lookup_putF, if_neg (by decide +kernel), lookup_putF, if_pos rfl]
    have lNm : (putF "_nodes" (.ref T5) (putF "_names" (.ref N) (putF "_pipes" (.ref D) []))).lookup ("_names" : Str) = some (V.ref N) := by
      rw [lookup_putF, if_neg (by decide +kernel), lookup_putF, if_pos rfl]
    have lNo : (putF "_nodes" (.ref T5) (putF "_names" (.ref N) (putF "_pipes" (.ref D) []))).lookup ("_nodes" : Str) = some (V.ref T5) := by
      rw [lookup_putF, if_pos rfl]
    have lMn : (putF "_nodes" (.ref T5) (putF "_names" (.ref N) (putF "_pipes" (.ref D) []))).lookup ("MAX_NODES" : Str) = none := by
      rw [lookup_putF, if_neg (by decide +kernel), lookup_putF, if_neg (by decide +kernel), lookup_putF, if_neg (by decide +kernel)]; rfl
    have lMp : (putF "_nodes" (.ref T5) (putF "_names" (.ref N) (putF "_pipes" (.ref D) []))).lookup ("MAX_PIPES" : Str) = none := by
      rw [lookup_putF, if_neg (by decide +kernel), lookup_putF, if_neg (by decide +kernel), lookup_putF, if_neg (by decide +kernel)]; rfl
    obtain ⟨x0, hx0⟩ : ∃ x0, (pts l)[0]? = some x0 := by
      cases h : pts l with
      | cons x r => exact ⟨x, rfl⟩
      | nil =>
        obtain ⟨e, he⟩ := List.exists_mem_of_ne_nil l G.ne
        have : e.2.1 ∈ pts l := srtS_mem.mpr (mem_nod.mpr ⟨e, he, .inl rfl⟩)
        rw [h] at this
        cases this
    have hx0n : x0 ∈ nodOf l := srtS_mem.mp (List.mem_of_getElem? hx0)
    have a0 : atI ((pts l).map V.str) ((0 : Nat) : Int) = some (.str x0) := atI_nat (by rw [List.getElem?_map, hx0]; rfl)
    refine ⟨_, rfl, q, _, dx, _, _, rfl, i6, T.cl, T.nPi, lPi, _, rfl, q, _, dx, _, _, rfl, i6, T.cl, T.nNo, lNo, _, _, _, _, rfl, rfl, SqT.of eT6, a0, ?_⟩
    refine ⟨D, srtP l, x0, rfl, d6, by omega, (nod_srtP nd).mpr hx0n, fun H7 F Fs s7 hF eF hFs => ?_⟩
    have i7 := s7 _ _ i6
    have eT7 := s7 _ _ eT6
    refine ⟨_, rfl, q, _, dx, _, _, rfl, i7, T.cl, T.nNo, lNo, T5, rfl, ⟨_, SqT.of eT7⟩, ?_⟩
    refine for_it walk_tup (fun i σ H' => ∃ u3, σ = [some (.ref q), some (.ref d), some (.ref F), u3] ∧ Same H7 H') ⟨_, rfl, Same.refl _⟩ (fun i σ H' _ ⟨_, _, b⟩ => SqT.of (b _ _ eT7)) ?_ ?_
    · rintro i v σ H8 H9 hi ⟨u3, rfl, s8⟩ ⟨rfl, ev⟩
      rw [List.getElem?_map] at ev
      obtain ⟨z, hz, rfl⟩ : ∃ z, (pts l)[i]? = some z ∧ V.str z = v := by
        cases h : (pts l)[i]? with
        | none => rw [h] at ev; cases ev
        | some n => rw [h] at ev; exact ⟨n, rfl, by simpa using ev⟩
      have hzF : z ∈ Fs := (hFs z).mpr (Gs.con x0 ((nod_srtP nd).mpr hx0n) z ((nod_srtP nd).mpr (srtS_mem.mp (List.mem_of_getElem? hz))))
      refine ⟨_, rfl, _, rfl, F, _, rfl, DGet.k (k := Sum.inr z) (s8 _ _ eF), _, rfl, ?_⟩
      rw [kvB_get, decide_eq_true hzF]
      exact iteF ⟨_, rfl, s8⟩
    rintro σ H8 ⟨u3, rfl, s8⟩
    have i8 := s8 _ _ i7
    have eT8 := s8 _ _ eT7
    have eN8 := s8 _ _ (s7 _ _ eN6)
    have d8 := (d6.same s7).same s8
    have l8 := G.le8
    obtain ⟨tn, kN⟩ := T.kNODES
    obtain ⟨tp, kP⟩ := T.kPIPES
    refine ⟨_, rfl, q, _, dx, _, _, rfl, i8, T.cl, T.nNo, lNo, T5, _, rfl, .inr (SqT.of eT8), _, rfl, q, _, dx, _, _, _, rfl, i8, T.cl, kN, lMn, ?_⟩
    refine ⟨_, _, rfl, rfl, _, rfl, ?_⟩
    rw [decide_eq_false (show ¬ (8 : Int) < (((pts l).map V.str).length : Nat) by rw [List.length_map]; omega)]
    refine iteF ?_
    refine ⟨_, rfl, q, _, dx, _, _, rfl, i8, T.cl, T.nNm, lNm, N, _, rfl, .inl (SqL.of eN8), _, rfl, q, _, dx, _, _, _, rfl, i8, T.cl, kP, lMp, _, _, rfl, rfl, _, rfl, ?_⟩
    have lnn : (srt (nmsOf l)).length = l.length := by rw [srt_len]; unfold nmsOf; rw [List.length_map]
    rw [decide_eq_false (show ¬ (16 : Int) < (((srt (nmsOf l)).map V.str).length : Nat) by rw [List.length_map]; omega)]
    refine iteF ?_
    refine ⟨_, rfl, q, _, dx, _, _, rfl, i8, T.cl, T.nNo, lNo, T5, rfl, ⟨_, SqT.of eT8⟩, fun R hR => ?_⟩
    refine turns walk_tup (fun i H' => Same H8 H' ∧ ∃ kv, H' R = some (.dK kv) ∧ NearE l H' kv ((pts l).take i)) ⟨Lb.Same.upd hR, [], upd_same, .nil⟩ (fun i H' _ b => SqT.of (b.1 _ _ eT8)) ?_ ?_
    · rintro i v H9 H10 hi ⟨s9, kv9, eR, hE⟩ ⟨rfl, ev⟩
      rw [List.getElem?_map] at ev
      obtain ⟨z, hz, rfl⟩ : ∃ z, (pts l)[i]? = some z ∧ V.str z = v := by
        cases h : (pts l)[i]? with
        | none => rw [h] at ev; cases ev
        | some n => rw [h] at ev; exact ⟨n, rfl, by simpa using ev⟩
      refine ⟨rfl, _, rfl, _, rfl, q, _, dx, _, _, rfl, s9 _ _ i8, T.cl, T.nPi, lPi, _, rfl, D, srtP l, z, rfl, d8.same s9, by omega, fun H11 p s11 hp ep => ?_⟩
      rw [nbrs_srtP nd] at ep
      have lkv : kv9.length = ((pts l).take i).length := Paired.length hE
      refine ⟨kv9, Sum.inr z, rfl, s11 _ _ eR, ?_, Lb.Same.updl (s9.trans s11) hR, putK kv9 (Sum.inr z) (.ref p), upd_same, ?_⟩
      · rw [lkv, List.length_take]
        exact szlt (by omega)
      · have hno : (kv9.any fun q => decide (q.1 = (Sum.inr z : Key))) = false := by
          rw [Bool.eq_false_iff]
          intro h
          rw [List.any_eq_true] at h
          obtain ⟨u, hu, eu⟩ := h
          have eu := of_decide_eq_true eu
          obtain ⟨j, hj⟩ := List.mem_iff_getElem?.mp hu
          obtain ⟨y, hy, e1, _⟩ := paired_get hE hj
          rw [eu] at e1
          obtain rfl : z = y := by injection e1
          rw [List.getElem?_take] at hy
          split at hy
          · next hji =>
            have hjl := (List.getElem?_eq_some_iff.mp hy).1
            have := (List.getElem?_inj hjl (srtS_nd _)).mp (hy.trans hz.symm)
            omega
          · cases hy
        unfold putK
        rw [hno, ← take_snoc hz]
        have keep : ∀ {b : Addr} {xs : List V}, H11 b = some (.lst xs) → (upd H11 R (.dK (kv9 ++ [(Sum.inr z, V.ref p)]))) b = some (.lst xs) := fun {b xs} e => by
          rw [upd_ne (ne_of e (s11 _ _ eR) (fun z => nomatch z))]
          exact e
        refine Paired.snoc ⟨rfl, p, rfl, keep ep⟩ (Paired.imp hE fun _ _ ⟨x, p, y, z⟩ => ⟨x, p, y, keep (s11 _ _ z)⟩)
    · rintro H9 ⟨s9, kv9, eR, hE⟩
      have hR0 : H R = none := by
        cases z : H R with
        | none => rfl
        | some o =>
          by_cases e : R = q
          · rw [e, i8] at hR; cases hR
          · have := s8 _ _ (s7 _ _ (q6 R o e z))
            rw [hR] at this
            cases this
      rw [List.length_map, List.take_length] at hE
      have i9 := s9 _ _ i8
      refine ⟨_, rfl, q, _, dx, _, rfl, i9, T.cl, T.nNe, (by show 3 < 1000; decide), k _ D N T5 R (((q6.trans (.of s7)).trans (.of (s8.trans s9))).trans .upd) hD hR0 ⟨upd_same, (d8.same s9).sq .upd i9, ?_, ?_, ⟨kv9, ?_, ?_⟩, G⟩⟩
      · rw [upd_ne (ne_of (s9 _ _ eN8) i9 (fun z => nomatch z))]; exact s9 _ _ eN8
      · rw [upd_ne (ne_of (s9 _ _ eT8) i9 (fun z => nomatch z))]; exact s9 _ _ eT8
      · rw [upd_ne (ne_of eR i9 (fun z => nomatch z))]; exact eR
      · refine Paired.imp hE fun _ _ ⟨x, p, y, z⟩ => ⟨x, p, y, ?_⟩
        rw [upd_ne (ne_of z i9 (fun z => nomatch z))]
        exact z
end
end K20

set_option Elab.async false
set_option linter.all false
set_option maxRecDepth 100000
set_option maxHeartbeats 4000000
/-! {x!r} of a dict of plain data; == of two dicts by the data that they hold -/
namespace Lb
open PySem PySem.Spec PyProof.Rows L2
section
variable {X : Cx}
abbrev dcD (kvs : List (Key × V)) (ds : List PyData) : PyData := .dict ((kvs.map fun q => keyD q.1).zip ds)
def tFmtDc (K : PySem.W.Frag) (te : TE) : TE := fun σ H Q => te σ H fun x H1 => ∃ a kvs ds, x = .ref a ∧ H1 a = some (.dK kvs) ∧ DpAll K H1 (kvs.map (·.2)) ds ∧ flatDs ds = true ∧ (dcD kvs ds).showable = true ∧ (dcD kvs ds).shown.length ≤ sizeLine ∧ (dcD kvs ds).depth ≤ 60 ∧
  Q (.str (dcD kvs ds).shown) H1
theorem pe_fmtDc {K : PySem.W.Frag} {e : Expr} {te : TE} {pos : Pos} (hK : X.K = K) (hg : X.A.guards = some []) (hu : X.A.units + 64 < cLine) (he : PE X e te) : PE X (.FormattedValue e 114 none pos) (tFmtDc K te) := by
  subst hK
  refine ⟨fun pins s σ H Q I h => wpAny_FormattedValue_repr (thn (he.run pins s σ H _ I h) fun v s1 hv => ?_)⟩
  obtain ⟨x, H1, I1, r1, a, kvs, ds, rfl, e1, hd, f, sh, hz, dp, q⟩ := hv
  cases (show v = Value.ref a from r1)
  obtain ⟨rd, ne⟩ := dict_reads I1 e1 hd f
  refine pyReprObj_of_reads rd sh (fun _ z => ne (List.mem_singleton.mp z)) hg (by show _ + (dcD kvs ds).depth < _; omega) (fun _ _ e => e) (fun h' u tk k => ?_) hz
  exact wpAny_formatField_str ⟨.str _, H1, I1.kept k, ⟨_, rfl⟩, q⟩ ⟨.str _, H1, (I1.kept k).tok _, ⟨_, rfl⟩, q⟩ hz
end
/-- what a dict holds, as data -/
def KD (K : PySem.W.Frag) (H : Hp) (ks : List (Key × V)) (l : List (Key × PyData)) : Prop := Paired (fun (q : Key × V) (x : Key × PyData) => q.1 = x.1 ∧ Dp K H q.2 x.2 ∧ SeqAt.shaped x.2 = true) ks l
def getKD (l : List (Key × PyData)) (k : Key) : Option PyData := (l.find? fun x => decide (x.1 = k)).map (·.2)
def hasKD (m : List (Key × PyData)) (x : Key × PyData) : Bool := match getKD m x.1 with
  | some d => PyData.eqv x.2 d
  | none => false
def eqKD (l m : List (Key × PyData)) : Bool := decide (l.length = m.length) && l.all (hasKD m)
theorem KD.val {K : PySem.W.Frag} {H : Hp} {ks : List (Key × V)} {l : List (Key × PyData)} (h : KD K H ks l) (k : Key) : match getKD l k with
    | some d => ∃ v, valV ks k = some v ∧ Dp K H v d ∧ SeqAt.shaped d = true
    | none => valV ks k = none := by
  unfold KD at h
  induction h with
  | nil => rfl
  | @cons q x ks l hx _ ih =>
    unfold getKD valV at ih ⊢
    rw [List.find?_cons, List.find?_cons, hx.1]
    by_cases e : x.1 = k
    · rw [decide_eq_true e]
      exact ⟨q.2, rfl, hx.2⟩
    · rw [decide_eq_false e]
      exact ih
theorem hits_data {X : Cx} {pins : List (Addr × Obj)} {σ : L2.St} {H : Hp} {s : Shared} {A : Around} (I : Inv X pins σ H s) (hu : A.units + 64 < cLine) {ls : List (Key × V)} {m : List (Key × PyData)} {vb : List (Key × Value)} (hm : KD X.K H ls m) (rb : KV ls vb)
    {ks : List (Key × V)} {va : List (Key × Value)} (ra : KV ks va) : ∀ {l : List (Key × PyData)}, KD X.K H ks l → PySem.W.KeqHitsP X.prog X.w A s vb va (l.all (hasKD m)) := by
  unfold KV at ra
  induction ra with
  | nil => intro l h; cases h; exact .nil
  | @cons p q ps qs h t ih =>
    intro l hl
    cases hl with
    | @cons _ x _ l hx hl =>
      obtain ⟨key, v⟩ := q
      obtain ⟨h1, h2⟩ := h
      have h1 : p.1 = key := h1
      have ek : x.1 = key := hx.1.symm.trans h1
      rw [List.all_cons]
      have hv := hm.val x.1
      have rr : RelO (valV ls key) (valueAt vb key) := rb.val key
      unfold hasKD
      rw [ek] at hv ⊢
      cases g : getKD m key with
      | none =>
        rw [g] at hv
        rw [show valV ls key = none from hv] at rr
        have no : valueAt vb key = none := by
          cases e : valueAt vb key with
          | none => rfl
          | some y => rw [e] at rr; exact rr.elim
        exact .miss no
      | some d =>
        rw [g] at hv
        obtain ⟨u, eu, hd, sd⟩ := hv
        rw [eu] at rr
        obtain ⟨y, hy, ry⟩ := rr.some_of
        obtain ⟨as, r1⟩ := Dp.reads I x.2 _ _ hx.2.1 h2
        obtain ⟨bs, r2⟩ := Dp.reads I d _ _ hd ry
        exact .hit hy (SeqAt.eqAt_reads x.2 d A s v y as bs r1 r2 (SeqAt.canLay_of_shaped hx.2.2) (SeqAt.canLay_of_shaped sd) (SeqAt.room_of_shaped hx.2.2 hu)).eqP (ih hl)
section
variable {X : Cx}
def rEqKD (K : PySem.W.Frag) : R2 := fun x y H Q => ∃ a b ks ls l m, x = .ref a ∧ y = .ref b ∧ H a = some (.dK ks) ∧ H b = some (.dK ls) ∧ KD K H ks l ∧ KD K H ls m ∧ Q (.bl (eqKD l m)) H
theorem op_eqKD {K : PySem.W.Frag} (hK : X.K = K) (hu : X.A.units + 65 < cLine) : OpR X (compareOp .Eq) (rEqKD K) := by
  subst hK
  intro pins s σ H x y v u Q I rx ry h
  obtain ⟨a, b, ks, ls, l, m, rfl, rfl, ea, eb, hl, hm, q⟩ := h
  obtain rfl : v = Value.ref a := rx
  obtain rfl : u = Value.ref b := ry
  obtain ⟨_, ya, va, ra, da⟩ := (show ObjOk X.prog X.w H s.heap a (.dK ks) from I.hok a _ ea)
  obtain ⟨_, yb, vb, rb, db⟩ := (show ObjOk X.prog X.w H s.heap b (.dK ls) from I.hok b _ eb)
  refine PySem.W.rcP_dicts (knd := mixKind X.prog X.w) ya yb da db (by omega) (fun _ => hits_data I (by show X.A.units + 1 + 64 < cLine; omega) hm rb ra hl) _ _ ?_
  have e1 : va.length = l.length := by rw [← ra.length]; exact Paired.length hl
  have e2 : vb.length = m.length := by rw [← rb.length]; exact Paired.length hm
  refine ⟨.bl (eqKD l m), H, I, ?_, q⟩
  unfold eqKD
  rw [e1, e2]
  rfl
end
end Lb

set_option Elab.async false
set_option linter.all false
set_option maxRecDepth 100000
set_option maxHeartbeats 4000000
/-! sorted(d.items()), d a dict of texts whose values are tuples of two texts -/
namespace Lb
open PySem PySem.Spec PyProof.Rows L2
open PySem.W (dataLe EachIs)
def encE (e : Str × (Str × Str)) : PyData := .tuple [.str e.1, .tuple [.str e.2.1, .str e.2.2]]
def sortE (l : List (Str × (Str × Str))) : List (Str × (Str × Str)) := l.mergeSort (dataLe false encE)
def TwoT (H : Hp) (v : V) (e : Str × Str) : Prop := ∃ t, v = .ref t ∧ H t = some (.tup [.str e.1, .str e.2])
def HoldsE (H : Hp) (kvs : List (Key × V)) (l : List (Str × (Str × Str))) : Prop := Paired (fun (q : Key × V) (e : Str × (Str × Str)) => q.1 = Sum.inr e.1 ∧ TwoT H q.2 e.2) kvs l
section
variable {X : Cx}
def rItemsV : V → List V → Hp → VK → Prop := fun x xs H Q => ∃ (a : Addr) (kvs : List (Key × V)), x = .ref a ∧ xs = [] ∧ H a = some (.dK kvs) ∧ ∀ p, H p = none → Q (.ref p) (upd H p (DX.itemsO p a))
theorem mt_itemsV : MtR X "dict.items" rItemsV := by
  intro pins s σ H x xs v us Q I rx rxs h
  obtain ⟨a, kvs, rfl, rfl, ha, k⟩ := h
  cases rx
  cases rxs
  obtain ⟨z, hd, vs, rel, o, es, ep, ho, hx, hdat, _⟩ := dk_of I.hok ha
  exact DT.callItems (es := es) (ep := ep) hd ⟨o, ho, hx, hdat⟩ ⟨.ref s.heap.objs.size, _, I.laid (t' := s.toks) (fun b u e => Heap.get?_push_of_some _ e) (Nat.le_refl _) (DX.itemsO_ok (Heap.get?_push_size _ rfl)), rfl, k _ (I.hok.fresh (Nat.le_refl _))⟩
theorem each_by {α β : Type} {R : α → β → Prop} : ∀ {xs : List α} {ys : List β}, xs.length = ys.length → (∀ (j : Nat) x y, xs[j]? = some x → ys[j]? = some y → R x y) → EachIs R xs ys
  | [], [], _, _ => .nil
  | x :: xs, y :: ys, hl, h => .cons (h 0 x y rfl rfl) (each_by (by simpa using hl) fun j u v a b => h (j + 1) u v (by simpa using a) (by simpa using b))
  | [], _ :: _, hl, _ => by simp at hl
  | _ :: _, [], hl, _ => by simp at hl
theorem each_get {α β : Type} {R : α → β → Prop} {xs : List α} {ys : List β} (h : EachIs R xs ys) : ∀ {j : Nat} {x : α}, xs[j]? = some x → ∃ y, ys[j]? = some y ∧ R x y := by
  induction h with
  | nil => intro j x e; simp at e
  | cons r _ ih =>
    intro j x e
    cases j with
    | zero => simp at e; subst e; exact ⟨_, rfl, r⟩
    | succ j =>
      obtain ⟨y, a, b⟩ := ih (j := j) (x := x) (by simpa using e)
      exact ⟨y, by simpa using a, b⟩
theorem dpAll_by {K : PySem.W.Frag} {H : Hp} : ∀ {xs : List V} {ds : List PyData}, xs.length = ds.length → (∀ (j : Nat) x d, xs[j]? = some x → ds[j]? = some d → Dp K H x d) → DpAll K H xs ds
  | [], [], _, _ => .nil
  | x :: xs, y :: ys, hl, h => .cons (h 0 x y rfl rfl) (dpAll_by (by simpa using hl) fun j u v a b => h (j + 1) u v (by simpa using a) (by simpa using b))
  | [], _ :: _, hl, _ => by simp at hl
  | _ :: _, [], hl, _ => by simp at hl
theorem each_refs {β : Type} {R : Addr → β → Prop} : ∀ {out : List Value} {ys : List β}, EachIs (fun v e => ∃ z, v = Value.ref z ∧ R z e) out ys → ∃ zs : List Addr, out = zs.map Value.ref ∧ EachIs R zs ys
  | _, _, .nil => ⟨[], rfl, .nil⟩
  | _, _, .cons r h => by
    obtain ⟨z, rfl, q⟩ := r
    obtain ⟨zs, rfl, q2⟩ := each_refs h
    exact ⟨z :: zs, rfl, .cons q q2⟩
theorem refs_vals : ∀ zs : List Addr, Vals (zs.map V.ref) (zs.map Value.ref)
  | [] => .nil
  | _ :: zs => .cons rfl (refs_vals zs)
def rSortItV (K : PySem.W.Frag) : List V → Hp → VK → Prop := fun vs H Q => ∃ (p a : Addr) (kvs : List (Key × V)) (l : List (Str × (Str × Str))), vs = [.ref p] ∧ H p = some (DX.itemsO p a) ∧ H a = some (.dK kvs) ∧ HoldsE H kvs l ∧ l.length ≤ 1000 ∧
  ∀ H' q, (∀ b o, H b = some o → H' b = some o) → Dp K H' (.ref q) (.list ((sortE l).map encE)) → Q (.ref q) H'
theorem enc_alike (e f : Str × (Str × Str)) : PySem.W.alike (encE e) (encE f) = true := by
  simp [encE, PySem.W.alike, PySem.W.alikeAll]
theorem cr_sortedItV {K : PySem.W.Frag} (hK : X.K = K) (hc : X.calm = true) (hu : X.A.units + 64 < cLine) : CallR X (.builtin "sorted") (rSortItV K) := by
  subst hK
  intro pins s σ H xs us Q I r h
  obtain ⟨p, a, kvs, l, rfl, hp, ha, hE, few, k⟩ := h
  obtain rfl := Vals.ref1 r
  have view : s.heap.IsItemsView p a := (show ObjOk X.prog X.w H s.heap p (DX.itemsO p a) from I.hok p _ hp).1
  obtain ⟨_, hd, vs, rel, o, es, ep, ho, hx, hdat, _, hps, _⟩ := dk_of I.hok ha
  have l1 : kvs.length = vs.length := Paired.length rel
  have l2 : kvs.length = l.length := Paired.length hE
  have l3 : es.size = vs.length := by
    have := hps.length
    rw [Array.length_toList] at this
    exact this
  refine DT.sortedI (es := es) (ep := ep) (I.ok.hd hc) view ⟨o, ho, hx, hdat⟩ (by rw [sizeLine_eq]; omega) fun h1 tk as hk hlt hl hG => ?_
  have la : as.length = l.length := by omega
  have nd : as.Nodup := List.Pairwise.imp (fun h => Nat.ne_of_lt h) hG.rise
  -- each pair
  have pr : ∀ (j : Nat) (b : Addr) (e : Str × (Str × Str)), as[j]? = some b → l[j]? = some e → ∃ (tk : Tok) (t : Addr), h1.get? b = some { cls := .type "tuple", data := .seq #[Value.str e.1 tk, Value.ref t] } ∧ H t = some (.tup [.str e.2.1, .str e.2.2]) := by
    intro j b e hj he
    obtain ⟨en, hen, hg⟩ := hG.pairs j b hj
    have hjl : j < kvs.length := by rw [l2]; exact (List.getElem?_eq_some_iff.mp he).1
    obtain ⟨e', he', q1, t, q2, q3⟩ := paired_get hE (List.getElem?_eq_getElem hjl)
    rw [he] at he'
    cases he'
    obtain ⟨u, hu', r1, r2⟩ := paired_get rel (List.getElem?_eq_getElem hjl)
    obtain ⟨k1, k2⟩ := hps.get? (i := j) (e := en) (k := u.1) (v := u.2) (by rw [Array.getElem?_toList]; exact hen) hu'
    rw [← r1, q1] at k1
    obtain ⟨tk, hkey⟩ := Value.isStrOf_shape (x := e.1) (v := en.key) k1
    rw [q2] at r2
    have hval : en.val = Value.ref t := k2.trans r2
    exact ⟨tk, t, by rw [hg, hkey, hval], q3⟩
  -- the list that is sorted
  have hob : (h1.push { cls := .type "list", data := .seq (as.map Value.ref).toArray }).get? h1.objs.size = some (seqObj "list" (as.map Value.ref).toArray 0) := Heap.get?_push_size _ rfl
  have low : ∀ b o, h1.get? b = some o → b ≠ h1.objs.size := fun b o e => Nat.ne_of_lt (Heap.lt_size e)
  have k1 : ∀ b o, h1.get? b = some o → (h1.push { cls := .type "list", data := .seq (as.map Value.ref).toArray }).get? b = some o := fun b o e => Heap.get?_push_of_some _ e
  generalize h1.push { cls := .type "list", data := .seq (as.map Value.ref).toArray } = h2 at hob k1 ⊢
  have kA : ∀ b o, s.heap.get? b = some o → h2.get? b = some o := fun b o e => k1 b o (hk b o e)
  refine PySem.W.list_sort_data (vs := as.map Value.ref) (bs := l) (enc := encE) (s := { s with heap := h2, toks := tk }) (R := fun v e => ∃ z, v = Value.ref z ∧ ∃ j : Nat, as[j]? = some z ∧ l[j]? = some e) hob ?_ ?_ (PySem.W.AllAlike.of enc_alike) (PySem.W.Sortable.tuples fun e => ⟨_, _, rfl⟩) (by rw [sizeLine_eq]; omega) ?_ fun out ol oe => ?_
  · refine each_by (by rw [List.length_map]; exact la) fun j v e hv he => ?_
    rw [List.getElem?_map] at hv
    cases hz : as[j]? with
    | none => rw [hz] at hv; cases hv
    | some z => rw [hz] at hv; exact ⟨z, by simpa using hv.symm, j, hz, he⟩
  · refine each_by (by rw [List.length_map]; exact la) fun j v e hv he => ?_
    rw [List.getElem?_map] at hv
    cases hz : as[j]? with
    | none => rw [hz] at hv; cases hv
    | some z =>
      rw [hz] at hv
      obtain rfl : Value.ref z = v := by simpa using hv
      obtain ⟨tk1, t, g1, g2⟩ := pr j z e hz he
      obtain ⟨_, its, rv, ot, hot, hct, nt, hdt⟩ := (show ObjOk X.prog X.w H s.heap t (.tup [.str e.2.1, .str e.2.2]) from I.hok t _ g2)
      cases rv with
      | cons r1 rv =>
        cases rv with
        | cons r2 rv =>
          cases rv
          obtain ⟨t1, rfl⟩ := r1
          obtain ⟨t2, rfl⟩ := r2
          refine ⟨[], ?_, fun z => nomatch z⟩
          exact Reads.tuple (as := [] ++ ([] ++ [])) (k1 _ _ g1) rfl rfl (.cons (.str _ _) (.cons (Reads.tuple (as := [] ++ ([] ++ [])) (kA _ _ hot) hct hdt (.cons (.str _ _) (.cons (.str _ _) .nil))) .nil))
  · intro e _
    have : (encE e).depth ≤ 3 := by simp [encE, PyData.depth, PyData.depthAll]
    show X.A.units + 1 + 1 + (encE e).depth < cLine
    omega
  · have kF : ∀ b o, b ≠ h1.objs.size → h2.get? b = some o → (sortedHeap h2 h1.objs.size (as.map Value.ref) out.toArray).get? b = some o := fun b o nb e => (PyProof.Rows.sortedHeap_old nb (Heap.lt_size e)).trans e
    have kS : ∀ b o, s.heap.get? b = some o → (sortedHeap h2 h1.objs.size (as.map Value.ref) out.toArray).get? b = some o := fun b o e => kF b o (low _ _ (hk b o e)) (kA b o e)
    obtain ⟨eF, heF⟩ := PyProof.Rows.sortedHeap_at (vs := as.map Value.ref) (out := out.toArray) hob
    have I1 : Inv X pins σ H { s with heap := sortedHeap h2 h1.objs.size (as.map Value.ref) out.toArray, toks := tk } := I.kept (t' := tk) kS
    have n0 : H h1.objs.size = none := I.hok.fresh (Nat.le_of_lt hlt)
    have sl : (sortE l).length = l.length := List.length_mergeSort _
    obtain ⟨zs, rfl, hzr⟩ := each_refs oe
    have lz : zs.length = l.length := by rw [hzr.length]; exact sl
    have I2 : Inv X pins σ (upd H h1.objs.size (.lst (zs.map V.ref))) { s with heap := sortedHeap h2 h1.objs.size (as.map Value.ref) (zs.map Value.ref).toArray, toks := tk } :=
      I1.take (h' := sortedHeap h2 h1.objs.size (as.map Value.ref) (zs.map Value.ref).toArray) (t' := tk) (fun b ob _ e => e) (I.fpOk (Nat.le_of_lt hlt) n0) ⟨by rw [List.length_map, sizeLine_eq]; omega, zs.map Value.ref, eF, refs_vals zs, heF⟩
    obtain ⟨H2, I3, g, qt⟩ := DX.takeT (P := fun b vs => ∃ (j : Nat) (e : Str × (Str × Str)) (t : Addr), as[j]? = some b ∧ l[j]? = some e ∧ vs = [.str e.1, .ref t] ∧ H t = some (.tup [.str e.2.1, .str e.2.2])) I as _ I2 nd fun b hb => by
      obtain ⟨j, hj⟩ := List.mem_iff_getElem?.mp hb
      have hjl : j < l.length := by rw [← la]; exact (List.getElem?_eq_some_iff.mp hj).1
      obtain ⟨tk1, t, g1, g2⟩ := pr j b _ hj (List.getElem?_eq_getElem hjl)
      have hbl : s.heap.objs.size ≤ b := Nat.le_of_lt (hG.above b hb)
      refine ⟨hbl, ?_, [.str l[j].1, .ref t], ⟨j, l[j], t, hj, List.getElem?_eq_getElem hjl, rfl, g2⟩, fun H3 => ⟨(by rw [sizeLine_eq]; show 2 ≤ 16777216; omega), [Value.str l[j].1 tk1, Value.ref t], .cons ⟨_, rfl⟩ (.cons rfl .nil), ⟨_, kF _ _ (low _ _ g1) (k1 _ _ g1), rfl, 0, rfl⟩⟩⟩
      rw [upd_ne (low _ _ g1)]
      exact I.hok.fresh hbl
    have gr : ∀ b o, H b = some o → H2 b = some o := fun b o e => g b o (by rw [upd_ne (ne_of_none e n0)]; exact e)
    refine ⟨.ref h1.objs.size, H2, I3, rfl, k H2 h1.objs.size gr (.lst (SqL.of (g _ _ upd_same)) (dpAll_by (by rw [List.length_map, List.length_map]; exact hzr.length) fun j v d hv hd' => ?_))⟩
    rw [List.getElem?_map] at hv hd'
    cases hz : zs[j]? with
    | none => rw [hz] at hv; cases hv
    | some z =>
      rw [hz] at hv
      obtain rfl : V.ref z = v := by simpa using hv
      obtain ⟨e, he, i, i1, i2⟩ := each_get hzr hz
      have he : (sortE l)[j]? = some e := he
      rw [he] at hd'
      obtain rfl : encE e = d := by simpa using hd'
      obtain ⟨vs2, ⟨i', e', t, j1, j2, ev, hT⟩, hH⟩ := qt z (List.mem_of_getElem? i1)
      have eij : i = i' := (List.getElem?_inj (List.getElem?_eq_some_iff.mp i1).1 nd).mp (i1.trans j1.symm)
      subst eij
      obtain rfl : e' = e := Option.some.inj (j2.symm.trans i2)
      subst ev
      exact .tup (SqT.of hH) (.cons (.str _) (.cons (.tup (SqT.of (gr _ _ hT)) (.cons (.str _) (.cons (.str _) .nil))) .nil))
end
end Lb
namespace Lb
open PySem PySem.Spec PyProof.Rows L2
/-- v in t, t a tuple, both data -/
def rInDT (K : PySem.W.Frag) : R2 := fun x y H Q => ∃ d ds, Dp K H x d ∧ Dp K H y (.tuple ds) ∧ SeqAt.shaped d = true ∧ SeqAt.shaped (.tuple ds) = true ∧ Q (.bl (ds.any fun z => PyData.eqv z d)) H
theorem op_inDT {X : Cx} {K : PySem.W.Frag} (hK : X.K = K) (hu : X.A.units + 65 < cLine) : OpR X (compareOp .In) (rInDT K) := by
  subst hK
  intro pins s σ H x y v u Q I rx ry h
  obtain ⟨d, ds, hd, he, sd, se, q⟩ := h
  obtain ⟨as, r1⟩ := Dp.reads I d x v hd rx
  obtain ⟨bs, r2⟩ := Dp.reads I (.tuple ds) y u he ry
  exact SeqAt.in_tuple_reads r2 r1 (SeqAt.canLay_of_shaped se) (SeqAt.canLay_of_shaped sd) (room_in_shaped sd hu) ⟨.bl _, H, I, rfl, q⟩
end Lb

set_option Elab.async false
set_option linter.all false
set_option maxRecDepth 100000
set_option maxHeartbeats 4000000
namespace K20
open PySem L2 Lb
open C8 (pss_cut)
open PySem.Spec PyProof.Rows
/-! names as data, written -/
theorem cps_nm {z : Str} (h : nmS z = true) : ∀ c ∈ z.cps.toList, 97 ≤ c ∧ c ≤ 122 := by
  unfold nmS at h
  simp only [Bool.and_eq_true, decide_eq_true_eq, List.all_eq_true] at h
  intro c hc
  have := h.2.2 c hc
  unfold lett at this
  simp only [Bool.and_eq_true, decide_eq_true_eq] at this
  exact this
theorem nm_len {z : Str} (h : nmS z = true) : z.length ≤ 8 := by
  unfold nmS at h
  simp only [Bool.and_eq_true, decide_eq_true_eq] at h
  have e : z.cps.toList.length = z.length := by simp [Str.length]
  omega
theorem nm_ok {z : Str} (h : nmS z = true) : PyData.strOk z = true := by
  unfold PyData.strOk
  rw [← Array.all_toList, List.all_eq_true]
  intro c hc
  have := cps_nm h c hc
  exact decide_eq_true (show c < 1114112 by omega)
theorem nm_repr {z : Str} (h : nmS z = true) : (reprText z).length ≤ 82 := by
  have := StrLaws.reprText_len z (fun c hc => by have := cps_nm h c hc; omega)
  have := nm_len h
  omega
def tupD (e : Str × Str) : PyData := .tuple [.str e.1, .str e.2]
theorem eqv_tupD (e f : Str × Str) : PyData.eqv (tupD e) (tupD f) = decide (e = f) := by
  obtain ⟨a, b⟩ := e
  obtain ⟨c, d⟩ := f
  unfold tupD
  simp only [PyData.eqv, PyData.eqvAll, Bool.and_true]
  rw [Bool.eq_iff_iff]
  simp
theorem shaped_tupD {e : Str × Str} (h1 : nmS e.1 = true) (h2 : nmS e.2 = true) : SeqAt.shaped (tupD e) = true := by
  unfold SeqAt.shaped tupD
  rw [Bool.and_eq_true]
  refine ⟨?_, ?_⟩
  · simp [PyData.canLay0, PyData.canLayAll0, nm_ok h1, nm_ok h2]
  · simp [PyData.depth, PyData.depthAll]
theorem dp_vEn {K : PySem.W.Frag} {H : Hp} {v : V} {e : Str × Str} (h : vEn H v e) : Dp K H v (tupD e) := by
  obtain ⟨t, rfl, ht⟩ := h
  exact .tup (SqT.of ht) (.cons (.str _) (.cons (.str _) .nil))
/-- a dict of entries, as data -/
def keysD (l : PP) : List (Key × PyData) := l.map fun e => (Sum.inr e.1, tupD e.2)
theorem Ent.kd {K : PySem.W.Frag} {H : Hp} {kv : List (Key × V)} {l : PP} (h : Ent H kv l) (nm : ∀ e ∈ l, nmS e.2.1 = true ∧ nmS e.2.2 = true) : KD K H kv (keysD l) := by
  unfold Ent at h
  unfold KD keysD
  induction h with
  | nil => exact .nil
  | @cons q x kv l hx _ ih =>
    rw [List.map_cons]
    have := nm x List.mem_cons_self
    exact .cons ⟨hx.1, dp_vEn hx.2, shaped_tupD this.1 this.2⟩ (ih fun e he => nm e (List.mem_cons_of_mem _ he))
theorem get_keysD (l : PP) (z : Str) : getKD (keysD l) (Sum.inr z) = (l.lookup z).map tupD := by
  induction l with
  | nil => rfl
  | cons x r ih =>
    obtain ⟨n, e⟩ := x
    unfold getKD keysD at ih ⊢
    rw [List.map_cons, List.find?_cons]
    by_cases hz : z = n
    · subst hz
      rw [List.lookup_cons, beq_self_eq_true, decide_eq_true (show (Sum.inr z : Key) = Sum.inr z from rfl)]
      rfl
    · rw [List.lookup_cons, show (z == n) = false by simpa using hz, decide_eq_false (show ¬ (Sum.inr n : Key) = Sum.inr z from fun k => hz (by injection k with k; exact k.symm))]
      exact ih
/-- the same pipes -/
def samP (l m : PP) : Bool := decide (l.length = m.length) && l.all fun e => decide (e ∈ m)
theorem eqKD_samP {l m : PP} (nm : (nmsOf m).Nodup) : eqKD (keysD l) (keysD m) = samP l m := by
  unfold eqKD samP keysD
  rw [List.length_map, List.length_map, List.all_map]
  congr 1
  refine congrArg (l.all ·) (funext fun e => ?_)
  show hasKD (keysD m) (Sum.inr e.1, tupD e.2) = decide (e ∈ m)
  unfold hasKD
  rw [get_keysD]
  cases h : m.lookup e.1 with
  | none =>
    rw [lookup_none] at h
    refine (decide_eq_false fun k => h (List.mem_map.mpr ⟨e, k, rfl⟩)).symm
  | some f =>
    show PyData.eqv (tupD e.2) (tupD f) = _
    rw [eqv_tupD, Bool.eq_iff_iff, decide_eq_true_eq, decide_eq_true_eq]
    constructor
    · intro k
      have := mem_lookup h
      rw [← k] at this
      exact this
    · intro k
      rw [lookup_mem nm (z := e.1) (e := e.2) k] at h
      exact Option.some.inj h
theorem samP_srtP {l m : PP} (nl : (nmsOf l).Nodup) (nm : (nmsOf m).Nodup) : samP (srtP l) (srtP m) = samP l m := by
  unfold samP
  rw [srtP_len, srtP_len]
  congr 1
  rw [Bool.eq_iff_iff, List.all_eq_true, List.all_eq_true]
  exact forall_congr' fun e => by rw [mem_srtP nl, decide_eq_true_eq, decide_eq_true_eq, mem_srtP nm]
theorem perm_same {α : Type} [DecidableEq α] {xs ys : List α} (nx : xs.Nodup) (ny : ys.Nodup) (h : ∀ z, z ∈ xs ↔ z ∈ ys) : xs.Perm ys := by
  rw [List.perm_iff_count]
  intro z
  rw [nx.count, ny.count]
  by_cases k : z ∈ xs
  · rw [if_pos k, if_pos ((h z).mp k)]
  · rw [if_neg k, if_neg fun q => k ((h z).mpr q)]
theorem samP_perm {l m : PP} (nl : (nmsOf l).Nodup) (nm : (nmsOf m).Nodup) : samP l m = true ↔ l.Perm m := by
  have ndl : l.Nodup := List.Pairwise.of_map (·.1) (fun a b h e => h (congrArg (·.1) e)) nl
  unfold samP
  rw [Bool.and_eq_true, decide_eq_true_eq, List.all_eq_true]
  constructor
  · rintro ⟨h1, h2⟩
    have sub : ∀ e ∈ l, e ∈ m := fun e he => by simpa using h2 e he
    have ndm : m.Nodup := List.Pairwise.of_map (·.1) (fun a b h e => h (congrArg (·.1) e)) nm
    refine perm_same ndl ndm fun e => ⟨sub e, fun he => ?_⟩
    by_cases k : e ∈ l
    · exact k
    · have := (List.nodup_cons.mpr ⟨k, ndl⟩).length_le_of_subset (show e :: l ⊆ m from fun z hz => by
        rcases List.mem_cons.mp hz with rfl | hz
        · exact he
        · exact sub z hz)
      rw [List.length_cons] at this
      omega
  · intro p
    exact ⟨p.length_eq, fun e he => decide_eq_true (p.mem_iff.mp he)⟩
/-! sorted items -/
theorem encE_eqv (e f : En) : PyData.eqv (encE e) (encE f) = decide (e = f) := by
  obtain ⟨n, a, b⟩ := e
  obtain ⟨m, c, d⟩ := f
  unfold encE
  simp only [PyData.eqv, PyData.eqvAll, Bool.and_true]
  rw [Bool.eq_iff_iff]
  simp
theorem encE_eqvAll : ∀ (l m : PP), PyData.eqvAll (l.map encE) (m.map encE) = decide (l = m)
  | [], [] => by simp [PyData.eqvAll]
  | [], _ :: _ => by simp [PyData.eqvAll]
  | _ :: _, [] => by simp [PyData.eqvAll]
  | a :: r, b :: t => by
    rw [List.map_cons, List.map_cons, PyData.eqvAll, encE_eqvAll r t, encE_eqv, Bool.eq_iff_iff]
    simp
theorem sortE_perm (l : PP) : (sortE l).Perm l := List.mergeSort_perm _ _
theorem le_names {e f : En} (h : PySem.W.dataLe false encE e f = true) (k : PySem.W.dataLe false encE f e = true) : e.1 = f.1 := by
  by_cases ne : e.1 = f.1
  · exact ne
  exfalso
  have lt : ∀ x y : En, x.1 ≠ y.1 → PySem.W.dataLt (encE x) (encE y) = decide (x.1.cps.toList < y.1.cps.toList) := fun x y h => by
    unfold encE
    rw [PySem.W.dataLt_pair (by simp [PySem.W.alike]) (by simp [PySem.W.alike, PySem.W.alikeAll])]
    rw [show PyData.eqv (.str x.1) (.str y.1) = (x.1 == y.1) from rfl, show (x.1 == y.1) = false by simpa using h, if_neg (by simp), PySem.W.dataLt_str]
  rw [PySem.W.dataLe_eq] at h k
  have h : (!PySem.W.dataLt (encE f) (encE e)) = true := h
  have k : (!PySem.W.dataLt (encE e) (encE f)) = true := k
  rw [lt _ _ (Ne.symm ne), Bool.not_eq_true', decide_eq_false_iff_not] at h
  rw [lt _ _ ne, Bool.not_eq_true', decide_eq_false_iff_not] at k
  have h1 : ltCps f.1.cps.toList e.1.cps.toList = false := by rw [ltCps_eq]; exact decide_eq_false h
  have k1 : ltCps e.1.cps.toList f.1.cps.toList = false := by rw [ltCps_eq]; exact decide_eq_false k
  exact ne (str_ext (lt_total k1 h1))
theorem sortE_eq {l m : PP} (nl : (nmsOf l).Nodup) (nm : (nmsOf m).Nodup) : decide (sortE l = sortE m) = samP l m := by
  rw [Bool.eq_iff_iff, decide_eq_true_eq, samP_perm nl nm]
  constructor
  · intro h
    exact (sortE_perm l).symm.trans (h ▸ sortE_perm m)
  · intro p
    have T : PySem.W.TotalLe (PySem.W.dataLe false encE) := PySem.W.sortLe_total _ _ _
    have pw : ∀ l : PP, (sortE l).Pairwise (fun a b => PySem.W.dataLe false encE a b = true) := fun l => PySem.W.sort_pairwise T l
    refine List.Perm.eq_of_pairwise (le := fun a b => PySem.W.dataLe false encE a b = true) (fun a b ha hb h1 h2 => ?_) (pw l) (pw m) ((sortE_perm l).trans (p.trans (sortE_perm m).symm))
    have ha : a ∈ l := (sortE_perm l).mem_iff.mp ha
    have hb : b ∈ l := p.mem_iff.mpr ((sortE_perm m).mem_iff.mp hb)
    have e := le_names h1 h2
    have q1 := getP_mem nl ha
    have q2 := getP_mem nl hb
    rw [e, q2] at q1
    exact Prod.ext e q1.symm
/-! how a net is written -/
theorem fold_len (sep : Str) : ∀ (ts : List Str) (acc : Array Nat), (ts.foldl (fun acc p => acc ++ sep.cps ++ p.cps) acc).size = acc.size + (ts.map (·.length)).sum + ts.length * sep.length
  | [], acc => by simp
  | t :: r, acc => by
    rw [List.foldl_cons, fold_len sep r]
    simp only [Array.size_append, List.map_cons, List.sum_cons, List.length_cons, Nat.add_mul, Nat.one_mul]
    show acc.size + sep.length + t.length + _ + _ = _
    omega
theorem join_le (sep : Str) (ts : List Str) : (Txt.join sep ts).length ≤ (ts.map (·.length)).sum + ts.length * sep.length := by
  unfold Txt.join Builtin.Str.glued
  show (List.foldl (fun acc p => acc ++ sep.cps ++ p.cps) (ts.headD Str.empty).cps (List.drop 1 ts)).size ≤ _
  rw [fold_len]
  cases ts with
  | nil => simp [Str.empty]
  | cons t r =>
    simp only [List.headD_cons, List.drop_one, List.tail_cons, List.map_cons, List.sum_cons, List.length_cons, Nat.add_mul, Nat.one_mul]
    show t.length + _ + _ ≤ _
    omega
def entD (l : PP) : PyData := .dict (l.map fun e => (.str e.1, tupD e.2))
def entT (e : En) : Str := reprText e.1 ++ ": " ++ (tupD e.2).shown
def rpP (l : PP) : Str := Str.empty ++ "Net(" ++ (entD (srtP l)).shown ++ ")"
theorem shown_ent (l : PP) : (entD l).shown = dictText (l.map entT) := by
  unfold entD
  simp only [PyData.shown]
  congr 1
  induction l with
  | nil => rfl
  | cons e r ih =>
    rw [List.map_cons, List.map_cons, PyData.shownKv, ih]
    rfl
theorem tupD_text (e : Str × Str) : (tupD e).shown = tupleText [reprText e.1, reprText e.2] := by
  unfold tupD
  simp only [PyData.shown, PyData.shownAll]
theorem tupD_len {e : Str × Str} (h1 : nmS e.1 = true) (h2 : nmS e.2 = true) : (tupD e).shown.length ≤ 170 := by
  rw [tupD_text]
  have a := nm_repr h1
  have b := nm_repr h2
  unfold tupleText
  rw [strLen_append, strLen_append, ← TL.join_eq]
  have c := join_le ", " [reprText e.1, reprText e.2]
  have l2 : (", " : Str).length = 2 := by decide +kernel
  have l3 : ("(" : Str).length = 1 := by decide +kernel
  have l4 : ((if ([reprText e.1, reprText e.2].length == 1) = true then ",)" else ")" : String) : Str).length = 1 := by
    rw [if_neg (by simp)]
    decide +kernel
  rw [l2] at c
  simp only [List.map_cons, List.map_nil, List.sum_cons, List.sum_nil, List.length_cons, List.length_nil] at c
  rw [l3, l4]
  omega
theorem entT_len {e : En} (h1 : nmS e.1 = true) (h2 : nmS e.2.1 = true) (h3 : nmS e.2.2 = true) : (entT e).length ≤ 260 := by
  unfold entT
  have a := nm_repr h1
  have b := tupD_len h2 h3
  have l2 : (": " : Str).length = 2 := by decide +kernel
  rw [strLen_append, strLen_append, l2]
  omega
theorem entD_len {l : PP} (h : ∀ e ∈ l, nmS e.1 = true ∧ nmS e.2.1 = true ∧ nmS e.2.2 = true) (hl : l.length ≤ 20) : (entD l).shown.length ≤ 5300 := by
  rw [shown_ent]
  unfold dictText
  rw [strLen_append, strLen_append, ← TL.join_eq]
  have c := join_le ", " (l.map entT)
  have s := sum_le (ts := l.map entT) (n := 260) fun t ht => by
    obtain ⟨e, he, rfl⟩ := List.mem_map.mp ht
    have := h e he
    exact entT_len this.1 this.2.1 this.2.2
  have l2 : (", " : Str).length = 2 := by decide +kernel
  have l3 : ("{" : Str).length = 1 := by decide +kernel
  have l4 : ("}" : Str).length = 1 := by decide +kernel
  rw [l2] at c
  rw [List.length_map] at c s
  rw [l3, l4]
  omega
theorem entD_showable (l : PP) : (entD l).showable = true := by
  unfold entD
  simp only [PyData.showable]
  induction l with
  | nil => rfl
  | cons e r ih =>
    rw [List.map_cons, PyData.showableKv, ih]
    simp [PyData.showable, PyData.showableAll, tupD]
theorem entD_depth (l : PP) : (entD l).depth ≤ 60 := by
  have : ∀ l : PP, PyData.depthKv (l.map fun e => (PyData.str e.1, tupD e.2)) ≤ 1 := fun l => by
    induction l with
    | nil => exact Nat.zero_le _
    | cons e r ih =>
      rw [List.map_cons, PyData.depthKv]
      simp only [tupD, PyData.depth, PyData.depthAll] at ih ⊢
      omega
  have := this l
  unfold entD
  rw [PyData.depth]
  omega
theorem flat_tups (l : PP) : flatDs (l.map fun e => tupD e.2) = true := by
  induction l with
  | nil => rfl
  | cons e r ih => rw [List.map_cons, flatDs, ih]; rfl
theorem Ent.dp {K : PySem.W.Frag} {H : Hp} {kv : List (Key × V)} {l : PP} (h : Ent H kv l) : DpAll K H (kv.map (·.2)) (l.map fun e => tupD e.2) := by
  unfold Ent at h
  induction h with
  | nil => exact .nil
  | cons hx _ ih => exact .cons (dp_vEn hx.2) ih
theorem Ent.dc {H : Hp} {kv : List (Key × V)} {l : PP} (h : Ent H kv l) : dcD kv (l.map fun e => tupD e.2) = entD l := by
  unfold Ent at h
  unfold dcD entD
  congr 1
  induction h with
  | nil => rfl
  | cons hx _ ih =>
    rw [List.map_cons, List.map_cons, List.map_cons, List.zip_cons_cons, ih, hx.1]
    rfl
end K20

set_option Elab.async false
set_option linter.all false
set_option maxRecDepth 100000
set_option maxHeartbeats 4000000
namespace K20
open PySem L2 Lb
open C8 (pss_cut)
theorem hu65 {A : Around} {k : Nat} (h : Room k A) : A.units + 65 < cLine := by have := h.un; omega
theorem room8 {A : Around} {k : Nat} (h : Room k A) : A.units + 8 + 64 < cLine := by have := h.un; omega
def sp_q (C : Addr) (f : PP → Hp → VK → Prop) : Sp := fun vs H Q _ => ∃ q l, vs = [.ref q] ∧ NetAt C H q l ∧ f l H Q
def sp_nodes (C : Addr) : Sp := sp_q C fun l H Q => ∀ t, H t = some (.tup ((pts l).map V.str)) → Q (.ref t) H
def sp_nms (C : Addr) : Sp := sp_q C fun l H Q => ∀ H' p, Same H H' → H p = none → H' p = some (.lst ((srt (nmsOf l)).map V.str)) → Q (.ref p) H'
def sp_len (C : Addr) : Sp := sp_q C fun l H Q => Q (.int (l.length : Nat)) H
def NoStr (K : PySem.W.Frag) (H : Hp) (v : V) : Prop := ∃ t, TyX K H v t ∧ PySem.W.kitOne K t (.type "str") = some false
def NoNet (K : PySem.W.Frag) (C : Addr) (H : Hp) (v : V) : Prop := ∃ t, TyX K H v t ∧ PySem.W.kitOne K t (.ref C) = some false
def sp_has (K : PySem.W.Frag) (C : Addr) : Sp := fun vs H Q _ => ∃ q l v, vs = [.ref q, v] ∧ NetAt C H q l ∧ ((∃ z, v = .str z ∧ Q (.bl (decide (z ∈ nmsOf l))) H) ∨ (NoStr K H v ∧ Q (.bl false) H))
def sp_get (C : Addr) : Sp := fun vs H Q _ => ∃ q l z e, vs = [.ref q, .str z] ∧ NetAt C H q l ∧ l.lookup z = some e ∧ ∀ u, vEn H u e → Q u H
def sp_eq (K : PySem.W.Frag) (C : Addr) : Sp := fun vs H Q _ => ∃ q l v, vs = [.ref q, v] ∧ NetAt C H q l ∧ ((∃ q' m, v = .ref q' ∧ NetAt C H q' m ∧ Q (.bl (samP l m)) H) ∨ (NoNet K C H v ∧ Q (.bl false) H))
def sp_rep (C : Addr) : Sp := sp_q C fun l H Q => Q (.str (rpP l)) H
def sp_chk (C : Addr) : Sp := fun vs H Q _ => ∃ q l x, vs = [.ref q, .str x] ∧ NetAt C H q l ∧ x ∈ nodOf l ∧ Q .non H
def sp_ngh (C : Addr) : Sp := fun vs H Q _ => ∃ q l x, vs = [.ref q, .str x] ∧ NetAt C H q l ∧ x ∈ nodOf l ∧ ∀ H' p, Same H H' → H p = none → H' p = some (.lst ((nbrs l x).map V.str)) → Q (.ref p) H'
def sp_btw (C : Addr) : Sp := fun vs H Q _ => ∃ q l x y, vs = [.ref q, .str x, .str y] ∧ NetAt C H q l ∧ x ∈ nodOf l ∧ y ∈ nodOf l ∧ ∀ H' p, Same H H' → H p = none → H' p = some (.lst ((besP l x y).map V.str)) → Q (.ref p) H'
theorem NearE.val {l : PP} {H : Hp} {kv : List (Key × V)} {ps : List Str} (h : NearE l H kv ps) {x : Str} (hx : x ∈ ps) : ∃ p, valV kv (Sum.inr x : Key) = some (.ref p) ∧ H p = some (.lst ((nbrs l x).map V.str)) := by
  unfold NearE at h
  induction h with
  | nil => cases hx
  | @cons q y kv ps hq _ ih =>
    obtain ⟨k, v⟩ := q
    obtain ⟨rfl, p, rfl, hp⟩ := hq
    by_cases e : y = x
    · subst e
      exact ⟨p, by simp [valV], hp⟩
    · obtain ⟨p', e1, e2⟩ := ih (by
        rcases List.mem_cons.mp hx with h | h
        · exact absurd h.symm e
        · exact h)
      refine ⟨p', ?_, e2⟩
      unfold valV at e1 ⊢
      rw [List.find?_cons, show decide ((Sum.inr y : Key) = Sum.inr x) = false by simp [e]]
      exact e1
section
variable {P : Program} {w : World} {K : PySem.W.Frag} {mg : Str → Option Value} {base : Heap} {a : Ad}
theorem ok_Netnodes (T : Txt K mg a) : FnOk P w K mg base CX0 1 a.f_Netnodes a.d_Netnodes ["self"] (sp_nodes a.c_Net) := by
  refine T.F_Netnodes.ok sc_Netnodes (fun vs H Q E h => ?_) (fun cdv A outer s H vs Q E hr h => ?_)
  · obtain ⟨q, l, rfl, _⟩ := h
    rfl
  · obtain ⟨q, l, rfl, ⟨dx, D, N, T5, R, n⟩, k⟩ := h
    refine ⟨_, (pss_one (ps_ret (pe_fldK (K := K) rfl (pv 0) rfl))), ?_⟩
    exact ⟨_, rfl, q, a.c_Net, dx, _, _, rfl, n.ins, T.cl, T.nNo, nf_no D N T5 R, k _ n.no⟩
theorem ok_Netnames (T : Txt K mg a) : FnOk P w K mg base CX0 1 a.f_Netnames a.d_Netnames ["self"] (sp_nms a.c_Net) := by
  refine T.F_Netnames.ok sc_Netnames (fun vs H Q E h => ?_) (fun cdv A outer s H vs Q E hr h => ?_)
  · obtain ⟨q, l, rfl, _⟩ := h
    rfl
  · obtain ⟨q, l, rfl, ⟨dx, D, N, T5, R, n⟩, k⟩ := h
    refine ⟨_, (pss_one (ps_ret (pe_callTy (call_list_ofK (K := K) rfl) (by rfl) T.b_list (by decide +kernel) (pa_cons (pe_fldK (K := K) rfl (pv 0) rfl) pa_nil)))), ?_⟩
    exact ⟨_, rfl, q, a.c_Net, dx, _, _, rfl, n.ins, T.cl, T.nNm, nf_nm D N T5 R, N, _, rfl, .inl (SqL.of n.nm), fun p hp => k _ p (Lb.Same.upd hp) hp upd_same⟩
theorem ok_Net_iter_ (T : Txt K mg a) : FnS P w K mg base 1 a.f_Net_iter_ a.d_Net_iter_ ["self"] (sp_it K a.c_Net "_names") := by
  refine okS T.F_Net_iter_ sc_Net_iter_ (fun n vs H Q E h => ?_) (fun cdv A outer s H vs Q E hr h => ?_)
  · obtain ⟨q, dx, fs, l, xs, rfl, _⟩ := h
    rfl
  · obtain ⟨q, dx, fs, l, xs, rfl, hq, hl, hS, k⟩ := h
    refine ⟨_, (pss_one (ps_ret (pe_callB ItX.call_iterN (by rfl) T.b_iter (by decide +kernel) (pa_cons (pe_fldK (K := K) rfl (pv 0) rfl) pa_nil)))), ?_⟩
    exact ⟨_, rfl, q, a.c_Net, dx, _, _, rfl, hq, T.cl, T.nNm, hl, l, xs, rfl, hS, fun it h0 hn => k it h0 hn⟩
theorem ok_Net_len_ (T : Txt K mg a) : FnOk P w K mg base CX0 1 a.f_Net_len_ a.d_Net_len_ ["self"] (sp_len a.c_Net) := by
  refine T.F_Net_len_.ok sc_Net_len_ (fun vs H Q E h => ?_) (fun cdv A outer s H vs Q E hr h => ?_)
  · obtain ⟨q, l, rfl, _⟩ := h
    rfl
  · obtain ⟨q, l, rfl, ⟨dx, D, N, T5, R, n⟩, k⟩ := h
    refine ⟨_, (pss_one (ps_ret (pe_callB (call_lenK (K := K) rfl) (by rfl) T.b_len (by decide +kernel) (pa_cons (pe_fldK (K := K) rfl (pv 0) rfl) pa_nil)))), ?_⟩
    refine ⟨_, rfl, q, a.c_Net, dx, _, _, rfl, n.ins, T.cl, T.nNm, nf_nm D N T5 R, N, _, rfl, .inl (SqL.of n.nm), ?_⟩
    rw [List.length_map, srt_len]
    unfold nmsOf
    rw [List.length_map]
    exact k
theorem ok_Net_contains_ (T : Txt K mg a) : FnOk P w K mg base CX0 1 a.f_Net_contains_ a.d_Net_contains_ ["self", "value"] (sp_has K a.c_Net) := by
  refine T.F_Net_contains_.ok sc_Net_contains_ (fun vs H Q E h => ?_) (fun cdv A outer s H vs Q E hr h => ?_)
  · obtain ⟨q, l, v, rfl, _⟩ := h
    rfl
  · obtain ⟨q, l, v, rfl, ⟨dx, D, N, T5, R, n⟩, k⟩ := h
    refine ⟨_, (pss_one (ps_ret (pe_and (pe_callB (call_isiK' (K := K) rfl) (by rfl) T.b_isinstance (by decide +kernel) (pa_cons (pv 1) (pa_cons (pe_bltn (v := .ty "str") (by rfl) T.b_str (by decide +kernel) rfl) pa_nil))) (pe_one (pe_cmp (pc_din (hu_of hr) (pv 1) (pe_fldK (K := K) rfl (pv 0) rfl))))))), ?_⟩
    obtain ⟨kv, hkv, ekv⟩ := n.pi
    rcases k with ⟨z, rfl, k⟩ | ⟨⟨t, ty, ks⟩, k⟩
    · refine ⟨_, rfl, _, _, _, _, _, rfl, .ty _, .base (.str _), kit_ty (r := true) (by decide +kernel), true, rfl, ?_⟩
      refine iteT ⟨_, rfl, _, rfl, q, a.c_Net, dx, _, _, rfl, n.ins, T.cl, T.nPi, nf_pi D N T5 R, D, _, rfl, DGet.k (k := Sum.inr z) hkv, ?_⟩
      rw [show (valV kv (Sum.inr z : Key)).isSome = decide (z ∈ nmsOf l) from ?_]
      · exact k
      · cases h : (srtP l).lookup z with
        | none =>
          rw [ekv.val_none h]
          rw [lookup_srtP n.good.nd, lookup_none] at h
          exact (decide_eq_false h).symm
        | some e =>
          obtain ⟨u, hu, _⟩ := ekv.val_some h
          rw [hu]
          rw [lookup_srtP n.good.nd] at h
          exact (decide_eq_true (List.mem_map.mpr ⟨_, mem_lookup h, rfl⟩)).symm
    · exact ⟨_, rfl, _, _, _, _, false, rfl, .ty _, ty, ks, false, rfl, iteF k⟩
theorem ok_Net_getitem_ (T : Txt K mg a) : FnOk P w K mg base CX0 1 a.f_Net_getitem_ a.d_Net_getitem_ ["self", "name"] (sp_get a.c_Net) := by
  refine T.F_Net_getitem_.ok sc_Net_getitem_ (fun vs H Q E h => ?_) (fun cdv A outer s H vs Q E hr h => ?_)
  · obtain ⟨q, l, z, e, rfl, _⟩ := h
    rfl
  · obtain ⟨q, l, z, e, rfl, ⟨dx, D, N, T5, R, n⟩, hz, k⟩ := h
    refine ⟨_, (pss_cons (ps_if (PW.pt (pw_or (pt_not (pt_val (pe_callB (call_isiK' (K := K) rfl) (by rfl) T.b_isinstance (by decide +kernel) (pa_cons (pv 1) (pa_cons (pe_bltn (v := .ty "str") (by rfl) T.b_str (by decide +kernel) rfl) pa_nil))))) (pw_or1 (pt_cmp (pc_dnotin (hu_of hr) (pv 1) (pe_fldK (K := K) rfl (pv 0) rfl)))))) (pss_one ps_never) pss_nil)
 (pss_one (ps_ret (pe_dget (hu_of hr) (pe_fldK (K := K) rfl (pv 0) rfl) (pv 1) (fun _ _ => rfl))))), ?_⟩
    obtain ⟨kv, hkv, ekv⟩ := n.pi
    obtain ⟨u, hu, hv⟩ := ekv.val_some (z := z) (e := e) (by rw [lookup_srtP n.good.nd]; exact hz)
    have hg : DGet H D (.str z) (some u) := by rw [← hu]; exact DGet.k (k := Sum.inr z) hkv
    refine ⟨_, rfl, _, _, _, _, _, rfl, .ty _, .base (.str _), kit_ty (r := true) (by decide +kernel), true, rfl, ?_⟩
    refine iteF ⟨_, rfl, _, rfl, q, a.c_Net, dx, _, _, rfl, n.ins, T.cl, T.nPi, nf_pi D N T5 R, D, _, rfl, hg, _, rfl, ?_⟩
    refine iteF ⟨_, rfl, q, a.c_Net, dx, _, _, rfl, n.ins, T.cl, T.nPi, nf_pi D N T5 R, _, rfl, D, u, rfl, hg, k u hv⟩
theorem ok_Net_eq_ (T : Txt K mg a) : FnOk P w K mg base CX0 1 a.f_Net_eq_ a.d_Net_eq_ ["self", "other"] (sp_eq K a.c_Net) := by
  refine T.F_Net_eq_.ok sc_Net_eq_ (fun vs H Q E h => ?_) (fun cdv A outer s H vs Q E hr h => ?_)
  · obtain ⟨q, l, v, rfl, _⟩ := h
    rfl
  · obtain ⟨q, l, v, rfl, ⟨dx, D, N, T5, R, n⟩, k⟩ := h
    refine ⟨_, (pss_one (ps_ret (pe_and (pe_callB (call_isiK' (K := K) rfl) (by rfl) T.b_isinstance (by decide +kernel) (pa_cons (pv 1) (pa_cons (pe_glob (v := .ref a.c_Net) rfl T.mNet rfl) pa_nil))) (pe_one (pe_cmpR (op_eqKD (K := K) rfl (hu65 hr)) (pe_fldK (K := K) rfl (pv 0) rfl) (pe_fldK (K := K) rfl (pv 1) rfl) (nomark _)))))), ?_⟩
    rcases k with ⟨q', m, rfl, ⟨dx', D', N', T', R', n'⟩, k⟩ | ⟨⟨t, ty, ks⟩, k⟩
    · obtain ⟨kv, hkv, ekv⟩ := n.pi
      obtain ⟨kv', hkv', ekv'⟩ := n'.pi
      refine ⟨_, rfl, _, _, _, _, true, rfl, .own _, .base (T.I.ty T.cl n'.ins), Inst.kSelf, true, rfl, iteT ?_⟩
      refine ⟨_, rfl, q, a.c_Net, dx, _, _, rfl, n.ins, T.cl, T.nPi, nf_pi D N T5 R, _, rfl, q', a.c_Net, dx', _, _, rfl, n'.ins, T.cl, T.nPi, nf_pi D' N' T' R', ?_⟩
      refine ⟨D, D', kv, kv', keysD (srtP l), keysD (srtP m), rfl, rfl, hkv, hkv', ekv.kd fun e he => ?_, ekv'.kd fun e he => ?_, ?_⟩
      · have := n.good.nm e ((mem_srtP n.good.nd).mp he)
        exact ⟨this.2.1, this.2.2.1⟩
      · have := n'.good.nm e ((mem_srtP n'.good.nd).mp he)
        exact ⟨this.2.1, this.2.2.1⟩
      · rw [eqKD_samP (srtP_nd n'.good.nd), samP_srtP n.good.nd n'.good.nd]
        exact k
    · exact ⟨_, rfl, _, _, _, _, false, rfl, .own _, ty, ks, false, rfl, iteF k⟩
theorem ok_Net_repr_ (T : Txt K mg a) : FnG P w K mg base CX0 1 a.f_Net_repr_ a.d_Net_repr_ ["self"] (sp_rep a.c_Net) := by
  refine okG T.F_Net_repr_ sc_Net_repr_ (fun vs H Q E h => ?_) (fun cdv A outer s H vs Q E gu hr h => ?_)
  · obtain ⟨q, l, rfl, _⟩ := h
    rfl
  · obtain ⟨q, l, rfl, ⟨dx, D, N, T5, R, n⟩, k⟩ := h
    refine ⟨_, (pss_one (ps_ret (pe_joined (.cons pe_str (.cons (pe_fmtDc (K := K) rfl gu hr.units (pe_fldK (K := K) rfl (pv 0) rfl)) (.cons pe_str .nil)))))), ?_⟩
    obtain ⟨kv, hkv, ekv⟩ := n.pi
    have l1 : ("Net(" : Str).length = 4 := by decide +kernel
    have l2 : (")" : Str).length = 1 := by decide +kernel
    have l0 : (Str.empty : Str).length = 0 := by decide +kernel
    have h5 := entD_len (l := srtP l) (fun e he => by
      have := n.good.nm e ((mem_srtP n.good.nd).mp he)
      exact ⟨this.1, this.2.1, this.2.2.1⟩) (by rw [srtP_len]; have := n.good.le; omega)
    have dc := ekv.dc
    refine ⟨_, rfl, ?_, _, rfl, q, a.c_Net, dx, _, _, rfl, n.ins, T.cl, T.nPi, nf_pi D N T5 R, D, kv, _, rfl, hkv, ekv.dp, flat_tups _, ?_, ?_, ?_, ?_⟩
    · rw [strLen_append, sizeLine_eq]; omega
    · rw [dc]; exact entD_showable _
    · rw [dc, sizeLine_eq]; omega
    · rw [dc]; exact entD_depth _
    · rw [dc]
      refine ⟨_, rfl, ?_, _, rfl, ?_, k⟩
      · rw [strLen_append, strLen_append, sizeLine_eq]; omega
      · rw [strLen_append, strLen_append, strLen_append, sizeLine_eq]; omega
theorem ok_Net_check_node (T : Txt K mg a) : FnOk P w K mg base CX0 1 a.f_Net_check_node a.d_Net_check_node ["self", "value"] (sp_chk a.c_Net) := by
  refine T.F_Net_check_node.ok sc_Net_check_node (fun vs H Q E h => ?_) (fun cdv A outer s H vs Q E hr h => ?_)
  · obtain ⟨q, l, x, rfl, _⟩ := h
    rfl
  · obtain ⟨q, l, x, rfl, ⟨dx, D, N, T5, R, n⟩, hx, k⟩ := h
    refine ⟨_, (pss_one (ps_if (PW.pt (pw_or (pt_not (pt_val (pe_callB (call_isiK' (K := K) rfl) (by rfl) T.b_isinstance (by decide +kernel) (pa_cons (pv 1) (pa_cons (pe_bltn (v := .ty "str") (by rfl) T.b_str (by decide +kernel) rfl) pa_nil))))) (pw_or1 (pt_cmp (pc_dnotin (hu_of hr) (pv 1) (pe_fldK (K := K) rfl (pv 0) rfl)))))) (pss_one ps_never) pss_nil)), ?_⟩
    obtain ⟨kv, hkv, ekv⟩ := n.ne
    obtain ⟨p, hp, _⟩ := ekv.val (srtS_mem.mpr hx)
    have hg : DGet H R (.str x) (some (.ref p)) := by rw [← hp]; exact DGet.k (k := Sum.inr x) hkv
    refine ⟨_, rfl, _, _, _, _, _, rfl, .ty _, .base (.str _), kit_ty (r := true) (by decide +kernel), true, rfl, ?_⟩
    exact iteF ⟨_, rfl, _, rfl, q, a.c_Net, dx, _, _, rfl, n.ins, T.cl, T.nNe, nf_ne D N T5 R, R, _, rfl, hg, _, rfl, iteF k⟩
theorem ok_Netneighbours (T : Txt K mg a) : FnOk P w K mg base CX0 2 a.f_Netneighbours a.d_Netneighbours ["self", "node"] (sp_ngh a.c_Net) := by
  refine T.F_Netneighbours.ok sc_Netneighbours (fun vs H Q E h => ?_) (fun cdv A outer s H vs Q E hr h => ?_)
  · obtain ⟨q, l, x, rfl, _⟩ := h
    rfl
  · obtain ⟨q, l, x, rfl, n0, hx, k⟩ := h
    refine ⟨_, (pss_cons (ps_expr (pe_meth (pv 0) T.cl T.mChk (ok_Net_check_node T) (hr.mono (by decide)) (b_Net_check_node T) .nil pass0 (pa_cons (pv 1) pa_nil)))
 (pss_one (ps_ret (pe_callTy (call_list_ofK (K := K) rfl) (by rfl) T.b_list (by decide +kernel) (pa_cons (pe_dget (hu_of hr) (pe_fldK (K := K) rfl (pv 0) rfl) (pv 1) (fun _ _ => rfl)) pa_nil))))), ?_⟩
    obtain ⟨dx, D, N, T5, R, n⟩ := id n0
    obtain ⟨kv, hkv, ekv⟩ := n.ne
    obtain ⟨p, hp, ep⟩ := ekv.val (srtS_mem.mpr hx)
    have hg : DGet H R (.str x) (some (.ref p)) := by rw [← hp]; exact DGet.k (k := Sum.inr x) hkv
    have nl : (netF D N T5 R).lookup ("_check_node" : Str) = none := nf_not D N T5 R (by decide +kernel) (by decide +kernel) (by decide +kernel) (by decide +kernel)
    refine ⟨_, rfl, q, dx, _, rfl, n.ins, nl, _, rfl, q, l, x, rfl, n0, hx, ?_⟩
    exact ⟨_, rfl, q, a.c_Net, dx, _, _, rfl, n.ins, T.cl, T.nNe, nf_ne D N T5 R, _, rfl, R, _, rfl, hg, p, _, rfl, .inl (SqL.of ep), fun p2 hp2 => k _ p2 (Lb.Same.upd hp2) hp2 upd_same⟩
theorem ok_Netbetween (T : Txt K mg a) : FnOk P w K mg base CX0 2 a.f_Netbetween a.d_Netbetween ["self", "u", "v"] (sp_btw a.c_Net) := by
  refine T.F_Netbetween.ok sc_Netbetween (fun vs H Q E h => ?_) (fun cdv A outer s H vs Q E hr h => ?_)
  · obtain ⟨q, l, x, y, rfl, _⟩ := h
    rfl
  · obtain ⟨q, l, x, y, rfl, n0, hx, hy, k⟩ := h
    refine ⟨_, (pss_cons (ps_expr (pe_meth (pv 0) T.cl T.mChk (ok_Net_check_node T) (hr.mono (by decide)) (b_Net_check_node T) .nil pass0 (pa_cons (pv 1) pa_nil)))
 (pss_cons (ps_expr (pe_meth (pv 0) T.cl T.mChk (ok_Net_check_node T) (hr.mono (by decide)) (b_Net_check_node T) .nil pass0 (pa_cons (pv 2) pa_nil)))
 (pss_one (ps_ret (pe_lc (own := [("name", 3)]) (by rfl) sc_Netbetween.nd (pi_listK (K := K) rfl (pe_fldK (K := K) rfl (pv 0) rfl)) (blkOk_by (own := [("name", 3)]) (N := ["self", "u", "v", "name"]) (sc := defScope s_Netbetween) (by decide +kernel)) (fun _ _ _ _ _ => (pg_name (i := 3) sc_Netbetween.nd rfl (by first | exact Or.inl rfl | exact Or.inr rfl))) (fun _ _ _ _ _ => pts_one (pt_cmpR (op_inDT (K := K) rfl (hu65 hr)) (pe_dget (hu_of hr) (pe_fldK (K := K) rfl (pv 0) rfl) (pv 3) (fun _ _ => rfl)) (pe_tup (pa_cons (pe_tup (pa_cons (pv 1) (pa_cons (pv 2) pa_nil))) (pa_cons (pe_tup (pa_cons (pv 2) (pa_cons (pv 1) pa_nil))) pa_nil))) rfl)) (fun _ _ _ _ _ => (pv 3))))))), ?_⟩
    obtain ⟨dx, D, N, T5, R, n⟩ := id n0
    have nl : (netF D N T5 R).lookup ("_check_node" : Str) = none := nf_not D N T5 R (by decide +kernel) (by decide +kernel) (by decide +kernel) (by decide +kernel)
    obtain ⟨kv, hkv, ekv⟩ := n.pi
    have G := n.good
    have lle := G.le
    have lnn : (srt (nmsOf l)).length = l.length := by rw [srt_len]; unfold nmsOf; rw [List.length_map]
    refine ⟨_, rfl, q, dx, _, rfl, n.ins, nl, _, rfl, q, l, x, rfl, n0, hx, ?_⟩
    refine ⟨_, rfl, q, dx, _, rfl, n.ins, nl, _, rfl, q, l, y, rfl, n0, hy, ?_⟩
    refine ⟨_, rfl, q, a.c_Net, dx, _, _, rfl, n.ins, T.cl, T.nNm, nf_nm D N T5 R, N, rfl, ⟨_, SqL.of n.nm⟩, fun L hL => ?_⟩
    refine turns walk_list (fun i H' => Same H H' ∧ H' L = some (.lst ((((srt (nmsOf l)).take i).filter fun z => decide (getP l z = (x, y) ∨ getP l z = (y, x))).map V.str))) ⟨Lb.Same.upd hL, upd_same⟩ (fun i H' _ b => SqL.of (b.1 _ _ n.nm)) ?_ ?_
    · rintro i v H3 H2 hi ⟨s2, eL⟩ ⟨rfl, ev⟩
      rw [List.getElem?_map] at ev
      obtain ⟨z, hz, rfl⟩ : ∃ z, (srt (nmsOf l))[i]? = some z ∧ V.str z = v := by
        cases h : (srt (nmsOf l))[i]? with
        | none => rw [h] at ev; cases ev
        | some n => rw [h] at ev; exact ⟨n, rfl, by simpa using ev⟩
      obtain ⟨e, he⟩ := lookup_some (srt_mem.mp (List.mem_of_getElem? hz))
      have hge : getP l z = e := by unfold getP; rw [he]; rfl
      obtain ⟨u, hu, hv⟩ := ekv.val_some (z := z) (e := e) (by rw [lookup_srtP G.nd]; exact he)
      have hg : DGet H2 D (.str z) (some u) := by rw [← hu]; exact DGet.k (k := Sum.inr z) (s2 _ _ hkv)
      refine ⟨rfl, _, rfl, q, a.c_Net, dx, _, _, rfl, s2 _ _ n.ins, T.cl, T.nPi, nf_pi D N T5 R, _, rfl, D, u, rfl, hg, ?_⟩
      refine ⟨_, rfl, _, rfl, sz, fun t1 ht1 => ⟨_, rfl, _, rfl, sz, fun t2 ht2 => ⟨sz, fun t3 ht3 => ?_⟩⟩⟩
      have n12 : t1 ≠ t2 := fun z => by rw [← z, upd_same] at ht2; cases ht2
      have s12 : Same H2 (upd (upd H2 t1 (.tup [.str x, .str y])) t2 (.tup [.str y, .str x])) := (Lb.Same.upd ht1).trans (Lb.Same.upd ht2)
      have f1 : (upd (upd H2 t1 (.tup [.str x, .str y])) t2 (.tup [.str y, .str x])) t1 = some (.tup [.str x, .str y]) := by rw [upd_ne n12, upd_same]
      have f2 : (upd (upd H2 t1 (.tup [.str x, .str y])) t2 (.tup [.str y, .str x])) t2 = some (.tup [.str y, .str x]) := upd_same
      generalize upd (upd H2 t1 (.tup [.str x, .str y])) t2 (.tup [.str y, .str x]) = H4 at *
      have s3 := Lb.Same.upd (o := .tup [.ref t1, .ref t2]) ht3
      have f3 : (upd H4 t3 (.tup [.ref t1, .ref t2])) t3 = some (.tup [.ref t1, .ref t2]) := upd_same
      generalize upd H4 t3 (.tup [.ref t1, .ref t2]) = H5 at *
      have sA := (s2.trans s12).trans s3
      have hx1 : ∀ {x}, x ∈ nodOf l → nmS x = true := fun {x} h => by
        obtain ⟨e, he, rfl | rfl⟩ := mem_nod.mp h
        · exact (G.nm e he).2.1
        · exact (G.nm e he).2.2.1
      have sh : SeqAt.shaped (.tuple [tupD (x, y), tupD (y, x)]) = true := by
        unfold SeqAt.shaped tupD
        rw [Bool.and_eq_true]
        refine ⟨?_, ?_⟩
        · simp [PyData.canLay0, PyData.canLayAll0, nm_ok (hx1 hx), nm_ok (hx1 hy)]
        · simp [PyData.depth, PyData.depthAll]
      have hem := G.nm _ (mem_lookup he)
      have dv : Dp K H5 u (tupD e) := dp_vEn (hv.tk ((s2.tk.trans s12.tk).trans s3.tk))
      refine ⟨tupD e, [tupD (x, y), tupD (y, x)], dv, .tup (SqT.of f3) (.cons (.tup (SqT.of (s3 _ _ f1)) (.cons (.str _) (.cons (.str _) .nil))) (.cons (.tup (SqT.of (s3 _ _ f2)) (.cons (.str _) (.cons (.str _) .nil))) .nil)), shaped_tupD hem.2.1 hem.2.2.1, sh, _, rfl, ?_⟩
      rw [show ([tupD (x, y), tupD (y, x)].any fun z => PyData.eqv z (tupD e)) = decide (getP l z = (x, y) ∨ getP l z = (y, x)) by
        simp only [List.any_cons, List.any_nil, Bool.or_false, eqv_tupD, hge]
        rw [Bool.eq_iff_iff]
        simp only [Bool.or_eq_true, decide_eq_true_eq]
        exact or_congr eq_comm eq_comm]
      have eL5 := (s12.trans s3) _ _ eL
      rw [← take_snoc hz]
      by_cases hc : getP l z = (x, y) ∨ getP l z = (y, x)
      · rw [decide_eq_true hc, List.filter_append, List.filter_cons, if_pos (decide_eq_true hc), List.map_append]
        refine iteT ⟨_, rfl, _, eL5, ?_, Lb.Same.updl sA hL, upd_same⟩
        rw [List.length_map]
        exact szlt (Nat.le_trans (List.length_filter_le _ _) (by rw [List.length_take]; omega))
      · rw [decide_eq_false hc, List.filter_append, List.filter_cons, if_neg (by simpa using hc), List.filter_nil, List.append_nil]
        exact iteF ⟨sA, eL5⟩
    · rintro H2 ⟨s2, eL⟩
      rw [List.length_map, List.take_length] at eL
      exact k _ L s2 hL eL
end
end K20

set_option Elab.async false
set_option linter.all false
set_option maxRecDepth 100000
set_option maxHeartbeats 4000000
namespace K20
open PySem L2 Lb
open C8 (pss_cut)
/-- an item: a name with its ends -/
def ItE (H : Hp) (x : V) (e : En) : Prop := ∃ (t : Addr) (u : V), x = .ref t ∧ H t = some (.tup [.str e.1, u]) ∧ vEn H u e.2
def Nm3 (e : En) : Prop := nmS e.1 = true ∧ nmS e.2.1 = true ∧ nmS e.2.2 = true
def ItX (H : Hp) (x : V) : Prop := ∃ e : En, ItE H x e ∧ Nm3 e
theorem ItE.tk {H H' : Hp} {x : V} {e : En} (h : ItE H x e) (k : TK H H') : ItE H' x e := let ⟨t, u, a, b, c⟩ := h; ⟨t, u, a, k _ _ b, c.tk k⟩
theorem ItX.tk {H H' : Hp} {x : V} (h : ItX H x) (k : TK H H') : ItX H' x := let ⟨e, a, b⟩ := h; ⟨e, a.tk k, b⟩
theorem items_data {K : PySem.W.Frag} {H : Hp} : ∀ {xs : List V}, (∀ x ∈ xs, ItX H x) → ∃ ds, DpAll K H xs ds ∧ PyData.canLayAll0 ds = true ∧ PyData.depthAll ds ≤ 2
  | [], _ => ⟨[], .nil, by simp [PyData.canLayAll0], by simp [PyData.depthAll]⟩
  | x :: r, h => by
    obtain ⟨ds, a, b, c⟩ := items_data (K := K) fun y hy => h y (List.mem_cons_of_mem _ hy)
    obtain ⟨e, ⟨t, u, rfl, ht, hu⟩, n1, n2, n3⟩ := h x List.mem_cons_self
    refine ⟨.tuple [.str e.1, tupD e.2] :: ds, .cons (.tup (SqT.of ht) (.cons (.str _) (.cons (dp_vEn hu) .nil))) a, ?_, ?_⟩
    · simp [PyData.canLay0, PyData.canLayAll0, tupD, nm_ok n1, nm_ok n2, nm_ok n3, b]
    · simp only [PyData.depth, PyData.depthAll, tupD] at c ⊢
      omega
theorem erase_perm {α : Type} : ∀ (l : List α) (i : Nat) (h : i < l.length), (l[i] :: l.eraseIdx i).Perm l
  | [], i, h => absurd h (by simp)
  | x :: r, 0, h => .refl _
  | x :: r, i + 1, h => by
    rw [List.getElem_cons_succ, List.eraseIdx_cons_succ]
    exact (List.Perm.swap _ _ _).trans ((erase_perm r i (by simpa using h)).cons x)
def sp_mixed (K : PySem.W.Frag) : Sp := fun vs H Q _ => ∃ (p l : Addr) (xs : List V), vs = [.ref p, .ref l] ∧ PotAt H p ∧ SqL K H l xs ∧ (∀ x ∈ xs, ItX H x) ∧ xs.length ≤ 40 ∧
  ∀ H' r ys, Mov p H H' → H r = none → H' r = some (.lst ys) → ys.Perm xs → Q (.ref r) H'
section
variable {P : Program} {w : World} {K : PySem.W.Frag} {mg : Str → Option Value} {base : Heap} {a : Ad}
theorem ok_mixed (T : Txt K mg a) : FnOk P w K mg base CX0 2 a.f_mixed a.d_mixed ["_law_pot_here", "_law_some"] (sp_mixed K) := by
  refine T.F_mixed.ok sc_mixed (fun vs H Q E h => ?_) (fun cdv A outer s H vs Q E hr h => ?_)
  · obtain ⟨p, l, xs, rfl, _⟩ := h
    rfl
  · obtain ⟨p, l, xs, rfl, hp, hl, hx, hz, k⟩ := h
    refine ⟨_, (pss_cons (ps_par (i := 2) (j := 3) rfl sc_mixed.nd rfl rfl (by decide) rfl rfl (pa_cons (pe_callTy (call_list_ofK (K := K) rfl) (by rfl) T.b_list (by decide +kernel) (pa_cons (pv 1) pa_nil)) (pa_cons (pe_lst pa_nil) pa_nil)) (by rfl))
 (pss_cons (ps_while PassesOwn.never (pt_cmpR (op_neDK2 (K := K) rfl hr.units) (pv 2) (pe_lst pa_nil) (nomark _)) (pss_one (ps_expr (pe_bm PySem.F.plainAttrs_list PySem.F.slot_list_append PySem.F.type_list_append mt_append (pv 3) (pa_cons (pe_bm PySem.F.plainAttrs_list PySem.F.slot_list_pop PySem.F.type_list_pop mt_popAt (pv 2) (pa_cons (pe_call (ok_draw T) (hr.mono (by decide)) (by rfl) T.m_draw T.F_draw.kp (b_draw T) .nil pass0 (pa_cons (pv 0) (pa_cons (pe_callB (call_lenK (K := K) rfl) (by rfl) T.b_len (by decide +kernel) (pa_cons (pv 2) pa_nil)) pa_nil))) pa_nil)) pa_nil)))))
 (pss_one (ps_ret (pv 3))))), ?_⟩
    refine ⟨_, rfl, l, _, rfl, .inl hl, fun lf hlf => ⟨sz, fun mx hmx => ⟨_, _, rfl, ?_⟩⟩⟩
    have hmx0 : H mx = none := by rw [← hmx, upd_ne (fun z => by rw [z, upd_same] at hmx; cases hmx)]
    have nlm : lf ≠ mx := fun z => by rw [z, upd_same] at hmx; cases hmx
    have m0 : Mov p H (upd (upd H lf (.lst xs)) mx (.lst [])) := mov_upd (mov_upd (Mov.refl hp) hp hlf) hp hmx0
    have hpl : lf ≠ p := fun z => by obtain ⟨_, _, e, _⟩ := hp; rw [z, e] at hlf; cases hlf
    have hpm : mx ≠ p := fun z => by obtain ⟨_, _, e, _⟩ := hp; rw [z, e] at hmx0; cases hmx0
    refine ⟨fun m σ H' => ∃ ls ms, σ = [some (.ref p), some (.ref l), some (.ref lf), some (.ref mx)] ∧ Mov p H H' ∧ H' lf = some (.lst ls) ∧ H' mx = some (.lst ms) ∧ (ms ++ ls).Perm xs ∧ m = ls.length,
      ⟨_, xs, [], rfl, m0, by rw [upd_ne nlm, upd_same], upd_same, .refl _, rfl⟩, ?_⟩
    rintro m σ H1 ⟨ls, ms, rfl, M, el, em, pm, rfl⟩
    have hls : ∀ x ∈ ls, ItX H1 x := fun x h => (hx x (pm.mem_iff.mp (List.mem_append_right _ h))).tk (M.tk hp)
    refine ⟨_, rfl, sz, fun z hz0 => ?_⟩
    have sz0 : Same H1 (upd H1 z (.lst [])) := Lb.Same.upd hz0
    have ez : (upd H1 z (.lst [])) z = some (.lst []) := upd_same
    have nzp : z ≠ p := M.ne hz0
    have nz0 : H z = none := M.free hp hz0
    have Mz : Mov p H (upd H1 z (.lst [])) := mov_upd M hp nz0
    generalize upd H1 z (.lst []) = H2 at *
    have el2 := sz0 _ _ el
    have em2 := sz0 _ _ em
    obtain ⟨ds, d1, d2, d3⟩ := items_data (K := K) (fun x h => (hls x h).tk sz0.tk)
    have ld := dpAll_len d1
    refine ⟨.list ds, .list [], .lst (SqL.of el2) d1, .lst (SqL.of ez) .nil, ?_, by decide +kernel, _, rfl, ?_⟩
    · unfold SeqAt.shaped
      rw [Bool.and_eq_true]
      refine ⟨by rw [PyData.canLay0]; exact d2, decide_eq_true ?_⟩
      rw [PyData.depth]
      omega
    cases ls with
    | nil =>
      have : ds = [] := List.eq_nil_of_length_eq_zero (by rw [← ld]; rfl)
      subst this
      rw [List.append_nil] at pm
      exact iteF ⟨_, rfl, k _ mx ms Mz hmx0 em2 pm⟩
    | cons x0 r0 =>
      obtain ⟨d0, ds', rfl⟩ : ∃ d0 ds', ds = d0 :: ds' := by
        cases ds with
        | nil => cases ld
        | cons d0 ds' => exact ⟨_, _, rfl⟩
      rw [show (!PyData.eqv (.list (d0 :: ds')) (.list [])) = true by simp [PyData.eqv, PyData.eqvAll]]
      generalize els : x0 :: r0 = ls at *
      have l0 : 0 < ls.length := by rw [← els]; simp
      have lpm := pm.length_eq
      rw [List.length_append] at lpm
      refine iteT ⟨fun σ' H' => ∃ m', m' < ls.length ∧ ∃ ls ms, σ' = [some (.ref p), some (.ref l), some (.ref lf), some (.ref mx)] ∧ Mov p H H' ∧ H' lf = some (.lst ls) ∧ H' mx = some (.lst ms) ∧ (ms ++ ls).Perm xs ∧ m' = ls.length, fun _ _ z => z, ?_⟩
      refine ⟨_, rfl, .inl ⟨rfl, _, SqL.of em2⟩, _, rfl, .inl ⟨rfl, _, SqL.of el2⟩, ?_⟩
      refine ⟨_, rfl, _, rfl, lf, _, rfl, .inl (SqL.of el2), p, _, rfl, Mz.pot, by omega, by unfold Bd; omega, fun H3 d m3 d0 d1 => ?_⟩
      have hd : d.toNat < ls.length := by omega
      have el3 := m3.keep _ _ hpl el2
      have em3 := m3.keep _ _ hpm em2
      have hg : ls[d.toNat]? = some ls[d.toNat] := List.getElem?_eq_getElem hd
      refine ⟨lf, ls, d, d.toNat, ls[d.toNat], rfl, rfl, el3, by omega, by omega, ?_, hg, ?_⟩
      · unfold seqIndex?
        rw [if_neg (show ¬ d < 0 by omega)]
        simp only [decide_eq_true d0, Bool.true_and]
        rw [if_pos (decide_eq_true (show d < (ls.length : Int) by omega))]
      have em4 : (upd H3 lf (.lst (ls.eraseIdx d.toNat))) mx = some (.lst ms) := by rw [upd_ne nlm.symm]; exact em3
      refine ⟨mx, ms, _, rfl, rfl, em4, szlt (by omega), ?_⟩
      refine ⟨_, (by rw [List.length_eraseIdx_of_lt hd]; omega : (ls.eraseIdx d.toNat).length < ls.length), ls.eraseIdx d.toNat, ms ++ [ls[d.toNat]], rfl, mov_upd (mov_upd (Mz.trans m3) hp hlf) hp hmx0, by rw [upd_ne nlm, upd_same], upd_same, ?_, rfl⟩
      rw [List.append_assoc]
      exact (List.Perm.append_left ms (erase_perm ls d.toNat hd)).trans pm
end
end K20

set_option Elab.async false
set_option linter.all false
set_option maxRecDepth 100000
set_option maxHeartbeats 4000000
namespace K20
open PySem L2 Lb
open C8 (pss_cut)
def sp_points : Sp := fun vs H Q _ => ∃ d l, vs = [.ref d] ∧ DA H d l ∧ l.length ≤ 20 ∧ ∀ H' p, Same H H' → H p = none → H' p = some (.lst ((pts l).map V.str)) → Q (.ref p) H'
def sp_near : Sp := fun vs H Q _ => ∃ d l x, vs = [.ref d, .str x] ∧ DA H d l ∧ l.length ≤ 20 ∧ ∀ H' p, Same H H' → H p = none → H' p = some (.lst ((nbrs l x).map V.str)) → Q (.ref p) H'
def sp_beside : Sp := fun vs H Q _ => ∃ d l x y, vs = [.ref d, .str x, .str y] ∧ DA H d l ∧ Good l ∧ nmS x = true ∧ nmS y = true ∧ ∀ H' p, Same H H' → H p = none → H' p = some (.lst ((besP l x y).map V.str)) → Q (.ref p) H'
section
variable {P : Program} {w : World} {K : PySem.W.Frag} {mg : Str → Option Value} {base : Heap} {a : Ad}
theorem ok_points (T : Txt K mg a) : FnOk P w K mg base CX0 1 a.f_points a.d_points ["_law_entries"] sp_points := by
  refine T.F_points.ok sc_points (fun vs H Q E h => ?_) (fun cdv A outer s H vs Q E hr h => ?_)
  · obtain ⟨d, l, rfl, _⟩ := h
    rfl
  · obtain ⟨d, l, rfl, ⟨kv, hd, he⟩, hl, k⟩ := h
    refine ⟨_, (pss_cons (ps_set (i := 1) sc_points.nd rfl (by first | exact Or.inl rfl | exact Or.inr rfl) (pe_lst pa_nil))
 (pss_cons (ps_lock (ps_for PassesOwn.never rfl (pi_values (pv 0)) (pg_tupK (K := K) (n := 2) rfl rfl (pgs_cons (pg_name (i := 2) sc_points.nd rfl (by first | exact Or.inl rfl | exact Or.inr rfl)) (pgs_cons (pg_name (i := 3) sc_points.nd rfl (by first | exact Or.inl rfl | exact Or.inr rfl)) pgs_nil))) (pss_one (ps_expr (pe_bm PySem.F.plainAttrs_list PySem.F.slot_list_extend PySem.F.type_list_extend mt_extend (pv 1) (pa_cons (pe_lst (pa_cons (pv 2) (pa_cons (pv 3) pa_nil))) pa_nil))))))
 (pss_one (ps_ret (pe_callB (cr_sortedSetSK (P := P) (w := w) rfl rfl rfl) (by rfl) T.b_sorted (by decide +kernel) (pa_cons (pe_callTy (call_setSK (K := K) (P := P) (w := w) rfl rfl rfl rfl) (by rfl) T.b_set (by decide +kernel) (pa_cons (pv 1) pa_nil)) pa_nil)))))), ?_⟩
    have ln := he.len
    refine ⟨sz, fun F hF => ?_⟩
    have s0 : Same H (upd H F (.lst [])) := Lb.Same.upd hF
    have eF : (upd H F (.lst [])) F = some (.lst []) := upd_same
    generalize upd H F (.lst []) = H0 at *
    have hd0 := s0 _ _ hd
    have he0 := he.tk s0.tk
    have nFd : F ≠ d := fun z => by rw [z, hd] at hF; cases hF
    refine ⟨d, _, hd0, trivial, fun od => ?_⟩
    have un : ∀ {H'}, Same (upd H0 d (.frz od (.dK kv))) H' → Same H0 (upd H' d (.dK kv)) := unlock hd0
    have hd1 : (upd H0 d (.frz od (.dK kv))) d = some (.frz od (.dK kv)) := upd_same
    have he1 := he0.tk (lock_tk (od := od) hd0)
    have eF1 : (upd H0 d (.frz od (.dK kv))) F = some (.lst []) := by rw [upd_ne nFd]; exact eF
    refine ⟨_, rfl, d, od, kv, rfl, hd1, ?_⟩
    refine for_it walk_values (fun i σ H' => ∃ w2 w3, σ = [some (.ref d), some (.ref F), w2, w3] ∧ H' d = some (.frz od (.dK kv)) ∧ (∀ b o, b ≠ F → (upd H0 d (.frz od (.dK kv))) b = some o → H' b = some o) ∧ H' F = some (.lst ((nodOf (l.take i)).map V.str)))
      ⟨_, _, rfl, hd1, fun _ _ _ e => e, eF1⟩ (fun i σ H' _ ⟨_, _, _, b, _⟩ => b) ?_ ?_
    · rintro i v σ H3 H2 hi ⟨w2, w3, rfl, hd2, k2, eF2⟩ ⟨rfl, k0, ek⟩
      obtain ⟨e, hel, ek2, t, rfl, ht⟩ := he1.get ek
      have ht2 := k2 _ _ (ne_of ht eF1 (fun z => nomatch z)) ht
      refine ⟨t, _, rfl, SqT.of ht2, rfl, _, _, rfl, _, _, rfl, rfl, ?_⟩
      refine ⟨_, rfl, .inl ⟨rfl, _, SqL.of eF2⟩, _, rfl, _, rfl, sz, fun t2 ht2' => ?_⟩
      have nFt : F ≠ t2 := fun z => by rw [z, ht2'] at eF2; cases eF2
      have ndt : d ≠ t2 := fun z => by rw [z, ht2'] at hd2; cases hd2
      refine ⟨F, t2, _, _, rfl, rfl, by rw [upd_ne nFt]; exact eF2, upd_same, szle ?_, _, _, rfl, ?_, fun b o nb e => ?_, ?_⟩
      · rw [List.length_map, nod_len, List.length_take]
        simp only [List.length_cons, List.length_nil]
        omega
      · rw [upd_ne (Ne.symm nFd), upd_ne ndt]; exact hd2
      · rw [upd_ne nb, upd_ne (ne_of_none (k2 b o nb e) ht2')]
        exact k2 b o nb e
      · rw [upd_same, ← take_snoc hel, show nodOf (l.take i ++ [e]) = nodOf (l.take i) ++ [e.2.1, e.2.2] by unfold nodOf; rw [List.flatMap_append]; rfl, List.map_append]
        rfl
    · rintro σ H2 ⟨w2, w3, rfl, hd2, k2, eF2⟩
      rw [ln, List.take_length] at eF2
      refine ⟨hd2, ?_⟩
      have eF3 : (upd H2 d (.dK kv)) F = some (.lst ((nodOf l).map V.str)) := by rw [upd_ne nFd]; exact eF2
      have s3 : Same H (upd H2 d (.dK kv)) := fun b o e => by
        by_cases hb : b = d
        · subst hb
          rw [hd] at e
          cases e
          exact upd_same
        · rw [upd_ne hb]
          refine k2 b o (ne_of_none e hF) ?_
          rw [upd_ne hb]
          exact s0 _ _ e
      generalize upd H2 d (.dK kv) = H3 at *
      have lz := nod_len l
      have l8 := ded_len (nodOf l)
      refine ⟨_, rfl, F, nodOf l, rfl, SqL.of eF3, by omega, fun p1 hp1 => ⟨p1, _, rfl, upd_same, by omega, fun ys p2 perm so hp2 => ?_⟩⟩
      obtain rfl := srtS_of perm so
      have sA := s3.trans (Lb.Same.upd (o := SetS P w p1 (ded (nodOf l))) hp1)
      exact k _ p2 (sA.trans (Lb.Same.upd hp2)) (Lb.Same.free sA hp2) upd_same
theorem ok_near (T : Txt K mg a) : FnOk P w K mg base CX0 1 a.f_near a.d_near ["_law_entries", "_law_point"] sp_near := by
  refine T.F_near.ok sc_near (fun vs H Q E h => ?_) (fun cdv A outer s H vs Q E hr h => ?_)
  · obtain ⟨d, l, x, rfl, _⟩ := h
    rfl
  · obtain ⟨d, l, x, rfl, ⟨kv, hd, he⟩, hl, k⟩ := h
    refine ⟨_, (pss_cons (ps_set (i := 2) sc_near.nd rfl (by first | exact Or.inl rfl | exact Or.inr rfl) (pe_op op_cat (pe_lock (pe_lc (own := [("_law_a", 3), ("_law_b", 4)]) (by rfl) sc_near.nd (pi_values (pv 0)) (blkOk_by (own := [("_law_a", 3), ("_law_b", 4)]) (N := ["_law_entries", "_law_point", "_law_found", "_law_a", "_law_b"]) (sc := defScope s_near) (by decide +kernel)) (fun _ _ _ _ _ => (pg_tupK (K := K) (n := 2) rfl rfl (pgs_cons (pg_name (i := 3) sc_near.nd rfl (by first | exact Or.inl rfl | exact Or.inr rfl)) (pgs_cons (pg_name (i := 4) sc_near.nd rfl (by first | exact Or.inl rfl | exact Or.inr rfl)) pgs_nil)))) (fun _ _ _ _ _ => pts_one (pt_cmpR op_eq (pv 3) (pv 1) (nomark _))) (fun _ _ _ _ _ => (pv 4)))) (pe_lock (pe_lc (own := [("_law_a", 3), ("_law_b", 4)]) (by rfl) sc_near.nd (pi_values (pv 0)) (blkOk_by (own := [("_law_a", 3), ("_law_b", 4)]) (N := ["_law_entries", "_law_point", "_law_found", "_law_a", "_law_b"]) (sc := defScope s_near) (by decide +kernel)) (fun _ _ _ _ _ => (pg_tupK (K := K) (n := 2) rfl rfl (pgs_cons (pg_name (i := 3) sc_near.nd rfl (by first | exact Or.inl rfl | exact Or.inr rfl)) (pgs_cons (pg_name (i := 4) sc_near.nd rfl (by first | exact Or.inl rfl | exact Or.inr rfl)) pgs_nil)))) (fun _ _ _ _ _ => pts_one (pt_cmpR op_eq (pv 4) (pv 1) (nomark _))) (fun _ _ _ _ _ => (pv 3))))))
 (pss_one (ps_ret (pe_callB (cr_sortedSetSK (P := P) (w := w) rfl rfl rfl) (by rfl) T.b_sorted (by decide +kernel) (pa_cons (pe_callTy (call_setSK (K := K) (P := P) (w := w) rfl rfl rfl rfl) (by rfl) T.b_set (by decide +kernel) (pa_cons (pv 2) pa_nil)) pa_nil))))), ?_⟩
    have ln := he.len
    refine ⟨d, _, hd, trivial, fun od => ?_⟩
    have un : ∀ {H'}, Same (upd H d (.frz od (.dK kv))) H' → Same H (upd H' d (.dK kv)) := unlock hd
    have hd1 : (upd H d (.frz od (.dK kv))) d = some (.frz od (.dK kv)) := upd_same
    have he1 := he.tk (lock_tk (od := od) hd)
    generalize upd H d (.frz od (.dK kv)) = H1 at *
    refine ⟨_, rfl, d, od, kv, rfl, hd1, fun D hD => ?_⟩
    refine turns walk_values (fun i H' => Same H1 H' ∧ H' D = some (.lst ((((l.take i).filter fun e => decide (e.2.1 = x)).map (·.2.2)).map V.str))) ⟨Lb.Same.upd hD, upd_same⟩ (fun i H' _ b => b.1 _ _ hd1) ?_ ?_
    · rintro i v H2 H3 hi ⟨s2, eD⟩ ⟨rfl, k0, ek⟩
      obtain ⟨e, hel, ek2, t, rfl, ht⟩ := he1.get ek
      have ht2 := s2 _ _ ht
      refine ⟨t, _, rfl, SqT.of ht2, rfl, _, _, rfl, _, _, rfl, rfl, rfl, _, rfl, _, rfl, rfl, _, rfl, ?_⟩
      rw [show decide ((V.str e.2.1 : V) = V.str x) = decide (e.2.1 = x) by simp, ← take_snoc hel]
      by_cases hx : e.2.1 = x
      · rw [decide_eq_true hx, List.filter_append, List.filter_cons, if_pos (decide_eq_true hx), List.map_append, List.map_append]
        refine iteT ⟨_, rfl, _, eD, ?_, Lb.Same.updl s2 hD, upd_same⟩
        rw [List.length_map, List.length_map]
        exact szlt (Nat.le_trans (List.length_filter_le _ _) (by rw [List.length_take]; omega))
      · rw [decide_eq_false hx, List.filter_append, List.filter_cons, if_neg (by simp [hx]), List.filter_nil, List.append_nil]
        exact iteF ⟨s2, eD⟩
    · rintro H2 ⟨s2, eD⟩
      rw [ln, List.take_length] at eD
      refine ⟨s2 _ _ hd1, ?_⟩
      have ndD : D ≠ d := fun z => by rw [z, hd1] at hD; cases hD
      have u2 := un s2
      have eD2 : (upd H2 d (.dK kv)) D = some (.lst (((l.filter fun e => decide (e.2.1 = x)).map (·.2.2)).map V.str)) := by rw [upd_ne ndD]; exact eD
      have hd2 : (upd H2 d (.dK kv)) d = some (.dK kv) := upd_same
      have he2 := he.tk u2.tk
      clear un he1 s2 eD hd1
      generalize upd H2 d (.dK kv) = H3 at *
      refine ⟨d, _, hd2, trivial, fun od2 => ?_⟩
      have un : ∀ {H'}, Same (upd H3 d (.frz od2 (.dK kv))) H' → Same H3 (upd H' d (.dK kv)) := unlock hd2
      have hd1 : (upd H3 d (.frz od2 (.dK kv))) d = some (.frz od2 (.dK kv)) := upd_same
      have he1 := he2.tk (lock_tk (od := od2) hd2)
      generalize upd H3 d (.frz od2 (.dK kv)) = H4 at *
      refine ⟨_, rfl, d, od2, kv, rfl, hd1, fun D2 hD2 => ?_⟩
      refine turns walk_values (fun i H' => Same H4 H' ∧ H' D2 = some (.lst ((((l.take i).filter fun e => decide (e.2.2 = x)).map (·.2.1)).map V.str))) ⟨Lb.Same.upd hD2, upd_same⟩ (fun i H' _ b => b.1 _ _ hd1) ?_ ?_
      · rintro i v H5 H6 hi ⟨s2, eD⟩ ⟨rfl, k0, ek⟩
        obtain ⟨e, hel, ek2, t, rfl, ht⟩ := he1.get ek
        have ht2 := s2 _ _ ht
        refine ⟨t, _, rfl, SqT.of ht2, rfl, _, _, rfl, _, _, rfl, rfl, rfl, _, rfl, _, rfl, rfl, _, rfl, ?_⟩
        rw [show decide ((V.str e.2.2 : V) = V.str x) = decide (e.2.2 = x) by simp, ← take_snoc hel]
        by_cases hx : e.2.2 = x
        · rw [decide_eq_true hx, List.filter_append, List.filter_cons, if_pos (decide_eq_true hx), List.map_append, List.map_append]
          refine iteT ⟨_, rfl, _, eD, ?_, Lb.Same.updl s2 hD2, upd_same⟩
          rw [List.length_map, List.length_map]
          exact szlt (Nat.le_trans (List.length_filter_le _ _) (by rw [List.length_take]; omega))
        · rw [decide_eq_false hx, List.filter_append, List.filter_cons, if_neg (by simp [hx]), List.filter_nil, List.append_nil]
          exact iteF ⟨s2, eD⟩
      · rintro H5 ⟨s5, eD5⟩
        rw [ln, List.take_length] at eD5
        refine ⟨s5 _ _ hd1, ?_⟩
        have nd2 : D2 ≠ d := fun z => by rw [z, hd1] at hD2; cases hD2
        have u5 := un s5
        have eDa := u5 _ _ eD2
        have eDb : (upd H5 d (.dK kv)) D2 = some (.lst (((l.filter fun e => decide (e.2.2 = x)).map (·.2.1)).map V.str)) := by rw [upd_ne nd2]; exact eD5
        generalize upd H5 d (.dK kv) = H7 at *
        have ly := nbr_len l x
        have l8 := ded_len (nbr l x)
        have h1 := List.length_filter_le (fun e : En => decide (e.2.1 = x)) l
        have h2 := List.length_filter_le (fun e : En => decide (e.2.2 = x)) l
        refine ⟨D, D2, _, _, rfl, rfl, eDa, eDb, szle (by rw [List.length_map, List.length_map, List.length_map, List.length_map]; omega), fun c0 hc0 => ?_⟩
        have ec : (upd H7 c0 (.lst (((l.filter fun e => decide (e.2.1 = x)).map (·.2.2)).map V.str ++ ((l.filter fun e => decide (e.2.2 = x)).map (·.2.1)).map V.str))) c0 = some (.lst ((nbr l x).map V.str)) := by
          rw [upd_same]
          unfold nbr
          rw [List.map_append]
        refine ⟨_, rfl, c0, nbr l x, rfl, SqL.of ec, by omega, fun p1 hp1 => ⟨p1, _, rfl, upd_same, by omega, fun ys p2 perm so hp2 => ?_⟩⟩
        obtain rfl := srtS_of perm so
        have sA := ((u2.trans u5).trans (Lb.Same.upd hc0)).trans (Lb.Same.upd (o := SetS P w p1 (ded (nbr l x))) hp1)
        exact k _ p2 (sA.trans (Lb.Same.upd hp2)) (Lb.Same.free sA hp2) upd_same
theorem ok_beside (T : Txt K mg a) : FnOk P w K mg base CX0 1 a.f_beside a.d_beside ["_law_entries", "_law_one", "_law_other"] sp_beside := by
  refine T.F_beside.ok sc_beside (fun vs H Q E h => ?_) (fun cdv A outer s H vs Q E hr h => ?_)
  · obtain ⟨d, l, x, y, rfl, _⟩ := h
    rfl
  · obtain ⟨d, l, x, y, rfl, ⟨kv, hd, ekv⟩, G, hx, hy, k⟩ := h
    refine ⟨_, (pss_one (ps_ret (pe_lc (own := [("_law_word", 3)]) (by rfl) sc_beside.nd (pi_listK (K := K) rfl (pe_callB (call_sortedD rfl) (by rfl) T.b_sorted (by decide +kernel) (pa_cons (pv 0) pa_nil))) (blkOk_by (own := [("_law_word", 3)]) (N := ["_law_entries", "_law_one", "_law_other", "_law_word"]) (sc := defScope s_beside) (by decide +kernel)) (fun _ _ _ _ _ => (pg_name (i := 3) sc_beside.nd rfl (by first | exact Or.inl rfl | exact Or.inr rfl))) (fun _ _ _ _ _ => pts_one (pt_cmpR (op_inDT (K := K) rfl (hu65 hr)) (pe_dget (hu_of hr) (pv 0) (pv 3) (fun _ _ => rfl)) (pe_tup (pa_cons (pe_tup (pa_cons (pv 1) (pa_cons (pv 2) pa_nil))) (pa_cons (pe_tup (pa_cons (pv 2) (pa_cons (pv 1) pa_nil))) pa_nil))) rfl)) (fun _ _ _ _ _ => (pv 3))))), ?_⟩
    have lle := G.le
    have lnn : (srt (nmsOf l)).length = l.length := by rw [srt_len]; unfold nmsOf; rw [List.length_map]
    have ln2 : (nmsOf l).length = l.length := by unfold nmsOf; rw [List.length_map]
    refine ⟨_, rfl, d, kv, nmsOf l, rfl, .inl hd, ekv.keys, by omega, fun ys p6 perm so hp6 => ?_⟩
    obtain rfl := srt_of perm so
    have s0 : Same H (upd H p6 (.lst ((srt (nmsOf l)).map V.str))) := Lb.Same.upd hp6
    have e6 : (upd H p6 (.lst ((srt (nmsOf l)).map V.str))) p6 = some (.lst ((srt (nmsOf l)).map V.str)) := upd_same
    generalize upd H p6 (.lst ((srt (nmsOf l)).map V.str)) = H0 at *
    have hkv := s0 _ _ hd
    have ekv := ekv.tk s0.tk
    refine ⟨p6, rfl, ⟨_, SqL.of e6⟩, fun L hL => ?_⟩
    have hL0 := hL
    refine turns walk_list (fun i H' => Same H0 H' ∧ H' L = some (.lst ((((srt (nmsOf l)).take i).filter fun z => decide (getP l z = (x, y) ∨ getP l z = (y, x))).map V.str))) ⟨Lb.Same.upd hL, upd_same⟩ (fun i H' _ b => SqL.of (b.1 _ _ e6)) ?_ ?_
    · rintro i v H3 H2 hi ⟨s2, eL⟩ ⟨rfl, ev⟩
      rw [List.getElem?_map] at ev
      obtain ⟨z, hz, rfl⟩ : ∃ z, (srt (nmsOf l))[i]? = some z ∧ V.str z = v := by
        cases h : (srt (nmsOf l))[i]? with
        | none => rw [h] at ev; cases ev
        | some n => rw [h] at ev; exact ⟨n, rfl, by simpa using ev⟩
      obtain ⟨e, he⟩ := lookup_some (srt_mem.mp (List.mem_of_getElem? hz))
      have hge : getP l z = e := by unfold getP; rw [he]; rfl
      obtain ⟨u, hu, hv⟩ := ekv.val_some (z := z) (e := e) he
      have hg : DGet H2 d (.str z) (some u) := by rw [← hu]; exact DGet.k (k := Sum.inr z) (s2 _ _ hkv)
      refine ⟨rfl, _, rfl, _, rfl, d, u, rfl, hg, ?_⟩
      refine ⟨_, rfl, _, rfl, sz, fun t1 ht1 => ⟨_, rfl, _, rfl, sz, fun t2 ht2 => ⟨sz, fun t3 ht3 => ?_⟩⟩⟩
      have n12 : t1 ≠ t2 := fun z => by rw [← z, upd_same] at ht2; cases ht2
      have s12 : Same H2 (upd (upd H2 t1 (.tup [.str x, .str y])) t2 (.tup [.str y, .str x])) := (Lb.Same.upd ht1).trans (Lb.Same.upd ht2)
      have f1 : (upd (upd H2 t1 (.tup [.str x, .str y])) t2 (.tup [.str y, .str x])) t1 = some (.tup [.str x, .str y]) := by rw [upd_ne n12, upd_same]
      have f2 : (upd (upd H2 t1 (.tup [.str x, .str y])) t2 (.tup [.str y, .str x])) t2 = some (.tup [.str y, .str x]) := upd_same
      generalize upd (upd H2 t1 (.tup [.str x, .str y])) t2 (.tup [.str y, .str x]) = H4 at *
      have s3 := Lb.Same.upd (o := .tup [.ref t1, .ref t2]) ht3
      have f3 : (upd H4 t3 (.tup [.ref t1, .ref t2])) t3 = some (.tup [.ref t1, .ref t2]) := upd_same
      generalize upd H4 t3 (.tup [.ref t1, .ref t2]) = H5 at *
      have sA := (s2.trans s12).trans s3
      have sh : SeqAt.shaped (.tuple [tupD (x, y), tupD (y, x)]) = true := by
        unfold SeqAt.shaped tupD
        rw [Bool.and_eq_true]
        refine ⟨?_, ?_⟩
        · simp [PyData.canLay0, PyData.canLayAll0, nm_ok hx, nm_ok hy]
        · simp [PyData.depth, PyData.depthAll]
      have hem := G.nm _ (mem_lookup he)
      have dv : Dp K H5 u (tupD e) := dp_vEn (hv.tk ((s2.tk.trans s12.tk).trans s3.tk))
      refine ⟨tupD e, [tupD (x, y), tupD (y, x)], dv, .tup (SqT.of f3) (.cons (.tup (SqT.of (s3 _ _ f1)) (.cons (.str _) (.cons (.str _) .nil))) (.cons (.tup (SqT.of (s3 _ _ f2)) (.cons (.str _) (.cons (.str _) .nil))) .nil)), shaped_tupD hem.2.1 hem.2.2.1, sh, _, rfl, ?_⟩
      rw [show ([tupD (x, y), tupD (y, x)].any fun z => PyData.eqv z (tupD e)) = decide (getP l z = (x, y) ∨ getP l z = (y, x)) by
        simp only [List.any_cons, List.any_nil, Bool.or_false, eqv_tupD, hge]
        rw [Bool.eq_iff_iff]
        simp only [Bool.or_eq_true, decide_eq_true_eq]
        exact or_congr eq_comm eq_comm]
      have eL5 := (s12.trans s3) _ _ eL
      rw [← take_snoc hz]
      by_cases hc : getP l z = (x, y) ∨ getP l z = (y, x)
      · rw [decide_eq_true hc, List.filter_append, List.filter_cons, if_pos (decide_eq_true hc), List.map_append]
        refine iteT ⟨_, rfl, _, eL5, ?_, Lb.Same.updl sA hL, upd_same⟩
        rw [List.length_map]
        exact szlt (Nat.le_trans (List.length_filter_le _ _) (by rw [List.length_take]; omega))
      · rw [decide_eq_false hc, List.filter_append, List.filter_cons, if_neg (by simpa using hc), List.filter_nil, List.append_nil]
        exact iteF ⟨sA, eL5⟩
    · rintro H2 ⟨s2, eL⟩
      rw [List.length_map, List.take_length] at eL
      exact k _ L (s0.trans s2) (Lb.Same.free s0 hL) eL
end
end K20

set_option Elab.async false
set_option linter.all false
set_option maxRecDepth 100000
set_option maxHeartbeats 4000000
/-! list(zip(a, b)): a, b two lists -/
namespace LbZL
open PySem PyProof.Rows

section
variable {prog : Program} {w : World} {A : Around} {E : Value → Shared → Prop} {s : Shared}
/-- one step of a zip of tuples whose last pair is still held -/
theorem heldT_item {z TI TO T i1 i2 l1 l2 : Addr} {f : Bool} {oT : Obj} {k : Nat} {xs ys : Array Value} {x y : Value} {Q : Option Value → Shared → Prop} (D : ZipApart z TI TO i1 i2 l1 l2)
    (hz : IsZipHeld s.heap z TI TO T f) (hT : s.heap.get? T = some oT) (hTI : IsPair s.heap TI (.ref i1) (.ref i2))
    (j1 : s.heap.IsListIter i1 l1 k) (j2 : s.heap.IsListIter i2 l2 k) (t1 : s.heap.IsList l1 xs) (t2 : s.heap.IsList l2 ys) (hx : xs[k]? = some x) (hy : ys[k]? = some y)
    (go : ∀ h', IsZipHeld h' z TI TO T true → h'.IsListIter i1 l1 (k + 1) → h'.IsListIter i2 l2 (k + 1) → IsPair h' s.heap.objs.size x y →
      (∀ c o, c ≠ z → c ≠ i1 → c ≠ i2 → s.heap.get? c = some o → h'.get? c = some o) → Q (some (.ref s.heap.objs.size)) { s with heap := h' }) :
    wpAny (model prog w) A (pyNext (.ref z)) Q E s := by
  have ty : s.TypeIs (.ref z) "zip" := ⟨_, hz, rfl⟩
  unfold pyNext
  refine wpAny_bind (wpAny_attempt (wpAny_callSpecial?_slot (name := Str.ofString "__next__") ty F.slot_zip_next (wpAny_call_entry F.slot_zip_next ty F.entry_zip_next ?_ (F.args_zip_next_1 _))))
  show wpAny _ _ (field (.ref z) 2 >>= _) _ _ _
  refine wpAny_bind (wpAny_field hz rfl (x := .bool false) rfl ?_)
  show wpAny _ _ (field (.ref z) 3 >>= _) _ _ _
  refine wpAny_bind (wpAny_field hz rfl (x := .ref TI) rfl (wpAny_bind (wpAny_seqItems hTI rfl ?_)))
  show wpAny _ _ (Builtin.SmallTypes.ownedTupleIsFree (.ref z) >>= _) _ _ _
  refine wpAny_bind (wpAny_tupleHeld_zip hz hT fun ha za sa => ?_)
  simp only [Bool.false_eq_true, if_false]
  refine wpAny_bind ?_
  rw [← Array.forIn_toList]
  simp only [List.forIn_cons, List.forIn_nil]
  refine wpAny_bind (wpAny_bind (wpAny_holding ?_))
  show wpAny _ _ (Builtin.SmallTypes.nextOf (.ref i1) >>= _) _ _ _
  refine wpAny_bind (wpAny_nextOf_list_item (s := { s with heap := ha }) (j1.extBut sa.extBut D.i1z) (t1.extBut sa.extBut D.l1z) hx fun hb j1b sb => wpAny_pure (wpAny_pure ?_))
  refine wpAny_bind (wpAny_bind (wpAny_holding ?_))
  show wpAny _ _ (Builtin.SmallTypes.nextOf (.ref i2) >>= _) _ _ _
  refine wpAny_bind (wpAny_nextOf_list_item (s := { s with heap := hb }) ((j2.extBut sa.extBut D.i2z).extBut sb.extBut D.i12.symm) ((t2.extBut sa.extBut D.l2z).extBut sb.extBut D.l2i1) hy fun hc j2c sc => wpAny_pure (wpAny_pure (wpAny_pure ?_)))
  show wpAny _ _ (newTuple [x, y] >>= _) _ _ _
  refine wpAny_bind (wpAny_newTuple (wpAny_pure ⟨_, rfl, wpAny_pure ?_⟩))
  have sz : hc.objs.size = s.heap.objs.size := by rw [sc.1, sb.1, sa.1]
  have zc : IsZipHeld hc z TI TO T true := sc.extBut _ _ D.i2z.symm (sb.extBut _ _ D.i1z.symm za)
  have j1c : hc.IsListIter i1 l1 (k + 1) := j1b.extBut sc.extBut D.i12
  have pr : IsPair (hc.push { cls := .type "tuple", data := .seq #[x, y] }) hc.objs.size x y := Heap.get?_push_size _ rfl
  show Q (some (.ref hc.objs.size)) _
  rw [sz] at pr ⊢
  exact go _ (Heap.get?_push_of_some _ zc) (j1c.at fun o e => Heap.get?_push_of_some _ e) (j2c.at fun o e => Heap.get?_push_of_some _ e) pr
    fun c o n1 n2 n3 e => Heap.get?_push_of_some _ (sc.extBut _ _ n3 (sb.extBut _ _ n2 (sa.extBut _ _ n1 e)))
theorem heldT_end {z TI TO T i1 i2 l1 l2 : Addr} {f : Bool} {oT : Obj} {k : Nat} {xs ys : Array Value} {Q : Option Value → Shared → Prop} (hh : A.handled = none) (D : ZipApart z TI TO i1 i2 l1 l2)
    (hz : IsZipHeld s.heap z TI TO T f) (hT : s.heap.get? T = some oT) (hTI : IsPair s.heap TI (.ref i1) (.ref i2))
    (j1 : s.heap.IsListIter i1 l1 k) (j2 : s.heap.IsListIter i2 l2 k) (t1 : s.heap.IsList l1 xs) (t2 : s.heap.IsList l2 ys) (over : xs[k]? = none ∨ ys[k]? = none)
    (go : ∀ h', (∀ c o, c ≠ z → c ≠ i1 → c ≠ i2 → s.heap.get? c = some o → h'.get? c = some o) → Q none { s with heap := h' }) : wpAny (model prog w) A (pyNext (.ref z)) Q E s := by
  have ty : s.TypeIs (.ref z) "zip" := ⟨_, hz, rfl⟩
  have out : ∀ h' e, (∀ c o, c ≠ z → c ≠ i1 → c ≠ i2 → s.heap.get? c = some o → h'.get? c = some o) → (∃ o, h'.get? e = some o ∧ o.cls = .type "StopIteration") →
      wpAny (model prog w) A (do if ← isInstance (.ref e) (.type "StopIteration") then pure (none : Option Value) else throw (.ref e)) Q E { s with heap := h' } := fun h' e hk ⟨o, ho, hc⟩ =>
    wpAny_bind (wpAny_isInstance (T := "StopIteration") (b := true) ⟨o, ho, hc⟩ isSubtype_stop (wpAny_pure (go _ hk)))
  unfold pyNext
  refine wpAny_bind (wpAny_attempt (wpAny_callSpecial?_slot (name := Str.ofString "__next__") ty F.slot_zip_next (wpAny_call_entry F.slot_zip_next ty F.entry_zip_next ?_ (F.args_zip_next_1 _))))
  show wpAny _ _ (field (.ref z) 2 >>= _) _ _ _
  refine wpAny_bind (wpAny_field hz rfl (x := .bool false) rfl ?_)
  show wpAny _ _ (field (.ref z) 3 >>= _) _ _ _
  refine wpAny_bind (wpAny_field hz rfl (x := .ref TI) rfl (wpAny_bind (wpAny_seqItems hTI rfl ?_)))
  show wpAny _ _ (Builtin.SmallTypes.ownedTupleIsFree (.ref z) >>= _) _ _ _
  refine wpAny_bind (wpAny_tupleHeld_zip hz hT fun ha za sa => ?_)
  simp only [Bool.false_eq_true, if_false]
  refine wpAny_bind ?_
  rw [← Array.forIn_toList]
  simp only [List.forIn_cons, List.forIn_nil]
  refine wpAny_bind (wpAny_bind (wpAny_holding ?_))
  show wpAny _ _ (Builtin.SmallTypes.nextOf (.ref i1) >>= _) _ _ _
  cases hx : xs[k]? with
  | none =>
    refine wpAny_bind (wpAny_nextOf_list_end (s := { s with heap := ha }) hh (j1.extBut sa.extBut D.i1z) (t1.extBut sa.extBut D.l1z) hx fun hb e sb he => ?_)
    exact out hb e (fun c o n1 n2 _ q => sb _ _ n2 (sa.extBut _ _ n1 q)) he
  | some x =>
    have hy : ys[k]? = none := by
      rcases over with h | h
      · rw [hx] at h; cases h
      · exact h
    refine wpAny_bind (wpAny_nextOf_list_item (s := { s with heap := ha }) (j1.extBut sa.extBut D.i1z) (t1.extBut sa.extBut D.l1z) hx fun hb j1b sb => wpAny_pure (wpAny_pure ?_))
    refine wpAny_bind (wpAny_bind (wpAny_holding ?_))
    show wpAny _ _ (Builtin.SmallTypes.nextOf (.ref i2) >>= _) _ _ _
    refine wpAny_bind (wpAny_nextOf_list_end (s := { s with heap := hb }) hh ((j2.extBut sa.extBut D.i2z).extBut sb.extBut D.i12.symm) ((t2.extBut sa.extBut D.l2z).extBut sb.extBut D.l2i1) hy fun hc e sc he => ?_)
    exact out hc e (fun c o n1 n2 n3 q => sc _ _ n3 (sb.extBut _ _ n2 (sa.extBut _ _ n1 q))) he
end
end LbZL
namespace Lb
open PySem PySem.Spec PyProof.Rows L2
/-- how a zip of the tuples at a and b stands before its turn i -/
structure ZStL (H : Hp) (h : Heap) (z TI TO i1 i2 a b : Addr) (i : Nat) : Prop where
  zip : IsZip h z TI TO .none ∨ ∃ T fl ys, IsZipHeld h z TI TO T fl ∧ H T = some (.tup ys)
  ti : IsPair h TI (.ref i1) (.ref i2)
  to : ∃ x y, IsPair h TO x y
  j1 : h.IsListIter i1 a i
  j2 : h.IsListIter i2 b i
theorem ZStL.live {H : Hp} {h : Heap} {z TI TO i1 i2 a b c : Addr} {i : Nat} (st : ZStL H h z TI TO i1 i2 a b i) (hc : c ∈ [z, TI, TO, i1, i2]) : ∃ o, h.get? c = some o := by
  simp only [List.mem_cons, List.not_mem_nil, or_false] at hc
  rcases hc with rfl | rfl | rfl | rfl | rfl
  · rcases st.zip with h | ⟨_, _, _, h, _⟩
    · exact ⟨_, h⟩
    · exact ⟨_, h⟩
  · exact ⟨_, st.ti⟩
  · obtain ⟨_, _, e⟩ := st.to
    exact ⟨_, e⟩
  · obtain ⟨o, e, _⟩ := st.j1
    exact ⟨o, e⟩
  · obtain ⟨o, e, _⟩ := st.j2
    exact ⟨o, e⟩
section
variable {X : Cx} {pins : List (Addr × Obj)} {σ : L2.St} {H : Hp} {s : Shared} {z TI TO i1 i2 a b q : Addr} {i : Nat} {xs ys : List V} {A : Around} {E : Value → Shared → Prop}
theorem zip_turnL {x y : V} (D : ZipApart z TI TO i1 i2 a b) (I : Inv X pins σ H s) (hf : Chain X pins H z TI TO i1 i2) (st : ZStL H s.heap z TI TO i1 i2 a b i)
    (qx : SqL X.K H a xs) (qy : SqL X.K H b ys) (hx : xs[i]? = some x) (hy : ys[i]? = some y) :
    wpAny (model X.prog X.w) A (pyNext (.ref z)) (fun r s' => ∃ T, r = some (.ref T) ∧ H T = none ∧ Inv X pins σ (L2.upd H T (.tup [x, y])) s' ∧ ZStL (L2.upd H T (.tup [x, y])) s'.heap z TI TO i1 i2 a b (i + 1) ∧ Chain X pins (L2.upd H T (.tup [x, y])) z TI TO i1 i2) E s := by
  obtain ⟨its, rv, p, _⟩ := I.list qx
  obtain ⟨its2, rv2, p2, _⟩ := I.list qy
  obtain ⟨u, hu, ru⟩ := rv.get hx
  obtain ⟨u2, hu2, ru2⟩ := rv2.get hy
  have fr : H s.heap.objs.size = none := I.hok.fresh (Nat.le_refl _)
  have chain : Chain X pins (L2.upd H s.heap.objs.size (.tup [x, y])) z TI TO i1 i2 := fun c hc =>
    let ⟨o, e⟩ := st.live hc
    FpOk.other (hf c hc) (by rw [upd_ne (Nat.ne_of_lt (Heap.lt_size e))]; exact (hf c hc).1)
  have new : ∀ {h' : Heap}, IsPair h' s.heap.objs.size u u2 → ObjOk X.prog X.w (L2.upd H s.heap.objs.size (.tup [x, y])) h' s.heap.objs.size (.tup [x, y]) := fun hT =>
    ⟨by show 2 ≤ sizeLine; decide, [u, u2], .cons ru (.cons ru2 .nil), ⟨_, hT, rfl, _, rfl⟩⟩
  obtain ⟨v, w, hTO⟩ := st.to
  rcases st.zip with hz | ⟨T, fl, zs, hz, hT⟩
  · refine wpAny_pyNext_zip_item D hz st.ti hTO st.j1 st.j2 p.isList p2.isList (x := u) (y := u2) (by simpa using hu) (by simpa using hu2) fun h' z' TO' k1 k2 hN _ hk => ?_
    have I1 : Inv X pins σ (L2.upd H s.heap.objs.size (.tup [x, y])) { s with heap := h' } :=
      I.turnedNew (t' := s.toks) (ch := [z, TI, TO, i1, i2]) (fun c o hb e => hk c o (fun e' => hb (by simp [e'])) (fun e' => hb (by simp [e'])) (fun e' => hb (by simp [e'])) (fun e' => hb (by simp [e'])) e) hf (Nat.le_refl _) (new hN)
    exact ⟨_, rfl, fr, I1, ⟨.inr ⟨_, false, _, z', upd_same⟩, hk _ _ D.TIz D.TITO D.TIi1 D.TIi2 st.ti, ⟨_, _, TO'⟩, k1, k2⟩, chain⟩
  · obtain ⟨_, _, _, oT, hoT, _⟩ := I.hok T _ hT
    refine LbZL.heldT_item D hz hoT st.ti st.j1 st.j2 p.isList p2.isList (x := u) (y := u2) (by simpa using hu) (by simpa using hu2) fun h' z' k1 k2 hN hk => ?_
    have I1 : Inv X pins σ (L2.upd H s.heap.objs.size (.tup [x, y])) { s with heap := h' } :=
      I.turnedNew (t' := s.toks) (ch := [z, TI, TO, i1, i2]) (fun c o hb e => hk c o (fun e' => hb (by simp [e'])) (fun e' => hb (by simp [e'])) (fun e' => hb (by simp [e'])) e) hf (Nat.le_refl _) (new hN)
    exact ⟨_, rfl, fr, I1, ⟨.inr ⟨T, true, zs, z', by rw [upd_ne (ne_of_none hT fr)]; exact hT⟩, hk _ _ D.TIz D.TIi1 D.TIi2 st.ti, ⟨_, _, hk _ _ D.TOz D.TOi1 D.TOi2 hTO⟩, k1, k2⟩, chain⟩
theorem zip_overL (hh : A.handled = none) (D : ZipApart z TI TO i1 i2 a b) (I : Inv X pins σ H s) (hf : Chain X pins H z TI TO i1 i2) (st : ZStL H s.heap z TI TO i1 i2 a b i)
    (qx : SqL X.K H a xs) (qy : SqL X.K H b ys) (over : xs.length ≤ i ∨ ys.length ≤ i) :
    wpAny (model X.prog X.w) A (pyNext (.ref z)) (fun r s' => r = none ∧ Inv X pins σ H s') E s := by
  obtain ⟨its, rv, p, _⟩ := I.list qx
  obtain ⟨its2, rv2, p2, _⟩ := I.list qy
  have l1 := rv.length
  have l2 := rv2.length
  have he : its.toArray[i]? = none ∨ its2.toArray[i]? = none := by
    rcases over with q | q
    · exact .inl (by simp; omega)
    · exact .inr (by simp; omega)
  obtain ⟨v, w, hTO⟩ := st.to
  rcases st.zip with hz | ⟨T, fl, zs, hz, hT⟩
  · exact wpAny_pyNext_zip_end hh D hz st.ti hTO st.j1 st.j2 p.isList p2.isList he fun h' hk => ⟨rfl, I.turnedL (t' := s.toks) (ch := [z, TI, TO, i1, i2]) (fun c o hb e =>
      hk c o (fun e' => hb (by simp [e'])) (fun e' => hb (by simp [e'])) (fun e' => hb (by simp [e'])) (fun e' => hb (by simp [e'])) e) hf⟩
  · obtain ⟨_, _, _, oT, hoT, _⟩ := I.hok T _ hT
    exact LbZL.heldT_end hh D hz hoT st.ti st.j1 st.j2 p.isList p2.isList he fun h' hk => ⟨rfl, I.turnedL (t' := s.toks) (ch := [z, TI, TO, i1, i2]) (fun c o hb e =>
      hk c o (fun e' => hb (by simp [e'])) (fun e' => hb (by simp [e'])) (fun e' => hb (by simp [e'])) e) hf⟩
theorem zip_loopL {Rs : Result → Shared → Prop} {A1 : Around} {H0 : Hp} (hh : A1.in1.handled = none) (D : ZipApart z TI TO i1 i2 a b) (l1 : xs.length ≤ 10000) (qa : a ≠ q) (qb : b ≠ q)
    (hdone : ∀ H' s' ts, Inv X pins σ H' s' → H' q = some (.lst (ts.map V.ref)) → Paired (PairAt H') ts (xs.zip ys) → (∀ c o, c ≠ q → H0 c = some o → H' c = some o) → Rs (.ok (.ret .none)) s') (herr : ∀ e s, X.xe e s → Rs (.error e) s) (qx0 : SqL X.K H0 a xs) (qy0 : SqL X.K H0 b ys) :
    ∀ (m i : Nat) (H : Hp) (s : Shared) (ts : List Addr), min xs.length ys.length - i = m → i ≤ min xs.length ys.length → Inv X pins σ H s → Chain X pins H z TI TO i1 i2 → ZStL H s.heap z TI TO i1 i2 a b i →
      H q = some (.lst (ts.map V.ref)) → Paired (PairAt H) ts ((xs.zip ys).take i) → (∀ c o, c ≠ q → H0 c = some o → H c = some o) →
      codeAny (model X.prog X.w) A1 (.builtin "list.extend.loop" ⟨[.ref q, .ref z, .none], []⟩) Rs s := by
  have sqk : ∀ {H : Hp} {c : Addr} {zs : List V}, c ≠ q → (∀ c o, c ≠ q → H0 c = some o → H c = some o) → SqL X.K H0 c zs → SqL X.K H c zs := fun n k h =>
    h.elim (fun h => .inl (h.elim (fun h => .inl (k _ _ n h)) fun ⟨o, h⟩ => .inr ⟨o, k _ _ n h⟩)) fun h => .inr h
  intro m
  induction m with
  | zero =>
    intro i H s ts hm hi I hf st hq pt kp
    refine codeAny_builtin PySem.F.entry_extend_loop ?_
    rw [Around.under_plainId PySem.F.plain_extend_loop _]
    show wpAny _ A1.in1 (pyNext (.ref z) >>= _) _ _ s
    refine wpAny_bind (wpAny_mono (zip_overL hh D I hf st (sqk qa kp qx0) (sqk qb kp qy0) (by omega)) (fun r s' hr => ?_) fun e s' he => herr e s' he)
    obtain ⟨rfl, I'⟩ := hr
    rw [List.take_of_length_le (by rw [List.length_zip]; omega)] at pt
    exact wpAny_pure (hdone H s' ts I' hq pt kp)
  | succ m ih =>
    intro i H s ts hm hi I hf st hq pt kp
    refine codeAny_builtin PySem.F.entry_extend_loop ?_
    rw [Around.under_plainId PySem.F.plain_extend_loop _]
    show wpAny _ A1.in1 (pyNext (.ref z) >>= _) _ _ s
    have h1 : i < xs.length := by omega
    have h2 : i < ys.length := by omega
    have hx := List.getElem?_eq_getElem h1
    have hy := List.getElem?_eq_getElem h2
    refine wpAny_bind (wpAny_mono (zip_turnL D I hf st (sqk qa kp qx0) (sqk qb kp qy0) hx hy) (fun r s' hr => ?_) fun e s' he => herr e s' he)
    obtain ⟨T, rfl, hT, I', st', hf'⟩ := hr
    show wpAny _ A1.in1 (updateSeq q (·.push (.ref T)) >>= _) _ _ _
    have hq' : (L2.upd H T (.tup [xs[i], ys[i]])) q = some (.lst (ts.map V.ref)) := by rw [upd_ne (ne_of_none hq hT)]; exact hq
    have ht : ts.length = i := by
      have := Paired.len pt
      rw [List.length_take, List.length_zip] at this
      omega
    obtain ⟨zz, its, k, r2, hl, e⟩ := I'.lstM hq'
    have hl' : its.length = i := by rw [← hl, List.length_map, ht]
    have sl : sizeLine = 16777216 := by decide
    refine wpAny_bind (wpAny_updateSeq e rfl (wpAny_pure ⟨plainId_quiet PySem.F.plain_extend_loop _, ?_⟩) (by rw [List.size_toArray]; omega) (by show (its.toArray.push (.ref T)).size ≤ sizeLine + 1; rw [Array.size_push, List.size_toArray]; omega))
    have I2 := I'.lset (f := (·.push (.ref T))) (its' := its ++ [.ref T]) (ys := (ts ++ [T]).map V.ref) (t' := s'.toks) hq' e (by simp) (by rw [List.map_append]; exact r2.append (.cons rfl .nil)) (by rw [List.length_map, List.length_append]; show ts.length + 1 ≤ _; omega)
    have nc : ∀ c ∈ [z, TI, TO, i1, i2], c ≠ q := fun c hc e' => by
      have := (hf c hc).1
      rw [e', hq] at this
      cases this
    have keep : ∀ c o, c ≠ q → s'.heap.get? c = some o → (s'.heap.update q (Obj.mapSeq (·.push (.ref T)))).get? c = some o := fun c o n e' => (Heap.get?_update_other _ _ (Ne.symm n)).trans e'
    have st2 : ZStL (L2.upd (L2.upd H T (.tup [xs[i], ys[i]])) q (.lst ((ts ++ [T]).map V.ref))) (s'.heap.update q (Obj.mapSeq (·.push (.ref T)))) z TI TO i1 i2 a b (i + 1) := by
      refine ⟨?_, keep _ _ (nc TI (by simp)) st'.ti, let ⟨v, w, e'⟩ := st'.to; ⟨v, w, keep _ _ (nc TO (by simp)) e'⟩, st'.j1.at fun o e' => keep _ _ (nc i1 (by simp)) e', st'.j2.at fun o e' => keep _ _ (nc i2 (by simp)) e'⟩
      rcases st'.zip with hz | ⟨T1, fl, zs, hz, h1'⟩
      · exact .inl (keep _ _ (nc z (by simp)) hz)
      · refine .inr ⟨T1, fl, zs, keep _ _ (nc z (by simp)) hz, ?_⟩
        have : T1 ≠ q := fun e' => by
          rw [e', hq'] at h1'
          cases h1'
        rw [upd_ne this]
        exact h1'
    have up2 : ∀ c o, c ≠ q → H c = some o → (L2.upd (L2.upd H T (.tup [xs[i], ys[i]])) q (.lst ((ts ++ [T]).map V.ref))) c = some o := fun c o n e' => by
      rw [upd_ne n, upd_ne (ne_of_none e' hT)]
      exact e'
    have nT : T ≠ q := fun e' => by
      rw [e', hq] at hT
      cases hT
    refine ih (i + 1) _ _ (ts ++ [T]) (by omega) (by omega) I2 (fun c hc => FpOk.other (hf' c hc) (by rw [upd_ne (nc c hc)]; exact (hf' c hc).1)) st2 upd_same ?_ (fun c o n e' => up2 c o n (kp c o n e'))
    have hz : (xs.zip ys)[i]? = some (xs[i], ys[i]) := by
      rw [List.getElem?_zip_eq_some]
      exact ⟨hx, hy⟩
    rw [List.take_succ, hz]
    refine Paired.snoc (F := PairAt _) ?_ (Paired.imp pt fun t p h => up2 _ _ (fun e' => ?_) h)
    · show (L2.upd (L2.upd H T (.tup [xs[i], ys[i]])) q (.lst ((ts ++ [T]).map V.ref))) T = _
      rw [upd_ne nT, upd_same]
    · have h : H t = some (.tup [p.1, p.2]) := h
      rw [e', hq] at h
      cases h
/-- list(zip(a, b)) of two tuples -/
def tListZipL (K : PySem.W.Frag) (ta : TA) : TE := fun σ H Q => ta σ H fun vs H1 => ∃ a b xs ys, vs = [.ref a, .ref b] ∧ SqL K H1 a xs ∧ SqL K H1 b ys ∧ xs.length ≤ 10000 ∧
  ∀ H' q ts, L2.Same H1 H' → H1 q = none → H' q = some (.lst (ts.map V.ref)) → Paired (PairAt H') ts (xs.zip ys) → Q (.ref q) H'
theorem call_zip_itL {Q : VK} (hh : X.A.handled = none) (D : ZipApart z TI TO i1 i2 a b) (l1 : xs.length ≤ 10000) (I : Inv X pins σ H s) (hf : Chain X pins H z TI TO i1 i2) (hz0 : IsZip s.heap z TI TO .none) (st : ZStL H s.heap z TI TO i1 i2 a b 0)
    (qx : SqL X.K H a xs) (qy : SqL X.K H b ys) (go : ∀ H' q ts, L2.Same H H' → H q = none → H' q = some (.lst (ts.map V.ref)) → Paired (PairAt H') ts (xs.zip ys) → Q (.ref q) H') :
    wpAny (model X.prog X.w) X.A (call (.type "list") [.ref z]) (EP X pins σ Q) X.xe s := by
  refine callType_codes (Q₁ := fun obj s₁ => obj = .ref s.heap.objs.size ∧ s₁ = { s with heap := s.heap.push { cls := .type "list", data := .seq #[] } }) PySem.F.called_list (PySem.F.typeCall_list_1 _) PySem.F.entry_list_init
    (code_list_new _ ⟨rfl, rfl⟩) fun obj s₁ h₁ => ?_
  obtain ⟨rfl, rfl⟩ := h₁
  have hS : (s.heap.push { cls := .type "list", data := .seq #[] }).get? s.heap.objs.size = some { cls := .type "list", data := .seq #[] } := Heap.get?_push_size _ rfl
  refine ⟨⟨_, hS, rfl⟩, PySem.F.args_list_init_2 _ _, ?_⟩
  have fr : H s.heap.objs.size = none := I.hok.fresh (Nat.le_refl _)
  have ns : ∀ c ∈ [z, TI, TO, i1, i2], c ≠ s.heap.objs.size := fun c hc => let ⟨o, e⟩ := st.live hc; Nat.ne_of_lt (Heap.lt_size e)
  have la : a ≠ s.heap.objs.size ∧ b ≠ s.heap.objs.size := by
    obtain ⟨its, rv, pa, _⟩ := I.list qx
    obtain ⟨its2, rv2, pb, _⟩ := I.list qy
    exact ⟨Nat.ne_of_lt pa.lt, Nat.ne_of_lt pb.lt⟩
  have I1 : Inv X pins σ (L2.upd H s.heap.objs.size (.lst [])) { s with heap := s.heap.push { cls := .type "list", data := .seq #[] } } := I.lnew (its := []) (t' := s.toks) .nil (Nat.zero_le _)
  generalize hq : s.heap.objs.size = q at *
  show wpAny _ _ (do let old ← Builtin.List.listItems (.ref q); Builtin.List.listUpdate (.ref q) (fun _ => #[]); letGo old.toList.reverse; Builtin.List.listExtendWith (.ref q) (.ref z) .none) _ _ _
  refine wpAny_bind ?_
  unfold Builtin.List.listItems
  refine wpAny_bind (wpAny_seqItems hS rfl (wpAny_pure ?_))
  show wpAny _ _ (updateSeq q (fun _ => #[]) >>= fun _ => letGo (#[] : Array Value).toList.reverse >>= fun _ => Builtin.List.listExtendWith (.ref q) (.ref z) .none) _ _ _
  refine wpAny_bind (wpAny_updateSeq hS rfl ?_)
  have I2 := I1.lset (f := fun _ => #[]) (its := []) (its' := []) (ys := []) (t' := s.toks) upd_same hS rfl .nil (Nat.zero_le _)
  rw [upd_upd] at I2
  refine wpAny_bind (wpAny_letGo ?_)
  have nz : z ≠ q := ns z (by simp)
  unfold Builtin.List.listExtendWith
  have keep2 : ∀ c o, c ≠ q → s.heap.get? c = some o → ((s.heap.push { cls := .type "list", data := .seq #[] }).update q (Obj.mapSeq fun _ => #[])).get? c = some o := fun c o n e => (Heap.get?_update_other _ _ (Ne.symm n)).trans (Heap.get?_push_of_some _ e)
  have zty : Shared.TypeIs { s with heap := (s.heap.push { cls := .type "list", data := .seq #[] }).update q (Obj.mapSeq fun _ => #[]) } (.ref z) "zip" := ⟨_, keep2 _ _ nz hz0, rfl⟩
  refine wpAny_bind (wpAny_typeOf zty ?_)
  have g1 : Builtin.List.listSameRef (.ref q) (.ref z) = false := by simp [Builtin.List.listSameRef, nz.symm]
  have g2 : (Value.type "zip" == Value.type "list") = false := by decide
  have g3 : (Value.type "zip" == Value.type "tuple") = false := by decide
  simp only [g1, g2, g3, Bool.or_false, Bool.false_eq_true, if_false]
  refine wpAny_bind (wpAny_pyIter_zip (keep2 _ _ nz hz0) ?_)
  refine wpAny_bind (wpAny_holding ?_)
  unfold Builtin.List.listLengthHint
  refine wpAny_bind (wpAny_specialOf zty LbZ.zip_no_len ?_)
  show wpAny _ _ (specialOf (Value.ref z) (Str.ofString "__length_hint__") >>= _) _ _ _
  refine wpAny_bind (wpAny_specialOf zty LbZ.zip_no_hint (wpAny_pure ?_))
  obtain ⟨_, its3, k3, r3, _, e3⟩ := I2.lstM upd_same
  cases r3
  show wpAny _ _ (rule "list.extend.makes-room" >>= fun _ => Builtin.List.listTouch (.ref q) >>= fun _ => again (.builtin "list.extend.loop" ⟨[.ref q, .ref z, .none], []⟩)) _ _ _
  refine wpAny_bind (wpAny_rule (wpAny_bind ?_))
  show wpAny _ _ (updateSeq q (·.push .none) >>= fun _ => updateSeq q (·.pop)) _ _ _
  refine wpAny_bind (wpAny_updateSeq e3 rfl ?_)
  have I3 := I2.lset (f := (·.push Value.none)) (its' := [Value.none]) (ys := [.non]) (t' := s.toks) upd_same e3 (by simp) (.cons rfl .nil) (by decide)
  obtain ⟨_, its4, k4, r4, _, e4⟩ := I3.lstM upd_same
  obtain ⟨u4, rfl, _⟩ := r4.one
  refine wpAny_updateSeq e4 rfl ?_ (by show 1 ≤ sizeLine; decide) (by show 0 ≤ sizeLine + 1; exact Nat.zero_le _)
  have I4 := I3.lset (f := (·.pop)) (its := [u4]) (its' := []) (ys := []) (t' := s.toks) upd_same e4 (by rfl) .nil (Nat.zero_le _)
  rw [upd_upd, upd_upd] at I4
  have keep4 : ∀ c o, c ≠ q → s.heap.get? c = some o → ((((s.heap.push { cls := .type "list", data := .seq #[] }).update q (Obj.mapSeq fun _ => #[])).update q (Obj.mapSeq (·.push Value.none))).update q (Obj.mapSeq (·.pop))).get? c = some o := fun c o n e =>
    (Heap.get?_update_other _ _ (Ne.symm n)).trans ((Heap.get?_update_other _ _ (Ne.symm n)).trans (keep2 c o n e))
  have st4 : ZStL (L2.upd H q (.lst [])) ((((s.heap.push { cls := .type "list", data := .seq #[] }).update q (Obj.mapSeq fun _ => #[])).update q (Obj.mapSeq (·.push Value.none))).update q (Obj.mapSeq (·.pop))) z TI TO i1 i2 a b 0 :=
    ⟨.inl (keep4 _ _ nz hz0), keep4 _ _ (ns TI (by simp)) st.ti, let ⟨v, w, e⟩ := st.to; ⟨v, w, keep4 _ _ (ns TO (by simp)) e⟩, st.j1.at fun o e => keep4 _ _ (ns i1 (by simp)) e, st.j2.at fun o e => keep4 _ _ (ns i2 (by simp)) e⟩
  have S0 : L2.Same H (L2.upd H q (.lst [])) := Lb.Same.upd fr
  refine wpAny_pure ⟨plainId_quiet PySem.F.plain_extend_loop _, zip_loopL (q := q) (H0 := L2.upd H q (.lst [])) (A1 := X.A.in1) (Rs := wants (fun r s₂ => r = .none ∧ EP X pins σ Q (.ref q) s₂) X.xe) hh D l1 la.1 la.2 ?_ (fun e s' he => he) (sqL_same S0 qx) (sqL_same S0 qy) _ 0 _ _ [] rfl (Nat.zero_le _) I4
    (fun c hc => FpOk.other (hf c hc) (by rw [upd_ne (ns c hc)]; exact (hf c hc).1)) st4 upd_same ?_ (fun c o n e => e)⟩
  · intro H' s' ts I' e pt kp
    exact ⟨rfl, .ref q, H', I', rfl, go H' q ts (fun c o e' => kp c o (ne_of_none e' fr) (by rw [upd_ne (ne_of_none e' fr)]; exact e')) fr e pt⟩
  · rw [List.take_zero]
    exact .nil
theorem pe_listZipL {e e2 : Expr} {ta : TA} {p p2 pos pos2 : Pos} (hcalm : X.calm = true) (hg : Gl X "list") (hm : X.mg "list" = none) (hg2 : Gl X "zip") (hm2 : X.mg "zip" = none) (ha : PA X [e, e2] ta)
    (hs : starEach [e, e2] X.env = (false, eval e X.env) :: starEach [e2] X.env := by rfl) (hpl : (backTo pos2 (starEach [e2] X.env)).any (·.1) = false := by rfl)
    (hs2 : starEach [.Call (.Name "zip" p2) [e, e2] [] pos2] X.env = (false, eval (.Call (.Name "zip" p2) [e, e2] [] pos2) X.env) :: starEach [] X.env := by rfl) :
    PE X (.Call (.Name "list" p) [.Call (.Name "zip" p2) [e, e2] [] pos2] [] pos) (tListZipL X.K ta) := by
  refine ⟨fun pins s σ H Q I h => ?_⟩
  refine wpAny_Call_Name_kw (ld_blt I hg hm (by decide +kernel : bootBuiltins "list" = some (.type "list")) ?_)
  refine PyProof.Rows.callWith_type1 ?_ hs2 rfl
  rw [hs2]
  refine Calls.spliced_cons ?_
  refine wpAny_Call_Name_kw (ld_blt I hg2 hm2 PyProof.Rows.boot_zip ?_)
  refine PyProof.Rows.callWith_type1 (thn (ha.run pos2 pins s σ H _ I h) fun us s1 ⟨vs, H1, I1, r1, q1⟩ => ?_) hs hpl
  obtain ⟨a, b, xs, ys, rfl, qx, qy, l1, go⟩ := q1
  cases r1 with
  | cons r rr =>
    cases rr with
    | cons r' rr =>
      cases rr
      cases r
      cases r'
      obtain ⟨its, rv, p1, _⟩ := I1.list qx
      obtain ⟨its2, rv2, p2, _⟩ := I1.list qy
      refine call_zip_2 p1.isList p2.isList fun h' hz hTI hTO k1 k2 _ hk => ?_
      have I2 : Inv X pins σ H1 { s1 with heap := h' } := I1.kept (t' := s1.toks) hk
      have chain : Chain X pins H1 (s1.heap.objs.size + 4) (s1.heap.objs.size + 2) (s1.heap.objs.size + 3) s1.heap.objs.size (s1.heap.objs.size + 1) := fun c hc => by
        have hle : s1.heap.objs.size ≤ c := by
          simp only [List.mem_cons, List.not_mem_nil, or_false] at hc
          rcases hc with h | h | h | h | h <;> (rw [h]; first | exact Nat.le_add_right _ _ | exact Nat.le_refl _)
        exact I1.fpOk hle (I1.hok.fresh hle)
      show wpAny _ _ (pure []) _ _ _
      refine wpAny_pure ?_
      exact call_zip_itL (I1.ok.hd hcalm) (PySem.W.ktu_apart s1.heap.objs.size a b p1.lt p2.lt) l1 I2 chain hz ⟨.inl hz, hTI, ⟨_, _, hTO⟩, k1, k2⟩ qx qy go
end
end Lb

set_option Elab.async false
set_option linter.all false
set_option maxRecDepth 100000
set_option maxHeartbeats 4000000
namespace K20
open PySem L2 Lb
open C8 (pss_cut)
/-- a list of tuples of two texts -/
def PrsA (H : Hp) (xs : List V) (J : List (Str × Str)) : Prop := Paired (fun (v : V) (e : Str × Str) => vEn H v e) xs J
theorem PrsA.tk {H H' : Hp} {xs : List V} {J : List (Str × Str)} (h : PrsA H xs J) (k : TK H H') : PrsA H' xs J := Paired.imp h fun _ _ x => x.tk k
theorem PrsA.len {H : Hp} {xs : List V} {J : List (Str × Str)} (h : PrsA H xs J) : xs.length = J.length := Paired.length h
/-- the joins of the points ps: each of two of them, and each of the first m but one with an earlier one -/
structure Jns (ps : List Str) (J : List (Str × Str)) (m : Nat) : Prop where
  mem : ∀ e ∈ J, e.1 ∈ ps ∧ e.2 ∈ ps ∧ e.1 ≠ e.2
  tree : ∀ i, 1 ≤ i → i < m → ∃ k x y, k < i ∧ ps[i]? = some x ∧ ps[k]? = some y ∧ (x, y) ∈ J
theorem Jns.add {ps : List Str} {J : List (Str × Str)} {m : Nat} (h : Jns ps J m) {e : Str × Str} (a : e.1 ∈ ps) (b : e.2 ∈ ps) (c : e.1 ≠ e.2) : Jns ps (J ++ [e]) m :=
  ⟨fun f hf => by
    rcases List.mem_append.mp hf with hf | hf
    · exact h.mem f hf
    · rw [List.mem_singleton.mp hf]; exact ⟨a, b, c⟩,
   fun i h1 h2 => let ⟨k, x, y, a, b, c, d⟩ := h.tree i h1 h2; ⟨k, x, y, a, b, c, List.mem_append_left _ d⟩⟩
theorem Jns.next {ps : List Str} {J : List (Str × Str)} {m k : Nat} (h : Jns ps J m) (nd : ps.Nodup) {x y : Str} (hx : ps[m]? = some x) (hy : ps[k]? = some y) (hk : k < m) : Jns ps (J ++ [(x, y)]) (m + 1) := by
  have ne : x ≠ y := fun e => by
    rw [← e] at hy
    have := (List.getElem?_inj (List.getElem?_eq_some_iff.mp hy).1 nd).mp (hy.trans hx.symm)
    omega
  refine ⟨(h.add (List.mem_of_getElem? hx) (List.mem_of_getElem? hy) ne).mem, fun i h1 h2 => ?_⟩
  by_cases e : i = m
  · subst e
    exact ⟨k, x, y, hk, hx, hy, List.mem_append_right _ List.mem_cons_self⟩
  · obtain ⟨k', x', y', a, b, c, d⟩ := h.tree i h1 (by omega)
    exact ⟨k', x', y', a, b, c, List.mem_append_left _ d⟩
/-- the same, perhaps turned -/
def Trn (e j : Str × Str) : Prop := e = j ∨ (e.1 = j.2 ∧ e.2 = j.1)
theorem tree_rch {ps : List Str} {J : List (Str × Str)} {l : PP} (h : Jns ps J ps.length) (hl : ∀ j ∈ J, ∃ e ∈ l, Trn e.2 j) {x0 : Str} (h0 : ps[0]? = some x0) : ∀ (i : Nat) (x : Str), ps[i]? = some x → Rch l x0 x := by
  intro i
  induction i using Nat.strongRecOn with
  | ind i ih =>
    intro x hx
    by_cases e : i = 0
    · subst e
      rw [h0] at hx
      cases hx
      exact .refl
    · obtain ⟨k, x', y, hk, hx', hy, hm⟩ := h.tree i (by omega) (List.getElem?_eq_some_iff.mp hx).1
      rw [hx] at hx'
      cases hx'
      refine .step (ih k hk y hy) ?_
      obtain ⟨e, he, q | ⟨q1, q2⟩⟩ := hl _ hm
      · exact mem_nbr.mpr ⟨e, he, .inr (by rw [q]; exact ⟨rfl, rfl⟩)⟩
      · exact mem_nbr.mpr ⟨e, he, .inl ⟨q1, q2⟩⟩
theorem put_new {κ : Type} [DecidableEq κ] {kvs : List (κ × V)} {k : κ} {v : V} (h : k ∉ kvs.map (·.1)) : putK kvs k v = kvs ++ [(k, v)] := by
  unfold putK
  rw [if_neg]
  intro w
  rw [List.any_eq_true] at w
  obtain ⟨x, hx, e⟩ := w
  exact h (List.mem_map.mpr ⟨x, hx, of_decide_eq_true e⟩)
theorem merge_nd : ∀ (more kvs : List (Key × V)), ((kvs ++ more).map (·.1)).Nodup → mergeK kvs more = kvs ++ more
  | [], kvs, _ => by simp [mergeK]
  | q :: r, kvs, h => by
    have hq : q.1 ∉ kvs.map (·.1) := fun m => by
      rw [List.map_append, List.nodup_append] at h
      exact h.2.2 _ m q.1 (by simp) rfl
    show mergeK (putK kvs q.1 q.2) r = _
    rw [put_new hq, merge_nd r (kvs ++ [(q.1, q.2)]) (by simpa using h)]
    simp
theorem paired_perm {α β : Type} {F : α → β → Prop} {us ts : List α} (p : us.Perm ts) : ∀ {z : List β}, Paired F ts z → ∃ l : List β, l.Perm z ∧ Paired F us l := by
  induction p with
  | nil => intro z h; exact ⟨z, .refl _, h⟩
  | cons x _ ih =>
    intro z h
    cases h with
    | cons a b =>
      obtain ⟨l, p, q⟩ := ih b
      exact ⟨_, p.cons _, .cons a q⟩
  | swap x y r =>
    intro z h
    cases h with
    | cons a b =>
      cases b with
      | cons c d => exact ⟨_, List.Perm.swap _ _ _, .cons c (.cons a d)⟩
  | trans _ _ ih1 ih2 =>
    intro z h
    obtain ⟨l, p, q⟩ := ih2 h
    obtain ⟨l2, p2, q2⟩ := ih1 q
    exact ⟨l2, p2.trans p, q2⟩
theorem items_kv {K : PySem.W.Frag} {H : Hp} {us : List Addr} {l : PP} (h : Paired (fun (t : Addr) (e : En) => ItE H (.ref t) e) us l) :
    ∃ kvs : List (Key × V), Paired (fun (p : Addr) (kv : Key × V) => SqT K H p [kV kv.1, kv.2]) us kvs ∧ Ent H kvs l := by
  induction h with
  | nil => exact ⟨[], .nil, .nil⟩
  | @cons t e us l hx _ ih =>
    obtain ⟨kvs, a, b⟩ := ih
    obtain ⟨t', u, e1, e2, e3⟩ := hx
    cases e1
    exact ⟨(Sum.inr e.1, u) :: kvs, .cons (SqT.of e2) a, .cons ⟨rfl, e3⟩ b⟩
theorem zip_items {H : Hp} : ∀ {ns : List Str} {ts : List Addr} {ys : List V} {E : List (Str × Str)}, Paired (PairAt H) ts ((ns.map V.str).zip ys) → PrsA H ys E → Paired (fun (t : Addr) (e : En) => ItE H (.ref t) e) ts (ns.zip E)
  | [], ts, ys, E, h, _ => by
    cases h
    exact .nil
  | n :: ns, ts, ys, E, h, k => by
    cases k with
    | nil =>
      rw [List.zip_nil_right] at h ⊢
      cases h
      exact .nil
    | @cons y e ys E a b =>
      rw [List.map_cons, List.zip_cons_cons] at h
      cases h with
      | @cons t _ ts _ c d => exact .cons ⟨t, y, rfl, c, a⟩ (zip_items d b)
/-- dict(items) -/
theorem items_dict {K : PySem.W.Frag} {H : Hp} {ts : List Addr} {z : PP} {ys : List V} (h : Paired (fun (t : Addr) (e : En) => ItE H (.ref t) e) ts z) (p : ys.Perm (ts.map V.ref)) (nd : (nmsOf z).Nodup) :
    ∃ us kvs l, ys = us.map V.ref ∧ Paired (fun (p : Addr) (kv : Key × V) => SqT K H p [kV kv.1, kv.2]) us kvs ∧ Ent H kvs l ∧ l.Perm z ∧ mergeK [] kvs = kvs := by
  obtain ⟨us, pu, rfl⟩ := perm_lift V.ref p ts rfl
  obtain ⟨l, pl, hl⟩ := paired_perm pu h
  obtain ⟨kvs, a, b⟩ := items_kv (K := K) hl
  refine ⟨us, kvs, l, rfl, a, b, pl, ?_⟩
  have nk : (kvs.map (·.1)).Nodup := by
    rw [b.keys]
    have nl : (nmsOf l).Nodup := (pl.map (fun e : En => e.1)).nodup_iff.mpr nd
    exact List.Pairwise.map Sum.inr (fun (x y : Str) (h : x ≠ y) (e : (Sum.inr x : Key) = Sum.inr y) => h (by injection e)) nl
  have := merge_nd kvs [] (by simpa using nk)
  simpa using this
/-- a drawn net -/
structure Drawn (l : PP) : Prop where
  good : Good l
  le : l.length ≤ 15
  short : ∀ e ∈ l, e.1.length ≤ 3 ∧ e.2.1.length ≤ 3 ∧ e.2.2.length ≤ 3
theorem drawn_of {ps nms : List Str} {J : List (Str × Str)} {l : PP} (ndp : ps.Nodup) (n2 : 2 ≤ ps.length) (n8 : ps.length ≤ 8) (np : ∀ z ∈ ps, nmS z = true ∧ z.length ≤ 3) (nn : nms.Nodup) (nm : ∀ z ∈ nms, nmS z = true ∧ z.length ≤ 3)
    (h : Jns ps J ps.length) (hl : (nmsOf l).Perm nms) (hJ : ∀ j ∈ J, ∃ e ∈ l, Trn e.2 j) (hE : ∀ e ∈ l, ∃ j ∈ J, Trn e.2 j) (le : l.length ≤ 15) : Drawn l := by
  have mem : ∀ e ∈ l, e.2.1 ∈ ps ∧ e.2.2 ∈ ps ∧ e.2.1 ≠ e.2.2 := fun e he => by
    obtain ⟨j, hj, q | ⟨q1, q2⟩⟩ := hE e he
    · rw [q]; exact h.mem j hj
    · rw [q1, q2]
      have := h.mem j hj
      exact ⟨this.2.1, this.1, this.2.2.symm⟩
  have nam : ∀ e ∈ l, nmS e.1 = true ∧ e.1.length ≤ 3 := fun e he => nm _ (hl.mem_iff.mp (List.mem_map.mpr ⟨e, he, rfl⟩))
  have nodp : ∀ x ∈ nodOf l, x ∈ ps := fun x hx => by
    obtain ⟨e, he, rfl | rfl⟩ := mem_nod.mp hx
    · exact (mem e he).1
    · exact (mem e he).2.1
  obtain ⟨x0, h0⟩ : ∃ x0, ps[0]? = some x0 := ⟨ps[0], List.getElem?_eq_getElem (by omega)⟩
  have rc := tree_rch h hJ h0
  refine ⟨⟨hl.nodup_iff.mpr nn, fun e he => ⟨(nam e he).1, (np _ (mem e he).1).1, (np _ (mem e he).2.1).1, (mem e he).2.2⟩, ?_, by omega, ?_, fun x hx y hy => ?_⟩, le, fun e he => ⟨(nam e he).2, (np _ (mem e he).1).2, (np _ (mem e he).2.1).2⟩⟩
  · rintro rfl
    obtain ⟨k, x, y, _, _, _, hm⟩ := h.tree 1 (Nat.le_refl _) (by omega)
    obtain ⟨e, he, _⟩ := hJ _ hm
    cases he
  · have := (srtS_nd (nodOf l)).length_le_of_subset (fun z hz => nodp z (srtS_mem.mp hz))
    unfold pts
    omega
  · obtain ⟨i, hi⟩ := List.mem_iff_getElem?.mp (nodp x hx)
    obtain ⟨j, hj⟩ := List.mem_iff_getElem?.mp (nodp y hy)
    exact (rc i x hi).symm.trans (rc j y hj)
theorem Mov.ne' {p l : Addr} {H H1 : Hp} (m : Mov p H H1) (h : H l = none) (q : PotAt H p) : l ≠ p := by
  obtain ⟨_, _, e, _⟩ := q
  exact (ne_of_none e h).symm
def sp_net : Sp := fun vs H Q _ => ∃ p, vs = [.ref p, .int 8, .int 8] ∧ PotAt H p ∧ ∀ H' d l, Mov p H H' → H d = none → DA H' d l → Drawn l → Q (.ref d) H'
section
variable {P : Program} {w : World} {K : PySem.W.Frag} {mg : Str → Option Value} {base : Heap} {a : Ad}
theorem ok_net (T : Txt K mg a) : FnOk P w K mg base CX0 4 a.f_net a.d_net ["_law_pot_here", "_law_most", "_law_further"] sp_net := by
  refine T.F_net.ok sc_net (fun vs H Q E h => ?_) (fun cdv A outer s H vs Q E hr h => ?_)
  · obtain ⟨p, rfl, _⟩ := h
    rfl
  · obtain ⟨p, rfl, hp, k⟩ := h
    refine ⟨_, (pss_cons (ps_set (i := 3) sc_net.nd rfl (by first | exact Or.inl rfl | exact Or.inr rfl) (pe_call (ok_names T) (hr.mono (by decide)) (by rfl) T.m_names T.F_names.kp (b_names T) .nil pass0 (pa_cons (pv 0) (pa_cons (pe_op op_add pe_int (pe_call (ok_draw T) (hr.mono (by decide)) (by rfl) T.m_draw T.F_draw.kp (b_draw T) .nil pass0 (pa_cons (pv 0) (pa_cons (pe_op op_sub (pv 1) pe_int) pa_nil)))) pa_nil))))
 (pss_cons (ps_setLc (i := 4) (own := [("_law_at", 5)]) rfl sc_net.nd rfl rfl (sw_true rfl rfl rfl (by decide +kernel)) (pi_range2 rfl T.b_range (pa_cons pe_int (pa_cons (pe_callB (call_lenK (K := K) rfl) (by rfl) T.b_len (by decide +kernel) (pa_cons (pv 3) pa_nil)) pa_nil))) (blkOk_by (own := [("_law_at", 5)]) (N := ["_law_pot_here", "_law_most", "_law_further", "_law_points_here", "_law_joins", "_law_at", "_law_turn", "_law_ends", "_law_a", "_law_b"]) (sc := defScope s_net) (by decide +kernel)) (fun _ _ _ _ _ => (pg_name (i := 5) sc_net.nd rfl (by first | exact Or.inl rfl | exact Or.inr rfl))) (fun _ _ _ _ _ => pts_nil) (fun _ _ _ _ _ => (pe_tup (pa_cons (pe_ix (ix_listK (K := K) rfl) (pv 3) (pv 5) (fun _ _ => rfl)) (pa_cons (pe_ix (ix_listK (K := K) rfl) (pv 3) (pe_call (ok_draw T) (hr.mono (by decide)) (by rfl) T.m_draw T.F_draw.kp (b_draw T) .nil pass0 (pa_cons (pv 0) (pa_cons (pv 5) pa_nil))) (fun _ _ => rfl)) pa_nil)))))
 (pss_cons (ps_for PassesOwn.never rfl (pi_range1 rfl T.b_range (pa_cons (pe_call (ok_draw T) (hr.mono (by decide)) (by rfl) T.m_draw T.F_draw.kp (b_draw T) .nil pass0 (pa_cons (pv 0) (pa_cons (pe_op op_add (pv 2) pe_int) pa_nil))) pa_nil)) (pg_name (i := 6) sc_net.nd rfl (by first | exact Or.inl rfl | exact Or.inr rfl)) (pss_cons (ps_set (i := 5) sc_net.nd rfl (by first | exact Or.inl rfl | exact Or.inr rfl) (pe_call (ok_draw T) (hr.mono (by decide)) (by rfl) T.m_draw T.F_draw.kp (b_draw T) .nil pass0 (pa_cons (pv 0) (pa_cons (pe_callB (call_lenK (K := K) rfl) (by rfl) T.b_len (by decide +kernel) (pa_cons (pv 3) pa_nil)) pa_nil))))
 (pss_one (ps_expr (pe_bm PySem.F.plainAttrs_list PySem.F.slot_list_append PySem.F.type_list_append mt_append (pv 4) (pa_cons (pe_tup (pa_cons (pe_ix (ix_listK (K := K) rfl) (pv 3) (pv 5) (fun _ _ => rfl)) (pa_cons (pe_ix (ix_listK (K := K) rfl) (pv 3) (pe_op op_mod (pe_callTy call_int1 (by rfl) T.b_int (by decide +kernel) (pa_cons (pe_op op_add (pe_op op_add (pv 5) pe_int) (pe_call (ok_draw T) (hr.mono (by decide)) (by rfl) T.m_draw T.F_draw.kp (b_draw T) .nil pass0 (pa_cons (pv 0) (pa_cons (pe_op op_sub (pe_callB (call_lenK (K := K) rfl) (by rfl) T.b_len (by decide +kernel) (pa_cons (pv 3) pa_nil)) pe_int) pa_nil)))) pa_nil)) (pe_callB (call_lenK (K := K) rfl) (by rfl) T.b_len (by decide +kernel) (pa_cons (pv 3) pa_nil))) (fun _ _ => rfl)) pa_nil))) pa_nil))))))
 (pss_cons (ps_setLc (i := 7) (own := [("_law_a", 8), ("_law_b", 9)]) rfl sc_net.nd rfl rfl (sw_true rfl rfl rfl (by decide +kernel)) (pi_listK (K := K) rfl (pv 4)) (blkOk_by (own := [("_law_a", 8), ("_law_b", 9)]) (N := ["_law_pot_here", "_law_most", "_law_further", "_law_points_here", "_law_joins", "_law_at", "_law_turn", "_law_ends", "_law_a", "_law_b"]) (sc := defScope s_net) (by decide +kernel)) (fun _ _ _ _ _ => (pg_tupK (K := K) (n := 2) rfl rfl (pgs_cons (pg_name (i := 8) sc_net.nd rfl (by first | exact Or.inl rfl | exact Or.inr rfl)) (pgs_cons (pg_name (i := 9) sc_net.nd rfl (by first | exact Or.inl rfl | exact Or.inr rfl)) pgs_nil)))) (fun _ _ _ _ _ => pts_nil) (fun _ _ _ _ _ => (pe_ifExp (pt_cmpR op_eq (pe_call (ok_draw T) (hr.mono (by decide)) (by rfl) T.m_draw T.F_draw.kp (b_draw T) .nil pass0 (pa_cons (pv 0) (pa_cons pe_int pa_nil))) pe_int (nomark _)) (pe_tup (pa_cons (pv 8) (pa_cons (pv 9) pa_nil))) (pe_tup (pa_cons (pv 9) (pa_cons (pv 8) pa_nil))))))
 (pss_one (ps_ret (pe_callTy (call_dictP rfl) (by rfl) T.b_dict (by decide +kernel) (pa_cons (pe_call (ok_mixed T) (hr.mono (by decide)) (by rfl) T.m_mixed T.F_mixed.kp (b_mixed T) .nil pass0 (pa_cons (pv 0) (pa_cons (pe_listZipL rfl (by rfl) T.b_list (by rfl) T.b_zip (pa_cons (pe_call (ok_names T) (hr.mono (by decide)) (by rfl) T.m_names T.F_names.kp (b_names T) .nil pass0 (pa_cons (pv 0) (pa_cons (pe_callB (call_lenK (K := K) rfl) (by rfl) T.b_len (by decide +kernel) (pa_cons (pv 7) pa_nil)) pa_nil))) (pa_cons (pv 7) pa_nil))) pa_nil))) pa_nil)))))))), ?_⟩
    refine ⟨_, rfl, _, rfl, _, rfl, _, _, rfl, rfl, p, _, rfl, hp, by decide, by unfold Bd; decide, fun H1 d m1 d0 d1 => ?_⟩
    obtain ⟨d, rfl⟩ := Int.eq_ofNat_of_zero_le d0
    refine ⟨_, _, rfl, rfl, p, 2 + d, by rw [Int.natCast_add]; rfl, m1.pot, by omega, fun H2 pl ps m2 hpl epl lp ndp hps => ?_⟩
    have M2 := m1.trans m2
    have npl : pl ≠ p := m2.ne' hpl m1.pot
    have n2 : 2 ≤ ps.length := by omega
    have n8 : ps.length ≤ 8 := by omega
    refine ⟨_, rfl, pl, _, rfl, .inl (SqL.of epl), ?_⟩
    refine ⟨1, _, rfl, ⟨by decide, by decide, by rw [List.length_map]; omega, by rw [List.length_map]; omega⟩, fun JL hJL => ?_⟩
    rw [List.length_map, show ((ps.length : Int) - 1).toNat = ps.length - 1 by omega]
    have nJL := M2.ne hJL
    have hJL0 := M2.free hp hJL
    have npJ : JL ≠ pl := fun z => by rw [z, epl] at hJL; cases hJL
    have getp : ∀ {i : Nat}, i < ps.length → atI (ps.map V.str) (i : Int) = some (V.str ps[i]!) := fun {i} h => atI_nat (by rw [List.getElem?_map, List.getElem?_eq_getElem h, getElem!_pos ps i h]; rfl)
    have gets : ∀ {i : Nat}, i < ps.length → ps[i]? = some ps[i]! := fun {i} h => by rw [List.getElem?_eq_getElem h, getElem!_pos ps i h]
    refine turns walk_range (fun i H' => Mov p H2 H' ∧ ∃ xs J, H' JL = some (.lst xs) ∧ PrsA H' xs J ∧ J.length = i ∧ Jns ps J (i + 1))
      ⟨mov_upd (Mov.refl M2.pot) M2.pot hJL, [], [], upd_same, .nil, rfl, ⟨(fun _ h => nomatch h), fun i h1 h2 => by omega⟩⟩ (fun _ _ _ _ => trivial) ?_ ?_
    · rintro i v H3 H4 hi ⟨M3, xs, J, eJ, pJ, lJ, hJ⟩ ⟨rfl, ev⟩
      have epl3 := M3.keep _ _ npl epl
      obtain rfl : v = V.int ((1 + i : Nat) : Int) := ev.trans (by show V.int (1 + (i : Int)) = _; rw [Int.natCast_add]; rfl)
      refine ⟨rfl, _, rfl, _, rfl, _, _, _, _, rfl, rfl, SqL.of epl3, getp (by omega), _, rfl, _, rfl, _, rfl, p, _, rfl, M3.pot, by omega, by unfold Bd; omega, fun H5 d5 m5 d50 d51 => ?_⟩
      obtain ⟨d5, rfl⟩ := Int.eq_ofNat_of_zero_le d50
      have epl5 := m5.keep _ _ npl epl3
      refine ⟨_, _, _, _, rfl, rfl, SqL.of epl5, getp (by omega), sz, fun t ht => ?_⟩
      have eJ5 := m5.keep _ _ nJL eJ
      have lx := pJ.len
      have nJt : JL ≠ t := ne_of_none eJ5 ht
      refine ⟨xs, by rw [upd_ne nJt]; exact eJ5, szlt (by omega), mov_upd (mov_upd (M3.trans m5) M2.pot ((M3.trans m5).free M2.pot ht)) M2.pot hJL, _, J ++ [(ps[1 + i]!, ps[d5]!)], upd_same, ?_, by rw [List.length_append, lJ]; rfl, ?_⟩
      · have t1 : TK H4 H5 := m5.tk M3.pot
        have t2 : TK H5 (upd H5 t (.tup [.str ps[1 + i]!, .str ps[d5]!])) := (Lb.Same.upd ht).tk
        have t3 : TK (upd H5 t (.tup [.str ps[1 + i]!, .str ps[d5]!])) (upd (upd H5 t (.tup [.str ps[1 + i]!, .str ps[d5]!])) JL (.lst (xs ++ [.ref t]))) := tk_upd fun xs z => by rw [upd_ne nJt, eJ5] at z; cases z
        exact Paired.snoc (F := fun v e => vEn _ v e) ⟨t, rfl, t3 _ _ upd_same⟩ (pJ.tk ((t1.trans t2).trans t3))
      · have := hJ.next ndp (m := i + 1) (k := d5) (x := ps[i + 1]!) (y := ps[d5]!) (gets (by omega)) (gets (by omega)) (by omega)
        rw [Nat.add_comm 1 i]
        exact this
    rintro H3 ⟨M3, xs, J, eJ, pJ, lJ, hJ⟩
    rw [show ps.length - 1 + 1 = ps.length by omega] at hJ
    have M3' := M2.trans M3
    have epl3 := M3.keep _ _ npl epl
    refine ⟨_, rfl, _, rfl, _, _, rfl, rfl, p, _, rfl, M3.pot, by decide, by unfold Bd; decide, fun H4 dd m4 e0 e1' => ⟨_, rfl, by omega, by omega, ?_⟩⟩
    obtain ⟨dd, rfl⟩ := Int.eq_ofNat_of_zero_le e0
    rw [Int.toNat_natCast]
    have t34 := m4.tk M3.pot
    refine for_range (fun i σ H' => ∃ u5 u6, ∃ xs J, σ = [some (.ref p), some (.int 8), some (.int 8), some (.ref pl), some (.ref JL), u5, u6, none, none, none] ∧ Mov p H2 H' ∧ H' JL = some (.lst xs) ∧ PrsA H' xs J ∧ J.length = ps.length - 1 + i ∧ Jns ps J ps.length)
      ⟨_, _, xs, J, rfl, M3.trans m4, m4.keep _ _ nJL eJ, pJ.tk t34, lJ, hJ⟩ ?_ ?_
    · rintro i σ H5 hi ⟨u5, u6, xs, J, rfl, M5, eJ, pJ, lJ, hJ⟩
      have epl5 := M5.keep _ _ npl epl
      refine ⟨_, rfl, _, rfl, pl, _, rfl, .inl (SqL.of epl5), p, _, rfl, M5.pot, by rw [List.length_map]; omega, by rw [List.length_map]; unfold Bd; omega, fun H6 at_ m6 a0 a1 => ?_⟩
      rw [List.length_map] at a1
      obtain ⟨at_, rfl⟩ := Int.eq_ofNat_of_zero_le a0
      have epl6 := m6.keep _ _ npl epl5
      have eJ6 := m6.keep _ _ nJL eJ
      refine ⟨_, rfl, .inl ⟨rfl, _, SqL.of eJ6⟩, _, rfl, _, rfl, _, _, _, _, rfl, rfl, SqL.of epl6, getp (by omega), _, rfl, _, rfl, _, _, rfl, rfl, _, rfl, _, rfl, pl, _, rfl, .inl (SqL.of epl6), _, _, rfl, rfl, p, _, rfl, m6.pot, by rw [List.length_map]; omega, by rw [List.length_map]; unfold Bd; omega, fun H7 d7 m7 b0 b1 => ?_⟩
      rw [List.length_map] at b1
      obtain ⟨d7, rfl⟩ := Int.eq_ofNat_of_zero_le b0
      have epl7 := m7.keep _ _ npl epl6
      have eJ7 := m7.keep _ _ nJL eJ6
      refine ⟨_, _, rfl, rfl, .inl ⟨_, rfl, _, rfl, pl, _, rfl, .inl (SqL.of epl7), _, _, rfl, rfl, by rw [List.length_map]; omega, ?_⟩⟩
      have hn0 : 0 < ps.length := by omega
      have eix : ((at_ : Int) + 1 + (d7 : Int)) % ((ps.map V.str).length : Int) = (((at_ + 1 + d7) % ps.length : Nat) : Int) := by
        rw [List.length_map, Int.natCast_emod]
        rfl
      have hm := Nat.mod_lt (at_ + 1 + d7) hn0
      have hne : (at_ + 1 + d7) % ps.length ≠ at_ := by
        by_cases h : at_ + 1 + d7 < ps.length
        · rw [Nat.mod_eq_of_lt h]; omega
        · rw [Nat.mod_eq_sub_mod (by omega), Nat.mod_eq_of_lt (by omega)]; omega
      generalize (at_ + 1 + d7) % ps.length = mm at *
      have gi := getp hm
      rw [← eix] at gi
      refine ⟨_, _, _, _, rfl, rfl, SqL.of epl7, gi, sz, fun t ht => ?_⟩
      have nJt : JL ≠ t := ne_of_none eJ7 ht
      have lx := pJ.len
      have M7 := (M5.trans m6).trans m7
      have t1 : TK H5 H7 := (m6.tk M5.pot).trans (m7.tk m6.pot)
      have t2 : TK H7 (upd H7 t (.tup [.str ps[at_]!, .str ps[mm]!])) := (Lb.Same.upd ht).tk
      have t3 : TK (upd H7 t (.tup [.str ps[at_]!, .str ps[mm]!])) (upd (upd H7 t (.tup [.str ps[at_]!, .str ps[mm]!])) JL (.lst (xs ++ [.ref t]))) := tk_upd fun xs z => by rw [upd_ne nJt, eJ7] at z; cases z
      have dif : ps[at_]! ≠ ps[mm]! := fun e => by
        have q1 := gets (i := at_) (by omega)
        have q2 := gets (i := mm) hm
        rw [e, ← q2] at q1
        exact hne ((List.getElem?_inj (by omega) ndp).mp q1).symm
      refine ⟨JL, xs, _, rfl, rfl, by rw [upd_ne nJt]; exact eJ7, szlt (by omega), _, _, _, J ++ [(ps[at_]!, ps[mm]!)], rfl, mov_upd (mov_upd M7 M2.pot (M7.free M2.pot ht)) M2.pot hJL, upd_same, ?_, by rw [List.length_append, lJ]; rfl, hJ.add (List.mem_of_getElem? (gets (by omega))) (List.mem_of_getElem? (gets hm)) dif⟩
      exact Paired.snoc (F := fun v e => vEn _ v e) ⟨t, rfl, t3 _ _ upd_same⟩ (pJ.tk ((t1.trans t2).trans t3))
    · rintro σ H5 ⟨u5, u6, xs, J, rfl, M5, eJ, pJ, lJ, hJ⟩
      have lJ15 : J.length ≤ 15 := by omega
      have lx := pJ.len
      refine ⟨_, rfl, JL, rfl, ⟨_, SqL.of eJ⟩, fun EL hEL => ?_⟩
      have nEL := M5.ne hEL
      have hEL0 := M5.free M2.pot hEL
      have hEL00 := (M2.trans M5).free hp hEL
      refine turns walk_list (fun i H' => Mov p H5 H' ∧ ∃ ys E, H' EL = some (.lst ys) ∧ PrsA H' ys E ∧ E.length = i ∧ ∀ (k : Nat) (e : Str × Str), E[k]? = some e → ∃ j, J[k]? = some j ∧ Trn e j)
        ⟨mov_upd (Mov.refl M5.pot) M5.pot hEL, [], [], upd_same, .nil, rfl, fun k e h => by simp at h⟩ (fun i H' _ b => SqL.of (b.1.keep _ _ nJL eJ)) ?_ ?_
      · rintro i v H6 H7 hi ⟨M6, ys, E, eE, pE, lE, hE⟩ ⟨rfl, ev⟩
        have pJ7 := pJ.tk (M6.tk M5.pot)
        obtain ⟨j, hj, t, rfl, ht⟩ := paired_get pJ7 ev
        refine ⟨t, _, rfl, SqT.of ht, rfl, _, _, rfl, _, _, rfl, rfl, rfl, ?_⟩
        refine ⟨_, rfl, p, _, rfl, M6.pot, by decide, by unfold Bd; decide, fun H8 q m8 _ _ => ⟨rfl, _, rfl, ?_⟩⟩
        have M8 := M6.trans m8
        have eE8 := m8.keep _ _ nEL eE
        have t78 := m8.tk M6.pot
        have ly := pE.len
        have hjl := (List.getElem?_eq_some_iff.mp hj).1
        have fin : ∀ (e : Str × Str) (b : Addr), Trn e j → H8 b = none → ∃ acc, (upd H8 b (.tup [.str e.1, .str e.2])) EL = some (.lst acc) ∧ acc.length < sizeLine ∧ (fun H' => Mov p H5 H' ∧ ∃ ys E, H' EL = some (.lst ys) ∧ PrsA H' ys E ∧ E.length = i + 1 ∧ ∀ (k : Nat) (e : Str × Str), E[k]? = some e → ∃ j, J[k]? = some j ∧ Trn e j) (upd (upd H8 b (.tup [.str e.1, .str e.2])) EL (.lst (acc ++ [.ref b]))) := by
          intro e b he hb
          have nEb : EL ≠ b := ne_of_none eE8 hb
          refine ⟨ys, by rw [upd_ne nEb]; exact eE8, szlt (by omega), mov_upd (mov_upd M8 M5.pot (M8.free M5.pot hb)) M5.pot hEL, _, E ++ [e], upd_same, ?_, by rw [List.length_append, lE]; rfl, fun k f hf => ?_⟩
          · have t2 : TK H8 (upd H8 b (.tup [.str e.1, .str e.2])) := (Lb.Same.upd hb).tk
            have t3 : TK (upd H8 b (.tup [.str e.1, .str e.2])) (upd (upd H8 b (.tup [.str e.1, .str e.2])) EL (.lst (ys ++ [.ref b]))) := tk_upd fun xs z => by rw [upd_ne nEb, eE8] at z; cases z
            exact Paired.snoc (F := fun v e => vEn _ v e) ⟨b, rfl, t3 _ _ upd_same⟩ (pE.tk ((t78.trans t2).trans t3))
          · rw [List.getElem?_append] at hf
            split at hf
            · exact hE k f hf
            · next hk =>
              have : k = i := by
                have := (List.getElem?_eq_some_iff.mp hf).1
                simp only [List.length_cons, List.length_nil] at this
                omega
              subst this
              rw [lE, Nat.sub_self] at hf
              cases hf
              exact ⟨j, hj, he⟩
        by_cases h0 : q = 0
        · rw [show decide ((V.int q : V) = V.int 0) = true by simp [h0]]
          exact iteT ⟨_, rfl, _, rfl, sz, fun b hb => fin (j.1, j.2) b (.inl rfl) hb⟩
        · rw [show decide ((V.int q : V) = V.int 0) = false by simp [h0]]
          exact iteF ⟨_, rfl, _, rfl, sz, fun b hb => fin (j.2, j.1) b (.inr ⟨rfl, rfl⟩) hb⟩
      · rintro H6 ⟨M6, ys, E, eE, pE, lE, hE⟩
        rw [lx] at lE
        have M6' := (M2.trans M5).trans M6
        have ly := pE.len
        refine ⟨_, rfl, _, rfl, _, rfl, EL, _, rfl, .inl (SqL.of eE), p, ys.length, rfl, M6.pot, by omega, fun H7 nl ns m7 hnl enl ln ndn hns => ?_⟩
        have nnl := m7.ne' hnl M6.pot
        have eE7 := m7.keep _ _ nEL eE
        have pE7 := pE.tk (m7.tk M6.pot)
        refine ⟨_, rfl, nl, EL, _, _, rfl, SqL.of enl, SqL.of eE7, by rw [List.length_map]; omega, fun H8 q ts s8 hq eq pq => ?_⟩
        have lEn : ns.length = E.length := by omega
        have pZ := zip_items pq (pE7.tk s8.tk)
        have nmz : nmsOf (ns.zip E) = ns := List.map_fst_zip (by omega)
        have trn : ∀ e ∈ ns.zip E, e.1 ∈ ns ∧ ∃ j ∈ J, Trn e.2 j := fun e he => by
          obtain ⟨i, hi⟩ := List.mem_iff_getElem?.mp he
          rw [List.getElem?_zip_eq_some] at hi
          obtain ⟨j, hj, ht⟩ := hE i _ hi.2
          exact ⟨List.mem_of_getElem? hi.1, j, List.mem_of_getElem? hj, ht⟩
        have npJ : ∀ j ∈ J, nmS j.1 = true ∧ nmS j.2 = true := fun j hj => ⟨(hps _ (hJ.mem j hj).1).1, (hps _ (hJ.mem j hj).2.1).1⟩
        have nm3 : ∀ e ∈ ns.zip E, Nm3 e := fun e he => by
          obtain ⟨h1, j, hj, q | ⟨q1, q2⟩⟩ := trn e he
          · exact ⟨(hns _ h1).1, by rw [q]; exact (npJ j hj).1, by rw [q]; exact (npJ j hj).2⟩
          · exact ⟨(hns _ h1).1, by rw [q1]; exact (npJ j hj).2, by rw [q2]; exact (npJ j hj).1⟩
        have hit : ∀ x ∈ ts.map V.ref, ItX H8 x := fun x hx => by
          obtain ⟨t, ht, rfl⟩ := List.mem_map.mp hx
          obtain ⟨i, hi⟩ := List.mem_iff_getElem?.mp ht
          obtain ⟨e, he, q⟩ := paired_get pZ hi
          exact ⟨e, q, nm3 e (List.mem_of_getElem? he)⟩
        have lts : ts.length = (ns.zip E).length := Paired.length pZ
        have lz : (ns.zip E).length = E.length := by rw [List.length_zip]; omega
        have pot8 := s8.pot m7.pot
        refine ⟨p, q, _, rfl, pot8, SqL.of eq, hit, by rw [List.length_map]; omega, fun H9 r ys9 m9 hr er perm9 => ?_⟩
        have pZ9 := Paired.imp pZ fun _ _ x => x.tk (m9.tk pot8)
        obtain ⟨us, kvs, l, rfl, p1, p2, p3, p4⟩ := items_dict (K := K) pZ9 perm9 (by rw [nmz]; exact ndn)
        refine ⟨r, us, kvs, rfl, SqL.of er, p1, fun d hd => ?_⟩
        rw [p4]
        have M9 : Mov p H H9 := ((M6'.trans m7).same s8).trans m9
        refine k _ d l (mov_upd M9 hp (M9.free hp hd)) (M9.free hp hd) ⟨kvs, upd_same, p2.tk (Lb.Same.upd hd).tk⟩ ?_
        refine drawn_of ndp n2 n8 hps ndn hns hJ (by have := p3.map (fun e : En => e.1); rw [show (ns.zip E).map (fun e : En => e.1) = ns from nmz] at this; exact this) (fun j hj => ?_) (fun e he => (trn e (p3.mem_iff.mp he)).2) (by rw [p3.length_eq]; omega)
        obtain ⟨i, hi⟩ := List.mem_iff_getElem?.mp hj
        have hil := (List.getElem?_eq_some_iff.mp hi).1
        obtain ⟨j', hj', ht⟩ := hE i _ (List.getElem?_eq_getElem (by omega : i < E.length))
        rw [hi] at hj'
        cases hj'
        exact ⟨(ns[i]'(by omega), E[i]'(by omega)), p3.mem_iff.mpr (List.mem_of_getElem? (List.getElem?_zip_eq_some.mpr ⟨List.getElem?_eq_getElem _, List.getElem?_eq_getElem _⟩)), ht⟩
end
end K20

set_option Elab.async false
set_option linter.all false
set_option maxRecDepth 100000
set_option maxHeartbeats 4000000
/-! [f(x) for x in ..], each of it found from one of the other's -/
namespace Lb
open PySem PySem.Spec PyProof.Rows L2
theorem paired_mono {α β : Type} {F G : α → β → Prop} (h : ∀ a b, F a b → G a b) : ∀ {l : List α} {m : List β}, Paired F l m → Paired G l m
  | _, _, .nil => .nil
  | _, _, .cons r t => .cons (h _ _ r) (paired_mono h t)
theorem paired_snoc {α β : Type} {F : α → β → Prop} {x : α} {y : β} (r : F x y) : ∀ {l : List α} {m : List β}, Paired F l m → Paired F (l ++ [x]) (m ++ [y])
  | _, _, .nil => .cons r .nil
  | _, _, .cons q t => .cons q (paired_snoc r t)
/-- what is known after i steps -/
def MapP (R : V → V → Hp → Prop) (H1 : Hp) (D : Addr) (xs : List V) (i : Nat) (H : Hp) : Prop :=
  Same H1 H ∧ ∃ acc, H D = some (.lst acc) ∧ acc.length = i ∧ Paired (fun x y => R x y H) (xs.take i) acc
section
variable {K : PySem.W.Frag} {a D : Addr} {xs : List V} {g : TG} {te : TE} {vs : List Nat} {σ : L2.St} {H1 : Hp} {Qd : Hp → Prop} (R : V → V → Hp → Prop)
theorem mapP (hR : ∀ x y H H', Same H H' → R x y H → R x y H') (hU : ∀ x y H acc o, H D = some (.lst acc) → R x y H → R x y (upd H D o)) (hD : H1 D = none) (hlen : xs.length ≤ 1000)
    (hs : ∀ (i : Nat) (x : V) (H : Hp), xs[i]? = some x → Same H1 H → ∀ Q' : VK, (∀ y H4, Same H H4 → R x y H4 → Q' y H4) → g x (wipe σ vs) H fun σ2 H2 => wipe σ2 vs = wipe σ vs ∧ te σ2 H2 Q') (i : Nat) (x : V) (H : Hp) (e : xs[i]? = some x)
    (p : MapP R H1 D xs i H) :
    g x (wipe σ vs) H fun σ2 H2 => wipe σ2 vs = wipe σ vs ∧ tYes σ2 H2 fun b H3 =>
      if b = true then te σ2 H3 fun y H4 => ∃ acc, H4 D = some (.lst acc) ∧ acc.length < sizeLine ∧ MapP R H1 D xs (i + 1) (upd H4 D (.lst (acc ++ [y]))) else MapP R H1 D xs (i + 1) H3 := by
  obtain ⟨s, acc, ed, el, pr⟩ := p
  have hi : i < xs.length := by
    rcases Nat.lt_or_ge i xs.length with h | h
    · exact h
    · rw [List.getElem?_eq_none h] at e
      cases e
  refine hs i x H e s (fun y H4 => ∃ acc, H4 D = some (.lst acc) ∧ acc.length < sizeLine ∧ MapP R H1 D xs (i + 1) (upd H4 D (.lst (acc ++ [y])))) fun y H4 s4 r4 => ?_
  refine ⟨acc, s4 _ _ ed, szlt (by omega), fun b o eb => ?_, _, upd_same, by simp [el], ?_⟩
  · have nb : b ≠ D := ne_of_none eb hD
    rw [upd_ne nb]
    exact s4 _ _ (s _ _ eb)
  · have et : xs.take (i + 1) = xs.take i ++ [x] := by simp [List.take_add_one, e]
    rw [et]
    exact paired_snoc (F := fun u z => R u z (upd H4 D (.lst (acc ++ [y])))) (hU _ _ _ _ _ (s4 _ _ ed) r4) (paired_mono (fun x y r => hU _ _ _ _ _ (s4 _ _ ed) (hR _ _ _ _ s4 r)) pr)
/-- over a tuple -/
theorem map_tup (hR : ∀ x y H H', Same H H' → R x y H → R x y H') (hU : ∀ x y H acc o, H D = some (.lst acc) → R x y H → R x y (upd H D o)) (hD : H1 D = none) (hlen : xs.length ≤ 1000) (hS : SqT K H1 a xs)
    (hs : ∀ (i : Nat) (x : V) (H : Hp), xs[i]? = some x → Same H1 H → ∀ Q' : VK, (∀ y H4, Same H H4 → R x y H4 → Q' y H4) → g x (wipe σ vs) H fun σ2 H2 => wipe σ2 vs = wipe σ vs ∧ te σ2 H2 Q')
    (hd : ∀ H ys, Same H1 H → H D = some (.lst ys) → Paired (fun x y => R x y H) xs ys → Qd H) :
    ∃ W : Nat → Nat → Hp → Prop, (∃ m, W 0 m (upd H1 D (.lst []))) ∧ ∀ i m H, W i m H →
      ((Itt K a).stop i H ∧ Qd H) ∨ ((Itt K a).go i H ∧ ∃ Nx : Hp → Prop, (∀ H', Nx H' → ∃ m', m' < m ∧ W (i + 1) m' H') ∧ ∀ x H', (Itt K a).yld i H x H' → g x (wipe σ vs) H' fun σ2 H2 => wipe σ2 vs = wipe σ vs ∧ tYes σ2 H2 fun b H3 =>
        if b = true then te σ2 H3 fun y H4 => ∃ acc, H4 D = some (.lst acc) ∧ acc.length < sizeLine ∧ Nx (upd H4 D (.lst (acc ++ [y]))) else Nx H3) :=
  lc_tup (Qd := Qd) (MapP R H1 D xs) ⟨upd_same_hp (Same.refl H1) hD, [], upd_same, rfl, .nil⟩ (fun i H _ p => SqT.ext hS p.1) (fun i x H e p => mapP R hR hU hD hlen hs i x H e p)
    fun H p => let ⟨s, acc, ed, el, pr⟩ := p; hd H acc s ed (by rw [List.take_length] at pr; exact pr)
/-- over a list -/
theorem map_lst (hR : ∀ x y H H', Same H H' → R x y H → R x y H') (hU : ∀ x y H acc o, H D = some (.lst acc) → R x y H → R x y (upd H D o)) (hD : H1 D = none) (hlen : xs.length ≤ 1000) (hS : SqL K H1 a xs)
    (hs : ∀ (i : Nat) (x : V) (H : Hp), xs[i]? = some x → Same H1 H → ∀ Q' : VK, (∀ y H4, Same H H4 → R x y H4 → Q' y H4) → g x (wipe σ vs) H fun σ2 H2 => wipe σ2 vs = wipe σ vs ∧ te σ2 H2 Q')
    (hd : ∀ H ys, Same H1 H → H D = some (.lst ys) → Paired (fun x y => R x y H) xs ys → Qd H) :
    ∃ W : Nat → Nat → Hp → Prop, (∃ m, W 0 m (upd H1 D (.lst []))) ∧ ∀ i m H, W i m H →
      ((Itl K a).stop i H ∧ Qd H) ∨ ((Itl K a).go i H ∧ ∃ Nx : Hp → Prop, (∀ H', Nx H' → ∃ m', m' < m ∧ W (i + 1) m' H') ∧ ∀ x H', (Itl K a).yld i H x H' → g x (wipe σ vs) H' fun σ2 H2 => wipe σ2 vs = wipe σ vs ∧ tYes σ2 H2 fun b H3 =>
        if b = true then te σ2 H3 fun y H4 => ∃ acc, H4 D = some (.lst acc) ∧ acc.length < sizeLine ∧ Nx (upd H4 D (.lst (acc ++ [y]))) else Nx H3) :=
  lc_list (Qd := Qd) (MapP R H1 D xs) ⟨upd_same_hp (Same.refl H1) hD, [], upd_same, rfl, .nil⟩ (fun i H _ p => Same.seq p.1 hS) (fun i x H e p => mapP R hR hU hD hlen hs i x H e p)
    fun H p => let ⟨s, acc, ed, el, pr⟩ := p; hd H acc s ed (by rw [List.take_length] at pr; exact pr)
end
end Lb

set_option Elab.async false
set_option linter.all false
set_option maxRecDepth 100000
set_option maxHeartbeats 1000000
/-! x(lambda: body, y): a def that is given a lambda and a value -/
namespace Lb
open PySem PySem.Spec PyProof.Rows L2 LamX
def GivesTo2 (X : Cx) (Ng : List Str) (x : Str) (sg : Scope) (g : Addr) (cdg : Value) (bg : List Stmt) (a : Str) (q : Str) (TT : V → (XK → Hp → VK → Prop) → Hp → VK → Prop) : Prop :=
  ∀ (f c' : Addr) (s : Shared) (H : Hp) (Q : VK) (tl : XK → Hp → VK → Prop) (v : V),
    (∀ (W : WX) (pn : List (Addr × Obj)) (xe : Value → Shared → Prop) (E : XK) (σ0 : List (Option V)) (p1 p2 : Pos), Takes ((cxOf C8.CX0 X.prog X.w X.K X.mg X.base Ng x sg g cdg X.A X.stack s H C8.E0).tr pn xe) W → (∀ cls d H', E cls d H' → W cls d σ0 H') →
      PE ((cxOf C8.CX0 X.prog X.w X.K X.mg X.base Ng x sg g cdg X.A X.stack s H C8.E0).tr pn xe) (.Call (.Name a p1) [] [] p2) (fun σZ HZ Q => σZ = σ0 ∧ σZ[0]? = some (some (.ref f)) ∧ HZ c' = some (CodeO c' q) ∧ tl E HZ Q)) →
    H c' = some (CodeO c' q) → TT v tl H Q →
    ∃ t, PSs (cxOf C8.CX0 X.prog X.w X.K X.mg X.base Ng x sg g cdg X.A X.stack s H C8.E0).nox bg t ∧ t { nx := fun _ H' => Q .non H', rt := Q } (L2.start Ng [.ref f, v]) H
def tLam2 (T : List (Addr × Str)) (j : Nat) (TT : V → (XK → Hp → VK → Prop) → Hp → VK → Prop) (t : XK → TE) : TE := fun σ H Q => ∃ v, σ[j]? = some (some v) ∧ Tabs T H ∧ ∀ H1, ExtN H H1 → Tabs T H1 → TT v (fun E H' Q' => t E σ H' Q') H1 Q
section
variable {X : Cx} {pins : List (Addr × Obj)} {σ : List (Option V)} {H : Hp} {s : Shared}
/-- the lambda's run, from the body that calls it -/
theorem lam_run {A : Around} {outer : List Env} {f c' : Addr} {q : Str} {pm ctv : Value} {params : Arguments} {body : Expr} {scope : Scope} {k : Nat} {E : XK} {tb : TE} {HZ : Hp} {sZ : Shared} {Q : VK}
    (I : Inv X pins σ H s) (L : LamS X.env.scope scope) (of1 : sZ.heap.get? f = some (PySem.W.kla_obj "<lambda>" (X.env.qual ++ "<lambda>") params body scope (cloFrom X.env.cells scope.names []) pm c' ctv)) (hc : HZ c' = some (CodeO c' q))
    (hbind : bindArgs (PySem.W.kla_fn "<lambda>" (X.env.qual ++ "<lambda>") params body scope (cloFrom X.env.cells scope.names []) pm (.ref c') ctv) ⟨[], []⟩ = pure []) (hq : q = X.env.qual ++ "<lambda>") (hr : Room (k + 1) A) (e0 : Env0 X.prog X.w X.K X.mg X.base A outer sZ HZ) (lim : sZ.heap.NoLimit)
    (un : Un (frs X.stack) [] H HZ s.heap sZ.heap) (hbody : ∀ (A : Around) (outer : List Env) (s : Shared) (H : Hp), Room k (A.deeper (lamEnv X scope s.heap.objs.size f c')) → PE (lamCx X A outer s H E scope f c') body tb) (ht : tb σ HZ Q) :
    codeAny (model X.prog X.w) A (.call (.ref f) ⟨[], []⟩) (CR (L2.CX X.prog X.w) outer X.prog X.w HZ sZ Q E) sZ := by
  subst hq
  obtain ⟨⟨oc, vs, t, hoc, hdc, hvc⟩, _, _⟩ := e0.hok c' _ hc
  refine PySem.W.kla_callFunE hr.depth of1 rfl L.co L.gen rfl ⟨c', oc, vs, t, rfl, hoc, hdc, hvc⟩ ?_
  rw [hbind]
  refine wpAny_pure (wpAny_newFunctionEnv (fun y hy => (L.own y hy).2) (fun y hy => absurd hy (by simp)) (fun h₁ hns hsb => ⟨lim.fresh _ hsb, ?_⟩) L.kind)
  show codeAny _ _ (.expr body (lamEnv X scope sZ.heap.objs.size f c')) _ _
  refine PySem.W.kla_codeExpr (wpAny_mono ((hbody A outer sZ HZ (hr.deeper _)).run [] _ _ HZ Q (lam_start2 I L e0 hr.hd un hns fun b o e => hsb.extBut b o (Nat.ne_of_lt (Heap.lt_size e)) (Heap.get?_push_of_some _ e)) ht) (fun v s' z => ?_) fun e s' z => z)
  obtain ⟨w', H', J', rv, z⟩ := z
  exact ⟨w', H', J'.os, J'.bare, J'.base, J'.hok, rv, z⟩
/-- x(), in the def that got the lambda, the frame's values known -/
theorem pe_act2 {CXg : CXT} {Eg : XK} {Ng : List Str} {qg : Str} {sg : Scope} {g f c' : Addr} {cdg pm ctv : Value} {params : Arguments} {body : Expr} {scope : Scope} {k i : Nat} {a : Str} {pn : List (Addr × Obj)} {xe : Value → Shared → Prop} {W : WX} {E : XK} {tb : TE} {σ0 : List (Option V)} {p1 p2 : Pos}
    (I : Inv X pins σ H s) (L : LamS X.env.scope scope) (hf : s.heap.get? f = some (PySem.W.kla_obj "<lambda>" (X.env.qual ++ "<lambda>") params body scope (cloFrom X.env.cells scope.names []) pm c' ctv)) (hfn : H f = none) (hfr : f ∉ frs X.stack)
    (hbind : bindArgs (PySem.W.kla_fn "<lambda>" (X.env.qual ++ "<lambda>") params body scope (cloFrom X.env.cells scope.names []) pm (.ref c') ctv) ⟨[], []⟩ = pure [])
    (tk : Takes ((cxOf CXg X.prog X.w X.K X.mg X.base Ng qg sg g cdg X.A X.stack s H Eg).tr pn xe) W) (hW : ∀ cls d H', E cls d H' → W cls d σ0 H') (hr : Room (k + 1) (X.A.deeper (envOfC qg sg s.heap.objs.size g cdg)))
    (hbody : ∀ (A : Around) (outer : List Env) (s : Shared) (H : Hp), Room k (A.deeper (lamEnv X scope s.heap.objs.size f c')) → PE (lamCx X A outer s H E scope f c') body tb)
    (hN : Ng[i]? = some a) (hv : Vis sg a) (hd : (a == ("__debug__" : Str)) = false := by decide) (hcd : (a == ("__classdict__" : Str)) = false := by decide) :
    PE ((cxOf CXg X.prog X.w X.K X.mg X.base Ng qg sg g cdg X.A X.stack s H Eg).tr pn xe) (.Call (.Name a p1) [] [] p2)
      (fun σZ HZ Q => σZ = σ0 ∧ σZ[i]? = some (some (.ref f)) ∧ HZ c' = some (CodeO c' (X.env.qual ++ "<lambda>")) ∧ tb σ HZ Q) := by
  refine ⟨fun pinsZ sZ σZ HZ Q IZ h => ?_⟩
  obtain ⟨rfl, hs, hc, ht⟩ := h
  refine wpAny_Call_Name_kw (thn ((pe_var (pos := p1) (i := i) hN hv hd hcd).run pinsZ sZ σZ HZ (fun v H1 => v = .ref f ∧ H1 = HZ) IZ ⟨.ref f, hs, rfl, rfl⟩) fun u s1 ⟨v, H1, I1, r1, q1⟩ => ?_)
  obtain ⟨ev, eH⟩ := q1
  subst ev
  rw [eH] at I1
  obtain rfl : u = Value.ref f := r1
  have of1 : s1.heap.get? f = some (PySem.W.kla_obj "<lambda>" (X.env.qual ++ "<lambda>") params body scope (cloFrom X.env.cells scope.names []) pm c' ctv) := I1.base.keep f _ hf hfn hfr (fun z => nomatch (show f ∈ ([] : List Addr) from z))
  refine PySem.W.callWith_F0 ⟨_, _, _, _, of1⟩ ?_
  have lim : s1.heap.NoLimit := I1.nolimit
  have un : Un (frs X.stack) [] H HZ s.heap s1.heap := I1.base
  have e0 : Env0 X.prog X.w X.K X.mg X.base (X.A.deeper (envOfC qg sg s.heap.objs.size g cdg)) (envOfC qg sg s.heap.objs.size g cdg :: X.stack) s1 HZ := I1.env0
  have rc := lam_run (X := X) (E := E) (Q := Q) I L of1 hc hbind rfl hr e0 lim un hbody ht
  refine wpAny_call (codeAny_mono rc fun r s' z => ?_)
  cases r with
  | error er => exact tk er s' (XE.of_call I1 (fun cls d H' h => hW cls d H' h) z)
  | ok fl =>
    cases fl with
    | ret u => exact I1.after z
    | next => exact False.elim z
    | brk => exact False.elim z
    | cont => exact False.elim z
theorem pe_lamcall2 {T : List (Addr × Str)} {TT : V → (XK → Hp → VK → Prop) → Hp → VK → Prop} {x a b : Str} {g c P : Addr} {k j : Nat} {pg : Arguments} {bg : List Stmt} {sg : Scope} {dV kV doc pm cdv ct oc : Value} {an od : Option Addr} {osl : Array (Option Value)} {Ng : List Str}
    {params : Arguments} {body e2 : Expr} {scope : Scope} {t : XK → TE} {p lpos pos : Pos} (hg : Gl X x) (hm : X.mg x = some (.ref g)) (hk : PySem.W.keepIn X.K (.ref g) = true)
    (lk : X.K.lookup g = some ⟨oc, od, .func (PySem.W.fnOf x x pg bg sg dV kV doc pm an cdv ct), osl⟩) (hcg : PySem.W.codeIn X.K cdv x = true) (hb : L2.Binds X.K (PySem.W.fnOf x x pg bg sg dV kV doc pm an cdv ct) [a, b] []) (Sg : FnScope Ng [a, b] sg) (hNg : Ng[0]? = some a) (hva : Vis sg a)
    (hG : GivesTo2 X Ng x sg g cdv bg a (X.env.qual ++ "<lambda>") TT) (he2 : PE X e2 (tVar j))
    (TB : TabB X.base X.mg c P) (hcode : X.env.code = .ref c) (hmT : (P, X.env.qual ++ "<lambda>") ∈ T) (hu : ∀ p ∈ T, p.1 = P → p.2 = X.env.qual ++ "<lambda>") (hr : Room (k + 2) X.A) (L : LamS X.env.scope scope) (hdef : defaultsOf params X.env = ([], []))
    (hbind : ∀ (q : Str) (cl : List (Str × Addr)) (pm cv ctv : Value), bindArgs (PySem.W.kla_fn "<lambda>" q params body scope cl pm cv ctv) ⟨[], []⟩ = pure [])
    (hbody : ∀ (A : Around) (outer : List Env) (s : Shared) (H : Hp) (E : XK) (f c' : Addr), Room k (A.deeper (lamEnv X scope s.heap.objs.size f c')) → PE (lamCx X A outer s H E scope f c') body (t E))
    (hs2 : starEach [e2] X.env = (false, eval e2 X.env) :: starEach [] X.env := by rfl)
    (hdb : (x == ("__debug__" : Str)) = false := by decide) (hd : (a == ("__debug__" : Str)) = false := by decide) (hcd : (a == ("__classdict__" : Str)) = false := by decide) :
    PE X (.Call (.Name x p) [.Lambda params body scope lpos, e2] [] pos) (tLam2 T j TT t) := by
  refine ⟨fun pins s σ H Q I h => ?_⟩
  obtain ⟨v2, hv2, hT, h⟩ := h
  refine wpAny_Call_Name_kw (ld_glob I hg hm ?_ hdb)
  refine PySem.W.callWith_K (h₀ := X.base) I.ok.mod.kin hk ?_ (by rfl) (by rw [hs2]; rfl)
  show wpAny _ _ (spliced ((false, eval (.Lambda params body scope lpos) X.env) :: backTo pos (starEach [e2] X.env))) _ _ s
  refine Calls.spliced_cons (lam_make2 I TB hcode hmT hu hT hdef (L.has I.ok) fun f c' pm' ctv H1 s' I1 eN T1 hf hfn hfr hco => ?_)
  rw [hs2]
  show wpAny _ _ (spliced ((false, eval e2 X.env) :: backTo pos (starEach [] X.env))) _ _ s'
  have fd : ∀ {b : Addr} {o : Obj} {es ep}, s'.heap.get? b = some o → o.data = .dict es ep → f ≠ b := fun {b o es ep} e d z => by
    rw [← z, hf] at e
    cases e
    cases d
  have nL : f ≠ X.env.locals := by
    obtain ⟨m, ⟨o, es, ep, ho, hd', _⟩, _⟩ := I1.loc
    exact fd ho hd'
  have nF : f ∉ X.fs := fun hb => by
    refine hfr ?_
    rcases I1.ok.stk with e | ⟨e, hfm⟩
    · rw [e]
      exact hb
    · rw [e]
      unfold frs
      rw [List.filterMap_cons, hfm]
      exact List.mem_cons_of_mem _ hb
  have I1p : Inv X ((f, PySem.W.kla_obj "<lambda>" (X.env.qual ++ "<lambda>") params body scope (cloFrom X.env.cells scope.names []) pm' c' ctv) :: pins) σ H1 s' :=
    ⟨I1.ok, I1.os, I1.bare, I1.base, I1.loc, I1.cell, I1.free, I1.freeC, fun p hp => by
        rcases List.mem_append.mp hp with hp | hp
        · exact I1.pin p (List.mem_append_left _ hp)
        · rcases List.mem_cons.mp hp with rfl | hp
          · exact ⟨hf, hfn, nL, nF, fun v z => nomatch z⟩
          · exact I1.pin p (List.mem_append_right _ hp), I1.hok, I1.len⟩
  refine Calls.spliced_cons (thn (he2.run _ s' σ H1 (fun v H2 => v = v2 ∧ H2 = H1) I1p ⟨v2, hv2, rfl, rfl⟩) fun u s2 ⟨v, H2, I2, r2, q2⟩ => ?_)
  obtain ⟨rfl, rfl⟩ := q2
  have hf2 := (I2.pin _ (List.mem_append_right _ List.mem_cons_self)).1
  have I2' : Inv X pins σ H2 s2 := ⟨I2.ok, I2.os, I2.bare, I2.base, I2.loc, I2.cell, I2.free, I2.freeC, fun p hp => I2.pin p (by
    rcases List.mem_append.mp hp with hp | hp
    · exact List.mem_append_left _ hp
    · exact List.mem_append_right _ (List.mem_cons_of_mem _ hp)), I2.hok, I2.len⟩
  refine Calls.spliced_nil ⟨I2'.kIn, ?_⟩
  have rc : codeAny (model X.prog X.w) X.A (.call (.ref g) ⟨[.ref f, u], []⟩) (CR C8.CX0 X.stack X.prog X.w H2 s2 Q C8.E0) s2 := by
    refine run_ofS (N := Ng) (ps := [a, b]) (us := [.ref f, u]) (vs := [.ref f, v]) lk hcg Sg hr I2'.env0 (hb s2 [.ref f, u] I2'.kIn rfl) (.cons rfl (.cons r2 .nil)) rfl fun hr' => ?_
    obtain ⟨t', ht', hq'⟩ := hG f c' s2 H2 Q (fun E H' Q' => t E σ H' Q') v (fun W pn xe E σ0 p1 p2 tk hW => pe_act2 (i := 0) I2' L hf2 hfn hfr (hbind _ _ _ _ _) tk hW hr' (fun A outer s H hr2 => hbody A outer s H E f c' hr2) hNg hva hd hcd) hco (h H2 eN T1)
    exact ⟨t', ht'.nox, hq'⟩
  refine wpAny_call (codeAny_mono rc fun r s3 hq => ?_)
  cases r with
  | error e => exact (show False from hq).elim
  | ok fl =>
    cases fl with
    | ret u => exact I2'.after hq
    | next => exact False.elim hq
    | brk => exact False.elim hq
    | cont => exact False.elim hq
end
end Lb

set_option Elab.async false
set_option linter.all false
set_option maxRecDepth 100000
set_option maxHeartbeats 4000000
/-! a dict with one pair, whose key is a tuple: its display, its repr -/
namespace Lb
open PySem PySem.Spec PyProof.Rows L2
def tDispT (tk tv : TE) : TE := fun σ H Q => ∀ p, H p = none → tk σ (upd H p (.dT [])) fun x H1 => tv σ H1 fun y H2 => H2 p = some (.dT []) ∧ ∃ b ks, x = .ref b ∧ H2 b = some (.tup (List.map kV ks)) ∧ Q (.ref p) (upd H2 p (.dT [(ks, y)]))
theorem pe_dispT {X : Cx} {k v : Expr} {tk tv : TE} {pos : Pos} (hu : X.A.units + 1 < cLine) (hk : PE X k tk) (hv : PE X v tv) : PE X (.Dict [some k] [v] pos) (tDispT tk tv) := by
  refine ⟨fun pins s σ H Q I q => ?_⟩
  have hn := I.hok.fresh (Nat.le_refl s.heap.objs.size)
  have I1 := I.laid (a := s.heap.objs.size) (o := .dT []) (h' := s.heap.push { cls := .type "dict", data := .dict #[] }) (t' := s.toks) (fun _ _ q => Heap.get?_push_of_some _ q) (Nat.le_refl _) (dt_empty s.heap I.big)
  refine wpAny_Dict_any rfl rfl (by simp) (by show 1 ≤ 15; decide) ?_
  refine pairTrees_cons_walk (thn (hk.run pins _ σ _ _ I1 (q _ hn)) fun u s1 ⟨x, H1, I2, rx, q1⟩ => thn (hv.run pins s1 σ H1 _ I2 q1) fun w2 s2 ⟨y, H2, I3, ry, e, b, ks, ex, eb, q2⟩ => pairTrees_nil_walk ?_)
  subst ex
  cases (show u = Value.ref b from rx)
  obtain ⟨z, hd, xs, rel, dd⟩ := dt_of I3.hok e
  cases rel
  unfold storeAll
  rw [List.forIn_cons]
  refine wpAny_bind (wpAny_bind (wpAny_dictSet_heap (hsz := Nat.zero_le _) (knd := tupleKind (mixKind X.prog X.w)) (by show X.A.units < cLine; omega) (key_of I3.hok eb) dd fun h' dd' hs => wpAny_pure ?_))
  refine wpAny_pure ?_
  obtain ⟨q', es, ep, hq, h2, h3, h4, _, h5⟩ := dd'
  refine ⟨.ref s.heap.objs.size, _, d_write (ob := .dT [(ks, y)]) I3 (by rw [e]; exact True.intro) hs ⟨q', hq⟩ ⟨(by show 1 ≤ sizeLine; decide), hd, _, .cons ⟨rfl, ?_, ry⟩ .nil, q', es, ep, hq, h2, h3, h4, h5⟩, rfl, q2⟩
  rw [upd_ne (ne_of eb e (fun z => nomatch z))]
  exact eb
def keyT (ks : List Key) : PyData := .tuple (ks.map keyD)
theorem dp_key {K : PySem.W.Frag} {H : Hp} : ∀ ks : List Key, DpAll K H (ks.map kV) (ks.map keyD)
  | [] => .nil
  | .inl i :: r => .cons (.int i) (dp_key r)
  | .inr x :: r => .cons (.str x) (dp_key r)
theorem key_flat : ∀ ks : List Key, flatDs (ks.map keyD) = true
  | [] => rfl
  | .inl _ :: r => by simp only [List.map_cons, flatDs, key_flat r, keyD, flatD, Bool.and_true]
  | .inr _ :: r => by simp only [List.map_cons, flatDs, key_flat r, keyD, flatD, Bool.and_true]
section
variable {X : Cx} {pins : List (Addr × Obj)} {σ : L2.St} {H : Hp} {s : Shared}
theorem keys_readT (I : Inv X pins σ H s) : ∀ {kvs : List (List Key × V)} {xs : List (List Key × Addr × Value)}, KT H kvs xs → ReadsAll s.heap ((xs.map (entryOfKey (tupleKind (mixKind X.prog X.w)))).map (·.key)) (kvs.map fun q => keyT q.1) [] := by
  intro kvs xs r
  induction r with
  | nil => exact .nil
  | @cons p q ps qs h1 _ ih =>
    obtain ⟨as, r1⟩ := Dp.readsAll I [keyT p.1] [.ref q.2.1] [.ref q.2.1] (.cons (.tup (SqT.of h1.2.1) (dp_key p.1)) .nil) (.cons rfl .nil)
    have e1 := reads_flats r1 (by simp only [flatDs, keyT, flatD, key_flat, Bool.and_true])
    subst e1
    have inv : ∀ {zz : List Addr}, ReadsAll s.heap [Value.ref q.2.1] [keyT p.1] zz → ∃ as bs, as ++ bs = zz ∧ Reads s.heap (Value.ref q.2.1) (keyT p.1) as := by
      intro zz r
      cases r with
      | cons r2 r3 => exact ⟨_, _, rfl, r2⟩
    obtain ⟨as, bs, e, r2⟩ := inv r1
    have ea := (List.append_eq_nil_iff.mp e).1
    subst ea
    exact .cons (as := []) (bs := []) r2 ih
end
end Lb

set_option Elab.async false
set_option linter.all false
set_option maxRecDepth 100000
set_option maxHeartbeats 4000000
namespace Lb
open PySem PySem.Spec PyProof.Rows L2
theorem op_eqDK {X : Cx} {K : PySem.W.Frag} (hK : X.K = K) (hu : X.A.units + 64 < cLine) : OpR X (compareOp .Eq) (rEqD K) := by subst hK; exact op_eqD hu
end Lb

set_option Elab.async false
set_option linter.all false
set_option maxRecDepth 100000
set_option maxHeartbeats 4000000
namespace K20
open PySem L2 Lb
open C8 (pss_cut)
/-! lists of texts, of pairs, as data -/
theorem dp_strs {K : PySem.W.Frag} {H : Hp} : ∀ zs : List Str, DpAll K H (zs.map V.str) (zs.map PyData.str)
  | [] => .nil
  | z :: r => .cons (.str z) (dp_strs r)
theorem eqv_strs : ∀ (x y : List Str), PyData.eqvAll (x.map .str) (y.map .str) = decide (x = y)
  | [], [] => by simp [PyData.eqvAll]
  | [], _ :: _ => by simp [PyData.eqvAll]
  | _ :: _, [] => by simp [PyData.eqvAll]
  | a :: r, b :: t => by
    rw [List.map_cons, List.map_cons, PyData.eqvAll, eqv_strs r t]
    show (a == b && decide (r = t)) = _
    rw [Bool.eq_iff_iff]
    simp
theorem eqv_refl_strs (x : List Str) : PyData.eqv (.list (x.map .str)) (.list (x.map .str)) = true := by rw [PyData.eqv, eqv_strs, decide_eq_true rfl]
theorem can_strs : ∀ {x : List Str}, (∀ z ∈ x, nmS z = true) → PyData.canLayAll0 (x.map .str) = true
  | [], _ => by simp [PyData.canLayAll0]
  | z :: r, h => by
    rw [List.map_cons, PyData.canLayAll0, can_strs fun y hy => h y (List.mem_cons_of_mem _ hy)]
    simp [PyData.canLay0, nm_ok (h z List.mem_cons_self)]
theorem depth_strs : ∀ x : List Str, PyData.depthAll (x.map .str) = 0
  | [] => by simp [PyData.depthAll]
  | z :: r => by rw [List.map_cons, PyData.depthAll, depth_strs r]; simp [PyData.depth]
theorem shaped_strs {x : List Str} (h : ∀ z ∈ x, nmS z = true) : SeqAt.shaped (.list (x.map .str)) = true := by
  unfold SeqAt.shaped
  rw [Bool.and_eq_true, PyData.canLay0, PyData.depth, depth_strs]
  exact ⟨can_strs h, by decide⟩
theorem dp_prs {K : PySem.W.Frag} {H : Hp} {xs : List V} {J : List (Str × Str)} (h : PrsA H xs J) : DpAll K H xs (J.map tupD) := by
  unfold PrsA at h
  induction h with
  | nil => exact .nil
  | cons a _ ih => exact .cons (dp_vEn a) ih
theorem eqv_prs : ∀ J : List (Str × Str), PyData.eqvAll (J.map tupD) (J.map tupD) = true
  | [] => by simp [PyData.eqvAll]
  | a :: r => by rw [List.map_cons, PyData.eqvAll, eqv_prs r, eqv_tupD]; simp
theorem shaped_prs {J : List (Str × Str)} (h : ∀ e ∈ J, nmS e.1 = true ∧ nmS e.2 = true) : SeqAt.shaped (.list (J.map tupD)) = true := by
  have c : ∀ {J : List (Str × Str)}, (∀ e ∈ J, nmS e.1 = true ∧ nmS e.2 = true) → PyData.canLayAll0 (J.map tupD) = true ∧ PyData.depthAll (J.map tupD) ≤ 1 := fun {J} => by
    induction J with
    | nil => intro _; exact ⟨by simp [PyData.canLayAll0], by simp [PyData.depthAll]⟩
    | cons e r ih =>
      intro h
      obtain ⟨a, b⟩ := ih fun e he => h e (List.mem_cons_of_mem _ he)
      have := h e List.mem_cons_self
      rw [List.map_cons, PyData.canLayAll0, PyData.depthAll, a]
      refine ⟨by simp [tupD, PyData.canLay0, PyData.canLayAll0, nm_ok this.1, nm_ok this.2], ?_⟩
      simp only [tupD, PyData.depth, PyData.depthAll]
      omega
  unfold SeqAt.shaped
  rw [Bool.and_eq_true, PyData.canLay0, PyData.depth]
  exact ⟨(c h).1, decide_eq_true (by have := (c h).2; omega)⟩
theorem paired_app {α β : Type} {F : α → β → Prop} {xs us : List α} {ys vs : List β} (h : Paired F xs ys) (k : Paired F us vs) : Paired F (xs ++ us) (ys ++ vs) := by
  induction h with
  | nil => exact k
  | cons a _ ih => exact .cons a ih
/-- all pairs -/
def prs (xs zs : List Str) : List (Str × Str) := xs.flatMap fun x => zs.map fun y => (x, y)
theorem prs_len (xs zs : List Str) : (prs xs zs).length = xs.length * zs.length := by
  unfold prs
  induction xs with
  | nil => simp
  | cons x r ih => rw [List.flatMap_cons, List.length_append, ih, List.length_map, List.length_cons, Nat.add_mul, Nat.one_mul, Nat.add_comm]
theorem prs_snoc (xs zs : List Str) (x : Str) : prs (xs ++ [x]) zs = prs xs zs ++ zs.map fun y => (x, y) := by
  unfold prs
  rw [List.flatMap_append]
  simp
theorem prs_mem {xs zs : List Str} {e : Str × Str} (h : e ∈ prs xs zs) : e.1 ∈ xs ∧ e.2 ∈ zs := by
  unfold prs at h
  obtain ⟨x, hx, h⟩ := List.mem_flatMap.mp h
  obtain ⟨y, hy, rfl⟩ := List.mem_map.mp h
  exact ⟨hx, hy⟩
theorem str_get {zs : List Str} {i : Nat} {v : V} (h : (zs.map V.str)[i]? = some v) : ∃ z, zs[i]? = some z ∧ V.str z = v := by
  rw [List.getElem?_map] at h
  cases k : zs[i]? with
  | none => rw [k] at h; cases h
  | some z => rw [k] at h; exact ⟨z, rfl, by simpa using h⟩
theorem nms_len (l : PP) : (nmsOf l).length = l.length := by unfold nmsOf; rw [List.length_map]
theorem Good.nmN {l : PP} (G : Good l) : ∀ z ∈ srt (nmsOf l), nmS z = true := fun z hz => by
  obtain ⟨e, he, rfl⟩ := List.mem_map.mp (srt_mem.mp hz)
  exact (G.nm e he).1
theorem Good.nmP {l : PP} (G : Good l) : ∀ z ∈ nodOf l, nmS z = true := fun z hz => by
  obtain ⟨e, he, rfl | rfl⟩ := mem_nod.mp hz
  · exact (G.nm e he).2.1
  · exact (G.nm e he).2.2.1
def sp_walked (C : Addr) : Sp := fun vs H Q _ => ∃ q d l, vs = [.ref q, .ref d] ∧ NetAt C H q l ∧ H d = some (.lst ((srt (nmsOf l)).map V.str)) ∧ ∀ H', Same H H' → Q (.bl true) H'
section
variable {P : Program} {w : World} {K : PySem.W.Frag} {mg : Str → Option Value} {base : Heap} {a : Ad}
theorem ok_walked_right (T : Txt K mg a) : FnOk P w K mg base CX0 6 a.f_walked_right a.d_walked_right ["_law_made", "_law_names_here"] (sp_walked a.c_Net) := by
  refine T.F_walked_right.ok sc_walked_right (fun vs H Q E h => ?_) (fun cdv A outer s H vs Q E hr h => ?_)
  · obtain ⟨q, d, l, rfl, _⟩ := h
    rfl
  · obtain ⟨q, d, l, rfl, n0, hd, k⟩ := h
    obtain ⟨dx, D, N, T5, R, n⟩ := id n0
    refine ⟨_, (pss_cons (ps_par (i := 2) (j := 3) rfl sc_walked_right.nd rfl rfl (by decide) rfl rfl (pa_cons (pe_lst pa_nil) (pa_cons (pe_lst pa_nil) pa_nil)) (by rfl))
 (pss_cons (ps_for PassesOwn.never rfl (pi_listK (K := K) rfl (pv 1)) (pg_name (i := 4) sc_walked_right.nd rfl (by first | exact Or.inl rfl | exact Or.inr rfl)) (pss_one (ps_expr (pe_bm PySem.F.plainAttrs_list PySem.F.slot_list_extend PySem.F.type_list_extend mt_extend (pv 2) (pa_cons (pe_lc (own := [("_law_other", 5)]) (by rfl) sc_walked_right.nd (pi_listK (K := K) rfl (pv 1)) (blkOk_by (own := [("_law_other", 5)]) (N := ["_law_made", "_law_names_here", "_law_due", "_law_walked", "_law_word", "_law_other"]) (sc := defScope s_walked_right) (by decide +kernel)) (fun _ _ _ _ _ => (pg_name (i := 5) sc_walked_right.nd rfl (by first | exact Or.inl rfl | exact Or.inr rfl))) (fun _ _ _ _ _ => pts_nil) (fun _ _ _ _ _ => (pe_tup (pa_cons (pv 4) (pa_cons (pv 5) pa_nil))))) pa_nil)))))
 (pss_cons (ps_for PassesOwn.never rfl (pi_own (K := K) rfl T.cIt.at_ T.cIt.fn (ok_Net_iter_ T) (b_Net_iter_ T) (hr.mono (by decide)) (pv 0)) (pg_name (i := 4) sc_walked_right.nd rfl (by first | exact Or.inl rfl | exact Or.inr rfl)) (pss_one (ps_expr (pe_bm PySem.F.plainAttrs_list PySem.F.slot_list_extend PySem.F.type_list_extend mt_extend (pv 3) (pa_cons (pe_lc (own := [("_law_other", 5)]) (by rfl) sc_walked_right.nd (pi_own (K := K) rfl T.cIt.at_ T.cIt.fn (ok_Net_iter_ T) (b_Net_iter_ T) (hr.mono (by decide)) (pv 0)) (blkOk_by (own := [("_law_other", 5)]) (N := ["_law_made", "_law_names_here", "_law_due", "_law_walked", "_law_word", "_law_other"]) (sc := defScope s_walked_right) (by decide +kernel)) (fun _ _ _ _ _ => (pg_name (i := 5) sc_walked_right.nd rfl (by first | exact Or.inl rfl | exact Or.inr rfl))) (fun _ _ _ _ _ => pts_nil) (fun _ _ _ _ _ => (pe_tup (pa_cons (pv 4) (pa_cons (pv 5) pa_nil))))) pa_nil)))))
 (pss_one (ps_ret (pe_and (pe_cmpR (op_eqDK (K := K) rfl hr.units) (pv 3) (pv 2) (nomark _)) (pe_and (pe_cmpR (op_eqDK (K := K) rfl hr.units) (pe_callTy (Lb.call_listOwn (K := K) rfl rfl T.cIt.at_ T.cIt.fn (ok_Net_iter_ T) (b_Net_iter_ T) T.cLen.at_ T.cLen.fn ((ok_Net_len_ T).raw (b_Net_len_ T) .nil) (hr.mono (by decide))) (by rfl) T.b_list (by decide +kernel) (pa_cons (pv 0) pa_nil)) (pv 1) (nomark _)) (pe_one (pe_cmpR (op_eqDK (K := K) rfl hr.units) (pe_lc (own := [("_law_word", 4)]) (by rfl) sc_walked_right.nd (pi_own (K := K) rfl T.cIt.at_ T.cIt.fn (ok_Net_iter_ T) (b_Net_iter_ T) (hr.mono (by decide)) (pv 0)) (blkOk_by (own := [("_law_word", 4)]) (N := ["_law_made", "_law_names_here", "_law_due", "_law_walked", "_law_word", "_law_other"]) (sc := defScope s_walked_right) (by decide +kernel)) (fun _ _ _ _ _ => (pg_name (i := 4) sc_walked_right.nd rfl (by first | exact Or.inl rfl | exact Or.inr rfl))) (fun _ _ _ _ _ => pts_nil) (fun _ _ _ _ _ => (pv 4))) (pv 1) (nomark _)))))))))), ?_⟩
    have G := n.good
    have lle := G.le
    have hnm := G.nmN
    have nN := n.nm
    have iN := n.ins
    have lzs : (srt (nmsOf l)).length = l.length := by rw [srt_len, nms_len]
    have lkN := nf_nm D N T5 R
    generalize srt (nmsOf l) = zs at *
    clear n
    have l256 : ∀ i, (prs (zs.take i) zs).length ≤ 256 := fun i => by
      rw [prs_len, List.length_take]
      exact Nat.le_trans (Nat.mul_le_mul (Nat.le_trans (Nat.min_le_right _ _) (Nat.le_trans (Nat.le_of_eq lzs) lle)) (Nat.le_trans (Nat.le_of_eq lzs) lle)) (by decide)
    refine ⟨sz, fun pa hpa => ⟨sz, fun wa hwa => ⟨_, _, rfl, ?_⟩⟩⟩
    have npw : pa ≠ wa := fun z => by rw [← z, upd_same] at hwa; cases hwa
    have hwa0 : H wa = none := by rw [← hwa, upd_ne npw.symm]
    have s0 : Same H (upd (upd H pa (.lst [])) wa (.lst [])) := (Lb.Same.upd hpa).trans (Lb.Same.upd hwa)
    have ep0 : (upd (upd H pa (.lst [])) wa (.lst [])) pa = some (.lst []) := by rw [upd_ne npw, upd_same]
    have ew0 : (upd (upd H pa (.lst [])) wa (.lst [])) wa = some (.lst []) := upd_same
    generalize upd (upd H pa (.lst [])) wa (.lst []) = H0 at *
    refine ⟨_, rfl, d, rfl, ⟨_, SqL.of (s0 _ _ hd)⟩, ?_⟩
    refine for_it walk_list (fun i σ H' => ∃ u4, σ = [some (.ref q), some (.ref d), some (.ref pa), some (.ref wa), u4, none] ∧ Same H H' ∧ H' wa = some (.lst []) ∧ ∃ ps, H' pa = some (.lst ps) ∧ PrsA H' ps (prs (zs.take i) zs))
      ⟨_, rfl, s0, ew0, [], ep0, .nil⟩ (fun i σ H' _ ⟨_, _, b, _⟩ => SqL.of (b _ _ hd)) ?_ ?_
    · rintro i v σ H1 H2 hi ⟨u4, rfl, s1, ew, ps, ep, pp⟩ ⟨rfl, ev⟩
      obtain ⟨x, hx, rfl⟩ := str_get ev
      refine ⟨_, rfl, .inl ⟨rfl, _, SqL.of ep⟩, _, rfl, d, rfl, ⟨_, SqL.of (s1 _ _ hd)⟩, fun D1 hD1 => ?_⟩
      have hd2 := s1 _ _ hd
      refine turns walk_list (fun j H' => Same H2 H' ∧ ∃ qs, H' D1 = some (.lst qs) ∧ PrsA H' qs ((zs.take j).map fun y => (x, y))) ⟨Lb.Same.upd hD1, [], upd_same, .nil⟩ (fun j H' _ b => SqL.of (b.1 _ _ hd2)) ?_ ?_
      · rintro j v H3 H4 hj ⟨s3, qs, eD, pq⟩ ⟨rfl, ev⟩
        obtain ⟨y, hy, rfl⟩ := str_get ev
        refine ⟨rfl, _, rfl, _, rfl, sz, fun t ht => ?_⟩
        have lq := pq.len
        have nDt : D1 ≠ t := ne_of_none eD ht
        have st := Lb.Same.upd (o := .tup [.str x, .str y]) ht
        refine ⟨qs, by rw [upd_ne nDt]; exact eD, szlt (by rw [lq, List.length_map, List.length_take]; omega), Lb.Same.updl (s3.trans st) hD1, _, upd_same, ?_⟩
        rw [← take_snoc hy, List.map_append]
        have t3 : TK (upd H4 t (.tup [.str x, .str y])) (upd (upd H4 t (.tup [.str x, .str y])) D1 (.lst (qs ++ [.ref t]))) := tk_upd fun xs z => by rw [upd_ne nDt, eD] at z; cases z
        exact Paired.snoc (F := fun v e => vEn _ v e) ⟨t, rfl, t3 _ _ upd_same⟩ (pq.tk (st.tk.trans t3))
      · rintro H3 ⟨s3, qs, eD, pq⟩
        rw [List.length_map, List.take_length] at pq
        have ep3 := s3 _ _ ep
        have l1 := l256 i
        have lq := pq.len
        have lp := pp.len
        have nDp : D1 ≠ pa := fun z => by rw [z, ep] at hD1; cases hD1
        refine ⟨pa, D1, _, _, rfl, rfl, ep3, eD, szle (by rw [lq, lp, List.length_map]; omega), _, rfl, Lb.Same.updl (s1.trans s3) hpa, by rw [upd_ne npw.symm]; exact s3 _ _ ew, _, upd_same, ?_⟩
        rw [← take_snoc hx, prs_snoc]
        have t3 : TK H3 (upd H3 pa (.lst (ps ++ qs))) := tk_upd fun xs z => by rw [ep3] at z; cases z
        exact paired_app (pp.tk (s3.tk.trans t3)) (pq.tk t3)
    rintro σ H1 ⟨u4, rfl, s1, ew, ps, ep, pp⟩
    rw [List.length_map, List.take_length] at pp
    have iN1 := s1 _ _ iN
    refine ⟨_, rfl, q, dx, _, N, _, rfl, iN1, lkN, SqL.of (s1 _ _ nN), ?_⟩
    refine for_it walk_list (fun i σ H' => ∃ u4, σ = [some (.ref q), some (.ref d), some (.ref pa), some (.ref wa), u4, none] ∧ Same H H' ∧ (∃ ps, H' pa = some (.lst ps) ∧ PrsA H' ps (prs zs zs)) ∧ ∃ ps, H' wa = some (.lst ps) ∧ PrsA H' ps (prs (zs.take i) zs))
      ⟨_, rfl, s1, ⟨ps, ep, pp⟩, [], ew, .nil⟩ (fun i σ H' _ ⟨_, _, b, _⟩ => SqL.of (b _ _ nN)) ?_ ?_
    · clear ep pp s1 iN1
      rintro i v σ H1 H2 hi ⟨u4, rfl, s1, ⟨p0, ep0, pp0⟩, ps, ep, pp⟩ ⟨rfl, ev⟩
      obtain ⟨x, hx, rfl⟩ := str_get ev
      refine ⟨_, rfl, .inl ⟨rfl, _, SqL.of ep⟩, _, rfl, q, dx, _, N, _, rfl, s1 _ _ iN, lkN, SqL.of (s1 _ _ nN), fun D1 hD1 => ?_⟩
      have hd2 := s1 _ _ nN
      refine turns walk_list (fun j H' => Same H2 H' ∧ ∃ qs, H' D1 = some (.lst qs) ∧ PrsA H' qs ((zs.take j).map fun y => (x, y))) ⟨Lb.Same.upd hD1, [], upd_same, .nil⟩ (fun j H' _ b => SqL.of (b.1 _ _ hd2)) ?_ ?_
      · rintro j v H3 H4 hj ⟨s3, qs, eD, pq⟩ ⟨rfl, ev⟩
        obtain ⟨y, hy, rfl⟩ := str_get ev
        refine ⟨rfl, _, rfl, _, rfl, sz, fun t ht => ?_⟩
        have lq := pq.len
        have nDt : D1 ≠ t := ne_of_none eD ht
        have st := Lb.Same.upd (o := .tup [.str x, .str y]) ht
        refine ⟨qs, by rw [upd_ne nDt]; exact eD, szlt (by rw [lq, List.length_map, List.length_take]; omega), Lb.Same.updl (s3.trans st) hD1, _, upd_same, ?_⟩
        rw [← take_snoc hy, List.map_append]
        have t3 : TK (upd H4 t (.tup [.str x, .str y])) (upd (upd H4 t (.tup [.str x, .str y])) D1 (.lst (qs ++ [.ref t]))) := tk_upd fun xs z => by rw [upd_ne nDt, eD] at z; cases z
        exact Paired.snoc (F := fun v e => vEn _ v e) ⟨t, rfl, t3 _ _ upd_same⟩ (pq.tk (st.tk.trans t3))
      · rintro H3 ⟨s3, qs, eD, pq⟩
        rw [List.length_map, List.take_length] at pq
        have ep3 := s3 _ _ ep
        have l1 := l256 i
        have lq := pq.len
        have lp := pp.len
        have t3 : TK H3 (upd H3 wa (.lst (ps ++ qs))) := tk_upd fun xs z => by rw [ep3] at z; cases z
        refine ⟨wa, D1, _, _, rfl, rfl, ep3, eD, szle (by rw [lq, lp, List.length_map]; omega), _, rfl, Lb.Same.updl (s1.trans s3) hwa0, ⟨p0, by rw [upd_ne npw]; exact s3 _ _ ep0, pp0.tk (s3.tk.trans t3)⟩, _, upd_same, ?_⟩
        rw [← take_snoc hx, prs_snoc]
        exact paired_app (pp.tk (s3.tk.trans t3)) (pq.tk t3)
    clear ep pp s1 iN1
    rintro σ H1 ⟨u4, rfl, s1, ⟨p0, ep0, pp0⟩, ps, ep, pp⟩
    rw [List.length_map, List.take_length] at pp
    have hpr : ∀ e ∈ prs zs zs, nmS e.1 = true ∧ nmS e.2 = true := fun e he => ⟨hnm _ (prs_mem he).1, hnm _ (prs_mem he).2⟩
    refine ⟨_, rfl, _, rfl, _, _, .lst (SqL.of ep) (dp_prs pp), .lst (SqL.of ep0) (dp_prs pp0), shaped_prs hpr, shaped_prs hpr, ?_⟩
    rw [PyData.eqv, eqv_prs]
    refine ⟨_, rfl, iteT ?_⟩
    have nd1 := s1 _ _ hd
    have n1 := n0.same s1
    refine ⟨_, rfl, q, dx, _, N, _, rfl, s1 _ _ iN, lkN, SqL.of (s1 _ _ nN), by rw [List.length_map]; omega, fun c hc => ?_⟩
    have sc : Same H1 (upd H1 c (.lst [])) := Lb.Same.upd hc
    have ncN : N ≠ c := ne_of_none (s1 _ _ nN) hc
    refine ⟨q, l, rfl, n1.same sc, l.length, rfl, by omega, l.length, rfl, by omega, upd_same, ncN, SqL.of (sc _ _ (s1 _ _ nN)), _, rfl, ?_⟩
    have sc2 : Same H1 (upd (upd H1 c (.lst [])) c (.lst (zs.map V.str))) := Lb.Same.updl sc hc
    have ec2 : (upd (upd H1 c (.lst [])) c (.lst (zs.map V.str))) c = some (.lst (zs.map V.str)) := upd_same
    generalize upd (upd H1 c (.lst [])) c (.lst (zs.map V.str)) = H2 at *
    refine ⟨_, _, .lst (SqL.of ec2) (dp_strs zs), .lst (SqL.of (sc2 _ _ nd1)) (dp_strs zs), shaped_strs hnm, shaped_strs hnm, ?_⟩
    rw [eqv_refl_strs]
    refine ⟨_, rfl, iteT ?_⟩
    have s2 := s1.trans sc2
    refine ⟨_, rfl, q, dx, _, N, _, rfl, s2 _ _ iN, lkN, SqL.of (s2 _ _ nN), fun D1 hD1 => ?_⟩
    refine turns walk_list (fun j H' => Same H2 H' ∧ H' D1 = some (.lst ((zs.take j).map V.str))) ⟨Lb.Same.upd hD1, upd_same⟩ (fun j H' _ b => SqL.of (b.1 _ _ (s2 _ _ nN))) ?_ ?_
    · rintro j v H3 H4 hj ⟨s3, eD⟩ ⟨rfl, ev⟩
      obtain ⟨y, hy, rfl⟩ := str_get ev
      refine ⟨rfl, _, rfl, _, eD, szlt (by rw [List.length_map, List.length_take]; omega), Lb.Same.updl s3 hD1, ?_⟩
      rw [upd_same, ← take_snoc hy, List.map_append]
      rfl
    · rintro H3 ⟨s3, eD⟩
      rw [List.length_map, List.take_length] at eD
      have s4 := s2.trans s3
      refine ⟨_, rfl, _, _, .lst (SqL.of eD) (dp_strs zs), .lst (SqL.of (s4 _ _ hd)) (dp_strs zs), shaped_strs hnm, shaped_strs hnm, ?_⟩
      rw [eqv_refl_strs]
      exact k _ s4
end
end K20

set_option Elab.async false
set_option linter.all false
set_option maxRecDepth 100000
set_option maxHeartbeats 4000000
namespace K20
open PySem L2 Lb
open C8 (pss_cut)
theorem cps_app (x y : Str) : (x ++ y).cps.toList = x.cps.toList ++ y.cps.toList := by
  show (x.cps ++ y.cps).toList = _
  simp
theorem rp_join (J : Str) : Str.empty ++ ("Net(" : Str) ++ (("{" : Str) ++ J ++ ("}" : Str)) ++ (")" : Str) = ("Net({" : Str) ++ J ++ ("})" : Str) := by
  refine str_ext ?_
  simp only [cps_app]
  rw [show (Str.empty : Str).cps.toList = [] from rfl, show ("Net({" : Str).cps.toList = ("Net(" : Str).cps.toList ++ ("{" : Str).cps.toList by decide +kernel, show ("})" : Str).cps.toList = ("}" : Str).cps.toList ++ (")" : Str).cps.toList by decide +kernel]
  simp only [List.nil_append, List.append_assoc]
theorem rpP_eq (l : PP) : rpP l = ("Net({" : Str) ++ Txt.join ", " ((srtP l).map entT) ++ ("})" : Str) := by
  unfold rpP
  rw [shown_ent, TL.join_eq]
  exact rp_join _
theorem srtP_map (l : PP) : (srt (nmsOf l)).map (fun z => entT (z, getP l z)) = (srtP l).map entT := by
  unfold srtP
  rw [List.map_map]
  rfl
def sp_shown (C : Addr) : Sp := fun vs H Q _ => ∃ q d l, vs = [.ref q, .ref d] ∧ NetAt C H q l ∧ DA H d l ∧ ∀ H', Same H H' → Q (.bl true) H'
section
variable {P : Program} {w : World} {K : PySem.W.Frag} {mg : Str → Option Value} {base : Heap} {a : Ad}
theorem ok_shown_right (T : Txt K mg a) : FnG P w K mg base CX0 7 a.f_shown_right a.d_shown_right ["_law_made", "_law_entries"] (sp_shown a.c_Net) := by
  refine okG T.F_shown_right sc_shown_right (fun vs H Q E h => ?_) (fun cdv A outer s H vs Q E gu hr h => ?_)
  · obtain ⟨q, d, l, rfl, _⟩ := h
    rfl
  · obtain ⟨q, d, l, rfl, n0, hda, k⟩ := h
    refine ⟨_, (pss_cons (ps_par (i := 2) (j := 3) rfl sc_shown_right.nd rfl rfl (by decide) rfl rfl (pa_cons (pe_callB (call_sortedD rfl) (by rfl) T.b_sorted (by decide +kernel) (pa_cons (pv 1) pa_nil)) (pa_cons (pe_call (ok_points T) (hr.mono (by decide)) (by rfl) T.m_points T.F_points.kp (b_points T) .nil pass0 (pa_cons (pv 1) pa_nil)) pa_nil)) (by rfl))
 (pss_cons (ps_if (pt_not (pt_val (pe_call (ok_walked_right T) (hr.mono (by decide)) (by rfl) T.m_walked_right T.F_walked_right.kp (b_walked_right T) .nil pass0 (pa_cons (pv 0) (pa_cons (pv 2) pa_nil))))) (pss_one (ps_ret pe_bl)) pss_nil)
 (pss_cons (ps_if (pt_cmpR (op_neDK2 (K := K) rfl hr.units) (pe_lst (pa_cons (pe_prop (pv 0) T.cl T.pN (ok_Netnodes T) (hr.mono (by decide)) (b_Netnodes T) .nil pass0 rfl) (pa_cons (pe_meth0 (pv 0) T.cl T.mNames (ok_Netnames T) (hr.mono (by decide)) (b_Netnames T) .nil pass0) (pa_cons (pe_callB (call_lenOwn (K := K) rfl T.cLen.at_ T.cLen.fn ((ok_Net_len_ T).raw (b_Net_len_ T) .nil) (hr.mono (by decide))) (by rfl) T.b_len (by decide +kernel) (pa_cons (pv 0) pa_nil)) pa_nil)))) (pe_lst (pa_cons (pe_callTy (call_tuple_ofK (K := K) rfl) (by rfl) T.b_tuple (by decide +kernel) (pa_cons (pv 3) pa_nil)) (pa_cons (pv 2) (pa_cons (pe_callB (call_lenK (K := K) rfl) (by rfl) T.b_len (by decide +kernel) (pa_cons (pv 2) pa_nil)) pa_nil)))) (nomark _)) (pss_one (ps_ret pe_bl)) pss_nil)
 (pss_cons (ps_set (i := 4) sc_shown_right.nd rfl (by first | exact Or.inl rfl | exact Or.inr rfl) (pe_meth0 (pv 0) T.cl T.mNames (ok_Netnames T) (hr.mono (by decide)) (b_Netnames T) .nil pass0))
 (pss_cons (ps_expr (pe_bm PySem.F.plainAttrs_list PySem.F.slot_list_append PySem.F.type_list_append mt_append (pv 4) (pa_cons pe_str pa_nil)))
 (pss_cons (ps_expr (pe_bm0 PySem.F.plainAttrs_list PySem.F.slot_list_reverse PySem.F.type_list_reverse mt_reverse (pv 4)))
 (pss_cons (ps_if (pt_cmpR (op_neDK2 (K := K) rfl hr.units) (pe_lst (pa_cons (pe_meth0 (pv 0) T.cl T.mNames (ok_Netnames T) (hr.mono (by decide)) (b_Netnames T) .nil pass0) (pa_cons (pe_callB (call_lenOwn (K := K) rfl T.cLen.at_ T.cLen.fn ((ok_Net_len_ T).raw (b_Net_len_ T) .nil) (hr.mono (by decide))) (by rfl) T.b_len (by decide +kernel) (pa_cons (pv 0) pa_nil)) pa_nil))) (pe_lst (pa_cons (pv 2) (pa_cons (pe_callB (call_lenK (K := K) rfl) (by rfl) T.b_len (by decide +kernel) (pa_cons (pv 2) pa_nil)) pa_nil))) (nomark _)) (pss_one (ps_ret pe_bl)) pss_nil)
 (pss_cons (ps_if (pt_cmpR (op_neDK2 (K := K) rfl hr.units) (pe_lc (own := [("_law_word", 5)]) (by rfl) sc_shown_right.nd (pi_listK (K := K) rfl (pv 2)) (blkOk_by (own := [("_law_word", 5)]) (N := ["_law_made", "_law_entries", "_law_names_here", "_law_points_here", "_law_told", "_law_word", "_law_pairs"]) (sc := defScope s_shown_right) (by decide +kernel)) (fun _ _ _ _ _ => (pg_name (i := 5) sc_shown_right.nd rfl (by first | exact Or.inl rfl | exact Or.inr rfl))) (fun _ _ _ _ _ => pts_nil) (fun _ _ _ _ _ => (pe_getOwn (K := K) (E := E0) rfl T.noSeq T.cGet.at_ T.fGet T.cGet.fn ((ok_Net_getitem_ T).raw (b_Net_getitem_ T) .nil) (hr.mono (by decide)) pass0 (pv 0) (pv 5) (fun _ _ => rfl)))) (pe_lc (own := [("_law_word", 5)]) (by rfl) sc_shown_right.nd (pi_listK (K := K) rfl (pv 2)) (blkOk_by (own := [("_law_word", 5)]) (N := ["_law_made", "_law_entries", "_law_names_here", "_law_points_here", "_law_told", "_law_word", "_law_pairs"]) (sc := defScope s_shown_right) (by decide +kernel)) (fun _ _ _ _ _ => (pg_name (i := 5) sc_shown_right.nd rfl (by first | exact Or.inl rfl | exact Or.inr rfl))) (fun _ _ _ _ _ => pts_nil) (fun _ _ _ _ _ => (pe_dget (hu_of hr) (pv 1) (pv 5) (fun _ _ => rfl)))) (nomark _)) (pss_one (ps_ret pe_bl)) pss_nil)
 (pss_cons (ps_setLc (i := 6) (own := [("_law_word", 5)]) rfl sc_shown_right.nd rfl rfl (sw_true rfl rfl rfl (by decide +kernel)) (pi_listK (K := K) rfl (pv 2)) (blkOk_by (own := [("_law_word", 5)]) (N := ["_law_made", "_law_entries", "_law_names_here", "_law_points_here", "_law_told", "_law_word", "_law_pairs"]) (sc := defScope s_shown_right) (by decide +kernel)) (fun _ _ _ _ _ => (pg_name (i := 5) sc_shown_right.nd rfl (by first | exact Or.inl rfl | exact Or.inr rfl))) (fun _ _ _ _ _ => pts_nil) (fun _ _ _ _ _ => (pe_op op_add_str (pe_op op_add_str (pe_callB (call_repr (K := K) rfl gu hr.units) (by rfl) T.b_repr (by decide +kernel) (pa_cons (pv 5) pa_nil)) pe_str) (pe_callB (call_repr (K := K) rfl gu hr.units) (by rfl) T.b_repr (by decide +kernel) (pa_cons (pe_dget (hu_of hr) (pv 1) (pv 5) (fun _ _ => rfl)) pa_nil)))))
 (pss_one (ps_ret (pe_cmpR op_eq (pe_callB (call_reprOwnG T.cRe.at_ T.cRe.fn (ok_Net_repr_ T) (b_Net_repr_ T) gu (hr.mono (by decide))) (by rfl) T.b_repr (by decide +kernel) (pa_cons (pv 0) pa_nil)) (pe_op op_add_str (pe_op op_add_str pe_str (pe_joinK (K := K) rfl pe_str (pv 6))) pe_str) (nomark _))))))))))))), ?_⟩
    obtain ⟨kv, hd, ekv⟩ := id hda
    have G : Good l := let ⟨_, _, _, _, _, n⟩ := n0; n.good
    have lle := G.le
    have l8 := G.le8
    have hnm := G.nmN
    have hnp : ∀ z ∈ pts l, nmS z = true := fun z hz => G.nmP z (srtS_mem.mp hz)
    have lzs : (srt (nmsOf l)).length = l.length := by rw [srt_len, nms_len]
    have lnn := nms_len l
    refine ⟨_, rfl, d, kv, nmsOf l, rfl, .inl hd, ekv.keys, by omega, fun ys S perm so hS => ?_⟩
    obtain rfl := srt_of perm so
    have s1 : Same H (upd H S (.lst ((srt (nmsOf l)).map V.str))) := Lb.Same.upd hS
    have eS : (upd H S (.lst ((srt (nmsOf l)).map V.str))) S = some (.lst ((srt (nmsOf l)).map V.str)) := upd_same
    generalize upd H S (.lst ((srt (nmsOf l)).map V.str)) = H1 at *
    refine ⟨_, rfl, d, l, rfl, hda.same s1, by omega, fun H2 Pt s2 hPt ePt => ⟨_, _, rfl, ?_⟩⟩
    have s12 := s1.trans s2
    refine ⟨_, rfl, _, rfl, q, S, l, rfl, n0.same s12, s2 _ _ eS, fun H3 s3 => ⟨_, rfl, iteF ?_⟩⟩
    have s13 := s12.trans s3
    have eS3 := s3 _ _ (s2 _ _ eS)
    have ePt3 := s3 _ _ ePt
    have n3 := n0.same s13
    obtain ⟨dx, D, N, T5, R, n⟩ := id n0
    have ins : ∀ {H'}, Same H H' → H' q = some (.ins a.c_Net dx (netF D N T5 R)) := fun s => s _ _ n.ins
    have lNames : (netF D N T5 R).lookup ("names" : Str) = none := nf_not D N T5 R (by decide +kernel) (by decide +kernel) (by decide +kernel) (by decide +kernel)
    refine ⟨_, rfl, q, dx, _, rfl, ins s13, q, l, rfl, n3, fun t ht => ?_⟩
    refine ⟨_, rfl, q, dx, _, rfl, ins s13, lNames, q, l, rfl, n3, fun H4 p4 s4 hp4 ep4 => ?_⟩
    have s14 := s13.trans s4
    refine ⟨_, rfl, q, dx, _, rfl, ins s14, q, l, rfl, n0.same s14, l.length, rfl, by omega, ?_⟩
    refine ⟨sz, fun L1 hL1 => ?_⟩
    have sL1 := Lb.Same.upd (o := .lst [.ref t, .ref p4, .int (l.length : Nat)]) hL1
    have eL1 : (upd H4 L1 (.lst [.ref t, .ref p4, .int (l.length : Nat)])) L1 = some (.lst [.ref t, .ref p4, .int (l.length : Nat)]) := upd_same
    generalize upd H4 L1 (.lst [.ref t, .ref p4, .int (l.length : Nat)]) = H5 at *
    have s35 := s4.trans sL1
    have s15 := s13.trans s35
    have eS5 := s35 _ _ eS3
    have ePt5 := s35 _ _ ePt3
    refine ⟨_, rfl, Pt, _, rfl, .inl ⟨SqL.of ePt5, fun t2 ht2 => ?_⟩⟩
    have st2 := Lb.Same.upd (o := .tup ((pts l).map V.str)) ht2
    have et2 : (upd H5 t2 (.tup ((pts l).map V.str))) t2 = some (.tup ((pts l).map V.str)) := upd_same
    generalize upd H5 t2 (.tup ((pts l).map V.str)) = H6 at *
    refine ⟨_, rfl, _, rfl, S, _, rfl, .inl (SqL.of (st2 _ _ eS5)), sz, fun L2 hL2 => ?_⟩
    have sL2 := Lb.Same.upd (o := .lst [.ref t2, .ref S, .int ((((srt (nmsOf l)).map V.str).length : Nat) : Int)]) hL2
    have eL2 : (upd H6 L2 (.lst [.ref t2, .ref S, .int ((((srt (nmsOf l)).map V.str).length : Nat) : Int)])) L2 = some (.lst [.ref t2, .ref S, .int ((((srt (nmsOf l)).map V.str).length : Nat) : Int)]) := upd_same
    generalize upd H6 L2 (.lst [.ref t2, .ref S, .int ((((srt (nmsOf l)).map V.str).length : Nat) : Int)]) = H7 at *
    rw [List.length_map, lzs] at eL2
    have s57 := st2.trans sL2
    have s17 := s15.trans s57
    have dA : ∀ {t p : Addr}, H7 t = some (.tup ((pts l).map V.str)) → H7 p = some (.lst ((srt (nmsOf l)).map V.str)) → DpAll K H7 [.ref t, .ref p, .int (l.length : Nat)] [.tuple ((pts l).map .str), .list ((srt (nmsOf l)).map .str), .int (l.length : Nat)] := fun h1 h2 =>
      .cons (.tup (SqT.of h1) (dp_strs _)) (.cons (.lst (SqL.of h2) (dp_strs _)) (.cons (.int _) .nil))
    have shA : SeqAt.shaped (.list [.tuple ((pts l).map .str), .list ((srt (nmsOf l)).map .str), .int (l.length : Nat)]) = true := by
      unfold SeqAt.shaped
      rw [Bool.and_eq_true]
      refine ⟨?_, decide_eq_true ?_⟩
      · simp only [PyData.canLay0, PyData.canLayAll0, can_strs hnm, can_strs hnp, Bool.and_true, Bool.true_and]
        try decide
      · simp only [PyData.depth, PyData.depthAll, depth_strs]
        decide
    refine ⟨_, _, .lst (SqL.of (s57 _ _ eL1)) (dA (s57 _ _ (s35 _ _ ht)) ((sL1.trans s57) _ _ ep4)), .lst (SqL.of eL2) (dA (sL2 _ _ et2) (s57 _ _ eS5)), shA, shA, ?_⟩
    rw [show PyData.eqv (.list [.tuple ((pts l).map .str), .list ((srt (nmsOf l)).map .str), .int (l.length : Nat)]) (.list [.tuple ((pts l).map .str), .list ((srt (nmsOf l)).map .str), .int (l.length : Nat)]) = true by
      simp only [PyData.eqv, PyData.eqvAll, eqv_strs, decide_true, Bool.true_and, Bool.and_true]
      try simp]
    refine ⟨_, rfl, iteF ?_⟩
    refine ⟨_, rfl, q, dx, _, rfl, ins s17, lNames, q, l, rfl, n0.same s17, fun H8 W s8 hW eW => ?_⟩
    have s18 := s17.trans s8
    have hW0 : H W = none := Lb.Same.free s17 hW
    have hW7 := hW
    refine ⟨_, rfl, .inl ⟨rfl, _, SqL.of eW⟩, W, _, _, rfl, rfl, eW, szlt (by rw [List.length_map, lzs]; omega), ?_⟩
    have s19 : Same H7 (upd H8 W (.lst ((srt (nmsOf l)).map V.str ++ [V.str "zz"]))) := Lb.Same.updl s8 hW
    have eW9 : (upd H8 W (.lst ((srt (nmsOf l)).map V.str ++ [V.str "zz"]))) W = some (.lst ((srt (nmsOf l)).map V.str ++ [V.str "zz"])) := upd_same
    generalize upd H8 W (.lst ((srt (nmsOf l)).map V.str ++ [V.str "zz"])) = H9 at *
    refine ⟨_, rfl, .inl ⟨rfl, _, SqL.of eW9⟩, W, _, rfl, rfl, eW9, ?_⟩
    have s20 : Same H7 (upd H9 W (.lst ((srt (nmsOf l)).map V.str ++ [V.str "zz"]).reverse)) := Lb.Same.updl s19 hW
    generalize upd H9 W (.lst ((srt (nmsOf l)).map V.str ++ [V.str "zz"]).reverse) = H10 at *
    clear s8 s18 eW s19 eW9 hW7
    have sA := s17.trans s20
    have eSA := (s57.trans s20) _ _ eS5
    have dA2 : ∀ {H' : Hp} {p : Addr}, H' p = some (.lst ((srt (nmsOf l)).map V.str)) → DpAll K H' [.ref p, .int (l.length : Nat)] [.list ((srt (nmsOf l)).map .str), .int (l.length : Nat)] := fun h2 =>
      .cons (.lst (SqL.of h2) (dp_strs _)) (.cons (.int _) .nil)
    have shA2 : SeqAt.shaped (.list [.list ((srt (nmsOf l)).map .str), .int (l.length : Nat)]) = true := by
      unfold SeqAt.shaped
      rw [Bool.and_eq_true]
      refine ⟨?_, decide_eq_true ?_⟩
      · simp only [PyData.canLay0, PyData.canLayAll0, can_strs hnm, Bool.and_true, Bool.true_and]
        try decide
      · simp only [PyData.depth, PyData.depthAll, depth_strs]
        decide
    refine ⟨_, rfl, q, dx, _, rfl, ins sA, lNames, q, l, rfl, n0.same sA, fun H11 p11 s11 hp11 ep11 => ?_⟩
    have sB := sA.trans s11
    refine ⟨_, rfl, q, dx, _, rfl, ins sB, q, l, rfl, n0.same sB, l.length, rfl, by omega, sz, fun L3 hL3 => ?_⟩
    have sL3 := Lb.Same.upd (o := .lst [.ref p11, .int (l.length : Nat)]) hL3
    have eL3 : (upd H11 L3 (.lst [.ref p11, .int (l.length : Nat)])) L3 = some (.lst [.ref p11, .int (l.length : Nat)]) := upd_same
    generalize upd H11 L3 (.lst [.ref p11, .int (l.length : Nat)]) = H12 at *
    refine ⟨_, rfl, _, rfl, S, _, rfl, .inl (SqL.of ((s11.trans sL3) _ _ eSA)), sz, fun L4 hL4 => ?_⟩
    rw [List.length_map, lzs]
    have sL4 := Lb.Same.upd (o := .lst [.ref S, .int (l.length : Nat)]) hL4
    have eL4 : (upd H12 L4 (.lst [.ref S, .int (l.length : Nat)])) L4 = some (.lst [.ref S, .int (l.length : Nat)]) := upd_same
    generalize upd H12 L4 (.lst [.ref S, .int (l.length : Nat)]) = H13 at *
    have sC := (s11.trans sL3).trans sL4
    have eS13 := sC _ _ eSA
    refine ⟨_, _, .lst (SqL.of (sL4 _ _ eL3)) (dA2 ((sL3.trans sL4) _ _ ep11)), .lst (SqL.of eL4) (dA2 eS13), shA2, shA2, ?_⟩
    rw [show PyData.eqv (.list [.list ((srt (nmsOf l)).map .str), .int (l.length : Nat)]) (.list [.list ((srt (nmsOf l)).map .str), .int (l.length : Nat)]) = true by
      simp only [PyData.eqv, PyData.eqvAll, eqv_strs, decide_true, Bool.true_and, Bool.and_true]
      try simp]
    refine ⟨_, rfl, iteF ?_⟩
    have sD := sA.trans sC
    -- what is at a name
    have at_ : ∀ {z : Str}, z ∈ srt (nmsOf l) → ∃ e, l.lookup z = some e ∧ getP l z = e ∧ nmS z = true ∧ nmS e.1 = true ∧ nmS e.2 = true := fun {z} hz => by
      obtain ⟨e, he⟩ := lookup_some (srt_mem.mp hz)
      have := G.nm _ (mem_lookup he)
      exact ⟨e, he, by unfold getP; rw [he]; rfl, this.1, this.2.1, this.2.2.1⟩
    have shP : ∀ e ∈ (srt (nmsOf l)).map (getP l), nmS e.1 = true ∧ nmS e.2 = true := fun e he => by
      obtain ⟨z, hz, rfl⟩ := List.mem_map.mp he
      obtain ⟨e, _, q2, _, q3, q4⟩ := at_ hz
      rw [q2]
      exact ⟨q3, q4⟩
    refine ⟨_, rfl, S, rfl, ⟨_, SqL.of eS13⟩, fun D1 hD1 => ?_⟩
    refine turns walk_list (fun j H' => Same H13 H' ∧ ∃ us, H' D1 = some (.lst us) ∧ PrsA H' us (((srt (nmsOf l)).take j).map (getP l))) ⟨Lb.Same.upd hD1, [], upd_same, .nil⟩ (fun j H' _ b => SqL.of (b.1 _ _ eS13)) ?_ ?_
    · rintro j v H14 H15 hj ⟨s15, us, eD, pu⟩ ⟨rfl, ev⟩
      obtain ⟨z, hz, rfl⟩ := str_get ev
      obtain ⟨e, q1, q2, q3, q4, q5⟩ := at_ (List.mem_of_getElem? hz)
      have lu := pu.len
      refine ⟨rfl, _, rfl, _, rfl, q, dx, _, rfl, ins (sD.trans s15), q, l, z, e, rfl, n0.same (sD.trans s15), q1, fun u hu => ⟨us, eD, szlt (by rw [lu, List.length_map, List.length_take]; omega), Lb.Same.updl s15 hD1, _, upd_same, ?_⟩⟩
      have t3 : TK H15 (upd H15 D1 (.lst (us ++ [u]))) := tk_upd fun xs z => by rw [eD] at z; cases z
      rw [← take_snoc hz, List.map_append]
      exact Paired.snoc (F := fun v e => vEn _ v e) (by rw [q2]; exact hu.tk t3) (pu.tk t3)
    rintro H14 ⟨s14, us, eD, pu⟩
    rw [List.length_map, List.take_length] at pu
    have sE := sD.trans s14
    have eS14 := s14 _ _ eS13
    refine ⟨_, rfl, S, rfl, ⟨_, SqL.of eS14⟩, fun D2 hD2 => ?_⟩
    refine turns walk_list (fun j H' => Same H14 H' ∧ ∃ us, H' D2 = some (.lst us) ∧ PrsA H' us (((srt (nmsOf l)).take j).map (getP l))) ⟨Lb.Same.upd hD2, [], upd_same, .nil⟩ (fun j H' _ b => SqL.of (b.1 _ _ eS14)) ?_ ?_
    · rintro j v H15 H16 hj ⟨s15, us, eD, pu⟩ ⟨rfl, ev⟩
      obtain ⟨z, hz, rfl⟩ := str_get ev
      obtain ⟨e, q1, q2, q3, q4, q5⟩ := at_ (List.mem_of_getElem? hz)
      have sF := sE.trans s15
      obtain ⟨u, hu, hv⟩ := (ekv.tk sF.tk).val_some q1
      have hg : DGet H16 d (.str z) (some u) := by rw [← hu]; exact DGet.k (k := Sum.inr z) (sF _ _ hd)
      have lu := pu.len
      refine ⟨rfl, _, rfl, _, rfl, d, u, rfl, hg, us, eD, szlt (by rw [lu, List.length_map, List.length_take]; omega), Lb.Same.updl s15 hD2, _, upd_same, ?_⟩
      have t3 : TK H16 (upd H16 D2 (.lst (us ++ [u]))) := tk_upd fun xs z => by rw [eD] at z; cases z
      rw [← take_snoc hz, List.map_append]
      exact Paired.snoc (F := fun v e => vEn _ v e) (by rw [q2]; exact hv.tk t3) (pu.tk t3)
    rintro H15 ⟨s15, us2, eD2, pu2⟩
    rw [List.length_map, List.take_length] at pu2
    refine ⟨_, _, .lst (SqL.of (s15 _ _ eD)) (dp_prs (pu.tk s15.tk)), .lst (SqL.of eD2) (dp_prs pu2), shaped_prs shP, shaped_prs shP, ?_⟩
    rw [PyData.eqv, eqv_prs]
    refine ⟨_, rfl, iteF ?_⟩
    have sG := sE.trans s15
    have eS15 := s15 _ _ eS14
    refine ⟨_, rfl, S, rfl, ⟨_, SqL.of eS15⟩, fun D3 hD3 => ?_⟩
    refine turns walk_list (fun j H' => Same H15 H' ∧ H' D3 = some (.lst ((((srt (nmsOf l)).take j).map fun z => entT (z, getP l z)).map V.str))) ⟨Lb.Same.upd hD3, upd_same⟩ (fun j H' _ b => SqL.of (b.1 _ _ eS15)) ?_ ?_
    · rintro j v H16 H17 hj ⟨s16, eD⟩ ⟨rfl, ev⟩
      obtain ⟨z, hz, rfl⟩ := str_get ev
      obtain ⟨e, q1, q2, q3, q4, q5⟩ := at_ (List.mem_of_getElem? hz)
      have sF := sG.trans s16
      obtain ⟨u, hu, hv⟩ := (ekv.tk sF.tk).val_some q1
      have hg : DGet H17 d (.str z) (some u) := by rw [← hu]; exact DGet.k (k := Sum.inr z) (sF _ _ hd)
      have lr := nm_repr q3
      have lt := tupD_len q4 q5
      have l2 : (": " : Str).length = 2 := by decide +kernel
      refine ⟨rfl, _, rfl, _, .str z, rfl, .str z, rfl, ?_, ?_, ?_⟩
      · simp only [PyData.shown]; rw [sizeLine_eq]; omega
      · simp [PyData.depth]
      rw [show (PyData.str z).shown = PySem.reprText z by simp only [PyData.shown]]
      refine ⟨_, _, rfl, rfl, by rw [l2, sizeLine_eq]; omega, _, rfl, _, rfl, d, u, rfl, hg, _, tupD e, rfl, dp_vEn hv, ?_, by rw [sizeLine_eq]; omega, ?_, _, _, rfl, rfl, ?_, _, eD, szlt (by rw [List.length_map, List.length_map, List.length_take]; omega), Lb.Same.updl s16 hD3, ?_⟩
      · simp [tupD, PyData.showable, PyData.showableAll]
      · simp [tupD, PyData.depth, PyData.depthAll]
      · rw [strLen_append, l2, sizeLine_eq]; omega
      · rw [upd_same, ← take_snoc hz, List.map_append, List.map_append, List.map_cons, List.map_nil, List.map_cons, List.map_nil, q2]
        rfl
    rintro H16 ⟨s16, eD3⟩
    rw [List.length_map, List.take_length, srtP_map] at eD3
    have sH := sG.trans s16
    refine ⟨_, rfl, q, dx, _, rfl, ins sH, q, l, rfl, n0.same sH, _, rfl, ?_⟩
    have hEl : ∀ t ∈ (srtP l).map entT, t.length ≤ 260 := fun t ht => by
      obtain ⟨e, he, rfl⟩ := List.mem_map.mp ht
      have := G.nm e ((mem_srtP G.nd).mp he)
      exact entT_len this.1 this.2.1 this.2.2.1
    have h1 := sum_le hEl
    have h2 := join_le ", " ((srtP l).map entT)
    have l2 : (", " : Str).length = 2 := by decide +kernel
    have l3 : ("Net({" : Str).length = 5 := by decide +kernel
    have l4 : ("})" : Str).length = 2 := by decide +kernel
    rw [l2] at h2
    rw [List.length_map, srtP_len] at h1 h2
    refine ⟨⟨_, rfl⟩, _, rfl, _, D3, _, rfl, rfl, .inl (SqL.of eD3), ?_, _, _, rfl, rfl, ?_, _, _, rfl, rfl, ?_, rfl, ?_⟩
    · rw [l2, List.length_map, srtP_len]; omega
    · rw [l3, sizeLine_eq]; omega
    · rw [strLen_append, l3, l4, sizeLine_eq]; omega
    · rw [rpP_eq, decide_eq_true rfl]
      exact k _ sH
end
end K20

set_option Elab.async false
set_option linter.all false
set_option maxRecDepth 100000
set_option maxHeartbeats 4000000
namespace K20
open PySem L2 Lb
open C8 (pss_cut)
theorem vals_snoc {vs : List V} {us : List Value} {v : V} {u : Value} (h : Vals vs us) (r : RelV v u) : Vals (vs ++ [v]) (us ++ [u]) := h.append (.cons r .nil)
theorem vals_rev : ∀ {vs : List V} {us : List Value}, Vals vs us → Vals vs.reverse us.reverse
  | _, _, .nil => .nil
  | _, _, .cons a b => by
    rw [List.reverse_cons, List.reverse_cons]
    exact vals_snoc (vals_rev b) a
theorem kb_Netneighbours {K : PySem.W.Frag} {mg : Str → Option Value} {a : Ad} (T : Txt K mg a) : KBn K a.d_Netneighbours ["self", "node"] 1 ["node"] (fun us ws => us ++ ws) (fun vs zs => vs ++ zs) :=
  kbn_of T.F_Netneighbours fun _ _ _ _ _ _ us ws h1 h2 => match us, ws, h1, h2 with | [_], [_], _, _ => rfl
theorem kb_Netbetween {K : PySem.W.Frag} {mg : Str → Option Value} {a : Ad} (T : Txt K mg a) : KBn K a.d_Netbetween ["self", "u", "v"] 1 ["v", "u"] (fun us ws => us ++ ws.reverse) (fun vs zs => vs ++ zs.reverse) := by
  obtain ⟨oc, od, kV, doc, pm, an, cdv, ct, osl, e, lk, hcd⟩ := T.F_Netbetween.ex
  rw [e]
  exact ⟨fun s us ws X l1 l2 => BindsTo.of_eq (match us, ws, l1, l2 with | [_], [_, _], _, _ => rfl), fun r1 r2 => r1.append (vals_rev r2)⟩
/-- two lists of texts, as data -/
theorem dp_two {K : PySem.W.Frag} {H : Hp} {L p q : Addr} {zs : List Str} (hL : H L = some (.lst [.ref p, .ref q])) (hp : H p = some (.lst (zs.map V.str))) (hq : H q = some (.lst (zs.map V.str))) : Dp K H (.ref L) (.list [.list (zs.map .str), .list (zs.map .str)]) :=
  .lst (SqL.of hL) (.cons (.lst (SqL.of hp) (dp_strs _)) (.cons (.lst (SqL.of hq) (dp_strs _)) .nil))
theorem shownAll_eq : ∀ ds : List PyData, PyData.shownAll ds = ds.map PyData.shown
  | [] => by simp only [PyData.shownAll, List.map_nil]
  | d :: r => by simp only [PyData.shownAll, List.map_cons, shownAll_eq r]
theorem shown_list (ds : List PyData) : (PyData.list ds).shown = listText (ds.map PyData.shown) := by simp only [PyData.shown, shownAll_eq]
theorem listText_len (ts : List Str) {n : Nat} (h : ∀ t ∈ ts, t.length ≤ n) : (listText ts).length ≤ ts.length * (n + 2) + 2 := by
  have : ∀ (ts : List Str) (k : Nat) (acc : Str), (∀ t ∈ ts, t.length ≤ n) → (textFrom k acc ts).length ≤ acc.length + ts.length * (n + 2) := by
    intro ts
    induction ts with
    | nil => intro k acc _; show acc.length ≤ _; omega
    | cons t r ih =>
      intro k acc h
      have h1 := h t List.mem_cons_self
      have h2 := ih (k + 1) (acc ++ (if k > 0 then ", " else "" : String) ++ t) fun z hz => h z (List.mem_cons_of_mem _ hz)
      have l2 : (", " : Str).length = 2 := by decide +kernel
      have l0 : ("" : Str).length = 0 := by decide +kernel
      have h3 : ((if k > 0 then ", " else "" : String) : Str).length ≤ 2 := by
        split
        · rw [l2]; omega
        · rw [l0]; omega
      rw [strLen_append, strLen_append] at h2
      rw [List.length_cons, Nat.add_mul, Nat.one_mul]
      show (textFrom (k + 1) (acc ++ (if k > 0 then ", " else "" : String) ++ t) r).length ≤ _
      omega
  unfold listText
  have l1 : ("[" : Str).length = 1 := by decide +kernel
  have l3 : ("]" : Str).length = 1 := by decide +kernel
  have := this ts 0 "[" h
  rw [l1] at this
  rw [strLen_append, l3]
  omega
theorem strs_shown {zs : List Str} (h : ∀ z ∈ zs, nmS z = true) (hl : zs.length ≤ 40) : (PyData.list (zs.map .str)).shown.length ≤ 3400 := by
  rw [shown_list]
  have := listText_len ((zs.map PyData.str).map PyData.shown) (n := 82) fun t ht => by
    rw [List.map_map] at ht
    obtain ⟨z, hz, rfl⟩ := List.mem_map.mp ht
    show (PyData.str z).shown.length ≤ 82
    simp only [PyData.shown]
    exact nm_repr (h z hz)
  rw [List.length_map, List.length_map] at this
  omega
theorem showable_strs : ∀ zs : List Str, PyData.showableAll (zs.map .str) = true
  | [] => by simp [PyData.showableAll]
  | z :: r => by rw [List.map_cons, PyData.showableAll, showable_strs r]; simp [PyData.showable]
theorem two_showable (zs : List Str) : (PyData.list [.list (zs.map .str), .list (zs.map .str)]).showable = true := by
  simp only [PyData.showable, PyData.showableAll, showable_strs, Bool.and_true]
theorem two_len {zs : List Str} (h : ∀ z ∈ zs, nmS z = true) (hl : zs.length ≤ 40) : (PyData.list [.list (zs.map .str), .list (zs.map .str)]).shown.length ≤ sizeLine := by
  have h1 := strs_shown h hl
  rw [shown_list]
  have := listText_len ([PyData.list (zs.map .str), .list (zs.map .str)].map PyData.shown) (n := 3400) fun t ht => by
    simp only [List.map_cons, List.map_nil, List.mem_cons, List.not_mem_nil, or_false] at ht
    rcases ht with rfl | rfl <;> exact h1
  simp only [List.map_cons, List.map_nil, List.length_cons, List.length_nil] at this ⊢
  rw [sizeLine_eq]
  omega
theorem two_depth (zs : List Str) : (PyData.list [.list (zs.map .str), .list (zs.map .str)]).depth ≤ 60 := by
  simp only [PyData.depth, PyData.depthAll, depth_strs]
  decide
theorem eqv_refl_one (zs : List Str) : PyData.eqv (.list (zs.map .str)) (.list (zs.map .str)) = true := eqv_refl_strs zs
def sp_asked (C : Addr) : Sp := fun vs H Q _ => ∃ q d l, vs = [.ref q, .ref d] ∧ NetAt C H q l ∧ DA H d l ∧ ∀ H', Same H H' → Q (.bl true) H'
section
variable {P : Program} {w : World} {K : PySem.W.Frag} {mg : Str → Option Value} {base : Heap} {a : Ad}
theorem ok_asked_right (T : Txt K mg a) : FnG P w K mg base CX0 7 a.f_asked_right a.d_asked_right ["_law_made", "_law_entries"] (sp_asked a.c_Net) := by
  refine okG T.F_asked_right sc_asked_right (fun vs H Q E h => ?_) (fun cdv A outer s H vs Q E gu hr h => ?_)
  · obtain ⟨q, d, l, rfl, _⟩ := h
    rfl
  · obtain ⟨q, d, l, rfl, n0, hda, k⟩ := h
    refine ⟨_, (pss_cons (ps_for PassesOwn.never rfl (pi_listK (K := K) rfl (pe_call (ok_points T) (hr.mono (by decide)) (by rfl) T.m_points T.F_points.kp (b_points T) .nil pass0 (pa_cons (pv 1) pa_nil))) (pg_name (i := 2) sc_asked_right.nd rfl (by first | exact Or.inl rfl | exact Or.inr rfl)) (pss_cons (ps_set (i := 3) sc_asked_right.nd rfl (by first | exact Or.inl rfl | exact Or.inr rfl) (pe_call (ok_near T) (hr.mono (by decide)) (by rfl) T.m_near T.F_near.kp (b_near T) .nil pass0 (pa_cons (pv 1) (pa_cons (pv 2) pa_nil))))
 (pss_cons (ps_set (i := 4) sc_asked_right.nd rfl (by first | exact Or.inl rfl | exact Or.inr rfl) (pe_meth (pv 0) T.cl T.mNeighbours (ok_Netneighbours T) (hr.mono (by decide)) (b_Netneighbours T) .nil pass0 (pa_cons (pv 2) pa_nil)))
 (pss_cons (ps_if (pt_cmpR op_ne (pe_callB (call_repr (K := K) rfl gu hr.units) (by rfl) T.b_repr (by decide +kernel) (pa_cons (pe_lst (pa_cons (pv 4) (pa_cons (pe_methK0 (pv 0) T.cl T.mNeighbours (ok_Netneighbours T) (hr.mono (by decide)) (kb_Netneighbours T) pass0 (pk_cons (pv 2) pk_nil)) pa_nil))) pa_nil)) (pe_callB (call_repr (K := K) rfl gu hr.units) (by rfl) T.b_repr (by decide +kernel) (pa_cons (pe_lst (pa_cons (pv 3) (pa_cons (pv 3) pa_nil))) pa_nil)) (nomark _)) (pss_one (ps_ret pe_bl)) pss_nil)
 (pss_cons (ps_expr (pe_bm PySem.F.plainAttrs_list PySem.F.slot_list_append PySem.F.type_list_append mt_append (pv 4) (pa_cons pe_str pa_nil)))
 (pss_cons (ps_if (pt_cmpR (op_neDK2 (K := K) rfl hr.units) (pe_meth (pv 0) T.cl T.mNeighbours (ok_Netneighbours T) (hr.mono (by decide)) (b_Netneighbours T) .nil pass0 (pa_cons (pv 2) pa_nil)) (pv 3) (nomark _)) (pss_one (ps_ret pe_bl)) pss_nil)
 (pss_one (ps_for PassesOwn.never rfl (pi_listK (K := K) rfl (pe_call (ok_points T) (hr.mono (by decide)) (by rfl) T.m_points T.F_points.kp (b_points T) .nil pass0 (pa_cons (pv 1) pa_nil))) (pg_name (i := 5) sc_asked_right.nd rfl (by first | exact Or.inl rfl | exact Or.inr rfl)) (pss_cons (ps_set (i := 3) sc_asked_right.nd rfl (by first | exact Or.inl rfl | exact Or.inr rfl) (pe_call (ok_beside T) (hr.mono (by decide)) (by rfl) T.m_beside T.F_beside.kp (b_beside T) .nil pass0 (pa_cons (pv 1) (pa_cons (pv 2) (pa_cons (pv 5) pa_nil)))))
 (pss_cons (ps_set (i := 4) sc_asked_right.nd rfl (by first | exact Or.inl rfl | exact Or.inr rfl) (pe_meth (pv 0) T.cl T.mBetween (ok_Netbetween T) (hr.mono (by decide)) (b_Netbetween T) .nil pass0 (pa_cons (pv 2) (pa_cons (pv 5) pa_nil))))
 (pss_cons (ps_if (pt_cmpR op_ne (pe_callB (call_repr (K := K) rfl gu hr.units) (by rfl) T.b_repr (by decide +kernel) (pa_cons (pe_lst (pa_cons (pv 4) (pa_cons (pe_methK0 (pv 0) T.cl T.mBetween (ok_Netbetween T) (hr.mono (by decide)) (kb_Netbetween T) pass0 (pk_cons (pv 5) (pk_cons (pv 2) pk_nil))) pa_nil))) pa_nil)) (pe_callB (call_repr (K := K) rfl gu hr.units) (by rfl) T.b_repr (by decide +kernel) (pa_cons (pe_lst (pa_cons (pv 3) (pa_cons (pv 3) pa_nil))) pa_nil)) (nomark _)) (pss_one (ps_ret pe_bl)) pss_nil)
 (pss_cons (ps_expr (pe_bm PySem.F.plainAttrs_list PySem.F.slot_list_append PySem.F.type_list_append mt_append (pv 4) (pa_cons pe_str pa_nil)))
 (pss_one (ps_if (pt_cmpR (op_neDK2 (K := K) rfl hr.units) (pe_meth (pv 0) T.cl T.mBetween (ok_Netbetween T) (hr.mono (by decide)) (b_Netbetween T) .nil pass0 (pa_cons (pv 2) (pa_cons (pv 5) pa_nil))) (pv 3) (nomark _)) (pss_one (ps_ret pe_bl)) pss_nil))))))))))))))
 (pss_one (ps_ret pe_bl))), ?_⟩
    have G : Good l := let ⟨_, _, _, _, _, n⟩ := n0; n.good
    have lle := G.le
    have l8 := G.le8
    have hnb : ∀ x, ∀ z ∈ nbrs l x, nmS z = true := fun x z hz => G.nmP z (nbr_nod (srtS_mem.mp hz))
    have lnb : ∀ x, (nbrs l x).length ≤ 40 := fun x => by
      have h1 := srtS_len (nbr l x)
      have h2 := nbr_len l x
      unfold nbrs
      omega
    have hbs : ∀ x y, ∀ z ∈ besP l x y, nmS z = true := fun x y z hz => G.nmN z (List.mem_filter.mp hz).1
    have lbs : ∀ x y, (besP l x y).length ≤ 40 := fun x y => by
      have h1 := List.length_filter_le (fun n => decide (getP l n = (x, y) ∨ getP l n = (y, x))) (srt (nmsOf l))
      rw [srt_len, nms_len] at h1
      unfold besP
      omega
    obtain ⟨dx, D, N, T5, R, n⟩ := id n0
    have ins : ∀ {H'}, Same H H' → H' q = some (.ins a.c_Net dx (netF D N T5 R)) := fun s => s _ _ n.ins
    have lNg : (netF D N T5 R).lookup ("neighbours" : Str) = none := nf_not D N T5 R (by decide +kernel) (by decide +kernel) (by decide +kernel) (by decide +kernel)
    have lBt : (netF D N T5 R).lookup ("between" : Str) = none := nf_not D N T5 R (by decide +kernel) (by decide +kernel) (by decide +kernel) (by decide +kernel)
    refine ⟨_, rfl, d, l, rfl, hda, by omega, fun H1 Pt s1 hPt ePt => ⟨Pt, rfl, ⟨_, SqL.of ePt⟩, ?_⟩⟩
    refine for_it walk_list (fun i σ H' => ∃ u2 u3 u4 u5, σ = [some (.ref q), some (.ref d), u2, u3, u4, u5] ∧ Same H1 H') ⟨_, _, _, _, rfl, Same.refl _⟩ (fun i σ H' _ ⟨_, _, _, _, _, b⟩ => SqL.of (b _ _ ePt)) ?_ ?_
    · rintro i v σ H2 H3 hi ⟨u2, u3, u4, u5, rfl, s2⟩ ⟨rfl, ev⟩
      obtain ⟨x, hx, rfl⟩ := str_get ev
      have hxn : x ∈ nodOf l := srtS_mem.mp (List.mem_of_getElem? hx)
      have nmx := G.nmP x hxn
      have s02 := s1.trans s2
      refine ⟨_, rfl, _, rfl, d, l, x, rfl, hda.same s02, by omega, fun H4 Du s4 hDu eDu => ?_⟩
      have s04 := s02.trans s4
      refine ⟨_, rfl, q, dx, _, rfl, ins s04, lNg, _, rfl, q, l, x, rfl, n0.same s04, hxn, fun H5 To s5 hTo eTo => ?_⟩
      have s05 := s04.trans s5
      have hTo0 : H1 To = none := Lb.Same.free (s2.trans s4) hTo
      have eDu5 := s5 _ _ eDu
      refine ⟨_, rfl, _, rfl, q, dx, _, rfl, ins s05, lNg, ?_⟩
      refine ⟨_, rfl, rfl, q, l, x, rfl, n0.same s05, hxn, fun H6 p6 s6 hp6 ep6 => ⟨sz, fun L1 hL1 => ?_⟩⟩
      have sL1 := Lb.Same.upd (o := .lst [.ref To, .ref p6]) hL1
      have eL1 : (upd H6 L1 (.lst [.ref To, .ref p6])) L1 = some (.lst [.ref To, .ref p6]) := upd_same
      generalize upd H6 L1 (.lst [.ref To, .ref p6]) = H7 at *
      have s57 := s6.trans sL1
      have s07 := s05.trans s57
      refine ⟨_, _, rfl, dp_two eL1 (s57 _ _ eTo) (sL1 _ _ ep6), two_showable _, two_len (hnb x) (lnb x), two_depth _, ?_⟩
      refine ⟨_, rfl, _, rfl, sz, fun L2 hL2 => ?_⟩
      have sL2 := Lb.Same.upd (o := .lst [.ref Du, .ref Du]) hL2
      have eL2 : (upd H7 L2 (.lst [.ref Du, .ref Du])) L2 = some (.lst [.ref Du, .ref Du]) := upd_same
      generalize upd H7 L2 (.lst [.ref Du, .ref Du]) = H8 at *
      have s58 := s57.trans sL2
      have s08 := s05.trans s58
      have eDu8 := s58 _ _ eDu5
      refine ⟨_, _, rfl, dp_two eL2 eDu8 eDu8, two_showable _, two_len (hnb x) (lnb x), two_depth _, rfl, _, rfl, ?_⟩
      rw [decide_eq_true rfl]
      refine iteF ?_
      have eTo8 := s58 _ _ eTo
      have ndT : Du ≠ To := ne_of_none eDu hTo
      refine ⟨_, rfl, .inl ⟨rfl, _, SqL.of eTo8⟩, To, _, _, rfl, rfl, eTo8, szlt (by rw [List.length_map]; have := lnb x; omega), ?_⟩
      have hTo00 : H To = none := Lb.Same.free s04 hTo
      have s09 : Same H (upd H8 To (.lst ((nbrs l x).map V.str ++ [.str "zz"]))) := Lb.Same.updl s08 hTo00
      have eDu9 : (upd H8 To (.lst ((nbrs l x).map V.str ++ [.str "zz"]))) Du = some (.lst ((nbrs l x).map V.str)) := by rw [upd_ne ndT]; exact eDu8
      have s19 : Same H1 (upd H8 To (.lst ((nbrs l x).map V.str ++ [.str "zz"]))) := Lb.Same.updl (((s2.trans s4).trans s5).trans s58) hTo0
      generalize upd H8 To (.lst ((nbrs l x).map V.str ++ [.str "zz"])) = H9 at *
      refine ⟨_, rfl, q, dx, _, rfl, ins s09, lNg, _, rfl, q, l, x, rfl, n0.same s09, hxn, fun H10 p10 s10 hp10 ep10 => ?_⟩
      refine ⟨_, rfl, _, _, .lst (SqL.of ep10) (dp_strs _), .lst (SqL.of (s10 _ _ eDu9)) (dp_strs _), shaped_strs (hnb x), shaped_strs (hnb x), ?_⟩
      rw [eqv_refl_strs]
      refine ⟨_, rfl, iteF ?_⟩
      have s010 := s09.trans s10
      have s110 := s19.trans s10
      clear sL1 sL2 s58 s08 s57 s07
      refine ⟨_, rfl, d, l, rfl, hda.same s010, by omega, fun H11 P2 s11 hP2 eP2 => ⟨P2, rfl, ⟨_, SqL.of eP2⟩, ?_⟩⟩
      refine for_it walk_list (fun j σ H' => ∃ u3 u4 u5, σ = [some (.ref q), some (.ref d), some (.str x), u3, u4, u5] ∧ Same H11 H') ⟨_, _, _, rfl, Same.refl _⟩ (fun j σ H' _ ⟨_, _, _, _, b⟩ => SqL.of (b _ _ eP2)) ?_ ?_
      · rintro j v σ H12 H13 hj ⟨u3, u4, u5, rfl, s12⟩ ⟨rfl, ev⟩
        obtain ⟨y, hy, rfl⟩ := str_get ev
        have hyn : y ∈ nodOf l := srtS_mem.mp (List.mem_of_getElem? hy)
        have nmy := G.nmP y hyn
        have s013 := (s010.trans s11).trans s12
        refine ⟨_, rfl, _, rfl, _, rfl, d, l, x, y, rfl, hda.same s013, G, nmx, nmy, fun H14 D3 s14 hD3 eD3 => ?_⟩
        have s014 := s013.trans s14
        refine ⟨_, rfl, q, dx, _, rfl, ins s014, lBt, _, rfl, _, rfl, q, l, x, y, rfl, n0.same s014, hxn, hyn, fun H15 T3 s15 hT3 eT3 => ?_⟩
        have s015 := s014.trans s15
        refine ⟨_, rfl, _, rfl, q, dx, _, rfl, ins s015, lBt, _, rfl, _, rfl, rfl, q, l, x, y, rfl, n0.same s015, hxn, hyn, fun H16 p16 s16 hp16 ep16 => ⟨sz, fun L3 hL3 => ?_⟩⟩
        have sL3 := Lb.Same.upd (o := .lst [.ref T3, .ref p16]) hL3
        have eL3 : (upd H16 L3 (.lst [.ref T3, .ref p16])) L3 = some (.lst [.ref T3, .ref p16]) := upd_same
        generalize upd H16 L3 (.lst [.ref T3, .ref p16]) = H17 at *
        have s157 := s16.trans sL3
        refine ⟨_, _, rfl, dp_two eL3 (s157 _ _ eT3) (sL3 _ _ ep16), two_showable _, two_len (hbs x y) (lbs x y), two_depth _, ?_⟩
        refine ⟨_, rfl, _, rfl, sz, fun L4 hL4 => ?_⟩
        have sL4 := Lb.Same.upd (o := .lst [.ref D3, .ref D3]) hL4
        have eL4 : (upd H17 L4 (.lst [.ref D3, .ref D3])) L4 = some (.lst [.ref D3, .ref D3]) := upd_same
        generalize upd H17 L4 (.lst [.ref D3, .ref D3]) = H18 at *
        have s158 := s157.trans sL4
        have eD18 := s158 _ _ (s15 _ _ eD3)
        refine ⟨_, _, rfl, dp_two eL4 eD18 eD18, two_showable _, two_len (hbs x y) (lbs x y), two_depth _, rfl, _, rfl, ?_⟩
        rw [decide_eq_true rfl]
        refine iteF ?_
        have eT18 := s158 _ _ eT3
        have nD3 : D3 ≠ T3 := ne_of_none eD3 hT3
        refine ⟨_, rfl, .inl ⟨rfl, _, SqL.of eT18⟩, T3, _, _, rfl, rfl, eT18, szlt (by rw [List.length_map]; have := lbs x y; omega), ?_⟩
        have hT00 : H T3 = none := Lb.Same.free s014 hT3
        have hT11 : H11 T3 = none := Lb.Same.free (s12.trans s14) hT3
        have s019 : Same H (upd H18 T3 (.lst ((besP l x y).map V.str ++ [.str "zz"]))) := Lb.Same.updl (s015.trans s158) hT00
        have s119 : Same H11 (upd H18 T3 (.lst ((besP l x y).map V.str ++ [.str "zz"]))) := Lb.Same.updl (((s12.trans s14).trans s15).trans s158) hT11
        have eD19 : (upd H18 T3 (.lst ((besP l x y).map V.str ++ [.str "zz"]))) D3 = some (.lst ((besP l x y).map V.str)) := by rw [upd_ne nD3]; exact eD18
        generalize upd H18 T3 (.lst ((besP l x y).map V.str ++ [.str "zz"])) = H19 at *
        refine ⟨_, rfl, q, dx, _, rfl, ins s019, lBt, _, rfl, _, rfl, q, l, x, y, rfl, n0.same s019, hxn, hyn, fun H20 p20 s20 hp20 ep20 => ?_⟩
        refine ⟨_, rfl, _, _, .lst (SqL.of ep20) (dp_strs _), .lst (SqL.of (s20 _ _ eD19)) (dp_strs _), shaped_strs (hbs x y), shaped_strs (hbs x y), ?_⟩
        rw [eqv_refl_strs]
        exact ⟨_, rfl, iteF ⟨_, _, _, rfl, s119.trans s20⟩⟩
      · rintro σ H12 ⟨u3, u4, u5, rfl, s12⟩
        exact ⟨_, _, _, _, rfl, (s110.trans s11).trans s12⟩
    · rintro σ H2 ⟨u2, u3, u4, u5, rfl, s2⟩
      exact k _ (s1.trans s2)
end
end K20

set_option Elab.async false
set_option linter.all false
set_option maxRecDepth 100000
set_option maxHeartbeats 4000000
namespace K20
open PySem L2 Lb
open C8 (pss_cut)
theorem op_inK2 {X : Cx} {K : PySem.W.Frag} (hK : X.K = K) : OpR X (compareOp .In) (rIn K false) := by subst hK; exact op_in_seq
/-! nets beside a pot, beside a dict -/
theorem pot_ne {p b : Addr} {H : Hp} {zs : List Str} (q : PotAt H p) (e : H b = some (.lst (zs.map V.str))) : b ≠ p := by
  rintro rfl
  obtain ⟨x, y, e', _⟩ := q
  rw [e] at e'
  have e' := Option.some.inj e'
  injection e' with e'
  cases zs with
  | nil => cases e'
  | cons z r => cases e'
theorem pot_ne' {p b : Addr} {H : Hp} {o : HO} (q : PotAt H p) (e : H b = some o) (h : ∀ xs, o ≠ .lst xs) : b ≠ p := by
  rintro rfl
  obtain ⟨x, y, e', _⟩ := q
  rw [e] at e'
  exact h _ (Option.some.inj e')
theorem DA.mov {p d : Addr} {H H' : Hp} {l : PP} (h : DA H d l) (m : Mov p H H') (q : PotAt H p) : DA H' d l :=
  let ⟨kv, a, b⟩ := h; ⟨kv, m.keep _ _ (pot_ne' q a fun _ z => nomatch z) a, b.tk (m.tk q)⟩
theorem NetA.mov {C p q dx D N T R : Addr} {H H' : Hp} {l : PP} (h : NetA C H q dx D N T R l) (m : Mov p H H') (w : PotAt H p) : NetA C H' q dx D N T R l :=
  ⟨m.keep _ _ (pot_ne' w h.ins fun _ z => nomatch z) h.ins, h.pi.mov m w, m.keep _ _ (pot_ne w h.nm) h.nm, m.tup w h.no,
    let ⟨kv, a, b⟩ := h.ne; ⟨kv, m.keep _ _ (pot_ne' w a fun _ z => nomatch z) a, Paired.imp b fun _ _ ⟨x, p, y, z⟩ => ⟨x, p, y, m.keep _ _ (pot_ne w z) z⟩⟩, h.good⟩
theorem NetA.at {C q dx D N T R : Addr} {H : Hp} {l : PP} (h : NetA C H q dx D N T R l) : NetAt C H q l := ⟨dx, D, N, T, R, h⟩
/-- the net stays where a dict that is none of its own is changed -/
theorem NetA.updD {C q dx D N T R d : Addr} {H : Hp} {l : PP} {kv : List (Key × V)} {o : HO} (h : NetA C H q dx D N T R l) (hd : H d = some (.dK kv)) (nD : D ≠ d) (nR : R ≠ d) : NetA C (upd H d o) q dx D N T R l := by
  have k : ∀ {b : Addr} {u : HO}, H b = some u → (∀ kv, u ≠ .dK kv) → (upd H d o) b = some u := fun {b u} e n => by
    rw [upd_ne (fun z => by rw [z, hd] at e; exact n _ (Option.some.inj e).symm)]
    exact e
  have tk : TK H (upd H d o) := fun t xs e => k e fun _ z => nomatch z
  obtain ⟨kv1, a1, b1⟩ := h.pi
  obtain ⟨kv2, a2, b2⟩ := h.ne
  exact ⟨k h.ins fun _ z => (nomatch z), ⟨kv1, by rw [upd_ne nD]; exact a1, b1.tk tk⟩, k h.nm fun _ z => (nomatch z), k h.no fun _ z => (nomatch z), ⟨kv2, by rw [upd_ne nR]; exact a2, Paired.imp b2 fun _ _ ⟨x, p, y, z⟩ => ⟨x, p, y, k z fun _ w => (nomatch w)⟩⟩, h.good⟩
/-! odd values -/
def Th (p : Addr) (H : Hp) (v : V) : Prop := (∃ z, v = .str z) ∨ v = .non ∨ (∃ i, v = .int i) ∨ (∃ b, v = .bl b) ∨ (∃ a xs, v = .ref a ∧ a ≠ p ∧ (H a = some (.tup xs) ∨ H a = some (.lst xs))) ∨ ∃ a kv, v = .ref a ∧ a ≠ p ∧ H a = some (.dK kv)
theorem Th.keep {p : Addr} {H H' : Hp} {v : V} (h : Th p H v) (k : ∀ b o, b ≠ p → H b = some o → H' b = some o) : Th p H' v := by
  rcases h with h | h | h | h | ⟨a, xs, e, n, h⟩ | ⟨a, kv, e, n, h⟩
  · exact .inl h
  · exact .inr (.inl h)
  · exact .inr (.inr (.inl h))
  · exact .inr (.inr (.inr (.inl h)))
  · exact .inr (.inr (.inr (.inr (.inl ⟨a, xs, e, n, h.imp (k _ _ n) (k _ _ n)⟩))))
  · exact .inr (.inr (.inr (.inr (.inr ⟨a, kv, e, n, k _ _ n h⟩))))
theorem Th.same {p : Addr} {H H' : Hp} {v : V} (h : Th p H v) (s : Same H H') : Th p H' v := h.keep fun b o _ e => s b o e
def hasB (ns : List Str) : V → Bool
  | .str z => decide (z ∈ ns)
  | _ => false
theorem Th.use {K : PySem.W.Frag} {p : Addr} {H : Hp} {v : V} (h : Th p H v) : (∃ z, v = .str z) ∨ ((∀ ns, hasB ns v = false) ∧ NoStr K H v) := by
  rcases h with h | rfl | ⟨i, rfl⟩ | ⟨b, rfl⟩ | ⟨a, xs, rfl, n, h | h⟩ | ⟨a, kv, rfl, n, h⟩
  · exact .inl h
  · exact .inr ⟨fun _ => rfl, _, .base .non, kit_ty (r := false) (by decide +kernel)⟩
  · exact .inr ⟨fun _ => rfl, _, .base (.int _), kit_ty (r := false) (by decide +kernel)⟩
  · exact .inr ⟨fun _ => rfl, _, .base (.bl _), kit_ty (r := false) (by decide +kernel)⟩
  · exact .inr ⟨fun _ => rfl, _, .base (.tup h), kit_ty (r := false) (by decide +kernel)⟩
  · exact .inr ⟨fun _ => rfl, _, .base (.lst h), kit_ty (r := false) (by decide +kernel)⟩
  · exact .inr ⟨fun _ => rfl, _, .base (.dK h), kit_ty (r := false) (by decide +kernel)⟩
theorem th_strs {p : Addr} {H : Hp} {zs : List Str} : ∀ v ∈ zs.map V.str, Th p H v := fun v hv => by
  obtain ⟨z, _, rfl⟩ := List.mem_map.mp hv
  exact .inl ⟨z, rfl⟩
/-! lists of bools, as data -/
theorem dp_bls {K : PySem.W.Frag} {H : Hp} : ∀ bs : List Bool, DpAll K H (bs.map V.bl) (bs.map PyData.bool)
  | [] => .nil
  | b :: r => .cons (.bl b) (dp_bls r)
theorem showable_bls : ∀ bs : List Bool, PyData.showableAll (bs.map .bool) = true
  | [] => by simp [PyData.showableAll]
  | b :: r => by rw [List.map_cons, PyData.showableAll, showable_bls r]; simp [PyData.showable]
theorem depth_bls : ∀ bs : List Bool, PyData.depthAll (bs.map .bool) = 0
  | [] => by simp [PyData.depthAll]
  | b :: r => by rw [List.map_cons, PyData.depthAll, depth_bls r]; simp [PyData.depth]
theorem bls_len (bs : List Bool) (h : bs.length ≤ 100) : (PyData.list (bs.map .bool)).shown.length ≤ sizeLine := by
  rw [shown_list]
  have := listText_len ((bs.map PyData.bool).map PyData.shown) (n := 5) fun t ht => by
    rw [List.map_map] at ht
    obtain ⟨b, _, rfl⟩ := List.mem_map.mp ht
    show (PyData.bool b).shown.length ≤ 5
    cases b <;> simp only [PyData.shown] <;> decide +kernel
  rw [List.length_map, List.length_map] at this
  rw [sizeLine_eq]
  omega
def sp_in (C : Addr) : Sp := fun vs H Q _ => ∃ p q d l dx D N T R, vs = [.ref p, .ref q, .ref d] ∧ PotAt H p ∧ NetA C H q dx D N T R l ∧ D ≠ d ∧ R ≠ d ∧ DA H d l ∧ ∀ H', Mov p H H' → Q (.bl true) H'
section
variable {P : Program} {w : World} {K : PySem.W.Frag} {mg : Str → Option Value} {base : Heap} {a : Ad}
theorem ok_in_right (T : Txt K mg a) : FnG P w K mg base CX0 4 a.f_in_right a.d_in_right ["_law_pot_here", "_law_made", "_law_entries"] (sp_in a.c_Net) := by
  refine okG T.F_in_right sc_in_right (fun vs H Q E h => ?_) (fun cdv A outer s H vs Q E gu hr h => ?_)
  · obtain ⟨p, q, d, l, dx, D, N, T5, R, rfl, _⟩ := h
    rfl
  · obtain ⟨p, q, d, l, dx, D, N, T5, R, rfl, hp, n, nD, nR, hda, k⟩ := h
    refine ⟨_, (pss_cons (ps_set (i := 3) sc_in_right.nd rfl (by first | exact Or.inl rfl | exact Or.inr rfl) (pe_lst (pa_cons pe_non (pa_cons pe_int (pa_cons pe_bl (pa_cons (pe_tup pa_nil) (pa_cons (pe_lst pa_nil) (pa_cons pe_dnewK (pa_cons pe_str (pa_cons pe_str (pa_cons (pe_tup (pa_cons pe_str pa_nil)) (pa_cons (pe_lst (pa_cons pe_str pa_nil)) (pa_cons (pe_op op_add_str (pe_ix (ix_listK (K := K) rfl) (pe_callB (call_sortedD rfl) (by rfl) T.b_sorted (by decide +kernel) (pa_cons (pv 2) pa_nil)) pe_int (fun _ _ => rfl)) pe_str) pa_nil)))))))))))))
 (pss_cons (ps_set (i := 3) sc_in_right.nd rfl (by first | exact Or.inl rfl | exact Or.inr rfl) (pe_op op_cat (pe_op op_cat (pv 3) (pe_call (ok_points T) (hr.mono (by decide)) (by rfl) T.m_points T.F_points.kp (b_points T) .nil pass0 (pa_cons (pv 2) pa_nil))) (pe_call (ok_names T) (hr.mono (by decide)) (by rfl) T.m_names T.F_names.kp (b_names T) .nil pass0 (pa_cons (pv 0) (pa_cons pe_int pa_nil)))))
 (pss_cons (ps_setLc (i := 4) (own := [("_law_thing", 5)]) rfl sc_in_right.nd rfl rfl (sw_true rfl rfl rfl (by decide +kernel)) (pi_listK (K := K) rfl (pv 3)) (blkOk_by (own := [("_law_thing", 5)]) (N := ["_law_pot_here", "_law_made", "_law_entries", "_law_some", "_law_told", "_law_thing", "_law_due", "_law_word"]) (sc := defScope s_in_right) (by decide +kernel)) (fun _ _ _ _ _ => (pg_name (i := 5) sc_in_right.nd rfl (by first | exact Or.inl rfl | exact Or.inr rfl))) (fun _ _ _ _ _ => pts_nil) (fun _ _ _ _ _ => (pe_cmpR (op_inOwn (C := a.c_Net) (K := K) rfl T.cCon.at_ T.cCon.fn ((ok_Net_contains_ T).raw (b_Net_contains_ T) .nil) (hr.mono (by decide)) pass0) (pv 5) (pv 1) rfl)))
 (pss_cons (ps_setLc (i := 6) (own := [("_law_thing", 5)]) rfl sc_in_right.nd rfl rfl (sw_true rfl rfl rfl (by decide +kernel)) (pi_listK (K := K) rfl (pv 3)) (blkOk_by (own := [("_law_thing", 5)]) (N := ["_law_pot_here", "_law_made", "_law_entries", "_law_some", "_law_told", "_law_thing", "_law_due", "_law_word"]) (sc := defScope s_in_right) (by decide +kernel)) (fun _ _ _ _ _ => (pg_name (i := 5) sc_in_right.nd rfl (by first | exact Or.inl rfl | exact Or.inr rfl))) (fun _ _ _ _ _ => pts_nil) (fun _ _ _ _ _ => (pe_and (pe_callB (call_isiK' (K := K) rfl) (by rfl) T.b_isinstance (by decide +kernel) (pa_cons (pv 5) (pa_cons (pe_bltn (v := .ty "str") (by rfl) T.b_str (by decide +kernel) rfl) pa_nil))) (pe_one (pe_cmpR (op_inK2 (K := K) rfl) (pv 5) (pe_callB (call_sortedD rfl) (by rfl) T.b_sorted (by decide +kernel) (pa_cons (pv 2) pa_nil)) rfl)))))
 (pss_one (ps_ret (pe_and (pe_cmpR op_eq (pe_callB (call_repr (K := K) rfl gu hr.units) (by rfl) T.b_repr (by decide +kernel) (pa_cons (pv 4) pa_nil)) (pe_callB (call_repr (K := K) rfl gu hr.units) (by rfl) T.b_repr (by decide +kernel) (pa_cons (pv 6) pa_nil)) (nomark _)) (pe_one (pe_callB (cr_allK (K := K) rfl rfl) (by rfl) T.b_all (by decide +kernel) (pa_cons (pe_lock (pe_lc (own := [("_law_word", 7)]) (by rfl) sc_in_right.nd (pi_keys (pv 2)) (blkOk_by (own := [("_law_word", 7)]) (N := ["_law_pot_here", "_law_made", "_law_entries", "_law_some", "_law_told", "_law_thing", "_law_due", "_law_word"]) (sc := defScope s_in_right) (by decide +kernel)) (fun _ _ _ _ _ => (pg_name (i := 7) sc_in_right.nd rfl (by first | exact Or.inl rfl | exact Or.inr rfl))) (fun _ _ _ _ _ => pts_nil) (fun _ _ _ _ _ => (pe_cmpR (op_inOwn (C := a.c_Net) (K := K) rfl T.cCon.at_ T.cCon.fn ((ok_Net_contains_ T).raw (b_Net_contains_ T) .nil) (hr.mono (by decide)) pass0) (pv 7) (pv 1) rfl)))) pa_nil)))))))))), ?_⟩
    have G := n.good
    have lle := G.le
    have l8 := G.le8
    have lnn := nms_len l
    obtain ⟨kv, hd, ekv⟩ := id hda
    have fr : ∀ {H' : Hp} {b : Addr}, Same H H' → H' b = none → b ≠ p := fun {H' b} s h => by
      obtain ⟨_, _, e, _⟩ := hp
      exact (ne_of_none (s _ _ e) h).symm
    refine ⟨sz, fun a1 h1 => ?_⟩
    generalize e_H1 : upd _ a1 _ = H1
    obtain ⟨s1, f1⟩ := al3 e_H1 h1
    clear e_H1
    (try dsimp only at f1)
    refine ⟨sz, fun a2 h2 => ?_⟩
    generalize e_H2 : upd _ a2 _ = H2
    obtain ⟨s2, f2⟩ := al3 e_H2 h2
    clear e_H2
    (try dsimp only at f2)
    refine fun a3 h3 => ?_
    generalize e_H3 : upd _ a3 _ = H3
    obtain ⟨s3, f3⟩ := al3 e_H3 h3
    clear e_H3
    (try dsimp only at f3)
    refine ⟨sz, fun a4 h4 => ?_⟩
    generalize e_H4 : upd _ a4 _ = H4
    obtain ⟨s4, f4⟩ := al3 e_H4 h4
    clear e_H4
    (try dsimp only at f4)
    refine ⟨sz, fun a5 h5 => ?_⟩
    generalize e_H5 : upd _ a5 _ = H5
    obtain ⟨s5, f5⟩ := al3 e_H5 h5
    clear e_H5
    (try dsimp only at f5)
    have S5 := (((s1.trans s2).trans s3).trans s4).trans s5
    refine ⟨_, rfl, d, kv, nmsOf l, rfl, .inl (S5 _ _ hd), ekv.keys, by omega, fun ys S perm so hS => ?_⟩
    obtain rfl := srt_of perm so
    have lzs : (srt (nmsOf l)).length = l.length := by rw [srt_len, nms_len]
    have hnm := G.nmN
    have l0 : 0 < l.length := List.length_pos_iff.mpr G.ne
    obtain ⟨z0, hz0⟩ : ∃ z0, (srt (nmsOf l))[0]? = some z0 := ⟨_, List.getElem?_eq_getElem (by omega)⟩
    have lz0 := nm_len (hnm _ (List.mem_of_getElem? hz0))
    have a0 : atI ((srt (nmsOf l)).map V.str) ((0 : Nat) : Int) = some (.str z0) := atI_nat (by rw [List.getElem?_map, hz0]; rfl)
    have lq : ("qqqqqqqq" : Str).length = 8 := by decide +kernel
    refine ⟨_, _, _, _, rfl, rfl, SqL.of upd_same, a0, _, _, rfl, rfl, by rw [lq, sizeLine_eq]; omega, sz, fun L hL => ?_⟩
    have s6 : Same H5 (upd (upd H5 S (.lst ((srt (nmsOf l)).map V.str))) L (.lst [.non, .int 0, .bl true, .ref a1, .ref a2, .ref a3, .str "", .str "A", .ref a4, .ref a5, .str (z0 ++ "qqqqqqqq")])) := (Lb.Same.upd hS).trans (Lb.Same.upd hL)
    have eL : (upd (upd H5 S (.lst ((srt (nmsOf l)).map V.str))) L (.lst [.non, .int 0, .bl true, .ref a1, .ref a2, .ref a3, .str "", .str "A", .ref a4, .ref a5, .str (z0 ++ "qqqqqqqq")])) L = some (.lst [.non, .int 0, .bl true, .ref a1, .ref a2, .ref a3, .str "", .str "A", .ref a4, .ref a5, .str (z0 ++ "qqqqqqqq")]) := upd_same
    generalize upd (upd H5 S (.lst ((srt (nmsOf l)).map V.str))) L (.lst [.non, .int 0, .bl true, .ref a1, .ref a2, .ref a3, .str "", .str "A", .ref a4, .ref a5, .str (z0 ++ "qqqqqqqq")]) = H6 at *
    have S6 := S5.trans s6
    have th6 : ∀ v ∈ ([.non, .int 0, .bl true, .ref a1, .ref a2, .ref a3, .str "", .str "A", .ref a4, .ref a5, .str (z0 ++ "qqqqqqqq")] : List V), Th p H6 v := by
      intro v hv
      simp only [List.mem_cons, List.not_mem_nil, or_false] at hv
      rcases hv with rfl | rfl | rfl | rfl | rfl | rfl | rfl | rfl | rfl | rfl | rfl
      · exact .inr (.inl rfl)
      · exact .inr (.inr (.inl ⟨_, rfl⟩))
      · exact .inr (.inr (.inr (.inl ⟨_, rfl⟩)))
      · exact .inr (.inr (.inr (.inr (.inl ⟨_, _, rfl, fr (Same.refl _) h1, .inl (((((s2.trans s3).trans s4).trans s5).trans s6) _ _ f1)⟩))))
      · exact .inr (.inr (.inr (.inr (.inl ⟨_, _, rfl, fr s1 h2, .inr ((((s3.trans s4).trans s5).trans s6) _ _ f2)⟩))))
      · exact .inr (.inr (.inr (.inr (.inr ⟨_, _, rfl, fr (s1.trans s2) h3, ((s4.trans s5).trans s6) _ _ f3⟩))))
      · exact .inl ⟨_, rfl⟩
      · exact .inl ⟨_, rfl⟩
      · exact .inr (.inr (.inr (.inr (.inl ⟨_, _, rfl, fr ((s1.trans s2).trans s3) h4, .inl ((s5.trans s6) _ _ f4)⟩))))
      · exact .inr (.inr (.inr (.inr (.inl ⟨_, _, rfl, fr (((s1.trans s2).trans s3).trans s4) h5, .inr (s6 _ _ f5)⟩))))
      · exact .inl ⟨_, rfl⟩
    have ln11 : ([.non, .int 0, .bl true, .ref a1, .ref a2, .ref a3, .str "", .str "A", .ref a4, .ref a5, .str (z0 ++ "qqqqqqqq")] : List V).length = 11 := rfl
    generalize ([.non, .int 0, .bl true, .ref a1, .ref a2, .ref a3, .str "", .str "A", .ref a4, .ref a5, .str (z0 ++ "qqqqqqqq")] : List V) = X0 at *
    refine ⟨_, rfl, _, rfl, d, l, rfl, hda.same S6, by omega, fun H8 Pt s8 hPt ePt => ?_⟩
    have S8 := S6.trans s8
    have eL8 := s8 _ _ eL
    refine ⟨L, Pt, _, _, rfl, rfl, eL8, ePt, szle (by rw [ln11, List.length_map]; omega), fun c1 hc1 => ?_⟩
    have sc1 := Lb.Same.upd (o := .lst (X0 ++ (pts l).map V.str)) hc1
    have ec1 : (upd H8 c1 (.lst (X0 ++ (pts l).map V.str))) c1 = some (.lst (X0 ++ (pts l).map V.str)) := upd_same
    generalize upd H8 c1 (.lst (X0 ++ (pts l).map V.str)) = H9 at *
    have S9 := S8.trans sc1
    have hc1p := fr S8 hc1
    refine ⟨_, rfl, p, 3, rfl, S9.pot hp, by omega, fun H10 nl ns m10 hnl enl lns ndn hns => ?_⟩
    have M10 : Mov p H H10 := (S9.mov hp).trans m10
    refine ⟨c1, nl, _, _, rfl, rfl, m10.keep _ _ hc1p ec1, enl, szle (by rw [List.length_append, ln11, List.length_map, List.length_map]; omega), fun c2 hc2 => ?_⟩
    have thX : ∀ v ∈ X0 ++ (pts l).map V.str ++ ns.map V.str, Th p H10 v := fun v hv => by
      rcases List.mem_append.mp hv with hv | hv
      · rcases List.mem_append.mp hv with hv | hv
        · exact (((th6 v hv).same s8).same sc1).keep m10.keep
        · exact th_strs v hv
      · exact th_strs v hv
    have lX : (X0 ++ (pts l).map V.str ++ ns.map V.str).length ≤ 40 := by rw [List.length_append, List.length_append, ln11, List.length_map, List.length_map]; omega
    generalize X0 ++ (pts l).map V.str ++ ns.map V.str = XS at *
    have sc2 := Lb.Same.upd (o := .lst XS) hc2
    have ec2 : (upd H10 c2 (.lst XS)) c2 = some (.lst XS) := upd_same
    have M11 : Mov p H (upd H10 c2 (.lst XS)) := mov_upd M10 hp (M10.free hp hc2)
    generalize upd H10 c2 (.lst XS) = H11 at *
    have thX : ∀ v ∈ XS, Th p H11 v := fun v hv => (thX v hv).same sc2
    have n11 := n.mov M11 hp
    have hda11 := hda.mov M11 hp
    obtain ⟨kv1, hd1, ekv1⟩ := id hda11
    clear sc2 S9 S8 S6 sc1 s8 s6 S5 s5 s4 s3 s2 s1 th6 ec1 eL8 eL ePt enl m10
    refine ⟨_, rfl, c2, rfl, ⟨_, SqL.of ec2⟩, fun D1 hD1 => ?_⟩
    refine turns walk_list (fun j H' => Same H11 H' ∧ H' D1 = some (.lst (((XS.take j).map (hasB (nmsOf l))).map V.bl))) ⟨Lb.Same.upd hD1, upd_same⟩ (fun j H' _ b => SqL.of (b.1 _ _ ec2)) ?_ ?_
    · rintro j v H12 H13 hj ⟨s12, eD⟩ ⟨rfl, ev⟩
      have n12 := n11.same s12
      have szl : (((XS.take j).map (hasB (nmsOf l))).map V.bl).length < sizeLine := szlt (by rw [List.length_map, List.length_map, List.length_take]; omega)
      have fin : ∀ b, b = hasB (nmsOf l) v → ∃ acc, H13 D1 = some (.lst acc) ∧ acc.length < sizeLine ∧ (fun H' => Same H11 H' ∧ H' D1 = some (.lst (((XS.take (j + 1)).map (hasB (nmsOf l))).map V.bl))) (upd H13 D1 (.lst (acc ++ [.bl b]))) := fun b hb => by
        refine ⟨_, eD, szl, Lb.Same.updl s12 hD1, ?_⟩
        rw [upd_same, ← take_snoc ev, List.map_append, List.map_append, hb]
        rfl
      refine ⟨rfl, _, rfl, _, rfl, q, dx, _, rfl, n12.ins, q, l, v, rfl, n12.at, ?_⟩
      rcases (thX v (List.mem_of_getElem? ev)).same s12 |>.use (K := K) with ⟨z, rfl⟩ | ⟨hb, ns⟩
      · exact .inl ⟨z, rfl, _, rfl, fin _ rfl⟩
      · exact .inr ⟨ns, _, rfl, fin _ (hb _).symm⟩
    rintro H12 ⟨s12, eD1⟩
    rw [List.take_length] at eD1
    refine ⟨_, rfl, c2, rfl, ⟨_, SqL.of (s12 _ _ ec2)⟩, fun D2 hD2 => ?_⟩
    refine turns walk_list (fun j H' => Same H12 H' ∧ H' D2 = some (.lst (((XS.take j).map (hasB (nmsOf l))).map V.bl))) ⟨Lb.Same.upd hD2, upd_same⟩ (fun j H' _ b => SqL.of (b.1 _ _ (s12 _ _ ec2))) ?_ ?_
    · rintro j v H13 H14 hj ⟨s13, eD⟩ ⟨rfl, ev⟩
      have s02 := s12.trans s13
      have szl : (((XS.take j).map (hasB (nmsOf l))).map V.bl).length < sizeLine := szlt (by rw [List.length_map, List.length_map, List.length_take]; omega)
      have fin : ∀ H15, Same H14 H15 → ∀ b, b = hasB (nmsOf l) v → ∃ acc, H15 D2 = some (.lst acc) ∧ acc.length < sizeLine ∧ (fun H' => Same H12 H' ∧ H' D2 = some (.lst (((XS.take (j + 1)).map (hasB (nmsOf l))).map V.bl))) (upd H15 D2 (.lst (acc ++ [.bl b]))) := fun H15 s15 b hb => by
        refine ⟨_, s15 _ _ eD, szl, Lb.Same.updl (s13.trans s15) hD2, ?_⟩
        rw [upd_same, ← take_snoc ev, List.map_append, List.map_append, hb]
        rfl
      refine ⟨rfl, _, rfl, ?_⟩
      rcases (thX v (List.mem_of_getElem? ev)).same s02 |>.use (K := K) with ⟨z, rfl⟩ | ⟨hb, t, ty, ks⟩
      · refine ⟨_, _, _, _, _, rfl, .ty _, .base (.str _), kit_ty (r := true) (by decide +kernel), true, rfl, iteT ?_⟩
        refine ⟨_, rfl, _, rfl, d, kv1, nmsOf l, rfl, .inl (s02 _ _ hd1), (ekv1.tk s02.tk).keys, by omega, fun ys S2 perm so hS2 => ?_⟩
        obtain rfl := srt_of perm so
        refine ⟨S2, _, rfl, .inl (SqL.of upd_same), rfl, flat_strs _, ?_⟩
        rw [inV_strs]
        exact fin _ (Lb.Same.upd hS2) _ (by show _ = decide (z ∈ nmsOf l); rw [Bool.eq_iff_iff]; simp [srt_mem])
      · exact ⟨_, _, _, _, false, rfl, .ty _, ty, ks, false, rfl, iteF (fin _ (Same.refl _) _ (hb _).symm)⟩
    rintro H13 ⟨s13, eD2⟩
    rw [List.take_length] at eD2
    have lb : (XS.map (hasB (nmsOf l))).length ≤ 100 := by rw [List.length_map]; omega
    have dep : ∀ bs : List Bool, (PyData.list (bs.map .bool)).depth ≤ 60 := fun bs => by rw [PyData.depth, depth_bls]; decide
    have sw : ∀ bs : List Bool, (PyData.list (bs.map .bool)).showable = true := fun bs => by rw [PyData.showable]; exact showable_bls bs
    refine ⟨_, rfl, _, _, rfl, .lst (SqL.of (s13 _ _ eD1)) (dp_bls _), sw _, bls_len _ lb, dep _, _, rfl, _, _, rfl, .lst (SqL.of eD2) (dp_bls _), sw _, bls_len _ lb, dep _, rfl, ?_⟩
    rw [decide_eq_true rfl]
    refine ⟨_, rfl, iteT ?_⟩
    have s03 := s12.trans s13
    have hd13 := s03 _ _ hd1
    have ekv13 := ekv1.tk s03.tk
    have n13 := n11.same s03
    have M13 := M11.same s03
    refine ⟨d, _, hd13, trivial, fun od => ?_⟩
    have un : ∀ {H'}, Same (upd H13 d (.frz od (.dK kv1))) H' → Same H13 (upd H' d (.dK kv1)) := unlock hd13
    have hd14 : (upd H13 d (.frz od (.dK kv1))) d = some (.frz od (.dK kv1)) := upd_same
    have ekv14 := ekv13.tk (lock_tk (od := od) hd13)
    have n14 : NetA a.c_Net (upd H13 d (.frz od (.dK kv1))) q dx D N T5 R l := n13.updD hd13 nD nR
    generalize upd H13 d (.frz od (.dK kv1)) = H14 at *
    refine ⟨_, rfl, d, od, rfl, .inl ⟨kv1, hd14, fun D3 hD3 => ?_⟩⟩
    have lkv := ekv14.len
    refine turns walk_keys (fun j H' => Same H14 H' ∧ H' D3 = some (.lst (((l.take j).map fun _ => true).map V.bl))) ⟨Lb.Same.upd hD3, upd_same⟩ (fun j H' _ b => b.1 _ _ hd14) ?_ ?_
    · rintro j v H15 H16 hj ⟨s15, eD⟩ ⟨rfl, k0, v0, ek, rfl⟩
      obtain ⟨e, hel, ek2, _⟩ := ekv14.get ek
      obtain rfl : k0 = Sum.inr e.1 := ek2
      have n15 := n14.same s15
      refine ⟨rfl, _, rfl, _, rfl, q, dx, _, rfl, n15.ins, q, l, _, rfl, n15.at, .inl ⟨e.1, rfl, _, rfl, _, eD, szlt (by rw [List.length_map, List.length_map, List.length_take]; omega), Lb.Same.updl s15 hD3, ?_⟩⟩
      have hin : e.1 ∈ nmsOf l := List.mem_map.mpr ⟨e, List.mem_of_getElem? hel, rfl⟩
      rw [upd_same, ← take_snoc hel, List.map_append, List.map_append, decide_eq_true hin]
      rfl
    · rintro H15 ⟨s15, eD3⟩
      rw [lkv, List.take_length] at eD3
      refine ⟨s15 _ _ hd14, ?_⟩
      have nD3 : D3 ≠ d := fun z => by rw [z, hd14] at hD3; cases hD3
      have u15 := un s15
      refine ⟨D3, _, rfl, SqL.of (show (upd H15 d (.dK kv1)) D3 = _ by rw [upd_ne nD3]; exact eD3), ?_⟩
      rw [show (l.map fun _ => true).all id = true by rw [List.all_map]; simp]
      exact k _ (M13.same u15)
end
end K20

set_option Elab.async false
set_option linter.all false
set_option maxRecDepth 100000
set_option maxHeartbeats 4000000
namespace K20
open PySem L2 Lb
open C8 (pss_cut)
theorem good_more {l m : PP} (G : Good l) (nd : (nmsOf m).Nodup) (nn : ∀ e ∈ m, nmS e.1 = true) (en : ∀ e ∈ m, e.2.1 ∈ nodOf l ∧ e.2.2 ∈ nodOf l ∧ e.2.1 ≠ e.2.2) (sub : ∀ e ∈ l, ∃ e' ∈ m, Trn e'.2 e.2) (le : m.length ≤ 16) : Good m := by
  have nod : ∀ x ∈ nodOf m, x ∈ nodOf l := fun x hx => by
    obtain ⟨e, he, rfl | rfl⟩ := mem_nod.mp hx
    · exact (en e he).1
    · exact (en e he).2.1
  refine ⟨nd, fun e he => ⟨nn e he, G.nmP _ (en e he).1, G.nmP _ (en e he).2.1, (en e he).2.2⟩, ?_, le, ?_, fun x hx y hy => ?_⟩
  · rintro rfl
    obtain ⟨e, he⟩ := List.exists_mem_of_ne_nil l G.ne
    obtain ⟨_, h, _⟩ := sub e he
    cases h
  · have := (srtS_nd (nodOf m)).length_le_of_subset (l₂ := pts l) (fun z hz => srtS_mem.mpr (nod z (srtS_mem.mp hz)))
    have h8 := G.le8
    unfold pts at this h8 ⊢
    omega
  · refine Rch.mono (fun e he => ?_) (G.con x (nod x hx) y (nod y hy))
    obtain ⟨e', h, q | q⟩ := sub e he
    · exact ⟨e', h, .inl q⟩
    · exact ⟨e', h, .inr q⟩
theorem mem_putP {l : PP} {z : Str} {e : Str × Str} {x : En} : x ∈ putP l z e ↔ x = (z, e) ∨ (x ∈ l ∧ x.1 ≠ z) := by
  unfold putP
  split
  · next h =>
    rw [List.mem_map]
    constructor
    · rintro ⟨q, hq, rfl⟩
      by_cases k : q.1 = z
      · rw [if_pos k]; exact .inl (by rw [k])
      · rw [if_neg k]; exact .inr ⟨hq, k⟩
    · rintro (rfl | ⟨hx, k⟩)
      · obtain ⟨q, hq, k⟩ := List.mem_map.mp h
        exact ⟨q, hq, by rw [if_pos k, k]⟩
      · exact ⟨x, hx, by rw [if_neg k]⟩
  · next h =>
    rw [List.mem_append, List.mem_singleton]
    constructor
    · rintro (hx | rfl)
      · exact .inr ⟨hx, fun k => h (List.mem_map.mpr ⟨x, hx, k⟩)⟩
      · exact .inl rfl
    · rintro (rfl | ⟨hx, _⟩)
      · exact .inr rfl
      · exact .inl hx
theorem nms_putP {l : PP} {z : Str} {e : Str × Str} : nmsOf (putP l z e) = if z ∈ nmsOf l then nmsOf l else nmsOf l ++ [z] := by
  unfold putP nmsOf
  split
  · rw [List.map_map]
    exact List.map_congr_left fun q _ => by show (if q.1 = z then (q.1, e) else q).1 = q.1; split <;> rfl
  · rw [List.map_append]
    rfl
theorem putP_nd {l : PP} {z : Str} {e : Str × Str} (h : (nmsOf l).Nodup) : (nmsOf (putP l z e)).Nodup := by
  rw [nms_putP]
  split
  · exact h
  · next k => exact List.nodup_append.mpr ⟨h, by simp, fun a ha b hb => by rw [List.mem_singleton.mp hb]; rintro rfl; exact k ha⟩
theorem putP_len {l : PP} {z : Str} {e : Str × Str} : (putP l z e).length ≤ l.length + 1 := by
  unfold putP
  split
  · rw [List.length_map]; omega
  · rw [List.length_append]; exact Nat.le_refl _
theorem putP_len' {l : PP} {z : Str} {e : Str × Str} (h : z ∈ nmsOf l) : (putP l z e).length = l.length := by
  unfold putP
  rw [if_pos (show z ∈ l.map (·.1) from h), List.length_map]
def dropP (l : PP) (z : Str) : PP := l.filter fun e => decide (e.1 ≠ z)
theorem Ent.drop {H : Hp} {kv : List (Key × V)} {l : PP} (h : Ent H kv l) (z : Str) : Ent H (dropK kv (Sum.inr z : Key)) (dropP l z) := by
  unfold Ent dropK dropP at *
  induction h with
  | nil => exact .nil
  | @cons q x kv l hx _ ih =>
    rw [List.filter_cons, List.filter_cons, hx.1]
    by_cases e : x.1 = z
    · rw [if_neg (by simp [e]), if_neg (by simp [e])]
      exact ih
    · rw [if_pos (by simp [e]), if_pos (by simp [e])]
      exact .cons hx ih
/-- what is known of entries that are drawn, in some sequence -/
theorem Good.perm {l m : PP} (G : Good l) (p : m.Perm l) : Good m :=
  good_more G ((p.map (fun e : En => e.1)).nodup_iff.mpr G.nd) (fun e he => (G.nm e (p.mem_iff.mp he)).1)
    (fun e he => have h := p.mem_iff.mp he; ⟨mem_nod.mpr ⟨e, h, .inl rfl⟩, mem_nod.mpr ⟨e, h, .inr rfl⟩, (G.nm e h).2.2.2⟩) (fun e he => ⟨e, p.mem_iff.mpr he, .inl rfl⟩) (by rw [p.length_eq]; exact G.le)
section
variable {l m : PP} {w f a b : Str}
theorem ends_mem (G : Good l) {e : En} (h : e ∈ l) : e.2.1 ∈ nodOf l ∧ e.2.2 ∈ nodOf l ∧ e.2.1 ≠ e.2.2 := ⟨mem_nod.mpr ⟨e, h, .inl rfl⟩, mem_nod.mpr ⟨e, h, .inr rfl⟩, (G.nm e h).2.2.2⟩
theorem only_one (nd : (nmsOf l).Nodup) {e : En} {w : Str} {u : Str × Str} (h : (w, u) ∈ l) (he : e ∈ l) (k : e.1 = w) : e.2 = u := by
  have q1 := getP_mem nd h
  have q2 := getP_mem nd he
  rw [k] at q2
  exact q2.symm.trans q1
/-- called otherwise -/
theorem way1 (G : Good l) (le : l.length ≤ 15) (p : m.Perm l) (hw : (w, (a, b)) ∈ l) (hf : f ∉ nmsOf l) (nf : nmS f = true) : Good (putP (dropP m w) f (a, b)) := by
  have Gm := G.perm p
  have sub : ∀ x ∈ dropP m w, x ∈ l ∧ x.1 ≠ w := fun x hx => by
    unfold dropP at hx
    rw [List.mem_filter, decide_eq_true_eq] at hx
    exact ⟨p.mem_iff.mp hx.1, hx.2⟩
  have nd : (nmsOf (dropP m w)).Nodup := (Gm.nd).sublist (List.Sublist.map _ List.filter_sublist)
  refine good_more G (putP_nd nd) (fun e he => ?_) (fun e he => ?_) (fun e he => ?_) (Nat.le_trans putP_len ?_)
  · rcases mem_putP.mp he with rfl | ⟨h, _⟩
    · exact nf
    · exact (G.nm e (sub e h).1).1
  · rcases mem_putP.mp he with rfl | ⟨h, _⟩
    · have q := ends_mem G hw
      exact q
    · exact ends_mem G (sub e h).1
  · by_cases k : e.1 = w
    · exact ⟨(f, (a, b)), mem_putP.mpr (.inl rfl), .inl (only_one G.nd hw he k).symm⟩
    · refine ⟨e, mem_putP.mpr (.inr ⟨?_, fun z => hf (List.mem_map.mpr ⟨e, he, z⟩)⟩), .inl rfl⟩
      unfold dropP
      rw [List.mem_filter, decide_eq_true_eq]
      exact ⟨p.mem_iff.mpr he, k⟩
  · have := List.length_filter_le (fun e : En => decide (e.1 ≠ w)) m
    unfold dropP
    rw [p.length_eq] at this
    omega
/-- turned -/
theorem way2 (G : Good l) (p : m.Perm l) (hw : (w, (a, b)) ∈ l) : Good (putP m w (b, a)) := by
  have Gm := G.perm p
  have hm : w ∈ nmsOf m := List.mem_map.mpr ⟨_, p.mem_iff.mpr hw, rfl⟩
  refine good_more G (putP_nd Gm.nd) (fun e he => ?_) (fun e he => ?_) (fun e he => ?_) (by rw [putP_len' hm, p.length_eq]; exact G.le)
  · rcases mem_putP.mp he with rfl | ⟨h, _⟩
    · exact (G.nm _ hw).1
    · exact (G.nm e (p.mem_iff.mp h)).1
  · rcases mem_putP.mp he with rfl | ⟨h, _⟩
    · have := ends_mem G hw
      exact ⟨this.2.1, this.1, this.2.2.symm⟩
    · exact ends_mem G (p.mem_iff.mp h)
  · by_cases k : e.1 = w
    · exact ⟨_, mem_putP.mpr (.inl rfl), .inr (by rw [only_one G.nd hw he k]; exact ⟨rfl, rfl⟩)⟩
    · exact ⟨e, mem_putP.mpr (.inr ⟨p.mem_iff.mpr he, k⟩), .inl rfl⟩
/-- one more -/
theorem way3 (G : Good l) (le : l.length ≤ 15) (p : m.Perm l) {y : Str} (ha : a ∈ nodOf l) (hy : y ∈ nodOf l) (ne : a ≠ y) (hf : f ∉ nmsOf l) (nf : nmS f = true) : Good (putP m f (a, y)) := by
  have Gm := G.perm p
  refine good_more G (putP_nd Gm.nd) (fun e he => ?_) (fun e he => ?_) (fun e he => ?_) (Nat.le_trans putP_len (by rw [p.length_eq]; omega))
  · rcases mem_putP.mp he with rfl | ⟨h, _⟩
    · exact nf
    · exact (G.nm e (p.mem_iff.mp h)).1
  · rcases mem_putP.mp he with rfl | ⟨h, _⟩
    · exact ⟨ha, hy, ne⟩
    · exact ends_mem G (p.mem_iff.mp h)
  · exact ⟨e, mem_putP.mpr (.inr ⟨p.mem_iff.mpr he, fun z => hf (List.mem_map.mpr ⟨e, he, z⟩)⟩), .inl rfl⟩
/-- the ends of two of them exchanged -/
theorem way5 (G : Good l) (p : m.Perm l) {t : Str} {u v : Str × Str} (hw : (w, u) ∈ l) (ht : (t, v) ∈ l) : Good (putP (putP m w v) t u) := by
  have Gm := G.perm p
  have hm : w ∈ nmsOf m := List.mem_map.mpr ⟨_, p.mem_iff.mpr hw, rfl⟩
  have hm2 : t ∈ nmsOf (putP m w v) := by
    rw [nms_putP, if_pos hm]
    exact List.mem_map.mpr ⟨_, p.mem_iff.mpr ht, rfl⟩
  refine good_more G (putP_nd (putP_nd Gm.nd)) (fun e he => ?_) (fun e he => ?_) (fun e he => ?_) (by rw [putP_len' hm2, putP_len' hm, p.length_eq]; exact G.le)
  · rcases mem_putP.mp he with rfl | ⟨h, _⟩
    · exact (G.nm _ ht).1
    · rcases mem_putP.mp h with rfl | ⟨h, _⟩
      · exact (G.nm _ hw).1
      · exact (G.nm e (p.mem_iff.mp h)).1
  · rcases mem_putP.mp he with rfl | ⟨h, _⟩
    · have q := ends_mem G hw
      exact q
    · rcases mem_putP.mp h with rfl | ⟨h, _⟩
      · have q := ends_mem G ht
        exact q
      · exact ends_mem G (p.mem_iff.mp h)
  · by_cases k : e.1 = t
    · have e2 := only_one G.nd ht he k
      by_cases wt : w = t
      · subst wt
        exact ⟨_, mem_putP.mpr (.inl rfl), .inl (only_one G.nd hw he k).symm⟩
      · exact ⟨(w, v), mem_putP.mpr (.inr ⟨mem_putP.mpr (.inl rfl), wt⟩), .inl e2.symm⟩
    · by_cases k2 : e.1 = w
      · exact ⟨_, mem_putP.mpr (.inl rfl), .inl (only_one G.nd hw he k2).symm⟩
      · exact ⟨e, mem_putP.mpr (.inr ⟨mem_putP.mpr (.inr ⟨p.mem_iff.mpr he, k2⟩), k⟩), .inl rfl⟩
/-- a node called otherwise -/
def rho (a x : Str) : Str := if x = a then "zzzz" else x
def renP (a : Str) (l : PP) : PP := l.map fun e => (e.1, (rho a e.2.1, rho a e.2.2))
theorem rho_inj {a x y : Str} (hx : x ≠ "zzzz") (hy : y ≠ "zzzz") (h : rho a x = rho a y) : x = y := by
  unfold rho at h
  by_cases h1 : x = a
  · by_cases h2 : y = a
    · rw [h1, h2]
    · rw [if_pos h1, if_neg h2] at h
      exact absurd h.symm hy
  · by_cases h2 : y = a
    · rw [if_neg h1, if_pos h2] at h
      exact absurd h hx
    · rw [if_neg h1, if_neg h2] at h
      exact h
theorem way4 (D : Drawn l) (p : m.Perm l) : Good (renP a m) := by
  have G := D.good
  have Gm := G.perm p
  have hz : ∀ x ∈ nodOf m, x ≠ "zzzz" := fun x hx e => by
    have l4 : ("zzzz" : Str).length = 4 := by decide +kernel
    obtain ⟨q, hq, k⟩ := mem_nod.mp hx
    have := D.short q (p.mem_iff.mp hq)
    rcases k with k | k <;> rw [e] at k <;> rw [← k, l4] at this <;> omega
  have nz : nmS "zzzz" = true := by decide +kernel
  have nr : ∀ x, nmS x = true → nmS (rho a x) = true := fun x h => by unfold rho; split; exact nz; exact h
  have rc : ∀ {x y}, Rch m x y → Rch (renP a m) (rho a x) (rho a y) := fun {x y} h => by
    induction h with
    | refl => exact .refl
    | step _ k ih =>
      refine .step ih ?_
      rw [mem_nbr] at k ⊢
      obtain ⟨e, he, k⟩ := k
      refine ⟨_, List.mem_map.mpr ⟨e, he, rfl⟩, ?_⟩
      rcases k with ⟨rfl, rfl⟩ | ⟨rfl, rfl⟩
      · exact .inl ⟨rfl, rfl⟩
      · exact .inr ⟨rfl, rfl⟩
  have nod : ∀ x ∈ nodOf (renP a m), ∃ y ∈ nodOf m, x = rho a y := fun x hx => by
    obtain ⟨e, he, k⟩ := mem_nod.mp hx
    obtain ⟨q, hq, rfl⟩ := List.mem_map.mp he
    rcases k with k | k
    · exact ⟨_, mem_nod.mpr ⟨q, hq, .inl rfl⟩, k⟩
    · exact ⟨_, mem_nod.mpr ⟨q, hq, .inr rfl⟩, k⟩
  have nms : nmsOf (renP a m) = nmsOf m := by
    unfold renP nmsOf
    rw [List.map_map]
    exact List.map_congr_left fun _ _ => rfl
  refine ⟨by rw [nms]; exact Gm.nd, fun e he => ?_, ?_, ?_, ?_, fun x hx y hy => ?_⟩
  · obtain ⟨q, hq, rfl⟩ := List.mem_map.mp he
    have := Gm.nm q hq
    exact ⟨this.1, nr _ this.2.1, nr _ this.2.2.1, fun h => this.2.2.2 (rho_inj (hz _ (mem_nod.mpr ⟨q, hq, .inl rfl⟩)) (hz _ (mem_nod.mpr ⟨q, hq, .inr rfl⟩)) h)⟩
  · intro h
    have := congrArg List.length h
    unfold renP at this
    rw [List.length_map] at this
    exact Gm.ne (List.eq_nil_of_length_eq_zero this)
  · unfold renP
    rw [List.length_map]
    exact Gm.le
  · have h1 := (srtS_nd (nodOf (renP a m))).length_le_of_subset (l₂ := (pts m).map (rho a)) (fun z hz => by
      obtain ⟨y, hy, rfl⟩ := nod z (srtS_mem.mp hz)
      exact List.mem_map.mpr ⟨y, srtS_mem.mpr hy, rfl⟩)
    rw [List.length_map] at h1
    have := Gm.le8
    unfold pts at h1 this ⊢
    omega
  · obtain ⟨x', hx', rfl⟩ := nod x hx
    obtain ⟨y', hy', rfl⟩ := nod y hy
    exact rc (Gm.con x' hx' y' hy')
end
end K20

set_option Elab.async false
set_option linter.all false
set_option maxRecDepth 100000
set_option maxHeartbeats 4000000
namespace K20
open PySem L2 Lb
open C8 (pss_cut)
open LiI (pe_listItems)
theorem items_of {H : Hp} : ∀ {ts : List Addr} {kv : List (Key × V)} {l : PP}, Paired (fun (t : Addr) (q : Key × V) => H t = some (.tup [kV q.1, q.2])) ts kv → Ent H kv l → Paired (fun (t : Addr) (e : En) => ItE H (.ref t) e) ts l
  | _, _, _, .nil, h => by
    cases h
    exact .nil
  | _, _, _, .cons (a := t) (b := q) c r, h => by
    cases h with
    | cons x y =>
      refine .cons ⟨t, q.2, rfl, ?_, x.2⟩ (items_of r y)
      rw [c, x.1]
      rfl
theorem le2 : (2 : Nat) ≤ sizeLine := szle (by decide)
theorem kV_str (z : Str) : kV (Sum.inr z : Key) = V.str z := rfl
theorem merge_inr {kvs : List (Key × V)} {ks : List Str} (h : kvs.map (·.1) = ks.map Sum.inr) (nd : ks.Nodup) : mergeK [] kvs = kvs := by
  have nk : (kvs.map (·.1)).Nodup := by
    rw [h]
    exact List.Pairwise.map Sum.inr (fun (x y : Str) (h : x ≠ y) (e : (Sum.inr x : Key) = Sum.inr y) => h (by injection e)) nd
  have := merge_nd kvs [] (by simpa using nk)
  simpa using this
def kvC (xs : List Str) : List (Key × V) := xs.map fun x => ((Sum.inr x : Key), V.str x)
def kvR (a : Str) (xs : List Str) : List (Key × V) := xs.map fun x => ((Sum.inr x : Key), V.str (rho a x))
theorem kvC_put {a : Str} {xs : List Str} (h : a ∈ xs) : putK (kvC xs) (Sum.inr a : Key) (.str "zzzz") = kvR a xs := by
  unfold putK kvC kvR
  rw [if_pos, List.map_map]
  · refine List.map_congr_left fun x _ => ?_
    show (if (Sum.inr x : Key) = Sum.inr a then _ else _) = _
    unfold rho
    by_cases e : x = a
    · rw [if_pos (by rw [e]), if_pos e]
    · rw [if_neg (by intro z; injection z; contradiction), if_neg e]
  · rw [List.any_eq_true]
    exact ⟨_, List.mem_map.mpr ⟨a, h, rfl⟩, by simp⟩
theorem kvR_val {a x : Str} : ∀ {xs : List Str}, x ∈ xs → valV (kvR a xs) (Sum.inr x : Key) = some (.str (rho a x))
  | y :: r, h => by
    by_cases e : y = x
    · rw [← e]; exact valV_pos rfl
    · refine (valV_neg (p := ((Sum.inr y : Key), V.str (rho a y))) (by intro z; injection z; contradiction)).trans (kvR_val ?_)
      rcases List.mem_cons.mp h with k | k
      · exact absurd k.symm e
      · exact k
theorem pairs_kv {K : PySem.W.Frag} {H : Hp} {ts : List Addr} {xs : List Str} (h : Paired (fun (t : Addr) (x : Str) => H t = some (.tup [.str x, .str x])) ts xs) : Paired (fun (p : Addr) (kv : Key × V) => SqT K H p [kV kv.1, kv.2]) ts (kvC xs) := by
  unfold kvC
  induction h with
  | nil => exact .nil
  | cons hx _ ih => exact .cons (SqT.of hx) ih
theorem renP_snoc {a : Str} {m : PP} {e : En} : renP a m ++ [(e.1, (rho a e.2.1, rho a e.2.2))] = renP a (m ++ [e]) := by
  unfold renP
  rw [List.map_append]
  rfl
theorem pss_snoc {α β : Type} {F : α → β → Prop} {xs : List α} {ys : List β} {x : α} {y : β} (h : Paired F xs ys) (k : F x y) : Paired F (xs ++ [x]) (ys ++ [y]) := by
  induction h with
  | nil => exact .cons k .nil
  | cons a _ ih => exact .cons a ih
theorem put_f {p f : Addr} {H H' : Hp} {m : PP} {z : Str} {v : V} {e : Str × Str} (M : Mov p H H') (hp : PotAt H p) (hf : H f = none) (fa : DA H' f m) (hm : m.length ≤ 20) (hv : vEn H' v e) : ∃ H2, DPut H' f (.str z) v H2 ∧ Mov p H H2 ∧ DA H2 f (putP m z e) ∧ TK H' H2 := by
  obtain ⟨kv, h1, h2⟩ := fa
  have tk : TK H' (upd H' f (.dK (putK kv (Sum.inr z : Key) v))) := tk_upd fun xs z => by rw [h1] at z; cases z
  exact ⟨_, DPut.k (k := Sum.inr z) h1 (szlt (by rw [h2.len]; omega)), mov_upd M hp hf, ⟨_, upd_same, (h2.put hv).tk tk⟩, tk⟩
theorem al_f {p f t : Addr} {H H' : Hp} {m : PP} {o : HO} (M : Mov p H H') (fa : DA H' f m) (ht : H' t = none) : Mov p H (upd H' t o) ∧ DA (upd H' t o) f m := ⟨M.same (Lb.Same.upd ht), fa.same (Lb.Same.upd ht)⟩
def sp_bent : Sp := fun vs H Q _ => ∃ p d l, vs = [.ref p, .ref d] ∧ PotAt H p ∧ DA H d l ∧ Drawn l ∧ ∀ H' f m, Mov p H H' → H f = none → DA H' f m → Good m → Q (.ref f) H'
section
variable {P : Program} {w : World} {K : PySem.W.Frag} {mg : Str → Option Value} {base : Heap} {a : Ad}
theorem ok_bent (T : Txt K mg a) : FnOk P w K mg base CX0 4 a.f_bent a.d_bent ["_law_pot_here", "_law_entries"] sp_bent := by
  refine T.F_bent.ok sc_bent (fun vs H Q E h => ?_) (fun cdv A outer s H vs Q E hr h => ?_)
  · obtain ⟨p, d, l, rfl, _⟩ := h
    rfl
  · obtain ⟨p, d, l, rfl, hp, hda, Dl, k⟩ := h
    refine ⟨_, (pss_cons (ps_par (i := 2) (j := 3) rfl sc_bent.nd rfl rfl (by decide) rfl rfl (pa_cons (pe_callTy (call_dictP rfl) (by rfl) T.b_dict (by decide +kernel) (pa_cons (pe_call (ok_mixed T) (hr.mono (by decide)) (by rfl) T.m_mixed T.F_mixed.kp (b_mixed T) .nil pass0 (pa_cons (pv 0) (pa_cons (pe_listItems rfl (pv 1) (by rfl) T.b_list (by decide +kernel)) pa_nil))) pa_nil)) (pa_cons (pe_call (ok_draw T) (hr.mono (by decide)) (by rfl) T.m_draw T.F_draw.kp (b_draw T) .nil pass0 (pa_cons (pv 0) (pa_cons pe_int pa_nil))) pa_nil)) (by rfl))
 (pss_cons (ps_set (i := 4) sc_bent.nd rfl (by first | exact Or.inl rfl | exact Or.inr rfl) (pe_call (ok_pick T) (hr.mono (by decide)) (by rfl) T.m_pick T.F_pick.kp (b_pick T) .nil pass0 (pa_cons (pv 0) (pa_cons (pe_callB (call_sortedD rfl) (by rfl) T.b_sorted (by decide +kernel) (pa_cons (pv 1) pa_nil)) pa_nil))))
 (pss_cons (ps_asg (pe_dget (hu_of hr) (pv 2) (pv 4) (fun _ _ => rfl)) (pg_tupK (K := K) (n := 2) rfl rfl (pgs_cons (pg_name (i := 5) sc_bent.nd rfl (by first | exact Or.inl rfl | exact Or.inr rfl)) (pgs_cons (pg_name (i := 6) sc_bent.nd rfl (by first | exact Or.inl rfl | exact Or.inr rfl)) pgs_nil))))
 (pss_cons (ps_set (i := 7) sc_bent.nd rfl (by first | exact Or.inl rfl | exact Or.inr rfl) (pe_ix (ix_listK (K := K) rfl) (pe_lc (own := [("_law_one", 8)]) (by rfl) sc_bent.nd (pi_listK (K := K) rfl (pe_call (ok_names T) (hr.mono (by decide)) (by rfl) T.m_names T.F_names.kp (b_names T) .nil pass0 (pa_cons (pv 0) (pa_cons (pe_op op_add (pe_callB call_lenD (by rfl) T.b_len (by decide +kernel) (pa_cons (pv 1) pa_nil)) pe_int) pa_nil)))) (blkOk_by (own := [("_law_one", 8)]) (N := ["_law_pot_here", "_law_entries", "_law_found", "_law_way", "_law_word", "_law_a", "_law_b", "_law_fresh", "_law_one", "_law_called", "_law_c", "_law_d", "_law_twin"]) (sc := defScope s_bent) (by decide +kernel)) (fun _ _ _ _ _ => (pg_name (i := 8) sc_bent.nd rfl (by first | exact Or.inl rfl | exact Or.inr rfl))) (fun _ _ _ _ _ => pts_one (pt_cmp (pc_dnotin (hu_of hr) (pv 8) (pv 1)))) (fun _ _ _ _ _ => (pv 8))) pe_int (fun _ _ => rfl)))
 (pss_cut (ps_if (pt_cmpR op_eq (pv 3) pe_int (nomark _)) (pss_cons (ps_expr (pe_dpop1 (pv 2) (pv 4) ⟨rfl, rfl, rfl, rfl⟩))
 (pss_one (ps_dput (hu_of hr) (pv 2) (pv 7) (pe_tup (pa_cons (pv 5) (pa_cons (pv 6) pa_nil))) rfl))) pss_nil)
 (pss_cut (ps_if (pt_cmpR op_eq (pv 3) pe_int (nomark _)) (pss_one (ps_dput (hu_of hr) (pv 2) (pv 4) (pe_tup (pa_cons (pv 6) (pa_cons (pv 5) pa_nil))) rfl)) pss_nil)
 (pss_cut (ps_if (pt_cmpR op_eq (pv 3) pe_int (nomark _)) (pss_one (ps_asg (pe_tup (pa_cons (pv 5) (pa_cons (pe_call (ok_pick T) (hr.mono (by decide)) (by rfl) T.m_pick T.F_pick.kp (b_pick T) .nil pass0 (pa_cons (pv 0) (pa_cons (pe_lc (own := [("_law_one", 8)]) (by rfl) sc_bent.nd (pi_listK (K := K) rfl (pe_call (ok_points T) (hr.mono (by decide)) (by rfl) T.m_points T.F_points.kp (b_points T) .nil pass0 (pa_cons (pv 1) pa_nil))) (blkOk_by (own := [("_law_one", 8)]) (N := ["_law_pot_here", "_law_entries", "_law_found", "_law_way", "_law_word", "_law_a", "_law_b", "_law_fresh", "_law_one", "_law_called", "_law_c", "_law_d", "_law_twin"]) (sc := defScope s_bent) (by decide +kernel)) (fun _ _ _ _ _ => (pg_name (i := 8) sc_bent.nd rfl (by first | exact Or.inl rfl | exact Or.inr rfl))) (fun _ _ _ _ _ => pts_one (pt_cmpR op_ne (pv 8) (pv 5) (nomark _))) (fun _ _ _ _ _ => (pv 8))) pa_nil))) pa_nil))) (pg_sub (pv 2) (pv 7) (set_dict (hu_of hr))))) pss_nil)
 (pss_cut (ps_if (pt_cmpR op_eq (pv 3) pe_int (nomark _)) (pss_cons (ps_set (i := 9) sc_bent.nd rfl (by first | exact Or.inl rfl | exact Or.inr rfl) (pe_callTy (call_dictP rfl) (by rfl) T.b_dict (by decide +kernel) (pa_cons (pe_lc (own := [("_law_one", 8)]) (by rfl) sc_bent.nd (pi_listK (K := K) rfl (pe_call (ok_points T) (hr.mono (by decide)) (by rfl) T.m_points T.F_points.kp (b_points T) .nil pass0 (pa_cons (pv 1) pa_nil))) (blkOk_by (own := [("_law_one", 8)]) (N := ["_law_pot_here", "_law_entries", "_law_found", "_law_way", "_law_word", "_law_a", "_law_b", "_law_fresh", "_law_one", "_law_called", "_law_c", "_law_d", "_law_twin"]) (sc := defScope s_bent) (by decide +kernel)) (fun _ _ _ _ _ => (pg_name (i := 8) sc_bent.nd rfl (by first | exact Or.inl rfl | exact Or.inr rfl))) (fun _ _ _ _ _ => pts_nil) (fun _ _ _ _ _ => (pe_tup (pa_cons (pv 8) (pa_cons (pv 8) pa_nil))))) pa_nil)))
 (pss_cons (ps_dput (hu_of hr) (pv 9) (pv 5) pe_str rfl)
 (pss_one (ps_set (i := 2) sc_bent.nd rfl (by first | exact Or.inl rfl | exact Or.inr rfl) (pe_callTy (call_dictP rfl) (by rfl) T.b_dict (by decide +kernel) (pa_cons (pe_lock (pe_lc (own := [("_law_one", 8), ("_law_c", 10), ("_law_d", 11)]) (by rfl) sc_bent.nd (pi_items (pv 2)) (blkOk_by (own := [("_law_one", 8), ("_law_c", 10), ("_law_d", 11)]) (N := ["_law_pot_here", "_law_entries", "_law_found", "_law_way", "_law_word", "_law_a", "_law_b", "_law_fresh", "_law_one", "_law_called", "_law_c", "_law_d", "_law_twin"]) (sc := defScope s_bent) (by decide +kernel)) (fun _ _ _ _ _ => (pg_tupK (K := K) (n := 2) rfl rfl (pgs_cons (pg_name (i := 8) sc_bent.nd rfl (by first | exact Or.inl rfl | exact Or.inr rfl)) (pgs_cons (pg_tupK (K := K) (n := 2) rfl rfl (pgs_cons (pg_name (i := 10) sc_bent.nd rfl (by first | exact Or.inl rfl | exact Or.inr rfl)) (pgs_cons (pg_name (i := 11) sc_bent.nd rfl (by first | exact Or.inl rfl | exact Or.inr rfl)) pgs_nil))) pgs_nil)))) (fun _ _ _ _ _ => pts_nil) (fun _ _ _ _ _ => (pe_tup (pa_cons (pv 8) (pa_cons (pe_tup (pa_cons (pe_dget (hu_of hr) (pv 9) (pv 10) (fun _ _ => rfl)) (pa_cons (pe_dget (hu_of hr) (pv 9) (pv 11) (fun _ _ => rfl)) pa_nil))) pa_nil)))))) pa_nil)))))) pss_nil)
 (pss_cut (ps_if (pt_cmpR op_eq (pv 3) pe_int (nomark _)) (pss_cons (ps_set (i := 12) sc_bent.nd rfl (by first | exact Or.inl rfl | exact Or.inr rfl) (pe_call (ok_pick T) (hr.mono (by decide)) (by rfl) T.m_pick T.F_pick.kp (b_pick T) .nil pass0 (pa_cons (pv 0) (pa_cons (pe_callB (call_sortedD rfl) (by rfl) T.b_sorted (by decide +kernel) (pa_cons (pv 1) pa_nil)) pa_nil))))
 (pss_one (ps_asg (pe_tup (pa_cons (pe_dget (hu_of hr) (pv 2) (pv 12) (fun _ _ => rfl)) (pa_cons (pe_dget (hu_of hr) (pv 2) (pv 4) (fun _ _ => rfl)) pa_nil))) (pg_tupK (K := K) (n := 2) rfl rfl (pgs_cons (pg_sub (pv 2) (pv 4) (set_dict (hu_of hr))) (pgs_cons (pg_sub (pv 2) (pv 12) (set_dict (hu_of hr))) pgs_nil)))))) pss_nil)
 (pss_one (ps_ret (pv 2)))))))))))), ?_⟩
    have G := Dl.good
    have lle := G.le
    have le15 := Dl.le
    have l8 := G.le8
    have lnn := nms_len l
    have l0 : 0 < l.length := List.length_pos_iff.mpr G.ne
    have lzs : (srt (nmsOf l)).length = l.length := by rw [srt_len, nms_len]
    obtain ⟨kv, hd, ekv⟩ := id hda
    have ndp : d ≠ p := pot_ne' hp hd fun _ z => nomatch z
    refine ⟨_, rfl, _, rfl, d, kv, rfl, hd, fun H1 L ts s1 hL hts nL eL pts1 => ?_⟩
    have pZ := items_of pts1 (ekv.tk (L2.Same.tk s1))
    have hit : ∀ x ∈ ts.map V.ref, ItX H1 x := fun x hx => by
      obtain ⟨t, ht, rfl⟩ := List.mem_map.mp hx
      obtain ⟨i, hi⟩ := List.mem_iff_getElem?.mp ht
      obtain ⟨e, he, q⟩ := paired_get pZ hi
      have := G.nm e (List.mem_of_getElem? he)
      exact ⟨e, q, this.1, this.2.1, this.2.2.1⟩
    have lts : ts.length = l.length := Paired.length pZ
    have pot1 := L2.Same.pot s1 hp
    refine ⟨p, L, _, rfl, pot1, SqL.of eL, hit, by rw [List.length_map]; omega, fun H2 r ys m2 hr er perm2 => ?_⟩
    have pZ2 := Paired.imp pZ fun _ _ x => x.tk (m2.tk pot1)
    obtain ⟨us, kvs, m0, rfl, p1, p2, p3, p4⟩ := items_dict (K := K) pZ2 perm2 G.nd
    refine ⟨r, us, kvs, rfl, SqL.of er, p1, fun f hf => ?_⟩
    rw [p4]
    have M2 : Mov p H H2 := (L2.Same.mov s1 hp).trans m2
    have hf0 := M2.free hp hf
    have M3 : Mov p H (upd H2 f (.dK kvs)) := mov_upd M2 hp hf0
    have fa3 : DA (upd H2 f (.dK kvs)) f m0 := ⟨kvs, upd_same, p2.tk (Lb.Same.upd hf).tk⟩
    generalize upd H2 f (.dK kvs) = H3 at *
    refine ⟨_, rfl, p, _, rfl, M3.pot, by decide, by unfold Bd; decide, fun H4 way m4 w0 w1 => ⟨_, _, rfl, ?_⟩⟩
    have M4 := M3.trans m4
    have fa4 := fa3.mov m4 M3.pot
    obtain ⟨kv4, hd4, ekv4⟩ := hda.mov M4 hp
    refine ⟨_, rfl, _, rfl, d, kv4, nmsOf l, rfl, .inl hd4, ekv4.keys, by omega, fun ys S perm so hS => ?_⟩
    obtain rfl := srt_of perm so
    have s5 : Same H4 (upd H4 S (.lst ((srt (nmsOf l)).map V.str))) := Lb.Same.upd hS
    have M5 := M4.same s5
    refine ⟨p, S, _, rfl, M5.pot, SqL.of upd_same, M4.ne hS, by rw [List.length_map]; omega, by rw [List.length_map]; omega, fun H6 i v m6 hv => ?_⟩
    obtain ⟨word, hw, rfl⟩ := str_get hv
    have hwn : word ∈ nmsOf l := srt_mem.mp (List.mem_of_getElem? hw)
    have M6 := M5.trans m6
    have fa6 := (fa4.same s5).mov m6 M5.pot
    obtain ⟨⟨ea, eb⟩, he⟩ := lookup_some hwn
    have hem := mem_lookup he
    have Gm := G.perm p3
    obtain ⟨kf, hf6, ekf⟩ := id fa6
    obtain ⟨u, hu, t, rfl, ht⟩ := ekf.val_some (z := word) (e := (ea, eb)) (lookup_mem Gm.nd (p3.mem_iff.mpr hem))
    have hg : DGet H6 f (.str word) (some (.ref t)) := by rw [← hu]; exact DGet.k (k := Sum.inr word) hf6
    refine ⟨_, rfl, _, rfl, f, _, rfl, hg, t, _, rfl, SqT.of ht, rfl, _, _, rfl, _, _, rfl, rfl, ?_⟩
    obtain ⟨kv6, hd6, ekv6⟩ := hda.mov M6 hp
    refine ⟨_, rfl, _, rfl, d, kv6, rfl, hd6, _, _, rfl, rfl, p, l.length + 1, ?_, M6.pot, by omega, fun H7 nl ns m7 hnl enl ln ndn hns => ?_⟩
    · rw [ekv6.len, Int.natCast_add]; rfl
    have M7 := M6.trans m7
    obtain ⟨kv7, hd7, ekv7⟩ := hda.mov M7 hp
    refine ⟨nl, rfl, ⟨_, SqL.of enl⟩, fun D1 hD1 => ?_⟩
    refine turns walk_list (fun j H' => Same H7 H' ∧ H' D1 = some (.lst (((ns.take j).filter fun z => decide (z ∉ nmsOf l)).map V.str))) ⟨Lb.Same.upd hD1, upd_same⟩ (fun j H' _ b => SqL.of (b.1 _ _ enl)) ?_ ?_
    · rintro j v H8 H9 hj ⟨s8, eD⟩ ⟨rfl, ev⟩
      obtain ⟨z, hz, rfl⟩ := str_get ev
      refine ⟨rfl, _, rfl, _, rfl, d, _, rfl, DGet.k (k := Sum.inr z) (s8 _ _ hd7), _, rfl, ?_⟩
      have ek := ekv7.tk s8.tk
      have e1 : (valV kv7 (Sum.inr z : Key)).isSome = decide (z ∈ nmsOf l) := by
        cases h : l.lookup z with
        | none => rw [ek.val_none h]; exact (decide_eq_false (lookup_none.mp h)).symm
        | some e =>
          obtain ⟨u, hu, _⟩ := ek.val_some h
          rw [hu]
          exact (decide_eq_true (List.mem_map.mpr ⟨_, mem_lookup h, rfl⟩)).symm
      rw [e1, ← take_snoc hz]
      by_cases hin : z ∈ nmsOf l
      · rw [decide_eq_true hin, List.filter_append, List.filter_cons, if_neg (by simp [hin]), List.filter_nil, List.append_nil]
        exact iteF ⟨s8, eD⟩
      · rw [decide_eq_false hin, List.filter_append, List.filter_cons, if_pos (by simp [hin]), List.filter_nil, List.map_append]
        refine iteT ⟨_, rfl, _, eD, szlt ?_, Lb.Same.updl s8 hD1, upd_same⟩
        rw [List.length_map]
        have h1 := List.length_filter_le (fun z => decide (z ∉ nmsOf l)) (ns.take j)
        rw [List.length_take] at h1
        omega
    rintro H8 ⟨s8, eD⟩
    rw [List.length_map, List.take_length] at eD
    obtain ⟨fresh, rr, hF⟩ : ∃ y r, ns.filter (fun z => decide (z ∉ nmsOf l)) = y :: r := by
      cases e : ns.filter (fun z => decide (z ∉ nmsOf l)) with
      | cons y r => exact ⟨y, r, rfl⟩
      | nil =>
        have sub : ns ⊆ nmsOf l := fun z hz => by
          rw [List.filter_eq_nil_iff] at e
          have := e z hz
          simpa using this
        have := ndn.length_le_of_subset sub
        omega
    have hfr : fresh ∈ ns ∧ fresh ∉ nmsOf l := by
      have : fresh ∈ ns.filter fun z => decide (z ∉ nmsOf l) := by rw [hF]; exact List.mem_cons_self
      rw [List.mem_filter, decide_eq_true_eq] at this
      exact this
    have nfr := (hns _ hfr.1).1
    rw [hF] at eD
    refine ⟨D1, _, 0, .str fresh, rfl, rfl, SqL.of eD, atI_nat (j := 0) rfl, ?_⟩
    have M8 := M7.same s8
    have fa8 := (fa6.mov m7 M6.pot).same s8
    -- the ways
    let Md : Int → St → Hp → Prop := fun k σ H' => ∃ f m u9 u12, σ = [some (.ref p), some (.ref d), some (.ref f), some (.int way), some (.str word), some (.str ea), some (.str eb), some (.str fresh), none, u9, none, none, u12] ∧ Mov p H H' ∧ H f = none ∧ DA H' f m ∧ Good m ∧ (k < way → m.Perm l)
    have md0 : Md 0 [some (.ref p), some (.ref d), some (.ref f), some (.int way), some (.str word), some (.str ea), some (.str eb), some (.str fresh), none, none, none, none, none] H8 := ⟨f, m0, _, _, rfl, M8, hf0, fa8, Gm, fun _ => p3⟩
    have hd4 : ∀ {H'}, Mov p H H' → DA H' d l := fun M => hda.mov M hp
    have step : ∀ {j k : Int} {σ H'}, j < k → Md j σ H' → Md k σ H' := fun jk ⟨g, m, u9, u12, e, a, b, c, x, y⟩ => ⟨g, m, u9, u12, e, a, b, c, x, fun z => y (by omega)⟩
    -- called otherwise
    refine ⟨Md 1, ?_, fun σ1 H9 h1 => ?_⟩
    · refine ⟨_, rfl, rfl, _, rfl, ?_⟩
      by_cases w : way = 1
      · rw [show decide (V.int way = V.int 1) = true from decide_eq_true (by rw [w])]
        obtain ⟨kv8, h8, ek8⟩ := id fa8
        obtain ⟨u, hu, _⟩ := ek8.val_some (z := word) (e := (ea, eb)) (lookup_mem Gm.nd (p3.mem_iff.mpr hem))
        refine iteT ⟨_, rfl, _, rfl, .inl ⟨_, .inl h8⟩, _, rfl, kv8, Sum.inr word, u, h8, rfl, hu, ?_⟩
        have M9 := mov_upd (o := .dK (dropK kv8 (Sum.inr word))) M8 hp hf0
        have fa9 : DA (upd H8 f (.dK (dropK kv8 (Sum.inr word)))) f (dropP m0 word) := ⟨_, upd_same, (ek8.drop word).tk (tk_upd fun xs z => by rw [h8] at z; cases z)⟩
        generalize upd H8 f (.dK (dropK kv8 (Sum.inr word))) = H9 at *
        refine ⟨_, rfl, _, rfl, le2, fun t ht => ?_⟩
        obtain ⟨Ma, fa⟩ := al_f (o := .tup [.str ea, .str eb]) M9 fa9 ht
        obtain ⟨Hb, P, Mb, fb, _⟩ := put_f (z := fresh) (v := .ref t) (e := (ea, eb)) Ma hp hf0 fa (by have := List.length_filter_le (fun e : En => decide (e.1 ≠ word)) m0; have := Gm.le; unfold dropP; omega) ⟨t, rfl, upd_same⟩
        exact ⟨_, rfl, _, rfl, f, Hb, rfl, P, f, _, _, _, rfl, Mb, hf0, fb, way1 G le15 p3 hem hfr.2 nfr, fun z => by omega⟩
      · rw [show decide (V.int way = V.int 1) = false from decide_eq_false (fun z => w (by injection z))]
        exact iteF ⟨f, m0, _, _, rfl, M8, hf0, fa8, Gm, fun _ => p3⟩
    -- turned
    refine ⟨Md 2, ?_, fun σ2 H10 h2 => ?_⟩
    · obtain ⟨g, m, u9, u12, rfl, M9, g0, gm, Gm9, pm⟩ := h1
      refine ⟨_, rfl, rfl, _, rfl, ?_⟩
      by_cases w : way = 2
      · rw [show decide (V.int way = V.int 2) = true from decide_eq_true (by rw [w])]
        refine iteT ⟨_, rfl, _, rfl, le2, fun t ht => ?_⟩
        obtain ⟨Ma, fa⟩ := al_f (o := .tup [.str eb, .str ea]) M9 gm ht
        obtain ⟨Hb, P, Mb, fb, _⟩ := put_f (z := word) (v := .ref t) (e := (eb, ea)) Ma hp g0 fa (by have := Gm9.le; omega) ⟨t, rfl, upd_same⟩
        exact ⟨_, rfl, _, rfl, g, Hb, rfl, P, g, _, _, _, rfl, Mb, g0, fb, way2 G (pm (by omega)) hem, fun z => by omega⟩
      · rw [show decide (V.int way = V.int 2) = false from decide_eq_false (fun z => w (by injection z))]
        exact iteF (step (by decide) ⟨g, m, u9, u12, rfl, M9, g0, gm, Gm9, pm⟩)
    -- one more
    refine ⟨Md 3, ?_, fun σ3 H11 h3 => ?_⟩
    · obtain ⟨g, m, u9, u12, rfl, M9, g0, gm, Gm9, pm⟩ := h2
      refine ⟨_, rfl, rfl, _, rfl, ?_⟩
      by_cases w : way = 3
      · rw [show decide (V.int way = V.int 3) = true from decide_eq_true (by rw [w])]
        refine iteT ⟨_, rfl, _, rfl, _, rfl, d, l, rfl, hd4 M9, by omega, fun Ha z sa hz ez => ?_⟩
        refine ⟨z, rfl, ⟨_, SqL.of ez⟩, fun D hD => ?_⟩
        refine turns walk_list (fun j H' => Same Ha H' ∧ H' D = some (.lst ((((pts l).take j).filter fun z => decide (z ≠ ea)).map V.str))) ⟨Lb.Same.upd hD, upd_same⟩ (fun j H' _ b => SqL.of (b.1 _ _ ez)) ?_ ?_
        · rintro j v Hb Hc hj ⟨sb, eD⟩ ⟨rfl, ev⟩
          obtain ⟨y, hy, rfl⟩ := str_get ev
          refine ⟨rfl, _, rfl, _, rfl, rfl, _, rfl, ?_⟩
          rw [show (!decide ((V.str y : V) = V.str ea)) = decide (y ≠ ea) by simp, ← take_snoc hy]
          by_cases hx : y ≠ ea
          · rw [decide_eq_true hx, List.filter_append, List.filter_cons, if_pos (decide_eq_true hx), List.map_append]
            refine iteT ⟨_, rfl, _, eD, ?_, Lb.Same.updl sb hD, upd_same⟩
            rw [List.length_map]
            have h1 := List.length_filter_le (fun z => decide (z ≠ ea)) ((pts l).take j)
            rw [List.length_take] at h1
            exact szlt (by omega)
          · rw [decide_eq_false hx, List.filter_append, List.filter_cons, if_neg (by simpa using hx), List.filter_nil, List.append_nil]
            exact iteF ⟨sb, eD⟩
        rintro Hb ⟨sb, eD⟩
        rw [List.length_map, List.take_length] at eD
        have end1 := ends_mem G hem
        have hebm : eb ∈ (pts l).filter fun z => decide (z ≠ ea) := by
          rw [List.mem_filter, decide_eq_true_eq]
          exact ⟨srtS_mem.mpr end1.2.1, end1.2.2.symm⟩
        have lf := List.length_filter_le (fun z => decide (z ≠ ea)) (pts l)
        have Mb := (M9.same sa).same sb
        refine ⟨p, D, _, rfl, Mb.pot, SqL.of eD, (M9.same sa).ne hD, by rw [List.length_map]; exact List.length_pos_of_mem hebm, by rw [List.length_map]; omega, fun Hc i v mc hv => ?_⟩
        obtain ⟨y, hy, rfl⟩ := str_get hv
        have hyl := List.mem_of_getElem? hy
        rw [List.mem_filter, decide_eq_true_eq] at hyl
        have Mc := Mb.trans mc
        have gc := ((gm.same sa).same sb).mov mc Mb.pot
        refine ⟨le2, fun t ht => ?_⟩
        obtain ⟨Md', fd⟩ := al_f (o := .tup [.str ea, .str y]) Mc gc ht
        obtain ⟨He, P, Me, fe, _⟩ := put_f (z := fresh) (v := .ref t) (e := (ea, y)) Md' hp g0 fd (by have := Gm9.le; omega) ⟨t, rfl, upd_same⟩
        exact ⟨_, rfl, _, rfl, g, He, rfl, P, g, _, _, _, rfl, Me, g0, fe, way3 G le15 (pm (by omega)) end1.1 (srtS_mem.mp hyl.1) hyl.2.symm hfr.2 nfr, fun z => by omega⟩
      · rw [show decide (V.int way = V.int 3) = false from decide_eq_false (fun z => w (by injection z))]
        exact iteF (step (by decide) ⟨g, m, u9, u12, rfl, M9, g0, gm, Gm9, pm⟩)
    -- a node called otherwise
    refine ⟨Md 4, ?_, fun σ4 H12 h4 => ?_⟩
    · obtain ⟨g, m, u9, u12, rfl, M9, g0, gm, Gm9, pm⟩ := h3
      refine ⟨_, rfl, rfl, _, rfl, ?_⟩
      by_cases w : way = 4
      · have pm4 := pm (by omega)
        rw [show decide (V.int way = V.int 4) = true from decide_eq_true (by rw [w])]
        refine iteT ⟨_, rfl, d, l, rfl, hd4 M9, by omega, fun Ha z sa hz ez => ?_⟩
        refine ⟨z, rfl, ⟨_, SqL.of ez⟩, fun D hD => ?_⟩
        refine turns walk_list (fun j H' => Same Ha H' ∧ ∃ ts, H' D = some (.lst (ts.map V.ref)) ∧ Paired (fun (t : Addr) (x : Str) => H' t = some (.tup [.str x, .str x])) ts ((pts l).take j)) ⟨Lb.Same.upd hD, [], upd_same, .nil⟩ (fun j H' _ b => SqL.of (b.1 _ _ ez)) ?_ ?_
        · rintro j v Hb Hc hj ⟨sb, ts, eD, pD⟩ ⟨rfl, ev⟩
          obtain ⟨y, hy, rfl⟩ := str_get ev
          refine ⟨rfl, _, rfl, _, rfl, le2, fun t ht => ?_⟩
          have s1 : Same Hc (upd Hc t (.tup [.str y, .str y])) := Lb.Same.upd ht
          have nt : ∀ {H' : Hp}, H' D = some (.lst (ts.map V.ref)) → ∀ {b xs}, H' b = some (.tup xs) → b ≠ D := fun e b xs k => by rintro rfl; rw [e] at k; cases k
          refine ⟨_, s1 _ _ eD, ?_, Lb.Same.updl (sb.trans s1) hD, ts ++ [t], ?_, ?_⟩
          · have := Paired.length pD
            rw [List.length_map, this, List.length_take]
            exact szlt (by omega)
          · rw [upd_same, List.map_append]; rfl
          · rw [← take_snoc hy]
            refine pss_snoc (Paired.imp pD fun b x e => ?_) ?_
            · exact (upd_ne (nt (s1 _ _ eD) (s1 _ _ e))).trans (s1 _ _ e)
            · exact (upd_ne (nt (s1 _ _ eD) upd_same)).trans upd_same
        rintro Hb ⟨sb, ts, eD, pD⟩
        rw [List.length_map, List.take_length] at pD
        refine ⟨D, ts, kvC (pts l), rfl, SqL.of eD, pairs_kv pD, fun c hc => ?_⟩
        rw [merge_inr (ks := pts l) (by unfold kvC; rw [List.map_map]; rfl) (srtS_nd _)]
        have end1 := ends_mem G hem
        have eamem : ea ∈ pts l := srtS_mem.mpr end1.1
        have Mb := (M9.same sa).same sb
        have gb := (gm.same sa).same sb
        obtain ⟨Mc, gc⟩ := al_f (o := .dK (kvC (pts l))) Mb gb hc
        have c0 := Mb.free hp hc
        have cg : c ≠ g := by rintro rfl; obtain ⟨_, q, _⟩ := gb; rw [hc] at q; cases q
        refine ⟨_, rfl, _, rfl, c, _, rfl, DPut.k (k := Sum.inr ea) upd_same (szlt (by unfold kvC; rw [List.length_map]; omega)), ?_⟩
        rw [kvC_put eamem]
        have Mdd := mov_upd (o := .dK (kvR ea (pts l))) Mc hp c0
        have gd : DA (upd (upd Hb c (.dK (kvC (pts l)))) c (.dK (kvR ea (pts l)))) g m := by
          obtain ⟨kvx, q1, q2⟩ := gc
          exact ⟨kvx, (upd_ne cg.symm).trans q1, q2.tk (tk_upd fun xs z => by rw [upd_same] at z; cases z)⟩
        have hcd : (upd (upd Hb c (.dK (kvC (pts l)))) c (.dK (kvR ea (pts l)))) c = some (.dK (kvR ea (pts l))) := upd_same
        generalize upd (upd Hb c (.dK (kvC (pts l)))) c (.dK (kvR ea (pts l))) = Hd at *
        obtain ⟨kvd, hgd, ekd⟩ := id gd
        refine ⟨g, _, hgd, trivial, fun od => ?_⟩
        have un : ∀ {H'}, Same (upd Hd g (.frz od (.dK kvd))) H' → Same Hd (upd H' g (.dK kvd)) := unlock hgd
        have hd1 : (upd Hd g (.frz od (.dK kvd))) g = some (.frz od (.dK kvd)) := upd_same
        have ek1 := ekd.tk (lock_tk (od := od) hgd)
        have hc1 : (upd Hd g (.frz od (.dK kvd))) c = some (.dK (kvR ea (pts l))) := (upd_ne cg).trans hcd
        generalize upd Hd g (.frz od (.dK kvd)) = He at *
        refine ⟨_, rfl, g, od, kvd, rfl, hd1, fun D2 hD2 => ?_⟩
        refine turns walk_items (fun j H' => Same He H' ∧ ∃ ts, H' D2 = some (.lst (ts.map V.ref)) ∧ Paired (fun (t : Addr) (e : En) => ItE H' (.ref t) e) ts (renP ea (m.take j))) ⟨Lb.Same.upd hD2, [], upd_same, .nil⟩ (fun j H' _ b => b.1 _ _ hd1) ?_ ?_
        · rintro j v Hf Hg hj ⟨sf, ts, eD, pD⟩ ⟨t0, x, y, rfl, ht0, rfl, ex, ey⟩
          obtain ⟨q, eq, rfl, rfl⟩ := items_at ex ey
          obtain ⟨e, hel, ek2, t1, e1, ht1⟩ := ek1.get eq
          rw [e1, ek2]
          generalize e_H7 : upd _ t0 _ = H7
          obtain ⟨s7, f7⟩ := al3 e_H7 ht0
          clear e_H7
          (try dsimp only at f7)
          have a7 := sf.trans s7
          have end2 := ends_mem Gm9 (List.mem_of_getElem? hel)
          have pp : ∀ x, x ∈ nodOf m → x ∈ pts l := fun x hx => by
            obtain ⟨e', h', k'⟩ := mem_nod.mp hx
            have := ends_mem G (pm4.mem_iff.mp h')
            rcases k' with rfl | rfl
            · exact srtS_mem.mpr this.1
            · exact srtS_mem.mpr this.2.1
          have hv1 : DGet H7 c (.str e.2.1) (some (.str (rho ea e.2.1))) := by rw [← kvR_val (a := ea) (pp _ end2.1)]; exact DGet.k (k := Sum.inr e.2.1) (a7 _ _ hc1)
          have hv2 : DGet H7 c (.str e.2.2) (some (.str (rho ea e.2.2))) := by rw [← kvR_val (a := ea) (pp _ end2.2.1)]; exact DGet.k (k := Sum.inr e.2.2) (a7 _ _ hc1)
          refine ⟨t0, _, rfl, SqT.of f7, rfl, _, _, rfl, _, _, rfl, ⟨t1, _, rfl, SqT.of (a7 _ _ ht1), rfl, _, _, rfl, _, _, rfl, ?_⟩⟩
          refine ⟨rfl, rfl, rfl, _, rfl, _, rfl, _, rfl, c, _, rfl, hv1, _, rfl, _, rfl, c, _, rfl, hv2, le2, fun t2 ht2 => ⟨le2, fun t3 ht3 => ?_⟩⟩
          have s2 : Same H7 (upd H7 t2 (.tup [.str (rho ea e.2.1), .str (rho ea e.2.2)])) := Lb.Same.upd ht2
          have f2 : (upd H7 t2 (.tup [.str (rho ea e.2.1), .str (rho ea e.2.2)])) t2 = some (.tup [.str (rho ea e.2.1), .str (rho ea e.2.2)]) := upd_same
          generalize upd H7 t2 (.tup [.str (rho ea e.2.1), .str (rho ea e.2.2)]) = H8 at *
          have s3 : Same H8 (upd H8 t3 (.tup [.str e.1, .ref t2])) := Lb.Same.upd ht3
          have f3 : (upd H8 t3 (.tup [.str e.1, .ref t2])) t3 = some (.tup [.str e.1, .ref t2]) := upd_same
          have a9 := s2.trans s3
          refine ⟨_, s3 _ _ (s2 _ _ (s7 _ _ eD)), ?_, Lb.Same.updl (a7.trans a9) hD2, ts ++ [t3], ?_, ?_⟩
          · have := Paired.length pD
            unfold renP at this
            rw [List.length_map, this, List.length_map, List.length_take]
            have := Gm9.le
            exact szlt (by omega)
          · rw [upd_same, List.map_append]; rfl
          · rw [← take_snoc hel, ← renP_snoc]
            have tk : TK (upd H8 t3 (.tup [.str e.1, .ref t2])) (upd (upd H8 t3 (.tup [.str e.1, .ref t2])) D2 (.lst (ts.map V.ref ++ [.ref t3]))) := tk_upd fun xs z => by rw [s3 _ _ (s2 _ _ (s7 _ _ eD))] at z; cases z
            refine pss_snoc (Paired.imp pD fun b x e => (e.tk (s7.trans a9).tk).tk tk) ?_
            exact ⟨t3, .ref t2, rfl, tk _ _ f3, t2, rfl, tk _ _ (s3 _ _ f2)⟩
        rintro Hf ⟨sf, ts, eD, pD⟩
        rw [ekd.len, List.take_length] at pD
        refine ⟨sf _ _ hd1, ?_⟩
        have uf := un sf
        have ndD : D2 ≠ g := fun z => by rw [z, hd1] at hD2; cases hD2
        have eD3 : (upd Hf g (.dK kvd)) D2 = some (.lst (ts.map V.ref)) := (upd_ne ndD).trans eD
        have pD3 : Paired (fun (t : Addr) (e : En) => ItE (upd Hf g (.dK kvd)) (.ref t) e) ts (renP ea m) := Paired.imp pD fun b x e => e.tk (tk_upd fun xs z => by rw [sf _ _ hd1] at z; cases z)
        generalize upd Hf g (.dK kvd) = Hh at *
        obtain ⟨kvs, q1, q2⟩ := items_kv (K := K) pD3
        have Gr : Good (renP ea m) := way4 Dl pm4
        refine ⟨D2, ts, kvs, rfl, SqL.of eD3, q1, fun f2 hf2 => ?_⟩
        rw [merge_inr q2.keys Gr.nd]
        have Mh := Mdd.same uf
        exact ⟨f2, _, _, _, rfl, mov_upd Mh hp (Mh.free hp hf2), Mh.free hp hf2, ⟨kvs, upd_same, q2.tk (Lb.Same.upd hf2).tk⟩, Gr, fun z => by omega⟩
      · rw [show decide (V.int way = V.int 4) = false from decide_eq_false (fun z => w (by injection z))]
        exact iteF (step (by decide) ⟨g, m, u9, u12, rfl, M9, g0, gm, Gm9, pm⟩)
    -- exchanged
    refine ⟨Md 5, ?_, fun σ5 H13 h5 => ?_⟩
    · obtain ⟨g, m, u9, u12, rfl, M9, g0, gm, Gm9, pm⟩ := h4
      refine ⟨_, rfl, rfl, _, rfl, ?_⟩
      by_cases w : way = 5
      · rw [show decide (V.int way = V.int 5) = true from decide_eq_true (by rw [w])]
        obtain ⟨kv9, hd9, ekv9⟩ := hd4 M9
        refine iteT ⟨_, rfl, _, rfl, d, kv9, nmsOf l, rfl, .inl hd9, ekv9.keys, by omega, fun ys S perm so hS => ?_⟩
        obtain rfl := srt_of perm so
        have sS : Same H12 (upd H12 S (.lst ((srt (nmsOf l)).map V.str))) := Lb.Same.upd hS
        have Ma := M9.same sS
        refine ⟨p, S, _, rfl, Ma.pot, SqL.of upd_same, M9.ne hS, by rw [List.length_map]; omega, by rw [List.length_map]; omega, fun Hb i v mb hv => ?_⟩
        obtain ⟨twin, htw, rfl⟩ := str_get hv
        have Mb := Ma.trans mb
        have gb := (gm.same sS).mov mb Ma.pot
        obtain ⟨⟨ta, tb⟩, htl⟩ := lookup_some (srt_mem.mp (List.mem_of_getElem? htw))
        have htm := mem_lookup htl
        have pm5 := pm (by omega)
        obtain ⟨kvb, hgb, ekb⟩ := id gb
        obtain ⟨u1, hu1, t1, rfl, ht1⟩ := ekb.val_some (z := word) (e := (ea, eb)) (lookup_mem Gm9.nd (pm5.mem_iff.mpr hem))
        obtain ⟨u2, hu2, t2, rfl, ht2⟩ := ekb.val_some (z := twin) (e := (ta, tb)) (lookup_mem Gm9.nd (pm5.mem_iff.mpr htm))
        have hg1 : DGet Hb g (.str word) (some (.ref t1)) := by rw [← hu1]; exact DGet.k (k := Sum.inr word) hgb
        have hg2 : DGet Hb g (.str twin) (some (.ref t2)) := by rw [← hu2]; exact DGet.k (k := Sum.inr twin) hgb
        refine ⟨_, rfl, _, rfl, g, _, rfl, hg2, _, rfl, _, rfl, g, _, rfl, hg1, le2, fun t ht => ?_⟩
        obtain ⟨Mc, gc⟩ := al_f (o := .tup [.ref t2, .ref t1]) Mb gb ht
        have ft : (upd Hb t (.tup [.ref t2, .ref t1])) t = some (.tup [.ref t2, .ref t1]) := upd_same
        have st := Lb.Same.upd (o := .tup [.ref t2, .ref t1]) ht
        replace ht1 := st _ _ ht1
        replace ht2 := st _ _ ht2
        generalize upd Hb t (.tup [.ref t2, .ref t1]) = Hc at *
        obtain ⟨Hd, P1, Mdd, gd, tk1⟩ := put_f (z := word) (v := .ref t2) (e := (ta, tb)) Mc hp g0 gc (by have := Gm9.le; omega) ⟨t2, rfl, ht2⟩
        have ld : (putP m word (ta, tb)).length ≤ 20 := by have := putP_len (l := m) (z := word) (e := (ta, tb)); have := Gm9.le; omega
        have ht1d : vEn Hd (.ref t1) (ea, eb) := ⟨t1, rfl, tk1 _ _ ht1⟩
        obtain ⟨He, P2, Me, ge, _⟩ := put_f (z := twin) (v := .ref t1) (e := (ea, eb)) Mdd hp g0 gd ld ht1d
        refine ⟨t, _, rfl, SqT.of ft, rfl, _, _, rfl, _, rfl, _, rfl, g, Hd, rfl, P1, _, _, rfl, _, rfl, _, rfl, g, He, rfl, P2, rfl, ?_⟩
        exact ⟨g, _, _, _, rfl, Me, g0, ge, way5 G pm5 hem htm, fun z => by omega⟩
      · rw [show decide (V.int way = V.int 5) = false from decide_eq_false (fun z => w (by injection z))]
        exact iteF (step (by decide) ⟨g, m, u9, u12, rfl, M9, g0, gm, Gm9, pm⟩)
    obtain ⟨g, m, u9, u12, rfl, M9, g0, gm, Gm9, pm⟩ := h5
    exact ⟨_, rfl, k _ g m M9 g0 gm Gm9⟩
end
end K20

set_option Elab.async false
set_option linter.all false
set_option maxRecDepth 100000
set_option maxHeartbeats 4000000
/-! list * int -/
namespace Lb
open PySem PySem.Spec PyProof.Rows L2
def rRepL (K : PySem.W.Frag) : R2 := fun x y H Q => ∃ l k xs, x = .ref l ∧ y = .int k ∧ SqL K H l xs ∧ 0 ≤ k ∧ k ≤ 1000 ∧ xs.length ≤ 1000 ∧ ∀ p, H p = none → Q (.ref p) (upd H p (.lst (List.replicate k.toNat xs).flatten))
theorem op_repL {X : Cx} {K : PySem.W.Frag} (hK : X.K = K) : OpR X (binaryOp .Mult) (rRepL K) := by
  subst hK
  intro pins s σ H x y v u Q I rx ry h
  obtain ⟨l, k, xs, rfl, rfl, hT, h1, h2, hz, q⟩ := h
  cases rx
  obtain ⟨t, rfl⟩ := ry
  obtain ⟨its, r, ⟨⟨cls, dd, data, sl⟩, n, ho, hc, hdn, hd⟩, hs⟩ := I.list hT
  simp only at hc hd
  subst hc hd
  have hle : its.length = xs.length := r.length.symm
  have hsz0 : its.toArray.size = xs.length := by rw [List.size_toArray, hle]
  have a1 : k.toNat * xs.length ≤ 1000 * 1000 := Nat.mul_le_mul (by omega) hz
  have hm : its.toArray.size * k.toNat ≤ 1000000 := by
    rw [hsz0, Nat.mul_comm]
    exact a1
  refine wpAny_binaryOp_repeat_ref (T := "list") (U := "int") (by decide) ⟨_, ho, rfl⟩ (fun s' => typeIs_int s' k t) noFill_list_mul F.fills_int_mul F.slot_int_rmul repeat_list F.slot_int_index.lookup
    (call_meets F.slot_int_rmul (typeIs_int s k t) F.entry_int_rmul (F.args_int_rmul_2 _ _) (lm_int_rmul_list_any k t l its.toArray n dd sl)
      ⟨ho, rfl, ⟨_, ho, rfl⟩, call_meets F.slot_list_mul ⟨_, ho, rfl⟩ F.entry_list_mul (F.args_list_mul_2 _ _)
        (lm_list_mul_any l its.toArray n dd sl k t (by simp [Builtin.List.listFitsIndex]; omega) (by omega) (by rw [show its.toArray.size * k.toNat = its.toArray.size * k.toNat from rfl]; unfold Builtin.List.listTooLong; rw [sizeLine_eq]; simp only [decide_eq_true_eq]; omega)) ⟨ho, ?_⟩⟩)
  rw [listMul_foldl_if]
  refine ⟨.ref s.heap.objs.size, _, I.laid (t' := s.toks) (o := .lst (List.replicate k.toNat xs).flatten) (fun b ob q => Heap.get?_push_of_some _ q) (Nat.le_refl _) ?_, rfl, q _ (I.hok.fresh (Nat.le_refl _))⟩
  exact ⟨by rw [PyProof.Rows.lm_len_rep_flat, sizeLine_eq]; omega, _, 0, r.rep k.toNat, Heap.get?_push_size _ rfl⟩
end Lb

set_option Elab.async false
set_option linter.all false
set_option maxRecDepth 100000
set_option maxHeartbeats 4000000
namespace K20
open PySem L2 Lb
open C8 (pss_cut)
theorem sqL_same {K : PySem.W.Frag} {a : Addr} {H H1 : Hp} {xs : List V} (m : Same H H1) (h : SqL K H a xs) : SqL K H1 a xs := by
  rcases h with (h | ⟨o, h⟩) | h
  · exact .inl (.inl (m _ _ h))
  · exact .inl (.inr ⟨o, m _ _ h⟩)
  · exact .inr h
mutual
theorem dp_same {K : PySem.W.Frag} {H H' : Hp} (s : Same H H') : ∀ (d : PyData) (v : V), Dp K H v d → Dp K H' v d
  | .none, _, h => by cases h; exact .non
  | .bool b, _, h => by cases h; exact .bl b
  | .int i, _, h => by cases h; exact .int i
  | .str x, _, h => by cases h; exact .str x
  | .list ds, _, h => by
    cases h with
    | lst hs ha => exact .lst (sqL_same s hs) (dpAll_same s ds _ ha)
  | .tuple ds, _, h => by
    cases h with
    | tup hs ha => exact .tup (SqT.same s hs) (dpAll_same s ds _ ha)
  | .dict _, _, h => by cases h
theorem dpAll_same {K : PySem.W.Frag} {H H' : Hp} (s : Same H H') : ∀ (ds : List PyData) (vs : List V), DpAll K H vs ds → DpAll K H' vs ds
  | [], _, h => by cases h; exact .nil
  | d :: ds, _, h => by
    cases h with
    | cons a b => exact .cons (dp_same s d _ a) (dpAll_same s ds _ b)
end
theorem hu64 {X : Cx} {n : Nat} (h : Room n X.A) : X.A.units + 64 < cLine := by
  have := hu65 h
  omega
theorem kb_Net_init_ {K : PySem.W.Frag} {mg : Str → Option Value} {a : Ad} (T : Txt K mg a) : KBn K a.d_Net_init_ ["self", "pipes"] 1 ["pipes"] (fun us ws => us ++ ws) (fun vs zs => vs ++ zs) :=
  kbn_of T.F_Net_init_ fun _ _ _ _ _ _ us ws h1 h2 => match us, ws, h1, h2 with | [_], [_], _, _ => rfl
theorem shaped_encs {J : PP} (h : ∀ e ∈ J, Nm3 e) : SeqAt.shaped (.list (J.map encE)) = true := by
  have c : ∀ {J : PP}, (∀ e ∈ J, Nm3 e) → PyData.canLayAll0 (J.map encE) = true ∧ PyData.depthAll (J.map encE) ≤ 2 := fun {J} => by
    induction J with
    | nil => intro _; exact ⟨by simp [PyData.canLayAll0], by simp [PyData.depthAll]⟩
    | cons e r ih =>
      intro h
      obtain ⟨a, b⟩ := ih fun e he => h e (List.mem_cons_of_mem _ he)
      have := h e List.mem_cons_self
      rw [List.map_cons, PyData.canLayAll0, PyData.depthAll, a]
      refine ⟨by simp [encE, PyData.canLay0, PyData.canLayAll0, nm_ok this.1, nm_ok this.2.1, nm_ok this.2.2], ?_⟩
      simp only [encE, PyData.depth, PyData.depthAll]
      omega
  unfold SeqAt.shaped
  obtain ⟨a, b⟩ := c h
  rw [Bool.and_eq_true, PyData.canLay0, PyData.depth, a]
  exact ⟨rfl, decide_eq_true (by omega)⟩
theorem shaped_bls (bs : List Bool) : SeqAt.shaped (.list (bs.map .bool)) = true := by
  have c : ∀ bs : List Bool, PyData.canLayAll0 (bs.map .bool) = true := fun bs => by
    induction bs with
    | nil => simp [PyData.canLayAll0]
    | cons b r ih => rw [List.map_cons, PyData.canLayAll0, ih]; simp [PyData.canLay0]
  unfold SeqAt.shaped
  rw [Bool.and_eq_true, PyData.canLay0, PyData.depth, depth_bls]
  exact ⟨c bs, by decide⟩
theorem eqv_bls : ∀ bs : List Bool, PyData.eqvAll (bs.map .bool) (bs.map .bool) = true
  | [] => by simp [PyData.eqvAll]
  | b :: r => by rw [List.map_cons, PyData.eqvAll, eqv_bls r]; cases b <;> simp [PyData.eqv]
theorem Good.encs {l : PP} (G : Good l) : SeqAt.shaped (.list ((sortE l).map encE)) = true :=
  shaped_encs fun e he => have h := G.nm e ((sortE_perm l).mem_iff.mp he); ⟨h.1, h.2.1, h.2.2.1⟩
theorem sq_make {x dx : Addr} {H H' : Hp} {o1 o2 : HO} (hx : H x = none) (hdx : H dx = none) (s : SQ x (upd (upd H dx o1) x o2) H') : Same H H' := fun b o e => by
  have n1 : b ≠ x := ne_of_none e hx
  have n2 : b ≠ dx := ne_of_none e hdx
  exact s b o n1 (by rw [upd_ne n1, upd_ne n2]; exact e)
theorem NetAt.ins {C q : Addr} {H : Hp} {l : PP} (h : NetAt C H q l) : ∃ dx fs, H q = some (.ins C dx fs) := let ⟨_, _, _, _, _, n⟩ := h; ⟨_, _, n.ins⟩
theorem NetAt.good {C q : Addr} {H : Hp} {l : PP} (h : NetAt C H q l) : Good l := let ⟨_, _, _, _, _, n⟩ := h; n.good
theorem Th.eq {K : PySem.W.Frag} {C p : Addr} (I : Inst K C) {H : Hp} {v : V} (h : Th p H v) : (∃ t, TyOf K H v t ∧ PySem.W.notFirst K C t = true) ∧ NoNet K C H v := by
  rcases h with ⟨z, rfl⟩ | rfl | ⟨i, rfl⟩ | ⟨b, rfl⟩ | ⟨a, xs, rfl, n, h | h⟩ | ⟨a, kv, rfl, n, h⟩
  · exact ⟨⟨_, .str _, I.nStr⟩, _, .base (.str _), I.kStr⟩
  · exact ⟨⟨_, .non, I.nNone⟩, _, .base .non, I.kNone⟩
  · exact ⟨⟨_, .int _, I.nInt⟩, _, .base (.int _), I.kInt⟩
  · exact ⟨⟨_, .bl _, I.nBool⟩, _, .base (.bl _), I.kBool⟩
  · exact ⟨⟨_, .tup h, I.nTup⟩, _, .base (.tup h), I.kTup⟩
  · exact ⟨⟨_, .lst h, I.nList⟩, _, .base (.lst h), I.kList⟩
  · exact ⟨⟨_, .dK h, I.nDict⟩, _, .base (.dK h), I.kDict⟩
theorem samP_comm {l m : PP} (nl : (nmsOf l).Nodup) (nm : (nmsOf m).Nodup) : samP l m = samP m l := by
  rw [Bool.eq_iff_iff, samP_perm nl nm, samP_perm nm nl]
  exact ⟨fun h => h.symm, fun h => h.symm⟩
def sp_equal (C : Addr) : Sp := fun vs H Q _ => ∃ p q d l, vs = [.ref p, .ref q, .ref d] ∧ PotAt H p ∧ NetAt C H q l ∧ DA H d l ∧ Drawn l ∧ ∀ H', Mov p H H' → Q (.bl true) H'
section
variable {P : Program} {w : World} {K : PySem.W.Frag} {mg : Str → Option Value} {base : Heap} {a : Ad}
theorem ok_equal_right (T : Txt K mg a) : FnG P w K mg base CX0 8 a.f_equal_right a.d_equal_right ["_law_pot_here", "_law_made", "_law_entries"] (sp_equal a.c_Net) := by
  refine okG T.F_equal_right sc_equal_right (fun vs H Q E h => ?_) (fun cdv A outer s H vs Q E gu hr h => ?_)
  · obtain ⟨p, q, d, l, rfl, _⟩ := h
    rfl
  · obtain ⟨p, q, d, l, rfl, hp, n0, hda, Dl, k⟩ := h
    refine ⟨_, (pss_cons (ps_set (i := 3) sc_equal_right.nd rfl (by first | exact Or.inl rfl | exact Or.inr rfl) (pe_call (ok_bent T) (hr.mono (by decide)) (by rfl) T.m_bent T.F_bent.kp (b_bent T) .nil pass0 (pa_cons (pv 0) (pa_cons (pv 2) pa_nil))))
 (pss_cons (ps_set (i := 4) sc_equal_right.nd rfl (by first | exact Or.inl rfl | exact Or.inr rfl) (pe_cmpR (op_eqDK (K := K) rfl hr.units) (pe_callB (cr_sortedItV (K := K) rfl rfl (hu64 hr)) (by rfl) T.b_sorted (by decide +kernel) (pa_cons (pe_bm0 PySem.F.plainAttrs_dict PySem.F.slot_dict_items PySem.F.type_dict_items mt_itemsV (pv 3)) pa_nil)) (pe_callB (cr_sortedItV (K := K) rfl rfl (hu64 hr)) (by rfl) T.b_sorted (by decide +kernel) (pa_cons (pe_bm0 PySem.F.plainAttrs_dict PySem.F.slot_dict_items PySem.F.type_dict_items mt_itemsV (pv 2)) pa_nil)) (nomark _)))
 (pss_cons (ps_set (i := 5) sc_equal_right.nd rfl (by first | exact Or.inl rfl | exact Or.inr rfl) (pe_makeK0 T.mkN (ok_Net_init_ T) (hr.mono (by decide)) (by rfl) T.mNet (kb_Net_init_ T) pass0 (pk_cons (pe_callTy call_dictD (by rfl) T.b_dict (by decide +kernel) (pa_cons (pv 3) pa_nil)) pk_nil)))
 (pss_cons (ps_if (pt_cmpR (op_neDK2 (K := K) rfl hr.units) (pe_lst (pa_cons (pe_cmpR (op_ownCmp (n := 1) (C := a.c_Net) (K := K) rfl (fun _ _ => rfl) T.cEq.at_ T.cEq.fn ((ok_Net_eq_ T).raw (b_Net_eq_ T) .nil) (hr.mono (by decide)) pass0) (pv 1) (pv 5) (nomark _)) (pa_cons (pe_cmpR (op_ownCmp (n := 1) (C := a.c_Net) (K := K) rfl (fun _ _ => rfl) T.cEq.at_ T.cEq.fn ((ok_Net_eq_ T).raw (b_Net_eq_ T) .nil) (hr.mono (by decide)) pass0) (pv 5) (pv 1) (nomark _)) (pa_cons (pe_cmpR (op_ownNe (n := 1) (C := a.c_Net) (K := K) rfl T.cNe T.I.cm T.cEq.at_ T.cEq.fn ((ok_Net_eq_ T).raw (b_Net_eq_ T) .nil) (hr.mono (by decide)) pass0) (pv 1) (pv 5) (nomark _)) pa_nil)))) (pe_lst (pa_cons (pv 4) (pa_cons (pv 4) (pa_cons (pe_not (pv 4)) pa_nil)))) (nomark _)) (pss_one (ps_ret pe_bl)) pss_nil)
 (pss_cons (ps_set (i := 6) sc_equal_right.nd rfl (by first | exact Or.inl rfl | exact Or.inr rfl) (pe_lst (pa_cons (pv 2) (pa_cons (pe_meth0 (pv 1) T.cl T.mNames (ok_Netnames T) (hr.mono (by decide)) (b_Netnames T) .nil pass0) (pa_cons (pe_callB (call_reprOwnG T.cRe.at_ T.cRe.fn (ok_Net_repr_ T) (b_Net_repr_ T) gu (hr.mono (by decide))) (by rfl) T.b_repr (by decide +kernel) (pa_cons (pv 1) pa_nil)) (pa_cons pe_non (pa_cons pe_int (pa_cons (pe_callTy (call_tuple_ofK (K := K) rfl) (by rfl) T.b_tuple (by decide +kernel) (pa_cons (pe_meth0 (pv 1) T.cl T.mNames (ok_Netnames T) (hr.mono (by decide)) (b_Netnames T) .nil pass0) pa_nil)) (pa_cons (pe_prop (pv 1) T.cl T.pN (ok_Netnodes T) (hr.mono (by decide)) (b_Netnodes T) .nil pass0 rfl) pa_nil)))))))))
 (pss_one (ps_ret (pe_and (pe_cmpR (op_eqDK (K := K) rfl hr.units) (pe_lc (own := [("_law_thing", 7)]) (by rfl) sc_equal_right.nd (pi_listK (K := K) rfl (pv 6)) (blkOk_by (own := [("_law_thing", 7)]) (N := ["_law_pot_here", "_law_made", "_law_entries", "_law_other", "_law_due", "_law_mate", "_law_some", "_law_thing"]) (sc := defScope s_equal_right) (by decide +kernel)) (fun _ _ _ _ _ => (pg_name (i := 7) sc_equal_right.nd rfl (by first | exact Or.inl rfl | exact Or.inr rfl))) (fun _ _ _ _ _ => pts_nil) (fun _ _ _ _ _ => (pe_cmpR (op_ownCmp (n := 1) (C := a.c_Net) (K := K) rfl (fun _ _ => rfl) T.cEq.at_ T.cEq.fn ((ok_Net_eq_ T).raw (b_Net_eq_ T) .nil) (hr.mono (by decide)) pass0) (pv 1) (pv 7) (nomark _)))) (pe_op (op_repL (K := K) rfl) (pe_lst (pa_cons pe_bl pa_nil)) pe_int) (nomark _)) (pe_one (pe_callG (ok_shown_right T) gu (hr.mono (by decide)) (by rfl) T.m_shown_right T.F_shown_right.kp (b_shown_right T) .nil pass0 (pa_cons (pv 5) (pa_cons (pv 3) pa_nil)))))))))))), ?_⟩
    have G := Dl.good
    have lle := G.le
    have le15 := Dl.le
    have l8 := G.le8
    have lnn := nms_len l
    obtain ⟨dq, D, N, T5, R, n⟩ := id n0
    refine ⟨_, rfl, _, rfl, p, d, l, rfl, hp, hda, Dl, fun H1 f m m1 hf0 fa Gm => ?_⟩
    have n1 := n.mov m1 hp
    have d1 := hda.mov m1 hp
    have hp1 := m1.pot
    have lml := Gm.le
    -- the same?
    obtain ⟨kf, hf1, ekf⟩ := id fa
    obtain ⟨kd, hd1, ekd⟩ := id d1
    refine ⟨_, rfl, .inr (.inr (.inl ⟨rfl, .inl ⟨_, hf1⟩⟩)), f, kf, rfl, rfl, hf1, fun i1 hi1 => ?_⟩
    have s2 := Lb.Same.upd (o := DX.itemsO i1 f) hi1
    refine ⟨i1, f, kf, m, rfl, upd_same, s2 _ _ hf1, ekf.tk s2.tk, by omega, fun H3 g1 s3 dp1 => ?_⟩
    have s13 : Same H1 H3 := s2.trans s3
    refine ⟨_, rfl, .inr (.inr (.inl ⟨rfl, .inl ⟨_, s13 _ _ hd1⟩⟩)), d, kd, rfl, rfl, s13 _ _ hd1, fun i2 hi2 => ?_⟩
    have s4 := Lb.Same.upd (o := DX.itemsO i2 d) hi2
    refine ⟨i2, d, kd, l, rfl, upd_same, s4 _ _ (s13 _ _ hd1), ekd.tk (s13.trans s4).tk, by omega, fun H5 g2 s5 dp2 => ?_⟩
    have s35 : Same H3 H5 := s4.trans s5
    have s15 := s13.trans s35
    refine ⟨_, _, dp_same s35 _ _ dp1, dp2, Gm.encs, G.encs, ?_⟩
    rw [show PyData.eqv (.list ((sortE m).map encE)) (.list ((sortE l).map encE)) = samP m l by rw [PyData.eqv, encE_eqvAll, sortE_eq Gm.nd G.nd]]
    -- the second net
    refine ⟨_, rfl, f, kf, rfl, .inl (s15 _ _ hf1), fun c hc => ⟨rfl, rfl, fun x dx hx hdx nx => ?_⟩⟩
    have s6 := Lb.Same.upd (o := .dK kf) hc
    have fc : DA (upd H5 c (.dK kf)) c m := ⟨kf, upd_same, ekf.tk (s15.trans s6).tk⟩
    generalize upd H5 c (.dK kf) = H6 at *
    have s7 : Same H6 (upd (upd H6 dx (.own x)) x (.ins a.c_Net dx [])) := (Lb.Same.upd hdx).trans (Lb.Same.upd (by rw [upd_ne nx.symm]; exact hx))
    refine ⟨x, dx, c, m, rfl, fc.same s7, Gm, upd_same, fun H7 D' N' T' R' sq _ _ n' => ⟨rfl, ?_⟩⟩
    have s67 := sq_make hx hdx sq
    have S7 := (s15.trans s6).trans s67
    have nq : NetAt a.c_Net H7 q l := (n1.at).same S7
    have nx' : NetAt a.c_Net H7 x m := n'.at
    obtain ⟨dq1, fq1, iq⟩ := nq.ins
    obtain ⟨dx1, fx1, ix⟩ := nx'.ins
    refine ⟨_, rfl, _, rfl, q, dq1, _, _, rfl, iq, T.I.ty T.cl ix, Inst.nSelf, q, l, _, rfl, nq, .inl ⟨x, m, rfl, nx', ?_⟩⟩
    refine ⟨_, rfl, _, rfl, x, dx1, _, _, rfl, ix, T.I.ty T.cl iq, Inst.nSelf, x, m, _, rfl, nx', .inl ⟨q, l, rfl, nq, ?_⟩⟩
    refine ⟨_, rfl, _, rfl, q, dq1, _, _, rfl, iq, T.I.ty T.cl ix, Inst.nSelf, q, l, _, rfl, nq, .inl ⟨x, m, rfl, nx', _, rfl, ?_⟩⟩
    rw [samP_comm G.nd Gm.nd]
    generalize samP m l = due at *
    refine ⟨sz, fun L1 hL1 => ?_⟩
    have s8 := Lb.Same.upd (o := .lst [.bl due, .bl due, .bl !due]) hL1
    have eL1 : (upd H7 L1 (.lst [.bl due, .bl due, .bl !due])) L1 = some (.lst [.bl due, .bl due, .bl !due]) := upd_same
    generalize upd H7 L1 (.lst [.bl due, .bl due, .bl !due]) = H8 at *
    refine ⟨_, rfl, _, rfl, _, rfl, _, rfl, sz, fun W2 hL2 => ?_⟩
    have s9 := Lb.Same.upd (o := .lst [.bl due, .bl due, .bl !due]) hL2
    have eL2 : (upd H8 W2 (.lst [.bl due, .bl due, .bl !due])) W2 = some (.lst [.bl due, .bl due, .bl !due]) := upd_same
    generalize upd H8 W2 (.lst [.bl due, .bl due, .bl !due]) = H9 at *
    refine ⟨_, _, .lst (SqL.of (s9 _ _ eL1)) (dp_bls [due, due, !due]), .lst (SqL.of eL2) (dp_bls [due, due, !due]), shaped_bls _, shaped_bls _, ?_⟩
    rw [show PyData.eqv (.list ([due, due, !due].map .bool)) (.list ([due, due, !due].map .bool)) = true by rw [PyData.eqv, eqv_bls]]
    refine ⟨_, rfl, iteF ?_⟩
    -- values of other kinds
    have S9 := S7.trans (s8.trans s9)
    have n9 := n1.same S9
    have nA := n9.at
    have lNames : (netF D N T5 R).lookup ("names" : Str) = none := nf_not D N T5 R (by decide +kernel) (by decide +kernel) (by decide +kernel) (by decide +kernel)
    refine ⟨_, rfl, _, rfl, q, dq, _, rfl, n9.ins, lNames, q, l, rfl, nA, fun Ha pa sa hpa epa => ?_⟩
    refine ⟨_, rfl, q, dq, _, rfl, (n9.same sa).ins, q, l, rfl, nA.same sa, _, rfl, ?_⟩
    refine ⟨_, rfl, q, dq, _, rfl, (n9.same sa).ins, lNames, q, l, rfl, nA.same sa, fun Hb pb sb hpb epb => ⟨pb, _, rfl, .inl ⟨SqL.of epb, fun t ht => ?_⟩⟩⟩
    have sab := sa.trans sb
    have sc := Lb.Same.upd (o := .tup ((srt (nmsOf l)).map V.str)) ht
    have ec : (upd Hb t (.tup ((srt (nmsOf l)).map V.str))) t = some (.tup ((srt (nmsOf l)).map V.str)) := upd_same
    generalize upd Hb t (.tup ((srt (nmsOf l)).map V.str)) = Hc at *
    have s9c := sab.trans sc
    refine ⟨_, rfl, q, dq, _, rfl, (n9.same s9c).ins, q, l, rfl, nA.same s9c, fun tn htn => ⟨sz, fun L3 hL3 => ?_⟩⟩
    have sd := Lb.Same.upd (o := .lst [.ref d, .ref pa, .str (rpP l), .non, .int 0, .ref t, .ref tn]) hL3
    have ed : (upd Hc L3 (.lst [.ref d, .ref pa, .str (rpP l), .non, .int 0, .ref t, .ref tn])) L3 = some (.lst [.ref d, .ref pa, .str (rpP l), .non, .int 0, .ref t, .ref tn]) := upd_same
    generalize upd Hc L3 (.lst [.ref d, .ref pa, .str (rpP l), .non, .int 0, .ref t, .ref tn]) = Hd at *
    have s9d := s9c.trans sd
    have Sd := S9.trans s9d
    have pot9 := L2.Same.pot S9 hp1
    have pne : ∀ {H' : Hp} {b : Addr}, Same H1 H' → H' b = none → b ≠ p := fun {H' b} s h => by
      obtain ⟨_, _, e, _⟩ := hp1
      exact (ne_of_none (s _ _ e) h).symm
    have potd := L2.Same.pot Sd hp1
    have tup_ne : ∀ {b : Addr} {xs : List V}, Hd b = some (.tup xs) → b ≠ p := fun h => pot_ne' potd h fun _ z => nomatch z
    have th : ∀ v ∈ ([.ref d, .ref pa, .str (rpP l), .non, .int 0, .ref t, .ref tn] : List V), Th p Hd v := by
      intro v hv
      simp only [List.mem_cons, List.not_mem_nil, or_false] at hv
      rcases hv with rfl | rfl | rfl | rfl | rfl | rfl | rfl
      · exact .inr (.inr (.inr (.inr (.inr ⟨_, _, rfl, pot_ne' hp1 hd1 (fun _ z => nomatch z), Sd _ _ hd1⟩))))
      · exact .inr (.inr (.inr (.inr (.inl ⟨_, _, rfl, pne S9 hpa, .inr ((sb.trans (sc.trans sd)) _ _ epa)⟩))))
      · exact .inl ⟨_, rfl⟩
      · exact .inr (.inl rfl)
      · exact .inr (.inr (.inl ⟨_, rfl⟩))
      · exact .inr (.inr (.inr (.inr (.inl ⟨_, _, rfl, tup_ne (sd _ _ ec), .inl (sd _ _ ec)⟩))))
      · exact .inr (.inr (.inr (.inr (.inl ⟨_, _, rfl, tup_ne (sd _ _ htn), .inl (sd _ _ htn)⟩))))
    generalize hws : ([.ref d, .ref pa, .str (rpP l), .non, .int 0, .ref t, .ref tn] : List V) = ws at *
    have lws : ws.length = 7 := by rw [← hws]; rfl
    refine ⟨_, rfl, L3, rfl, ⟨_, SqL.of ed⟩, fun D1 hD1 => ?_⟩
    refine turns walk_list (fun j H' => Same Hd H' ∧ H' D1 = some (.lst ((List.replicate j false).map V.bl))) ⟨Lb.Same.upd hD1, upd_same⟩ (fun j H' _ b => SqL.of (b.1 _ _ ed)) ?_ ?_
    · rintro j v He Hf hj ⟨sf, eD⟩ ⟨rfl, ev⟩
      obtain ⟨⟨ty, hty, hnf⟩, nn⟩ := ((th v (List.mem_of_getElem? ev)).same sf).eq T.I
      refine ⟨rfl, _, rfl, _, rfl, q, dq, _, ty, rfl, (n9.same (s9d.trans sf)).ins, hty, hnf, q, l, v, rfl, nA.same (s9d.trans sf), .inr ⟨nn, ?_⟩⟩
      refine ⟨_, eD, by rw [List.length_map, List.length_replicate]; exact szlt (by omega), Lb.Same.updl sf hD1, ?_⟩
      rw [upd_same, List.replicate_succ', List.map_append]
      rfl
    rintro He ⟨se, eD⟩
    rw [lws] at eD
    refine ⟨sz, fun L4 hL4 => ⟨L4, 7, _, rfl, rfl, SqL.of upd_same, by decide, by decide, by decide, fun L5 hL5 => ?_⟩⟩
    have sg := (Lb.Same.upd (o := .lst [.bl false]) hL4).trans (Lb.Same.upd (o := .lst ((List.replicate 7 false).map V.bl)) hL5)
    have eg : (upd (upd He L4 (.lst [.bl false])) L5 (.lst ((List.replicate 7 false).map V.bl))) L5 = some (.lst ((List.replicate 7 false).map V.bl)) := upd_same
    refine ⟨_, _, .lst (SqL.of (sg _ _ eD)) (dp_bls (List.replicate 7 false)), .lst (SqL.of eg) (dp_bls (List.replicate 7 false)), shaped_bls _, shaped_bls _, ?_⟩
    rw [show PyData.eqv (.list ((List.replicate 7 false).map .bool)) (.list ((List.replicate 7 false).map .bool)) = true by rw [PyData.eqv, eqv_bls]]
    have Sg := (s9d.trans se).trans sg
    refine ⟨_, rfl, iteT ?_⟩
    refine ⟨_, rfl, _, rfl, x, f, m, rfl, (nx'.same (s8.trans s9)).same Sg, fa.same (S9.trans Sg), fun Hz sz => k _ ?_⟩
    exact m1.same ((S9.trans Sg).trans sz)
end
end K20

set_option Elab.async false
set_option linter.all false
set_option maxRecDepth 100000
set_option maxHeartbeats 4000000
namespace K20
open PySem L2 Lb
open C8 (pss_cut)
def sp_right : Sp := fun vs H Q _ => ∃ p, vs = [.ref p] ∧ PotAt H p ∧ ∀ H', Mov p H H' → Q (.bl true) H'
section
variable {P : Program} {w : World} {K : PySem.W.Frag} {mg : Str → Option Value} {base : Heap} {a : Ad}
theorem ok_right (T : Txt K mg a) : FnG P w K mg base CX0 9 a.f_right a.d_right ["_law_pot_here"] sp_right := by
  refine okG T.F_right sc_right (fun vs H Q E h => ?_) (fun cdv A outer s H vs Q E gu hr h => ?_)
  · obtain ⟨p, rfl, _⟩ := h
    rfl
  · obtain ⟨p, rfl, hp, k⟩ := h
    refine ⟨_, (pss_cons (ps_set (i := 1) sc_right.nd rfl (by first | exact Or.inl rfl | exact Or.inr rfl) (pe_call (ok_net T) (hr.mono (by decide)) (by rfl) T.m_net T.F_net.kp (b_net T) .nil pass0 (pa_cons (pv 0) (pa_cons pe_int (pa_cons pe_int pa_nil)))))
 (pss_cons (ps_set (i := 2) sc_right.nd rfl (by first | exact Or.inl rfl | exact Or.inr rfl) (pe_callTy call_dictD (by rfl) T.b_dict (by decide +kernel) (pa_cons (pv 1) pa_nil)))
 (pss_cons (ps_set (i := 3) sc_right.nd rfl (by first | exact Or.inl rfl | exact Or.inr rfl) (pe_make T.mkN (ok_Net_init_ T) (hr.mono (by decide)) (by rfl) T.mNet (b_Net_init_ T) .nil pass0 (pa_cons (pv 2) pa_nil)))
 (pss_cons (ps_if (pt_cmpR op_ne (pe_callB (call_reprDc (K := K) rfl gu (hu64 hr)) (by rfl) T.b_repr (by decide +kernel) (pa_cons (pv 2) pa_nil)) (pe_callB (call_reprDc (K := K) rfl gu (hu64 hr)) (by rfl) T.b_repr (by decide +kernel) (pa_cons (pv 1) pa_nil)) (nomark _)) (pss_one (ps_ret pe_bl)) pss_nil)
 (pss_cons (ps_expr (pe_dclear (pv 2)))
 (pss_cons (ps_dput (hu_of hr) (pv 2) pe_str pe_non rfl)
 (pss_cons (ps_if (PW.pt (pw_or (pt_not (pt_val (pe_callG (ok_shown_right T) gu (hr.mono (by decide)) (by rfl) T.m_shown_right T.F_shown_right.kp (b_shown_right T) .nil pass0 (pa_cons (pv 3) (pa_cons (pv 1) pa_nil))))) (pw_or1 (pt_not (pt_val (pe_callG (ok_asked_right T) gu (hr.mono (by decide)) (by rfl) T.m_asked_right T.F_asked_right.kp (b_asked_right T) .nil pass0 (pa_cons (pv 3) (pa_cons (pv 1) pa_nil)))))))) (pss_one (ps_ret pe_bl)) pss_nil)
 (pss_cons (ps_if (PW.pt (pw_or (pt_not (pt_val (pe_callG (ok_in_right T) gu (hr.mono (by decide)) (by rfl) T.m_in_right T.F_in_right.kp (b_in_right T) .nil pass0 (pa_cons (pv 0) (pa_cons (pv 3) (pa_cons (pv 1) pa_nil)))))) (pw_or1 (pt_not (pt_val (pe_callG (ok_equal_right T) gu (hr.mono (by decide)) (by rfl) T.m_equal_right T.F_equal_right.kp (b_equal_right T) .nil pass0 (pa_cons (pv 0) (pa_cons (pv 3) (pa_cons (pv 1) pa_nil))))))))) (pss_one (ps_ret pe_bl)) pss_nil)
 (pss_one (ps_ret (pe_callG (ok_shown_right T) gu (hr.mono (by decide)) (by rfl) T.m_shown_right T.F_shown_right.kp (b_shown_right T) .nil pass0 (pa_cons (pv 3) (pa_cons (pv 1) pa_nil))))))))))))), ?_⟩
    refine ⟨_, rfl, p, rfl, hp, fun H1 d l m1 hd0 hda Dl => ?_⟩
    have G := Dl.good
    have lle := G.le
    have hp1 := m1.pot
    obtain ⟨kd, hd1, ekd⟩ := id hda
    refine ⟨_, rfl, d, kd, rfl, .inl hd1, fun c hc => ?_⟩
    have s1 := Lb.Same.upd (o := .dK kd) hc
    have hc1 : (upd H1 c (.dK kd)) c = some (.dK kd) := upd_same
    have c0 : H1 c = none := hc
    generalize upd H1 c (.dK kd) = H2 at *
    have cda : DA H2 c l := ⟨kd, hc1, ekd.tk s1.tk⟩
    have s3 : ∀ {x dx : Addr}, H2 x = none → H2 dx = none → dx ≠ x → Same H2 (upd (upd H2 dx (.own x)) x (.ins a.c_Net dx [])) := fun hx hdx nx => (Lb.Same.upd hdx).trans (Lb.Same.upd (by rw [upd_ne nx.symm]; exact hx))
    refine ⟨_, rfl, fun x dx hx hdx nx => ⟨x, dx, c, l, rfl, cda.same (s3 hx hdx nx), G, upd_same, fun H5 D N T5 R sq hD hR n => ⟨rfl, ?_⟩⟩⟩
    have s4 := s3 hx hdx nx
    have nDc : D ≠ c := fun z => by rw [z, s4 _ _ hc1] at hD; cases hD
    have nRc : R ≠ c := fun z => by rw [z, s4 _ _ hc1] at hR; cases hR
    have nDd : D ≠ d := fun z => by rw [z, s4 _ _ (s1 _ _ hd1)] at hD; cases hD
    have nRd : R ≠ d := fun z => by rw [z, s4 _ _ (s1 _ _ hd1)] at hR; cases hR
    have s25 := sq_make hx hdx sq
    have s15 := s1.trans s25
    have hc5 := s25 _ _ hc1
    have hd5 := s15 _ _ hd1
    have ek5 := ekd.tk s15.tk
    have M5 := m1.same s15
    have h5 := entD_len (l := l) (fun e he => by
      have := G.nm e he
      exact ⟨this.1, this.2.1, this.2.2.1⟩) (by omega)
    have dc := ek5.dc
    have w1 : (dcD kd (l.map fun e => tupD e.2)).showable = true := by rw [dc]; exact entD_showable _
    have w2 : (dcD kd (l.map fun e => tupD e.2)).shown.length ≤ sizeLine := by rw [dc, sizeLine_eq]; omega
    have w3 : (dcD kd (l.map fun e => tupD e.2)).depth ≤ 60 := by rw [dc]; exact entD_depth _
    refine ⟨_, rfl, c, kd, _, rfl, hc5, ek5.dp, flat_tups _, w1, w2, w3, _, rfl, d, kd, _, rfl, hd5, ek5.dp, flat_tups _, w1, w2, w3, rfl, _, rfl, ?_⟩
    rw [decide_eq_true rfl]
    refine iteF ?_
    -- the dict that was handed over is changed
    refine ⟨_, rfl, .inr (.inr (.inl ⟨rfl, .inl ⟨_, hc5⟩⟩)), c, kd, rfl, rfl, hc5, ?_⟩
    have ncd : d ≠ c := ne_of_none hd1 c0
    have cx : H c = none := m1.free hp c0
    have tk6 : TK H5 (upd H5 c (.dK [])) := tk_upd fun xs z => by rw [hc5] at z; cases z
    have n6 := n.updD (o := .dK []) hc5 nDc nRc
    have M6 := mov_upd (o := .dK []) M5 hp cx
    have d6 : DA (upd H5 c (.dK [])) d l := ⟨kd, (upd_ne ncd).trans hd5, ek5.tk tk6⟩
    have hc6 : (upd H5 c (.dK [])) c = some (.dK []) := upd_same
    generalize upd H5 c (.dK []) = H6 at *
    refine ⟨_, rfl, c, _, rfl, DPut.k (k := Sum.inr "a") hc6 (szlt (by decide)), ?_⟩
    have tk7 : TK H6 (upd H6 c (.dK (putK [] (Sum.inr "a" : Key) .non))) := tk_upd fun xs z => by rw [hc6] at z; cases z
    have n7 := n6.updD (o := .dK (putK [] (Sum.inr "a" : Key) .non)) hc6 nDc nRc
    have M7 := mov_upd (o := .dK (putK [] (Sum.inr "a" : Key) .non)) M6 hp cx
    have d7 : DA (upd H6 c (.dK (putK [] (Sum.inr "a" : Key) .non))) d l := by
      obtain ⟨kv, q1, q2⟩ := d6
      exact ⟨kv, (upd_ne ncd).trans q1, q2.tk tk7⟩
    generalize upd H6 c (.dK (putK [] (Sum.inr "a" : Key) .non)) = H7 at *
    clear tk6 tk7 n6 M6 d6 hc6 n M5 ek5 dc w1 w2 w3
    refine ⟨_, rfl, _, rfl, x, d, l, rfl, n7.at, d7, fun H8 s8 => ⟨_, rfl, iteF ?_⟩⟩
    refine ⟨_, rfl, _, rfl, x, d, l, rfl, (n7.same s8).at, d7.same s8, fun H9 s9 => ⟨_, rfl, iteF ?_⟩⟩
    have M9 := M7.same (s8.trans s9)
    have n9 := n7.same (s8.trans s9)
    have d9 := d7.same (s8.trans s9)
    refine ⟨_, rfl, _, rfl, _, rfl, p, x, d, l, dx, D, N, T5, R, rfl, M9.pot, n9, nDd, nRd, d9, fun H10 m10 => ⟨_, rfl, iteF ?_⟩⟩
    have M10 := M9.trans m10
    have nA := n9.mov m10 M9.pot
    have dA := d9.mov m10 M9.pot
    refine ⟨_, rfl, _, rfl, _, rfl, p, x, d, l, rfl, M10.pot, nA.at, dA, Dl, fun H11 m11 => ⟨_, rfl, iteF ?_⟩⟩
    have M11 := M10.trans m11
    exact ⟨_, rfl, _, rfl, x, d, l, rfl, (nA.mov m11 M10.pot).at, dA.mov m11 M10.pot, fun H12 s12 => k _ (M11.same s12)⟩
end
end K20

set_option Elab.async false
set_option linter.all false
set_option maxRecDepth 100000
set_option maxHeartbeats 4000000
/-! a def with **d, called by names -/
namespace Lb
open PySem PySem.Spec PyProof.Rows L2 StX
section
variable {P : Program} {w : World} {K : PySem.W.Frag} {mg : Str → Option Value} {base : Heap} {A : Around} {outer : List Env} {s : Shared} {H : Hp}
theorem env0_laid2 {h' : Heap} {t' : Nat} {u : HO} (e0 : Env0 P w K mg base A outer s H) (kp : ∀ b x, s.heap.get? b = some x → h'.get? b = some x) (le : s.heap.objs.size ≤ h'.objs.size) (new : ObjOk P w (upd H s.heap.objs.size u) h' s.heap.objs.size u) :
    Env0 P w K mg base A outer { s with heap := h', toks := t' } (upd H s.heap.objs.size u) := by
  refine ⟨e0.frames, e0.mod, fun b x e => ⟨kp b x (e0.bs b x e).1, ?_⟩, Nat.le_trans e0.bsz le, Heap.FunFrames.of_keeps (fun b x e _ => ⟨x, kp b x e, rfl⟩) e0.funs, fun b hb => ?_, e0.hok.laid kp (Nat.le_refl _) new, e0.bare⟩
  · rw [upd_ne (Nat.ne_of_lt (Heap.lt_size (e0.bs b x e).1))]
    exact (e0.bs b x e).2
  · obtain ⟨_, x, hx, _⟩ := e0.funs.mem hb
    rw [upd_ne (Nat.ne_of_lt (Heap.lt_size hx))]
    exact e0.frf b hb
end
section
variable {prog : Program} {w : World} {A : Around} {E : Value → Shared → Prop}
open PySem.W (dictOf kwEs) in
theorem ns_raw {d : Addr} {s : Shared} {es : List DictEntry} {n : Nat} {k : Str} {v : Value} {Q : Unit → Shared → Prop} (D : s.heap.get? d = some (dictOf es n))
    (hs : ∀ e ∈ es, e.key.isStr k = false) (hr : ∀ e ∈ es, e.refKey = false)
    (h : ∀ h', (∀ b, b ≠ d → h'.get? b = s.heap.get? b) → h'.get? d = some (dictOf (es ++ [⟨PyData.keyHash w.params k, .str k s.toks, v⟩]) (n + 1)) → Q () { s with heap := h', toks := s.toks + 1 }) :
    wpAny (model prog w) A (nsSet d k v) Q E s := by
  have e1 : es.any (·.key.isStr k) = false := by
    cases q : es.any (·.key.isStr k) with
    | false => rfl
    | true => obtain ⟨e, he, z⟩ := List.any_eq_true.mp q; rw [hs e he] at z; cases z
  have e2 : es.any (·.refKey) = false := by
    cases q : es.any (·.refKey) with
    | false => rfl
    | true => obtain ⟨e, he, z⟩ := List.any_eq_true.mp q; rw [hr e he] at z; cases z
  have e : Obj.putName k (PyData.keyHash w.params k) (.str k s.toks) v (dictOf es n) = dictOf (es ++ [⟨PyData.keyHash w.params k, .str k s.toks, v⟩]) (n + 1) := by
    rw [PySem.W.putName_dict, PySem.W.putL_new hs]
    show dictOf _ (if es.any (·.key.isStr k) then n else n + 1) = _
    rw [e1, if_neg Bool.false_ne_true]
  have c : aRefKeyMayBeTheName k es.toArray = false := by
    rw [aRefKeyMayBeTheName_at, ← Array.any_toList, ← Array.any_toList]
    show (!es.any (·.key.isStr k) && es.any (·.refKey)) = false
    rw [e2, Bool.and_false]
  unfold nsSet
  refine wpAny_bind (wpAny_bind (wpAny_askSetting (wpAny_pure (wpAny_bind (wpAny_mkText (wpAny_bind (wpAny_loadPart D ?_)))))))
  dsimp only
  rw [c]
  refine wpAny_updatePart D (h _ (fun b hb => Heap.get?_update_ne _ _ _ _ hb) ?_)
  exact e ▸ Heap.get?_update_self _ D (e ▸ rfl)
open PySem.W (dictOf kwEs) in
theorem fill_raw {d : Addr} {Q : PUnit → Shared → Prop} : ∀ (ex : List (Str × Value)) (s : Shared) (es : List DictEntry) (n : Nat), s.heap.get? d = some (dictOf es n) →
    (∀ e ∈ es, ∀ x ∈ ex, e.key.isStr x.1 = false) → (∀ e ∈ es, e.refKey = false) → (ex.map (·.1)).Nodup →
    (∀ h', (∀ b, b ≠ d → h'.get? b = s.heap.get? b) → h'.get? d = some (dictOf (es ++ kwEs w.params s.toks ex) (n + ex.length)) → Q ⟨⟩ { s with heap := h', toks := s.toks + ex.length }) →
    wpAny (model prog w) A (forIn ex PUnit.unit fun x _ => (nsSet d x.1 x.2 >>= fun _ => pure (ForInStep.yield PUnit.unit))) Q E s
  | [], s, es, n, D, _, _, _, h => by
    rw [List.forIn_nil]
    refine wpAny_pure (h s.heap (fun _ _ => rfl) ?_)
    show s.heap.get? d = some (dictOf (es ++ []) n)
    rw [List.append_nil]
    exact D
  | x :: r, s, es, n, D, hs, hr, hn, h => by
    obtain ⟨hn1, hn2⟩ := List.nodup_cons.mp (show (x.1 :: r.map (·.1)).Nodup from hn)
    rw [List.forIn_cons]
    refine wpAny_bind (wpAny_bind (ns_raw D (fun e he => hs e he x (.head _)) hr fun h' k' D' => wpAny_pure ?_))
    show wpAny (model prog w) A (forIn r PUnit.unit fun x _ => (nsSet d x.1 x.2 >>= fun _ => pure (ForInStep.yield PUnit.unit))) Q E { s with heap := h', toks := s.toks + 1 }
    refine fill_raw r { s with heap := h', toks := s.toks + 1 } _ _ D' (fun e he y hy => ?_) (fun e he => ?_) hn2 fun h'' k'' D'' => ?_
    · rcases List.mem_append.mp he with he | he
      · exact hs e he y (.tail _ hy)
      · obtain rfl := List.mem_singleton.mp he
        show (x.1 == y.1) = false
        exact beq_eq_false_iff_ne.mpr fun q => hn1 (by rw [q]; exact List.mem_map_of_mem hy)
    · rcases List.mem_append.mp he with he | he
      · exact hr e he
      · obtain rfl := List.mem_singleton.mp he
        rfl
    · have t1 : s.toks + 1 + r.length = s.toks + (r.length + 1) := by omega
      have t2 : n + 1 + r.length = n + (r.length + 1) := by omega
      show Q ⟨⟩ { s with heap := h'', toks := s.toks + 1 + r.length }
      rw [t1]
      refine h h'' (fun b hb => (k'' b hb).trans (k' b hb)) ?_
      rw [t2, List.append_assoc] at D''
      exact D''
/-- what is held by the names of a call -/
def kwV (ks : List Str) (zs : List V) : List (Key × V) := (ks.zip zs).map fun x => ((Sum.inr x.1 : Key), x.2)
def kwU (ks : List Str) (ws : List Value) : List (Key × Value) := (ks.zip ws).map fun x => ((Sum.inr x.1 : Key), x.2)
theorem kw_rel : ∀ {ks : List Str} {zs : List V} {ws : List Value}, Vals zs ws → KV (kwV ks zs) (kwU ks ws)
  | [], _, _, _ => .nil
  | _ :: _, _, _, .nil => .nil
  | k :: ks, _, _, .cons a r => .cons ⟨rfl, a⟩ (kw_rel (ks := ks) r)
theorem kwEs_mix : ∀ (ex : List (Str × Value)) (t : Tok), Pairs (mixKind prog w) (PySem.W.kwEs w.params t ex) (ex.map fun x => ((Sum.inr x.1 : Key), x.2))
  | [], _ => Pairs.nil
  | x :: r, t => Pairs.cons (mixKind_str prog w x.1 t) rfl (kwEs_mix r (t + 1))
theorem kw_dict {h : Heap} {d : Addr} {ks : List Str} {ws : List Value} {t : Tok} {n : Nat} (e : h.get? d = some (PySem.W.dictOf (PySem.W.kwEs w.params t (ks.zip ws)) n)) (nd : ks.Nodup) (l : ws.length = ks.length) : h.DictOf (mixKind prog w) d (kwU ks ws) := by
  refine ⟨_, (PySem.W.kwEs w.params t (ks.zip ws)).toArray, n, e, ⟨rfl, rfl, rfl⟩, rfl, fun x hx => ?_, kwEs_mix _ _, ?_⟩
  · obtain ⟨k, u, hk, hh⟩ := PySem.W.kwEs_key _ t x (List.mem_toArray.mp hx)
    exact ⟨Sum.inr k, by rw [hk]; exact mixKind_str prog w k u, hh.trans rfl⟩
  · unfold kwU
    rw [List.map_map]
    have : ((fun x : Key × Value => x.1) ∘ fun x : Str × Value => ((Sum.inr x.1 : Key), x.2)) = (fun z : Str => (Sum.inr z : Key)) ∘ Prod.fst := rfl
    rw [this, ← List.map_map, List.map_fst_zip (by omega)]
    exact List.Pairwise.map Sum.inr (fun (x y : Str) (h : x ≠ y) (e : (Sum.inr x : Key) = Sum.inr y) => h (by injection e)) nd
end
section
variable {CX : CXT} {P : Program} {w : World} {K : PySem.W.Frag} {mg : Str → Option Value} {base : Heap} {k : Nat} {f : Addr} {name qual : Str} {params : Arguments} {body : List Stmt} {scope : Scope} {dV kV doc pm cdv ct oc : Value} {an od : Option Addr}
  {osl : Array (Option Value)} {N : List Str} {sp : Sp}
/-- def f(c, **d), called f(c, k = v, ..) -/
def FnKw (P : Program) (w : World) (K : PySem.W.Frag) (mg : Str → Option Value) (base : Heap) (CX : CXT) (k : Nat) (f : Addr) (ks : List Str) (sp : Sp) : Prop :=
  ∀ (A : Around) (outer : List Env) (s : Shared) (H : Hp) (c : Value) (C : V) (ws : List Value) (zs : List V) (Q : VK) (E : XK), Room k A → Env0 P w K mg base A outer s H → RelV C c → Vals zs ws → zs.length = ks.length →
    (∀ d, H d = none → sp [C, .ref d] (upd H d (.dK (kwV ks zs))) Q E) → codeAny (model P w) A (.call (.ref f) ⟨[c], ks.zip ws⟩) (CR CX outer P w H s Q E) s
theorem fn_kw {pc pd : Str} {ks : List Str} (lk : K.lookup f = some ⟨oc, od, .func (PySem.W.fnOf name qual params body scope dV kV doc pm an cdv ct), osl⟩) (hcd : PySem.W.codeIn K cdv qual = true) (S : FnScope N [pc, pd] scope) (hCX : CXUp CX) (nd : ks.Nodup) (few : ks.length ≤ 1000)
    (hb : ∀ (c : Value) (ws : List Value), ws.length = ks.length → bindArgs (PySem.W.fnOf name qual params body scope dV kV doc pm an cdv ct) ⟨[c], ks.zip ws⟩ =
      ((alloc (PySem.W.dictOf [] 0) : Sem Addr) >>= fun d => forIn (ks.zip ws) PUnit.unit (fun x _ => (nsSet d x.1 x.2 >>= fun _ => pure (ForInStep.yield PUnit.unit))) >>= fun _ => pure [(pc, c), (pd, Value.ref d)]))
    (hbody : ∀ (A : Around) (outer : List Env) (s : Shared) (H : Hp) (vs : List V) (Q : VK) (E : XK), Room k (A.deeper (envOfC qual scope s.heap.objs.size f cdv)) → sp vs H Q E →
      ∃ t, PSs (cxOf CX P w K mg base N qual scope f cdv A outer s H E) body t ∧ t { nx := fun _ H' => Q .non H', rt := Q } (start N vs) H) :
    FnKw P w K mg base CX (k + 1) f ks sp := by
  intro A outer s H c C ws zs Q E hr e0 rc rz hl hq
  have hn : H s.heap.objs.size = Option.none := e0.hok.fresh (Nat.le_refl _)
  have lw : ws.length = ks.length := by rw [← rz.length]; exact hl
  have lzip : (ks.zip ws).length = ks.length := by rw [List.length_zip]; omega
  refine run_bnd lk hcd S hr e0 (G := fun xs H2 => ∃ d, H d = none ∧ xs = [C, V.ref d] ∧ H2 = upd H d (.dK (kwV ks zs))) (fun A' Ex Q' h => ?_) fun s2 H2 xs ⟨d, hd, ex, eH⟩ hr' => ?_
  · rw [hb c ws lw]
    refine wpAny_bind (wpAny_alloc (wpAny_bind (fill_raw (ks.zip ws) _ [] 0 (Heap.get?_push_size s.heap rfl) (fun _ he => nomatch he) (fun _ he => nomatch he) (by rw [List.map_fst_zip (by omega)]; exact nd) fun h' kp' D' => wpAny_pure ?_)))
    have kp : ∀ b x, s.heap.get? b = some x → h'.get? b = some x := fun b x e => (kp' b (Nat.ne_of_lt (Heap.lt_size e))).trans (Heap.get?_push_of_some _ e)
    have le : s.heap.objs.size ≤ h'.objs.size := Nat.le_of_lt (Heap.lt_size D')
    have new : ObjOk P w (upd H s.heap.objs.size (.dK (kwV ks zs))) h' s.heap.objs.size (.dK (kwV ks zs)) :=
      dk_new (vs := kwU ks ws) (by unfold kwV; rw [List.length_map, List.length_zip]; exact szle (by omega)) (beq_eq_false_iff_ne.mpr (Ne.symm (Nat.ne_of_lt (env0_big e0)))) (kw_rel rz) (kw_dict D' nd lw)
    have un : Un (frs outer) [] H (upd H s.heap.objs.size (.dK (kwV ks zs))) s.heap h' := Un.laid kp (Nat.le_refl _) hn
    have E1 : Env0 P w K mg base A outer { s with heap := h', toks := s.toks + (ks.zip ws).length } (upd H s.heap.objs.size (.dK (kwV ks zs))) := env0_laid2 e0 kp le new
    exact h { s with heap := h', toks := s.toks + (ks.zip ws).length } (upd H s.heap.objs.size (.dK (kwV ks zs))) [C, V.ref s.heap.objs.size] [c, Value.ref s.heap.objs.size] E1 un rfl (fun e s' => hCX outer s H _ _ E e s' un kp rfl) (.cons rc (.cons rfl .nil)) rfl ⟨_, hn, rfl, rfl⟩
  · subst ex eH
    exact hbody A outer s2 _ _ Q E hr' (hq d hd)
end
end Lb

set_option Elab.async false
set_option linter.all false
set_option maxRecDepth 100000
set_option maxHeartbeats 4000000
/-! {**d, k: v} -/
namespace Lb
open PySem PySem.Spec PyProof.Rows L2
section
variable {prog : Program} {w : World} {K : Type} [DecidableEq K] {knd : KeyKind prog w K} {A : Around} {E : Value → Shared → Prop} {s : Shared}
theorem dictPut_pairs {d : Addr} {kvs : List (K × Value)} {k : K} {key v : Value} {Q : Unit → Shared → Prop} (hkey : knd.is k key = true) (hm : s.heap.DictOf knd d kvs)
    (hQ : ∀ h', h'.DictOf knd d (stored kvs k v) → Heap.SameBut d s.heap h' → Q () { s with heap := h' })
    (hsz : kvs.length ≤ sizeLine) :
    wpAny (model prog w) A (dictPut d (knd.hash k) key v) Q E s := by
  obtain ⟨o, es, ep, ho, hc, hd, hk, hp, hn⟩ := hm
  have hes : es.size ≤ sizeLine := by have e1 := hp.length; have e2 : es.toList.length = es.size := by simp
                                      omega
  unfold dictPut
  refine wpAny_bind (wpAny_dictFind_of hkey ho hd hk ?_)
  have hidx : (es.findIdx? fun e => knd.is k e.key) = kvs.findIdx? fun kv => decide (kv.1 = k) := by
    rw [← hp.findIdx k]; obtain ⟨l⟩ := es; simp
  cases hi : es.findIdx? fun e => knd.is k e.key with
  | some i =>
    refine wpAny_updateDict ho hd (hQ _ ⟨_, _, ep, Heap.get?_update_self _ ho (Obj.isFreed_of_dict (Obj.data_mapDict hd _)),
      hc.mapDict _, Obj.data_mapDict hd _, hk.modify _ _, ?_, ?_⟩ (Heap.SameBut.update ..))
    · rw [stored, if_pos (any_of_findIdx_some (hidx ▸ hi))]
      have hl : (es.toList.findIdx? fun e => knd.is k e.key) = some i := by rw [← hi]; obtain ⟨l⟩ := es; simp
      have := hp.modify hn hl v
      obtain ⟨l⟩ := es
      simpa using this
    · rw [stored, if_pos (any_of_findIdx_some (hidx ▸ hi)), keys_map_store]; exact hn
  | none =>
    have hnot : k ∉ kvs.map (·.1) := not_mem_of_findIdx_none (hidx ▸ hi)
    have hany : ¬ (kvs.any fun kv => decide (kv.1 = k)) = true := by
      rw [List.any_eq_true]; rintro ⟨kv, hkv, he⟩
      exact hnot (List.mem_map.mpr ⟨kv, hkv, of_decide_eq_true he⟩)
    refine wpAny_updateDictKeys (hz := hes) ho hd (hQ _ ⟨_, _, ep + 1, Heap.get?_update_self _ ho (Obj.isFreed_of_dict (Obj.data_mapDictKeys hd _)),
      hc.mapDictKeys _, Obj.data_mapDictKeys hd _, hk.push hkey _, ?_, ?_⟩ (Heap.SameBut.update ..))
    · rw [stored, if_neg hany]
      have := hp.append hkey (knd.hash k) v
      obtain ⟨l⟩ := es
      simpa using this
    · rw [stored, if_neg hany, List.map_append, List.nodup_append]
      refine ⟨hn, by simp, ?_⟩
      intro a ha b hb
      simp only [List.map_cons, List.map_nil, List.mem_singleton] at hb
      subst hb
      exact fun e => hnot (e ▸ ha)
theorem forIn_noop {α : Type} (f : α → PUnit → Sem (ForInStep PUnit)) : ∀ l : List α, (∀ x ∈ l, f x PUnit.unit = pure (.yield PUnit.unit)) → forIn l PUnit.unit f = pure PUnit.unit
  | [], _ => by rw [List.forIn_nil]
  | x :: r, h => by
    rw [List.forIn_cons, h x (.head _), pure_bind]
    exact forIn_noop f r fun y hy => h y (.tail _ hy)
theorem merge_map {d o : Addr} {kvs more : List (K × Value)} {Q : Unit → Shared → Prop} (hdo : d ≠ o) (hoS : (o == sysModules) = false)
    (hd : s.heap.DictOf knd d kvs) (ho : s.heap.DictOf knd o more)
    (hQ : ∀ h', h'.DictOf knd d (merged kvs more) → h'.DictOf knd o more → Heap.SameBut d s.heap h' → Q () { s with heap := h' })
    (hsz : kvs.length + more.length ≤ sizeLine) :
    wpAny (model prog w) A (mergeMapping d (.ref o) false) Q E s := by
  obtain ⟨od, esd, epd, hod, hcd, hdd, hkd, hpd, hnd⟩ := id hd
  obtain ⟨oo, eso, epo, hoo, hco, hdo', hko, hpo, hno⟩ := id ho
  unfold mergeMapping
  refine wpAny_bind (wpAny_bind (wpAny_typeOf ho.typeIs ?_))
  rw [isSubtype_dict_dict]
  refine wpAny_pure ?_
  dsimp only
  rw [if_pos rfl]
  refine wpAny_bind (wpAny_specialOf ho.typeIs F.slot_dict_iter.lookup (wpAny_bind (wpAny_pure ?_)))
  simp only [beq_self_eq_true]
  rw [if_neg (by rw [hoS]; exact Bool.false_ne_true)]
  have hlen : more.length = eso.size := by rw [← hpo.length]; simp
  refine wpAny_bind (wpAny_dictEntries hod hdd ?_)
  split
  · refine wpAny_bind (wpAny_dictEntries hoo hdo' ?_)
    rw [← Array.forIn_toList, forIn_noop _ _ ?_]
    rotate_left
    · intro e he
      obtain ⟨k, hk, _⟩ := hko e (by simpa using he)
      have := knd.byValue k _ hk
      cases hkey : e.key with
      | ref a => rw [hkey] at this; simp [carriedByValue] at this
      | _ => rfl
    refine wpAny_bind (wpAny_pure ?_)
    refine wpAny_bind (wpAny_dictEntries hoo hdo' ?_)
    refine wpAny_bind (wpAny_dictEpoch hoo hdo' ?_)
    refine wpAny_bind ?_
    rw [List.range_eq_range']
    refine wpAny_forIn_list _
      (fun rest _ s' => ∃ h' i, s' = { s with heap := h' } ∧ rest = List.range' i (eso.size - i) ∧ i ≤ eso.size ∧ h'.DictOf knd d (merged kvs (more.take i)) ∧ h'.get? o = some oo ∧ Heap.SameBut d s.heap h')
      _ ?_ ?_ _ _ ⟨s.heap, 0, rfl, by simp, Nat.zero_le _, by simpa [merged] using hd, hoo, Heap.SameBut.refl _ _⟩
    · rintro x rest b s' ⟨h', i, rfl, hr, hi, hd', hoo', hs'⟩
      have hlt : i < eso.size := by
        rcases Nat.lt_or_ge i eso.size with h | h
        · exact h
        · rw [Nat.sub_eq_zero_of_le h] at hr; simp at hr
      obtain ⟨rfl, hrest⟩ : x = i ∧ rest = List.range' (i + 1) (eso.size - (i + 1)) := by
        have e : eso.size - i = (eso.size - (i + 1)) + 1 := by omega
        rw [e, List.range'_succ] at hr
        injection hr with h1 h2
        exact ⟨h1, h2⟩
      refine wpAny_bind (wpAny_dictEntries hoo' hdo' ?_)
      rw [Array.getElem?_eq_getElem hlt]
      obtain ⟨kv, hkv⟩ : ∃ kv, more[x]? = some kv := ⟨more[x]'(by rw [hlen]; exact hlt), List.getElem?_eq_getElem _⟩
      obtain ⟨k, v⟩ := kv
      obtain ⟨hkey, hval⟩ := hpo.get? (e := eso[x]) (by simp [hlt]) hkv
      obtain ⟨k', hkey', hhash⟩ := hko eso[x] (Array.getElem_mem hlt)
      obtain rfl : k' = k := knd.inj _ _ _ hkey' hkey
      show wpAny _ _ (holding [eso[x].key, eso[x].val] (dictPut d eso[x].hash eso[x].key eso[x].val) >>= _) _ _ _
      rw [hhash, hval]
      have hmx : (merged kvs (more.take x)).length ≤ sizeLine := by
        have e1 := merged_length_le kvs (more.take x)
        have e2 : (more.take x).length ≤ more.length := by rw [List.length_take]; omega
        omega
      refine wpAny_bind (wpAny_holding (dictPut_pairs (hsz := hmx) hkey hd' fun h'' hd'' hs'' => ?_))
      have hoo'' : h''.get? o = some oo := (hs''.2 o (Ne.symm hdo)).trans hoo'
      refine wpAny_bind (wpAny_dictEpoch hoo'' hdo' ?_)
      rw [if_neg (by simp)]
      exact wpAny_pure ⟨h'', x + 1, rfl, hrest, hlt, by rw [merged_take_succ kvs more x (k', v) hkv]; exact hd'', hoo'', hs'.trans hs''⟩
    · rintro b s' ⟨h', i, rfl, hr, hi, hd', hoo', hs'⟩
      have hin : i = eso.size := by
        rcases Nat.lt_or_ge i eso.size with h | h
        · have e : eso.size - i = (eso.size - (i + 1)) + 1 := by omega
          rw [e, List.range'_succ] at hr; exact nomatch hr
        · exact Nat.le_antisymm hi h
      refine wpAny_pure (hQ h' ?_ ⟨oo, eso, epo, hoo', hco, hdo', hko, hpo, hno⟩ hs')
      rw [hin, ← hlen, List.take_length] at hd'; exact hd'
  ·
    refine wpAny_bind (wpAny_dictEntries hoo hdo' ?_)
    refine wpAny_bind (wpAny_dictEpoch hoo hdo' ?_)
    refine wpAny_bind ?_
    rw [List.range_eq_range']
    refine wpAny_forIn_list _
      (fun rest _ s' => ∃ h' i, s' = { s with heap := h' } ∧ rest = List.range' i (eso.size - i) ∧ i ≤ eso.size ∧ h'.DictOf knd d (merged kvs (more.take i)) ∧ h'.get? o = some oo ∧ Heap.SameBut d s.heap h')
      _ ?_ ?_ _ _ ⟨s.heap, 0, rfl, by simp, Nat.zero_le _, by simpa [merged] using hd, hoo, Heap.SameBut.refl _ _⟩
    · rintro x rest b s' ⟨h', i, rfl, hr, hi, hd', hoo', hs'⟩
      have hlt : i < eso.size := by
        rcases Nat.lt_or_ge i eso.size with h | h
        · exact h
        · rw [Nat.sub_eq_zero_of_le h] at hr; simp at hr
      obtain ⟨rfl, hrest⟩ : x = i ∧ rest = List.range' (i + 1) (eso.size - (i + 1)) := by
        have e : eso.size - i = (eso.size - (i + 1)) + 1 := by omega
        rw [e, List.range'_succ] at hr
        injection hr with h1 h2
        exact ⟨h1, h2⟩
      refine wpAny_bind (wpAny_dictEntries hoo' hdo' ?_)
      rw [Array.getElem?_eq_getElem hlt]
      obtain ⟨kv, hkv⟩ : ∃ kv, more[x]? = some kv := ⟨more[x]'(by rw [hlen]; exact hlt), List.getElem?_eq_getElem _⟩
      obtain ⟨k, v⟩ := kv
      obtain ⟨hkey, hval⟩ := hpo.get? (e := eso[x]) (by simp [hlt]) hkv
      obtain ⟨k', hkey', hhash⟩ := hko eso[x] (Array.getElem_mem hlt)
      obtain rfl : k' = k := knd.inj _ _ _ hkey' hkey
      show wpAny _ _ (holding [eso[x].key, eso[x].val] (dictPut d eso[x].hash eso[x].key eso[x].val) >>= _) _ _ _
      rw [hhash, hval]
      have hmx : (merged kvs (more.take x)).length ≤ sizeLine := by
        have e1 := merged_length_le kvs (more.take x)
        have e2 : (more.take x).length ≤ more.length := by rw [List.length_take]; omega
        omega
      refine wpAny_bind (wpAny_holding (dictPut_pairs (hsz := hmx) hkey hd' fun h'' hd'' hs'' => ?_))
      have hoo'' : h''.get? o = some oo := (hs''.2 o (Ne.symm hdo)).trans hoo'
      refine wpAny_bind (wpAny_dictEpoch hoo'' hdo' ?_)
      rw [if_neg (by simp)]
      exact wpAny_pure ⟨h'', x + 1, rfl, hrest, hlt, by rw [merged_take_succ kvs more x (k', v) hkv]; exact hd'', hoo'', hs'.trans hs''⟩
    · rintro b s' ⟨h', i, rfl, hr, hi, hd', hoo', hs'⟩
      have hin : i = eso.size := by
        rcases Nat.lt_or_ge i eso.size with h | h
        · have e : eso.size - i = (eso.size - (i + 1)) + 1 := by omega
          rw [e, List.range'_succ] at hr; exact nomatch hr
        · exact Nat.le_antisymm hi h
      refine wpAny_pure (hQ h' ?_ ⟨oo, eso, epo, hoo', hco, hdo', hko, hpo, hno⟩ hs')
      rw [hin, ← hlen, List.take_length] at hd'; exact hd'
end
end Lb

set_option Elab.async false
set_option linter.all false
set_option maxRecDepth 100000
set_option maxHeartbeats 4000000
namespace Lb
open PySem PySem.Spec PyProof.Rows L2
def tSplat (te tk tv : TE) : TE := fun σ H Q => ∀ p, H p = none → te σ (upd H p (.dK [])) fun x H1 => ∃ a kvs, x = .ref a ∧ H1 a = some (.dK kvs) ∧ a ≠ p ∧ H1 p = some (.dK []) ∧ kvs.length ≤ 1000 ∧
  ∀ q, q ≠ p → H1 q = none → tPairs [(tk, tv)] σ (upd (upd H1 p (.dK (mergeK [] kvs))) q (.dK [])) fun ps H3 => ∃ k z, ps = [(kV k, z)] ∧ H3 q = some (.dK []) ∧ H3 p = some (.dK (mergeK [] kvs)) ∧
    Q (.ref p) (upd (upd H3 q (.dK [(k, z)])) p (.dK (putK (mergeK [] kvs) k z)))
section
variable {X : Cx} {e k v : Expr} {te tk tv : TE} {pos : Pos}
theorem pe_splat (he : PE X e te) (hk : PE X k tk) (hv : PE X v tv) : PE X (.Dict [none, some k] [e, v] pos) (tSplat te tk tv) := by
  refine ⟨fun pins s σ H Q I q => ?_⟩
  have hn := I.hok.fresh (Nat.le_refl s.heap.objs.size)
  have I1 := I.laid (a := s.heap.objs.size) (o := .dK []) (h' := s.heap.push { cls := .type "dict", data := .dict #[] }) (t' := s.toks) (fun _ _ q => Heap.get?_push_of_some _ q) (Nat.le_refl _) (dk_empty s.heap I.big)
  rw [arm_eval_Dict]
  refine wpAny_bind (wpAny_standAt ?_)
  show wpAny _ _ (dictDisplay [(none, do let x ← eval e X.env; standAt pos; pure x), (some (eval k X.env), do let x ← eval v X.env; standAt pos; pure x)]) _ _ _
  unfold dictDisplay
  simp only [List.forIn_cons, List.forIn_nil, List.isEmpty_nil, if_true, pure_bind, bind_assoc, List.nil_append, List.length_cons, List.length_nil, Nat.reduceAdd, Nat.reduceBEq, Bool.false_eq_true, if_false, List.isEmpty_cons]
  refine wpAny_bind (wpAny_alloc ?_)
  refine wpAny_bind (wpAny_holding (wpAny_bind (thn (he.run pins _ σ _ _ I1 (q _ hn)) fun u s1 ⟨x, H1, I2, rx, a, kvs, ex, ha, na, hp, few, q2⟩ => wpAny_bind (wpAny_standAt (wpAny_pure ?_)))))
  subst ex
  obtain rfl : u = Value.ref a := rx
  generalize s.heap.objs.size = p at *
  obtain ⟨zA, mA, vsA, relA, ddA⟩ := dk_of I2.hok ha
  obtain ⟨zP, mP, vsP, relP, ddP⟩ := dk_of I2.hok hp
  cases relP
  have lA : vsA.length = kvs.length := (Paired.length relA).symm
  refine wpAny_bind (wpAny_onRaise (wpAny_tryCatch (wpAny_onRaise (wpAny_holding (merge_map (knd := mixKind X.prog X.w) na.symm mA ddP ddA (fun h' dP' dA' sb => ?_) (by rw [lA, sizeLine_eq, List.length_nil]; omega))))))
  have lM : (mergeK [] kvs).length ≤ 1000 := by
    have := length_mergeK kvs []
    rw [List.length_nil] at this
    omega
  have I3 : Inv X pins σ (upd H1 p (.dK (mergeK [] kvs))) { s1 with heap := h' } :=
    d_write (t' := s1.toks) I2 (by rw [hp]; exact True.intro) sb (let ⟨o, _, _, hq, _⟩ := dP'; ⟨o, hq⟩) (dk_new (szle (by omega)) mP (relA.merge .nil) dP')
  have hpn : (upd H1 p (.dK (mergeK [] kvs))) h'.objs.size = none := I3.hok.fresh (Nat.le_refl _)
  have np : h'.objs.size ≠ p := fun z => by rw [z, upd_same] at hpn; cases hpn
  have hq1 : H1 h'.objs.size = none := by rw [upd_ne np] at hpn; exact hpn
  refine wpAny_bind (wpAny_holding (wpAny_subDict (knd := mixKind X.prog X.w) (show 1 ≤ 15 by decide) ?_))
  have I4 := I3.laid (a := h'.objs.size) (o := .dK []) (h' := h'.push { cls := .type "dict", data := .dict #[] }) (t' := s1.toks) (fun _ _ q => Heap.get?_push_of_some _ q) (Nat.le_refl _) (dk_empty h' I3.big)
  refine thn ((pps_cons (pos := pos) hk hv pps_nil).run pins _ σ _ _ I4 (q2 _ np hq1)) fun ws s2 ⟨ps, H3, I5, rel2, k0, z, ep, eq3, ep3, q3⟩ => ?_
  subst ep
  obtain ⟨rs, c, rk⟩ := carries_of (P := X.prog) (w := X.w) (kvs := [(k0, z)]) rel2
  obtain ⟨zQ, mQ, vsQ, relQ, ddQ⟩ := dk_of I5.hok eq3
  cases relQ
  refine ⟨rs, c, ddQ, fun h2 dQ' sb2 => ?_⟩
  have I6 : Inv X pins σ (upd H3 h'.objs.size (.dK [(k0, z)])) { s2 with heap := h2, toks := s2.toks + ws.length } :=
    d_write I5 (by rw [eq3]; exact True.intro) sb2 (let ⟨o, _, _, hq, _⟩ := dQ'; ⟨o, hq⟩) (dk_new (kvs := [(k0, z)]) (szle (show 1 ≤ 10000 by decide)) mQ (rk.merge .nil) dQ')
  have e6 : (upd H3 h'.objs.size (.dK [(k0, z)])) p = some (.dK (mergeK [] kvs)) := (upd_ne np.symm).trans ep3
  obtain ⟨zP2, mP2, vsP2, relP2, ddP2⟩ := dk_of I6.hok e6
  obtain ⟨zQ2, mQ2, vsQ2, relQ2, ddQ2⟩ := dk_of I6.hok (show (upd H3 h'.objs.size (.dK [(k0, z)])) h'.objs.size = some (.dK [(k0, z)]) from upd_same)
  have l1 : vsP2.length = (mergeK [] kvs).length := (Paired.length relP2).symm
  have l2 : vsQ2.length = 1 := (Paired.length relQ2).symm
  refine wpAny_bind (wpAny_onRaise (wpAny_holding (merge_map (s := { s2 with heap := h2, toks := s2.toks + ws.length }) (knd := mixKind X.prog X.w) np.symm mQ2 ddP2 ddQ2 (fun h3 dP3 dQ3 sb3 => wpAny_pure ?_) (by rw [l1, l2, sizeLine_eq]; omega))))
  have lP := length_putK (mergeK [] kvs) k0 z
  exact ⟨.ref p, _, d_write (t' := s2.toks + ws.length) I6 (by rw [e6]; exact True.intro) sb3 (let ⟨o, _, _, hq, _⟩ := dP3; ⟨o, hq⟩) (dk_new (kvs := putK (mergeK [] kvs) k0 z) (szle (by omega)) mP2 (relQ2.merge relP2) dP3), rfl, q3⟩
end
end Lb

set_option Elab.async false
set_option linter.all false
set_option maxRecDepth 100000
set_option maxHeartbeats 4000000
/-! C.m(k = v, ..), m a classmethod with **d; c(e), c a variable that holds a class -/
namespace Lb
open PySem PySem.Spec PyProof.Rows L2 ClX
section
variable {X : Cx} {CX : CXT} {k i : Nat} {C p g f : Addr} {mc : Value} {fd : FuncData} {ps ks : List Str} {sp : Sp} {E : XK} {m x : Str} {pos apos xp : Pos} {o e : Expr} {es : List Expr} {kws : List Keyword} {ta : TE} {t tk : TA} {dvs : List V} {ds : List Value}
def tCMethKw (C : Addr) (ks : List Str) (sp : Sp) (E : XK) (ta : TE) (tk : TA) : TE := fun σ H Q => ta σ H fun x H1 => x = .ref C ∧ tk σ H1 fun zs H2 => zs.length = ks.length ∧ ∀ d, H2 d = none → sp [.ref C, .ref d] (upd H2 d (.dK (kwV ks zs))) Q E
theorem pe_cmethKw {pl : Sem Bool} (he : PE X o ta) (r : CRead X.K C mc) (c : CMet X.K C mc m p g) (F : FnKw X.prog X.w X.K X.mg X.base CX k g ks sp) (hr : Room k X.A) (hx : Passes CX X E) (hkw : PK X kws tk)
    (hall : (backToKw pos (keywordEach kws X.env)).all (·.1.isSome) = true := by rfl) (hks : (backToKw pos (keywordEach kws X.env)).filterMap (·.1) = ks := by rfl)
    (hpl : ((backTo pos (starEach [] X.env)).any (·.1) || (backToKw pos (keywordEach kws X.env)).any (·.1.isNone)) = false := by rfl)
    (ht : eval (.Call (.Attribute o m apos) [] kws pos) X.env = (do
      let ov ← eval o X.env
      standAt apos.atName
      let (f, first) ← holding [ov] (getMethod ov m pl)
      callWith pos f first (backTo pos (starEach [] X.env)) (backToKw pos (keywordEach kws X.env))) := by rfl) :
    PE X (.Call (.Attribute o m apos) [] kws pos) (tCMethKw C ks sp E ta tk) := by
  refine ⟨fun pins s σ H Q I h => ?_⟩
  refine PySem.W.methodCall_KW (pl := pl) (thn (he.run pins s σ H _ I h) fun u s1 ⟨x, H1, I1, rx, ex, q⟩ => ?_) ht
  subst ex
  obtain rfl : u = Value.ref C := rx
  refine getmethcm_ok I1 r c fun s2 I2 => ?_
  have hb := base_none I1 (Nat.le_refl _)
  generalize s1.heap.objs.size = q0 at *
  refine PySem.W.callWith_of (P := PySem.W.MethP X.K q0 g (.ref C)) hpl (PySem.W.keeps_M c.fi) (evalArgs_kw2_nil hall ?_)
  refine thn (hkw.run pos _ s2 σ H1 _ I2 q) fun ws s3 ⟨zs, H2, I3, rz, l2, q2⟩ => ⟨⟨pin_at I3, I3.kIn⟩, ?_⟩
  rw [hks]
  show wpAny (model X.prog X.w) X.A (call (.ref q0) [] (ks.zip ws)) (EP X pins σ Q) X.xe s3
  have z : wpAny (model X.prog X.w) X.A (call (.ref q0) [] (ks.zip ws)) (EP X ((q0, PySem.W.methodObj (.ref g) (.ref C)) :: pins) σ Q) X.xe s3 := by
    refine wpAny_call (PySem.W.method_call (pin_at I3) ?_)
    refine codeAny_mono (F X.A X.stack s3 H2 (.ref C) (.ref C) ws zs Q E hr I3.env0 rfl rz l2 q2) fun r s' hq => ?_
    cases r with
    | error e => exact hx _ _ _ _ e s' I3 hq
    | ok fl =>
      cases fl with
      | ret u => exact I3.after hq
      | next => exact False.elim hq
      | brk => exact False.elim hq
      | cont => exact False.elim hq
  exact thn z fun _ _ y => unpinE y
end
end Lb

set_option Elab.async false
set_option linter.all false
set_option maxRecDepth 100000
set_option maxHeartbeats 4000000
namespace K20
open PySem L2 Lb
open C8 (pss_cut)
def OfB (ks : List Str) : Prop := ∀ (kV doc pm : Value) (an : Option Addr) (cdv ct : Value) (c : Value) (ws : List Value), ws.length = ks.length →
  bindArgs (PySem.W.fnOf "of" "Net.of" (defArgs s_Netof) (defBody s_Netof) (defScope s_Netof) .none kV doc pm an cdv ct) ⟨[c], ks.zip ws⟩ =
    ((alloc (PySem.W.dictOf [] 0) : Sem Addr) >>= fun d => forIn (ks.zip ws) PUnit.unit (fun x _ => (nsSet d x.1 x.2 >>= fun _ => pure (ForInStep.yield PUnit.unit))) >>= fun _ => pure [(("cls" : Str), c), (("pipes" : Str), Value.ref d)])
theorem ofB1 : OfB ["p"] := fun _ _ _ _ _ _ _ ws h => match ws, h with | [_], _ => rfl
theorem ofB3 : OfB ["r", "p", "q"] := fun _ _ _ _ _ _ _ ws h => match ws, h with | [_, _, _], _ => rfl
theorem ofB4 : OfB ["r", "p", "q", "s"] := fun _ _ _ _ _ _ _ ws h => match ws, h with | [_, _, _, _], _ => rfl
def sp_of (C : Addr) : Sp := fun vs H Q _ => ∃ d l, vs = [.ref C, .ref d] ∧ DA H d l ∧ Good l ∧ ∀ H' q, Same H H' → NetAt C H' q l → Q (.ref q) H'
def sp_joined (C : Addr) : Sp := fun vs H Q _ => ∃ q l z x y, vs = [.ref q, .str z, .str x, .str y] ∧ NetAt C H q l ∧ nmS z = true ∧ z ∉ nmsOf l ∧ x ∈ nodOf l ∧ y ∈ nodOf l ∧ x ≠ y ∧ l.length ≤ 15 ∧
  ∀ H' q', Same H H' → NetAt C H' q' (putP (srtP l) z (x, y)) → Q (.ref q') H'
theorem ndE {l : PP} (h : (nmsOf l).Nodup) : l.Nodup := (List.pairwise_map.mp (show (l.map (·.1)).Pairwise (· ≠ ·) from h)).imp fun n e => n (by rw [e])
section
variable {P : Program} {w : World} {K : PySem.W.Frag} {mg : Str → Option Value} {base : Heap} {a : Ad}
theorem ok_Netof (T : Txt K mg a) {ks : List Str} (nd : ks.Nodup) (few : ks.length ≤ 1000) (hb : OfB ks) : FnKw P w K mg base CX0 6 a.f_Netof ks (sp_of a.c_Net) := by
  obtain ⟨oc, od, kV, doc, pm, an, cdv, ct, osl, e, lk, hcd⟩ := T.F_Netof.ex
  rw [e] at lk
  refine fn_kw lk hcd sc_Netof StX.cxUp_none nd few (hb kV doc pm an cdv ct) fun A outer s H vs Q E hr h => ?_
  obtain ⟨d, l, rfl, hda, G, k⟩ := h
  refine ⟨_, PSs.nox (pss_one (ps_ret (pe_makeL (i := 0) T.mkN (ok_Net_init_ T) (hr.mono (by decide)) rfl (by first | exact Or.inl rfl | exact Or.inr rfl) (b_Net_init_ T) .nil pass0 (pa_cons (pv 1) pa_nil)))), ?_⟩
  refine ⟨rfl, _, rfl, fun x dx hx hdx nx => ⟨x, dx, d, l, rfl, hda.same ((Lb.Same.upd hdx).trans (Lb.Same.upd (by rw [upd_ne nx.symm]; exact hx))), G, upd_same, fun H5 D N T5 R sq _ _ n => ⟨rfl, k _ x (sq_make hx hdx sq) n.at⟩⟩⟩
theorem ok_Netjoined (T : Txt K mg a) : FnOk P w K mg base CX0 6 a.f_Netjoined a.d_Netjoined ["self", "name", "tail", "head"] (sp_joined a.c_Net) := by
  refine T.F_Netjoined.ok sc_Netjoined (fun vs H Q E h => ?_) (fun cdv A outer s H vs Q E hr h => ?_)
  · obtain ⟨q, l, z, x, y, rfl, _⟩ := h
    rfl
  · obtain ⟨q, l, z, x, y, rfl, n0, nz, hz, hx, hy, nxy, lle, k⟩ := h
    refine ⟨_, (pss_cons (ps_if (PW.pt (pw_or (pt_not (pt_val (pe_call (ok_is_name T) (hr.mono (by decide)) (by rfl) T.m_is_name T.F_is_name.kp (b_is_name T) .nil pass0 (pa_cons (pv 1) pa_nil)))) (pw_or1 (pt_cmp (pc_din (hu_of hr) (pv 1) (pe_fldK (K := K) rfl (pv 0) rfl)))))) (pss_one ps_never) pss_nil)
 (pss_cons (ps_expr (pe_meth (pv 0) T.cl T.mChk (ok_Net_check_node T) (hr.mono (by decide)) (b_Net_check_node T) .nil pass0 (pa_cons (pv 2) pa_nil)))
 (pss_cons (ps_expr (pe_meth (pv 0) T.cl T.mChk (ok_Net_check_node T) (hr.mono (by decide)) (b_Net_check_node T) .nil pass0 (pa_cons (pv 3) pa_nil)))
 (pss_cons (ps_if (pt_cmpR op_eq (pv 2) (pv 3) (nomark _)) (pss_one ps_never) pss_nil)
 (pss_one (ps_ret (pe_make T.mkN (ok_Net_init_ T) (hr.mono (by decide)) (by rfl) T.mNet (b_Net_init_ T) .nil pass0 (pa_cons (pe_splat (pe_fldK (K := K) rfl (pv 0) rfl) (pv 1) (pe_tup (pa_cons (pv 2) (pa_cons (pv 3) pa_nil)))) pa_nil)))))))), ?_⟩
    obtain ⟨dx, D, N, T5, R, n⟩ := id n0
    have G := n.good
    have nl : (netF D N T5 R).lookup ("_check_node" : Str) = none := nf_not D N T5 R (by decide +kernel) (by decide +kernel) (by decide +kernel) (by decide +kernel)
    obtain ⟨kv, hkv, ekv⟩ := n.pi
    refine ⟨_, rfl, z, rfl, nz, fun H1 s1 => ⟨_, rfl, ?_⟩⟩
    have n1 := n.same s1
    refine iteF ⟨_, rfl, _, rfl, q, a.c_Net, dx, _, _, rfl, n1.ins, T.cl, T.nPi, nf_pi D N T5 R, D, _, rfl, DGet.k (k := Sum.inr z) (s1 _ _ hkv), ?_⟩
    rw [(ekv.tk s1.tk).val_none (by rw [lookup_srtP G.nd]; exact lookup_none.mpr hz)]
    refine ⟨_, rfl, iteF ?_⟩
    refine ⟨_, rfl, q, dx, _, rfl, n1.ins, nl, _, rfl, q, l, x, rfl, n0.same s1, hx, ?_⟩
    refine ⟨_, rfl, q, dx, _, rfl, n1.ins, nl, _, rfl, q, l, y, rfl, n0.same s1, hy, ?_⟩
    refine ⟨_, rfl, _, rfl, rfl, _, rfl, ?_⟩
    rw [show decide ((V.str x : V) = V.str y) = false from decide_eq_false (by simpa using nxy)]
    refine iteF ?_
    have hD1 := s1 _ _ hkv
    have ek1 := ekv.tk s1.tk
    intro d hd
    have nd : D ≠ d := ne_of_none hD1 hd
    have sd := Lb.Same.upd (o := .dK []) hd
    refine ⟨_, rfl, q, a.c_Net, dx, _, _, rfl, sd _ _ n1.ins, T.cl, T.nPi, nf_pi D N T5 R, D, kv, rfl, sd _ _ hD1, nd, upd_same, by have := ek1.len; rw [srtP_len] at this; omega, fun u nu hu => ?_⟩
    have lkv : kv.length = l.length := by rw [ek1.len, srtP_len]
    rw [merge_inr ek1.keys (srtP_nd G.nd)]
    have hd1 : H1 u = none := by rw [upd_ne nu] at hu; exact hu
    refine ⟨_, rfl, _, rfl, _, rfl, le2, fun t ht => ?_⟩
    have tu : t ≠ u := fun e => by rw [e, upd_same] at ht; cases ht
    have td : t ≠ d := fun e => by rw [e, upd_ne nu.symm, upd_same] at ht; cases ht
    have ht1 : H1 t = none := by rw [upd_ne tu, upd_ne td, upd_ne td] at ht; exact ht
    refine ⟨Sum.inr z, .ref t, rfl, (upd_ne tu.symm).trans upd_same, (upd_ne td.symm).trans ((upd_ne nu.symm).trans upd_same), ?_⟩
    have s4 : Same H1 (upd (upd (upd (upd (upd (upd H1 d (.dK [])) d (.dK kv)) u (.dK [])) t (.tup [.str x, .str y])) u (.dK [((Sum.inr z : Key), .ref t)])) d (.dK (putK kv (Sum.inr z : Key) (.ref t)))) := fun b o e => by
      have b1 := ne_of_none e hd
      have b2 := ne_of_none e hd1
      have b3 := ne_of_none e ht1
      rw [upd_ne b1, upd_ne b2, upd_ne b3, upd_ne b2, upd_ne b1, upd_ne b1]
      exact e
    have ht4 : (upd (upd (upd (upd (upd (upd H1 d (.dK [])) d (.dK kv)) u (.dK [])) t (.tup [.str x, .str y])) u (.dK [((Sum.inr z : Key), .ref t)])) d (.dK (putK kv (Sum.inr z : Key) (.ref t)))) t = some (.tup [.str x, .str y]) := by
      rw [upd_ne td, upd_ne tu, upd_same]
    have hd4 : (upd (upd (upd (upd (upd (upd H1 d (.dK [])) d (.dK kv)) u (.dK [])) t (.tup [.str x, .str y])) u (.dK [((Sum.inr z : Key), .ref t)])) d (.dK (putK kv (Sum.inr z : Key) (.ref t)))) d = some (.dK (putK kv (Sum.inr z : Key) (.ref t))) := upd_same
    generalize (upd (upd (upd (upd (upd (upd H1 d (.dK [])) d (.dK kv)) u (.dK [])) t (.tup [.str x, .str y])) u (.dK [((Sum.inr z : Key), .ref t)])) d (.dK (putK kv (Sum.inr z : Key) (.ref t)))) = H4 at *
    have da4 : DA H4 d (putP (srtP l) z (x, y)) := ⟨_, hd4, (ek1.tk s4.tk).put ⟨t, rfl, ht4⟩⟩
    have pm : (srtP l).Perm l := (List.perm_ext_iff_of_nodup (ndE (srtP_nd G.nd)) (ndE G.nd)).mpr fun e => mem_srtP G.nd
    have G4 : Good (putP (srtP l) z (x, y)) := way3 G lle pm hx hy nxy hz nz
    exact fun p dx hp hdx npx => ⟨p, dx, d, _, rfl, da4.same ((Lb.Same.upd hdx).trans (Lb.Same.upd (by rw [upd_ne npx.symm]; exact hp))), G4, upd_same, fun H5 D N T5 R sq _ _ n5 => ⟨rfl, k _ p ((s1.trans s4).trans (sq_make hp hdx sq)) n5.at⟩⟩
end
end K20

set_option Elab.async false
set_option linter.all false
set_option maxRecDepth 100000
set_option maxHeartbeats 4000000
namespace K20
open PySem L2 Lb
open C8 (pss_cut)
def p1 : PP := [("p", ("z", "a"))]
def pW : PP := [("abcdefgh", ("hgfedcba", "a"))]
def p3 : PP := [("r", ("n", "k")), ("p", ("k", "m")), ("q", ("m", "n"))]
def p4 : PP := [("r", ("n", "k")), ("p", ("k", "m")), ("q", ("m", "n")), ("s", ("n", "o"))]
def pM : PP := putP (srtP pW) "zyxwvuts" ("a", "hgfedcba")
theorem nms4 : srt (nmsOf p4) = (["p", "q", "r", "s"] : List Str) := (srt_of (by decide +kernel) (by decide +kernel)).symm
theorem nms3 : srt (nmsOf p3) = (["p", "q", "r"] : List Str) := (srt_of (by decide +kernel) (by decide +kernel)).symm
theorem pts4 : pts p4 = (["k", "m", "n", "o"] : List Str) := (srtS_of (by decide +kernel) (by decide +kernel)).symm
theorem pts3 : pts p3 = (["k", "m", "n"] : List Str) := (srtS_of (by decide +kernel) (by decide +kernel)).symm
theorem ptsW : pts pW = (["a", "hgfedcba"] : List Str) := (srtS_of (by decide +kernel) (by decide +kernel)).symm
theorem pts1 : pts p1 = (["a", "z"] : List Str) := (srtS_of (by decide +kernel) (by decide +kernel)).symm
theorem rpW : rpP pW = "Net({'abcdefgh': ('hgfedcba', 'a')})" := by decide +kernel
theorem srtP3 : srtP p3 = ([("p", ("k", "m")), ("q", ("m", "n")), ("r", ("n", "k"))] : PP) := by unfold srtP; rw [nms3]; decide +kernel
theorem rp3 : rpP p3 = "Net({'p': ('k', 'm'), 'q': ('m', 'n'), 'r': ('n', 'k')})" := by unfold rpP; rw [srtP3]; decide +kernel
theorem srtPW : srtP pW = pW := by decide +kernel
theorem pM_eq : pM = ([("abcdefgh", ("hgfedcba", "a")), ("zyxwvuts", ("a", "hgfedcba"))] : PP) := by unfold pM; rw [srtPW]; decide +kernel
theorem nmsM : srt (nmsOf pM) = (["abcdefgh", "zyxwvuts"] : List Str) := by rw [pM_eq]; exact (srt_of (by decide +kernel) (by decide +kernel)).symm
theorem besM : besP pM "a" "hgfedcba" = (["abcdefgh", "zyxwvuts"] : List Str) := by unfold besP; rw [nmsM, pM_eq]; decide +kernel
theorem s11 : samP p1 p1 = true := by decide +kernel
theorem lk4 : p4.lookup ("s" : Str) = some (("n", "o") : Str × Str) := by decide +kernel
theorem lkM : pM.lookup ("zyxwvuts" : Str) = some (("a", "hgfedcba") : Str × Str) := by rw [pM_eq]; decide +kernel
theorem con_of {l : PP} {x0 : Str} {ps : List Str} (e : pts l = ps) (h : ∀ x ∈ ps, Rch l x0 x) : ∀ x ∈ nodOf l, ∀ y ∈ nodOf l, Rch l x y := fun x hx y hy =>
  (h x (e ▸ srtS_mem.mpr hx)).symm.trans (h y (e ▸ srtS_mem.mpr hy))
theorem good4 : Good p4 := by
  refine ⟨by decide +kernel, by decide +kernel, by decide +kernel, by decide +kernel, by rw [pts4]; decide, con_of (x0 := "n") pts4 fun x hx => ?_⟩
  simp only [List.mem_cons, List.not_mem_nil, or_false] at hx
  rcases hx with rfl | rfl | rfl | rfl
  · exact .step .refl (by decide +kernel)
  · exact .step .refl (by decide +kernel)
  · exact .refl
  · exact .step .refl (by decide +kernel)
theorem good3 : Good p3 := by
  refine ⟨by decide +kernel, by decide +kernel, by decide +kernel, by decide +kernel, by rw [pts3]; decide, con_of (x0 := "n") pts3 fun x hx => ?_⟩
  simp only [List.mem_cons, List.not_mem_nil, or_false] at hx
  rcases hx with rfl | rfl | rfl
  · exact .step .refl (by decide +kernel)
  · exact .step .refl (by decide +kernel)
  · exact .refl
theorem goodW : Good pW := by
  refine ⟨by decide +kernel, by decide +kernel, by decide +kernel, by decide +kernel, by rw [ptsW]; decide, con_of (x0 := "a") ptsW fun x hx => ?_⟩
  simp only [List.mem_cons, List.not_mem_nil, or_false] at hx
  rcases hx with rfl | rfl
  · exact .refl
  · exact .step .refl (by decide +kernel)
theorem good1 : Good p1 := by
  refine ⟨by decide +kernel, by decide +kernel, by decide +kernel, by decide +kernel, by rw [pts1]; decide, con_of (x0 := "a") pts1 fun x hx => ?_⟩
  simp only [List.mem_cons, List.not_mem_nil, or_false] at hx
  rcases hx with rfl | rfl
  · exact .refl
  · exact .step .refl (by decide +kernel)
def d4 : PyData := .list [.tuple ((["k", "m", "n", "o"] : List Str).map .str), .list ((["p", "q", "r", "s"] : List Str).map .str), tupD ("n", "o")]
theorem shaped_d4 : SeqAt.shaped d4 = true := by decide +kernel
theorem eqv_d4 : PyData.eqv d4 d4 = true := by decide +kernel
def dW : PyData := .tuple ((["a", "hgfedcba"] : List Str).map .str)
theorem shaped_dW : SeqAt.shaped dW = true := by decide +kernel
theorem eqv_dW : PyData.eqv dW dW = true := by decide +kernel
def dM : PyData := .list ((["abcdefgh", "zyxwvuts"] : List Str).map .str)
theorem shaped_dM : SeqAt.shaped dM = true := by decide +kernel
theorem eqv_dM : PyData.eqv dM dM = true := by decide +kernel
theorem shaped_ah : SeqAt.shaped (tupD ("a", "hgfedcba")) = true := by decide +kernel
theorem eqv_ah : PyData.eqv (tupD ("a", "hgfedcba")) (tupD ("a", "hgfedcba")) = true := by decide +kernel
theorem nfo (D N T5 R : Addr) : (netF D N T5 R).lookup ("names" : Str) = none ∧ (netF D N T5 R).lookup ("joined" : Str) = none ∧ (netF D N T5 R).lookup ("between" : Str) = none :=
  ⟨nf_not D N T5 R (by decide +kernel) (by decide +kernel) (by decide +kernel) (by decide +kernel), nf_not D N T5 R (by decide +kernel) (by decide +kernel) (by decide +kernel) (by decide +kernel), nf_not D N T5 R (by decide +kernel) (by decide +kernel) (by decide +kernel) (by decide +kernel)⟩
/-- a dict of one entry, made, and a net of it -/
theorem one_da {H : Hp} {d t : Addr} {z : Str} {e : Str × Str} (hd : H d = none) (ht : (upd H d (.dK [])) t = none) :
    (upd (upd H d (.dK [])) t (.tup [.str e.1, .str e.2])) d = some (.dK []) ∧ Same H (upd (upd (upd H d (.dK [])) t (.tup [.str e.1, .str e.2])) d (.dK [((Sum.inr z : Key), .ref t)])) ∧
      DA (upd (upd (upd H d (.dK [])) t (.tup [.str e.1, .str e.2])) d (.dK [((Sum.inr z : Key), .ref t)])) d [(z, e)] := by
  have td : t ≠ d := fun e => by rw [e, upd_same] at ht; cases ht
  have ht1 : H t = none := by rw [upd_ne td] at ht; exact ht
  refine ⟨(upd_ne td.symm).trans upd_same, fun b o q => ?_, _, upd_same, .cons ⟨rfl, t, rfl, (upd_ne td).trans upd_same⟩ .nil⟩
  have b1 := ne_of_none q hd
  have b2 := ne_of_none q ht1
  rw [upd_ne b1, upd_ne b2, upd_ne b1]
  exact q
theorem le4 : (4 : Nat) ≤ sizeLine := szle (by decide)
def sp_fixed : Sp := fun vs H Q _ => vs = [] ∧ ∀ H', Same H H' → Q (.bl true) H'
section
variable {P : Program} {w : World} {K : PySem.W.Frag} {mg : Str → Option Value} {base : Heap} {a : Ad}
theorem ok_fixed_right (T : Txt K mg a) : FnG P w K mg base CX0 8 a.f_fixed_right a.d_fixed_right [] sp_fixed := by
  refine okG T.F_fixed_right sc_fixed_right (fun vs H Q E h => ?_) (fun cdv A outer s H vs Q E gu hr h => ?_)
  · obtain ⟨rfl, _⟩ := h
    rfl
  · obtain ⟨rfl, k⟩ := h
    refine ⟨_, (pss_cons (ps_set (i := 0) sc_fixed_right.nd rfl (by first | exact Or.inl rfl | exact Or.inr rfl) (pe_cmethKw (pe_glob (v := .ref a.c_Net) rfl T.mNet rfl) T.cR T.cOf (ok_Netof T (by decide +kernel) (by decide) ofB4) (hr.mono (by decide)) pass0 (pk_cons (pe_tup (pa_cons pe_str (pa_cons pe_str pa_nil))) (pk_cons (pe_tup (pa_cons pe_str (pa_cons pe_str pa_nil))) (pk_cons (pe_tup (pa_cons pe_str (pa_cons pe_str pa_nil))) (pk_cons (pe_tup (pa_cons pe_str (pa_cons pe_str pa_nil))) pk_nil))))))
 (pss_cons (ps_if (pt_cmpR (op_neDK2 (K := K) rfl hr.units) (pe_lst (pa_cons (pe_prop (pv 0) T.cl T.pN (ok_Netnodes T) (hr.mono (by decide)) (b_Netnodes T) .nil pass0 rfl) (pa_cons (pe_meth0 (pv 0) T.cl T.mNames (ok_Netnames T) (hr.mono (by decide)) (b_Netnames T) .nil pass0) (pa_cons (pe_getOwn (K := K) (E := E0) rfl T.noSeq T.cGet.at_ T.fGet T.cGet.fn ((ok_Net_getitem_ T).raw (b_Net_getitem_ T) .nil) (hr.mono (by decide)) pass0 (pv 0) pe_str (fun _ _ => rfl)) pa_nil)))) (pe_lst (pa_cons (pe_tup (pa_cons pe_str (pa_cons pe_str (pa_cons pe_str (pa_cons pe_str pa_nil))))) (pa_cons (pe_lst (pa_cons pe_str (pa_cons pe_str (pa_cons pe_str (pa_cons pe_str pa_nil))))) (pa_cons (pe_tup (pa_cons pe_str (pa_cons pe_str pa_nil))) pa_nil)))) (nomark _)) (pss_one (ps_ret pe_bl)) pss_nil)
 (pss_cons (ps_set (i := 1) sc_fixed_right.nd rfl (by first | exact Or.inl rfl | exact Or.inr rfl) (pe_make T.mkN (ok_Net_init_ T) (hr.mono (by decide)) (by rfl) T.mNet (b_Net_init_ T) .nil pass0 (pa_cons (pe_disp (pps_cons pe_str (pe_tup (pa_cons pe_str (pa_cons pe_str pa_nil))) pps_nil) rfl rfl (by simp) (by decide)) pa_nil)))
 (pss_cons (ps_set (i := 2) sc_fixed_right.nd rfl (by first | exact Or.inl rfl | exact Or.inr rfl) (pe_meth (pv 1) T.cl T.mJoined (ok_Netjoined T) (hr.mono (by decide)) (b_Netjoined T) .nil pass0 (pa_cons pe_str (pa_cons pe_str (pa_cons pe_str pa_nil)))))
 (pss_cons (ps_if (PW.pt (pw_or (pt_cmpR op_ne (pe_callB (call_reprOwnG T.cRe.at_ T.cRe.fn (ok_Net_repr_ T) (b_Net_repr_ T) gu (hr.mono (by decide))) (by rfl) T.b_repr (by decide +kernel) (pa_cons (pv 1) pa_nil)) pe_str (nomark _)) (pw_or1 (pt_cmpR (op_neDK2 (K := K) rfl hr.units) (pe_getOwn (K := K) (E := E0) rfl T.noSeq T.cGet.at_ T.fGet T.cGet.fn ((ok_Net_getitem_ T).raw (b_Net_getitem_ T) .nil) (hr.mono (by decide)) pass0 (pv 2) pe_str (fun _ _ => rfl)) (pe_tup (pa_cons pe_str (pa_cons pe_str pa_nil))) (nomark _))))) (pss_one (ps_ret pe_bl)) pss_nil)
 (pss_one (ps_ret (pe_and (pe_cmpR (op_eqDK (K := K) rfl hr.units) (pe_prop (pv 1) T.cl T.pN (ok_Netnodes T) (hr.mono (by decide)) (b_Netnodes T) .nil pass0 rfl) (pe_tup (pa_cons pe_str (pa_cons pe_str pa_nil))) (nomark _)) (pe_one (pe_cmpR (op_eqDK (K := K) rfl hr.units) (pe_meth (pv 2) T.cl T.mBetween (ok_Netbetween T) (hr.mono (by decide)) (b_Netbetween T) .nil pass0 (pa_cons pe_str (pa_cons pe_str pa_nil))) (pe_lst (pa_cons pe_str (pa_cons pe_str pa_nil))) (nomark _))))))))))), ?_⟩
    refine ⟨rfl, le2, fun t1 h1 => ?_⟩
    generalize e_H1 : upd _ t1 _ = H1
    obtain ⟨s1, f1⟩ := al3 e_H1 h1
    clear e_H1
    (try dsimp only at f1)
    refine ⟨le2, fun t2 h2 => ?_⟩
    generalize e_H2 : upd _ t2 _ = H2
    obtain ⟨s2, f2⟩ := al3 e_H2 h2
    clear e_H2
    (try dsimp only at f2)
    refine ⟨le2, fun t3 h3 => ?_⟩
    generalize e_H3 : upd _ t3 _ = H3
    obtain ⟨s3, f3⟩ := al3 e_H3 h3
    clear e_H3
    (try dsimp only at f3)
    refine ⟨le2, fun t4 h4 => ?_⟩
    generalize e_H4 : upd _ t4 _ = H4
    obtain ⟨s4, f4⟩ := al3 e_H4 h4
    clear e_H4
    (try dsimp only at f4)
    refine ⟨rfl, fun d hd => ?_⟩
    have s5 := Lb.Same.upd (o := .dK (kwV ["r", "p", "q", "s"] [.ref t1, .ref t2, .ref t3, .ref t4])) hd
    refine ⟨d, p4, rfl, ⟨_, upd_same, Paired.cons ⟨rfl, t1, rfl, (s2.trans (s3.trans (s4.trans s5))) _ _ f1⟩ (.cons ⟨rfl, t2, rfl, (s3.trans (s4.trans s5)) _ _ f2⟩ (.cons ⟨rfl, t3, rfl, (s4.trans s5) _ _ f3⟩ (.cons ⟨rfl, t4, rfl, s5 _ _ f4⟩ .nil)))⟩, good4, fun H6 q s6 n0 => ?_⟩
    have S6 := (((s1.trans s2).trans s3).trans s4).trans (s5.trans s6)
    obtain ⟨dx, D, N, T5, R, n⟩ := id n0
    have lNames : (netF D N T5 R).lookup ("names" : Str) = none := nf_not D N T5 R (by decide +kernel) (by decide +kernel) (by decide +kernel) (by decide +kernel)
    refine ⟨_, rfl, q, dx, _, rfl, n.ins, q, p4, rfl, n0, fun t5 ht5 => ?_⟩
    refine ⟨_, rfl, q, dx, _, rfl, n.ins, lNames, q, p4, rfl, n0, fun H7 pa s7 hpa epa => ?_⟩
    refine ⟨_, rfl, q, dx, _, rfl, (n.same s7).ins, q, p4, _, _, rfl, n0.same s7, lk4, fun u hu => ⟨sz, fun L hL => ?_⟩⟩
    rw [pts4] at ht5
    rw [nms4] at epa
    generalize e_H8 : upd _ L _ = H8
    obtain ⟨s8, f8⟩ := al3 e_H8 hL
    clear e_H8
    (try dsimp only at f8)
    refine ⟨le4, fun t6 h6 => ?_⟩
    generalize e_H9 : upd _ t6 _ = H9
    obtain ⟨s9, f9⟩ := al3 e_H9 h6
    clear e_H9
    (try dsimp only at f9)
    refine ⟨sz, fun L2 h7 => ?_⟩
    generalize e_Ha : upd _ L2 _ = Ha
    obtain ⟨sa, fa⟩ := al3 e_Ha h7
    clear e_Ha
    (try dsimp only at fa)
    refine ⟨le2, fun t7 h8 => ?_⟩
    generalize e_Hb : upd _ t7 _ = Hb
    obtain ⟨sb, fb⟩ := al3 e_Hb h8
    clear e_Hb
    (try dsimp only at fb)
    refine ⟨sz, fun L3 h9 => ?_⟩
    generalize e_Hc : upd _ L3 _ = Hc
    obtain ⟨sc, fc⟩ := al3 e_Hc h9
    clear e_Hc
    (try dsimp only at fc)
    have s9c := sa.trans (sb.trans sc)
    have s8c := s9.trans s9c
    have dA : DpAll K Hc [.ref t5, .ref pa, u] [.tuple ((["k", "m", "n", "o"] : List Str).map .str), .list ((["p", "q", "r", "s"] : List Str).map .str), tupD ("n", "o")] :=
      .cons (.tup (SqT.of ((s7.trans (s8.trans s8c)) _ _ ht5)) (dp_strs _)) (.cons (.lst (SqL.of ((s8.trans s8c) _ _ epa)) (dp_strs _)) (.cons (dp_vEn (hu.tk (s8.trans s8c).tk)) .nil))
    have dB : DpAll K Hc [.ref t6, .ref L2, .ref t7] [.tuple ((["k", "m", "n", "o"] : List Str).map .str), .list ((["p", "q", "r", "s"] : List Str).map .str), tupD ("n", "o")] :=
      .cons (.tup (SqT.of (s9c _ _ f9)) (dp_strs ["k", "m", "n", "o"])) (.cons (.lst (SqL.of ((sb.trans sc) _ _ fa)) (dp_strs ["p", "q", "r", "s"])) (.cons (dp_vEn ⟨t7, rfl, sc _ _ fb⟩) .nil))
    refine ⟨_, _, .lst (SqL.of (s8c _ _ f8)) dA, .lst (SqL.of fc) dB, shaped_d4, shaped_d4, ?_⟩
    have ev : PyData.eqv (.list [.tuple ((["k", "m", "n", "o"] : List Str).map .str), .list ((["p", "q", "r", "s"] : List Str).map .str), tupD ("n", "o")]) (.list [.tuple ((["k", "m", "n", "o"] : List Str).map .str), .list ((["p", "q", "r", "s"] : List Str).map .str), tupD ("n", "o")]) = true := eqv_d4
    rw [ev]
    refine ⟨_, rfl, iteF ?_⟩
    have Sc := S6.trans (s7.trans (s8.trans s8c))
    clear dA dB ev s8c s9c f8 f9 fa fb fc
    -- names of eight letters
    refine fun d2 hd2 => ⟨le2, fun t8 ht8 => ?_⟩
    obtain ⟨o1, o2, o3⟩ := one_da (z := "abcdefgh") (e := ("hgfedcba", "a")) hd2 ht8
    refine ⟨o1, [((Sum.inr "abcdefgh" : Key), .ref t8)], rfl, (show 1 ≤ 15 by decide), fun x dxw hx hdx nx => ?_⟩
    refine ⟨x, dxw, d2, pW, rfl, DA.same (l := pW) o3 ((Lb.Same.upd hdx).trans (Lb.Same.upd (by rw [upd_ne nx.symm]; exact hx))), goodW, upd_same, fun Hd Dw Nw Tw Rw sq _ _ nw => ⟨rfl, ?_⟩⟩
    have sd : Same Hc Hd := o2.trans (sq_make hx hdx sq)
    have Sd := Sc.trans sd
    refine ⟨_, rfl, x, dxw, _, rfl, nw.ins, (nfo _ _ _ _).2.1, x, pW, "zyxwvuts", "a", "hgfedcba", rfl, nw.at, by decide +kernel, by decide +kernel, by decide +kernel, by decide +kernel, by decide +kernel, by decide +kernel, fun He y se nM0 => ?_⟩
    have nM : NetAt a.c_Net He y pM := nM0
    obtain ⟨dxm, Dm, Nm, Tm, Rm, nm⟩ := id nM
    have nwe := nw.same se
    refine ⟨_, rfl, x, dxw, _, rfl, nwe.ins, x, pW, rfl, nwe.at, _, rfl, rfl, _, rfl, ?_⟩
    rw [rpW, decide_eq_true rfl]
    refine iteF ⟨_, rfl, y, dxm, _, rfl, nm.ins, y, pM, _, _, rfl, nM, lkM, fun u1 hu1 => ⟨le2, fun t9 ht9 => ?_⟩⟩
    generalize e_Hf : upd _ t9 _ = Hf
    obtain ⟨sf, ff⟩ := al3 e_Hf ht9
    clear e_Hf
    (try dsimp only at ff)
    refine ⟨_, _, dp_vEn (hu1.tk sf.tk), dp_vEn ⟨t9, rfl, ff⟩, shaped_ah, shaped_ah, ?_⟩
    rw [eqv_ah]
    refine ⟨_, rfl, iteF ?_⟩
    have nwf := nwe.same sf
    refine ⟨_, rfl, x, dxw, _, rfl, nwf.ins, x, pW, rfl, nwf.at, fun ta hta => ⟨le2, fun tb htb => ?_⟩⟩
    rw [ptsW] at hta
    generalize e_Hg : upd _ tb _ = Hg
    obtain ⟨sg, fg⟩ := al3 e_Hg htb
    clear e_Hg
    (try dsimp only at fg)
    refine ⟨_, _, .tup (SqT.of (sg _ _ hta)) (dp_strs ["a", "hgfedcba"]), .tup (SqT.of fg) (dp_strs ["a", "hgfedcba"]), shaped_dW, shaped_dW, ?_⟩
    have ev : PyData.eqv (.tuple ((["a", "hgfedcba"] : List Str).map .str)) (.tuple ((["a", "hgfedcba"] : List Str).map .str)) = true := eqv_dW
    rw [ev]
    refine ⟨_, rfl, iteT ?_⟩
    have sfg := sf.trans sg
    have im : ("a" : Str) ∈ nodOf pM ∧ ("hgfedcba" : Str) ∈ nodOf pM := by rw [pM_eq]; decide +kernel
    refine ⟨_, rfl, y, dxm, _, rfl, (nm.same sfg).ins, (nfo _ _ _ _).2.2, y, pM, "a", "hgfedcba", rfl, nM.same sfg, im.1, im.2, fun Hh pb sh hpb epb => ⟨sz, fun Lz hLz => ?_⟩⟩
    rw [besM] at epb
    generalize e_Hi : upd _ Lz _ = Hi
    obtain ⟨si, fi⟩ := al3 e_Hi hLz
    clear e_Hi
    (try dsimp only at fi)
    refine ⟨_, _, .lst (SqL.of (si _ _ epb)) (dp_strs ["abcdefgh", "zyxwvuts"]), .lst (SqL.of fi) (dp_strs ["abcdefgh", "zyxwvuts"]), shaped_dM, shaped_dM, ?_⟩
    have ev2 : PyData.eqv (.list ((["abcdefgh", "zyxwvuts"] : List Str).map .str)) (.list ((["abcdefgh", "zyxwvuts"] : List Str).map .str)) = true := eqv_dM
    rw [ev2]
    exact k _ (Sd.trans (se.trans (sfg.trans (sh.trans si))))
end
end K20

set_option Elab.async false
set_option linter.all false
set_option maxRecDepth 100000
set_option maxHeartbeats 4000000
namespace K20
open PySem L2 Lb
open C8 (pss_cut)
def sp_law (K : PySem.W.Frag) : Sp := fun vs H Q _ => ∃ (a : Addr) (ns : List Int), vs = [.ref a] ∧ SqL K H a (ns.map V.int) ∧ ns.length ≤ 63 ∧ ∀ H', Q (.bl true) H'
def dL : PyData := .list [.int 8, .int 16]
theorem shaped_dL : SeqAt.shaped dL = true := by decide +kernel
theorem eqv_dL : PyData.eqv dL dL = true := by decide +kernel
def dN : PyData := .list ((["p", "q", "r"] : List Str).map .str)
theorem shaped_dN : SeqAt.shaped dN = true := by decide +kernel
theorem eqv_dN : PyData.eqv dN dN = true := by decide +kernel
section
variable {P : Program} {w : World} {K : PySem.W.Frag} {mg : Str → Option Value} {base : Heap} {a : Ad}
theorem ok_law (T : Txt K mg a) : FnG P w K mg base CX0 11 a.f_law a.d_law ["_law_script"] (sp_law K) := by
  refine okG T.F_law sc_law (fun vs H Q E h => ?_) (fun cdv A outer s H vs Q E gu hr h => ?_)
  · obtain ⟨sc, ns, rfl, _⟩ := h
    rfl
  · obtain ⟨sc, ns, rfl, hS, hlen, k⟩ := h
    refine ⟨_, (pss_cons (ps_if (pt_not (pt_val (pe_call0G (ok_fixed_right T) gu (hr.mono (by decide)) (by rfl) T.m_fixed_right T.F_fixed_right.kp (b_fixed_right T) .nil pass0 ))) (pss_one (ps_ret pe_bl)) pss_nil)
 (pss_cons (ps_if (PW.pt (pw_or (pt_cmpR (op_neDK2 (K := K) rfl hr.units) (pe_lst (pa_cons (ClX.pe_cval (pe_glob (v := .ref a.c_Net) rfl T.mNet rfl)) (pa_cons (ClX.pe_cval (pe_glob (v := .ref a.c_Net) rfl T.mNet rfl)) pa_nil))) (pe_lst (pa_cons pe_int (pa_cons pe_int pa_nil))) (nomark _)) (pw_or1 (pt_cmpR (op_ownNe (n := 1) (C := a.c_Net) (K := K) rfl T.cNe T.I.cm T.cEq.at_ T.cEq.fn ((ok_Net_eq_ T).raw (b_Net_eq_ T) .nil) (hr.mono (by decide)) pass0) (pe_cmethKw (pe_glob (v := .ref a.c_Net) rfl T.mNet rfl) T.cR T.cOf (ok_Netof T (by decide +kernel) (by decide) ofB1) (hr.mono (by decide)) pass0 (pk_cons (pe_tup (pa_cons pe_str (pa_cons pe_str pa_nil))) pk_nil)) (pe_make T.mkN (ok_Net_init_ T) (hr.mono (by decide)) (by rfl) T.mNet (b_Net_init_ T) .nil pass0 (pa_cons (pe_disp (pps_cons pe_str (pe_tup (pa_cons pe_str (pa_cons pe_str pa_nil))) pps_nil) rfl rfl (by simp) (by decide)) pa_nil)) (nomark _))))) (pss_one (ps_ret pe_bl)) pss_nil)
 (pss_cons (ps_set (i := 1) sc_law.nd rfl (by first | exact Or.inl rfl | exact Or.inr rfl) (pe_cmethKw (pe_glob (v := .ref a.c_Net) rfl T.mNet rfl) T.cR T.cOf (ok_Netof T (by decide +kernel) (by decide) ofB3) (hr.mono (by decide)) pass0 (pk_cons (pe_tup (pa_cons pe_str (pa_cons pe_str pa_nil))) (pk_cons (pe_tup (pa_cons pe_str (pa_cons pe_str pa_nil))) (pk_cons (pe_tup (pa_cons pe_str (pa_cons pe_str pa_nil))) pk_nil)))))
 (pss_cons (ps_if (PW.pt (pw_or (pt_cmpR op_ne (pe_callB (call_reprOwnG T.cRe.at_ T.cRe.fn (ok_Net_repr_ T) (b_Net_repr_ T) gu (hr.mono (by decide))) (by rfl) T.b_repr (by decide +kernel) (pa_cons (pv 1) pa_nil)) pe_str (nomark _)) (pw_or1 (pt_cmpR (op_neDK2 (K := K) rfl hr.units) (pe_meth0 (pv 1) T.cl T.mNames (ok_Netnames T) (hr.mono (by decide)) (b_Netnames T) .nil pass0) (pe_lst (pa_cons pe_str (pa_cons pe_str (pa_cons pe_str pa_nil)))) (nomark _))))) (pss_one (ps_ret pe_bl)) pss_nil)
 (pss_one (ps_ret (pe_callB (cr_allK (K := K) rfl rfl) (by rfl) T.b_all (by decide +kernel) (pa_cons (pe_lc (own := [("_law_k", 2)]) (by rfl) sc_law.nd (pi_range1 rfl T.b_range (pa_cons (pe_callB (call_max2 rfl) (by rfl) T.b_max (by decide +kernel) (pa_cons pe_int (pa_cons (pe_callB (call_min2 rfl) (by rfl) T.b_min (by decide +kernel) (pa_cons pe_int (pa_cons (pe_callB (call_lenK (K := K) rfl) (by rfl) T.b_len (by decide +kernel) (pa_cons (pv 0) pa_nil)) pa_nil))) pa_nil))) pa_nil)) (blkOk_by (own := [("_law_k", 2)]) (N := ["_law_script", "_law_three", "_law_k"]) (sc := defScope s_law) (by decide +kernel)) (fun _ _ _ _ _ => (pg_name (i := 2) sc_law.nd rfl (by first | exact Or.inl rfl | exact Or.inr rfl))) (fun _ _ _ _ _ => pts_nil) (fun _ _ _ _ _ => (pe_callG (ok_right T) gu (hr.mono (by decide)) (by rfl) T.m_right T.F_right.kp (b_right T) .nil pass0 (pa_cons (pe_call (ok_pot T) (hr.mono (by decide)) (by rfl) T.m_pot T.F_pot.kp (b_pot T) .nil pass0 (pa_cons (pv 0) (pa_cons (pv 2) pa_nil))) pa_nil)))) pa_nil)))))))), ?_⟩
    refine ⟨rfl, fun H1 s1 => ⟨_, rfl, iteF ?_⟩⟩
    obtain ⟨u8, k8⟩ := T.vNODES
    obtain ⟨u16, k16⟩ := T.vPIPES
    refine ⟨a.c_Net, _, _, _, rfl, T.cR, k8, a.c_Net, _, _, _, rfl, T.cR, k16, sz, fun L hL => ?_⟩
    generalize e_H2 : upd _ L _ = H2
    obtain ⟨s2, f2⟩ := al3 e_H2 hL
    clear e_H2
    (try dsimp only at f2)
    refine ⟨sz, fun W2 hW2 => ?_⟩
    generalize e_H3 : upd _ W2 _ = H3
    obtain ⟨s3, f3⟩ := al3 e_H3 hW2
    clear e_H3
    (try dsimp only at f3)
    refine ⟨_, _, .lst (SqL.of (s3 _ _ f2)) (.cons (.int 8) (.cons (.int 16) .nil)), .lst (SqL.of f3) (.cons (.int 8) (.cons (.int 16) .nil)), shaped_dL, shaped_dL, ?_⟩
    have ev : PyData.eqv (.list [.int 8, .int 16]) (.list [.int 8, .int 16]) = true := eqv_dL
    rw [ev]
    refine ⟨_, rfl, iteF ?_⟩
    refine ⟨rfl, le2, fun t1 h1 => ?_⟩
    generalize e_H4 : upd _ t1 _ = H4
    obtain ⟨s4, f4⟩ := al3 e_H4 h1
    clear e_H4
    (try dsimp only at f4)
    refine ⟨rfl, fun d hd => ?_⟩
    have s5 := Lb.Same.upd (o := .dK (kwV ["p"] [.ref t1])) hd
    refine ⟨d, p1, rfl, ⟨_, upd_same, Paired.cons ⟨rfl, t1, rfl, s5 _ _ f4⟩ .nil⟩, good1, fun H6 q s6 nq => ?_⟩
    refine fun d2 hd2 => ⟨le2, fun t8 ht8 => ?_⟩
    obtain ⟨o1, o2, o3⟩ := one_da (z := "p") (e := ("z", "a")) hd2 ht8
    refine ⟨o1, [((Sum.inr "p" : Key), .ref t8)], rfl, (show 1 ≤ 15 by decide), fun x dxw hx hdx nx => ?_⟩
    refine ⟨x, dxw, d2, p1, rfl, DA.same (l := p1) o3 ((Lb.Same.upd hdx).trans (Lb.Same.upd (by rw [upd_ne nx.symm]; exact hx))), good1, upd_same, fun H7 Dw Nw Tw Rw sq _ _ nw => ⟨rfl, ?_⟩⟩
    have s7 : Same H6 H7 := o2.trans (sq_make hx hdx sq)
    have nq7 := nq.same s7
    obtain ⟨dq, fq, iq⟩ := nq7.ins
    refine ⟨q, dq, _, _, rfl, iq, T.I.ty T.cl nw.ins, Inst.nSelf, q, p1, _, rfl, nq7, .inl ⟨x, p1, rfl, nw.at, _, rfl, ?_⟩⟩
    rw [s11]
    refine ⟨_, rfl, iteF ?_⟩
    have S7 := s1.trans (s2.trans (s3.trans (s4.trans (s5.trans (s6.trans s7)))))
    clear s1 s2 s3 s4 s5 s6 s7 f2 f3 f4 ev o1 o2 o3 nq nq7 iq nw sq
    -- three
    refine ⟨rfl, le2, fun t1 h1 => ?_⟩
    generalize e_H8 : upd _ t1 _ = H8
    obtain ⟨s8, f8⟩ := al3 e_H8 h1
    clear e_H8
    (try dsimp only at f8)
    refine ⟨le2, fun t2 h2 => ?_⟩
    generalize e_H9 : upd _ t2 _ = H9
    obtain ⟨s9, f9⟩ := al3 e_H9 h2
    clear e_H9
    (try dsimp only at f9)
    refine ⟨le2, fun t3 h3 => ?_⟩
    generalize e_Ha : upd _ t3 _ = Ha
    obtain ⟨sa, fa⟩ := al3 e_Ha h3
    clear e_Ha
    (try dsimp only at fa)
    refine ⟨rfl, fun d3 hd3 => ?_⟩
    have sb := Lb.Same.upd (o := .dK (kwV ["r", "p", "q"] [.ref t1, .ref t2, .ref t3])) hd3
    refine ⟨d3, p3, rfl, ⟨_, upd_same, Paired.cons ⟨rfl, t1, rfl, (s9.trans (sa.trans sb)) _ _ f8⟩ (.cons ⟨rfl, t2, rfl, (sa.trans sb) _ _ f9⟩ (.cons ⟨rfl, t3, rfl, sb _ _ fa⟩ .nil))⟩, good3, fun Hc y sc nY => ?_⟩
    obtain ⟨dy, Dy, Ny, Ty, Ry, ny⟩ := id nY
    refine ⟨_, rfl, y, dy, _, rfl, ny.ins, y, p3, rfl, nY, _, rfl, rfl, _, rfl, ?_⟩
    rw [rp3, decide_eq_true rfl]
    refine iteF ⟨_, rfl, y, dy, _, rfl, ny.ins, (nfo _ _ _ _).1, y, p3, rfl, nY, fun Hd pa sd hpa epa => ⟨sz, fun L4 hL4 => ?_⟩⟩
    rw [nms3] at epa
    generalize e_He : upd _ L4 _ = He
    obtain ⟨se, fe⟩ := al3 e_He hL4
    clear e_He
    (try dsimp only at fe)
    refine ⟨_, _, .lst (SqL.of (se _ _ epa)) (dp_strs ["p", "q", "r"]), .lst (SqL.of fe) (dp_strs ["p", "q", "r"]), shaped_dN, shaped_dN, ?_⟩
    have ev : PyData.eqv (.list ((["p", "q", "r"] : List Str).map .str)) (.list ((["p", "q", "r"] : List Str).map .str)) = true := eqv_dN
    rw [ev]
    refine ⟨_, rfl, iteF ?_⟩
    have hS := sqL_same (S7.trans (s8.trans (s9.trans (sa.trans (sb.trans (sc.trans (sd.trans se))))))) hS
    clear S7 s8 s9 sa sb sc sd se f8 f9 fa fe ev nY ny epa
    refine ⟨_, rfl, _, _, rfl, .inl hS, _, _, rfl, _, _, rfl, ?_⟩
    have hn : ∃ n : Nat, n ≤ 6 ∧ (if (if (((ns.map V.int).length : Nat) : Int) < 6 then (((ns.map V.int).length : Nat) : Int) else 6) > 1 then (if (((ns.map V.int).length : Nat) : Int) < 6 then (((ns.map V.int).length : Nat) : Int) else 6) else 1) = (n : Int) := by
      rw [List.length_map]
      refine ⟨(if (if ns.length < 6 then ns.length else 6) > 1 then (if ns.length < 6 then ns.length else 6) else 1), ?_, ?_⟩
      · split <;> (try split) <;> omega
      · split <;> split <;> (try split) <;> (try split) <;> omega
    obtain ⟨n, hn4, en⟩ := hn
    rw [en]
    refine ⟨_, rfl, (by omega), (by omega), fun D hD => ?_⟩
    refine lc_range (lo := 0) (n := n) (fun i H' => Same He H' ∧ H' D = some (.lst ((List.replicate i true).map V.bl))) ⟨Lb.Same.upd hD, upd_same⟩ ?_ ?_
    · rintro i H' hi ⟨s1, e1⟩
      refine ⟨rfl, ?_⟩
      refine ⟨_, rfl, _, rfl, sc, ns, i, by simp, sqL_same s1 hS, hlen, by omega, fun H2 p s2 hp pot => ?_⟩
      refine ⟨p, rfl, pot, fun H3 m3 => ?_⟩
      have nD : D ≠ p := fun q => by
        rw [← q, e1] at hp
        cases hp
      have keep : ∀ b o, H' b = some o → H3 b = some o := fun b o e => m3.keep b o (ne_of_none e hp) (s2 _ _ e)
      refine ⟨_, keep _ _ e1, ?_, ?_, ?_⟩
      · rw [List.length_map, List.length_replicate]
        exact szlt (by omega)
      · exact Lb.Same.updl (s1.trans keep) hD
      · rw [upd_same, List.replicate_succ', List.map_append]
        rfl
    · rintro H' ⟨s1, e1⟩
      refine ⟨D, _, rfl, SqL.of e1, ?_⟩
      rw [all_replicate_true]
      exact k _
end
end K20

set_option Elab.async false
set_option linter.all false
set_option maxRecDepth 100000
namespace K20
open PySem L2 Lb
set_option maxHeartbeats 0 in
theorem all_mk {l : PySem.W.OpenLaw} {w : World} {K : PySem.W.Frag} {h : Heap} {mg : Str → Option Value} (X : K.In h) (G : h.Ns mainGlobals mg) {fa : Addr} (hfa : mg "law" = some (.ref fa))
    {c_Net : Addr}
    {p_nodes : Addr}
    {p_of : Addr}
    {f_is_name : Addr} {od_0 an_0 : Option Addr} {sl_0 : Array (Option Value)} {oc_0 kV_0 dc_0 pm_0 cd_0 ct_0 : Value}
    {f_are_ends : Addr} {od_1 an_1 : Option Addr} {sl_1 : Array (Option Value)} {oc_1 kV_1 dc_1 pm_1 cd_1 ct_1 : Value}
    {f_sorted_pipes : Addr} {od_2 an_2 : Option Addr} {sl_2 : Array (Option Value)} {oc_2 kV_2 dc_2 pm_2 cd_2 ct_2 : Value}
    {f_sorted_nodes : Addr} {od_3 an_3 : Option Addr} {sl_3 : Array (Option Value)} {oc_3 kV_3 dc_3 pm_3 cd_3 ct_3 : Value}
    {f_joined_nodes : Addr} {od_4 an_4 : Option Addr} {sl_4 : Array (Option Value)} {oc_4 kV_4 dc_4 pm_4 cd_4 ct_4 : Value}
    {f_reached : Addr} {od_5 an_5 : Option Addr} {sl_5 : Array (Option Value)} {oc_5 kV_5 dc_5 pm_5 cd_5 ct_5 : Value}
    {f_Net_init_ : Addr} {od_6 an_6 : Option Addr} {sl_6 : Array (Option Value)} {oc_6 kV_6 dc_6 pm_6 cd_6 ct_6 : Value}
    {f_Netof : Addr} {od_7 an_7 : Option Addr} {sl_7 : Array (Option Value)} {oc_7 kV_7 dc_7 pm_7 cd_7 ct_7 : Value}
    {rest_7 : List Value}
    {f_Netnodes : Addr} {od_8 an_8 : Option Addr} {sl_8 : Array (Option Value)} {oc_8 kV_8 dc_8 pm_8 cd_8 ct_8 : Value}
    {rest_8 : List Value}
    {f_Netnames : Addr} {od_9 an_9 : Option Addr} {sl_9 : Array (Option Value)} {oc_9 kV_9 dc_9 pm_9 cd_9 ct_9 : Value}
    {f_Net_iter_ : Addr} {od_10 an_10 : Option Addr} {sl_10 : Array (Option Value)} {oc_10 kV_10 dc_10 pm_10 cd_10 ct_10 : Value}
    {f_Net_len_ : Addr} {od_11 an_11 : Option Addr} {sl_11 : Array (Option Value)} {oc_11 kV_11 dc_11 pm_11 cd_11 ct_11 : Value}
    {f_Net_contains_ : Addr} {od_12 an_12 : Option Addr} {sl_12 : Array (Option Value)} {oc_12 kV_12 dc_12 pm_12 cd_12 ct_12 : Value}
    {f_Net_getitem_ : Addr} {od_13 an_13 : Option Addr} {sl_13 : Array (Option Value)} {oc_13 kV_13 dc_13 pm_13 cd_13 ct_13 : Value}
    {f_Net_eq_ : Addr} {od_14 an_14 : Option Addr} {sl_14 : Array (Option Value)} {oc_14 kV_14 dc_14 pm_14 cd_14 ct_14 : Value}
    {f_Net_repr_ : Addr} {od_15 an_15 : Option Addr} {sl_15 : Array (Option Value)} {oc_15 kV_15 dc_15 pm_15 cd_15 ct_15 : Value}
    {f_Net_check_node : Addr} {od_16 an_16 : Option Addr} {sl_16 : Array (Option Value)} {oc_16 kV_16 dc_16 pm_16 cd_16 ct_16 : Value}
    {f_Netneighbours : Addr} {od_17 an_17 : Option Addr} {sl_17 : Array (Option Value)} {oc_17 kV_17 dc_17 pm_17 cd_17 ct_17 : Value}
    {f_Netbetween : Addr} {od_18 an_18 : Option Addr} {sl_18 : Array (Option Value)} {oc_18 kV_18 dc_18 pm_18 cd_18 ct_18 : Value}
    {f_Netjoined : Addr} {od_19 an_19 : Option Addr} {sl_19 : Array (Option Value)} {oc_19 kV_19 dc_19 pm_19 cd_19 ct_19 : Value}
    {f_pot : Addr} {od_20 an_20 : Option Addr} {sl_20 : Array (Option Value)} {oc_20 kV_20 dc_20 pm_20 cd_20 ct_20 : Value}
    {f_draw : Addr} {od_21 an_21 : Option Addr} {sl_21 : Array (Option Value)} {oc_21 kV_21 dc_21 pm_21 cd_21 ct_21 : Value}
    {f_pick : Addr} {od_22 an_22 : Option Addr} {sl_22 : Array (Option Value)} {oc_22 kV_22 dc_22 pm_22 cd_22 ct_22 : Value}
    {f_mixed : Addr} {od_23 an_23 : Option Addr} {sl_23 : Array (Option Value)} {oc_23 kV_23 dc_23 pm_23 cd_23 ct_23 : Value}
    {f_names : Addr} {od_24 an_24 : Option Addr} {sl_24 : Array (Option Value)} {oc_24 kV_24 dc_24 pm_24 cd_24 ct_24 : Value}
    {f_net : Addr} {od_25 an_25 : Option Addr} {sl_25 : Array (Option Value)} {oc_25 kV_25 dc_25 pm_25 cd_25 ct_25 : Value}
    {f_points : Addr} {od_26 an_26 : Option Addr} {sl_26 : Array (Option Value)} {oc_26 kV_26 dc_26 pm_26 cd_26 ct_26 : Value}
    {f_walked_right : Addr} {od_27 an_27 : Option Addr} {sl_27 : Array (Option Value)} {oc_27 kV_27 dc_27 pm_27 cd_27 ct_27 : Value}
    {f_shown_right : Addr} {od_28 an_28 : Option Addr} {sl_28 : Array (Option Value)} {oc_28 kV_28 dc_28 pm_28 cd_28 ct_28 : Value}
    {f_near : Addr} {od_29 an_29 : Option Addr} {sl_29 : Array (Option Value)} {oc_29 kV_29 dc_29 pm_29 cd_29 ct_29 : Value}
    {f_beside : Addr} {od_30 an_30 : Option Addr} {sl_30 : Array (Option Value)} {oc_30 kV_30 dc_30 pm_30 cd_30 ct_30 : Value}
    {f_asked_right : Addr} {od_31 an_31 : Option Addr} {sl_31 : Array (Option Value)} {oc_31 kV_31 dc_31 pm_31 cd_31 ct_31 : Value}
    {f_in_right : Addr} {od_32 an_32 : Option Addr} {sl_32 : Array (Option Value)} {oc_32 kV_32 dc_32 pm_32 cd_32 ct_32 : Value}
    {f_bent : Addr} {od_33 an_33 : Option Addr} {sl_33 : Array (Option Value)} {oc_33 kV_33 dc_33 pm_33 cd_33 ct_33 : Value}
    {f_equal_right : Addr} {od_34 an_34 : Option Addr} {sl_34 : Array (Option Value)} {oc_34 kV_34 dc_34 pm_34 cd_34 ct_34 : Value}
    {f_right : Addr} {od_35 an_35 : Option Addr} {sl_35 : Array (Option Value)} {oc_35 kV_35 dc_35 pm_35 cd_35 ct_35 : Value}
    {f_fixed_right : Addr} {od_36 an_36 : Option Addr} {sl_36 : Array (Option Value)} {oc_36 kV_36 dc_36 pm_36 cd_36 ct_36 : Value}
    {f_law : Addr} {od_37 an_37 : Option Addr} {sl_37 : Array (Option Value)} {oc_37 kV_37 dc_37 pm_37 cd_37 ct_37 : Value}
    {tkLet : Tok}
    {tkLong : Tok}
    {tkNODES : Tok}
    {tvNODES : Tok}
    {tkPIPES : Tok}
    {tvPIPES : Tok}
    (aC_Net : PySem.W.nsIn K mainGlobals "Net" = some (some (.ref c_Net)))
    (a_is_name : PySem.W.nsIn K mainGlobals "is_name" = some (some (.ref f_is_name)))
    (l_is_name : K.lookup f_is_name = some ⟨oc_0, od_0, .func (PySem.W.fnOf "is_name" "is_name" (defArgs s_is_name) (defBody s_is_name) (defScope s_is_name) .none kV_0 dc_0 pm_0 an_0 cd_0 ct_0), sl_0⟩)
    (k1_is_name : PySem.W.codeIn K cd_0 "is_name" = true)
    (k2_is_name : PySem.W.keepIn K (.ref f_is_name) = true)
    (a_are_ends : PySem.W.nsIn K mainGlobals "_are_ends" = some (some (.ref f_are_ends)))
    (l_are_ends : K.lookup f_are_ends = some ⟨oc_1, od_1, .func (PySem.W.fnOf "_are_ends" "_are_ends" (defArgs s_are_ends) (defBody s_are_ends) (defScope s_are_ends) .none kV_1 dc_1 pm_1 an_1 cd_1 ct_1), sl_1⟩)
    (k1_are_ends : PySem.W.codeIn K cd_1 "_are_ends" = true)
    (k2_are_ends : PySem.W.keepIn K (.ref f_are_ends) = true)
    (a_sorted_pipes : PySem.W.nsIn K mainGlobals "_sorted_pipes" = some (some (.ref f_sorted_pipes)))
    (l_sorted_pipes : K.lookup f_sorted_pipes = some ⟨oc_2, od_2, .func (PySem.W.fnOf "_sorted_pipes" "_sorted_pipes" (defArgs s_sorted_pipes) (defBody s_sorted_pipes) (defScope s_sorted_pipes) .none kV_2 dc_2 pm_2 an_2 cd_2 ct_2), sl_2⟩)
    (k1_sorted_pipes : PySem.W.codeIn K cd_2 "_sorted_pipes" = true)
    (k2_sorted_pipes : PySem.W.keepIn K (.ref f_sorted_pipes) = true)
    (a_sorted_nodes : PySem.W.nsIn K mainGlobals "_sorted_nodes" = some (some (.ref f_sorted_nodes)))
    (l_sorted_nodes : K.lookup f_sorted_nodes = some ⟨oc_3, od_3, .func (PySem.W.fnOf "_sorted_nodes" "_sorted_nodes" (defArgs s_sorted_nodes) (defBody s_sorted_nodes) (defScope s_sorted_nodes) .none kV_3 dc_3 pm_3 an_3 cd_3 ct_3), sl_3⟩)
    (k1_sorted_nodes : PySem.W.codeIn K cd_3 "_sorted_nodes" = true)
    (k2_sorted_nodes : PySem.W.keepIn K (.ref f_sorted_nodes) = true)
    (a_joined_nodes : PySem.W.nsIn K mainGlobals "_joined_nodes" = some (some (.ref f_joined_nodes)))
    (l_joined_nodes : K.lookup f_joined_nodes = some ⟨oc_4, od_4, .func (PySem.W.fnOf "_joined_nodes" "_joined_nodes" (defArgs s_joined_nodes) (defBody s_joined_nodes) (defScope s_joined_nodes) .none kV_4 dc_4 pm_4 an_4 cd_4 ct_4), sl_4⟩)
    (k1_joined_nodes : PySem.W.codeIn K cd_4 "_joined_nodes" = true)
    (k2_joined_nodes : PySem.W.keepIn K (.ref f_joined_nodes) = true)
    (a_reached : PySem.W.nsIn K mainGlobals "_reached" = some (some (.ref f_reached)))
    (l_reached : K.lookup f_reached = some ⟨oc_5, od_5, .func (PySem.W.fnOf "_reached" "_reached" (defArgs s_reached) (defBody s_reached) (defScope s_reached) .none kV_5 dc_5 pm_5 an_5 cd_5 ct_5), sl_5⟩)
    (k1_reached : PySem.W.codeIn K cd_5 "_reached" = true)
    (k2_reached : PySem.W.keepIn K (.ref f_reached) = true)
    (a_Net_init_ : PySem.W.findIn K (.ref c_Net) "__init__" = some (some (.ref f_Net_init_)))
    (i_Net_init_ : PySem.W.isFn K (.ref f_Net_init_) = true)
    (l_Net_init_ : K.lookup f_Net_init_ = some ⟨oc_6, od_6, .func (PySem.W.fnOf "__init__" "Net.__init__" (defArgs s_Net_init_) (defBody s_Net_init_) (defScope s_Net_init_) .none kV_6 dc_6 pm_6 an_6 cd_6 ct_6), sl_6⟩)
    (k1_Net_init_ : PySem.W.codeIn K cd_6 "Net.__init__" = true)
    (k2_Net_init_ : PySem.W.keepIn K (.ref f_Net_init_) = true)
    (pa_Netof : PySem.W.findCls K (.ref c_Net) (.type "type") "of" = some (.get (.builtin "classmethod.__get__") (.ref p_of) .none (.ref c_Net)))
    (pr_Netof : PySem.W.recIn K p_of "classmethod" = some (.ref f_Netof :: rest_7))
    (pf_Netof : PySem.W.fnIn K f_Netof = true)
    (l_Netof : K.lookup f_Netof = some ⟨oc_7, od_7, .func (PySem.W.fnOf "of" "Net.of" (defArgs s_Netof) (defBody s_Netof) (defScope s_Netof) .none kV_7 dc_7 pm_7 an_7 cd_7 ct_7), sl_7⟩)
    (k1_Netof : PySem.W.codeIn K cd_7 "Net.of" = true)
    (k2_Netof : PySem.W.keepIn K (.ref f_Netof) = true)
    (pa_Netnodes : PySem.W.findIn K (.ref c_Net) "nodes" = some (some (.ref p_nodes)))
    (pg_Netnodes : PySem.W.specialIn K (.ref p_nodes) "__get__" = some (some (.builtin "property.__get__")))
    (pt_Netnodes : PySem.W.takesIn K (.ref p_nodes) = some true)
    (pr_Netnodes : PySem.W.recIn K p_nodes "property" = some (.ref f_Netnodes :: rest_8))
    (l_Netnodes : K.lookup f_Netnodes = some ⟨oc_8, od_8, .func (PySem.W.fnOf "nodes" "Net.nodes" (defArgs s_Netnodes) (defBody s_Netnodes) (defScope s_Netnodes) .none kV_8 dc_8 pm_8 an_8 cd_8 ct_8), sl_8⟩)
    (k1_Netnodes : PySem.W.codeIn K cd_8 "Net.nodes" = true)
    (k2_Netnodes : PySem.W.keepIn K (.ref f_Netnodes) = true)
    (a_Netnames : PySem.W.findIn K (.ref c_Net) "names" = some (some (.ref f_Netnames)))
    (i_Netnames : PySem.W.isFn K (.ref f_Netnames) = true)
    (l_Netnames : K.lookup f_Netnames = some ⟨oc_9, od_9, .func (PySem.W.fnOf "names" "Net.names" (defArgs s_Netnames) (defBody s_Netnames) (defScope s_Netnames) .none kV_9 dc_9 pm_9 an_9 cd_9 ct_9), sl_9⟩)
    (k1_Netnames : PySem.W.codeIn K cd_9 "Net.names" = true)
    (k2_Netnames : PySem.W.keepIn K (.ref f_Netnames) = true)
    (a_Net_iter_ : PySem.W.findIn K (.ref c_Net) "__iter__" = some (some (.ref f_Net_iter_)))
    (i_Net_iter_ : PySem.W.isFn K (.ref f_Net_iter_) = true)
    (l_Net_iter_ : K.lookup f_Net_iter_ = some ⟨oc_10, od_10, .func (PySem.W.fnOf "__iter__" "Net.__iter__" (defArgs s_Net_iter_) (defBody s_Net_iter_) (defScope s_Net_iter_) .none kV_10 dc_10 pm_10 an_10 cd_10 ct_10), sl_10⟩)
    (k1_Net_iter_ : PySem.W.codeIn K cd_10 "Net.__iter__" = true)
    (k2_Net_iter_ : PySem.W.keepIn K (.ref f_Net_iter_) = true)
    (a_Net_len_ : PySem.W.findIn K (.ref c_Net) "__len__" = some (some (.ref f_Net_len_)))
    (i_Net_len_ : PySem.W.isFn K (.ref f_Net_len_) = true)
    (l_Net_len_ : K.lookup f_Net_len_ = some ⟨oc_11, od_11, .func (PySem.W.fnOf "__len__" "Net.__len__" (defArgs s_Net_len_) (defBody s_Net_len_) (defScope s_Net_len_) .none kV_11 dc_11 pm_11 an_11 cd_11 ct_11), sl_11⟩)
    (k1_Net_len_ : PySem.W.codeIn K cd_11 "Net.__len__" = true)
    (k2_Net_len_ : PySem.W.keepIn K (.ref f_Net_len_) = true)
    (a_Net_contains_ : PySem.W.findIn K (.ref c_Net) "__contains__" = some (some (.ref f_Net_contains_)))
    (i_Net_contains_ : PySem.W.isFn K (.ref f_Net_contains_) = true)
    (l_Net_contains_ : K.lookup f_Net_contains_ = some ⟨oc_12, od_12, .func (PySem.W.fnOf "__contains__" "Net.__contains__" (defArgs s_Net_contains_) (defBody s_Net_contains_) (defScope s_Net_contains_) .none kV_12 dc_12 pm_12 an_12 cd_12 ct_12), sl_12⟩)
    (k1_Net_contains_ : PySem.W.codeIn K cd_12 "Net.__contains__" = true)
    (k2_Net_contains_ : PySem.W.keepIn K (.ref f_Net_contains_) = true)
    (a_Net_getitem_ : PySem.W.findIn K (.ref c_Net) "__getitem__" = some (some (.ref f_Net_getitem_)))
    (i_Net_getitem_ : PySem.W.isFn K (.ref f_Net_getitem_) = true)
    (l_Net_getitem_ : K.lookup f_Net_getitem_ = some ⟨oc_13, od_13, .func (PySem.W.fnOf "__getitem__" "Net.__getitem__" (defArgs s_Net_getitem_) (defBody s_Net_getitem_) (defScope s_Net_getitem_) .none kV_13 dc_13 pm_13 an_13 cd_13 ct_13), sl_13⟩)
    (k1_Net_getitem_ : PySem.W.codeIn K cd_13 "Net.__getitem__" = true)
    (k2_Net_getitem_ : PySem.W.keepIn K (.ref f_Net_getitem_) = true)
    (a_Net_eq_ : PySem.W.findIn K (.ref c_Net) "__eq__" = some (some (.ref f_Net_eq_)))
    (i_Net_eq_ : PySem.W.isFn K (.ref f_Net_eq_) = true)
    (l_Net_eq_ : K.lookup f_Net_eq_ = some ⟨oc_14, od_14, .func (PySem.W.fnOf "__eq__" "Net.__eq__" (defArgs s_Net_eq_) (defBody s_Net_eq_) (defScope s_Net_eq_) .none kV_14 dc_14 pm_14 an_14 cd_14 ct_14), sl_14⟩)
    (k1_Net_eq_ : PySem.W.codeIn K cd_14 "Net.__eq__" = true)
    (k2_Net_eq_ : PySem.W.keepIn K (.ref f_Net_eq_) = true)
    (a_Net_repr_ : PySem.W.findIn K (.ref c_Net) "__repr__" = some (some (.ref f_Net_repr_)))
    (i_Net_repr_ : PySem.W.isFn K (.ref f_Net_repr_) = true)
    (l_Net_repr_ : K.lookup f_Net_repr_ = some ⟨oc_15, od_15, .func (PySem.W.fnOf "__repr__" "Net.__repr__" (defArgs s_Net_repr_) (defBody s_Net_repr_) (defScope s_Net_repr_) .none kV_15 dc_15 pm_15 an_15 cd_15 ct_15), sl_15⟩)
    (k1_Net_repr_ : PySem.W.codeIn K cd_15 "Net.__repr__" = true)
    (k2_Net_repr_ : PySem.W.keepIn K (.ref f_Net_repr_) = true)
    (a_Net_check_node : PySem.W.findIn K (.ref c_Net) "_check_node" = some (some (.ref f_Net_check_node)))
    (i_Net_check_node : PySem.W.isFn K (.ref f_Net_check_node) = true)
    (l_Net_check_node : K.lookup f_Net_check_node = some ⟨oc_16, od_16, .func (PySem.W.fnOf "_check_node" "Net._check_node" (defArgs s_Net_check_node) (defBody s_Net_check_node) (defScope s_Net_check_node) .none kV_16 dc_16 pm_16 an_16 cd_16 ct_16), sl_16⟩)
    (k1_Net_check_node : PySem.W.codeIn K cd_16 "Net._check_node" = true)
    (k2_Net_check_node : PySem.W.keepIn K (.ref f_Net_check_node) = true)
    (a_Netneighbours : PySem.W.findIn K (.ref c_Net) "neighbours" = some (some (.ref f_Netneighbours)))
    (i_Netneighbours : PySem.W.isFn K (.ref f_Netneighbours) = true)
    (l_Netneighbours : K.lookup f_Netneighbours = some ⟨oc_17, od_17, .func (PySem.W.fnOf "neighbours" "Net.neighbours" (defArgs s_Netneighbours) (defBody s_Netneighbours) (defScope s_Netneighbours) .none kV_17 dc_17 pm_17 an_17 cd_17 ct_17), sl_17⟩)
    (k1_Netneighbours : PySem.W.codeIn K cd_17 "Net.neighbours" = true)
    (k2_Netneighbours : PySem.W.keepIn K (.ref f_Netneighbours) = true)
    (a_Netbetween : PySem.W.findIn K (.ref c_Net) "between" = some (some (.ref f_Netbetween)))
    (i_Netbetween : PySem.W.isFn K (.ref f_Netbetween) = true)
    (l_Netbetween : K.lookup f_Netbetween = some ⟨oc_18, od_18, .func (PySem.W.fnOf "between" "Net.between" (defArgs s_Netbetween) (defBody s_Netbetween) (defScope s_Netbetween) .none kV_18 dc_18 pm_18 an_18 cd_18 ct_18), sl_18⟩)
    (k1_Netbetween : PySem.W.codeIn K cd_18 "Net.between" = true)
    (k2_Netbetween : PySem.W.keepIn K (.ref f_Netbetween) = true)
    (a_Netjoined : PySem.W.findIn K (.ref c_Net) "joined" = some (some (.ref f_Netjoined)))
    (i_Netjoined : PySem.W.isFn K (.ref f_Netjoined) = true)
    (l_Netjoined : K.lookup f_Netjoined = some ⟨oc_19, od_19, .func (PySem.W.fnOf "joined" "Net.joined" (defArgs s_Netjoined) (defBody s_Netjoined) (defScope s_Netjoined) .none kV_19 dc_19 pm_19 an_19 cd_19 ct_19), sl_19⟩)
    (k1_Netjoined : PySem.W.codeIn K cd_19 "Net.joined" = true)
    (k2_Netjoined : PySem.W.keepIn K (.ref f_Netjoined) = true)
    (a_pot : PySem.W.nsIn K mainGlobals "_law_pot" = some (some (.ref f_pot)))
    (l_pot : K.lookup f_pot = some ⟨oc_20, od_20, .func (PySem.W.fnOf "_law_pot" "_law_pot" (defArgs s_pot) (defBody s_pot) (defScope s_pot) .none kV_20 dc_20 pm_20 an_20 cd_20 ct_20), sl_20⟩)
    (k1_pot : PySem.W.codeIn K cd_20 "_law_pot" = true)
    (k2_pot : PySem.W.keepIn K (.ref f_pot) = true)
    (a_draw : PySem.W.nsIn K mainGlobals "_law_draw" = some (some (.ref f_draw)))
    (l_draw : K.lookup f_draw = some ⟨oc_21, od_21, .func (PySem.W.fnOf "_law_draw" "_law_draw" (defArgs s_draw) (defBody s_draw) (defScope s_draw) .none kV_21 dc_21 pm_21 an_21 cd_21 ct_21), sl_21⟩)
    (k1_draw : PySem.W.codeIn K cd_21 "_law_draw" = true)
    (k2_draw : PySem.W.keepIn K (.ref f_draw) = true)
    (a_pick : PySem.W.nsIn K mainGlobals "_law_pick" = some (some (.ref f_pick)))
    (l_pick : K.lookup f_pick = some ⟨oc_22, od_22, .func (PySem.W.fnOf "_law_pick" "_law_pick" (defArgs s_pick) (defBody s_pick) (defScope s_pick) .none kV_22 dc_22 pm_22 an_22 cd_22 ct_22), sl_22⟩)
    (k1_pick : PySem.W.codeIn K cd_22 "_law_pick" = true)
    (k2_pick : PySem.W.keepIn K (.ref f_pick) = true)
    (a_mixed : PySem.W.nsIn K mainGlobals "_law_mixed" = some (some (.ref f_mixed)))
    (l_mixed : K.lookup f_mixed = some ⟨oc_23, od_23, .func (PySem.W.fnOf "_law_mixed" "_law_mixed" (defArgs s_mixed) (defBody s_mixed) (defScope s_mixed) .none kV_23 dc_23 pm_23 an_23 cd_23 ct_23), sl_23⟩)
    (k1_mixed : PySem.W.codeIn K cd_23 "_law_mixed" = true)
    (k2_mixed : PySem.W.keepIn K (.ref f_mixed) = true)
    (a_names : PySem.W.nsIn K mainGlobals "_law_names" = some (some (.ref f_names)))
    (l_names : K.lookup f_names = some ⟨oc_24, od_24, .func (PySem.W.fnOf "_law_names" "_law_names" (defArgs s_names) (defBody s_names) (defScope s_names) .none kV_24 dc_24 pm_24 an_24 cd_24 ct_24), sl_24⟩)
    (k1_names : PySem.W.codeIn K cd_24 "_law_names" = true)
    (k2_names : PySem.W.keepIn K (.ref f_names) = true)
    (a_net : PySem.W.nsIn K mainGlobals "_law_net" = some (some (.ref f_net)))
    (l_net : K.lookup f_net = some ⟨oc_25, od_25, .func (PySem.W.fnOf "_law_net" "_law_net" (defArgs s_net) (defBody s_net) (defScope s_net) .none kV_25 dc_25 pm_25 an_25 cd_25 ct_25), sl_25⟩)
    (k1_net : PySem.W.codeIn K cd_25 "_law_net" = true)
    (k2_net : PySem.W.keepIn K (.ref f_net) = true)
    (a_points : PySem.W.nsIn K mainGlobals "_law_points" = some (some (.ref f_points)))
    (l_points : K.lookup f_points = some ⟨oc_26, od_26, .func (PySem.W.fnOf "_law_points" "_law_points" (defArgs s_points) (defBody s_points) (defScope s_points) .none kV_26 dc_26 pm_26 an_26 cd_26 ct_26), sl_26⟩)
    (k1_points : PySem.W.codeIn K cd_26 "_law_points" = true)
    (k2_points : PySem.W.keepIn K (.ref f_points) = true)
    (a_walked_right : PySem.W.nsIn K mainGlobals "_law_walked_right" = some (some (.ref f_walked_right)))
    (l_walked_right : K.lookup f_walked_right = some ⟨oc_27, od_27, .func (PySem.W.fnOf "_law_walked_right" "_law_walked_right" (defArgs s_walked_right) (defBody s_walked_right) (defScope s_walked_right) .none kV_27 dc_27 pm_27 an_27 cd_27 ct_27), sl_27⟩)
    (k1_walked_right : PySem.W.codeIn K cd_27 "_law_walked_right" = true)
    (k2_walked_right : PySem.W.keepIn K (.ref f_walked_right) = true)
    (a_shown_right : PySem.W.nsIn K mainGlobals "_law_shown_right" = some (some (.ref f_shown_right)))
    (l_shown_right : K.lookup f_shown_right = some ⟨oc_28, od_28, .func (PySem.W.fnOf "_law_shown_right" "_law_shown_right" (defArgs s_shown_right) (defBody s_shown_right) (defScope s_shown_right) .none kV_28 dc_28 pm_28 an_28 cd_28 ct_28), sl_28⟩)
    (k1_shown_right : PySem.W.codeIn K cd_28 "_law_shown_right" = true)
    (k2_shown_right : PySem.W.keepIn K (.ref f_shown_right) = true)
    (a_near : PySem.W.nsIn K mainGlobals "_law_near" = some (some (.ref f_near)))
    (l_near : K.lookup f_near = some ⟨oc_29, od_29, .func (PySem.W.fnOf "_law_near" "_law_near" (defArgs s_near) (defBody s_near) (defScope s_near) .none kV_29 dc_29 pm_29 an_29 cd_29 ct_29), sl_29⟩)
    (k1_near : PySem.W.codeIn K cd_29 "_law_near" = true)
    (k2_near : PySem.W.keepIn K (.ref f_near) = true)
    (a_beside : PySem.W.nsIn K mainGlobals "_law_beside" = some (some (.ref f_beside)))
    (l_beside : K.lookup f_beside = some ⟨oc_30, od_30, .func (PySem.W.fnOf "_law_beside" "_law_beside" (defArgs s_beside) (defBody s_beside) (defScope s_beside) .none kV_30 dc_30 pm_30 an_30 cd_30 ct_30), sl_30⟩)
    (k1_beside : PySem.W.codeIn K cd_30 "_law_beside" = true)
    (k2_beside : PySem.W.keepIn K (.ref f_beside) = true)
    (a_asked_right : PySem.W.nsIn K mainGlobals "_law_asked_right" = some (some (.ref f_asked_right)))
    (l_asked_right : K.lookup f_asked_right = some ⟨oc_31, od_31, .func (PySem.W.fnOf "_law_asked_right" "_law_asked_right" (defArgs s_asked_right) (defBody s_asked_right) (defScope s_asked_right) .none kV_31 dc_31 pm_31 an_31 cd_31 ct_31), sl_31⟩)
    (k1_asked_right : PySem.W.codeIn K cd_31 "_law_asked_right" = true)
    (k2_asked_right : PySem.W.keepIn K (.ref f_asked_right) = true)
    (a_in_right : PySem.W.nsIn K mainGlobals "_law_in_right" = some (some (.ref f_in_right)))
    (l_in_right : K.lookup f_in_right = some ⟨oc_32, od_32, .func (PySem.W.fnOf "_law_in_right" "_law_in_right" (defArgs s_in_right) (defBody s_in_right) (defScope s_in_right) .none kV_32 dc_32 pm_32 an_32 cd_32 ct_32), sl_32⟩)
    (k1_in_right : PySem.W.codeIn K cd_32 "_law_in_right" = true)
    (k2_in_right : PySem.W.keepIn K (.ref f_in_right) = true)
    (a_bent : PySem.W.nsIn K mainGlobals "_law_bent" = some (some (.ref f_bent)))
    (l_bent : K.lookup f_bent = some ⟨oc_33, od_33, .func (PySem.W.fnOf "_law_bent" "_law_bent" (defArgs s_bent) (defBody s_bent) (defScope s_bent) .none kV_33 dc_33 pm_33 an_33 cd_33 ct_33), sl_33⟩)
    (k1_bent : PySem.W.codeIn K cd_33 "_law_bent" = true)
    (k2_bent : PySem.W.keepIn K (.ref f_bent) = true)
    (a_equal_right : PySem.W.nsIn K mainGlobals "_law_equal_right" = some (some (.ref f_equal_right)))
    (l_equal_right : K.lookup f_equal_right = some ⟨oc_34, od_34, .func (PySem.W.fnOf "_law_equal_right" "_law_equal_right" (defArgs s_equal_right) (defBody s_equal_right) (defScope s_equal_right) .none kV_34 dc_34 pm_34 an_34 cd_34 ct_34), sl_34⟩)
    (k1_equal_right : PySem.W.codeIn K cd_34 "_law_equal_right" = true)
    (k2_equal_right : PySem.W.keepIn K (.ref f_equal_right) = true)
    (a_right : PySem.W.nsIn K mainGlobals "_law_right" = some (some (.ref f_right)))
    (l_right : K.lookup f_right = some ⟨oc_35, od_35, .func (PySem.W.fnOf "_law_right" "_law_right" (defArgs s_right) (defBody s_right) (defScope s_right) .none kV_35 dc_35 pm_35 an_35 cd_35 ct_35), sl_35⟩)
    (k1_right : PySem.W.codeIn K cd_35 "_law_right" = true)
    (k2_right : PySem.W.keepIn K (.ref f_right) = true)
    (a_fixed_right : PySem.W.nsIn K mainGlobals "_law_fixed_right" = some (some (.ref f_fixed_right)))
    (l_fixed_right : K.lookup f_fixed_right = some ⟨oc_36, od_36, .func (PySem.W.fnOf "_law_fixed_right" "_law_fixed_right" (defArgs s_fixed_right) (defBody s_fixed_right) (defScope s_fixed_right) .none kV_36 dc_36 pm_36 an_36 cd_36 ct_36), sl_36⟩)
    (k1_fixed_right : PySem.W.codeIn K cd_36 "_law_fixed_right" = true)
    (k2_fixed_right : PySem.W.keepIn K (.ref f_fixed_right) = true)
    (a_law : PySem.W.nsIn K mainGlobals "law" = some (some (.ref f_law)))
    (l_law : K.lookup f_law = some ⟨oc_37, od_37, .func (PySem.W.fnOf "law" "law" (defArgs s_law) (defBody s_law) (defScope s_law) .none kV_37 dc_37 pm_37 an_37 cd_37 ct_37), sl_37⟩)
    (k1_law : PySem.W.codeIn K cd_37 "law" = true)
    (k2_law : PySem.W.keepIn K (.ref f_law) = true)
    (pgA : PySem.W.plainGet K c_Net Str.empty = true)
    (hdA : PySem.W.hasDictIn K c_Net = true)
    (poA : PySem.W.plainOver K c_Net = true)
    (saA : PySem.W.findIn K (.ref c_Net) "__setattr__" = some (some (.builtin "object.__setattr__")))
    (mkA_ : PySem.W.makesIn K c_Net = true)
    (kcA : PySem.W.keepIn K (.ref c_Net) = true)
    (ca_ : PySem.W.findIn K (.ref c_Net) "__class__" = some (some (.builtin "object.__class__")))
    (cn_ : PySem.W.specialIn K (.builtin "object.__class__") "__get__" = some (some (.builtin "getset_descriptor.__get__")))
    (ct_ : PySem.W.takesIn K (.builtin "object.__class__") = some true)
    (cm_ : PySem.W.mroIn K c_Net (.type "object") = some true)
    (ic_ : PySem.W.isClsIn K c_Net = true)
    (it_ : PySem.W.typeIn K (.ref c_Net) = some (.type "type"))
    (sb_NoneType : PySem.W.subIn K (.type "NoneType") (.ref c_Net) = some false)
    (sb_bool : PySem.W.subIn K (.type "bool") (.ref c_Net) = some false)
    (sb_int : PySem.W.subIn K (.type "int") (.ref c_Net) = some false)
    (sb_str : PySem.W.subIn K (.type "str") (.ref c_Net) = some false)
    (sb_list : PySem.W.subIn K (.type "list") (.ref c_Net) = some false)
    (sb_tuple : PySem.W.subIn K (.type "tuple") (.ref c_Net) = some false)
    (sb_dict : PySem.W.subIn K (.type "dict") (.ref c_Net) = some false)
    (let_ : PySem.W.nsIn K mainGlobals "LETTERS" = some (some (.str "abcdefghijklmnopqrstuvwxyz" tkLet)))
    (long_ : PySem.W.nsIn K mainGlobals "LONGEST_NAME" = some (some (.int 8 tkLong)))
    (nsq_ : PySem.W.noSeq K c_Net = true)
    (nAPi : PySem.W.findIn K (.ref c_Net) "_pipes" = some none)
    (nANm : PySem.W.findIn K (.ref c_Net) "_names" = some none)
    (nANo : PySem.W.findIn K (.ref c_Net) "_nodes" = some none)
    (nANe : PySem.W.findIn K (.ref c_Net) "_near" = some none)
    (fg_ : PySem.W.fnIn K f_Net_getitem_ = true)
    (cr1_ : PySem.W.readsIn K c_Net (.type "type") = true)
    (cr2_ : PySem.W.specialIn K (.ref c_Net) "__getattribute__" = some (some (.builtin "type.__getattribute__")))
    (cne_ : PySem.W.findIn K (.ref c_Net) "__ne__" = some (some (.builtin "object.__ne__")))
    (kn_NODES : PySem.W.findIn K (.ref c_Net) "MAX_NODES" = some (some (.int 8 tkNODES)))
    (kg_NODES : PySem.W.specialIn K (.int 8 tkNODES) "__get__" = some none)
    (vn_NODES : PySem.W.findCls K (.ref c_Net) (.type "type") "MAX_NODES" = some (.val (.int 8 tvNODES)))
    (kn_PIPES : PySem.W.findIn K (.ref c_Net) "MAX_PIPES" = some (some (.int 16 tkPIPES)))
    (kg_PIPES : PySem.W.specialIn K (.int 16 tkPIPES) "__get__" = some none)
    (vn_PIPES : PySem.W.findCls K (.ref c_Net) (.type "type") "MAX_PIPES" = some (.val (.int 16 tvPIPES)))
    (z_len : PySem.W.nsIn K mainGlobals "len" = some none)
    (z_abs : PySem.W.nsIn K mainGlobals "abs" = some none)
    (z_max : PySem.W.nsIn K mainGlobals "max" = some none)
    (z_min : PySem.W.nsIn K mainGlobals "min" = some none)
    (z_int : PySem.W.nsIn K mainGlobals "int" = some none)
    (z_divmod : PySem.W.nsIn K mainGlobals "divmod" = some none)
    (z_all : PySem.W.nsIn K mainGlobals "all" = some none)
    (z_any : PySem.W.nsIn K mainGlobals "any" = some none)
    (z_repr : PySem.W.nsIn K mainGlobals "repr" = some none)
    (z_isinstance : PySem.W.nsIn K mainGlobals "isinstance" = some none)
    (z_range : PySem.W.nsIn K mainGlobals "range" = some none)
    (z_enumerate : PySem.W.nsIn K mainGlobals "enumerate" = some none)
    (z_str : PySem.W.nsIn K mainGlobals "str" = some none)
    (z_list : PySem.W.nsIn K mainGlobals "list" = some none)
    (z_tuple : PySem.W.nsIn K mainGlobals "tuple" = some none)
    (z_dict : PySem.W.nsIn K mainGlobals "dict" = some none)
    (z_set : PySem.W.nsIn K mainGlobals "set" = some none)
    (z_sorted : PySem.W.nsIn K mainGlobals "sorted" = some none)
    (z_iter : PySem.W.nsIn K mainGlobals "iter" = some none)
    (z_zip : PySem.W.nsIn K mainGlobals "zip" = some none) :
    ∃ fd : FuncData, (∀ (s : Shared) (v : Value), BindsTo s fd ⟨[v], []⟩ [("_law_script", v)]) ∧ ∀ base : Heap, K.In base → base.Ns mainGlobals mg → FnG l.prog w K mg base CX0 11 fa fd ["_law_script"] (sp_law K) := by
  have e := (PySem.W.mg_of X G a_law).symm.trans hfa
  cases e
  have T : Txt K mg { f_is_name := f_is_name, d_is_name := PySem.W.fnOf "is_name" "is_name" (defArgs s_is_name) (defBody s_is_name) (defScope s_is_name) .none kV_0 dc_0 pm_0 an_0 cd_0 ct_0, f_are_ends := f_are_ends, d_are_ends := PySem.W.fnOf "_are_ends" "_are_ends" (defArgs s_are_ends) (defBody s_are_ends) (defScope s_are_ends) .none kV_1 dc_1 pm_1 an_1 cd_1 ct_1, f_sorted_pipes := f_sorted_pipes, d_sorted_pipes := PySem.W.fnOf "_sorted_pipes" "_sorted_pipes" (defArgs s_sorted_pipes) (defBody s_sorted_pipes) (defScope s_sorted_pipes) .none kV_2 dc_2 pm_2 an_2 cd_2 ct_2, f_sorted_nodes := f_sorted_nodes, d_sorted_nodes := PySem.W.fnOf "_sorted_nodes" "_sorted_nodes" (defArgs s_sorted_nodes) (defBody s_sorted_nodes) (defScope s_sorted_nodes) .none kV_3 dc_3 pm_3 an_3 cd_3 ct_3, f_joined_nodes := f_joined_nodes, d_joined_nodes := PySem.W.fnOf "_joined_nodes" "_joined_nodes" (defArgs s_joined_nodes) (defBody s_joined_nodes) (defScope s_joined_nodes) .none kV_4 dc_4 pm_4 an_4 cd_4 ct_4, f_reached := f_reached, d_reached := PySem.W.fnOf "_reached" "_reached" (defArgs s_reached) (defBody s_reached) (defScope s_reached) .none kV_5 dc_5 pm_5 an_5 cd_5 ct_5, f_Net_init_ := f_Net_init_, d_Net_init_ := PySem.W.fnOf "__init__" "Net.__init__" (defArgs s_Net_init_) (defBody s_Net_init_) (defScope s_Net_init_) .none kV_6 dc_6 pm_6 an_6 cd_6 ct_6, f_Netof := f_Netof, d_Netof := PySem.W.fnOf "of" "Net.of" (defArgs s_Netof) (defBody s_Netof) (defScope s_Netof) .none kV_7 dc_7 pm_7 an_7 cd_7 ct_7, f_Netnodes := f_Netnodes, d_Netnodes := PySem.W.fnOf "nodes" "Net.nodes" (defArgs s_Netnodes) (defBody s_Netnodes) (defScope s_Netnodes) .none kV_8 dc_8 pm_8 an_8 cd_8 ct_8, f_Netnames := f_Netnames, d_Netnames := PySem.W.fnOf "names" "Net.names" (defArgs s_Netnames) (defBody s_Netnames) (defScope s_Netnames) .none kV_9 dc_9 pm_9 an_9 cd_9 ct_9, f_Net_iter_ := f_Net_iter_, d_Net_iter_ := PySem.W.fnOf "__iter__" "Net.__iter__" (defArgs s_Net_iter_) (defBody s_Net_iter_) (defScope s_Net_iter_) .none kV_10 dc_10 pm_10 an_10 cd_10 ct_10, f_Net_len_ := f_Net_len_, d_Net_len_ := PySem.W.fnOf "__len__" "Net.__len__" (defArgs s_Net_len_) (defBody s_Net_len_) (defScope s_Net_len_) .none kV_11 dc_11 pm_11 an_11 cd_11 ct_11, f_Net_contains_ := f_Net_contains_, d_Net_contains_ := PySem.W.fnOf "__contains__" "Net.__contains__" (defArgs s_Net_contains_) (defBody s_Net_contains_) (defScope s_Net_contains_) .none kV_12 dc_12 pm_12 an_12 cd_12 ct_12, f_Net_getitem_ := f_Net_getitem_, d_Net_getitem_ := PySem.W.fnOf "__getitem__" "Net.__getitem__" (defArgs s_Net_getitem_) (defBody s_Net_getitem_) (defScope s_Net_getitem_) .none kV_13 dc_13 pm_13 an_13 cd_13 ct_13, f_Net_eq_ := f_Net_eq_, d_Net_eq_ := PySem.W.fnOf "__eq__" "Net.__eq__" (defArgs s_Net_eq_) (defBody s_Net_eq_) (defScope s_Net_eq_) .none kV_14 dc_14 pm_14 an_14 cd_14 ct_14, f_Net_repr_ := f_Net_repr_, d_Net_repr_ := PySem.W.fnOf "__repr__" "Net.__repr__" (defArgs s_Net_repr_) (defBody s_Net_repr_) (defScope s_Net_repr_) .none kV_15 dc_15 pm_15 an_15 cd_15 ct_15, f_Net_check_node := f_Net_check_node, d_Net_check_node := PySem.W.fnOf "_check_node" "Net._check_node" (defArgs s_Net_check_node) (defBody s_Net_check_node) (defScope s_Net_check_node) .none kV_16 dc_16 pm_16 an_16 cd_16 ct_16, f_Netneighbours := f_Netneighbours, d_Netneighbours := PySem.W.fnOf "neighbours" "Net.neighbours" (defArgs s_Netneighbours) (defBody s_Netneighbours) (defScope s_Netneighbours) .none kV_17 dc_17 pm_17 an_17 cd_17 ct_17, f_Netbetween := f_Netbetween, d_Netbetween := PySem.W.fnOf "between" "Net.between" (defArgs s_Netbetween) (defBody s_Netbetween) (defScope s_Netbetween) .none kV_18 dc_18 pm_18 an_18 cd_18 ct_18, f_Netjoined := f_Netjoined, d_Netjoined := PySem.W.fnOf "joined" "Net.joined" (defArgs s_Netjoined) (defBody s_Netjoined) (defScope s_Netjoined) .none kV_19 dc_19 pm_19 an_19 cd_19 ct_19, f_pot := f_pot, d_pot := PySem.W.fnOf "_law_pot" "_law_pot" (defArgs s_pot) (defBody s_pot) (defScope s_pot) .none kV_20 dc_20 pm_20 an_20 cd_20 ct_20, f_draw := f_draw, d_draw := PySem.W.fnOf "_law_draw" "_law_draw" (defArgs s_draw) (defBody s_draw) (defScope s_draw) .none kV_21 dc_21 pm_21 an_21 cd_21 ct_21, f_pick := f_pick, d_pick := PySem.W.fnOf "_law_pick" "_law_pick" (defArgs s_pick) (defBody s_pick) (defScope s_pick) .none kV_22 dc_22 pm_22 an_22 cd_22 ct_22, f_mixed := f_mixed, d_mixed := PySem.W.fnOf "_law_mixed" "_law_mixed" (defArgs s_mixed) (defBody s_mixed) (defScope s_mixed) .none kV_23 dc_23 pm_23 an_23 cd_23 ct_23, f_names := f_names, d_names := PySem.W.fnOf "_law_names" "_law_names" (defArgs s_names) (defBody s_names) (defScope s_names) .none kV_24 dc_24 pm_24 an_24 cd_24 ct_24, f_net := f_net, d_net := PySem.W.fnOf "_law_net" "_law_net" (defArgs s_net) (defBody s_net) (defScope s_net) .none kV_25 dc_25 pm_25 an_25 cd_25 ct_25, f_points := f_points, d_points := PySem.W.fnOf "_law_points" "_law_points" (defArgs s_points) (defBody s_points) (defScope s_points) .none kV_26 dc_26 pm_26 an_26 cd_26 ct_26, f_walked_right := f_walked_right, d_walked_right := PySem.W.fnOf "_law_walked_right" "_law_walked_right" (defArgs s_walked_right) (defBody s_walked_right) (defScope s_walked_right) .none kV_27 dc_27 pm_27 an_27 cd_27 ct_27, f_shown_right := f_shown_right, d_shown_right := PySem.W.fnOf "_law_shown_right" "_law_shown_right" (defArgs s_shown_right) (defBody s_shown_right) (defScope s_shown_right) .none kV_28 dc_28 pm_28 an_28 cd_28 ct_28, f_near := f_near, d_near := PySem.W.fnOf "_law_near" "_law_near" (defArgs s_near) (defBody s_near) (defScope s_near) .none kV_29 dc_29 pm_29 an_29 cd_29 ct_29, f_beside := f_beside, d_beside := PySem.W.fnOf "_law_beside" "_law_beside" (defArgs s_beside) (defBody s_beside) (defScope s_beside) .none kV_30 dc_30 pm_30 an_30 cd_30 ct_30, f_asked_right := f_asked_right, d_asked_right := PySem.W.fnOf "_law_asked_right" "_law_asked_right" (defArgs s_asked_right) (defBody s_asked_right) (defScope s_asked_right) .none kV_31 dc_31 pm_31 an_31 cd_31 ct_31, f_in_right := f_in_right, d_in_right := PySem.W.fnOf "_law_in_right" "_law_in_right" (defArgs s_in_right) (defBody s_in_right) (defScope s_in_right) .none kV_32 dc_32 pm_32 an_32 cd_32 ct_32, f_bent := f_bent, d_bent := PySem.W.fnOf "_law_bent" "_law_bent" (defArgs s_bent) (defBody s_bent) (defScope s_bent) .none kV_33 dc_33 pm_33 an_33 cd_33 ct_33, f_equal_right := f_equal_right, d_equal_right := PySem.W.fnOf "_law_equal_right" "_law_equal_right" (defArgs s_equal_right) (defBody s_equal_right) (defScope s_equal_right) .none kV_34 dc_34 pm_34 an_34 cd_34 ct_34, f_right := f_right, d_right := PySem.W.fnOf "_law_right" "_law_right" (defArgs s_right) (defBody s_right) (defScope s_right) .none kV_35 dc_35 pm_35 an_35 cd_35 ct_35, f_fixed_right := f_fixed_right, d_fixed_right := PySem.W.fnOf "_law_fixed_right" "_law_fixed_right" (defArgs s_fixed_right) (defBody s_fixed_right) (defScope s_fixed_right) .none kV_36 dc_36 pm_36 an_36 cd_36 ct_36, f_law := fa, d_law := PySem.W.fnOf "law" "law" (defArgs s_law) (defBody s_law) (defScope s_law) .none kV_37 dc_37 pm_37 an_37 cd_37 ct_37, c_Net := c_Net, p_nodes := p_nodes, p_of := p_of } := {
    F_is_name := fun_mk (st := s_is_name) l_is_name k1_is_name k2_is_name,
    m_is_name := PySem.W.mg_of X G a_is_name,
    F_are_ends := fun_mk (st := s_are_ends) l_are_ends k1_are_ends k2_are_ends,
    m_are_ends := PySem.W.mg_of X G a_are_ends,
    F_sorted_pipes := fun_mk (st := s_sorted_pipes) l_sorted_pipes k1_sorted_pipes k2_sorted_pipes,
    m_sorted_pipes := PySem.W.mg_of X G a_sorted_pipes,
    F_sorted_nodes := fun_mk (st := s_sorted_nodes) l_sorted_nodes k1_sorted_nodes k2_sorted_nodes,
    m_sorted_nodes := PySem.W.mg_of X G a_sorted_nodes,
    F_joined_nodes := fun_mk (st := s_joined_nodes) l_joined_nodes k1_joined_nodes k2_joined_nodes,
    m_joined_nodes := PySem.W.mg_of X G a_joined_nodes,
    F_reached := fun_mk (st := s_reached) l_reached k1_reached k2_reached,
    m_reached := PySem.W.mg_of X G a_reached,
    F_Net_init_ := fun_mk (st := s_Net_init_) l_Net_init_ k1_Net_init_ k2_Net_init_,
    F_Netof := fun_mk (st := s_Netof) l_Netof k1_Netof k2_Netof,
    F_Netnodes := fun_mk (st := s_Netnodes) l_Netnodes k1_Netnodes k2_Netnodes,
    F_Netnames := fun_mk (st := s_Netnames) l_Netnames k1_Netnames k2_Netnames,
    F_Net_iter_ := fun_mk (st := s_Net_iter_) l_Net_iter_ k1_Net_iter_ k2_Net_iter_,
    F_Net_len_ := fun_mk (st := s_Net_len_) l_Net_len_ k1_Net_len_ k2_Net_len_,
    F_Net_contains_ := fun_mk (st := s_Net_contains_) l_Net_contains_ k1_Net_contains_ k2_Net_contains_,
    F_Net_getitem_ := fun_mk (st := s_Net_getitem_) l_Net_getitem_ k1_Net_getitem_ k2_Net_getitem_,
    F_Net_eq_ := fun_mk (st := s_Net_eq_) l_Net_eq_ k1_Net_eq_ k2_Net_eq_,
    F_Net_repr_ := fun_mk (st := s_Net_repr_) l_Net_repr_ k1_Net_repr_ k2_Net_repr_,
    F_Net_check_node := fun_mk (st := s_Net_check_node) l_Net_check_node k1_Net_check_node k2_Net_check_node,
    F_Netneighbours := fun_mk (st := s_Netneighbours) l_Netneighbours k1_Netneighbours k2_Netneighbours,
    F_Netbetween := fun_mk (st := s_Netbetween) l_Netbetween k1_Netbetween k2_Netbetween,
    F_Netjoined := fun_mk (st := s_Netjoined) l_Netjoined k1_Netjoined k2_Netjoined,
    F_pot := fun_mk (st := s_pot) l_pot k1_pot k2_pot,
    m_pot := PySem.W.mg_of X G a_pot,
    F_draw := fun_mk (st := s_draw) l_draw k1_draw k2_draw,
    m_draw := PySem.W.mg_of X G a_draw,
    F_pick := fun_mk (st := s_pick) l_pick k1_pick k2_pick,
    m_pick := PySem.W.mg_of X G a_pick,
    F_mixed := fun_mk (st := s_mixed) l_mixed k1_mixed k2_mixed,
    m_mixed := PySem.W.mg_of X G a_mixed,
    F_names := fun_mk (st := s_names) l_names k1_names k2_names,
    m_names := PySem.W.mg_of X G a_names,
    F_net := fun_mk (st := s_net) l_net k1_net k2_net,
    m_net := PySem.W.mg_of X G a_net,
    F_points := fun_mk (st := s_points) l_points k1_points k2_points,
    m_points := PySem.W.mg_of X G a_points,
    F_walked_right := fun_mk (st := s_walked_right) l_walked_right k1_walked_right k2_walked_right,
    m_walked_right := PySem.W.mg_of X G a_walked_right,
    F_shown_right := fun_mk (st := s_shown_right) l_shown_right k1_shown_right k2_shown_right,
    m_shown_right := PySem.W.mg_of X G a_shown_right,
    F_near := fun_mk (st := s_near) l_near k1_near k2_near,
    m_near := PySem.W.mg_of X G a_near,
    F_beside := fun_mk (st := s_beside) l_beside k1_beside k2_beside,
    m_beside := PySem.W.mg_of X G a_beside,
    F_asked_right := fun_mk (st := s_asked_right) l_asked_right k1_asked_right k2_asked_right,
    m_asked_right := PySem.W.mg_of X G a_asked_right,
    F_in_right := fun_mk (st := s_in_right) l_in_right k1_in_right k2_in_right,
    m_in_right := PySem.W.mg_of X G a_in_right,
    F_bent := fun_mk (st := s_bent) l_bent k1_bent k2_bent,
    m_bent := PySem.W.mg_of X G a_bent,
    F_equal_right := fun_mk (st := s_equal_right) l_equal_right k1_equal_right k2_equal_right,
    m_equal_right := PySem.W.mg_of X G a_equal_right,
    F_right := fun_mk (st := s_right) l_right k1_right k2_right,
    m_right := PySem.W.mg_of X G a_right,
    F_fixed_right := fun_mk (st := s_fixed_right) l_fixed_right k1_fixed_right k2_fixed_right,
    m_fixed_right := PySem.W.mg_of X G a_fixed_right,
    F_law := fun_mk (st := s_law) l_law k1_law k2_law,
    m_law := PySem.W.mg_of X G a_law,
    cl := ⟨pgA, hdA, poA, saA⟩,
    mNet := PySem.W.mg_of X G aC_Net,
    mkN := ⟨mkA_, a_Net_init_, i_Net_init_, kcA⟩,
    I := ⟨ca_, cn_, ct_, cm_, (kit_own ic_ it_ sb_NoneType).1, (kit_own ic_ it_ sb_bool).1, (kit_own ic_ it_ sb_int).1, (kit_own ic_ it_ sb_str).1, (kit_own ic_ it_ sb_list).1, (kit_own ic_ it_ sb_tuple).1, (kit_own ic_ it_ sb_dict).1, (kit_own ic_ it_ sb_NoneType).2, (kit_own ic_ it_ sb_bool).2, (kit_own ic_ it_ sb_int).2, (kit_own ic_ it_ sb_str).2, (kit_own ic_ it_ sb_list).2, (kit_own ic_ it_ sb_tuple).2, (kit_own ic_ it_ sb_dict).2⟩,
    gLet := ⟨tkLet, PySem.W.mg_of X G let_⟩,
    gLong := ⟨tkLong, PySem.W.mg_of X G long_⟩,
    pN := ⟨pa_Netnodes, pg_Netnodes, pt_Netnodes, ⟨_, pr_Netnodes⟩⟩,
    noSeq := nsq_,
    nPi := nAPi,
    nNm := nANm,
    nNo := nANo,
    nNe := nANe,
    cIt := ⟨a_Net_iter_, i_Net_iter_⟩,
    cLen := ⟨a_Net_len_, i_Net_len_⟩,
    cCon := ⟨a_Net_contains_, i_Net_contains_⟩,
    cGet := ⟨a_Net_getitem_, i_Net_getitem_⟩,
    cEq := ⟨a_Net_eq_, i_Net_eq_⟩,
    cRe := ⟨a_Net_repr_, i_Net_repr_⟩,
    fGet := fg_,
    mNames := ⟨a_Netnames, i_Netnames, k2_Netnames⟩,
    mChk := ⟨a_Net_check_node, i_Net_check_node, k2_Net_check_node⟩,
    mNeighbours := ⟨a_Netneighbours, i_Netneighbours, k2_Netneighbours⟩,
    mBetween := ⟨a_Netbetween, i_Netbetween, k2_Netbetween⟩,
    mJoined := ⟨a_Netjoined, i_Netjoined, k2_Netjoined⟩,
    cR := ⟨cr1_, cr2_⟩,
    cOf := ⟨pa_Netof, ⟨_, pr_Netof⟩, pf_Netof⟩,
    cNe := cne_,
    kNODES := ⟨tkNODES, kn_NODES, ⟨_, rfl⟩, kg_NODES, by decide +kernel⟩,
    vNODES := ⟨tvNODES, vn_NODES, ⟨_, rfl⟩⟩,
    kPIPES := ⟨tkPIPES, kn_PIPES, ⟨_, rfl⟩, kg_PIPES, by decide +kernel⟩,
    vPIPES := ⟨tvPIPES, vn_PIPES, ⟨_, rfl⟩⟩,
    b_len := PySem.W.mg_none_of X G z_len,
    b_abs := PySem.W.mg_none_of X G z_abs,
    b_max := PySem.W.mg_none_of X G z_max,
    b_min := PySem.W.mg_none_of X G z_min,
    b_int := PySem.W.mg_none_of X G z_int,
    b_divmod := PySem.W.mg_none_of X G z_divmod,
    b_all := PySem.W.mg_none_of X G z_all,
    b_any := PySem.W.mg_none_of X G z_any,
    b_repr := PySem.W.mg_none_of X G z_repr,
    b_isinstance := PySem.W.mg_none_of X G z_isinstance,
    b_range := PySem.W.mg_none_of X G z_range,
    b_enumerate := PySem.W.mg_none_of X G z_enumerate,
    b_str := PySem.W.mg_none_of X G z_str,
    b_list := PySem.W.mg_none_of X G z_list,
    b_tuple := PySem.W.mg_none_of X G z_tuple,
    b_dict := PySem.W.mg_none_of X G z_dict,
    b_set := PySem.W.mg_none_of X G z_set,
    b_sorted := PySem.W.mg_none_of X G z_sorted,
    b_iter := PySem.W.mg_none_of X G z_iter,
    b_zip := PySem.W.mg_none_of X G z_zip }
  exact ⟨_, fun s v => (BindsTo.of_eq rfl : BindsTo s (PySem.W.fnOf "law" "law" (defArgs s_law) (defBody s_law) (defScope s_law) .none kV_37 dc_37 pm_37 an_37 cd_37 ct_37) ⟨[v], []⟩ [("_law_script", v)]), fun base _ _ => ok_law T⟩
theorem walk {l : PySem.W.OpenLaw} {q : Program} {loose : List Str} {XP : (Str → Option Value) → Heap → Prop} {YP : World → Heap → Prop} {d : PySem.DefRec} {K : Params → PySem.W.Frag} (hn : l.most = some 63) (hdf : d.params.defaults = [])
    (hY : ∀ (w : World) (h : Heap), YP w h → (K w.params).In h)
    (F : ∀ (w : World) (mg : Str → Option Value) (fa : Addr) (h : Heap), (K w.params).In h → h.Ns mainGlobals mg → mg d.name = some (.ref fa) →
      ∃ fd : FuncData, (∀ (s : Shared) (u : Value), BindsTo s fd ⟨[u], []⟩ [("_law_script", u)]) ∧ ∀ base : Heap, (K w.params).In base → base.Ns mainGlobals mg → FnG l.prog w (K w.params) mg base CX0 11 fa fd ["_law_script"] (sp_law (K w.params))) :
    PySem.W.WalkO q loose XP YP l.row.toRowW d [] (fun f vs => PySem.call f vs) :=
  walkG (n := 63) (k := 11) (x := "_law_script") (sp := fun K => sp_law K) hn (by decide) hdf ⟨rfl, by decide, by decide⟩ hY F (fun K H a ns hl _ hS => ⟨a, ns, rfl, hS, hl, fun _ => rfl⟩)
end K20

open PySem PySem.W PyProof.Rows in
set_option maxRecDepth 100000 in
set_option maxHeartbeats 0 in
theorem PySem.Challenge.cw_surepipes_k20_nets_made_and_asked_holds : PySem.Challenge.rw_surepipes_k20_nets_made_and_asked.Holds := by
  w_on; o_law; k_head; (case hw => w_witness2)
  k_fill
  refine K20.walk (l := PySem.Challenge.rw_surepipes_k20_nets_made_and_asked) rfl rfl (fun w h Y => PySem.W.kIn_of Y) ?F
  case F =>
    intro w mg fa h KX G hmg
    refine' K20.all_mk KX G hmg ?aC_Net ?a_is_name ?l_is_name ?k1_is_name ?k2_is_name ?a_are_ends ?l_are_ends ?k1_are_ends ?k2_are_ends ?a_sorted_pipes ?l_sorted_pipes ?k1_sorted_pipes ?k2_sorted_pipes ?a_sorted_nodes ?l_sorted_nodes ?k1_sorted_nodes ?k2_sorted_nodes ?a_joined_nodes ?l_joined_nodes ?k1_joined_nodes ?k2_joined_nodes ?a_reached ?l_reached ?k1_reached ?k2_reached ?a_Net_init_ ?i_Net_init_ ?l_Net_init_ ?k1_Net_init_ ?k2_Net_init_ ?pa_Netof ?pr_Netof ?pf_Netof ?l_Netof ?k1_Netof ?k2_Netof ?pa_Netnodes ?pg_Netnodes ?pt_Netnodes ?pr_Netnodes ?l_Netnodes ?k1_Netnodes ?k2_Netnodes ?a_Netnames ?i_Netnames ?l_Netnames ?k1_Netnames ?k2_Netnames ?a_Net_iter_ ?i_Net_iter_ ?l_Net_iter_ ?k1_Net_iter_ ?k2_Net_iter_ ?a_Net_len_ ?i_Net_len_ ?l_Net_len_ ?k1_Net_len_ ?k2_Net_len_ ?a_Net_contains_ ?i_Net_contains_ ?l_Net_contains_ ?k1_Net_contains_ ?k2_Net_contains_ ?a_Net_getitem_ ?i_Net_getitem_ ?l_Net_getitem_ ?k1_Net_getitem_ ?k2_Net_getitem_ ?a_Net_eq_ ?i_Net_eq_ ?l_Net_eq_ ?k1_Net_eq_ ?k2_Net_eq_ ?a_Net_repr_ ?i_Net_repr_ ?l_Net_repr_ ?k1_Net_repr_ ?k2_Net_repr_ ?a_Net_check_node ?i_Net_check_node ?l_Net_check_node ?k1_Net_check_node ?k2_Net_check_node ?a_Netneighbours ?i_Netneighbours ?l_Netneighbours ?k1_Netneighbours ?k2_Netneighbours ?a_Netbetween ?i_Netbetween ?l_Netbetween ?k1_Netbetween ?k2_Netbetween ?a_Netjoined ?i_Netjoined ?l_Netjoined ?k1_Netjoined ?k2_Netjoined ?a_pot ?l_pot ?k1_pot ?k2_pot ?a_draw ?l_draw ?k1_draw ?k2_draw ?a_pick ?l_pick ?k1_pick ?k2_pick ?a_mixed ?l_mixed ?k1_mixed ?k2_mixed ?a_names ?l_names ?k1_names ?k2_names ?a_net ?l_net ?k1_net ?k2_net ?a_points ?l_points ?k1_points ?k2_points ?a_walked_right ?l_walked_right ?k1_walked_right ?k2_walked_right ?a_shown_right ?l_shown_right ?k1_shown_right ?k2_shown_right ?a_near ?l_near ?k1_near ?k2_near ?a_beside ?l_beside ?k1_beside ?k2_beside ?a_asked_right ?l_asked_right ?k1_asked_right ?k2_asked_right ?a_in_right ?l_in_right ?k1_in_right ?k2_in_right ?a_bent ?l_bent ?k1_bent ?k2_bent ?a_equal_right ?l_equal_right ?k1_equal_right ?k2_equal_right ?a_right ?l_right ?k1_right ?k2_right ?a_fixed_right ?l_fixed_right ?k1_fixed_right ?k2_fixed_right ?a_law ?l_law ?k1_law ?k2_law ?pgA ?hdA ?poA ?saA ?mkA_ ?kcA ?ca_ ?cn_ ?ct_ ?cm_ ?ic_ ?it_ ?sb_NoneType ?sb_bool ?sb_int ?sb_str ?sb_list ?sb_tuple ?sb_dict ?let_ ?long_ ?nsq_ ?nAPi ?nANm ?nANo ?nANe ?fg_ ?cr1_ ?cr2_ ?cne_ ?kn_NODES ?kg_NODES ?vn_NODES ?kn_PIPES ?kg_PIPES ?vn_PIPES ?z_len ?z_abs ?z_max ?z_min ?z_int ?z_divmod ?z_all ?z_any ?z_repr ?z_isinstance ?z_range ?z_enumerate ?z_str ?z_list ?z_tuple ?z_dict ?z_set ?z_sorted ?z_iter ?z_zip
    (case aC_Net => k_is)
    (case a_is_name => k_is)
    (case l_is_name => k_is)
    (case k1_is_name => k_is)
    (case k2_is_name => k_is)
    (case a_are_ends => k_is)
    (case l_are_ends => k_is)
    (case k1_are_ends => k_is)
    (case k2_are_ends => k_is)
    (case a_sorted_pipes => k_is)
    (case l_sorted_pipes => k_is)
    (case k1_sorted_pipes => k_is)
    (case k2_sorted_pipes => k_is)
    (case a_sorted_nodes => k_is)
    (case l_sorted_nodes => k_is)
    (case k1_sorted_nodes => k_is)
    (case k2_sorted_nodes => k_is)
    (case a_joined_nodes => k_is)
    (case l_joined_nodes => k_is)
    (case k1_joined_nodes => k_is)
    (case k2_joined_nodes => k_is)
    (case a_reached => k_is)
    (case l_reached => k_is)
    (case k1_reached => k_is)
    (case k2_reached => k_is)
    (case a_Net_init_ => k_is)
    (case i_Net_init_ => k_is)
    (case l_Net_init_ => k_is)
    (case k1_Net_init_ => k_is)
    (case k2_Net_init_ => k_is)
    (case pa_Netof => k_is)
    (case pr_Netof => k_is)
    (case pf_Netof => k_is)
    (case l_Netof => k_is)
    (case k1_Netof => k_is)
    (case k2_Netof => k_is)
    (case pa_Netnodes => k_is)
    (case pg_Netnodes => k_is)
    (case pt_Netnodes => k_is)
    (case pr_Netnodes => k_is)
    (case l_Netnodes => k_is)
    (case k1_Netnodes => k_is)
    (case k2_Netnodes => k_is)
    (case a_Netnames => k_is)
    (case i_Netnames => k_is)
    (case l_Netnames => k_is)
    (case k1_Netnames => k_is)
    (case k2_Netnames => k_is)
    (case a_Net_iter_ => k_is)
    (case i_Net_iter_ => k_is)
    (case l_Net_iter_ => k_is)
    (case k1_Net_iter_ => k_is)
    (case k2_Net_iter_ => k_is)
    (case a_Net_len_ => k_is)
    (case i_Net_len_ => k_is)
    (case l_Net_len_ => k_is)
    (case k1_Net_len_ => k_is)
    (case k2_Net_len_ => k_is)
    (case a_Net_contains_ => k_is)
    (case i_Net_contains_ => k_is)
    (case l_Net_contains_ => k_is)
    (case k1_Net_contains_ => k_is)
    (case k2_Net_contains_ => k_is)
    (case a_Net_getitem_ => k_is)
    (case i_Net_getitem_ => k_is)
    (case l_Net_getitem_ => k_is)
    (case k1_Net_getitem_ => k_is)
    (case k2_Net_getitem_ => k_is)
    (case a_Net_eq_ => k_is)
    (case i_Net_eq_ => k_is)
    (case l_Net_eq_ => k_is)
    (case k1_Net_eq_ => k_is)
    (case k2_Net_eq_ => k_is)
    (case a_Net_repr_ => k_is)
    (case i_Net_repr_ => k_is)
    (case l_Net_repr_ => k_is)
    (case k1_Net_repr_ => k_is)
    (case k2_Net_repr_ => k_is)
    (case a_Net_check_node => k_is)
    (case i_Net_check_node => k_is)
    (case l_Net_check_node => k_is)
    (case k1_Net_check_node => k_is)
    (case k2_Net_check_node => k_is)
    (case a_Netneighbours => k_is)
    (case i_Netneighbours => k_is)
    (case l_Netneighbours => k_is)
    (case k1_Netneighbours => k_is)
    (case k2_Netneighbours => k_is)
    (case a_Netbetween => k_is)
    (case i_Netbetween => k_is)
    (case l_Netbetween => k_is)
    (case k1_Netbetween => k_is)
    (case k2_Netbetween => k_is)
    (case a_Netjoined => k_is)
    (case i_Netjoined => k_is)
    (case l_Netjoined => k_is)
    (case k1_Netjoined => k_is)
    (case k2_Netjoined => k_is)
    (case a_pot => k_is)
    (case l_pot => k_is)
    (case k1_pot => k_is)
    (case k2_pot => k_is)
    (case a_draw => k_is)
    (case l_draw => k_is)
    (case k1_draw => k_is)
    (case k2_draw => k_is)
    (case a_pick => k_is)
    (case l_pick => k_is)
    (case k1_pick => k_is)
    (case k2_pick => k_is)
    (case a_mixed => k_is)
    (case l_mixed => k_is)
    (case k1_mixed => k_is)
    (case k2_mixed => k_is)
    (case a_names => k_is)
    (case l_names => k_is)
    (case k1_names => k_is)
    (case k2_names => k_is)
    (case a_net => k_is)
    (case l_net => k_is)
    (case k1_net => k_is)
    (case k2_net => k_is)
    (case a_points => k_is)
    (case l_points => k_is)
    (case k1_points => k_is)
    (case k2_points => k_is)
    (case a_walked_right => k_is)
    (case l_walked_right => k_is)
    (case k1_walked_right => k_is)
    (case k2_walked_right => k_is)
    (case a_shown_right => k_is)
    (case l_shown_right => k_is)
    (case k1_shown_right => k_is)
    (case k2_shown_right => k_is)
    (case a_near => k_is)
    (case l_near => k_is)
    (case k1_near => k_is)
    (case k2_near => k_is)
    (case a_beside => k_is)
    (case l_beside => k_is)
    (case k1_beside => k_is)
    (case k2_beside => k_is)
    (case a_asked_right => k_is)
    (case l_asked_right => k_is)
    (case k1_asked_right => k_is)
    (case k2_asked_right => k_is)
    (case a_in_right => k_is)
    (case l_in_right => k_is)
    (case k1_in_right => k_is)
    (case k2_in_right => k_is)
    (case a_bent => k_is)
    (case l_bent => k_is)
    (case k1_bent => k_is)
    (case k2_bent => k_is)
    (case a_equal_right => k_is)
    (case l_equal_right => k_is)
    (case k1_equal_right => k_is)
    (case k2_equal_right => k_is)
    (case a_right => k_is)
    (case l_right => k_is)
    (case k1_right => k_is)
    (case k2_right => k_is)
    (case a_fixed_right => k_is)
    (case l_fixed_right => k_is)
    (case k1_fixed_right => k_is)
    (case k2_fixed_right => k_is)
    (case a_law => k_is)
    (case l_law => k_is)
    (case k1_law => k_is)
    (case k2_law => k_is)
    (case pgA => k_is)
    (case hdA => k_is)
    (case poA => k_is)
    (case saA => k_is)
    (case mkA_ => k_is)
    (case kcA => k_is)
    (case ca_ => k_is)
    (case cn_ => k_is)
    (case ct_ => k_is)
    (case cm_ => k_is)
    (case ic_ => k_is)
    (case it_ => k_is)
    (case sb_NoneType => k_is)
    (case sb_bool => k_is)
    (case sb_int => k_is)
    (case sb_str => k_is)
    (case sb_list => k_is)
    (case sb_tuple => k_is)
    (case sb_dict => k_is)
    (case let_ => k_is)
    (case long_ => k_is)
    (case nsq_ => k_is)
    (case nAPi => k_is)
    (case nANm => k_is)
    (case nANo => k_is)
    (case nANe => k_is)
    (case fg_ => k_is)
    (case cr1_ => k_is)
    (case cr2_ => k_is)
    (case cne_ => k_is)
    (case kn_NODES => k_is)
    (case kg_NODES => k_is)
    (case vn_NODES => k_is)
    (case kn_PIPES => k_is)
    (case kg_PIPES => k_is)
    (case vn_PIPES => k_is)
    (case z_len => k_is)
    (case z_abs => k_is)
    (case z_max => k_is)
    (case z_min => k_is)
    (case z_int => k_is)
    (case z_divmod => k_is)
    (case z_all => k_is)
    (case z_any => k_is)
    (case z_repr => k_is)
    (case z_isinstance => k_is)
    (case z_range => k_is)
    (case z_enumerate => k_is)
    (case z_str => k_is)
    (case z_list => k_is)
    (case z_tuple => k_is)
    (case z_dict => k_is)
    (case z_set => k_is)
    (case z_sorted => k_is)
    (case z_iter => k_is)
    (case z_zip => k_is)
#print axioms PySem.Challenge.cw_surepipes_k20_nets_made_and_asked_holds

